import Derived.Test.YtmfakcfmkmppfaaGreatDoorVAF
import Derived.Deep.Quiet
namespace Go.Proofs.YtmfakcfmkmppfaaGreatDoor
open Go.RowKit Go.Shelf
def zg6 (l:List UInt8) (j:Nat):Nat:=
 if (zbx l (j+1) []).2.2=33/\kl l (zbx l (j+1) []).2.1=1 then 32
 else if (zbx l (j+1) []).2.2=0/\256 < (zbx l (j+1) []).1.length then 37 else (zbx l (j+1) []).2.2
def zhm (l:List UInt8) (j:Nat):Nat:=if (zbx l (j+1) []).2.2=0/\256 < (zbx l (j+1) []).1.length then j else (zbx l (j+1) []).2.1
theorem insS_e (l:List UInt8):∀ (m j:Nat) (s:List UInt8),l.length - j<=m->(zbx l j s).2.2 < 100:=by
 intro m
 induction m with
 | zero=>
  intro j s h;rw [zbx,if_neg (by omega)];simp
 | succ m ih=>
  intro j s h;rw [zbx]
  by_cases h1:j < l.length
  ·rw [if_pos h1]
   repeat' split
   all_goals first
    | (simp;done)
    | (refine ih _ _ ?_;have:=zb8 l j;omega)
  ·rw [if_neg h1];simp
theorem addG (g m:Nat):(⟨g,0,none⟩:Addr).add m=⟨g,m,none⟩:=by unfold Addr.add;split <;> simp_all
set_option maxRecDepth 100000 in
set_option maxHeartbeats 1000000 in
theorem zha {X:MX} (hC:MC X) {W:World} {now line head:Nat} {v:Value} {D:List Tok} (h:MS X W now now line head v D) {j:Nat} (hj:AT X.l now j) (hjl:j < X.l.length) (hb:bt X.l j=34) :
  Calls Tryz.prog 156 #[.pointer (some ⟨X.b,0,none⟩)] W fun e w'=>e=.returned (.int .i64 (zg6 X.l j:Int))/\∃ k,AT X.l k (zhm X.l j)/\zhm X.l j<=X.l.length/\MS X w' k now line head v D:=by
 have hM:Hid (MS X W now now line head v D):=h;have hc1:=h.c1;have hc2:=h.c2;have hj1:=hj.asc hjl (by omega);have hlen:=hC.len;have hle:=hj.le;have hlt:=hj.lt;have HP:Hid (∀ W',MS X W' now now line head v D->Calls Tryz.prog 162 #[.slice (some ⟨X.g,0,none⟩) (zak X.l 0).length X.cap,.int .i64 ((now:Int)+1)] W' fun e w'=>pcR2 X.l (j+1) W' e w'):=fun W' h'=>by
  rw [show (now:Int)+1=((now+1:Nat):Int) by omega];exact zp9 X.l (now+1) (j+1) ⟨X.g,0,none⟩ X.cap W' hlen (by omega) hj1 hC.capN (fun k c hc=>by
   rw [addG,addG];exact ⟨(cell_of_row W' X.g _ _ _ _ h'.gk).trans (hC.gcc k c hc).1,(cell_of_row W' X.g _ _ _ _ h'.gk).trans (hC.gcc k c hc).2⟩) (hC.sh.below h'.bel)
 have HK:Hid (∀ (W':World) (k:Nat),AT X.l k (zbx X.l (j+1) []).2.1->MS X W' k now line head v D->Calls Tryz.prog 143 #[.pointer (some ⟨X.b,0,none⟩)] W' fun e w'=>e=.returned (.int .i64 (kl X.l (zbx X.l (j+1) []).2.1:Int))/\MS X w' k now line head v D):=fun W' k hk h'=>zcm hC h' hk;have HQE:Hid (zg6 X.l j=if (zbx X.l (j+1) []).2.2=33/\kl X.l (zbx X.l (j+1) []).2.1=1 then 32 else if (zbx X.l (j+1) []).2.2=0/\256 < (zbx X.l (j+1) []).1.length then 37 else (zbx X.l (j+1) []).2.2):=rfl
 have HQJ:Hid (zhm X.l j=if (zbx X.l (j+1) []).2.2=0/\256 < (zbx X.l (j+1) []).1.length then j else (zbx X.l (j+1) []).2.1):=rfl
 have hee:=insS_e X.l _ (j+1) [] (Nat.le_refl _);rw [HQE.out,HQJ.out];have hCC:Hid (MC X):=hC;have hJ:Hid (AT X.l now j):=hj;unfold pcR2 at HP;have n0:(0:Int)<=(now:Int):=by omega
 have n1:(now:Int)<=16384:=by omega
 obtain ⟨S,hS⟩:=ex ((zbx X.l (j+1) []).1);obtain ⟨A,hA⟩:=ex ((zbx X.l (j+1) []).2.1);obtain ⟨E,hE⟩:=ex ((zbx X.l (j+1) []).2.2);rw [hS,hA,hE] at HP;rw [hA] at HK;rw [hE] at hee;rw [hS,hA,hE];obtain ⟨c,hc⟩:=ex (kl X.l A);rw [hc] at HK ⊢;have hS0:0<=(S.length:Int):=by omega
 obtain ⟨QE,hQE⟩:=ex ((if E=33/\c=1 then 32 else if E=0/\256 < S.length then 37 else E))
 obtain ⟨QJ,hQJ⟩:=ex ((if E=0/\256 < S.length then j else A))
 rw [hQE,hQJ];have HE:Hid ((if E=33/\c=1 then 32 else if E=0/\256 < S.length then 37 else E)=QE):=hQE
 have HJ:Hid ((if E=0/\256 < S.length then j else A)=QJ):=hQJ
 clear h hj hC hj1 hlt HQE HQJ hS hA hE hc hQE hQJ
 go_enter Tryz.func156,Tryz.ntmps156
 go_wp2_with fail
 have hw1:=wrapN now (by omega)
 go_region_held_law (fun W'=>W'.cell? ⟨X.b,1,none⟩=some (.slice (some ⟨X.g,0,none⟩) (zak X.l 0).length X.cap)/\W'.cell? ⟨X.b,2,none⟩=some (.int .i64 (now:Int))) (first | exact ⟨hc1,hc2⟩ | exact ⟨m1.c1,m1.c2⟩) ((go_at_call 162;refine (HP.out _ (MS.drew hM.out)).mono ?_;rintro e w1 ⟨vq,kq,rfl,hk,hAl,hoq,hbq⟩;have m1:=(MS.drew hM.out).below hbq))
 all_goals
  clear hw1 hc1 hc2;obtain ⟨ad2,c2,rfl⟩:=zjk hoq;have m2:=m1.setNow hCC.out kq (z:=(kq:Int)) rfl;have d2:=m1.c2;have d3:=m1.c3;have z2:=m1.fz 2;have HAT:Hid (AT X.l kq A):=hk;clear hk hoq hbq HP
  by_cases e33:E=33
  ·subst e33
   have hCl:=HK.out _ kq HAT.out m2;have hj':A=QJ:=by rw [<-HJ.out];simp
   subst hj'
   by_cases c1:c=1
   ·subst c1
    have he':32=QE:=by rw [<-HE.out];simp
    subst he'
    go_wp2_with fail
    refine hCl.mono ?_;rintro e w3 ⟨rfl,m3⟩
    go_wp2_with fail
    go_ret
    exact ⟨rfl,kq,HAT.out,hAl,m3⟩
   ·have he':33=QE:=by rw [<-HE.out];simp [c1]
    subst he';have e1:((c:Int)==1)=false:=by rw [beq_eq_false_iff_ne];omega
    go_wp2_with fail
    refine hCl.mono ?_;rintro e w3 ⟨rfl,m3⟩
    go_wp2_with fail
    go_ret
    exact ⟨rfl,kq,HAT.out,hAl,m3⟩
  ·have e3:((E:Int)==33)=false:=by rw [beq_eq_false_iff_ne];omega
   by_cases e00:E=0
   ·subst e00
    by_cases h256:256 < S.length
    ·have he':37=QE:=by rw [<-HE.out];simp [h256]
     have hj':j=QJ:=by rw [<-HJ.out];simp [h256]
     subst he' hj';have i1:(256:Int) < (S.length:Int):=by omega
     have d3':=m2.c3;have d2':=m2.c2;have z2':=m2.fz 2
     go_wp2_with fail
     go_ret
     exact ⟨rfl,now,hJ.out,Nat.le_of_lt hjl,m2.setNow hCC.out now rfl⟩
    ·have he':0=QE:=by rw [<-HE.out];simp [h256]
     have hj':A=QJ:=by rw [<-HJ.out];simp [h256]
     subst he' hj';have i1:¬(256:Int) < (S.length:Int):=by omega
     go_wp2_with fail
     go_ret
     first | exact ⟨rfl,kq,HAT.out,hAl,m2⟩ | exact ⟨rfl,kq,HAT.out,m2⟩
   ·have he':E=QE:=by rw [<-HE.out];simp [e33,e00]
    have hj':A=QJ:=by rw [<-HJ.out];simp [e00]
    subst he' hj';have e0:((E:Int)==0)=false:=by rw [beq_eq_false_iff_ne];omega
    go_wp2_with fail
    go_ret
    first | exact ⟨rfl,kq,HAT.out,hAl,m2⟩ | exact ⟨rfl,kq,HAT.out,m2⟩
theorem zev {l:List UInt8} {j:Nat} (h0:kl l j≠0) (h9:kl l j≠9):j < l.length/\bt l j < 128:=by
 have h:0<=chr l j/\chr l j < 128:=by
  have hr:=zg2 l j;unfold kl cls at h0 h9
  repeat' split at h0
  all_goals first | omega | (simp_all;done) | (simp_all;omega)
 obtain ⟨x,hx⟩:∃ x:Nat,chr l j=(x:Int):=⟨(chr l j).toNat,by omega⟩;have:=(zbs l j x (by omega)).1 hx;omega
theorem zca {l:List UInt8} {j:Nat} (h:inW l j=true):j < l.length/\bt l j < 128:=by
 have:kl l j=3∨kl l j=4:=by unfold inW at h;simpa using h
 exact zev (by omega) (by omega)
theorem zd2 {l:List UInt8} {j c:Nat} (h:zcl l j c=true):j < l.length/\bt l j < 128:=by
 have:kl l j=5/\kl l (j+1)=c:=by unfold zcl at h;simpa using h
 exact zev (by omega) (by omega)
def za8 (l:List UInt8) (j:Nat):Nat:=if h:inW l j=true then za8 l (j+1) else j
termination_by l.length - j
decreasing_by
 have:=(zca h).1;omega
theorem zbd {l:List UInt8} {j:Nat} (h:inW l j=true):za8 l j=za8 l (j+1):=by rw [za8,dif_pos h]
theorem zcj {l:List UInt8} {j:Nat} (h:inW l j=false):za8 l j=j:=by rw [za8,dif_neg (by simp [h])]
def zg8 (l:List UInt8) (j:Nat):Nat:=if h:(inW l j || zcl l j 4)=true then zg8 l (j+1) else j
termination_by l.length - j
decreasing_by
 have:j < l.length:=by
  rcases Bool.or_eq_true_iff.1 h with h | h
  ·exact (zca h).1
  ·exact (zd2 h).1
 omega
theorem zdx {l:List UInt8} {j:Nat} (h:(inW l j || zcl l j 4)=true):zg8 l j=zg8 l (j+1):=by rw [zg8,dif_pos h]
theorem zfe {l:List UInt8} {j:Nat} (h:(inW l j || zcl l j 4)=false):zg8 l j=j:=by rw [zg8,dif_neg (by simp [h])]
def zek (lab:Nat) (l:List UInt8) (j:Nat):Nat×Nat:=
 if lab=0 then (if zcl l (za8 l (j+1)) 3=true then (3,za8 l (za8 l (j+1)+1)) else (2,za8 l (j+1)))
 else if lab=4 then (3,za8 l (j+1)) else if lab=1 then (4,zg8 l (j+1)) else if lab=2 then (5,za8 l (j+1)) else (6,zhm l j)
def za7 (l:List UInt8) (j:Nat):Nat×Nat:=
 if kl l j=3 then zek 0 l j else if kl l j=4 then zek 1 l j else if kl l j=6 then zek 2 l j else if kl l j=7 then zek 3 l j else (7,j+sgn (l.drop j))
def zcy (l:List UInt8) (j:Nat):Nat:=if kl l j=7/\zg6 l j≠0 then zg6 l j else zbq (za7 l j).1 (zbw l j (za7 l j).2)
def zdv (l:List UInt8) (j:Nat):Nat:=if kl l j=7/\zg6 l j≠0 then zhm l j else if zbq (za7 l j).1 (zbw l j (za7 l j).2)=0 then (za7 l j).2 else j
def zjg (X:MX) (now line head j:Nat) (D:List Tok) (e:Ending) (w':World):Prop:=
 e=.returned (.int .i64 (zcy X.l j:Int))/\∃ now' v',AT X.l now' (zdv X.l j)/\MS X w' now' now line head v' (if zcy X.l j=0 then D++[((za7 X.l j).1,zbw X.l j (za7 X.l j).2,line,now - head+1)] else D)
theorem zkw (r:List UInt8):sgn r<=r.length/\(∀ k,k < sgn r->∃ c,r[k]?=some c/\c.toNat < 128):=by
 unfold sgn;cases hf:zdq.find? (fun s=>Lib.hasPrefix r s) with
 | none=>simp
 | some z=>
  have hz:=List.find?_some hf;have hm:=List.mem_of_find?_eq_some hf;unfold Lib.hasPrefix at hz;rw [List.isPrefixOf_iff_prefix] at hz;obtain ⟨t,ht⟩:=hz;have hall:∀ s∈zdq,∀ c∈s,c.toNat < 128:=by decide
  simp only [Option.map_some,Option.getD_some];refine ⟨by rw [<-ht];simp,fun k hk=>?_⟩;refine ⟨z[k],by rw [<-ht,List.getElem?_append_left hk,List.getElem?_eq_getElem hk],hall z hm _ (List.getElem_mem hk)⟩
theorem at_run {l:List UInt8}:∀ (n now j:Nat),AT l now j->(∀ k,k < n->j+k < l.length/\bt l (j+k) < 128)->AT l (now+n) (j+n)
 | 0,_,_,h,_=>h
 | n+1,now,j,h,hk=>by
  have h1:=h.asc (hk 0 (by omega)).1 (hk 0 (by omega)).2;have:=at_run n (now+1) (j+1) h1 (fun k hk'=>by
   have:=hk (k+1) (by omega);rw [show j+1+k=j+(k+1) by omega];exact this)
  rw [show now+(n+1)=now+1+n by omega,show j+(n+1)=j+1+n by omega];exact this
theorem at_sgn {l:List UInt8} {now j:Nat} (h:AT l now j) (hj:j<=l.length):AT l (now+sgn (l.drop j)) (j+sgn (l.drop j))/\j+sgn (l.drop j)<=l.length:=by
 obtain ⟨h1,h2⟩:=zkw (l.drop j);rw [List.length_drop] at h1;refine ⟨at_run _ _ _ h (fun k hk=>?_),by omega⟩;obtain ⟨c,hc,hlt⟩:=h2 k hk;rw [List.getElem?_drop] at hc;exact ⟨by omega,by rw [zdh hc];exact hlt⟩
def zfl (X:MX) (W:World):Nat:=(zak X.l 0).length - (intOf ((W.cell? ⟨X.b,2,none⟩).getD undef)).toNat
theorem za5 {X:MX} {W:World} {now fst line head:Nat} {v:Value} {D:List Tok} (h:MS X W now fst line head v D):zfl X W=(zak X.l 0).length - now:=by
 unfold zfl;rw [h.c2];simp [intOf]
theorem kl0 {l:List UInt8} {j:Nat}:kl l j=0↔¬j < l.length:=by
 unfold kl cls
 by_cases h:j < l.length
 ·have:chr l j≠-2:=by unfold chr;rw [if_pos h];split <;> omega
  rw [if_neg this];constructor
  ·intro h2
   repeat' split at h2
   all_goals omega
  ·intro h2;exact absurd h h2
 ·have:chr l j=-2:=by unfold chr;rw [if_neg h]
  rw [if_pos this];simp [h]
def zrs (l:List UInt8) (j:Nat):Nat:=if _h:j < l.length then (if kl l j=1 then j else zrs l (j+(dc l j).2)) else j
termination_by l.length - j
decreasing_by
 have:=zb8 l j;omega
theorem zi0 {l:List UInt8} {j:Nat} (h:kl l j=1∨kl l j=0):zrs l j=j:=by
 rw [zrs]
 split
 ·rename_i hj
  rcases h with h | h
  ·rw [if_pos h]
  ·exact absurd hj (kl0.1 h)
 ·rfl
theorem zlq {l:List UInt8} {j:Nat} (h1:kl l j≠1) (h0:kl l j≠0):zrs l j=zrs l (j+(dc l j).2):=by
 rw [zrs];have hj:j < l.length:=Classical.byContradiction (fun h=>h0 (kl0.2 h));rw [dif_pos hj,if_neg h1]
abbrev Res:=List Tok×Nat×Nat×Nat
def zeo:Nat->List UInt8->Nat->Nat->Nat->List Tok->Res
 | 0,_,_,_,_,D=>(D,0,0,0)
 | f+1,l,j,line,hb,D=>
  if kl l j=2 then zeo f l (j+1) line hb D
  else if kl l j=8∨kl l j=1∨kl l j=0 then
   let e:=if kl l j=8 then zrs l (j+1) else j
   let D':=zlm D line (ci l e - ci l hb+1)
   if kl l e=0 then (D',0,0,0) else zeo f l (e+1) (line+1) (e+1) D'
  else if zcy l j=0 then zeo f l (zdv l j) line hb (D++[((za7 l j).1,zbw l j (za7 l j).2,line,ci l j - ci l hb+1)])
  else ([],zcy l j,line,ci l (zdv l j) - ci l hb+1)
def zdu (f:Nat) (l:List UInt8) (e line hb:Nat) (D:List Tok):Res:=
 if kl l e=0 then (zlm D line (ci l e - ci l hb+1),0,0,0) else zeo f l (e+1) (line+1) (e+1) (zlm D line (ci l e - ci l hb+1))
theorem zfa {f:Nat} {l:List UInt8} {j line hb:Nat} {D:List Tok} (h:kl l j=2):zeo (f+1) l j line hb D=zeo f l (j+1) line hb D:=by rw [zeo,if_pos h]
theorem zgg {f:Nat} {l:List UInt8} {j line hb:Nat} {D:List Tok} (h:kl l j=8):zeo (f+1) l j line hb D=zdu f l (zrs l (j+1)) line hb D:=by
 rw [zeo,if_neg (by omega),if_pos (.inl h),if_pos h];rfl
theorem zeq {f:Nat} {l:List UInt8} {j line hb:Nat} {D:List Tok} (h:kl l j=1∨kl l j=0):zeo (f+1) l j line hb D=zdu f l j line hb D:=by
 have h8:¬kl l j=8:=by omega
 rw [zeo,if_neg (by omega),if_pos (.inr h)];simp only [if_neg h8];rfl
theorem zfx {f:Nat} {l:List UInt8} {j line hb:Nat} {D:List Tok} (h2:kl l j≠2) (h8:kl l j≠8) (h1:kl l j≠1) (h0:kl l j≠0) (he:zcy l j=0):zeo (f+1) l j line hb D=zeo f l (zdv l j) line hb (D++[((za7 l j).1,zbw l j (za7 l j).2,line,ci l j - ci l hb+1)]):=by
 rw [zeo,if_neg h2,if_neg (by omega),if_pos he]
theorem zib {f:Nat} {l:List UInt8} {j line hb:Nat} {D:List Tok} (h2:kl l j≠2) (h8:kl l j≠8) (h1:kl l j≠1) (h0:kl l j≠0) (he:zcy l j≠0):zeo (f+1) l j line hb D=([],zcy l j,line,ci l (zdv l j) - ci l hb+1):=by
 rw [zeo,if_neg h2,if_neg (by omega),if_neg he]
theorem zm4 (l:List UInt8):∀ (m j:Nat),l.length - j<=m->j<=l.length->∀ c∈zak l j,j<=c.2
 | m,j,hm,hj=>by
  intro c hc
  by_cases h:j < l.length
  ·have hp:=zb8 l j
   have hl:=ziw l j h
   match m,hm with
   | 0,hm=>omega
   | m+1,hm=>
    rw [zcq h] at hc;rcases List.mem_cons.1 hc with e | e
    ·rw [e];exact Nat.le_refl _
    ·have:=zm4 l m (j+(dc l j).2) (by omega) hl c e
     omega
  ·rw [zco h] at hc
   rw [List.mem_singleton.1 hc];exact hj
theorem zr1 {l:List UInt8} {n m i j:Nat} (h1:AT l n i) (h2:AT l m j) (hij:i < j) (hj:j<=l.length):n < m:=by
 refine Classical.byContradiction (fun hc=>?_);have h3:(zak l j).drop (n - m)=zak l i:=by
  rw [<-h2,List.drop_drop,show m+(n - m)=n by omega];exact h1
 have h4:((chr l i,i):Int×Nat)∈zak l j:=by
  obtain ⟨r,hr⟩:=zbp l i;rw [if_pos (by omega)] at hr;rw [hr] at h3;exact List.mem_of_mem_drop (by rw [h3];exact List.mem_cons_self)
 have:=zm4 l _ j (Nat.le_refl _) hj _ h4;simp only at this;omega
theorem zdp (l:List UInt8):∀ (m j:Nat),l.length - j<=m->j<=za8 l j/\(j<=l.length->za8 l j<=l.length)
 | m,j,hm=>by
  cases h:inW l j with
  | false=>rw [zcj h];exact ⟨Nat.le_refl _,fun h=>h⟩
  | true=>
   have hj:=(zca h).1
   match m,hm with
   | 0,hm=>omega
   | m+1,hm=>
    have:=zdp l m (j+1) (by omega);rw [zbd h];exact ⟨by omega,fun _=>this.2 (by omega)⟩
theorem zqo (l:List UInt8):∀ (m j:Nat),l.length - j<=m->j<=zg8 l j/\(j<=l.length->zg8 l j<=l.length)
 | m,j,hm=>by
  cases h:(inW l j || zcl l j 4) with
  | false=>rw [zfe h];exact ⟨Nat.le_refl _,fun h=>h⟩
  | true=>
   have hj:j < l.length:=by
    rcases Bool.or_eq_true_iff.1 h with h | h
    ·exact (zca h).1
    ·exact (zd2 h).1
   match m,hm with
   | 0,hm=>omega
   | m+1,hm=>
    have:=zqo l m (j+1) (by omega);rw [zdx h];exact ⟨by omega,fun _=>this.2 (by omega)⟩
end Go.Proofs.YtmfakcfmkmppfaaGreatDoor
namespace Go.Proofs.YtmfakcfmkmppfaaGreatDoor
open Go
def zhd (ops:Array Oper) (n:Nat):Bool:=
 (n+1==ops.size)&&((List.range ops.size).all fun i=>(ops[i]?.map fun o=>o.after.all fun e=>!Region.binds .any e || decide (e.on < i)).getD true)
 && ((List.range n).all fun i=>(List.range ops.size).any fun j=>decide (i < j)&&(ops[j]?.map fun o=>o.after.any fun e=>Region.binds .any e&&e.on==i).getD false)
section
variable {P:Program} {ops:Array Oper} {C:World->Prop} {n:Nat}
theorem zff (h:zhd ops n=true):n+1=ops.size:=by
 unfold zhd at h;simp only [Bool.and_eq_true,beq_iff_eq] at h;exact h.1.1
theorem zdy (h:zhd ops n=true) {i:Nat} {o:Oper} (ho:ops[i]?=some o):∀ e∈o.after,Region.binds .any e=true->e.on < i:=by
 unfold zhd at h;simp only [Bool.and_eq_true,List.all_eq_true,List.mem_range] at h;have hi:i < ops.size:=(Array.getElem?_eq_some_iff.1 ho).1;have:=h.1.2 i hi;rw [ho] at this;simp only [Option.map_some,Option.getD_some,Array.all_eq_true_iff_forall_mem] at this;intro e he hb;have:=this e he
 simpa [hb] using this
theorem zn6 (h:zhd ops n=true) {i:Nat} (hi:i < n):∃ j o e,i < j/\j<=n/\ops[j]?=some o/\e∈o.after/\Region.binds .any e=true/\e.on=i:=by
 have hs:=zff h;unfold zhd at h;simp only [Bool.and_eq_true,List.all_eq_true,List.mem_range] at h;obtain ⟨j,hj,hj2⟩:=List.any_eq_true.1 (h.2 i hi);rw [List.mem_range] at hj;simp only [Bool.and_eq_true,decide_eq_true_eq] at hj2;obtain ⟨hij,hj3⟩:=hj2;cases ho:ops[j]? with
 | none=>rw [ho] at hj3;simp at hj3
 | some o=>
  rw [ho] at hj3;simp only [Option.map_some,Option.getD_some] at hj3;obtain ⟨e,he,hb⟩:=Array.any_eq_true'.1 hj3;simp only [Bool.and_eq_true,beq_iff_eq] at hb;exact ⟨j,o,e,hij,by omega,ho,he,hb.1,hb.2⟩
def DCL (ops:Array Oper) (listed:Array Bool):Prop:=∀ i o,ops[i]?=some o->listed.getD i false=true->∀ e∈o.after,Region.binds .any e=true->listed.getD e.on false=true
theorem zrd {listed:Array Bool} {i:Nat} (hs:i < listed.size):listed.getD i true=listed.getD i false:=by simp [hs]
theorem zfr (h:zhd ops n=true) {listed:Array Bool} (hd:DCL ops listed) (hn:n∈Region.ready .any ops listed):∀ (d i:Nat),n - i<=d->i < n->listed.getD i false=true
 | 0,i,hd0,hi=>by omega
 | d+1,i,hd0,hi=>by
  obtain ⟨j,o,e,hij,hjn,ho,he,hb,rfl⟩:=zn6 h hi
  by_cases hj:j=n
  ·subst hj
   obtain ⟨_,o',ho',hall⟩:=mem_ready.1 hn;obtain rfl:=Option.some.inj (ho.symm.trans ho');exact hall e he hb
  ·exact hd j o ho (zfr h hd hn d j (by omega) (by omega)) e he hb
theorem zhz (h:zhd ops n=true) {listed:Array Bool} (hs:listed.size=ops.size) (hr:Region.ready .any ops listed=[]):∀ i,i < ops.size->listed.getD i false=true:=by
 intro i
 induction i using Nat.strongRecOn with
 | _ i ih=>
  intro hi;refine Classical.byContradiction (fun hc=>?_);have:i∈Region.ready .any ops listed:=by
   refine mem_ready.2 ⟨by rw [zrd (by omega)];simpa using hc,ops[i],Array.getElem?_eq_getElem hi,fun e he hb=>?_⟩;have:=zdy h (Array.getElem?_eq_getElem hi) e he hb;exact ih _ this (by omega)
  rw [hr] at this;cases this
theorem zn4 {listed:Array Bool} (hs:listed.size=ops.size) (ha:∀ i,i < ops.size->listed.getD i false=true):Region.ready .any ops listed=[]:=by
 refine List.eq_nil_iff_forall_not_mem.2 (fun i hi=>?_);obtain ⟨h0,o,ho,_⟩:=mem_ready.1 hi;have hlt:i < ops.size:=(Array.getElem?_eq_some_iff.1 ho).1;rw [zrd (by omega),ha i hlt] at h0;cases h0
theorem zmu {listed:Array Bool} {i:Nat} (hs:i < listed.size) (d:Bool):(listed.setIfInBounds i true).getD i d=true:=by simp [hs]
theorem zh3 (h:zhd ops n=true) {Q':Exit->Act->World->Prop}:∀ (fuel:Nat) (listed:Array Bool) (a:Act) (w:World),listed.size=ops.size->C w->listed.getD n true=false->DCL ops listed->
  wpAnyQ P .any ops C (fun a'=>∀ w',C w'->wpOp P ops Q' n (Q' .normal) a' w') fuel (listed.setIfInBounds n true) a->wpAny P .any ops Q' (fuel+1) listed a w:=by
 have hsz:=zff h;intro fuel
 induction fuel with
 | zero=>
  intro listed a w hs hw hn hd hq;have hall:=zhz h (listed:=listed.setIfInBounds n true) (by simpa using hs) hq.1;have hothers:∀ i,i < n->listed.getD i false=true:=fun i hi=>by
   have:=hall i (by omega);rw [getD_set_ne false (by omega)] at this;exact this
  refine ⟨fun h0=>?_,fun i hi=>?_⟩
  ·have:n∈Region.ready .any ops listed:=mem_ready.2 ⟨hn,ops[n]'(by omega),Array.getElem?_eq_getElem _,fun e he hb=>hothers _ (zdy h (Array.getElem?_eq_getElem (by omega)) e he hb)⟩
   rw [h0] at this;cases this
  ·obtain ⟨h0,o,ho,_⟩:=mem_ready.1 hi
   have hlt:i < ops.size:=(Array.getElem?_eq_some_iff.1 ho).1;have hin:i=n:=by
    refine Classical.byContradiction (fun hne=>?_);rw [zrd (by omega),hothers i (by omega)] at h0;cases h0
   subst hin;exact wpOp_mono (fun a' w' hQ=>⟨hq.1,hQ⟩) (hq.2 w hw)
 | succ fuel ih=>
  intro listed a w hs hw hn hd hq;refine ⟨fun h0=>?_,fun i hi=>?_⟩
  ·exfalso
   have hr:Region.ready .any ops (listed.setIfInBounds n true)=[]:=by
    refine List.eq_nil_iff_forall_not_mem.2 (fun i hi=>?_);obtain ⟨h1,o,ho,hall⟩:=mem_ready.1 hi;have hne:n≠i:=fun e=>by
     subst e;rw [zmu (by omega)] at h1;cases h1
    have hlt:i < ops.size:=(Array.getElem?_eq_some_iff.1 ho).1;have:i∈Region.ready .any ops listed:=mem_ready.2 ⟨by rw [getD_set_ne true hne] at h1;exact h1,o,ho,fun e he hb=>by
     have h2:=hall e he hb;have h3:=zdy h ho e he hb;rw [getD_set_ne false (by omega)] at h2;exact h2⟩
    rw [h0] at this;cases this
   have hall:=zhz h (listed:=listed.setIfInBounds n true) (by simpa using hs) hr;have:n∈Region.ready .any ops listed:=mem_ready.2 ⟨hn,ops[n]'(by omega),Array.getElem?_eq_getElem _,fun e he hb=>by
    have h3:=zdy h (Array.getElem?_eq_getElem (by omega)) e he hb;have:=hall e.on (by omega);rw [getD_set_ne false (by omega)] at this;exact this⟩
   rw [h0] at this;cases this
  ·by_cases hin:i=n
   ·subst hin
    have ha:=fun (k:Nat) (hk:k < i)=>zfr h hd hi i k (by omega) hk;have hr:Region.ready .any ops (listed.setIfInBounds i true)=[]:=zn4 (by simpa using hs) (fun k hk=>by
     by_cases hk2:k=i
     ·subst hk2;exact zmu (by omega) _
     ·rw [getD_set_ne false (fun e=>hk2 e.symm)];exact ha k (by omega))
    refine wpOp_mono (fun a' w' hQ=>⟨fun _=>hQ,fun j hj=>?_⟩) (hq.1 hr w hw);rw [hr] at hj;cases hj
   ·have hq2:=hq.2 i (ready_mono hi hin)
    refine wpOp_of_qOp hw (fun a' w' hw' hK=>ih (listed.setIfInBounds i true) a' w' (by simpa using hs) hw' ?_ ?_ ?_) hq2
    ·rw [getD_set_ne true hin];exact hn
    ·intro k o ho hk e he hb
     by_cases hki:k=i
     ·subst hki
      obtain ⟨_,o',ho',hall⟩:=mem_ready.1 hi;obtain rfl:=Option.some.inj (ho.symm.trans ho');exact getD_set_true (hall e he hb)
     ·rw [getD_set_ne false (fun x=>hki x.symm)] at hk
      exact getD_set_true (hd k o ho hk e he hb)
    ·rw [Array.setIfInBounds_comm _ _ hin]
     exact hK
theorem lex_part {Q:Act->Prop} (hs:Region.noSelect ops=true):∀ (l:List Oper) (k:Nat) (listed:Array Bool) (a:Act),(∀ j,j < l.length->l[j]?=ops[k+j]?)->
  Region.lexFrom .any ops l.length k listed=true->wpQuiet P ops C Q l a->wpAnyQ P .any ops C Q l.length listed a:=by
 intro l
 induction l with
 | nil=>intro k listed a _ hB h;exact ⟨by simpa [Region.lexFrom] using hB,h⟩
 | cons o l ih=>
  intro k listed a hl hB h;have h0:ops[k]?=some o:=by
   have:=hl 0 (by simp)
   simpa using this.symm
  simp only [List.length_cons,Region.lexFrom,Bool.and_eq_true] at hB;obtain ⟨⟨hr,hf⟩,hB'⟩:=hB;have hst:qOp P ops C k (wpQuiet P ops C Q l) a:=by unfold qOp;simp only [h0];exact h
  obtain ⟨v,hy,hK⟩:=yieldsIn_of_qOp h0 hst;refine wpAnyQ_first h0 (Region.noSelect_spec hs) l.length listed a (Region.free_spec h0 hf) (by simpa using hr) hy (ih (k+1) _ _ (fun j hj=>?_) hB' hK);have:=hl (j+1) (by simp;omega);rw [show k+1+j=k+(j+1) by omega,<-this];simp
end
theorem zns {P:Program} {id:Nat} {Q:Exit->Act->World->Prop} {a:Act} {w:World} {l:List Oper} {C:World->Prop} (hm:P.follows .mixedOrders=true) (h1:Region.noSelect l.toArray=true) (h2:zhd l.toArray l.dropLast.length=true)
  (h3:Region.lexFrom .any l.toArray l.dropLast.length 0 ((Array.replicate l.toArray.size false).setIfInBounds l.dropLast.length true)=true) (hC:C w.drew)
  (h:wpQuiet P l.toArray C (fun a'=>∀ w',C w'->wpOp P l.toArray Q l.dropLast.length (Q .normal) a' w') l.dropLast a):(Code.region id l.toArray true).wp P Q a w:=by
 have hsz:=zff h2;refine wp_region_any hm ?_;rw [<-hsz];have hsl:l.dropLast.length < l.length:=by simpa using (by rw [<-hsz];omega:l.dropLast.length < l.toArray.size)
 refine zh3 (C:=C) h2 l.dropLast.length (Array.replicate (l.dropLast.length+1) false) a _ (by simpa using hsz) hC (by simp) (fun i o _ hi=>?_) ?_
 ·have h0:(Array.replicate (l.dropLast.length+1) false).getD i false=false:=by unfold Array.getD;split <;> simp
  rw [h0] at hi;cases hi
 ·rw [hsz]
  exact lex_part h1 l.dropLast 0 _ a (fun j hj=>by simp [List.getElem?_dropLast] ;omega) h3 h
end Go.Proofs.YtmfakcfmkmppfaaGreatDoor
namespace Go.Proofs.YtmfakcfmkmppfaaGreatDoor
open Go.RowKit Go.Shelf
set_option maxRecDepth 100000 in
theorem zg4 (u:Array Value) (h:u.size=105):∃ u0 u1 u2 u3 u4 u5 u6 u7 u8 u9 u10 u11 u12 u13 u14 u15 u16 u17 u18 u19 u20 u21 u22 u23 u24 u25 u26 u27 u28 u29 u30 u31 u32 u33 u34 u35 u36 u37 u38 u39 u40 u41 u42 u43 u44 u45 u46 u47 u48 u49 u50 u51 u52 u53 u54 u55 u56 u57 u58 u59 u60 u61 u62 u63 u64 u65 u66 u67 u68 u69 u70 u71 u72 u73 u74 u75 u76 u77 u78 u79 u80 u81 u82 u83 u84 u85 u86 u87 u88 u89 u90 u91 u92 u93 u94 u95 u96 u97 u98 u99 u100 u101 u102 u103 u104,u=#[u0,u1,u2,u3,u4,u5,u6,u7,u8,u9,u10,u11,u12,u13,u14,u15,u16,u17,u18,u19,u20,u21,u22,u23,u24,u25,u26,u27,u28,u29,u30,u31,u32,u33,u34,u35,u36,u37,u38,u39,u40,u41,u42,u43,u44,u45,u46,u47,u48,u49,u50,u51,u52,u53,u54,u55,u56,u57,u58,u59,u60,u61,u62,u63,u64,u65,u66,u67,u68,u69,u70,u71,u72,u73,u74,u75,u76,u77,u78,u79,u80,u81,u82,u83,u84,u85,u86,u87,u88,u89,u90,u91,u92,u93,u94,u95,u96,u97,u98,u99,u100,u101,u102,u103,u104]:=by
 obtain ⟨l⟩:=u;have h':l.length=105:=by simpa using h
 obtain ⟨u0,r0,rfl,h0⟩:=zad h';obtain ⟨u1,r1,rfl,h1⟩:=zad h0;obtain ⟨u2,r2,rfl,h2⟩:=zad h1;obtain ⟨u3,r3,rfl,h3⟩:=zad h2;obtain ⟨u4,r4,rfl,h4⟩:=zad h3;obtain ⟨u5,r5,rfl,h5⟩:=zad h4;obtain ⟨u6,r6,rfl,h6⟩:=zad h5;obtain ⟨u7,r7,rfl,h7⟩:=zad h6;obtain ⟨u8,r8,rfl,h8⟩:=zad h7;obtain ⟨u9,r9,rfl,h9⟩:=zad h8;obtain ⟨u10,r10,rfl,h10⟩:=zad h9;obtain ⟨u11,r11,rfl,h11⟩:=zad h10;obtain ⟨u12,r12,rfl,h12⟩:=zad h11;obtain ⟨u13,r13,rfl,h13⟩:=zad h12;obtain ⟨u14,r14,rfl,h14⟩:=zad h13;obtain ⟨u15,r15,rfl,h15⟩:=zad h14;obtain ⟨u16,r16,rfl,h16⟩:=zad h15;obtain ⟨u17,r17,rfl,h17⟩:=zad h16;obtain ⟨u18,r18,rfl,h18⟩:=zad h17;obtain ⟨u19,r19,rfl,h19⟩:=zad h18;obtain ⟨u20,r20,rfl,h20⟩:=zad h19;obtain ⟨u21,r21,rfl,h21⟩:=zad h20;obtain ⟨u22,r22,rfl,h22⟩:=zad h21;obtain ⟨u23,r23,rfl,h23⟩:=zad h22;obtain ⟨u24,r24,rfl,h24⟩:=zad h23;obtain ⟨u25,r25,rfl,h25⟩:=zad h24;obtain ⟨u26,r26,rfl,h26⟩:=zad h25;obtain ⟨u27,r27,rfl,h27⟩:=zad h26;obtain ⟨u28,r28,rfl,h28⟩:=zad h27;obtain ⟨u29,r29,rfl,h29⟩:=zad h28;obtain ⟨u30,r30,rfl,h30⟩:=zad h29;obtain ⟨u31,r31,rfl,h31⟩:=zad h30;obtain ⟨u32,r32,rfl,h32⟩:=zad h31;obtain ⟨u33,r33,rfl,h33⟩:=zad h32;obtain ⟨u34,r34,rfl,h34⟩:=zad h33;obtain ⟨u35,r35,rfl,h35⟩:=zad h34;obtain ⟨u36,r36,rfl,h36⟩:=zad h35;obtain ⟨u37,r37,rfl,h37⟩:=zad h36;obtain ⟨u38,r38,rfl,h38⟩:=zad h37;obtain ⟨u39,r39,rfl,h39⟩:=zad h38;obtain ⟨u40,r40,rfl,h40⟩:=zad h39;obtain ⟨u41,r41,rfl,h41⟩:=zad h40;obtain ⟨u42,r42,rfl,h42⟩:=zad h41;obtain ⟨u43,r43,rfl,h43⟩:=zad h42;obtain ⟨u44,r44,rfl,h44⟩:=zad h43;obtain ⟨u45,r45,rfl,h45⟩:=zad h44;obtain ⟨u46,r46,rfl,h46⟩:=zad h45;obtain ⟨u47,r47,rfl,h47⟩:=zad h46;obtain ⟨u48,r48,rfl,h48⟩:=zad h47;obtain ⟨u49,r49,rfl,h49⟩:=zad h48;obtain ⟨u50,r50,rfl,h50⟩:=zad h49;obtain ⟨u51,r51,rfl,h51⟩:=zad h50;obtain ⟨u52,r52,rfl,h52⟩:=zad h51;obtain ⟨u53,r53,rfl,h53⟩:=zad h52;obtain ⟨u54,r54,rfl,h54⟩:=zad h53;obtain ⟨u55,r55,rfl,h55⟩:=zad h54;obtain ⟨u56,r56,rfl,h56⟩:=zad h55;obtain ⟨u57,r57,rfl,h57⟩:=zad h56;obtain ⟨u58,r58,rfl,h58⟩:=zad h57;obtain ⟨u59,r59,rfl,h59⟩:=zad h58;obtain ⟨u60,r60,rfl,h60⟩:=zad h59;obtain ⟨u61,r61,rfl,h61⟩:=zad h60;obtain ⟨u62,r62,rfl,h62⟩:=zad h61;obtain ⟨u63,r63,rfl,h63⟩:=zad h62;obtain ⟨u64,r64,rfl,h64⟩:=zad h63;obtain ⟨u65,r65,rfl,h65⟩:=zad h64;obtain ⟨u66,r66,rfl,h66⟩:=zad h65;obtain ⟨u67,r67,rfl,h67⟩:=zad h66;obtain ⟨u68,r68,rfl,h68⟩:=zad h67;obtain ⟨u69,r69,rfl,h69⟩:=zad h68;obtain ⟨u70,r70,rfl,h70⟩:=zad h69;obtain ⟨u71,r71,rfl,h71⟩:=zad h70;obtain ⟨u72,r72,rfl,h72⟩:=zad h71;obtain ⟨u73,r73,rfl,h73⟩:=zad h72;obtain ⟨u74,r74,rfl,h74⟩:=zad h73;obtain ⟨u75,r75,rfl,h75⟩:=zad h74;obtain ⟨u76,r76,rfl,h76⟩:=zad h75;obtain ⟨u77,r77,rfl,h77⟩:=zad h76;obtain ⟨u78,r78,rfl,h78⟩:=zad h77;obtain ⟨u79,r79,rfl,h79⟩:=zad h78;obtain ⟨u80,r80,rfl,h80⟩:=zad h79;obtain ⟨u81,r81,rfl,h81⟩:=zad h80;obtain ⟨u82,r82,rfl,h82⟩:=zad h81;obtain ⟨u83,r83,rfl,h83⟩:=zad h82;obtain ⟨u84,r84,rfl,h84⟩:=zad h83;obtain ⟨u85,r85,rfl,h85⟩:=zad h84;obtain ⟨u86,r86,rfl,h86⟩:=zad h85;obtain ⟨u87,r87,rfl,h87⟩:=zad h86;obtain ⟨u88,r88,rfl,h88⟩:=zad h87;obtain ⟨u89,r89,rfl,h89⟩:=zad h88;obtain ⟨u90,r90,rfl,h90⟩:=zad h89;obtain ⟨u91,r91,rfl,h91⟩:=zad h90;obtain ⟨u92,r92,rfl,h92⟩:=zad h91;obtain ⟨u93,r93,rfl,h93⟩:=zad h92;obtain ⟨u94,r94,rfl,h94⟩:=zad h93;obtain ⟨u95,r95,rfl,h95⟩:=zad h94;obtain ⟨u96,r96,rfl,h96⟩:=zad h95;obtain ⟨u97,r97,rfl,h97⟩:=zad h96;obtain ⟨u98,r98,rfl,h98⟩:=zad h97;obtain ⟨u99,r99,rfl,h99⟩:=zad h98;obtain ⟨u100,r100,rfl,h100⟩:=zad h99;obtain ⟨u101,r101,rfl,h101⟩:=zad h100;obtain ⟨u102,r102,rfl,h102⟩:=zad h101;obtain ⟨u103,r103,rfl,h103⟩:=zad h102;obtain ⟨u104,r104,rfl,h104⟩:=zad h103;obtain rfl:=List.length_eq_zero_iff.1 h104;exact ⟨u0,u1,u2,u3,u4,u5,u6,u7,u8,u9,u10,u11,u12,u13,u14,u15,u16,u17,u18,u19,u20,u21,u22,u23,u24,u25,u26,u27,u28,u29,u30,u31,u32,u33,u34,u35,u36,u37,u38,u39,u40,u41,u42,u43,u44,u45,u46,u47,u48,u49,u50,u51,u52,u53,u54,u55,u56,u57,u58,u59,u60,u61,u62,u63,u64,u65,u66,u67,u68,u69,u70,u71,u72,u73,u74,u75,u76,u77,u78,u79,u80,u81,u82,u83,u84,u85,u86,u87,u88,u89,u90,u91,u92,u93,u94,u95,u96,u97,u98,u99,u100,u101,u102,u103,u104,rfl⟩

def TF (X:MX) (now0 line head j0:Nat) (D:List Tok) (lab now j:Nat) (v:Value) (wr:World):Prop:=
 (lab=0∨lab=1∨lab=2∨lab=3∨lab=4)/\MS X wr now now0 line head v D/\AT X.l now j/\j0<=j/\j < X.l.length/\bt X.l j < 128/\zek lab X.l j=za7 X.l j0/\(lab=3->j=j0/\now=now0/\bt X.l j=34)/\(lab≠3->kl X.l j0≠7)/\(lab=3->kl X.l j0=7)
def TJ (X:MX) (now0 line head j0:Nat) (D:List Tok) (lab:Nat) (a:Act) (wr:World):Prop:=
 ∃ (now j:Nat) (v:Value) (u:Array Value),a={ tmps:=u,defers:=[] }/\u.size=105/\u.getD 0 undef=.pointer (some ⟨X.b,0,none⟩)/\Hid (TF X now0 line head j0 D lab now j v wr)
theorem zbl {X:MX} {now' now0 line head j0 kind e:Nat} {D:List Tok} {E:Ending} {w':World} (h1:AT X.l now' e) (h0:AT X.l now0 j0) (hk:za7 X.l j0=(kind,e)) (h7:kl X.l j0=7->zg6 X.l j0=0) (h:zo5 X now' now0 line head D kind (zbw X.l j0 e) E w'):zjg X now0 line head j0 D E w':=by
 have hE:zcy X.l j0=zbq kind (zbw X.l j0 e):=by unfold zcy;rw [if_neg (fun x=>x.2 (h7 x.1)),hk]
 have hJ:zdv X.l j0=if zbq kind (zbw X.l j0 e)=0 then e else j0:=by unfold zdv;rw [if_neg (fun x=>x.2 (h7 x.1)),hk]
 obtain ⟨rfl,v',m⟩:=h;unfold zjg;rw [hE,hJ,hk];refine ⟨rfl,(if zbq kind (zbw X.l j0 e)=0 then now' else now0),v',?_,m⟩
 split
 ·exact h1
 ·exact h0
theorem zkt {X:MX} {now0 line head j0 k:Nat} {D:List Tok} {w':World} {v':Value} (h1:AT X.l k (zhm X.l j0)) (h7:kl X.l j0=7) (h0:zg6 X.l j0≠0) (m:MS X w' k now0 line head v' D):zjg X now0 line head j0 D (.returned (.int .i64 (zg6 X.l j0:Int))) w':=by
 have hE:zcy X.l j0=zg6 X.l j0:=by unfold zcy;rw [if_pos ⟨h7,h0⟩]
 have hJ:zdv X.l j0=zhm X.l j0:=by unfold zdv;rw [if_pos ⟨h7,h0⟩]
 unfold zjg;rw [hE,hJ,if_neg h0];exact ⟨rfl,k,v',h1,m⟩
theorem zcf (tmps:Array Value) (W:World):(results Tryz.f144 tmps).run Tryz.prog W=.ok (tmps.getD 2 undef) W:=by
 simp [results,go_sem]
theorem zei (l:List UInt8):∀ (m j:Nat) (s:List UInt8),l.length - j<=m->j<=l.length->j<=(zbx l j s).2.1:=by
 intro m
 induction m with
 | zero=>
  intro j s h hj;rw [zbx,if_neg (by omega)];exact hj
 | succ m ih=>
  intro j s h hj;rw [zbx]
  by_cases h1:j < l.length
  ·rw [if_pos h1]
   split
   ·exact Nat.le_succ _
   ·split
    ·split
     ·exact Nat.le_refl _
     ·rename_i hne
      have:=(zez l j (by omega)).1;have:=ih (j+(zbj l j).1) (s++(zbj l j).2) (by omega) (by omega);omega
    ·split
     ·exact Nat.le_refl _
     ·have hp:=zb8 l j
      have hl:=ziw l j h1;have:=ih (j+(dc l j).2) (s++(l.drop j).take (dc l j).2) (by omega) (by omega);omega
  ·rw [if_neg h1]
   exact hj
theorem zp1 (l:List UInt8) (j:Nat):zg6 l j < 1000:=by
 have:=insS_e l _ (j+1) [] (Nat.le_refl _);unfold zg6
 repeat' split
 all_goals omega
set_option maxRecDepth 100000 in
theorem zr3 (u:Array Value) (h:u.size=67):∃ u0 u1 u2 u3 u4 u5 u6 u7 u8 u9 u10 u11 u12 u13 u14 u15 u16 u17 u18 u19 u20 u21 u22 u23 u24 u25 u26 u27 u28 u29 u30 u31 u32 u33 u34 u35 u36 u37 u38 u39 u40 u41 u42 u43 u44 u45 u46 u47 u48 u49 u50 u51 u52 u53 u54 u55 u56 u57 u58 u59 u60 u61 u62 u63 u64 u65 u66,u=#[u0,u1,u2,u3,u4,u5,u6,u7,u8,u9,u10,u11,u12,u13,u14,u15,u16,u17,u18,u19,u20,u21,u22,u23,u24,u25,u26,u27,u28,u29,u30,u31,u32,u33,u34,u35,u36,u37,u38,u39,u40,u41,u42,u43,u44,u45,u46,u47,u48,u49,u50,u51,u52,u53,u54,u55,u56,u57,u58,u59,u60,u61,u62,u63,u64,u65,u66]:=by
 obtain ⟨l⟩:=u;have h':l.length=67:=by simpa using h
 obtain ⟨u0,r0,rfl,h0⟩:=zad h';obtain ⟨u1,r1,rfl,h1⟩:=zad h0;obtain ⟨u2,r2,rfl,h2⟩:=zad h1;obtain ⟨u3,r3,rfl,h3⟩:=zad h2;obtain ⟨u4,r4,rfl,h4⟩:=zad h3;obtain ⟨u5,r5,rfl,h5⟩:=zad h4;obtain ⟨u6,r6,rfl,h6⟩:=zad h5;obtain ⟨u7,r7,rfl,h7⟩:=zad h6;obtain ⟨u8,r8,rfl,h8⟩:=zad h7;obtain ⟨u9,r9,rfl,h9⟩:=zad h8;obtain ⟨u10,r10,rfl,h10⟩:=zad h9;obtain ⟨u11,r11,rfl,h11⟩:=zad h10;obtain ⟨u12,r12,rfl,h12⟩:=zad h11;obtain ⟨u13,r13,rfl,h13⟩:=zad h12;obtain ⟨u14,r14,rfl,h14⟩:=zad h13;obtain ⟨u15,r15,rfl,h15⟩:=zad h14;obtain ⟨u16,r16,rfl,h16⟩:=zad h15;obtain ⟨u17,r17,rfl,h17⟩:=zad h16;obtain ⟨u18,r18,rfl,h18⟩:=zad h17;obtain ⟨u19,r19,rfl,h19⟩:=zad h18;obtain ⟨u20,r20,rfl,h20⟩:=zad h19;obtain ⟨u21,r21,rfl,h21⟩:=zad h20;obtain ⟨u22,r22,rfl,h22⟩:=zad h21;obtain ⟨u23,r23,rfl,h23⟩:=zad h22;obtain ⟨u24,r24,rfl,h24⟩:=zad h23;obtain ⟨u25,r25,rfl,h25⟩:=zad h24;obtain ⟨u26,r26,rfl,h26⟩:=zad h25;obtain ⟨u27,r27,rfl,h27⟩:=zad h26;obtain ⟨u28,r28,rfl,h28⟩:=zad h27;obtain ⟨u29,r29,rfl,h29⟩:=zad h28;obtain ⟨u30,r30,rfl,h30⟩:=zad h29;obtain ⟨u31,r31,rfl,h31⟩:=zad h30;obtain ⟨u32,r32,rfl,h32⟩:=zad h31;obtain ⟨u33,r33,rfl,h33⟩:=zad h32;obtain ⟨u34,r34,rfl,h34⟩:=zad h33;obtain ⟨u35,r35,rfl,h35⟩:=zad h34;obtain ⟨u36,r36,rfl,h36⟩:=zad h35;obtain ⟨u37,r37,rfl,h37⟩:=zad h36;obtain ⟨u38,r38,rfl,h38⟩:=zad h37;obtain ⟨u39,r39,rfl,h39⟩:=zad h38;obtain ⟨u40,r40,rfl,h40⟩:=zad h39;obtain ⟨u41,r41,rfl,h41⟩:=zad h40;obtain ⟨u42,r42,rfl,h42⟩:=zad h41;obtain ⟨u43,r43,rfl,h43⟩:=zad h42;obtain ⟨u44,r44,rfl,h44⟩:=zad h43;obtain ⟨u45,r45,rfl,h45⟩:=zad h44;obtain ⟨u46,r46,rfl,h46⟩:=zad h45;obtain ⟨u47,r47,rfl,h47⟩:=zad h46;obtain ⟨u48,r48,rfl,h48⟩:=zad h47;obtain ⟨u49,r49,rfl,h49⟩:=zad h48;obtain ⟨u50,r50,rfl,h50⟩:=zad h49;obtain ⟨u51,r51,rfl,h51⟩:=zad h50;obtain ⟨u52,r52,rfl,h52⟩:=zad h51;obtain ⟨u53,r53,rfl,h53⟩:=zad h52;obtain ⟨u54,r54,rfl,h54⟩:=zad h53;obtain ⟨u55,r55,rfl,h55⟩:=zad h54;obtain ⟨u56,r56,rfl,h56⟩:=zad h55;obtain ⟨u57,r57,rfl,h57⟩:=zad h56;obtain ⟨u58,r58,rfl,h58⟩:=zad h57;obtain ⟨u59,r59,rfl,h59⟩:=zad h58;obtain ⟨u60,r60,rfl,h60⟩:=zad h59;obtain ⟨u61,r61,rfl,h61⟩:=zad h60;obtain ⟨u62,r62,rfl,h62⟩:=zad h61;obtain ⟨u63,r63,rfl,h63⟩:=zad h62;obtain ⟨u64,r64,rfl,h64⟩:=zad h63;obtain ⟨u65,r65,rfl,h65⟩:=zad h64;obtain ⟨u66,r66,rfl,h66⟩:=zad h65;obtain rfl:=List.length_eq_zero_iff.1 h66;exact ⟨u0,u1,u2,u3,u4,u5,u6,u7,u8,u9,u10,u11,u12,u13,u14,u15,u16,u17,u18,u19,u20,u21,u22,u23,u24,u25,u26,u27,u28,u29,u30,u31,u32,u33,u34,u35,u36,u37,u38,u39,u40,u41,u42,u43,u44,u45,u46,u47,u48,u49,u50,u51,u52,u53,u54,u55,u56,u57,u58,u59,u60,u61,u62,u63,u64,u65,u66,rfl⟩

theorem zqz (l:List UInt8):∀ (m j:Nat) (s:List UInt8),l.length - j<=m->j<=l.length->(zbx l j s).2.1<=l.length:=by
 intro m
 induction m with
 | zero=>
  intro j s h hj;rw [zbx,if_neg (by omega)];exact Nat.le_refl _
 | succ m ih=>
  intro j s h hj;rw [zbx]
  by_cases h1:j < l.length
  ·rw [if_pos h1]
   split
   ·exact h1
   ·split
    ·split
     ·exact hj
     ·have:=(zez l j (by omega)).1
      exact ih (j+(zbj l j).1) (s++(zbj l j).2) (by omega) (by omega)
    ·split
     ·exact hj
     ·have hp:=zb8 l j
      have hl:=ziw l j h1;exact ih (j+(dc l j).2) (s++(l.drop j).take (dc l j).2) (by omega) (by omega)
  ·rw [if_neg h1]
   exact Nat.le_refl _
theorem tok_ge {l:List UInt8} {j:Nat} (hj:j < l.length) (he:zcy l j≠0):j<=zdv l j/\zdv l j<=l.length:=by
 have hj1:j+1<=l.length:=hj;unfold zcy at he;unfold zdv
 split
 ·have hg:=zei l _ (j+1) [] (Nat.le_refl _) hj1
  have hle:=zqz l _ (j+1) [] (Nat.le_refl _) hj1;unfold zhm
  split
  ·omega
  ·omega
 ·rename_i h7
  rw [if_neg h7] at he;rw [if_neg he];omega
theorem zks {l:List UInt8} {j:Nat} (hj:j < l.length) (_:kl l j≠1) (he:zcy l j=0):j < zdv l j/\zdv l j<=l.length:=by
 have hj1:j+1<=l.length:=hj;have wr:=zdp l _ (j+1) (Nat.le_refl _);have nr:=zqo l _ (j+1) (Nat.le_refl _);have wr2:=zdp l _ (za8 l (j+1)+1) (Nat.le_refl _);have hw1:=wr.2 hj1;have hn1:=nr.2 hj1
 by_cases h7:kl l j=7/\zg6 l j≠0
 ·unfold zcy at he
  rw [if_pos h7] at he;exact absurd he h7.2
 ·unfold zcy at he
  rw [if_neg h7] at he;unfold zdv;rw [if_neg h7,if_pos he];unfold za7 at he ⊢
  split
  ·show j < (zek 0 l j).2/\(zek 0 l j).2<=l.length
   show j < (if zcl l (za8 l (j+1)) 3=true then ((3:Nat),za8 l (za8 l (j+1)+1)) else (2,za8 l (j+1))).2/\(if zcl l (za8 l (j+1)) 3=true then ((3:Nat),za8 l (za8 l (j+1)+1)) else (2,za8 l (j+1))).2<=l.length
   split
   ·rename_i hd
    have:=(zd2 hd).1;have:=wr2.2 (by omega);exact ⟨by simp only;omega,by simp only;omega⟩
   ·exact ⟨by simp only;omega,by simp only;omega⟩
  ·split
   ·show j < zg8 l (j+1)/\zg8 l (j+1)<=l.length
    omega
   ·split
    ·show j < za8 l (j+1)/\za8 l (j+1)<=l.length
     omega
    ·split
     ·rename_i hk
      have hq:zg6 l j=0:=Classical.byContradiction (fun h=>h7 ⟨hk,h⟩);show j < zhm l j/\zhm l j<=l.length;have hg:=zei l _ (j+1) [] (Nat.le_refl _) hj1;have hle:=zqz l _ (j+1) [] (Nat.le_refl _) hj1;unfold zhm;unfold zg6 at hq
      split
      ·rename_i hc
       rw [if_neg (by rw [hc.1];simp),if_pos hc] at hq;cases hq
      ·omega
     ·rename_i k3 k4 k6 k7
      rw [if_neg k3,if_neg k4,if_neg k6,if_neg k7] at he;obtain ⟨hs1,_⟩:=zkw (l.drop j);rw [List.length_drop] at hs1;have hne:zbw l j (j+sgn (l.drop j))≠[]:=fun e=>by
       unfold zbq at he;simp only [e] at he
       revert he
       decide
      have:0 < sgn (l.drop j):=by
       refine Nat.pos_of_ne_zero (fun e=>hne ?_);unfold zbw;rw [e];simp
      show j < j+sgn (l.drop j)/\j+sgn (l.drop j)<=l.length;omega

def RunR (X:MX) (R:Res) (e:Ending) (w':World):Prop:=
 e=.returned (.int .i64 (R.2.1:Int))/\∃ now fst line head v D,MS X w' now fst line head v D/\head<=now/\now<=16384/\(R.2.1=0->R=(D,0,0,0))/\(R.2.1≠0->R=([],R.2.1,line,now - head+1))
def RF (X:MX) (R:Res) (lab now j fst line head hb:Nat) (v:Value) (D:List Tok) (wr:World):Prop:=
 (lab=0∨lab=1∨lab=2)/\MS X wr now fst line head v D/\AT X.l now j/\AT X.l head hb/\head<=now/\j<=X.l.length/\D.length<=2*now/\line<=now+1/\
 (lab=0->∃ f,X.l.length - j < f/\zeo f X.l j line hb D=R)/\
 (lab=1->j < X.l.length/\kl X.l j≠1/\∃ f,X.l.length - j<=f/\zdu f X.l (zrs X.l (j+(dc X.l j).2)) line hb D=R)/\
 (lab=2->(kl X.l j=1∨kl X.l j=0)/\∃ f,X.l.length - j<=f/\zdu f X.l j line hb D=R)
def RJ (X:MX) (R:Res) (lab:Nat) (a:Act) (wr:World):Prop:=
 ∃ (now j fst line head hb:Nat) (v:Value) (D:List Tok) (u:Array Value),a={ tmps:=u,defers:=[] }/\u.size=67/\u.getD 0 undef=.pointer (some ⟨X.b,0,none⟩)/\Hid (RF X R lab now j fst line head hb v D wr)
def rM (X:MX) (lab:Nat) (wr:World):Nat:=3*zfl X wr+(if lab=0 then 2 else if lab=1 then 1 else 0)
theorem zfc (tmps:Array Value) (W:World):(results Tryz.f132 tmps).run Tryz.prog W=.ok (tmps.getD 2 undef) W:=by
 simp [results,go_sem]
theorem zo9 {P:Program} {a:Act} {w:World} {Q:Exit->Act->World->Prop} {c X:Code} {J:Nat->Act->World->Prop} {m:Nat->Act->World->Nat} {l K0 K1:Nat} (h:∃ Y,findLabel c l=some (.seq .skip Y)/\Y.wp P (zd9 (fun l' a' w'=>J l' a' w'/\m l' a' w' < K0) Q) a w) (hf:findLabel c l=some (.seq .skip X)) (hK:K0<=K1):X.wp P (zd9 (fun l' a' w'=>J l' a' w'/\m l' a' w' < K1) Q) a w:=by
 obtain ⟨Y,hY,hr⟩:=h;have e:=Option.some.inj (hf.symm.trans hY);injection e with _ e;rw [e];refine wp_mono hr ?_;intro e a' w' hq;cases e with
 | goto l'=>exact ⟨hq.1,Nat.lt_of_lt_of_le hq.2 hK⟩
 | normal=>exact hq
 | exit id=>exact hq
 | ret=>exact hq
 | panic ch=>exact hq
 | outgrown=>exact hq
end Go.Proofs.YtmfakcfmkmppfaaGreatDoor
namespace Go.Proofs.YtmfakcfmkmppfaaGreatDoor
open Go.RowKit
end Go.Proofs.YtmfakcfmkmppfaaGreatDoor
namespace Go.Proofs.YtmfakcfmkmppfaaGreatDoor
open Go.RowKit Go.Shelf
section
variable {P a S:List UInt8}
end
section
variable {P a S:List UInt8}
end
section
variable {P a S:List UInt8}
end
section
variable {P a S:List UInt8}
end
section
variable {P a S:List UInt8}
end
theorem zlr {l:List UInt8}:∀ (m j:Nat),l.length - j<=m->j<=zrs l j
 | m,j,hm=>by
  by_cases hk:kl l j=1∨kl l j=0
  ·rw [zi0 hk];exact Nat.le_refl _
  ·have h1:kl l j≠1:=fun e=>hk (.inl e)
   have h0:kl l j≠0:=fun e=>hk (.inr e);have hj:j < l.length:=Classical.byContradiction (fun e=>h0 (kl0.2 e));have hp:=zb8 l j
   match m,hm with
   | 0,hm=>omega
   | m+1,hm=>
    rw [zlq h1 h0];have:=zlr (l:=l) m (j+(dc l j).2) (by omega);omega
end Go.Proofs.YtmfakcfmkmppfaaGreatDoor
