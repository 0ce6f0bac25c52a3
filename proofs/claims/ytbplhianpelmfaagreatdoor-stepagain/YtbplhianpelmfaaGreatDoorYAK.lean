import Derived.Test.YtbplhianpelmfaaGreatDoorYAJ
import Derived.Deep.LoopGhost
namespace Go.Proofs.YtbplhianpelmfaaGreatDoor
open Go.RowKit Go.Shelf
abbrev KT:=Nat×List UInt8
def kt (L:List Tok):List KT:=L.map fun t=>(t.1,t.2.1)
def flat (Ls:List (List KT)):List KT:=Ls.flatMap fun ln=>ln++[(1,[10])]
def goodL (ln:List KT):Prop:=∀ t∈ln,goodT t.1 t.2
def goodLs (Ls:List (List KT)):Prop:=∀ ln∈Ls,ln≠[]∧goodL ln
def totL (ln:List KT):Nat:=(ln.map fun t=>t.2.length).sum
def totLs (Ls:List (List KT)):Nat:=(Ls.map totL).sum
theorem goodT_kind {K:Nat} {X:List UInt8} (h:goodT K X):K≠1:=fun e=>by
 have h1:(tokC X 0).1≠1:=by
  unfold tokC endF
  repeat' split
  all_goals simp
 rw [h.2.2.2.2.1] at h1
 exact h1 e
theorem flat_snoc (Ls:List (List KT)) (ln:List KT):flat (Ls++[ln])=flat Ls++(ln++[(1,[10])]):=by
 unfold flat
 simp
theorem kt_snoc (D:List Tok) (t:Tok):kt (D++[t])=kt D++[(t.1,t.2.1)]:=by
 unfold kt
 simp
theorem kt_last {D:List Tok} {A:List KT} {u:KT} (h:kt D=A++[u]):∃ t,D.getLast?=some t∧t.1=u.1:=by
 rcases List.eq_nil_or_concat D with rfl | ⟨D0,t,rfl⟩
 ·cases A <;> cases h
 ·rw [List.concat_eq_append,kt_snoc] at h
  have e:=(List.append_inj' h rfl).2
  refine ⟨t,by rw [List.concat_eq_append];simp,?_⟩
  have:=List.head_eq_of_cons_eq e
  rw [←this]
theorem totLs_snoc (Ls:List (List KT)) (ln:List KT):totLs (Ls++[ln])=totLs Ls+totL ln:=by
 unfold totLs
 simp
theorem totL_snoc (ln:List KT) (t:KT):totL (ln++[t])=totL ln+t.2.length:=by
 unfold totL
 simp
theorem endT_kt {D:List Tok} {Ls:List (List KT)} {cur:List KT} (h:kt D=flat Ls++cur) (hL:goodLs Ls) (hc:goodL cur) (line col:Nat) :
  ∃ Ls',kt (endT D line col)=flat Ls'∧goodLs Ls'∧totLs Ls'=totLs Ls+totL cur:=by
 rcases List.eq_nil_or_concat cur with rfl | ⟨c0,u,rfl⟩
 ·refine ⟨Ls,?_,hL,by simp [totL]⟩
  rw [List.append_nil] at h
  rcases List.eq_nil_or_concat Ls with rfl | ⟨L0,ln,rfl⟩
  ·have hD:D=[]:=by
    unfold kt flat at h
    simpa using h
   subst hD
   rfl
  ·rw [List.concat_eq_append] at h ⊢
   have h2:=h
   rw [flat_snoc,←List.append_assoc] at h2
   obtain ⟨t,ht1,ht2⟩:=kt_last h2
   unfold endT
   rw [ht1]
   simp only
   rw [if_pos ht2,h]
 ·rw [List.concat_eq_append] at h hc ⊢
  have h2:=h
  rw [←List.append_assoc] at h2
  obtain ⟨t,ht1,ht2⟩:=kt_last h2
  have hu:u.1≠1:=goodT_kind (hc u (by simp))
  refine ⟨Ls++[c0++[u]],?_,?_,totLs_snoc _ _⟩
  ·unfold endT
   rw [ht1]
   simp only
   rw [if_neg (by rw [ht2];exact hu),kt_snoc,h,flat_snoc,List.append_assoc]
  ·intro ln hln
   rcases List.mem_append.1 hln with e | e
   ·exact hL ln e
   ·rw [List.mem_singleton.1 e]
    exact ⟨by simp,hc⟩
theorem cend_le' {l:List UInt8}:∀ (m j:Nat),l.length - j≤m→j≤l.length→cend l j≤l.length
 | m,j,hm,hj=>by
  by_cases hk:kl l j=1∨kl l j=0
  ·rw [cend_end hk];exact hj
  ·have h1:kl l j≠1:=fun e=>hk (.inl e)
   have h0:kl l j≠0:=fun e=>hk (.inr e)
   have hlt:j < l.length:=Classical.byContradiction (fun e=>h0 (kl0.2 e))
   have hp:=dc_pos l j
   have hle:=dc_le l j hlt
   match m,hm with
   | 0,hm=>omega
   | m+1,hm=>rw [cend_on h1 h0];exact cend_le' m _ (by omega) hle
theorem run_ls (l:List UInt8):∀ (f j line hb:Nat) (D:List Tok) (Ls:List (List KT)) (cur:List KT),l.length - j < f→j≤l.length→kt D=flat Ls++cur→goodLs Ls→goodL cur→(runM f l j line hb D).2.1=0→∃ Ls',kt (runM f l j line hb D).1=flat Ls'∧goodLs Ls'∧totLs Ls'≤totLs Ls+totL cur+(l.length - j)
 | 0,j,line,hb,D,Ls,cur,hf,_,_,_,_,_=>by omega
 | f+1,j,line,hb,D,Ls,cur,hf,hj,hD,hL,hc,h0=>by
  have hend:∀ e,j≤e→e≤l.length→(lendM f l e line hb D).2.1=0→∃ Ls',kt (lendM f l e line hb D).1=flat Ls'∧goodLs Ls'∧totLs Ls'≤totLs Ls+totL cur+(l.length - j):=fun e he hel h=>by
   obtain ⟨L2,e1,e2,e3⟩:=endT_kt hD hL hc line (ci l e - ci l hb+1)
   unfold lendM at h ⊢
   by_cases hz:kl l e=0
   ·rw [if_pos hz]
    exact ⟨L2,e1,e2,by omega⟩
   ·have hlt:e < l.length:=Classical.byContradiction (fun h=>hz (kl0.2 h))
    rw [if_neg hz] at h ⊢
    obtain ⟨L3,g1,g2,g3⟩:=run_ls l f (e+1) (line+1) (e+1) _ L2 [] (by omega) hlt (by rw [e1,List.append_nil]) e2 (fun t ht=>by cases ht) h
    refine ⟨L3,g1,g2,?_⟩
    have:totL []=0:=rfl
    omega
  by_cases h10:kl l j=1∨kl l j=0
  ·rw [runM_end h10] at h0 ⊢
   exact hend j (Nat.le_refl _) hj h0
  have h1:kl l j≠1:=fun e=>h10 (.inl e)
  have hz:kl l j≠0:=fun e=>h10 (.inr e)
  have hlt:j < l.length:=Classical.byContradiction (fun e=>hz (kl0.2 e))
  by_cases h2:kl l j=2
  ·rw [runM_blank h2] at h0 ⊢
   obtain ⟨L3,g1,g2,g3⟩:=run_ls l f (j+1) line hb D Ls cur (by omega) hlt hD hL hc h0
   exact ⟨L3,g1,g2,by omega⟩
  by_cases h8:kl l j=8
  ·rw [runM_hash h8] at h0 ⊢
   have c1:=cend_ge (l:=l) _ (j+1) (Nat.le_refl _)
   have c2:=cend_le' (l:=l) _ (j+1) (Nat.le_refl _) hlt
   exact hend _ (by omega) c2 h0
  by_cases he:tokE l j=0
  ·obtain ⟨a1,a2⟩:=tok_adv hlt h1 he
   have hsm:=tok_same he
   rw [runM_tok h2 h8 h1 hz he] at h0 ⊢
   have hn:tokJ l j=j+(tokJ l j - j):=by omega
   have hg:=tok_alone (l:=l) (j:=j) (n:=tokJ l j - j) (K:=(tokC l j).1) (by omega) (by omega) h1 h2 h8 (by rw [←hn,hsm]) he
   rw [←hn] at hg
   obtain ⟨L3,g1,g2,g3⟩:=run_ls l f (tokJ l j) line hb _ Ls (cur++[((tokC l j).1,subL l j (tokC l j).2)]) (by omega) a2 (by rw [kt_snoc,hD,List.append_assoc]) hL (fun t ht=>by
    rcases List.mem_append.1 ht with e | e
    ·exact hc t e
    ·rw [List.mem_singleton.1 e,←hsm]
     exact hg) h0
   refine ⟨L3,g1,g2,?_⟩
   rw [totL_snoc] at g3
   simp only at g3
   rw [←hsm,sub_len a2] at g3
   omega
  ·rw [runM_err h2 h8 h1 hz he] at h0
   exact absurd h0 he
theorem scan_ls (l:List UInt8) (h:l.length≤16384) (he:(scanM l).2.1=0):∃ Ls,kt (scanM l).1=flat Ls∧goodLs Ls∧totLs Ls≤l.length:=by
 unfold scanM at he ⊢
 rw [if_neg (by omega)] at he ⊢
 obtain ⟨Ls,g1,g2,g3⟩:=run_ls l (l.length+1) 0 1 0 [] [] [] (by omega) (Nat.zero_le _) rfl (fun ln h=>by cases h) (fun t h=>by cases h) he
 exact ⟨Ls,g1,g2,by simpa [totLs,totL] using g3⟩
end Go.Proofs.YtbplhianpelmfaaGreatDoor
namespace Go.Proofs.YtbplhianpelmfaaGreatDoor.Nt
open Go.RowKit Go.Shelf
def ofB (k:Nat) (x:List UInt8):Bool:=match (scanM x).1 with
 | t :: _=>t.1==k&&t.2.1==x
 | []=>false
theorem ofB_len {k:Nat} {x:List UInt8} (h:ofB k x=true):x.length≤16384∧1≤x.length:=by
 unfold ofB at h
 constructor
 ·rcases Nat.lt_or_ge 16384 x.length with h1 | h1
  ·unfold scanM at h
   rw [if_pos h1] at h
   cases h
  ·exact h1
 ·cases x with
  | nil=>
   have e:(scanM []).1=[]:=by rfl
   rw [e] at h
   cases h
  | cons c x=>simp
def nameB (x:List UInt8):Bool:=decide (0 < x.length)&&(decide (x.length≤24)&&(letX (bt x 0)&&x.all (fun c=>letX c.toNat || digX c.toNat)))
theorem inW_bt {x:List UInt8} {j:Nat} (hj:j < x.length):inW x j=(letX (bt x j) || digX (bt x j)):=by
 unfold inW
 rw [kl_bt hj,letX_cls (bt_lt x j),digX_cls (bt_lt x j)]
theorem wrun_all {x:List UInt8}:∀ (m j:Nat),x.length - j≤m→j≤x.length→(∀ k,j≤k→k < x.length→inW x k=true)→wrun x j=x.length
 | m,j,hm,hj,h=>by
  rcases Nat.lt_or_ge j x.length with hlt | hge
  ·match m,hm with
   | 0,hm=>omega
   | m+1,hm=>
    rw [wrun_yes (h j (Nat.le_refl _) hlt)]
    exact wrun_all m (j+1) (by omega) hlt (fun k h1 h2=>h k (by omega) h2)
  ·have:inW x j=false:=by
    unfold inW
    rw [kl0.2 (by omega)]
    rfl
   rw [wrun_no this]
   omega
theorem ofB_good {k:Nat} {x:List UInt8} (h:ofB k x=true) (_hk:k≠1):goodT k x:=by
 unfold ofB at h
 have hl:x.length≤16384:=(ofB_len (k:=k) h).1
 cases hD:(scanM x).1 with
 | nil=>rw [hD] at h;cases h
 | cons a D=>
  rw [hD] at h
  simp only at h
  rw [Bool.and_eq_true,beq_iff_eq,beq_iff_eq] at h
  have he:(scanM x).2.1=0:=Classical.byContradiction (fun hne=>by
   have h0:(scanM x).1=[]:=by
    have:=(run_done x (x.length+1) 0 1 0 [] (by omega)).2
    unfold scanM at hne ⊢
    rw [if_neg (by omega)] at hne ⊢
    exact this hne
   rw [h0] at hD
   cases hD)
  obtain ⟨Ls,g1,g2,g3⟩:=scan_ls x hl he
  rw [hD] at g1
  have g4:flat Ls=(a.1,a.2.1) :: kt D:=g1.symm
  cases Ls with
  | nil=>cases g4
  | cons ln Ls=>
   obtain ⟨hne,hgl⟩:=g2 ln (by simp)
   cases ln with
   | nil=>exact absurd rfl hne
   | cons u ln=>
    have e1:u=(a.1,a.2.1):=List.head_eq_of_cons_eq g4
    have hg:=hgl u (by simp)
    rw [e1,h.1,h.2] at hg
    exact hg
theorem good_ofB {k:Nat} {x:List UInt8} (h:goodT k x) (hl:x.length≤16384):ofB k x=true:=by
 obtain ⟨c,hc⟩:=scan_one h hl
 unfold ofB
 rw [hc]
 simp
theorem cls_dot:∀ x:Fin 256,(cls (x.val:Int)=5↔x.val=46):=by decide +kernel
theorem kl_dot {x:List UInt8} {j:Nat} (hj:j < x.length):kl x j=5↔bt x j=46:=by
 rw [kl_bt hj]
 exact cls_dot ⟨bt x j,bt_lt x j⟩
theorem kl_let {x:List UInt8} {j:Nat} (hj:j < x.length):kl x j=3↔letX (bt x j)=true:=by
 rw [kl_bt hj,letX_cls (bt_lt x j),decide_eq_true_eq]
def dotAt (x:List UInt8):Nat:=(x.takeWhile (· != 46)).length
theorem dotAt_cons (c:UInt8) (x:List UInt8):dotAt (c :: x)=if c=46 then 0 else dotAt x+1:=by
 unfold dotAt
 by_cases h:c=46
 ·subst h;rfl
 ·rw [if_neg h,List.takeWhile_cons_of_pos (by simp [h]),List.length_cons]
theorem dotAt_eq:∀ (x:List UInt8) (i:Nat),(∀ k,k < i→bt x k≠46)→i≤x.length→(i < x.length→bt x i=46)→dotAt x=i
 | [],i,_,h,_=>by
  have:i=0:=by simpa using h
  subst this
  rfl
 | c :: x,0,_,_,h=>by
  have:bt (c :: x) 0=46:=h (by simp)
  have e:c=46:=UInt8.toNat_inj.1 this
  rw [dotAt_cons,if_pos e]
 | c :: x,i+1,hk,hl,h=>by
  have h0:c≠46:=fun e=>hk 0 (by omega) (by subst e;rfl)
  rw [dotAt_cons,if_neg h0,dotAt_eq x i (fun k hki=>by have:=hk (k+1) (by omega);exact this) (by simpa using hl) (fun hi=>by have:=h (by simpa using hi);exact this)]
theorem dotAt_spec (x:List UInt8):(∀ k,k < dotAt x→bt x k≠46)∧(dotAt x < x.length→bt x (dotAt x)=46):=by
 induction x with
 | nil=>exact ⟨fun k h=>by simp [dotAt] at h,fun h=>by simp at h⟩
 | cons c x ih=>
  rw [dotAt_cons]
  by_cases h:c=46
  ·rw [if_pos h]
   subst h
   exact ⟨fun k hk=>by omega,fun _=>rfl⟩
  ·rw [if_neg h]
   refine ⟨fun k hk=>?_,fun hl=>ih.2 (by simpa using hl)⟩
   cases k with
   | zero=>
    intro e
    exact h (UInt8.toNat_inj.1 e)
   | succ k=>exact ih.1 k (by omega)
def fullN (x:List UInt8):Bool:=decide (dotAt x < x.length)&&(nameB (x.take (dotAt x))&&nameB (x.drop (dotAt x+1)))
theorem bt_take {x:List UInt8} {i k:Nat} (h:k < i):bt (x.take i) k=bt x k:=by
 unfold bt
 rw [List.getD_eq_getElem?_getD,List.getD_eq_getElem?_getD,List.getElem?_take,if_pos h]
theorem bt_drop (x:List UInt8) (i k:Nat):bt (x.drop i) k=bt x (i+k):=by
 unfold bt
 rw [List.getD_eq_getElem?_getD,List.getD_eq_getElem?_getD,List.getElem?_drop]
theorem nameB_iff (x:List UInt8):nameB x=true↔0 < x.length∧x.length≤24∧letX (bt x 0)=true∧∀ k,k < x.length→(letX (bt x k) || digX (bt x k))=true:=by
 unfold nameB
 simp only [Bool.and_eq_true,decide_eq_true_eq,List.all_eq_true]
 constructor
 ·rintro ⟨h0,h1,h2,h3⟩
  refine ⟨h0,h1,h2,fun k hk=>?_⟩
  rw [bt_of (List.getElem?_eq_getElem hk)]
  exact h3 _ (List.getElem_mem hk)
 ·rintro ⟨h0,h1,h2,h3⟩
  refine ⟨h0,h1,h2,fun c hc=>?_⟩
  obtain ⟨k,hk,rfl⟩:=List.getElem_of_mem hc
  have:=h3 k hk
  rw [bt_of (List.getElem?_eq_getElem hk)] at this
  exact this
theorem wrun_to {x:List UInt8}:∀ (m j e:Nat),e - j≤m→j≤e→(∀ k,j≤k→k < e→inW x k=true)→inW x e=false→wrun x j=e
 | m,j,e,hm,hj,h,he=>by
  rcases Nat.lt_or_ge j e with hlt | hge
  ·match m,hm with
   | 0,hm=>omega
   | m+1,hm=>
    rw [wrun_yes (h j (Nat.le_refl _) hlt)]
    exact wrun_to m (j+1) e (by omega) hlt (fun k h1 h2=>h k (by omega) h2) he
  ·have:j=e:=by omega
   subst this
   exact wrun_no he
theorem good_port {x:List UInt8} (h:goodT 3 x):fullN x=true:=by
 obtain ⟨h0,h1,h2,h8,hC,hE⟩:=h
 have h3:kl x 0=3:=Classical.byContradiction (fun h3=>by
  unfold tokC endF at hC
  rw [if_neg h3] at hC
  by_cases h4:kl x 0=4
  ·rw [if_pos h4,if_neg (by decide),if_neg (by decide),if_pos rfl] at hC
   simp at hC
  ·rw [if_neg h4] at hC
   by_cases h6:kl x 0=6
   ·rw [if_pos h6,if_neg (by decide),if_neg (by decide),if_neg (by decide),if_pos rfl] at hC
    simp at hC
   ·rw [if_neg h6] at hC
    by_cases h7:kl x 0=7
    ·rw [if_pos h7,if_neg (by decide),if_neg (by decide),if_neg (by decide),if_neg (by decide)] at hC
     simp at hC
    ·rw [if_neg h7] at hC
     simp at hC)
 cases hd:dotA x (wrun x 0) 3 with
 | false=>
  obtain ⟨b1,b2,b3,b4,b5⟩:=tok_name h0 h3 rfl hd
  rw [hC] at b5
  have:=(Prod.mk.inj b5).1
  omega
 | true=>
  obtain ⟨p1,p2,p3,p4,p5,p6,p7⟩:=tok_port h0 h3 rfl hd rfl
  rw [hC] at p7
  have hk:x.length=wrun x (wrun x 0+1):=(Prod.mk.inj p7).2
  obtain ⟨j,hj⟩:∃ j,wrun x 0=j:=⟨_,rfl⟩
  rw [hj] at p1 p2 p3 p4 p5 hk hd
  have h24:¬(24 < j - 0∨24 < wrun x (j+1) - j - 1):=fun hh=>by rw [hE,if_pos hh] at p5;cases p5
  unfold dotA at hd
  simp only [Bool.and_eq_true,decide_eq_true_eq] at hd
  have hj46:=(kl_dot (show j < x.length by omega)).1 hd.1
  have hin:∀ k,k < j→inW x k=true:=fun k hk=>wrun_in (l:=x) _ 0 (Nat.le_refl _) k (Nat.zero_le _) (by omega)
  have hin2:∀ k,j+1≤k→k < x.length→inW x k=true:=fun k h1 h2=>wrun_in (l:=x) _ (j+1) (Nat.le_refl _) k h1 (by omega)
  have hda:dotAt x=j:=dotAt_eq x j (fun k hk=>inW_46 (hin k hk)) (by omega) (fun _=>hj46)
  unfold fullN
  rw [hda,decide_eq_true (show j < x.length by omega),Bool.true_and,Bool.and_eq_true,nameB_iff,nameB_iff]
  have hl1:(x.take j).length=j:=by rw [List.length_take];omega
  have hl2:(x.drop (j+1)).length=x.length - (j+1):=List.length_drop
  rw [hl1,hl2]
  refine ⟨⟨by omega,by omega,?_,fun k hk=>?_⟩,⟨by omega,by omega,?_,fun k hk=>?_⟩⟩
  ·rw [bt_take (by omega)];exact (kl_let h0).1 h3
  ·rw [bt_take hk,←inW_bt (by omega)];exact hin k hk
  ·rw [bt_drop];exact (kl_let (by omega)).1 hd.2
  ·rw [bt_drop,←inW_bt (by omega)];exact hin2 _ (by omega) (by omega)
theorem port_good {x:List UInt8} (h:fullN x=true):goodT 3 x:=by
 unfold fullN at h
 obtain ⟨j,hj⟩:∃ j,dotAt x=j:=⟨_,rfl⟩
 have hs:=dotAt_spec x
 rw [hj] at h hs
 rw [Bool.and_eq_true,decide_eq_true_eq,Bool.and_eq_true,nameB_iff,nameB_iff] at h
 obtain ⟨hjl,⟨a0,a1,a2,a3⟩,⟨c0,c1,c2,c3⟩⟩:=h
 have hl1:(x.take j).length=j:=by rw [List.length_take];omega
 have hl2:(x.drop (j+1)).length=x.length - (j+1):=List.length_drop
 rw [hl1] at a0 a1 a3
 rw [hl2] at c0 c1 c3
 have h3:kl x 0=3:=by
  rw [bt_take a0] at a2
  exact (kl_let (by omega)).2 a2
 have hin:∀ k,0≤k→k < j→inW x k=true:=fun k _ hk=>by
  rw [inW_bt (by omega),←bt_take hk];exact a3 k hk
 have hin2:∀ k,j+1≤k→k < x.length→inW x k=true:=fun k h1 h2=>by
  have:=c3 (k - (j+1)) (by omega)
  rw [bt_drop,show j+1+(k - (j+1))=k by omega] at this
  rw [inW_bt h2];exact this
 have hk5:kl x j=5:=(kl_dot hjl).2 (hs.2 hjl)
 have hno:inW x j=false:=by unfold inW;rw [hk5];rfl
 have hw:wrun x 0=j:=wrun_to _ 0 j (Nat.le_refl _) (Nat.zero_le _) hin hno
 have hw2:wrun x (j+1)=x.length:=wrun_all _ (j+1) (Nat.le_refl _) (by omega) hin2
 have hd:dotA x j 3=true:=by
  unfold dotA
  have:kl x (j+1)=3:=by
   have:=c2
   rw [bt_drop] at this
   exact (kl_let (by omega)).2 this
  rw [hk5,this]
  rfl
 obtain ⟨p1,p2,p3,p4,p5,p6,p7⟩:=tok_port (show 0 < x.length by omega) h3 hw hd hw2
 exact ⟨by omega,by omega,by omega,by omega,p7,by rw [p5,if_neg (by omega)]⟩
theorem ofB_port (x:List UInt8):ofB 3 x=fullN x:=by
 rw [Bool.eq_iff_iff]
 constructor
 ·exact fun h=>good_port (ofB_good h (by decide))
 ·intro h
  refine good_ofB (port_good h) ?_
  unfold fullN at h
  rw [Bool.and_eq_true,decide_eq_true_eq,Bool.and_eq_true,nameB_iff,nameB_iff] at h
  obtain ⟨hjl,⟨a0,a1,a2,a3⟩,⟨c0,c1,c2,c3⟩⟩:=h
  rw [List.length_take] at a1
  rw [List.length_drop] at c1
  omega
end Go.Proofs.YtbplhianpelmfaaGreatDoor.Nt
namespace Go.Proofs.YtbplhianpelmfaaGreatDoor
open Go.RowKit
theorem gr_belZ {W X:World} (h:Below W.heap.size W X) (row:Option Nat):W.grownBy X row:=⟨h.os,h.tape,h.output,h.size,fun k hk _=>h.block k hk⟩
theorem bel_grZ {w W X:World} {row:Option Nat} (h:Below w.heap.size w W) (hg:W.grownBy X row) (hr:∀ k,row=some k→w.heap.size≤k):Below w.heap.size w X:=h.grown hg h.size hr
theorem own_belZ {W X:World} {B n:Nat} {e:TypeId} {sz:Nat} {v:Value} {xs:List Value} (h:W.ownsRow B e sz v n xs) (hb:Below W.heap.size W X):X.ownsRow B e sz v n xs:=by
 refine h.kept (gr_belZ hb none) ?_
 generalize v.ownBlock=b
 cases b with
 | none=>exact .inl rfl
 | some b=>exact .inr (by intro e;cases e)
theorem own_baseZ {W:World} {A B n:Nat} {e:TypeId} {sz:Nat} {v:Value} {xs:List Value} (h:W.ownsRow B e sz v n xs) (hA:A≤B):W.ownsRow A e sz v n xs:=by
 rcases h.2 with h' | ⟨g,cap,cur,h',hb,r⟩
 ·exact ⟨h.1,.inl h'⟩
 ·exact ⟨h.1,.inr ⟨g,cap,cur,h',Nat.le_trans hA hb,r⟩⟩
theorem wpList_runZ {P:Program} {ops:Array Oper} {rest:List Oper} {o:Oper} {a:Act} {w w':World} {Q:Exit→Act→World→Prop} {v u v':Value} (hgd:o.guard=none) (s x:Operand) (t:TypeId) (ho:o.op=.call { callee:=.builtin .append,args:=#[s,x],argTypes:=#[t,t] }) (hs:a.eval s=v) (hx:a.eval x=u) (hr:(Builtin.append_ #[t,t] o.type #[v,u]).run P w=.ok v' w') (h:wpList P ops Q rest (a.put o.dst v') w'):wpList P ops Q (o :: rest) a w:=
 wpList_plain hgd fun K hK=>by
  unfold Oper.wp execOp
  simp only [ho,resolve,invoke,builtin,Sem.run_bind,Sem.run_pure,Result.andThen_ok,List.map_toArray,List.map_cons,List.map_nil,hs,hx,hr]
  exact hK _ _ h
def inZ (V:List Int):List Value:=V.map (fun x=>Value.int .i64 x)
theorem bel0Z {w w1 w2:World} (h:Below w.heap.size w w1) (h2:Below w1.heap.size w1 w2):Below w.heap.size w w2:=h.trans (h2.mono h.size)
theorem belAZ {w w1:World} (h:Below w.heap.size w w1) (o:Obj):Below w.heap.size w (w1.alloc o):=h.alloc h.size o
theorem alloc_getZ (w:World) (o:Obj):(w.alloc o).heap[w.heap.size]?=some o:=by
 show (w.heap.push o)[w.heap.size]?=_
 simp
theorem shapeZ {W:World} {B n:Nat} {e:TypeId} {sz:Nat} {v:Value} {xs:List Value} (h:W.ownsRow B e sz v n xs):∃ p c,v=.slice p n c:=by
 rcases h.2 with ⟨rfl,rfl⟩ | ⟨g,c,_,rfl,_⟩
 ·exact ⟨_,_,rfl⟩
 ·exact ⟨_,_,rfl⟩
theorem keepZ {W w':World} {b:Nat} {o:Obj} (hb:Below W.heap.size W w') (h:W.heap[b]?=some o):w'.heap[b]?=some o:=(hb.block b (by
 rcases Nat.lt_or_ge b W.heap.size with h1 | h1
 ·exact h1
 ·rw [Array.getElem?_eq_none h1] at h;cases h)).trans h
theorem set_getZ {W:World} {b j T:Nat} {cs:Array Value} {m:Nat×Nat} (u:Value) (h:W.heap[b]?=some (.cells cs T m)):(W.setCell ⟨b,j,none⟩ u).heap[b]?=some (.cells (cs.setIfInBounds j u) T m):=by
 simp only [World.setCell,Array.getElem?_modify,if_pos,h,Option.map_some]
 simp
theorem gr_setZ (W:World) (b j:Nat) (u:Value):W.grownBy (W.setCell ⟨b,j,none⟩ u) (some b):=⟨rfl,rfl,rfl,by simp,fun k _ hk=>heap_setCell_other W ⟨b,j,none⟩ k u (fun e=>hk (by simp [e]))⟩
theorem cellsZ {W:World} {b T:Nat} {cs:Array Value} (h:W.heap[b]?=some (.cells cs T (0,0))):(∀ j,W.cell? ⟨b,j,none⟩=cs[j]?)∧(∀ j,W.frozen? ⟨b,j,none⟩=false):=by
 constructor
 ·intro j;unfold World.cell?;rw [h];simp
 ·intro j;unfold World.frozen?;rw [h];simp
theorem lt_getZ {W:World} {b:Nat} {o:Obj} (h:W.heap[b]?=some o):b < W.heap.size:=by
 rcases Nat.lt_or_ge b W.heap.size with h1 | h1
 ·exact h1
 ·rw [Array.getElem?_eq_none h1] at h;cases h
theorem own_atZ {W:World} {B:Nat} {e:TypeId} {s g n c m:Nat} {xs:List Value} {j:Nat} {u:Value} (h:W.ownsRow B e s (.slice (some ⟨g,0,none⟩) n c) m xs) (hu:xs[j]?=some u):W.cell? ⟨g,j,none⟩=some u:=by
 have:=World.ownsRow.cells h (g:=g) rfl j u hu
 have hadd:(⟨g,0,none⟩:Addr).add j=⟨g,j,none⟩:=by unfold Addr.add;split <;> simp_all
 rw [hadd] at this
 exact this
theorem own_someZ {W:World} {B:Nat} {e:TypeId} {s n c:Nat} {p:Option Addr} {m:Nat} {xs:List Value} (h:W.ownsRow B e s (.slice p n c) m xs) (hm:m≠0):∃ g,p=some ⟨g,0,none⟩:=by
 rcases h.2 with ⟨e,h2⟩ | ⟨g,c2,cur,e,_⟩
 ·exact absurd h2 hm
 ·injection e with e _ _
  exact ⟨g,e⟩
theorem own_capZ {W:World} {B n m g c:Nat} {e:TypeId} {sz:Nat} {xs:List Value} (h:W.ownsRow B e sz (.slice (some ⟨g,0,none⟩) n c) m xs):m≤c:=by
 rcases h.2 with ⟨e,_⟩ | ⟨g2,c2,cur,e,_,_,h3,_⟩
 ·cases e
 ·injection e with _ _ e3
  omega
theorem bel_drewZ {B:Nat} {w W:World} (n:Nat) (h:Below B w W):Below B w (W.drewN n):=⟨h.os,h.tape,h.output,h.size,h.block⟩
end Go.Proofs.YtbplhianpelmfaaGreatDoor
namespace Go.Proofs.YtbplhianpelmfaaGreatDoor.Nt
open Go.RowKit Go.Shelf
theorem hideL {p:Prop} (h:p):Hid p:=h
structure NP where
 nm:List UInt8
 bx:Int
 inn:Bool
 lk:Int
structure NE where
 nm:List UInt8
 ins:List Int
 cubes:List (List UInt8)
 wr:List UInt8
 outs:List Int
structure NG where
 pm:Bool
 cubes:List (List UInt8)
structure NN where
 bits:Int
 ports:List NP
 tabs:List (List NE)
 grds:List (List NG)
def np0:NP:=⟨[],0,false,0⟩
def portAt (n:NN) (k:Int):NP:=n.ports.getD k.toNat np0
def CubeP (bits:Int) (c:List UInt8):Prop:=(c.length:Int)=bits∧c.all is01x=true
def CubesP (bits:Int) (L:List (List UInt8)):Prop:=L.length≤64∧∀ c∈L,CubeP bits c
def PortP (n:NN) (p:NP):Prop:=fullN p.nm=true∧0≤p.bx∧p.bx < (n.tabs.length:Int)∧(p.lk=-1∨(p.inn=false∧0≤p.lk∧p.lk < (n.ports.length:Int)∧(portAt n p.lk).inn=true))
def PortsP (n:NN):Prop:=(∀ p∈n.ports,PortP n p)∧(n.ports.map (·.nm)).Nodup
def sumG (g:List NG):Nat:=(g.map (·.cubes.length)).sum
def sumE (t:List NE):Nat:=(t.map (·.cubes.length)).sum
def LinesP (bits:Int) (g:List NG):Prop:=(∀ l∈g,CubesP bits l.cubes)∧sumG g≤512
def IsOfP (n:NN) (box p:Int) (b:Bool):Prop:=0≤p∧p < (n.ports.length:Int)∧(portAt n p).bx=box∧(portAt n p).inn=b
def InsP (n:NN) (box:Int) (ins:List Int):Prop:=(∀ p∈ins,IsOfP n box p true)∧ins.Pairwise (· < ·)
def OutsP (n:NN) (box:Int) (outs:List Int):Prop:=outs.length≤4∧(∀ p∈outs,IsOfP n box p false)∧outs.Nodup
def EntryP (n:NN) (box:Int) (e:NE):Prop:=e.nm.length≤256∧InsP n box e.ins∧CubesP n.bits e.cubes∧CubeP n.bits e.wr∧OutsP n box e.outs
def TabP (n:NN) (box:Int) (t:List NE):Prop:=(∀ e∈t,EntryP n box e)∧sumE t≤512
def totT (n:NN):Nat:=(n.tabs.map (·.length)).sum
def totG (n:NN):Nat:=(n.grds.map (·.length)).sum
def SizeP (n:NN):Prop:=1≤n.bits∧n.bits≤256∧n.tabs.length≤16∧n.ports.length≤48∧n.grds.length=n.ports.length
def NetP (n:NN):Prop:=SizeP n∧totG n≤64∧totT n≤256∧PortsP n∧(∀ g∈n.grds,LinesP n.bits g)∧∀ (k:Nat) (t:List NE),n.tabs[k]?=some t→TabP n (k:Int) t
noncomputable def pb (P:Prop):Bool:=@decide P (Classical.propDecidable P)
theorem pb_iff {P:Prop}:pb P=true↔P:=by unfold pb;exact @decide_eq_true_iff P (Classical.propDecidable P)
theorem pb_yes {P:Prop} (h:P):pb P=true:=pb_iff.2 h
theorem pb_no {P:Prop} (h:¬P):pb P=false:=by
 cases hh:pb P with
 | false=>rfl
 | true=>exact absurd (pb_iff.1 hh) h
theorem pb_not {P:Prop} (h:pb P=false):¬P:=fun hp=>by rw [pb_yes hp] at h;cases h
def BQ (P:Prop) (w:World) (e:Ending) (w':World):Prop:=e=.returned (.bool (pb P))∧Below w.heap.size w w'
theorem BQ.yes {P:Prop} {w w':World} (h:P) (hb:Below w.heap.size w w'):BQ P w (.returned (.bool true)) w':=⟨by rw [pb_yes h],hb⟩
theorem BQ.no {P:Prop} {w w':World} (h:¬P) (hb:Below w.heap.size w w'):BQ P w (.returned (.bool false)) w':=⟨by rw [pb_no h],hb⟩
def LI (W:World) (p:Option Addr) (L:List Int):Prop:=∀ (k:Nat) (x:Int),L[k]?=some x→∃ g o,p=some ⟨g,o,none⟩∧W.cell? ⟨g,o+k,none⟩=some (.int .i64 x)
def LS (W:World) (p:Option Addr) (L:List (List UInt8)):Prop:=∀ (k:Nat) (x:List UInt8),L[k]?=some x→∃ g o,p=some ⟨g,o,none⟩∧W.cell? ⟨g,o+k,none⟩=some (.string ⟨x.toArray⟩)
def LP (W:World) (p:Option Addr) (L:List NP):Prop:=∀ (k:Nat) (x:NP),L[k]?=some x→∃ g o,p=some ⟨g,o,none⟩∧W.cell? ⟨g,o+k*4,none⟩=some (.string ⟨x.nm.toArray⟩)∧W.cell? ⟨g,o+k*4+1,none⟩=some (.int .i64 x.bx)∧W.cell? ⟨g,o+k*4+2,none⟩=some (.bool x.inn)∧W.cell? ⟨g,o+k*4+3,none⟩=some (.int .i64 x.lk)
def LEL (W:World) (x:NE) (pi:Option Addr) (ci:Nat) (pc:Option Addr) (cc:Nat) (po:Option Addr) (co:Nat):Prop:=LI W pi x.ins∧x.ins.length≤ci∧LS W pc x.cubes∧x.cubes.length≤cc∧LI W po x.outs∧x.outs.length≤co
def LE (W:World) (p:Option Addr) (L:List NE):Prop:=∀ (k:Nat) (x:NE),L[k]?=some x→∃ g o pi ci pc cc po co,p=some ⟨g,o,none⟩∧W.cell? ⟨g,o+k*5,none⟩=some (.string ⟨x.nm.toArray⟩)∧W.cell? ⟨g,o+k*5+1,none⟩=some (.slice pi x.ins.length ci)∧W.cell? ⟨g,o+k*5+2,none⟩=some (.slice pc x.cubes.length cc)∧W.cell? ⟨g,o+k*5+3,none⟩=some (.string ⟨x.wr.toArray⟩)∧W.cell? ⟨g,o+k*5+4,none⟩=some (.slice po x.outs.length co)∧LEL W x pi ci pc cc po co
def LG (W:World) (p:Option Addr) (L:List NG):Prop:=∀ (k:Nat) (x:NG),L[k]?=some x→∃ g o pc cc,p=some ⟨g,o,none⟩∧W.cell? ⟨g,o+k*2,none⟩=some (.bool x.pm)∧W.cell? ⟨g,o+k*2+1,none⟩=some (.slice pc x.cubes.length cc)∧LS W pc x.cubes∧x.cubes.length≤cc
def LT (W:World) (p:Option Addr) (L:List (List NE)):Prop:=∀ (k:Nat) (x:List NE),L[k]?=some x→∃ g o pt ct,p=some ⟨g,o,none⟩∧W.cell? ⟨g,o+k,none⟩=some (.slice pt x.length ct)∧LE W pt x∧x.length≤ct
def LGS (W:World) (p:Option Addr) (L:List (List NG)):Prop:=∀ (k:Nat) (x:List NG),L[k]?=some x→∃ g o pt ct,p=some ⟨g,o,none⟩∧W.cell? ⟨g,o+k,none⟩=some (.slice pt x.length ct)∧LG W pt x∧x.length≤ct
section
variable {w w':World} {p:Option Addr}
theorem keepC (hb:Below w.heap.size w w') {a:Addr} {v:Value} (h:w.cell? a=some v):w'.cell? a=some v:=(hb.cell (World.block_lt_of_cell? w _ h)).trans h
theorem LI.below {L:List Int} (h:LI w p L) (hb:Below w.heap.size w w'):LI w' p L:=fun k x hx=>by
 obtain ⟨g,o,e,c0⟩:=h k x hx
 exact ⟨g,o,e,keepC hb c0⟩
theorem LS.below {L:List (List UInt8)} (h:LS w p L) (hb:Below w.heap.size w w'):LS w' p L:=fun k x hx=>by
 obtain ⟨g,o,e,c0⟩:=h k x hx
 exact ⟨g,o,e,keepC hb c0⟩
theorem LP.below {L:List NP} (h:LP w p L) (hb:Below w.heap.size w w'):LP w' p L:=fun k x hx=>by
 obtain ⟨g,o,e,c0,c1,c2,c3⟩:=h k x hx
 exact ⟨g,o,e,keepC hb c0,keepC hb c1,keepC hb c2,keepC hb c3⟩
theorem LEL.below {x:NE} {pi:Option Addr} {ci:Nat} {pc:Option Addr} {cc:Nat} {po:Option Addr} {co:Nat} (h:LEL w x pi ci pc cc po co) (hb:Below w.heap.size w w'):LEL w' x pi ci pc cc po co:=⟨h.1.below hb,h.2.1,h.2.2.1.below hb,h.2.2.2.1,h.2.2.2.2.1.below hb,h.2.2.2.2.2⟩
theorem LE.below {L:List NE} (h:LE w p L) (hb:Below w.heap.size w w'):LE w' p L:=fun k x hx=>by
 obtain ⟨g,o,pi,ci,pc,cc,po,co,e,c0,c1,c2,c3,c4,hl⟩:=h k x hx
 exact ⟨g,o,pi,ci,pc,cc,po,co,e,keepC hb c0,keepC hb c1,keepC hb c2,keepC hb c3,keepC hb c4,hl.below hb⟩
theorem LG.below {L:List NG} (h:LG w p L) (hb:Below w.heap.size w w'):LG w' p L:=fun k x hx=>by
 obtain ⟨g,o,pc,cc,e,c0,c1,hl,hc⟩:=h k x hx
 exact ⟨g,o,pc,cc,e,keepC hb c0,keepC hb c1,hl.below hb,hc⟩
theorem LT.below {L:List (List NE)} (h:LT w p L) (hb:Below w.heap.size w w'):LT w' p L:=fun k x hx=>by
 obtain ⟨g,o,pt,ct,e,c0,hl,hc⟩:=h k x hx
 exact ⟨g,o,pt,ct,e,keepC hb c0,hl.below hb,hc⟩
theorem LGS.below {L:List (List NG)} (h:LGS w p L) (hb:Below w.heap.size w w'):LGS w' p L:=fun k x hx=>by
 obtain ⟨g,o,pt,ct,e,c0,hl,hc⟩:=h k x hx
 exact ⟨g,o,pt,ct,e,keepC hb c0,hl.below hb,hc⟩
end
structure NV where
 pp:Option Addr
 cp:Nat
 pt:Option Addr
 ct:Nat
 pg:Option Addr
 cg:Nat
def nnA (n:NN) (v:NV):Array Value:=#[.int .i64 n.bits,.slice v.pp n.ports.length v.cp,.slice v.pt n.tabs.length v.ct,.slice v.pg n.grds.length v.cg]
def LN (W:World) (n:NN) (v:NV):Prop:=LP W v.pp n.ports∧n.ports.length≤v.cp∧LT W v.pt n.tabs∧n.tabs.length≤v.ct∧LGS W v.pg n.grds∧n.grds.length≤v.cg
theorem LN.below {w w':World} {n:NN} {v:NV} (h:LN w n v) (hb:Below w.heap.size w w'):LN w' n v:=⟨h.1.below hb,h.2.1,h.2.2.1.below hb,h.2.2.2.1,h.2.2.2.2.1.below hb,h.2.2.2.2.2⟩
def okS (x:List UInt8):Prop:=x.length≤140737488351232
def okI (L:List Int):Prop:=L.length*8≤140737488351232
def okLs (L:List (List UInt8)):Prop:=L.length*16≤140737488351232∧∀ x∈L,okS x
def okE (x:NE):Prop:=okS x.nm∧okI x.ins∧okLs x.cubes∧okS x.wr∧okI x.outs
def okTab (t:List NE):Prop:=t.length*104≤140737488351232∧∀ e∈t,okE e
def okGl (g:List NG):Prop:=g.length*32≤140737488351232∧∀ l∈g,okLs l.cubes
def okN (n:NN):Prop:=n.ports.length*40≤140737488351232∧(∀ p∈n.ports,okS p.nm)∧n.tabs.length*24≤140737488351232∧(∀ t∈n.tabs,okTab t)∧n.grds.length*24≤140737488351232∧∀ g∈n.grds,okGl g
theorem portAt_of {n:NN} {k:Nat} {x:NP} (h:n.ports[k]?=some x):portAt n (k:Int)=x:=by
 unfold portAt
 rw [Int.toNat_natCast,List.getD_eq_getElem?_getD,h]
 rfl
theorem ext_take (x:List UInt8) (i:Nat) (_h:i≤x.length):ByteArray.extract ⟨x.toArray⟩ 0 i=⟨(x.take i).toArray⟩:=ByteArray.ext (by simp)
theorem sumG_take {g:List NG} {k:Nat} {x:NG} (h:g[k]?=some x):sumG (g.take (k+1))=sumG (g.take k)+x.cubes.length:=by
 unfold sumG
 rw [List.take_add_one,h]
 simp
theorem sumE_take {g:List NE} {k:Nat} {x:NE} (h:g[k]?=some x):sumE (g.take (k+1))=sumE (g.take k)+x.cubes.length:=by
 unfold sumE
 rw [List.take_add_one,h]
 simp
theorem tot_take {α:Type} {L:List (List α)} {k:Nat} {x:List α} (h:L[k]?=some x):((L.take (k+1)).map (·.length)).sum=((L.take k).map (·.length)).sum+x.length:=by
 rw [List.take_add_one,h]
 simp
theorem all_take {α:Type} {P:α→Prop} {L:List α} {k:Nat} {x:α} (h:L[k]?=some x) (h1:∀ y∈L.take k,P y) (h2:P x):∀ y∈L.take (k+1),P y:=fun y hy=>by
 rw [List.take_add_one,h] at hy
 rcases List.mem_append.1 hy with h3 | h3
 ·exact h1 y h3
 ·simp at h3
  rw [h3]
  exact h2
theorem pw_take {L:List Int} {k:Nat} {x:Int} (h:(L.take k).Pairwise (· < ·)) (hx:L[k]?=some x) (hp:k=0∨∃ y,L[k - 1]?=some y∧y < x):(L.take (k+1)).Pairwise (· < ·):=by
 rw [List.take_add_one,hx]
 refine List.pairwise_append.2 ⟨h,List.pairwise_singleton _ _,fun a ha b hb=>?_⟩
 have hb:b=x:=by simpa using hb
 subst hb
 obtain ⟨j,hj,rfl⟩:=List.getElem_of_mem ha
 rw [List.length_take] at hj
 rcases hp with h0 | ⟨y,hy,hlt⟩
 ·omega
 ·rw [List.getElem_take]
  rcases Nat.lt_or_ge j (k - 1) with h1 | h1
  ·have e2:(L.take k)[k - 1]?=some y:=by rw [List.getElem?_take,if_pos (by omega)];exact hy
   obtain ⟨h3,h4⟩:=List.getElem?_eq_some_iff.1 e2
   have:=List.pairwise_iff_getElem.1 h j (k - 1) (by rw [List.length_take];omega) h3 h1
   rw [List.getElem_take,h4] at this
   omega
  ·have:j=k - 1:=by omega
   subst this
   obtain ⟨h3,h4⟩:=List.getElem?_eq_some_iff.1 hy
   rw [h4]
   exact hlt
theorem pw_bad {L:List Int} {k:Nat} {x y:Int} (h:L.Pairwise (· < ·)) (h0:0 < k) (hy:L[k - 1]?=some y) (hx:L[k]?=some x):y < x:=by
 obtain ⟨h1,rfl⟩:=List.getElem?_eq_some_iff.1 hx
 obtain ⟨h2,rfl⟩:=List.getElem?_eq_some_iff.1 hy
 exact List.pairwise_iff_getElem.1 h (k - 1) k h2 h1 (by omega)
theorem nd_take {α:Type} {L:List α} {i:Nat} {x:α} (h:(L.take i).Nodup) (hx:L[i]?=some x) (hp:∀ j y,j < i→L[j]?=some y→y≠x):(L.take (i+1)).Nodup:=by
 rw [List.take_add_one,hx]
 refine List.nodup_append.2 ⟨h,by simp,fun a ha b hb=>?_⟩
 have hb:b=x:=by simpa using hb
 subst hb
 obtain ⟨j,hj,rfl⟩:=List.getElem_of_mem ha
 rw [List.length_take] at hj
 rw [List.getElem_take]
 exact hp j _ (by omega) (List.getElem?_eq_getElem (by omega))
theorem nd_bad {α:Type} {L:List α} {i j:Nat} {x:α} (h:L.Nodup) (hj:j < i) (h1:L[j]?=some x) (h2:L[i]?=some x):False:=by
 obtain ⟨h3,h4⟩:=List.getElem?_eq_some_iff.1 h1
 obtain ⟨h5,h6⟩:=List.getElem?_eq_some_iff.1 h2
 exact (List.pairwise_iff_getElem.1 h j i h3 h5 hj) (h4.trans h6.symm)
def neA (x:NE) (pi:Option Addr) (ci:Nat) (pc:Option Addr) (cc:Nat) (po:Option Addr) (co:Nat):Array Value:=#[.string ⟨x.nm.toArray⟩,.slice pi x.ins.length ci,.slice pc x.cubes.length cc,.string ⟨x.wr.toArray⟩,.slice po x.outs.length co]
theorem alloc2 (w:World) (o:Obj):(w.alloc o).heap.size=w.heap.size+1:=by simp
end Go.Proofs.YtbplhianpelmfaaGreatDoor.Nt
