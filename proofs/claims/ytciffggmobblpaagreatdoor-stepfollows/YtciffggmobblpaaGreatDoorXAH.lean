import Derived.Test.YtciffggmobblpaaGreatDoorXAE
import Derived.Test.YtciffggmobblpaaGreatDoorXAG
import Derived.Test.YtciffggmobblpaaGreatDoorXAA
import Derived.Deep.Quiet
namespace Go.Proofs.YtciffggmobblpaaGreatDoor
open Go.RowKit Go.Shelf
def subL (l:List UInt8) (a b:Nat):List UInt8:=(l.drop a).take (b - a)
theorem ext_sub (l:List UInt8) (a b:Nat):(ByteArray.mk l.toArray).extract a b=⟨(subL l a b).toArray⟩:=ByteArray.ext (by simp [subL,List.take_drop])
theorem subL_len (l:List UInt8) (a b:Nat):(subL l a b).length≤l.length:=by unfold subL;simp;omega
def is01x (c:UInt8):Bool:=c==48 || c==49 || c==120
def faultE (kind:Nat) (t:List UInt8):Nat:=
 if kind=2∨kind=3 then (if (parts t).any (fun n=>decide (24 < n.length)) then 36 else 0)
 else if kind=4 then (valE t).toNat
 else if kind=5 then (if t.drop 1=[]∨32 < (t.drop 1).length∨(t.drop 1).all is01x=false then 44 else 0)
 else if kind=7 then (if t=[] then 30 else 0) else 0
def FOK (w0:World):Prop:=∀ (kind:Nat) (t:List UInt8) (W:World),2≤kind→kind≤7→(kind=5→t≠[])→t.length≤16384→Below w0.heap.size w0 W→
 Calls Tryz.prog 133 #[.int .i64 (kind:Int),.string ⟨t.toArray⟩] W fun e w'=>e=.returned (.int .i64 (faultE kind t:Int))∧Below W.heap.size W w'
theorem faultE_lt (kind:Nat) (t:List UInt8):faultE kind t < 1000:=by
 unfold faultE valE
 repeat' split
 all_goals omega
def wholeR (X:MX) (now fst line head:Nat) (D:List Tok) (kind:Nat) (t:List UInt8) (e:Ending) (w':World):Prop:=
 e=.returned (.int .i64 (faultE kind t:Int))∧∃ v',MS X w' (if faultE kind t=0 then now else fst) fst line head v' (if faultE kind t=0 then D++[(kind,t,line,fst - head+1)] else D)
set_option maxRecDepth 100000 in
set_option maxHeartbeats 2000000 in
theorem whole_any {X:MX} (hC:MC X) (hF:FOK X.w0) {W:World} {now fst line head:Nat} {v:Value} {D:List Tok} (h:MS X W now fst line head v D) {i j:Nat} (hi:AT X.l fst i) (hj:AT X.l now j) (hij:i≤j) (hjl:j≤X.l.length) (hh:head≤fst) (hD:D.length≤65536) (kind:Nat) (k2:2≤kind) (k7:kind≤7) (k5:kind=5→i < j) :
  Calls Tryz.prog 125 #[.pointer (some ⟨X.b,0,none⟩),.int .i64 (kind:Int)] W fun e w'=>wholeR X now fst line head D kind (subL X.l i j) e w':=by
 have hM:Hid (MS X W now fst line head v D):=h
 have hc0:=h.c0
 have hc1:=h.c1
 have hc2:=h.c2
 have hc3:=h.c3
 have hxi:=h.ca hC hi (by omega)
 have hxj:=h.ca hC hj hjl
 have hli:=hi.lt
 have hlj:=hj.lt
 have hlen:=hC.len
 have hle:=hi.le
 have n0:(0:Int)≤(now:Int):=by omega
 have n1:(now:Int) < ((chars X.l 0).length:Int):=by omega
 have n2:(0:Int)≤(fst:Int):=by omega
 have n3:(fst:Int) < ((chars X.l 0).length:Int):=by omega
 have p0:(0:Int)≤(i:Int):=by omega
 have p1:(i:Int)≤(j:Int):=by omega
 have p2:(j:Int)≤(X.l.length:Int):=by omega
 have hT:=ext_sub X.l i j
 obtain ⟨T,hTT⟩:∃ T,subL X.l i j=T:=⟨_,rfl⟩
 have hTl:T.length≤16384:=by rw [←hTT];have:=subL_len X.l i j;omega
 have hT5:kind=5→T≠[]:=fun hk e=>by
  have:=k5 hk
  have h1:=congrArg List.length (hTT.trans e)
  unfold subL at h1
  simp at h1
  omega
 rw [hTT] at hT ⊢
 have HF:Hid (∀ W',Below X.w0.heap.size X.w0 W'→Calls Tryz.prog 133 #[.int .i64 (kind:Int),.string ⟨T.toArray⟩] W' fun e w'=>e=.returned (.int .i64 (faultE kind T:Int))∧Below W'.heap.size W' w'):=fun W' hW=>hF kind T W' k2 k7 hT5 hTl hW
 have HH:Hid (∀ W',MS X W' now fst line head v D→Calls Tryz.prog 129 #[.pointer (some ⟨X.b,0,none⟩),.int .i64 (kind:Int),.string ⟨T.toArray⟩,.int .i64 (fst:Int)] W' fun e w'=>e=.returned (.tuple #[])∧∃ v',MS X w' now fst line head v' (D++[(kind,T,line,fst - head+1)])):=fun W' h'=>hand_any hC h' kind T fst hh (by omega) hD
 have hfl:=faultE_lt kind T
 obtain ⟨f,hf⟩:∃ f,faultE kind T=f:=⟨_,rfl⟩
 unfold wholeR
 rw [hf] at HF hfl ⊢
 have hCC:Hid (MC X):=hC
 clear h hi hj hF hTT hC hf hT5 k5
 by_cases f0:f=0
 ·subst f0
  rw [if_pos rfl,if_pos rfl]
  go_enter Tryz.func125,Tryz.ntmps125
  go_wp2_with fail
  go_quiet (fail)
  go_wp2_with fail
  refine (HF.out _ (by exact (hM.out.drewN _).bel)).mono ?_
  rintro e w1 ⟨rfl,hb1⟩
  have m1:=(hM.out.drewN _).below hb1
  have m3:=m1.c3
  go_wp2_with fail
  refine (HH.out _ m1).mono ?_
  rintro e w2 ⟨rfl,v2,m2⟩
  go_wp2_with fail
  go_ret
  exact ⟨rfl,v2,m2⟩
 ·have e0:((f:Int)==0)=false:=by rw [beq_eq_false_iff_ne];omega
  have e1:((f:Int) != 0)=true:=by rw [bne,e0];rfl
  rw [if_neg f0,if_neg f0]
  go_enter Tryz.func125,Tryz.ntmps125
  go_wp2_with fail
  go_quiet (fail)
  go_wp2_with fail
  refine (HF.out _ (by exact (hM.out.drewN _).bel)).mono ?_
  rintro e w1 ⟨rfl,hb1⟩
  have m1:=(hM.out.drewN _).below hb1
  have m3:=m1.c3
  have m2:=m1.c2
  have f2:=m1.fz 2
  go_wp2_with fail
  go_ret
  exact ⟨rfl,v,m1.setNow hCC.out fst rfl⟩
def quoE (l:List UInt8) (j:Nat):Nat:=
 if (insS l (j+1) []).2.2=33∧kl l (insS l (j+1) []).2.1=1 then 32
 else if (insS l (j+1) []).2.2=0∧256 < (insS l (j+1) []).1.length then 37 else (insS l (j+1) []).2.2
def quoJ (l:List UInt8) (j:Nat):Nat:=if (insS l (j+1) []).2.2=0∧256 < (insS l (j+1) []).1.length then j else (insS l (j+1) []).2.1
theorem insS_e (l:List UInt8):∀ (m j:Nat) (s:List UInt8),l.length - j≤m→(insS l j s).2.2 < 100:=by
 intro m
 induction m with
 | zero=>
  intro j s h
  rw [insS,if_neg (by omega)]
  simp
 | succ m ih=>
  intro j s h
  rw [insS]
  by_cases h1:j < l.length
  ·rw [if_pos h1]
   repeat' split
   all_goals first
    | (simp;done)
    | (refine ih _ _ ?_;have:=dc_pos l j;omega)
  ·rw [if_neg h1];simp
theorem addG (g m:Nat):(⟨g,0,none⟩:Addr).add m=⟨g,m,none⟩:=by unfold Addr.add;split <;> simp_all
set_option maxRecDepth 100000 in
set_option maxHeartbeats 1000000 in
theorem passQuoted_any {X:MX} (hC:MC X) {W:World} {now line head:Nat} {v:Value} {D:List Tok} (h:MS X W now now line head v D) {j:Nat} (hj:AT X.l now j) (hjl:j < X.l.length) (hb:bt X.l j=34) :
  Calls Tryz.prog 128 #[.pointer (some ⟨X.b,0,none⟩)] W fun e w'=>e=.returned (.int .i64 (quoE X.l j:Int))∧∃ k,AT X.l k (quoJ X.l j)∧quoJ X.l j≤X.l.length∧MS X w' k now line head v D:=by
 have hM:Hid (MS X W now now line head v D):=h
 have hc1:=h.c1
 have hc2:=h.c2
 have hj1:=hj.asc hjl (by omega)
 have hlen:=hC.len
 have hle:=hj.le
 have hlt:=hj.lt
 have HP:Hid (∀ W',MS X W' now now line head v D→Calls Tryz.prog 134 #[.slice (some ⟨X.g,0,none⟩) (chars X.l 0).length X.cap,.int .i64 ((now:Int)+1)] W' fun e w'=>pcR2 X.l (j+1) W' e w'):=fun W' h'=>by
  rw [show (now:Int)+1=((now+1:Nat):Int) by omega]
  exact pieces_at X.l (now+1) (j+1) ⟨X.g,0,none⟩ X.cap W' hlen (by omega) hj1 hC.capN (fun k c hc=>by
   rw [addG,addG]
   exact ⟨(cell_of_row W' X.g _ _ _ _ h'.gk).trans (hC.gcc k c hc).1,(cell_of_row W' X.g _ _ _ _ h'.gk).trans (hC.gcc k c hc).2⟩) (hC.sh.below h'.bel)
 have HK:Hid (∀ (W':World) (k:Nat),AT X.l k (insS X.l (j+1) []).2.1→MS X W' k now line head v D→Calls Tryz.prog 115 #[.pointer (some ⟨X.b,0,none⟩)] W' fun e w'=>e=.returned (.int .i64 (kl X.l (insS X.l (j+1) []).2.1:Int))∧MS X w' k now line head v D):=fun W' k hk h'=>class_any hC h' hk
 have HQE:Hid (quoE X.l j=if (insS X.l (j+1) []).2.2=33∧kl X.l (insS X.l (j+1) []).2.1=1 then 32 else if (insS X.l (j+1) []).2.2=0∧256 < (insS X.l (j+1) []).1.length then 37 else (insS X.l (j+1) []).2.2):=rfl
 have HQJ:Hid (quoJ X.l j=if (insS X.l (j+1) []).2.2=0∧256 < (insS X.l (j+1) []).1.length then j else (insS X.l (j+1) []).2.1):=rfl
 have hee:=insS_e X.l _ (j+1) [] (Nat.le_refl _)
 rw [HQE.out,HQJ.out]
 have hCC:Hid (MC X):=hC
 have hJ:Hid (AT X.l now j):=hj
 unfold pcR2 at HP
 have n0:(0:Int)≤(now:Int):=by omega
 have n1:(now:Int)≤16384:=by omega
 obtain ⟨S,hS⟩:∃ S,(insS X.l (j+1) []).1=S:=⟨_,rfl⟩
 obtain ⟨A,hA⟩:∃ A,(insS X.l (j+1) []).2.1=A:=⟨_,rfl⟩
 obtain ⟨E,hE⟩:∃ E,(insS X.l (j+1) []).2.2=E:=⟨_,rfl⟩
 rw [hS,hA,hE] at HP
 rw [hA] at HK
 rw [hE] at hee
 rw [hS,hA,hE]
 obtain ⟨c,hc⟩:∃ c,kl X.l A=c:=⟨_,rfl⟩
 rw [hc] at HK ⊢
 have hS0:0≤(S.length:Int):=by omega
 obtain ⟨QE,hQE⟩:∃ QE,(if E=33∧c=1 then 32 else if E=0∧256 < S.length then 37 else E)=QE:=⟨_,rfl⟩
 obtain ⟨QJ,hQJ⟩:∃ QJ,(if E=0∧256 < S.length then j else A)=QJ:=⟨_,rfl⟩
 rw [hQE,hQJ]
 have HE:Hid ((if E=33∧c=1 then 32 else if E=0∧256 < S.length then 37 else E)=QE):=hQE
 have HJ:Hid ((if E=0∧256 < S.length then j else A)=QJ):=hQJ
 clear h hj hC hj1 hlt HQE HQJ hS hA hE hc hQE hQJ
 go_enter Tryz.func128,Tryz.ntmps128
 go_wp2_with fail
 have hw1:=wrapN now (by omega)
 go_region_held_law (fun W'=>W'.cell? ⟨X.b,1,none⟩=some (.slice (some ⟨X.g,0,none⟩) (chars X.l 0).length X.cap)∧W'.cell? ⟨X.b,2,none⟩=some (.int .i64 (now:Int))) (first | exact ⟨hc1,hc2⟩ | exact ⟨m1.c1,m1.c2⟩) ((go_at_call 134;refine (HP.out _ (MS.drew hM.out)).mono ?_;rintro e w1 ⟨vq,kq,rfl,hk,hAl,hoq,hbq⟩;have m1:=(MS.drew hM.out).below hbq))
 all_goals
  clear hw1 hc1 hc2
  obtain ⟨ad2,c2,rfl⟩:=shapeP hoq
  have m2:=m1.setNow hCC.out kq (z:=(kq:Int)) rfl
  have d2:=m1.c2
  have d3:=m1.c3
  have z2:=m1.fz 2
  have HAT:Hid (AT X.l kq A):=hk
  clear hk hoq hbq HP
  by_cases e33:E=33
  ·subst e33
   have hCl:=HK.out _ kq HAT.out m2
   have hj':A=QJ:=by rw [←HJ.out];simp
   subst hj'
   by_cases c1:c=1
   ·subst c1
    have he':32=QE:=by rw [←HE.out];simp
    subst he'
    go_wp2_with fail
    refine hCl.mono ?_
    rintro e w3 ⟨rfl,m3⟩
    go_wp2_with fail
    go_ret
    exact ⟨rfl,kq,HAT.out,hAl,m3⟩
   ·have he':33=QE:=by rw [←HE.out];simp [c1]
    subst he'
    have e1:((c:Int)==1)=false:=by rw [beq_eq_false_iff_ne];omega
    go_wp2_with fail
    refine hCl.mono ?_
    rintro e w3 ⟨rfl,m3⟩
    go_wp2_with fail
    go_ret
    exact ⟨rfl,kq,HAT.out,hAl,m3⟩
  ·have e3:((E:Int)==33)=false:=by rw [beq_eq_false_iff_ne];omega
   by_cases e00:E=0
   ·subst e00
    by_cases h256:256 < S.length
    ·have he':37=QE:=by rw [←HE.out];simp [h256]
     have hj':j=QJ:=by rw [←HJ.out];simp [h256]
     subst he' hj'
     have i1:(256:Int) < (S.length:Int):=by omega
     have d3':=m2.c3
     have d2':=m2.c2
     have z2':=m2.fz 2
     go_wp2_with fail
     go_ret
     exact ⟨rfl,now,hJ.out,Nat.le_of_lt hjl,m2.setNow hCC.out now rfl⟩
    ·have he':0=QE:=by rw [←HE.out];simp [h256]
     have hj':A=QJ:=by rw [←HJ.out];simp [h256]
     subst he' hj'
     have i1:¬(256:Int) < (S.length:Int):=by omega
     go_wp2_with fail
     go_ret
     first | exact ⟨rfl,kq,HAT.out,hAl,m2⟩ | exact ⟨rfl,kq,HAT.out,m2⟩
   ·have he':E=QE:=by rw [←HE.out];simp [e33,e00]
    have hj':A=QJ:=by rw [←HJ.out];simp [e00]
    subst he' hj'
    have e0:((E:Int)==0)=false:=by rw [beq_eq_false_iff_ne];omega
    go_wp2_with fail
    go_ret
    first | exact ⟨rfl,kq,HAT.out,hAl,m2⟩ | exact ⟨rfl,kq,HAT.out,m2⟩
theorem kl_asc {l:List UInt8} {j:Nat} (h0:kl l j≠0) (h9:kl l j≠9):j < l.length∧bt l j < 128:=by
 have h:0≤chr l j∧chr l j < 128:=by
  have hr:=chr_range l j
  unfold kl cls at h0 h9
  repeat' split at h0
  all_goals first | omega | (simp_all;done) | (simp_all;omega)
 obtain ⟨x,hx⟩:∃ x:Nat,chr l j=(x:Int):=⟨(chr l j).toNat,by omega⟩
 have:=(chr_asc l j x (by omega)).1 hx
 omega
theorem inW_asc {l:List UInt8} {j:Nat} (h:inW l j=true):j < l.length∧bt l j < 128:=by
 have:kl l j=3∨kl l j=4:=by unfold inW at h;simpa using h
 exact kl_asc (by omega) (by omega)
theorem dotA_asc {l:List UInt8} {j c:Nat} (h:dotA l j c=true):j < l.length∧bt l j < 128:=by
 have:kl l j=5∧kl l (j+1)=c:=by unfold dotA at h;simpa using h
 exact kl_asc (by omega) (by omega)
def wrun (l:List UInt8) (j:Nat):Nat:=if h:inW l j=true then wrun l (j+1) else j
termination_by l.length - j
decreasing_by
 have:=(inW_asc h).1
 omega
theorem wrun_yes {l:List UInt8} {j:Nat} (h:inW l j=true):wrun l j=wrun l (j+1):=by rw [wrun,dif_pos h]
theorem wrun_no {l:List UInt8} {j:Nat} (h:inW l j=false):wrun l j=j:=by rw [wrun,dif_neg (by simp [h])]
def nrun (l:List UInt8) (j:Nat):Nat:=if h:(inW l j || dotA l j 4)=true then nrun l (j+1) else j
termination_by l.length - j
decreasing_by
 have:j < l.length:=by
  rcases Bool.or_eq_true_iff.1 h with h | h
  ·exact (inW_asc h).1
  ·exact (dotA_asc h).1
 omega
theorem nrun_yes {l:List UInt8} {j:Nat} (h:(inW l j || dotA l j 4)=true):nrun l j=nrun l (j+1):=by rw [nrun,dif_pos h]
theorem nrun_no {l:List UInt8} {j:Nat} (h:(inW l j || dotA l j 4)=false):nrun l j=j:=by rw [nrun,dif_neg (by simp [h])]
def endF (lab:Nat) (l:List UInt8) (j:Nat):Nat×Nat:=
 if lab=0 then (if dotA l (wrun l (j+1)) 3=true then (3,wrun l (wrun l (j+1)+1)) else (2,wrun l (j+1)))
 else if lab=4 then (3,wrun l (j+1)) else if lab=1 then (4,nrun l (j+1)) else if lab=2 then (5,wrun l (j+1)) else (6,quoJ l j)
def tokC (l:List UInt8) (j:Nat):Nat×Nat:=
 if kl l j=3 then endF 0 l j else if kl l j=4 then endF 1 l j else if kl l j=6 then endF 2 l j else if kl l j=7 then endF 3 l j else (7,j+sgn (l.drop j))
def tokE (l:List UInt8) (j:Nat):Nat:=if kl l j=7∧quoE l j≠0 then quoE l j else faultE (tokC l j).1 (subL l j (tokC l j).2)
def tokJ (l:List UInt8) (j:Nat):Nat:=if kl l j=7∧quoE l j≠0 then quoJ l j else if faultE (tokC l j).1 (subL l j (tokC l j).2)=0 then (tokC l j).2 else j
def tokR (X:MX) (now line head j:Nat) (D:List Tok) (e:Ending) (w':World):Prop:=
 e=.returned (.int .i64 (tokE X.l j:Int))∧∃ now' v',AT X.l now' (tokJ X.l j)∧MS X w' now' now line head v' (if tokE X.l j=0 then D++[((tokC X.l j).1,subL X.l j (tokC X.l j).2,line,now - head+1)] else D)
theorem sgn_pre (r:List UInt8):sgn r≤r.length∧(∀ k,k < sgn r→∃ c,r[k]?=some c∧c.toNat < 128):=by
 unfold sgn
 cases hf:signsL.find? (fun s=>Lib.hasPrefix r s) with
 | none=>simp
 | some z=>
  have hz:=List.find?_some hf
  have hm:=List.mem_of_find?_eq_some hf
  unfold Lib.hasPrefix at hz
  rw [List.isPrefixOf_iff_prefix] at hz
  obtain ⟨t,ht⟩:=hz
  have hall:∀ s∈signsL,∀ c∈s,c.toNat < 128:=by decide
  simp only [Option.map_some,Option.getD_some]
  refine ⟨by rw [←ht];simp,fun k hk=>?_⟩
  refine ⟨z[k],by rw [←ht,List.getElem?_append_left hk,List.getElem?_eq_getElem hk],hall z hm _ (List.getElem_mem hk)⟩
theorem at_run {l:List UInt8}:∀ (n now j:Nat),AT l now j→(∀ k,k < n→j+k < l.length∧bt l (j+k) < 128)→AT l (now+n) (j+n)
 | 0,_,_,h,_=>h
 | n+1,now,j,h,hk=>by
  have h1:=h.asc (hk 0 (by omega)).1 (hk 0 (by omega)).2
  have:=at_run n (now+1) (j+1) h1 (fun k hk'=>by
   have:=hk (k+1) (by omega)
   rw [show j+1+k=j+(k+1) by omega]
   exact this)
  rw [show now+(n+1)=now+1+n by omega,show j+(n+1)=j+1+n by omega]
  exact this
theorem at_sgn {l:List UInt8} {now j:Nat} (h:AT l now j) (hj:j≤l.length):AT l (now+sgn (l.drop j)) (j+sgn (l.drop j))∧j+sgn (l.drop j)≤l.length:=by
 obtain ⟨h1,h2⟩:=sgn_pre (l.drop j)
 rw [List.length_drop] at h1
 refine ⟨at_run _ _ _ h (fun k hk=>?_),by omega⟩
 obtain ⟨c,hc,hlt⟩:=h2 k hk
 rw [List.getElem?_drop] at hc
 exact ⟨by omega,by rw [bt_of hc];exact hlt⟩
def mNow (X:MX) (W:World):Nat:=(chars X.l 0).length - (intOf ((W.cell? ⟨X.b,2,none⟩).getD undef)).toNat
theorem mNow_of {X:MX} {W:World} {now fst line head:Nat} {v:Value} {D:List Tok} (h:MS X W now fst line head v D):mNow X W=(chars X.l 0).length - now:=by
 unfold mNow
 rw [h.c2]
 simp [intOf]
theorem kl0 {l:List UInt8} {j:Nat}:kl l j=0↔¬j < l.length:=by
 unfold kl cls
 by_cases h:j < l.length
 ·have:chr l j≠-2:=by unfold chr;rw [if_pos h];split <;> omega
  rw [if_neg this]
  constructor
  ·intro h2
   repeat' split at h2
   all_goals omega
  ·intro h2;exact absurd h h2
 ·have:chr l j=-2:=by unfold chr;rw [if_neg h]
  rw [if_pos this]
  simp [h]
def cend (l:List UInt8) (j:Nat):Nat:=if _h:j < l.length then (if kl l j=1 then j else cend l (j+(dc l j).2)) else j
termination_by l.length - j
decreasing_by
 have:=dc_pos l j
 omega
theorem cend_end {l:List UInt8} {j:Nat} (h:kl l j=1∨kl l j=0):cend l j=j:=by
 rw [cend]
 split
 ·rename_i hj
  rcases h with h | h
  ·rw [if_pos h]
  ·exact absurd hj (kl0.1 h)
 ·rfl
theorem cend_on {l:List UInt8} {j:Nat} (h1:kl l j≠1) (h0:kl l j≠0):cend l j=cend l (j+(dc l j).2):=by
 rw [cend]
 have hj:j < l.length:=Classical.byContradiction (fun h=>h0 (kl0.2 h))
 rw [dif_pos hj,if_neg h1]
abbrev Res:=List Tok×Nat×Nat×Nat
def runM:Nat→List UInt8→Nat→Nat→Nat→List Tok→Res
 | 0,_,_,_,_,D=>(D,0,0,0)
 | f+1,l,j,line,hb,D=>
  if kl l j=2 then runM f l (j+1) line hb D
  else if kl l j=8∨kl l j=1∨kl l j=0 then
   let e:=if kl l j=8 then cend l (j+1) else j
   let D':=endT D line (ci l e - ci l hb+1)
   if kl l e=0 then (D',0,0,0) else runM f l (e+1) (line+1) (e+1) D'
  else if tokE l j=0 then runM f l (tokJ l j) line hb (D++[((tokC l j).1,subL l j (tokC l j).2,line,ci l j - ci l hb+1)])
  else ([],tokE l j,line,ci l (tokJ l j) - ci l hb+1)
def lendM (f:Nat) (l:List UInt8) (e line hb:Nat) (D:List Tok):Res:=
 if kl l e=0 then (endT D line (ci l e - ci l hb+1),0,0,0) else runM f l (e+1) (line+1) (e+1) (endT D line (ci l e - ci l hb+1))
theorem runM_blank {f:Nat} {l:List UInt8} {j line hb:Nat} {D:List Tok} (h:kl l j=2):runM (f+1) l j line hb D=runM f l (j+1) line hb D:=by rw [runM,if_pos h]
theorem runM_hash {f:Nat} {l:List UInt8} {j line hb:Nat} {D:List Tok} (h:kl l j=8):runM (f+1) l j line hb D=lendM f l (cend l (j+1)) line hb D:=by
 rw [runM,if_neg (by omega),if_pos (.inl h),if_pos h]
 rfl
theorem runM_end {f:Nat} {l:List UInt8} {j line hb:Nat} {D:List Tok} (h:kl l j=1∨kl l j=0):runM (f+1) l j line hb D=lendM f l j line hb D:=by
 have h8:¬kl l j=8:=by omega
 rw [runM,if_neg (by omega),if_pos (.inr h)]
 simp only [if_neg h8]
 rfl
theorem runM_tok {f:Nat} {l:List UInt8} {j line hb:Nat} {D:List Tok} (h2:kl l j≠2) (h8:kl l j≠8) (h1:kl l j≠1) (h0:kl l j≠0) (he:tokE l j=0):runM (f+1) l j line hb D=runM f l (tokJ l j) line hb (D++[((tokC l j).1,subL l j (tokC l j).2,line,ci l j - ci l hb+1)]):=by
 rw [runM,if_neg h2,if_neg (by omega),if_pos he]
theorem runM_err {f:Nat} {l:List UInt8} {j line hb:Nat} {D:List Tok} (h2:kl l j≠2) (h8:kl l j≠8) (h1:kl l j≠1) (h0:kl l j≠0) (he:tokE l j≠0):runM (f+1) l j line hb D=([],tokE l j,line,ci l (tokJ l j) - ci l hb+1):=by
 rw [runM,if_neg h2,if_neg (by omega),if_neg he]
theorem chars_ge (l:List UInt8):∀ (m j:Nat),l.length - j≤m→j≤l.length→∀ c∈chars l j,j≤c.2
 | m,j,hm,hj=>by
  intro c hc
  by_cases h:j < l.length
  ·have hp:=dc_pos l j
   have hl:=dc_le l j h
   match m,hm with
   | 0,hm=>omega
   | m+1,hm=>
    rw [chars_lt h] at hc
    rcases List.mem_cons.1 hc with e | e
    ·rw [e];exact Nat.le_refl _
    ·have:=chars_ge l m (j+(dc l j).2) (by omega) hl c e
     omega
  ·rw [chars_end h] at hc
   rw [List.mem_singleton.1 hc]
   exact hj
theorem at_mono {l:List UInt8} {n m i j:Nat} (h1:AT l n i) (h2:AT l m j) (hij:i < j) (hj:j≤l.length):n < m:=by
 refine Classical.byContradiction (fun hc=>?_)
 have h3:(chars l j).drop (n - m)=chars l i:=by
  rw [←h2,List.drop_drop,show m+(n - m)=n by omega]
  exact h1
 have h4:((chr l i,i):Int×Nat)∈chars l j:=by
  obtain ⟨r,hr⟩:=chars_head l i
  rw [if_pos (by omega)] at hr
  rw [hr] at h3
  exact List.mem_of_mem_drop (by rw [h3];exact List.mem_cons_self)
 have:=chars_ge l _ j (Nat.le_refl _) hj _ h4
 simp only at this
 omega
theorem wrun_ge (l:List UInt8):∀ (m j:Nat),l.length - j≤m→j≤wrun l j∧(j≤l.length→wrun l j≤l.length)
 | m,j,hm=>by
  cases h:inW l j with
  | false=>rw [wrun_no h];exact ⟨Nat.le_refl _,fun h=>h⟩
  | true=>
   have hj:=(inW_asc h).1
   match m,hm with
   | 0,hm=>omega
   | m+1,hm=>
    have:=wrun_ge l m (j+1) (by omega)
    rw [wrun_yes h]
    exact ⟨by omega,fun _=>this.2 (by omega)⟩
theorem nrun_ge (l:List UInt8):∀ (m j:Nat),l.length - j≤m→j≤nrun l j∧(j≤l.length→nrun l j≤l.length)
 | m,j,hm=>by
  cases h:(inW l j || dotA l j 4) with
  | false=>rw [nrun_no h];exact ⟨Nat.le_refl _,fun h=>h⟩
  | true=>
   have hj:j < l.length:=by
    rcases Bool.or_eq_true_iff.1 h with h | h
    ·exact (inW_asc h).1
    ·exact (dotA_asc h).1
   match m,hm with
   | 0,hm=>omega
   | m+1,hm=>
    have:=nrun_ge l m (j+1) (by omega)
    rw [nrun_yes h]
    exact ⟨by omega,fun _=>this.2 (by omega)⟩
end Go.Proofs.YtciffggmobblpaaGreatDoor
namespace Go.Proofs.YtciffggmobblpaaGreatDoor
open Go
def lastB (ops:Array Oper) (n:Nat):Bool:=
 (n+1==ops.size)&&((List.range ops.size).all fun i=>(ops[i]?.map fun o=>o.after.all fun e=>!Region.binds .any e || decide (e.on < i)).getD true)
 && ((List.range n).all fun i=>(List.range ops.size).any fun j=>decide (i < j)&&(ops[j]?.map fun o=>o.after.any fun e=>Region.binds .any e&&e.on==i).getD false)
section
variable {P:Program} {ops:Array Oper} {C:World→Prop} {n:Nat}
theorem lastB_size (h:lastB ops n=true):n+1=ops.size:=by
 unfold lastB at h
 simp only [Bool.and_eq_true,beq_iff_eq] at h
 exact h.1.1
theorem lastB_back (h:lastB ops n=true) {i:Nat} {o:Oper} (ho:ops[i]?=some o):∀ e∈o.after,Region.binds .any e=true→e.on < i:=by
 unfold lastB at h
 simp only [Bool.and_eq_true,List.all_eq_true,List.mem_range] at h
 have hi:i < ops.size:=(Array.getElem?_eq_some_iff.1 ho).1
 have:=h.1.2 i hi
 rw [ho] at this
 simp only [Option.map_some,Option.getD_some,Array.all_eq_true_iff_forall_mem] at this
 intro e he hb
 have:=this e he
 simpa [hb] using this
theorem lastB_next (h:lastB ops n=true) {i:Nat} (hi:i < n):∃ j o e,i < j∧j≤n∧ops[j]?=some o∧e∈o.after∧Region.binds .any e=true∧e.on=i:=by
 have hs:=lastB_size h
 unfold lastB at h
 simp only [Bool.and_eq_true,List.all_eq_true,List.mem_range] at h
 obtain ⟨j,hj,hj2⟩:=List.any_eq_true.1 (h.2 i hi)
 rw [List.mem_range] at hj
 simp only [Bool.and_eq_true,decide_eq_true_eq] at hj2
 obtain ⟨hij,hj3⟩:=hj2
 cases ho:ops[j]? with
 | none=>rw [ho] at hj3;simp at hj3
 | some o=>
  rw [ho] at hj3
  simp only [Option.map_some,Option.getD_some] at hj3
  obtain ⟨e,he,hb⟩:=Array.any_eq_true'.1 hj3
  simp only [Bool.and_eq_true,beq_iff_eq] at hb
  exact ⟨j,o,e,hij,by omega,ho,he,hb.1,hb.2⟩
def DCL (ops:Array Oper) (listed:Array Bool):Prop:=∀ i o,ops[i]?=some o→listed.getD i false=true→∀ e∈o.after,Region.binds .any e=true→listed.getD e.on false=true
theorem gdl_of {listed:Array Bool} {i:Nat} (hs:i < listed.size):listed.getD i true=listed.getD i false:=by simp [hs]
theorem all_of_ready (h:lastB ops n=true) {listed:Array Bool} (hd:DCL ops listed) (hn:n∈Region.ready .any ops listed):∀ (d i:Nat),n - i≤d→i < n→listed.getD i false=true
 | 0,i,hd0,hi=>by omega
 | d+1,i,hd0,hi=>by
  obtain ⟨j,o,e,hij,hjn,ho,he,hb,rfl⟩:=lastB_next h hi
  by_cases hj:j=n
  ·subst hj
   obtain ⟨_,o',ho',hall⟩:=mem_ready.1 hn
   obtain rfl:=Option.some.inj (ho.symm.trans ho')
   exact hall e he hb
  ·exact hd j o ho (all_of_ready h hd hn d j (by omega) (by omega)) e he hb
theorem all_of_nil (h:lastB ops n=true) {listed:Array Bool} (hs:listed.size=ops.size) (hr:Region.ready .any ops listed=[]):∀ i,i < ops.size→listed.getD i false=true:=by
 intro i
 induction i using Nat.strongRecOn with
 | _ i ih=>
  intro hi
  refine Classical.byContradiction (fun hc=>?_)
  have:i∈Region.ready .any ops listed:=by
   refine mem_ready.2 ⟨by rw [gdl_of (by omega)];simpa using hc,ops[i],Array.getElem?_eq_getElem hi,fun e he hb=>?_⟩
   have:=lastB_back h (Array.getElem?_eq_getElem hi) e he hb
   exact ih _ this (by omega)
  rw [hr] at this
  cases this
theorem nil_of_all {listed:Array Bool} (hs:listed.size=ops.size) (ha:∀ i,i < ops.size→listed.getD i false=true):Region.ready .any ops listed=[]:=by
 refine List.eq_nil_iff_forall_not_mem.2 (fun i hi=>?_)
 obtain ⟨h0,o,ho,_⟩:=mem_ready.1 hi
 have hlt:i < ops.size:=(Array.getElem?_eq_some_iff.1 ho).1
 rw [gdl_of (by omega),ha i hlt] at h0
 cases h0
theorem gdl_self {listed:Array Bool} {i:Nat} (hs:i < listed.size) (d:Bool):(listed.setIfInBounds i true).getD i d=true:=by simp [hs]
theorem wpAny_of_last (h:lastB ops n=true) {Q':Exit→Act→World→Prop}:∀ (fuel:Nat) (listed:Array Bool) (a:Act) (w:World),listed.size=ops.size→C w→listed.getD n true=false→DCL ops listed→
  wpAnyQ P .any ops C (fun a'=>∀ w',C w'→wpOp P ops Q' n (Q' .normal) a' w') fuel (listed.setIfInBounds n true) a→wpAny P .any ops Q' (fuel+1) listed a w:=by
 have hsz:=lastB_size h
 intro fuel
 induction fuel with
 | zero=>
  intro listed a w hs hw hn hd hq
  have hall:=all_of_nil h (listed:=listed.setIfInBounds n true) (by simpa using hs) hq.1
  have hothers:∀ i,i < n→listed.getD i false=true:=fun i hi=>by
   have:=hall i (by omega)
   rw [getD_set_ne false (by omega)] at this
   exact this
  refine ⟨fun h0=>?_,fun i hi=>?_⟩
  ·have:n∈Region.ready .any ops listed:=mem_ready.2 ⟨hn,ops[n]'(by omega),Array.getElem?_eq_getElem _,fun e he hb=>hothers _ (lastB_back h (Array.getElem?_eq_getElem (by omega)) e he hb)⟩
   rw [h0] at this
   cases this
  ·obtain ⟨h0,o,ho,_⟩:=mem_ready.1 hi
   have hlt:i < ops.size:=(Array.getElem?_eq_some_iff.1 ho).1
   have hin:i=n:=by
    refine Classical.byContradiction (fun hne=>?_)
    rw [gdl_of (by omega),hothers i (by omega)] at h0
    cases h0
   subst hin
   exact wpOp_mono (fun a' w' hQ=>⟨hq.1,hQ⟩) (hq.2 w hw)
 | succ fuel ih=>
  intro listed a w hs hw hn hd hq
  refine ⟨fun h0=>?_,fun i hi=>?_⟩
  ·exfalso
   have hr:Region.ready .any ops (listed.setIfInBounds n true)=[]:=by
    refine List.eq_nil_iff_forall_not_mem.2 (fun i hi=>?_)
    obtain ⟨h1,o,ho,hall⟩:=mem_ready.1 hi
    have hne:n≠i:=fun e=>by
     subst e
     rw [gdl_self (by omega)] at h1
     cases h1
    have hlt:i < ops.size:=(Array.getElem?_eq_some_iff.1 ho).1
    have:i∈Region.ready .any ops listed:=mem_ready.2 ⟨by rw [getD_set_ne true hne] at h1;exact h1,o,ho,fun e he hb=>by
     have h2:=hall e he hb
     have h3:=lastB_back h ho e he hb
     rw [getD_set_ne false (by omega)] at h2
     exact h2⟩
    rw [h0] at this
    cases this
   have hall:=all_of_nil h (listed:=listed.setIfInBounds n true) (by simpa using hs) hr
   have:n∈Region.ready .any ops listed:=mem_ready.2 ⟨hn,ops[n]'(by omega),Array.getElem?_eq_getElem _,fun e he hb=>by
    have h3:=lastB_back h (Array.getElem?_eq_getElem (by omega)) e he hb
    have:=hall e.on (by omega)
    rw [getD_set_ne false (by omega)] at this
    exact this⟩
   rw [h0] at this
   cases this
  ·by_cases hin:i=n
   ·subst hin
    have ha:=fun (k:Nat) (hk:k < i)=>all_of_ready h hd hi i k (by omega) hk
    have hr:Region.ready .any ops (listed.setIfInBounds i true)=[]:=nil_of_all (by simpa using hs) (fun k hk=>by
     by_cases hk2:k=i
     ·subst hk2;exact gdl_self (by omega) _
     ·rw [getD_set_ne false (fun e=>hk2 e.symm)];exact ha k (by omega))
    refine wpOp_mono (fun a' w' hQ=>⟨fun _=>hQ,fun j hj=>?_⟩) (hq.1 hr w hw)
    rw [hr] at hj
    cases hj
   ·have hq2:=hq.2 i (ready_mono hi hin)
    refine wpOp_of_qOp hw (fun a' w' hw' hK=>ih (listed.setIfInBounds i true) a' w' (by simpa using hs) hw' ?_ ?_ ?_) hq2
    ·rw [getD_set_ne true hin];exact hn
    ·intro k o ho hk e he hb
     by_cases hki:k=i
     ·subst hki
      obtain ⟨_,o',ho',hall⟩:=mem_ready.1 hi
      obtain rfl:=Option.some.inj (ho.symm.trans ho')
      exact getD_set_true (hall e he hb)
     ·rw [getD_set_ne false (fun x=>hki x.symm)] at hk
      exact getD_set_true (hd k o ho hk e he hb)
    ·rw [Array.setIfInBounds_comm _ _ hin]
     exact hK
theorem lex_part {Q:Act→Prop} (hs:Region.noSelect ops=true):∀ (l:List Oper) (k:Nat) (listed:Array Bool) (a:Act),(∀ j,j < l.length→l[j]?=ops[k+j]?)→
  Region.lexFrom .any ops l.length k listed=true→wpQuiet P ops C Q l a→wpAnyQ P .any ops C Q l.length listed a:=by
 intro l
 induction l with
 | nil=>intro k listed a _ hB h;exact ⟨by simpa [Region.lexFrom] using hB,h⟩
 | cons o l ih=>
  intro k listed a hl hB h
  have h0:ops[k]?=some o:=by
   have:=hl 0 (by simp)
   simpa using this.symm
  simp only [List.length_cons,Region.lexFrom,Bool.and_eq_true] at hB
  obtain ⟨⟨hr,hf⟩,hB'⟩:=hB
  have hst:qOp P ops C k (wpQuiet P ops C Q l) a:=by unfold qOp;simp only [h0];exact h
  obtain ⟨v,hy,hK⟩:=yieldsIn_of_qOp h0 hst
  refine wpAnyQ_first h0 (Region.noSelect_spec hs) l.length listed a (Region.free_spec h0 hf) (by simpa using hr) hy (ih (k+1) _ _ (fun j hj=>?_) hB' hK)
  have:=hl (j+1) (by simp;omega)
  rw [show k+1+j=k+(j+1) by omega,←this]
  simp
end
theorem quiet_last {P:Program} {id:Nat} {Q:Exit→Act→World→Prop} {a:Act} {w:World} {l:List Oper} {C:World→Prop} (hm:P.follows .mixedOrders=true) (h1:Region.noSelect l.toArray=true) (h2:lastB l.toArray l.dropLast.length=true)
  (h3:Region.lexFrom .any l.toArray l.dropLast.length 0 ((Array.replicate l.toArray.size false).setIfInBounds l.dropLast.length true)=true) (hC:C w.drew)
  (h:wpQuiet P l.toArray C (fun a'=>∀ w',C w'→wpOp P l.toArray Q l.dropLast.length (Q .normal) a' w') l.dropLast a):(Code.region id l.toArray true).wp P Q a w:=by
 have hsz:=lastB_size h2
 refine wp_region_any hm ?_
 rw [←hsz]
 have hsl:l.dropLast.length < l.length:=by simpa using (by rw [←hsz];omega:l.dropLast.length < l.toArray.size)
 refine wpAny_of_last (C:=C) h2 l.dropLast.length (Array.replicate (l.dropLast.length+1) false) a _ (by simpa using hsz) hC (by simp) (fun i o _ hi=>?_) ?_
 ·have h0:(Array.replicate (l.dropLast.length+1) false).getD i false=false:=by unfold Array.getD;split <;> simp
  rw [h0] at hi
  cases hi
 ·rw [hsz]
  exact lex_part h1 l.dropLast 0 _ a (fun j hj=>by simp [List.getElem?_dropLast] ;omega) h3 h
end Go.Proofs.YtciffggmobblpaaGreatDoor
