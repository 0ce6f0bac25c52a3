import Derived.Test.YtmfakcfmkmppfaaGreatDoorVAO
import Derived.Maps.OwnSet
import Derived.StringKeys
import Derived.Laws.MakeOwn
namespace Go.Proofs.YtmfakcfmkmppfaaGreatDoor.Nt
open Go.RowKit Go.Shelf
set_option maxRecDepth 100000 in
set_option maxHeartbeats 8000000 in
theorem zox (n:NN) (v:NV) (x:NP) (w:World) (hN:LN w n v) (hx:okS x.nm) (hT:TAB w) :
  Calls Tryz.prog 110 #[.agg (nnA n v),.agg #[.string ⟨x.nm.toArray⟩,.int .i64 x.bx,.bool x.inn,.int .i64 x.lk]] w (BQ (zdi n x) w):=by
 obtain ⟨pp,cp,pt,ct,pg,cg⟩:=v;unfold nnA;simp only at hN ⊢;obtain ⟨W1,hW1⟩:=ex ((w.alloc (Obj.cells #[.int .i64 n.bits,.slice pp n.ports.length cp,.slice pt n.tabs.length ct,.slice pg n.grds.length cg] 26)).alloc (Obj.cells #[.string ⟨x.nm.toArray⟩,.int .i64 x.bx,.bool x.inn,.int .i64 x.lk] 84));have b1:Below w.heap.size w W1:=by rw [<-hW1];exact zah (zah (Below.refl _ _) _) _
 obtain ⟨B,hB⟩:=ex w.heap.size;obtain ⟨E,hEB⟩:=ex (B+1);have k1:W1.heap[B]?=some (.cells #[.int .i64 n.bits,.slice pp n.ports.length cp,.slice pt n.tabs.length ct,.slice pg n.grds.length cg] 26 (0,0)):=by rw [<-hW1,<-hB];exact zae (zah (Below.refl _ _) _) (zaa _ _)
 have k2:W1.heap[E]?=some (.cells #[.string ⟨x.nm.toArray⟩,.int .i64 x.bx,.bool x.inn,.int .i64 x.lk] 84 (0,0)):=by
  have:=zaa (w.alloc (Obj.cells #[.int .i64 n.bits,.slice pp n.ports.length cp,.slice pt n.tabs.length ct,.slice pg n.grds.length cg] 26)) (Obj.cells #[.string ⟨x.nm.toArray⟩,.int .i64 x.bx,.bool x.inn,.int .i64 x.lk] 84);rw [zr6,hB,hEB,hW1] at this;exact this
 have HC:Hid (∀ U,Below W1.heap.size W1 U->U.cell? ⟨B,0,none⟩=some (.int .i64 n.bits)/\U.cell? ⟨B,1,none⟩=some (.slice pp n.ports.length cp)/\U.cell? ⟨B,2,none⟩=some (.slice pt n.tabs.length ct)/\U.cell? ⟨B,3,none⟩=some (.slice pg n.grds.length cg)/\U.cell? ⟨E,0,none⟩=some (.string ⟨x.nm.toArray⟩)/\U.cell? ⟨E,1,none⟩=some (.int .i64 x.bx)/\U.cell? ⟨E,2,none⟩=some (.bool x.inn)/\U.cell? ⟨E,3,none⟩=some (.int .i64 x.lk)):=fun U hU=>by
  have h1:=(zaf (zae hU k1)).1;have h2:=(zaf (zae hU k2)).1;exact ⟨by rw [h1];rfl,by rw [h1];rfl,by rw [h1];rfl,by rw [h1];rfl,by rw [h2];rfl,by rw [h2];rfl,by rw [h2];rfl,by rw [h2];rfl⟩
 have HNN:Hid (∀ U,Below W1.heap.size W1 U->LN U n ⟨pp,cp,pt,ct,pg,cg⟩):=fun U hU=>hN.below (zac b1 hU);have HNU:Hid (∀ U (z:Int),Below W1.heap.size W1 U->Calls Tryz.prog 118 #[.agg #[.int .i64 n.bits,.slice pp n.ports.length cp,.slice pt n.tabs.length ct,.slice pg n.grds.length cg],.int .i64 z] U (BQ (NumP n z) U)):=fun U z hU=>zlu n ⟨pp,cp,pt,ct,pg,cg⟩ z U (HNN.out U hU);have H1:=zng x.nm W1 hx (hT.at b1);obtain ⟨EP,hEP⟩:∃ EP:Prop,zdi n x=EP:=⟨_,rfl⟩;have HEP:Hid (EP=zdi n x):=hEP.symm;have HQT:Hid (∀ U,Below W1.heap.size W1 U->EP->BQ EP w (.returned (.bool true)) U):=fun U hU h=>BQ.yes h (zac b1 hU);have HQF:Hid (∀ U,Below W1.heap.size W1 U->¬EP->BQ EP w (.returned (.bool false)) U):=fun U hU h=>BQ.no h (zac b1 hU);have HBB:Hid (w.heap.size=B/\B+1=E):=⟨hB,hEB⟩;have HW:=zab hW1;rw [hEP];clear k1 k2 b1 hB hEB hW1 hN hx hT hEP;obtain ⟨q0,q1,q2,q3,e0,e1,e2,e3⟩:=HC.out W1 (Below.refl _ _)
 go_enter Tryz.func110,Tryz.ntmps110
 go_upto_region 1 with fail
 rw [HW.out,HBB.out.1,HBB.out.2]
 go_wp2_with fail
 refine H1.mono ?_;rintro e W2 ⟨rfl,b2⟩;have HB2:=zab b2;clear H1 b2 q0 q1 q2 q3 e0 e1 e2 e3;obtain ⟨q0,q1,q2,q3,e0,e1,e2,e3⟩:=HC.out W2 HB2.out;have HEX:Hid (EP->zdi n x):=fun h=>HEP.out ▸ h;cases hf:zcw x.nm with
 | false=>
  have HQ:=zab (HQF.out W2 HB2.out (fun h=>by have:=(HEX.out h).1;rw [hf] at this;cases this));clear hf
  go_wp2_with fail
  go_ret
  exact HQ.out
 | true=>
  by_cases hb0:x.bx < (0:Int)
  ·have HQ:=zab (HQF.out W2 HB2.out (fun h=>by have:=(HEX.out h).2.1;omega))
   clear hf
   go_wp2_with fail
   go_ret
   exact HQ.out
  by_cases hb1:(n.tabs.length:Int)<=x.bx
  ·have j4:¬x.bx < (n.tabs.length:Int):=by omega
   have HQ:=zab (HQF.out W2 HB2.out (fun h=>by have:=(HEX.out h).2.2.1;omega));clear hf
   go_wp2_with fail
   go_ret
   exact HQ.out
  have j4:x.bx < (n.tabs.length:Int):=by omega
  have HBX:Hid (zcw x.nm=true/\0<=x.bx/\x.bx < (n.tabs.length:Int)):=⟨hf,by omega,j4⟩;clear hf
  by_cases hl1:x.lk=-1
  ·have y1:(x.lk==-1)=true:=beq_iff_eq.2 hl1
   have HQ:=zab (HQT.out W2 HB2.out (HEP.out ▸ (⟨HBX.out.1,HBX.out.2.1,HBX.out.2.2,.inl hl1⟩:zdi n x)));clear hl1
   go_wp2_with fail
   go_ret
   exact HQ.out
  have y1:(x.lk==-1)=false:=beq_eq_false_iff_ne.2 hl1;have HLK:Hid (EP->x.inn=false/\0<=x.lk/\x.lk < (n.ports.length:Int)/\(zal n x.lk).inn=true):=fun h=>by
   rcases (HEX.out h).2.2.2 with h9 | h9
   ·exact absurd h9 hl1
   ·exact h9
  clear hl1;cases hin:x.inn with
  | true=>
   rw [hin] at e2;have HQ:=zab (HQF.out W2 HB2.out (fun h=>by have:=(HLK.out h).1;rw [hin] at this;cases this));clear hin
   go_wp2_with fail
   go_ret
   exact HQ.out
  | false=>
   rw [hin] at e2;have H2:=HNU.out W2 x.lk HB2.out;have HIN:=zab hin;clear hin
   go_wp2_with fail
   refine H2.mono ?_;rintro e W3 ⟨rfl,b3⟩;have HB3:Hid (Below W1.heap.size W1 W3):=zac HB2.out b3;clear H2 b3 q0 q1 q2 q3 e0 e1 e2 e3;obtain ⟨q0,q1,q2,q3,e0,e1,e2,e3⟩:=HC.out W3 HB3.out;cases hp:pb (NumP n x.lk) with
   | false=>
    have HQ:=zab (HQF.out W3 HB3.out (fun h=>za6 hp ⟨(HLK.out h).2.1,(HLK.out h).2.2.1⟩));clear hp
    go_wp2_with fail
    go_ret
    exact HQ.out
   | true=>
    obtain ⟨h0,h1⟩:=za0.1 hp;obtain ⟨l,hl9⟩:∃ l:Nat,x.lk=(l:Int):=⟨x.lk.toNat,by omega⟩;obtain ⟨y,hy⟩:∃ y,n.ports[l]?=some y:=⟨_,List.getElem?_eq_getElem (by omega)⟩;obtain ⟨g,o,e5,c0,c1,c2,c3⟩:=(HNN.out W3 HB3.out).1 l y hy;simp only at e5;subst e5;have hpa:=zdr hy;have HYI:Hid (y.inn=true↔EP):=by
     show _↔_;rw [HEP.out];constructor
     ·exact fun h=>⟨HBX.out.1,HBX.out.2.1,HBX.out.2.2,.inr ⟨HIN.out,h0,h1,by rw [hl9,hpa];exact h⟩⟩
     ·intro h
      have h9:=(HLK.out (HEP.out ▸ h)).2.2.2;rw [hl9,hpa] at h9;exact h9
    rw [hl9] at e3;have j5:(0:Int)<=(l:Int):=by omega
    have j6:(l:Int) < (n.ports.length:Int):=by omega
    clear hp h0 h1 hl9 hy hpa c0 c1 c3 y1;cases hyi:y.inn with
    | false=>
     rw [hyi] at c2;have HQ:=zab (HQF.out W3 HB3.out (fun h=>by have:=HYI.out.2 h;rw [hyi] at this;cases this));clear hyi
     go_wp2_with fail
     go_ret
     exact HQ.out
    | true=>
     rw [hyi] at c2;have HQ:=zab (HQT.out W3 HB3.out (HYI.out.1 hyi));clear hyi
     go_wp2_with fail
     go_ret
     exact HQ.out
def MPQ (n:NN) (k:Nat) (D:DataW Unit):Prop:=Maps.Tidy D/\(∀ nm:List UInt8,Maps.has D (.string nm)=true↔nm∈(n.ports.take k).map (·.nm))/\Maps.size D<=k/\(Maps.size D=k↔((n.ports.take k).map (·.nm)).Nodup)
theorem MPQ.zero (n:NN):MPQ n 0 (.map []):=⟨Maps.tidy_empty,fun nm=>by simp [Maps.has],Nat.le_refl _,by simp [Maps.size]⟩
theorem zhl {n:NN} {k:Nat} {x:NP} (hx:n.ports[k]?=some x):(n.ports.take (k+1)).map (·.nm)=(n.ports.take k).map (·.nm)++[x.nm]:=by
 rw [List.take_add_one,hx];simp
theorem MPQ.put {n:NN} {k:Nat} {D:DataW Unit} {x:NP} (h:MPQ n k D) (hx:n.ports[k]?=some x) (d:DataW Unit) (hT:Maps.Tidy (D.put (.string x.nm) d)):MPQ n (k+1) (D.put (.string x.nm) d):=by
 obtain ⟨h1,h2,h3,h4⟩:=h;have hsz:=Maps.size_put (k:=.string x.nm) h1 d;refine ⟨hT,fun nm=>?_,?_,?_⟩
 ·rw [zhl hx,List.mem_append,List.mem_singleton]
  by_cases he:nm=x.nm
  ·subst he
   rw [Maps.has_put_same h1.isMap (by trivial) d];simp
  ·rw [Maps.has_put_other (by intro h9;injection h9 with h9;exact he h9) d,h2 nm]
   simp [he]
 ·rw [hsz]
  split <;> omega
 ·rw [hsz,zhl hx,List.nodup_append]
  by_cases hh:Maps.has D (.string x.nm)=true
  ·rw [if_pos hh]
   constructor
   ·intro h9;omega
   ·intro h9
    exact absurd rfl (h9.2.2 x.nm ((h2 x.nm).1 hh) x.nm (by simp))
  ·rw [if_neg hh]
   constructor
   ·intro h9
    refine ⟨h4.1 (by omega),by simp,fun a ha b hb=>?_⟩;have hb:b=x.nm:=by simpa using hb
    subst hb;intro he;subst he;exact hh ((h2 _).2 ha)
   ·intro h9
    have:=h4.2 h9.1;omega
set_option maxRecDepth 100000 in
set_option maxHeartbeats 16000000 in
theorem znf (n:NN) (v:NV) (w:World) (hN:LN w n v) (hS:zdn n) (hO:okN n) (hT:TAB w) :
  Calls Tryz.prog 95 #[.agg (nnA n v)] w (BQ (zcc n) w):=by
 obtain ⟨pp,cp,pt,ct,pg,cg⟩:=v;unfold nnA;simp only at hN ⊢;obtain ⟨W1,hW1⟩:=ex (w.alloc (Obj.cells #[.int .i64 n.bits,.slice pp n.ports.length cp,.slice pt n.tabs.length ct,.slice pg n.grds.length cg] 26));have b1:Below w.heap.size w W1:=by rw [<-hW1];exact zah (Below.refl _ _) _
 obtain ⟨B,hB⟩:=ex w.heap.size;have k1:W1.heap[B]?=some (.cells #[.int .i64 n.bits,.slice pp n.ports.length cp,.slice pt n.tabs.length ct,.slice pg n.grds.length cg] 26 (0,0)):=by rw [<-hW1,<-hB];exact zaa _ _
 have HC:Hid (∀ U,Below W1.heap.size W1 U->U.cell? ⟨B,0,none⟩=some (.int .i64 n.bits)/\U.cell? ⟨B,1,none⟩=some (.slice pp n.ports.length cp)/\U.cell? ⟨B,2,none⟩=some (.slice pt n.tabs.length ct)/\U.cell? ⟨B,3,none⟩=some (.slice pg n.grds.length cg)):=fun U hU=>by
  have:=(zaf (zae hU k1)).1;exact ⟨by rw [this];rfl,by rw [this];rfl,by rw [this];rfl,by rw [this];rfl⟩
 have HNN:Hid (∀ U,Below W1.heap.size W1 U->LN U n ⟨pp,cp,pt,ct,pg,cg⟩):=fun U hU=>hN.below (zac b1 hU);have HB1:=zab b1;have HBB:=zab hB;have HW:=zab hW1;clear k1 b1 hB hW1 hN;have hmm:=@run_makeMap Tryz.prog;have HZ:Hid (zdn n/\okN n/\TAB w):=⟨hS,hO,hT⟩;obtain ⟨np,hnp⟩:=ex n.ports.length;have hnp48:np<=48:=by have:=hS.2.2.2.1;omega
 have HNP:=zab hnp;have HQT:Hid (∀ U,Below W1.heap.size W1 U->zcc n->BQ (zcc n) w (.returned (.bool true)) U):=fun U hU h=>BQ.yes h (zac HB1.out hU);have HQF:Hid (∀ U,Below W1.heap.size W1 U->¬zcc n->BQ (zcc n) w (.returned (.bool false)) U):=fun U hU h=>BQ.no h (zac HB1.out hU);have HPO:Hid (∀ U (x:NP),Below W1.heap.size W1 U->okS x.nm->Calls Tryz.prog 110 #[.agg #[.int .i64 n.bits,.slice pp np cp,.slice pt n.tabs.length ct,.slice pg n.grds.length cg],.agg #[.string ⟨x.nm.toArray⟩,.int .i64 x.bx,.bool x.inn,.int .i64 x.lk]] U (BQ (zdi n x) U)):=fun U x hU hx=>by
  have:=zox n ⟨pp,cp,pt,ct,pg,cg⟩ x U (HNN.out U hU) hx (HZ.out.2.2.at (zac HB1.out hU));unfold nnA at this;simp only at this;rw [HNP.out] at this;exact this
 rw [hnp] at HC HW ⊢;obtain ⟨mb,hmb⟩:=ex W1.heap.size;have HMB:=zab hmb;clear hS hO hT hnp hmb
 go_enter Tryz.func95,Tryz.ntmps95
 go_upto_region 1 with fail
 rw [HW.out,HBB.out];obtain ⟨q0,q1,q2,q3⟩:=HC.out (W1.alloc (.map #[] 0)) (zah (Below.refl _ _) _)
 go_wp2_with fail
 rw [HMB.out];clear q0 q1 q2 q3
 go_loopw [10] (fun vk wr=>∃ (k:Nat) (D:DataW Unit),vk=.int .i64 (k:Int)/\k<=np/\Hid (wr.ownsMap Tryz.prog 9 (plainElem Tryz.prog 3) mb k D/\MPQ n k D/\∀ p∈n.ports.take k,zdi n p)/\Hid (Below W1.heap.size W1 wr)) (fun vk _=>np - (intOf vk).toNat)
 case atStart=>exact ⟨0,.map [],rfl,Nat.zero_le _,⟨by rw [<-HMB.out];exact World.ownsMap_made _ _ _ _,MPQ.zero n,fun p hp=>by simp at hp⟩,zah (Below.refl _ _) _⟩
 case round=>
  obtain ⟨k,D,rfl,hk,HMQ,HB⟩:=hrel;obtain ⟨q0,q1,q2,q3⟩:=HC.out wr HB.out
  by_cases hlt:k < np
  ·obtain ⟨x,hx⟩:∃ x,n.ports[k]?=some x:=⟨_,List.getElem?_eq_getElem (by have:=HNP.out;omega)⟩
   obtain ⟨g0,o0,e5,i0,i1,i2,i3⟩:=(HNN.out wr HB.out).1 k x hx;simp only at e5;subst e5;have hok:=HZ.out.2.1.2.1 x (List.mem_of_getElem? hx);have HX:Hid (n.ports[k]?=some x/\okS x.nm):=⟨hx,hok⟩;have j1:(0:Int)<=(k:Int):=by omega
   have j2:(k:Int) < (np:Int):=by omega
   obtain ⟨W5,hW5⟩:=ex (wr.alloc (Obj.cells #[.string ⟨x.nm.toArray⟩,.int .i64 x.bx,.bool x.inn,.int .i64 x.lk] 84));have b5:Below wr.heap.size wr W5:=by rw [<-hW5];exact zah (Below.refl _ _) _
   obtain ⟨b4,hb4⟩:=ex wr.heap.size;have k5:W5.heap[b4]?=some (.cells #[.string ⟨x.nm.toArray⟩,.int .i64 x.bx,.bool x.inn,.int .i64 x.lk] 84 (0,0)):=by rw [<-hW5,<-hb4];exact zaa _ _
   have HB5:Hid (Below W1.heap.size W1 W5):=zac HB.out b5;have HK5:Hid (∀ U,Below W5.heap.size W5 U->(U.cell? ⟨b4,0,none⟩=some (.string ⟨x.nm.toArray⟩)/\U.cell? ⟨b4,1,none⟩=some (.int .i64 x.bx)/\U.cell? ⟨b4,2,none⟩=some (.bool x.inn)/\U.cell? ⟨b4,3,none⟩=some (.int .i64 x.lk))/\U.ownsMap Tryz.prog 9 (plainElem Tryz.prog 3) mb k D):=fun U hU=>by
    have:=(zaf (zae hU k5)).1;exact ⟨⟨by rw [this];rfl,by rw [this];rfl,by rw [this];rfl,by rw [this];rfl⟩,HMQ.out.1.kept (row:=none) (zra (zac b5 hU) none) (by simp)⟩
   have H1:=HPO.out W5 x HB5.out hok;have HW5:=zab hW5;have HB4:=zab hb4;clear hx hok b5 hb4 k5 hW5
   go_upto_region 5 with fail
   rw [HW5.out,HB4.out];clear i0 i1 i2 i3 q0 q1 q2 q3;obtain ⟨q0,q1,q2,q3⟩:=HC.out W5 HB5.out;obtain ⟨⟨i0,i1,i2,i3⟩,-⟩:=HK5.out W5 (Below.refl _ _)
   go_wp2_with fail
   refine H1.mono ?_;rintro e W6 ⟨rfl,b6⟩;have HB6:Hid (Below W1.heap.size W1 W6):=zac HB5.out b6;obtain ⟨⟨u0,-,-,-⟩,hown⟩:=HK5.out W6 b6;clear H1 b6 q0 q1 q2 q3 i0 i1 i2 i3;cases hp:pb (zdi n x) with
   | false=>
    have HQ:=zab (HQF.out W6 HB6.out (fun h=>za6 hp (h.1 x (List.mem_of_getElem? HX.out.1))));clear hp hown
    go_wp2_with fail
    go_ret
    exact HQ.out
   | true=>
    have HPX:=zab (za0.1 hp);have hkey:keyOf Tryz.prog 9 (.string ⟨x.nm.toArray⟩)=some (.string x.nm):=by
     have:=WideMaps.keyOf_string_mk (P:=Tryz.prog) (k:=9) Tryz.underlying9 (s:=⟨x.nm.toArray⟩) (by have h9:x.nm.length<=140737488351232:=HX.out.2;simp [ByteArray.size,maxLen];omega)
     simpa using this
    clear hp
    go_wp2_with (first
     | (at_mapUpdate;refine wpList_mapUpdate_own _ rfl _ _ _ 166 rfl 9 3 (Maps.string_keyed Tryz.underlying9) Tryz.underlying166 _ mb k D rfl hown (by unfold maxLen;omega) _ _ _ rfl rfl hkey _ [] (plainElem_int Tryz.underlying3 (WalkArith.wf_i64 (by omega))) ?_)
     | fail)
    intro w7 hown7 hg7;have HN1:Hid (w7.ownsMap Tryz.prog 9 (plainElem Tryz.prog 3) mb (k+1) (D.put (.string x.nm) (.lit (.int .i64 (k:Int))))/\MPQ n (k+1) (D.put (.string x.nm) (.lit (.int .i64 (k:Int))))/\∀ p∈n.ports.take (k+1),zdi n p):=⟨hown7,HMQ.out.2.1.put HX.out.1 _ (hown7.tidy (Maps.string_keyed Tryz.underlying9)),zba HX.out.1 HMQ.out.2.2 HPX.out⟩;have HB7:Hid (Below W1.heap.size W1 w7):=bel_grZ HB6.out hg7 (fun k9 e9=>by injection e9 with e9;have:=HMB.out;omega);clear hown hown7 hg7 hkey HMQ
    go_wp2_with fail
    go_roundw
    case rel=>exact ⟨k+1,_,by go_num,by omega,HN1,HB7⟩
    case measure=>simp [intOf];omega
  ·obtain rfl:k=np:=by omega
   have j2:¬(k:Int) < (k:Int):=by omega
   obtain ⟨hown,hmq,hall⟩:=HMQ.out;obtain ⟨sz,hsz⟩:=ex (Maps.size D);have HND:Hid (sz=k↔(n.ports.map (·.nm)).Nodup):=by
    have h1:=hmq.2.2.2;rw [hsz,List.take_of_length_le (by have:=HNP.out;omega)] at h1;exact h1
   have HAL:Hid (∀ p∈n.ports,zdi n p):=by
    have h1:=hall;rw [List.take_of_length_le (by have:=HNP.out;omega)] at h1;exact h1
   clear hmq hall HMQ
   by_cases he:sz=k
   ·have HQ:=zab (HQT.out wr HB.out ⟨HAL.out,HND.out.1 he⟩)
    have y1:((sz:Int)==(k:Int))=true:=beq_iff_eq.2 (by omega);clear he HND HAL
    go_wp2_with (first
     | (at_len;refine wpList_len_own _ rfl _ 166 rfl 9 3 Tryz.underlying166 _ mb k D rfl hown ?_;rw [hsz])
     | fail)
    go_ret
    exact HQ.out
   ·have HQ:=zab (HQF.out wr HB.out (fun h=>he (HND.out.2 h.2)))
    have y1:((sz:Int)==(k:Int))=false:=beq_eq_false_iff_ne.2 (by omega);clear he HND HAL
    go_wp2_with (first
     | (at_len;refine wpList_len_own _ rfl _ 166 rfl 9 3 Tryz.underlying166 _ mb k D rfl hown ?_;rw [hsz])
     | fail)
    go_ret
    exact HQ.out
set_option maxRecDepth 100000 in
set_option maxHeartbeats 16000000 in
theorem zko (n:NN) (v:NV) (w:World) (hN:LN w n v) (hS:zdn n) (hO:okN n) :
  Calls Tryz.prog 96 #[.agg (nnA n v)] w (BQ (∀ g∈n.grds,zbk n.bits g) w):=by
 obtain ⟨pp,cp,pt,ct,pg,cg⟩:=v;unfold nnA;simp only at hN ⊢;obtain ⟨W1,hW1⟩:=ex (w.alloc (Obj.cells #[.int .i64 n.bits,.slice pp n.ports.length cp,.slice pt n.tabs.length ct,.slice pg n.grds.length cg] 26));have b1:Below w.heap.size w W1:=by rw [<-hW1];exact zah (Below.refl _ _) _
 obtain ⟨B,hB⟩:=ex w.heap.size;have k1:W1.heap[B]?=some (.cells #[.int .i64 n.bits,.slice pp n.ports.length cp,.slice pt n.tabs.length ct,.slice pg n.grds.length cg] 26 (0,0)):=by rw [<-hW1,<-hB];exact zaa _ _
 have HC:Hid (∀ U,Below W1.heap.size W1 U->U.cell? ⟨B,0,none⟩=some (.int .i64 n.bits)/\U.cell? ⟨B,1,none⟩=some (.slice pp n.ports.length cp)/\U.cell? ⟨B,2,none⟩=some (.slice pt n.tabs.length ct)/\U.cell? ⟨B,3,none⟩=some (.slice pg n.grds.length cg)):=fun U hU=>by
  have:=(zaf (zae hU k1)).1;exact ⟨by rw [this];rfl,by rw [this];rfl,by rw [this];rfl,by rw [this];rfl⟩
 have HNN:Hid (∀ U,Below W1.heap.size W1 U->LN U n ⟨pp,cp,pt,ct,pg,cg⟩):=fun U hU=>hN.below (zac b1 hU);have HB1:=zab b1;have HBB:=zab hB;have HW:=zab hW1;clear k1 b1 hB hW1 hN;obtain ⟨PP,hPP⟩:∃ PP:Prop,(∀ g∈n.grds,zbk n.bits g)=PP:=⟨_,rfl⟩;have HPP:Hid (PP=(∀ g∈n.grds,zbk n.bits g)):=hPP.symm;rw [hPP];have HZ:Hid (zdn n/\okN n):=⟨hS,hO⟩;have HQT:Hid (∀ U,Below W1.heap.size W1 U->PP->BQ PP w (.returned (.bool true)) U):=fun U hU h=>BQ.yes h (zac HB1.out hU);have HQF:Hid (∀ U,Below W1.heap.size W1 U->¬PP->BQ PP w (.returned (.bool false)) U):=fun U hU h=>BQ.no h (zac HB1.out hU);obtain ⟨ng,hng⟩:=ex n.grds.length;have hng48:ng<=48:=by have:=hS.2.2.2.1;have:=hS.2.2.2.2;omega
 have HNG:=zab hng;rw [hng] at HC HW ⊢;clear hS hO hng hPP;obtain ⟨q0,q1,q2,q3⟩:=HC.out W1 (Below.refl _ _)
 go_enter Tryz.func96,Tryz.ntmps96
 go_upto_region 1 with fail
 rw [HW.out,HBB.out]
 go_wp2_with fail
 clear q0 q1 q2 q3
 go_loopw [11] (fun vk wr=>∃ k:Nat,vk=.int .i64 (k:Int)/\k<=ng/\Hid (∀ g∈n.grds.take k,zbk n.bits g)/\Hid (Below W1.heap.size W1 wr)) (fun vk _=>ng - (intOf vk).toNat)
 case atStart=>exact ⟨0,rfl,Nat.zero_le _,fun g hg=>by simp at hg,Below.refl _ _⟩
 case round=>
  obtain ⟨wo,rfl⟩:∃ wo,wo=wr:=⟨wr,rfl⟩;obtain ⟨k,rfl,hk,HSO,HB⟩:=hrel
  by_cases hlt:k < ng
  ·obtain ⟨gl,hx⟩:∃ gl,n.grds[k]?=some gl:=⟨_,List.getElem?_eq_getElem (by have:=HNG.out;omega)⟩
   obtain ⟨g0,o0,p5,c5,e5,e0,hG,hcl⟩:=(HNN.out wo HB.out).2.2.2.2.1 k gl hx;simp only at e5;subst e5;have hok:=HZ.out.2.2.2.2.2.2 gl (List.mem_of_getElem? hx);obtain ⟨m,hm⟩:=ex gl.length;have hm43:m<=4398046510976:=by have:=hok.1;omega
   rw [hm] at e0;have HX:Hid (n.grds[k]?=some gl/\gl.length=m/\okGl gl):=⟨hx,hm,hok⟩;have HG:Hid (∀ U,Below wo.heap.size wo U->LG U p5 gl/\U.cell? ⟨B,0,none⟩=some (.int .i64 n.bits)):=fun U hU=>⟨hG.below hU,(HC.out U (zac HB.out hU)).1⟩;have j1:(0:Int)<=(k:Int):=by omega
   have j2:(k:Int) < (ng:Int):=by omega
   clear hx hG hcl hok hm HNN
   go_wp2_with fail
   clear e0
   go_loopw [5,17] (fun v5 v6 wr=>∃ i a:Nat,v5=.int .i64 (a:Int)/\v6=.int .i64 (i:Int)/\i<=m/\a<=i*64/\Hid (sumG (gl.take i)=a/\∀ l∈gl.take i,zb1 n.bits l.cubes)/\Hid (Below wo.heap.size wo wr)) (fun _ v6 _=>m - (intOf v6).toNat)
   case atStart=>exact ⟨0,0,rfl,rfl,Nat.zero_le _,Nat.zero_le _,⟨rfl,fun g hg=>by simp at hg⟩,Below.refl _ _⟩
   case round=>
    obtain ⟨i,a,rfl,rfl,hi,hai,HSI,HBI⟩:=hrel;obtain ⟨hG,q0⟩:=HG.out _ HBI.out
    by_cases hlt2:i < m
    ·obtain ⟨l,hl⟩:∃ l,gl[i]?=some l:=⟨_,List.getElem?_eq_getElem (by have:=HX.out.2.1;omega)⟩
     obtain ⟨g2,o2,pc,cc,e5,e1,e2,hLS,hcc⟩:=hG i l hl;subst e5;have hokl:=HX.out.2.2.2 l (List.mem_of_getElem? hl);obtain ⟨lc,hlc⟩:=ex l.cubes.length;rw [hlc] at e2;obtain ⟨W3,hW3⟩:=ex (wr.alloc (Obj.cells #[.bool l.pm,.slice pc lc cc] 93));have b3:Below wr.heap.size wr W3:=by rw [<-hW3];exact zah (Below.refl _ _) _
     obtain ⟨b7,hb7⟩:=ex wr.heap.size;have k3:W3.heap[b7]?=some (.cells #[.bool l.pm,.slice pc lc cc] 93 (0,0)):=by rw [<-hW3,<-hb7];exact zaa _ _
     have HK7:Hid (∀ U,Below W3.heap.size W3 U->U.cell? ⟨b7,1,none⟩=some (.slice pc lc cc)/\U.cell? ⟨B,0,none⟩=some (.int .i64 n.bits)/\Below wo.heap.size wo U):=fun U hU=>⟨by rw [(zaf (zae hU k3)).1];rfl,zao hU (zao b3 q0),zac (zac HBI.out b3) hU⟩;have HCU:=zhh n.bits l.cubes pc lc cc W3 HZ.out.1.2.1 hlc (by have:=hokl.1;omega) (hLS.below b3);have HLL:Hid (gl[i]?=some l/\l.cubes.length=lc):=⟨hl,hlc⟩;have j3:(0:Int)<=(i:Int):=by omega
     have j4:(i:Int) < (m:Int):=by omega
     have HW3:=zab hW3;have HB7:=zab hb7;obtain ⟨u1,u0,-⟩:=HK7.out W3 (Below.refl _ _);clear hl hlc hokl hLS hcc hG hW3 hb7 k3 b3 HG
     go_upto_region 8 with fail
     rw [HW3.out,HB7.out];clear e1 e2 q0
     go_wp2_with fail
     refine HCU.mono ?_;rintro en W4 ⟨rfl,b4⟩;obtain ⟨c1,c0,hb4⟩:=HK7.out W4 b4;have HB4:Hid (Below W1.heap.size W1 W4):=zac HB.out hb4;have HB5:Hid (Below wo.heap.size wo W4):=hb4;clear HCU b4 hb4 u0 u1;cases hp:pb (zb1 n.bits l.cubes) with
     | false=>
      have HQ:=zab (HQF.out W4 HB4.out (fun h=>za6 hp (((HPP.out ▸ h:∀ g∈n.grds,zbk n.bits g) gl (List.mem_of_getElem? HX.out.1)).1 l (List.mem_of_getElem? HLL.out.1))));clear hp
      go_wp2_with fail
      go_ret
      exact HQ.out
     | true=>
      have hcp:=za0.1 hp;have hl64:lc<=64:=by have:=hcp.1;have:=HLL.out.2;omega
      have HN1:Hid (sumG (gl.take (i+1))=a+lc/\∀ l∈gl.take (i+1),zb1 n.bits l.cubes):=⟨by rw [zjh HLL.out.1,HSI.out.1,HLL.out.2],zba HLL.out.1 HSI.out.2 hcp⟩;clear hp hcp HSI
      go_wp2_with fail
      go_roundw
      case rel=>exact ⟨i+1,a+lc,by go_num,by go_num,by omega,by omega,HN1,HB5⟩
      case measure=>simp [intOf];omega
    ·obtain rfl:i=m:=by omega
     have j4:¬(i:Int) < (i:Int):=by omega
     have HE:Hid (sumG gl=a/\∀ l∈gl,zb1 n.bits l.cubes):=by
      have h1:=HSI.out;rw [List.take_of_length_le (by have:=HX.out.2.1;omega)] at h1;exact h1
     have HB4:Hid (Below W1.heap.size W1 wr):=zac HB.out HBI.out
     by_cases h512:512 < a
     ·have j5:(512:Int) < (a:Int):=by omega
      have HQ:=zab (HQF.out wr HB4.out (fun h=>by have h9:=((HPP.out ▸ h:∀ g∈n.grds,zbk n.bits g) gl (List.mem_of_getElem? HX.out.1)).2;have:=HE.out.1;omega));clear hG HG HSI h512
      go_wp2_with fail
      go_ret
      exact HQ.out
     ·have j5:¬(512:Int) < (a:Int):=by omega
      have HN1:Hid (∀ g∈n.grds.take (k+1),zbk n.bits g):=zba HX.out.1 HSO.out ⟨HE.out.2,by have:=HE.out.1;omega⟩;clear hG HG HSI h512 HE HSO
      go_wp2_with fail
      go_roundw
      case rel=>exact ⟨k+1,by go_num,by omega,HN1,HB4⟩
      case measure=>simp [intOf];omega
  ·obtain rfl:k=ng:=by omega
   have j2:¬(k:Int) < (k:Int):=by omega
   have HQ:=zab (HQT.out wo HB.out (HPP.out ▸ (by have h1:=HSO.out;rw [List.take_of_length_le (by have:=HNG.out;omega)] at h1;exact h1:∀ g∈n.grds,zbk n.bits g)));clear HSO HNN
   go_wp2_with fail
   go_ret
   exact HQ.out
set_option maxRecDepth 100000 in
set_option maxHeartbeats 16000000 in
theorem zkn (n:NN) (v:NV) (w:World) (hN:LN w n v) (hS:zdn n) (hO:okN n) :
  Calls Tryz.prog 97 #[.agg (nnA n v)] w (BQ (∀ (k:Nat) (t:List NE),n.tabs[k]?=some t->zg9 n (k:Int) t) w):=by
 obtain ⟨pp,cp,pt,ct,pg,cg⟩:=v;unfold nnA;simp only at hN ⊢;obtain ⟨W1,hW1⟩:=ex (w.alloc (Obj.cells #[.int .i64 n.bits,.slice pp n.ports.length cp,.slice pt n.tabs.length ct,.slice pg n.grds.length cg] 26));have b1:Below w.heap.size w W1:=by rw [<-hW1];exact zah (Below.refl _ _) _
 obtain ⟨B,hB⟩:=ex w.heap.size;have k1:W1.heap[B]?=some (.cells #[.int .i64 n.bits,.slice pp n.ports.length cp,.slice pt n.tabs.length ct,.slice pg n.grds.length cg] 26 (0,0)):=by rw [<-hW1,<-hB];exact zaa _ _
 have HC:Hid (∀ U,Below W1.heap.size W1 U->U.cell? ⟨B,0,none⟩=some (.int .i64 n.bits)/\U.cell? ⟨B,1,none⟩=some (.slice pp n.ports.length cp)/\U.cell? ⟨B,2,none⟩=some (.slice pt n.tabs.length ct)/\U.cell? ⟨B,3,none⟩=some (.slice pg n.grds.length cg)):=fun U hU=>by
  have:=(zaf (zae hU k1)).1;exact ⟨by rw [this];rfl,by rw [this];rfl,by rw [this];rfl,by rw [this];rfl⟩
 have HNN:Hid (∀ U,Below W1.heap.size W1 U->LN U n ⟨pp,cp,pt,ct,pg,cg⟩):=fun U hU=>hN.below (zac b1 hU);have HB1:=zab b1;have HBB:=zab hB;have HW:=zab hW1;clear k1 b1 hB hW1 hN;obtain ⟨PP,hPP⟩:∃ PP:Prop,(∀ (k:Nat) (t:List NE),n.tabs[k]?=some t->zg9 n (k:Int) t)=PP:=⟨_,rfl⟩;have HPP:Hid (PP=(∀ (k:Nat) (t:List NE),n.tabs[k]?=some t->zg9 n (k:Int) t)):=hPP.symm;rw [hPP];have HZ:Hid (zdn n/\okN n):=⟨hS,hO⟩;have HQT:Hid (∀ U,Below W1.heap.size W1 U->PP->BQ PP w (.returned (.bool true)) U):=fun U hU h=>BQ.yes h (zac HB1.out hU);have HQF:Hid (∀ U,Below W1.heap.size W1 U->¬PP->BQ PP w (.returned (.bool false)) U):=fun U hU h=>BQ.no h (zac HB1.out hU);obtain ⟨nt,hnt⟩:=ex n.tabs.length;have hnt16:nt<=16:=by have:=hS.2.2.1;omega
 have HNT:=zab hnt;rw [hnt] at HC HW ⊢;clear hS hO hnt hPP;obtain ⟨q0,q1,q2,q3⟩:=HC.out W1 (Below.refl _ _)
 go_enter Tryz.func97,Tryz.ntmps97
 go_upto_region 1 with fail
 rw [HW.out,HBB.out]
 go_wp2_with fail
 clear q0 q1 q2 q3
 go_loopw [11] (fun vk wr=>∃ k:Nat,vk=.int .i64 (k:Int)/\k<=nt/\Hid (∀ (j:Nat) (t:List NE),j < k->n.tabs[j]?=some t->zg9 n (j:Int) t)/\Hid (Below W1.heap.size W1 wr)) (fun vk _=>nt - (intOf vk).toNat)
 case atStart=>exact ⟨0,rfl,Nat.zero_le _,fun j t h=>by omega,Below.refl _ _⟩
 case round=>
  obtain ⟨wo,rfl⟩:∃ wo,wo=wr:=⟨wr,rfl⟩;obtain ⟨k,rfl,hk,HSO,HB⟩:=hrel
  by_cases hlt:k < nt
  ·obtain ⟨gl,hx⟩:∃ gl,n.tabs[k]?=some gl:=⟨_,List.getElem?_eq_getElem (by have:=HNT.out;omega)⟩
   have hNw:=HNN.out wo HB.out;obtain ⟨g0,o0,p5,c5,e5,e0,hG,hcl⟩:=hNw.2.2.1 k gl hx;simp only at e5;subst e5;have hok:=HZ.out.2.2.2.2.1 gl (List.mem_of_getElem? hx);obtain ⟨m,hm⟩:=ex gl.length;have hm43:m<=1353245080300:=by have:=hok.1;omega
   rw [hm] at e0;have HX:Hid (n.tabs[k]?=some gl/\gl.length=m/\zla gl):=⟨hx,hm,hok⟩;have HG:Hid (∀ U,Below wo.heap.size wo U->LE U p5 gl/\LN U n ⟨pp,cp,some ⟨g0,o0,none⟩,ct,pg,cg⟩/\(U.cell? ⟨B,0,none⟩=some (.int .i64 n.bits)/\U.cell? ⟨B,1,none⟩=some (.slice pp n.ports.length cp)/\U.cell? ⟨B,2,none⟩=some (.slice (some ⟨g0,o0,none⟩) nt ct)/\U.cell? ⟨B,3,none⟩=some (.slice pg n.grds.length cg))):=fun U hU=>⟨hG.below hU,hNw.below hU,HC.out U (zac HB.out hU)⟩;have j1:(0:Int)<=(k:Int):=by omega
   have j2:(k:Int) < (nt:Int):=by omega
   clear hx hG hcl hok hm HNN hNw
   go_wp2_with fail
   clear e0
   go_loopw [5,18] (fun v5 v6 wr=>∃ i a:Nat,v5=.int .i64 (a:Int)/\v6=.int .i64 (i:Int)/\i<=m/\a<=i*64/\Hid (sumE (gl.take i)=a/\∀ e∈gl.take i,za2 n (k:Int) e)/\Hid (Below wo.heap.size wo wr)) (fun _ v6 _=>m - (intOf v6).toNat)
   case atStart=>exact ⟨0,0,rfl,rfl,Nat.zero_le _,Nat.zero_le _,⟨rfl,fun g hg=>by simp at hg⟩,Below.refl _ _⟩
   case round=>
    obtain ⟨i,a,rfl,rfl,hi,hai,HSI,HBI⟩:=hrel;obtain ⟨hG,hLN,q0,q1,q2,q3⟩:=HG.out _ HBI.out
    by_cases hlt2:i < m
    ·obtain ⟨x,hl⟩:∃ x,gl[i]?=some x:=⟨_,List.getElem?_eq_getElem (by have:=HX.out.2.1;omega)⟩
     obtain ⟨g2,o2,pi,ci,pc,cc,po,co,e5,e1,e2,e3,e4,e6,hLEL⟩:=hG i x hl;subst e5;have hokl:=HX.out.2.2.2 x (List.mem_of_getElem? hl);obtain ⟨lc,hlc⟩:=ex x.cubes.length;rw [hlc] at e3;obtain ⟨W3,hW3⟩:=ex (wr.alloc (Obj.cells #[.string ⟨x.nm.toArray⟩,.slice pi x.ins.length ci,.slice pc lc cc,.string ⟨x.wr.toArray⟩,.slice po x.outs.length co] 89));have b3:Below wr.heap.size wr W3:=by rw [<-hW3];exact zah (Below.refl _ _) _
     obtain ⟨b7,hb7⟩:=ex wr.heap.size;have k3:W3.heap[b7]?=some (.cells #[.string ⟨x.nm.toArray⟩,.slice pi x.ins.length ci,.slice pc lc cc,.string ⟨x.wr.toArray⟩,.slice po x.outs.length co] 89 (0,0)):=by rw [<-hW3,<-hb7];exact zaa _ _
     have HK7:Hid (∀ U,Below W3.heap.size W3 U->(U.cell? ⟨b7,0,none⟩=some (.string ⟨x.nm.toArray⟩)/\U.cell? ⟨b7,1,none⟩=some (.slice pi x.ins.length ci)/\U.cell? ⟨b7,2,none⟩=some (.slice pc lc cc)/\U.cell? ⟨b7,3,none⟩=some (.string ⟨x.wr.toArray⟩)/\U.cell? ⟨b7,4,none⟩=some (.slice po x.outs.length co))/\(U.cell? ⟨B,0,none⟩=some (.int .i64 n.bits)/\U.cell? ⟨B,1,none⟩=some (.slice pp n.ports.length cp)/\U.cell? ⟨B,2,none⟩=some (.slice (some ⟨g0,o0,none⟩) nt ct)/\U.cell? ⟨B,3,none⟩=some (.slice pg n.grds.length cg))/\Below wo.heap.size wo U):=fun U hU=>by
      have:=(zaf (zae hU k3)).1;exact ⟨⟨by rw [this];rfl,by rw [this];rfl,by rw [this];rfl,by rw [this];rfl,by rw [this];rfl⟩,⟨zao hU (zao b3 q0),zao hU (zao b3 q1),zao hU (zao b3 q2),zao hU (zao b3 q3)⟩,zac (zac HBI.out b3) hU⟩
     have HCU:Calls Tryz.prog 112 #[.agg #[.int .i64 n.bits,.slice pp n.ports.length cp,.slice (some ⟨g0,o0,none⟩) nt ct,.slice pg n.grds.length cg],.int .i64 (k:Int),.agg #[.string ⟨x.nm.toArray⟩,.slice pi x.ins.length ci,.slice pc lc cc,.string ⟨x.wr.toArray⟩,.slice po x.outs.length co]] W3 (BQ (za2 n (k:Int) x) W3):=by
      have:=zni n ⟨pp,cp,some ⟨g0,o0,none⟩,ct,pg,cg⟩ (k:Int) x pi ci pc cc po co W3 (hLN.below b3) (hLEL.below b3) HZ.out.1 hokl;unfold nnA neA at this;simp only at this;rw [HNT.out,hlc] at this;exact this
     have HLL:Hid (gl[i]?=some x/\x.cubes.length=lc):=⟨hl,hlc⟩;have j3:(0:Int)<=(i:Int):=by omega
     have j4:(i:Int) < (m:Int):=by omega
     have HW3:=zab hW3;have HB7:=zab hb7;clear hl hlc hokl hLEL hG hW3 hb7 k3 b3 HG hLN
     go_upto_region 8 with fail
     rw [HW3.out,HB7.out];clear e1 e2 e3 e4 e6 q0 q1 q2 q3;obtain ⟨⟨u0,u1,u2,u3,u4⟩,⟨q0,q1,q2,q3⟩,-⟩:=HK7.out W3 (Below.refl _ _)
     go_wp2_with fail
     refine HCU.mono ?_;rintro en W4 ⟨rfl,b4⟩;clear u0 u1 u2 u3 u4 q0 q1 q2 q3;obtain ⟨⟨-,-,u2,-,-⟩,-,hb4⟩:=HK7.out W4 b4;have HB4:Hid (Below W1.heap.size W1 W4):=zac HB.out hb4;have HB5:Hid (Below wo.heap.size wo W4):=hb4;clear HCU b4 hb4;cases hp:pb (za2 n (k:Int) x) with
     | false=>
      have HQ:=zab (HQF.out W4 HB4.out (fun h=>za6 hp (((HPP.out ▸ h:∀ (k:Nat) (t:List NE),n.tabs[k]?=some t->zg9 n (k:Int) t) k gl HX.out.1).1 x (List.mem_of_getElem? HLL.out.1))));clear hp
      go_wp2_with fail
      go_ret
      exact HQ.out
     | true=>
      have hcp:=za0.1 hp;have hl64:lc<=64:=by have:=hcp.2.2.1.1;have:=HLL.out.2;omega
      have HN1:Hid (sumE (gl.take (i+1))=a+lc/\∀ e∈gl.take (i+1),za2 n (k:Int) e):=⟨by rw [zji HLL.out.1,HSI.out.1,HLL.out.2],zba HLL.out.1 HSI.out.2 hcp⟩;clear hp hcp HSI
      go_wp2_with fail
      go_roundw
      case rel=>exact ⟨i+1,a+lc,by go_num,by go_num,by omega,by omega,HN1,HB5⟩
      case measure=>simp [intOf];omega
    ·obtain rfl:i=m:=by omega
     have j4:¬(i:Int) < (i:Int):=by omega
     have HE:Hid (sumE gl=a/\∀ l∈gl,za2 n (k:Int) l):=by
      have h1:=HSI.out;rw [List.take_of_length_le (by have:=HX.out.2.1;omega)] at h1;exact h1
     have HB4:Hid (Below W1.heap.size W1 wr):=zac HB.out HBI.out
     by_cases h512:512 < a
     ·have j5:(512:Int) < (a:Int):=by omega
      have HQ:=zab (HQF.out wr HB4.out (fun h=>by have h9:=((HPP.out ▸ h:∀ (k:Nat) (t:List NE),n.tabs[k]?=some t->zg9 n (k:Int) t) k gl HX.out.1).2;have:=HE.out.1;omega));clear hG HG HSI h512 hLN
      go_wp2_with fail
      go_ret
      exact HQ.out
     ·have j5:¬(512:Int) < (a:Int):=by omega
      have HN1:Hid (∀ (j:Nat) (t:List NE),j < k+1->n.tabs[j]?=some t->zg9 n (j:Int) t):=fun j t hj ht=>by
       rcases Nat.lt_or_ge j k with h1 | h1
       ·exact HSO.out j t h1 ht
       ·obtain rfl:j=k:=by omega
        rw [HX.out.1] at ht;rw [<-Option.some.inj ht];exact ⟨HE.out.2,by have:=HE.out.1;omega⟩
      clear hG HG HSI h512 HE HSO hLN
      go_wp2_with fail
      go_roundw
      case rel=>exact ⟨k+1,by go_num,by omega,HN1,HB4⟩
      case measure=>simp [intOf];omega
  ·obtain rfl:k=nt:=by omega
   have j2:¬(k:Int) < (k:Int):=by omega
   have HQ:=zab (HQT.out wo HB.out (HPP.out ▸ (fun j t ht=>HSO.out j t (by have:=(List.getElem?_eq_some_iff.1 ht).1;have:=HNT.out;omega) ht:∀ (k:Nat) (t:List NE),n.tabs[k]?=some t->zg9 n (k:Int) t)));clear HSO HNN
   go_wp2_with fail
   go_ret
   exact HQ.out
set_option maxRecDepth 100000 in
set_option maxHeartbeats 8000000 in
theorem xnet_any (n:NN) (v:NV) (w:World) (hN:LN w n v) (hO:okN n) (hT:TAB w) :
  Calls Tryz.prog 80 #[.agg (nnA n v)] w (BQ (NetP n) w):=by
 obtain ⟨pp,cp,pt,ct,pg,cg⟩:=v;unfold nnA;simp only at hN ⊢;obtain ⟨W1,hW1⟩:=ex (w.alloc (Obj.cells #[.int .i64 n.bits,.slice pp n.ports.length cp,.slice pt n.tabs.length ct,.slice pg n.grds.length cg] 26));have b1:Below w.heap.size w W1:=by rw [<-hW1];exact zah (Below.refl _ _) _
 obtain ⟨B,hB⟩:=ex w.heap.size;have k1:W1.heap[B]?=some (.cells #[.int .i64 n.bits,.slice pp n.ports.length cp,.slice pt n.tabs.length ct,.slice pg n.grds.length cg] 26 (0,0)):=by rw [<-hW1,<-hB];exact zaa _ _
 have HC:Hid (∀ U,Below W1.heap.size W1 U->U.cell? ⟨B,0,none⟩=some (.int .i64 n.bits)/\U.cell? ⟨B,1,none⟩=some (.slice pp n.ports.length cp)/\U.cell? ⟨B,2,none⟩=some (.slice pt n.tabs.length ct)/\U.cell? ⟨B,3,none⟩=some (.slice pg n.grds.length cg)):=fun U hU=>by
  have:=(zaf (zae hU k1)).1;exact ⟨by rw [this];rfl,by rw [this];rfl,by rw [this];rfl,by rw [this];rfl⟩
 have HNN:Hid (∀ U,Below W1.heap.size W1 U->LN U n ⟨pp,cp,pt,ct,pg,cg⟩):=fun U hU=>hN.below (zac b1 hU);have HB1:=zab b1;have HBB:=zab hB;have HW:=zab hW1;clear k1 b1 hB hW1 hN;obtain ⟨q0,q1,q2,q3⟩:=HC.out W1 (Below.refl _ _);have HQT:Hid (∀ U,Below W1.heap.size W1 U->NetP n->BQ (NetP n) w (.returned (.bool true)) U):=fun U hU h=>BQ.yes h (zac HB1.out hU);have HQF:Hid (∀ U,Below W1.heap.size W1 U->¬NetP n->BQ (NetP n) w (.returned (.bool false)) U):=fun U hU h=>BQ.no h (zac HB1.out hU)
 by_cases c0:n.bits < 1
 ·have j0:(n.bits:Int) < 1:=by omega
  have HQ:=zab (HQF.out W1 (Below.refl _ _) (fun h=>by have:=h.1.1;omega));clear hO c0
  go_enter Tryz.func80,Tryz.ntmps80
  go_upto_region 1 with fail
  rw [HW.out,HBB.out]
  go_wp2_with fail
  go_ret
  exact HQ.out
 have j0:¬(n.bits:Int) < 1:=by omega
 by_cases c1:256 < n.bits
 ·have j1:(256:Int) < n.bits:=by omega
  have HQ:=zab (HQF.out W1 (Below.refl _ _) (fun h=>by have:=h.1.2.1;omega));clear hO c1
  go_enter Tryz.func80,Tryz.ntmps80
  go_upto_region 1 with fail
  rw [HW.out,HBB.out]
  go_wp2_with fail
  go_ret
  exact HQ.out
 have j1:¬(256:Int) < n.bits:=by omega
 by_cases c2:16 < n.tabs.length
 ·have j2:(16:Int) < (n.tabs.length:Int):=by omega
  have HQ:=zab (HQF.out W1 (Below.refl _ _) (fun h=>by have:=h.1.2.2.1;omega));clear hO c2
  go_enter Tryz.func80,Tryz.ntmps80
  go_upto_region 1 with fail
  rw [HW.out,HBB.out]
  go_wp2_with fail
  go_ret
  exact HQ.out
 have j2:¬(16:Int) < (n.tabs.length:Int):=by omega
 by_cases c3:48 < n.ports.length
 ·have j3:(48:Int) < (n.ports.length:Int):=by omega
  have HQ:=zab (HQF.out W1 (Below.refl _ _) (fun h=>by have:=h.1.2.2.2.1;omega));clear hO c3
  go_enter Tryz.func80,Tryz.ntmps80
  go_upto_region 1 with fail
  rw [HW.out,HBB.out]
  go_wp2_with fail
  go_ret
  exact HQ.out
 have j3:¬(48:Int) < (n.ports.length:Int):=by omega
 by_cases c4:n.grds.length=n.ports.length
 rotate_left
 ·have y4:((n.grds.length:Int)==(n.ports.length:Int))=false:=beq_eq_false_iff_ne.2 (by omega)
  have y5:((n.grds.length:Int) != (n.ports.length:Int))=true:=by simp only [bne,y4];rfl
  have HQ:=zab (HQF.out W1 (Below.refl _ _) (fun h=>c4 h.1.2.2.2.2));clear hO c4
  go_enter Tryz.func80,Tryz.ntmps80
  go_upto_region 1 with fail
  rw [HW.out,HBB.out]
  go_wp2_with fail
  go_ret
  exact HQ.out
 have y4:((n.grds.length:Int)==(n.ports.length:Int))=true:=beq_iff_eq.2 (by omega);have y5:((n.grds.length:Int) != (n.ports.length:Int))=false:=by simp only [bne,y4];rfl
 have hS:zdn n:=⟨by omega,by omega,by omega,by omega,by omega⟩;have HS:=zab hS;have hLN1:=HNN.out W1 (Below.refl _ _);have HG1:=zov n pg n.grds.length cg W1 rfl (by omega) hLN1.2.2.2.2.1 (fun t ht=>by have:=(hO.2.2.2.2.2 t ht).1;omega);have HT1:=zow n pt n.tabs.length ct W1 rfl (by omega) hLN1.2.2.1 (fun t ht=>by have:=(hO.2.2.2.1 t ht).1;omega);have HP:Hid (∀ U,Below W1.heap.size W1 U->Calls Tryz.prog 95 #[.agg #[.int .i64 n.bits,.slice pp n.ports.length cp,.slice pt n.tabs.length ct,.slice pg n.grds.length cg]] U (BQ (zcc n) U)):=fun U hU=>znf n ⟨pp,cp,pt,ct,pg,cg⟩ U (HNN.out U hU) HS.out hO (hT.at (zac HB1.out hU));have HG:Hid (∀ U,Below W1.heap.size W1 U->Calls Tryz.prog 96 #[.agg #[.int .i64 n.bits,.slice pp n.ports.length cp,.slice pt n.tabs.length ct,.slice pg n.grds.length cg]] U (BQ (∀ g∈n.grds,zbk n.bits g) U)):=fun U hU=>zko n ⟨pp,cp,pt,ct,pg,cg⟩ U (HNN.out U hU) HS.out hO;have HTT:Hid (∀ U,Below W1.heap.size W1 U->Calls Tryz.prog 97 #[.agg #[.int .i64 n.bits,.slice pp n.ports.length cp,.slice pt n.tabs.length ct,.slice pg n.grds.length cg]] U (BQ (∀ (k:Nat) (t:List NE),n.tabs[k]?=some t->zg9 n (k:Int) t) U)):=fun U hU=>zkn n ⟨pp,cp,pt,ct,pg,cg⟩ U (HNN.out U hU) HS.out hO;clear c4 hLN1 hO hS hT
 go_enter Tryz.func80,Tryz.ntmps80
 go_upto_region 1 with fail
 rw [HW.out,HBB.out]
 go_wp2_with fail
 refine HG1.mono ?_;rintro e W2 ⟨rfl,hw⟩;obtain rfl:=hw.symm;clear hw HG1
 by_cases t0:64 < zhk n
 ·have k0:(64:Int) < (zhk n:Int):=by omega
  have HQ:=zab (HQF.out W1 (Below.refl _ _) (fun h=>by have:=h.2.1;omega));clear t0
  go_wp2_with fail
  go_ret
  exact HQ.out
 have k0:¬(64:Int) < (zhk n:Int):=by omega
 go_wp2_with fail
 refine HT1.mono ?_;rintro e W2 ⟨rfl,hw⟩;obtain rfl:=hw.symm;clear hw HT1
 by_cases t1:256 < zhj n
 ·have k1:(256:Int) < (zhj n:Int):=by omega
  have HQ:=zab (HQF.out W1 (Below.refl _ _) (fun h=>by have:=h.2.2.1;omega));clear t1
  go_wp2_with fail
  go_ret
  exact HQ.out
 have k1:¬(256:Int) < (zhj n:Int):=by omega
 have HTO:Hid (zhk n<=64/\zhj n<=256):=⟨by omega,by omega⟩;have HP1:=HP.out W1 (Below.refl _ _);clear t0 t1
 go_wp2_with fail
 refine HP1.mono ?_;rintro e W2 ⟨rfl,b2⟩;have HB2:=zab b2;clear HP1 HP b2 q0 q1 q2 q3;obtain ⟨q0,q1,q2,q3⟩:=HC.out W2 HB2.out;cases hp:pb (zcc n) with
 | false=>
  have HQ:=zab (HQF.out W2 HB2.out (fun h=>za6 hp h.2.2.2.1));clear hp HG HTT
  go_wp2_with fail
  go_ret
  exact HQ.out
 | true=>
  have HPP:=zab (za0.1 hp);have HG1:=HG.out W2 HB2.out;clear hp HG
  go_wp2_with fail
  refine HG1.mono ?_;rintro e W3 ⟨rfl,b3⟩;have HB3:Hid (Below W1.heap.size W1 W3):=zac HB2.out b3;clear HG1 b3 q0 q1 q2 q3;obtain ⟨q0,q1,q2,q3⟩:=HC.out W3 HB3.out;cases hg:pb (∀ g∈n.grds,zbk n.bits g) with
  | false=>
   have HQ:=zab (HQF.out W3 HB3.out (fun h=>za6 hg h.2.2.2.2.1));clear hg HTT
   go_wp2_with fail
   go_ret
   exact HQ.out
  | true=>
   have HGG:=zab (za0.1 hg);have HT2:=HTT.out W3 HB3.out;clear hg HTT
   go_wp2_with fail
   refine HT2.mono ?_;rintro e W4 ⟨rfl,b4⟩;have HB4:Hid (Below W1.heap.size W1 W4):=zac HB3.out b4;clear HT2 b4 q0 q1 q2 q3;cases ht:pb (∀ (k:Nat) (t:List NE),n.tabs[k]?=some t->zg9 n (k:Int) t) with
   | false=>
    have HQ:=zab (HQF.out W4 HB4.out (fun h=>za6 ht h.2.2.2.2.2));clear ht
    go_wp2_with fail
    go_ret
    exact HQ.out
   | true=>
    have HQ:=zab (HQT.out W4 HB4.out ⟨HS.out,HTO.out.1,HTO.out.2,HPP.out,HGG.out,za0.1 ht⟩);clear ht
    go_wp2_with fail
    go_ret
    exact HQ.out
set_option maxRecDepth 100000 in
set_option maxHeartbeats 8000000 in
theorem zne (n:NN) (v:NV) (w:World) (hN:LN w n v) (hO:okN n) (hT:TAB w) :
  Calls Tryz.prog 52 #[.agg (nnA n v)] w fun e w'=>e=.returned (.int .i64 (if pb (NetP n)=true then 0 else 90))/\Below w.heap.size w w':=by
 obtain ⟨R,hR⟩:∃ R:Int,(if pb (NetP n)=true then (0:Int) else 90)=R:=⟨_,rfl⟩
 have HRT:Hid (NetP n->R=0):=fun h=>by rw [<-hR,if_pos (zck h)]
 have HRF:Hid (¬NetP n->R=90):=fun h=>by rw [<-hR,if_neg (by rw [zfd h];decide)]
 rw [hR];clear hR;obtain ⟨pp,cp,pt,ct,pg,cg⟩:=v;unfold nnA;simp only at hN ⊢;obtain ⟨W1,hW1⟩:=ex (w.alloc (Obj.cells #[.int .i64 n.bits,.slice pp n.ports.length cp,.slice pt n.tabs.length ct,.slice pg n.grds.length cg] 26));have b1:Below w.heap.size w W1:=by rw [<-hW1];exact zah (Below.refl _ _) _
 obtain ⟨B,hB⟩:=ex w.heap.size;have k1:W1.heap[B]?=some (.cells #[.int .i64 n.bits,.slice pp n.ports.length cp,.slice pt n.tabs.length ct,.slice pg n.grds.length cg] 26 (0,0)):=by rw [<-hW1,<-hB];exact zaa _ _
 have HC:Hid (∀ U,Below W1.heap.size W1 U->U.cell? ⟨B,0,none⟩=some (.int .i64 n.bits)/\U.cell? ⟨B,1,none⟩=some (.slice pp n.ports.length cp)/\U.cell? ⟨B,2,none⟩=some (.slice pt n.tabs.length ct)/\U.cell? ⟨B,3,none⟩=some (.slice pg n.grds.length cg)):=fun U hU=>by
  have:=(zaf (zae hU k1)).1;exact ⟨by rw [this];rfl,by rw [this];rfl,by rw [this];rfl,by rw [this];rfl⟩
 have HNN:Hid (∀ U,Below W1.heap.size W1 U->LN U n ⟨pp,cp,pt,ct,pg,cg⟩):=fun U hU=>hN.below (zac b1 hU);have HB1:=zab b1;have HBB:=zab hB;have HW:=zab hW1;clear k1 b1 hB hW1 hN;obtain ⟨q0,q1,q2,q3⟩:=HC.out W1 (Below.refl _ _);have H1:Calls Tryz.prog 80 #[.agg #[.int .i64 n.bits,.slice pp n.ports.length cp,.slice pt n.tabs.length ct,.slice pg n.grds.length cg]] W1 (BQ (NetP n) W1):=xnet_any n ⟨pp,cp,pt,ct,pg,cg⟩ W1 (HNN.out W1 (Below.refl _ _)) hO (hT.at HB1.out);clear hO hT HNN
 go_enter Tryz.func52,Tryz.ntmps52
 go_upto_region 1 with fail
 rw [HW.out,HBB.out]
 go_wp2_with fail
 refine H1.mono ?_;rintro e W2 ⟨rfl,b2⟩;have HB2:Hid (Below w.heap.size w W2):=zac HB1.out b2;clear H1 b2;cases hp:pb (NetP n) with
 | false=>
  have HR:=zab (HRF.out (za6 hp));clear hp
  go_wp2_with fail
  go_ret
  exact ⟨by rw [HR.out];rfl,HB2.out⟩
 | true=>
  have HR:=zab (HRT.out (za0.1 hp));clear hp
  go_wp2_with fail
  go_ret
  exact ⟨by rw [HR.out];rfl,HB2.out⟩
theorem zdz:(Tryz.prog.info? 3).map (fun i=>(i.zero,i.size,i.bytes))=some (some (.int .i64 0),1,8):=by kernel_rfl
theorem zby (W:World) (B a b:Nat) (v:Value) (h:b≠B):(W.setCell ⟨B,a,none⟩ v).heap[b]?=W.heap[b]?:=heap_setCell_other _ ⟨B,a,none⟩ b v (fun e=>h (by simpa using e))
end Go.Proofs.YtmfakcfmkmppfaaGreatDoor.Nt
