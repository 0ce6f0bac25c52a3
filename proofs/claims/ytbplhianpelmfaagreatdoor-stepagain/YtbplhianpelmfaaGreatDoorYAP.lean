import Derived.Test.YtbplhianpelmfaaGreatDoorYAO
import Derived.Maps.OwnSet
import Derived.StringKeys
namespace Go.Proofs.YtbplhianpelmfaaGreatDoor.Nt
open Go.RowKit Go.Shelf
set_option maxRecDepth 100000 in
set_option maxHeartbeats 8000000 in
theorem xport_any (n:NN) (v:NV) (x:NP) (w:World) (hN:LN w n v) (hx:okS x.nm) (hT:TAB w) :
  Calls Tryz.prog 79 #[.agg (nnA n v),.agg #[.string ⟨x.nm.toArray⟩,.int .i64 x.bx,.bool x.inn,.int .i64 x.lk]] w (BQ (PortP n x) w):=by
 obtain ⟨pp,cp,pt,ct,pg,cg⟩:=v
 unfold nnA
 simp only at hN ⊢
 obtain ⟨W1,hW1⟩:∃ W1,(w.alloc (Obj.cells #[.int .i64 n.bits,.slice pp n.ports.length cp,.slice pt n.tabs.length ct,.slice pg n.grds.length cg] 26)).alloc (Obj.cells #[.string ⟨x.nm.toArray⟩,.int .i64 x.bx,.bool x.inn,.int .i64 x.lk] 36)=W1:=⟨_,rfl⟩
 have b1:Below w.heap.size w W1:=by rw [←hW1];exact belAZ (belAZ (Below.refl _ _) _) _
 obtain ⟨B,hB⟩:∃ B,w.heap.size=B:=⟨_,rfl⟩
 obtain ⟨E,hEB⟩:∃ E,B+1=E:=⟨_,rfl⟩
 have k1:W1.heap[B]?=some (.cells #[.int .i64 n.bits,.slice pp n.ports.length cp,.slice pt n.tabs.length ct,.slice pg n.grds.length cg] 26 (0,0)):=by rw [←hW1,←hB];exact keepZ (belAZ (Below.refl _ _) _) (alloc_getZ _ _)
 have k2:W1.heap[E]?=some (.cells #[.string ⟨x.nm.toArray⟩,.int .i64 x.bx,.bool x.inn,.int .i64 x.lk] 36 (0,0)):=by
  have:=alloc_getZ (w.alloc (Obj.cells #[.int .i64 n.bits,.slice pp n.ports.length cp,.slice pt n.tabs.length ct,.slice pg n.grds.length cg] 26)) (Obj.cells #[.string ⟨x.nm.toArray⟩,.int .i64 x.bx,.bool x.inn,.int .i64 x.lk] 36)
  rw [alloc2,hB,hEB,hW1] at this
  exact this
 have HC:Hid (∀ U,Below W1.heap.size W1 U→U.cell? ⟨B,0,none⟩=some (.int .i64 n.bits)∧U.cell? ⟨B,1,none⟩=some (.slice pp n.ports.length cp)∧U.cell? ⟨B,2,none⟩=some (.slice pt n.tabs.length ct)∧U.cell? ⟨B,3,none⟩=some (.slice pg n.grds.length cg)∧U.cell? ⟨E,0,none⟩=some (.string ⟨x.nm.toArray⟩)∧U.cell? ⟨E,1,none⟩=some (.int .i64 x.bx)∧U.cell? ⟨E,2,none⟩=some (.bool x.inn)∧U.cell? ⟨E,3,none⟩=some (.int .i64 x.lk)):=fun U hU=>by
  have h1:=(cellsZ (keepZ hU k1)).1
  have h2:=(cellsZ (keepZ hU k2)).1
  exact ⟨by rw [h1];rfl,by rw [h1];rfl,by rw [h1];rfl,by rw [h1];rfl,by rw [h2];rfl,by rw [h2];rfl,by rw [h2];rfl,by rw [h2];rfl⟩
 have HNN:Hid (∀ U,Below W1.heap.size W1 U→LN U n ⟨pp,cp,pt,ct,pg,cg⟩):=fun U hU=>hN.below (bel0Z b1 hU)
 have HNU:Hid (∀ U (z:Int),Below W1.heap.size W1 U→Calls Tryz.prog 86 #[.agg #[.int .i64 n.bits,.slice pp n.ports.length cp,.slice pt n.tabs.length ct,.slice pg n.grds.length cg],.int .i64 z] U (BQ (NumP n z) U)):=fun U z hU=>xnum_any n ⟨pp,cp,pt,ct,pg,cg⟩ z U (HNN.out U hU)
 have H1:=xpname_any x.nm W1 hx (hT.at b1)
 obtain ⟨EP,hEP⟩:∃ EP:Prop,PortP n x=EP:=⟨_,rfl⟩
 have HEP:Hid (EP=PortP n x):=hEP.symm
 have HQT:Hid (∀ U,Below W1.heap.size W1 U→EP→BQ EP w (.returned (.bool true)) U):=fun U hU h=>BQ.yes h (bel0Z b1 hU)
 have HQF:Hid (∀ U,Below W1.heap.size W1 U→¬EP→BQ EP w (.returned (.bool false)) U):=fun U hU h=>BQ.no h (bel0Z b1 hU)
 have HBB:Hid (w.heap.size=B∧B+1=E):=⟨hB,hEB⟩
 have HW:=hideL hW1
 rw [hEP]
 clear k1 k2 b1 hB hEB hW1 hN hx hT hEP
 obtain ⟨q0,q1,q2,q3,e0,e1,e2,e3⟩:=HC.out W1 (Below.refl _ _)
 go_enter Tryz.func79,Tryz.ntmps79
 go_upto_region 1 with fail
 rw [HW.out,HBB.out.1,HBB.out.2]
 go_wp2_with fail
 refine H1.mono ?_
 rintro e W2 ⟨rfl,b2⟩
 have HB2:=hideL b2
 clear H1 b2 q0 q1 q2 q3 e0 e1 e2 e3
 obtain ⟨q0,q1,q2,q3,e0,e1,e2,e3⟩:=HC.out W2 HB2.out
 have HEX:Hid (EP→PortP n x):=fun h=>HEP.out ▸ h
 cases hf:fullN x.nm with
 | false=>
  have HQ:=hideL (HQF.out W2 HB2.out (fun h=>by have:=(HEX.out h).1;rw [hf] at this;cases this))
  clear hf
  go_wp2_with fail
  go_ret
  exact HQ.out
 | true=>
  by_cases hb0:x.bx < (0:Int)
  ·have HQ:=hideL (HQF.out W2 HB2.out (fun h=>by have:=(HEX.out h).2.1;omega))
   clear hf
   go_wp2_with fail
   go_ret
   exact HQ.out
  by_cases hb1:(n.tabs.length:Int)≤x.bx
  ·have j4:¬x.bx < (n.tabs.length:Int):=by omega
   have HQ:=hideL (HQF.out W2 HB2.out (fun h=>by have:=(HEX.out h).2.2.1;omega))
   clear hf
   go_wp2_with fail
   go_ret
   exact HQ.out
  have j4:x.bx < (n.tabs.length:Int):=by omega
  have HBX:Hid (fullN x.nm=true∧0≤x.bx∧x.bx < (n.tabs.length:Int)):=⟨hf,by omega,j4⟩
  clear hf
  by_cases hl1:x.lk=-1
  ·have y1:(x.lk==-1)=true:=beq_iff_eq.2 hl1
   have HQ:=hideL (HQT.out W2 HB2.out (HEP.out ▸ (⟨HBX.out.1,HBX.out.2.1,HBX.out.2.2,.inl hl1⟩:PortP n x)))
   clear hl1
   go_wp2_with fail
   go_ret
   exact HQ.out
  have y1:(x.lk==-1)=false:=beq_eq_false_iff_ne.2 hl1
  have HLK:Hid (EP→x.inn=false∧0≤x.lk∧x.lk < (n.ports.length:Int)∧(portAt n x.lk).inn=true):=fun h=>by
   rcases (HEX.out h).2.2.2 with h9 | h9
   ·exact absurd h9 hl1
   ·exact h9
  clear hl1
  cases hin:x.inn with
  | true=>
   rw [hin] at e2
   have HQ:=hideL (HQF.out W2 HB2.out (fun h=>by have:=(HLK.out h).1;rw [hin] at this;cases this))
   clear hin
   go_wp2_with fail
   go_ret
   exact HQ.out
  | false=>
   rw [hin] at e2
   have H2:=HNU.out W2 x.lk HB2.out
   have HIN:=hideL hin
   clear hin
   go_wp2_with fail
   refine H2.mono ?_
   rintro e W3 ⟨rfl,b3⟩
   have HB3:Hid (Below W1.heap.size W1 W3):=bel0Z HB2.out b3
   clear H2 b3 q0 q1 q2 q3 e0 e1 e2 e3
   obtain ⟨q0,q1,q2,q3,e0,e1,e2,e3⟩:=HC.out W3 HB3.out
   cases hp:pb (NumP n x.lk) with
   | false=>
    have HQ:=hideL (HQF.out W3 HB3.out (fun h=>pb_not hp ⟨(HLK.out h).2.1,(HLK.out h).2.2.1⟩))
    clear hp
    go_wp2_with fail
    go_ret
    exact HQ.out
   | true=>
    obtain ⟨h0,h1⟩:=pb_iff.1 hp
    obtain ⟨l,hl9⟩:∃ l:Nat,x.lk=(l:Int):=⟨x.lk.toNat,by omega⟩
    obtain ⟨y,hy⟩:∃ y,n.ports[l]?=some y:=⟨_,List.getElem?_eq_getElem (by omega)⟩
    obtain ⟨g,o,e5,c0,c1,c2,c3⟩:=(HNN.out W3 HB3.out).1 l y hy
    simp only at e5
    subst e5
    have hpa:=portAt_of hy
    have HYI:Hid (y.inn=true↔EP):=by
     show _↔_
     rw [HEP.out]
     constructor
     ·exact fun h=>⟨HBX.out.1,HBX.out.2.1,HBX.out.2.2,.inr ⟨HIN.out,h0,h1,by rw [hl9,hpa];exact h⟩⟩
     ·intro h
      have h9:=(HLK.out (HEP.out ▸ h)).2.2.2
      rw [hl9,hpa] at h9
      exact h9
    rw [hl9] at e3
    have j5:(0:Int)≤(l:Int):=by omega
    have j6:(l:Int) < (n.ports.length:Int):=by omega
    clear hp h0 h1 hl9 hy hpa c0 c1 c3 y1
    cases hyi:y.inn with
    | false=>
     rw [hyi] at c2
     have HQ:=hideL (HQF.out W3 HB3.out (fun h=>by have:=HYI.out.2 h;rw [hyi] at this;cases this))
     clear hyi
     go_wp2_with fail
     go_ret
     exact HQ.out
    | true=>
     rw [hyi] at c2
     have HQ:=hideL (HQT.out W3 HB3.out (HYI.out.1 hyi))
     clear hyi
     go_wp2_with fail
     go_ret
     exact HQ.out
def MPQ (n:NN) (k:Nat) (D:DataW Unit):Prop:=Maps.Tidy D∧(∀ nm:List UInt8,Maps.has D (.string nm)=true↔nm∈(n.ports.take k).map (·.nm))∧Maps.size D≤k∧(Maps.size D=k↔((n.ports.take k).map (·.nm)).Nodup)
theorem MPQ.zero (n:NN):MPQ n 0 (.map []):=⟨Maps.tidy_empty,fun nm=>by simp [Maps.has],Nat.le_refl _,by simp [Maps.size]⟩
theorem take_names {n:NN} {k:Nat} {x:NP} (hx:n.ports[k]?=some x):(n.ports.take (k+1)).map (·.nm)=(n.ports.take k).map (·.nm)++[x.nm]:=by
 rw [List.take_add_one,hx]
 simp
theorem MPQ.put {n:NN} {k:Nat} {D:DataW Unit} {x:NP} (h:MPQ n k D) (hx:n.ports[k]?=some x) (d:DataW Unit) (hT:Maps.Tidy (D.put (.string x.nm) d)):MPQ n (k+1) (D.put (.string x.nm) d):=by
 obtain ⟨h1,h2,h3,h4⟩:=h
 have hsz:=Maps.size_put (k:=.string x.nm) h1 d
 refine ⟨hT,fun nm=>?_,?_,?_⟩
 ·rw [take_names hx,List.mem_append,List.mem_singleton]
  by_cases he:nm=x.nm
  ·subst he
   rw [Maps.has_put_same h1.isMap (by trivial) d]
   simp
  ·rw [Maps.has_put_other (by intro h9;injection h9 with h9;exact he h9) d,h2 nm]
   simp [he]
 ·rw [hsz]
  split <;> omega
 ·rw [hsz,take_names hx,List.nodup_append]
  by_cases hh:Maps.has D (.string x.nm)=true
  ·rw [if_pos hh]
   constructor
   ·intro h9;omega
   ·intro h9
    exact absurd rfl (h9.2.2 x.nm ((h2 x.nm).1 hh) x.nm (by simp))
  ·rw [if_neg hh]
   constructor
   ·intro h9
    refine ⟨h4.1 (by omega),by simp,fun a ha b hb=>?_⟩
    have hb:b=x.nm:=by simpa using hb
    subst hb
    intro he
    subst he
    exact hh ((h2 _).2 ha)
   ·intro h9
    have:=h4.2 h9.1
    omega
set_option maxRecDepth 100000 in
set_option maxHeartbeats 16000000 in
theorem xports_any (n:NN) (v:NV) (w:World) (hN:LN w n v) (hS:SizeP n) (hO:okN n) (hT:TAB w) :
  Calls Tryz.prog 72 #[.agg (nnA n v)] w (BQ (PortsP n) w):=by
 obtain ⟨pp,cp,pt,ct,pg,cg⟩:=v
 unfold nnA
 simp only at hN ⊢
 obtain ⟨W1,hW1⟩:∃ W1,w.alloc (Obj.cells #[.int .i64 n.bits,.slice pp n.ports.length cp,.slice pt n.tabs.length ct,.slice pg n.grds.length cg] 26)=W1:=⟨_,rfl⟩
 have b1:Below w.heap.size w W1:=by rw [←hW1];exact belAZ (Below.refl _ _) _
 obtain ⟨B,hB⟩:∃ B,w.heap.size=B:=⟨_,rfl⟩
 have k1:W1.heap[B]?=some (.cells #[.int .i64 n.bits,.slice pp n.ports.length cp,.slice pt n.tabs.length ct,.slice pg n.grds.length cg] 26 (0,0)):=by rw [←hW1,←hB];exact alloc_getZ _ _
 have HC:Hid (∀ U,Below W1.heap.size W1 U→U.cell? ⟨B,0,none⟩=some (.int .i64 n.bits)∧U.cell? ⟨B,1,none⟩=some (.slice pp n.ports.length cp)∧U.cell? ⟨B,2,none⟩=some (.slice pt n.tabs.length ct)∧U.cell? ⟨B,3,none⟩=some (.slice pg n.grds.length cg)):=fun U hU=>by
  have:=(cellsZ (keepZ hU k1)).1
  exact ⟨by rw [this];rfl,by rw [this];rfl,by rw [this];rfl,by rw [this];rfl⟩
 have HNN:Hid (∀ U,Below W1.heap.size W1 U→LN U n ⟨pp,cp,pt,ct,pg,cg⟩):=fun U hU=>hN.below (bel0Z b1 hU)
 have HB1:=hideL b1
 have HBB:=hideL hB
 have HW:=hideL hW1
 clear k1 b1 hB hW1 hN
 have hmm:=@run_makeMap Tryz.prog
 have HZ:Hid (SizeP n∧okN n∧TAB w):=⟨hS,hO,hT⟩
 obtain ⟨np,hnp⟩:∃ np,n.ports.length=np:=⟨_,rfl⟩
 have hnp48:np≤48:=by have:=hS.2.2.2.1;omega
 have HNP:=hideL hnp
 have HQT:Hid (∀ U,Below W1.heap.size W1 U→PortsP n→BQ (PortsP n) w (.returned (.bool true)) U):=fun U hU h=>BQ.yes h (bel0Z HB1.out hU)
 have HQF:Hid (∀ U,Below W1.heap.size W1 U→¬PortsP n→BQ (PortsP n) w (.returned (.bool false)) U):=fun U hU h=>BQ.no h (bel0Z HB1.out hU)
 have HPO:Hid (∀ U (x:NP),Below W1.heap.size W1 U→okS x.nm→Calls Tryz.prog 79 #[.agg #[.int .i64 n.bits,.slice pp np cp,.slice pt n.tabs.length ct,.slice pg n.grds.length cg],.agg #[.string ⟨x.nm.toArray⟩,.int .i64 x.bx,.bool x.inn,.int .i64 x.lk]] U (BQ (PortP n x) U)):=fun U x hU hx=>by
  have:=xport_any n ⟨pp,cp,pt,ct,pg,cg⟩ x U (HNN.out U hU) hx (HZ.out.2.2.at (bel0Z HB1.out hU))
  unfold nnA at this
  simp only at this
  rw [HNP.out] at this
  exact this
 rw [hnp] at HC HW ⊢
 obtain ⟨mb,hmb⟩:∃ mb,W1.heap.size=mb:=⟨_,rfl⟩
 have HMB:=hideL hmb
 clear hS hO hT hnp hmb
 go_enter Tryz.func72,Tryz.ntmps72
 go_upto_region 1 with fail
 rw [HW.out,HBB.out]
 obtain ⟨q0,q1,q2,q3⟩:=HC.out (W1.alloc (.map #[] 0)) (belAZ (Below.refl _ _) _)
 go_wp2_with fail
 rw [HMB.out]
 clear q0 q1 q2 q3
 go_loopw [10] (fun vk wr=>∃ (k:Nat) (D:DataW Unit),vk=.int .i64 (k:Int)∧k≤np∧Hid (wr.ownsMap Tryz.prog 9 (plainElem Tryz.prog 3) mb k D∧MPQ n k D∧∀ p∈n.ports.take k,PortP n p)∧Hid (Below W1.heap.size W1 wr)) (fun vk _=>np - (intOf vk).toNat)
 case atStart=>exact ⟨0,.map [],rfl,Nat.zero_le _,⟨by rw [←HMB.out];exact World.ownsMap_made _ _ _ _,MPQ.zero n,fun p hp=>by simp at hp⟩,belAZ (Below.refl _ _) _⟩
 case round=>
  obtain ⟨k,D,rfl,hk,HMQ,HB⟩:=hrel
  obtain ⟨q0,q1,q2,q3⟩:=HC.out wr HB.out
  by_cases hlt:k < np
  ·obtain ⟨x,hx⟩:∃ x,n.ports[k]?=some x:=⟨_,List.getElem?_eq_getElem (by have:=HNP.out;omega)⟩
   obtain ⟨g0,o0,e5,i0,i1,i2,i3⟩:=(HNN.out wr HB.out).1 k x hx
   simp only at e5
   subst e5
   have hok:=HZ.out.2.1.2.1 x (List.mem_of_getElem? hx)
   have HX:Hid (n.ports[k]?=some x∧okS x.nm):=⟨hx,hok⟩
   have j1:(0:Int)≤(k:Int):=by omega
   have j2:(k:Int) < (np:Int):=by omega
   obtain ⟨W5,hW5⟩:∃ W5,wr.alloc (Obj.cells #[.string ⟨x.nm.toArray⟩,.int .i64 x.bx,.bool x.inn,.int .i64 x.lk] 36)=W5:=⟨_,rfl⟩
   have b5:Below wr.heap.size wr W5:=by rw [←hW5];exact belAZ (Below.refl _ _) _
   obtain ⟨b4,hb4⟩:∃ b4,wr.heap.size=b4:=⟨_,rfl⟩
   have k5:W5.heap[b4]?=some (.cells #[.string ⟨x.nm.toArray⟩,.int .i64 x.bx,.bool x.inn,.int .i64 x.lk] 36 (0,0)):=by rw [←hW5,←hb4];exact alloc_getZ _ _
   have HB5:Hid (Below W1.heap.size W1 W5):=bel0Z HB.out b5
   have HK5:Hid (∀ U,Below W5.heap.size W5 U→(U.cell? ⟨b4,0,none⟩=some (.string ⟨x.nm.toArray⟩)∧U.cell? ⟨b4,1,none⟩=some (.int .i64 x.bx)∧U.cell? ⟨b4,2,none⟩=some (.bool x.inn)∧U.cell? ⟨b4,3,none⟩=some (.int .i64 x.lk))∧U.ownsMap Tryz.prog 9 (plainElem Tryz.prog 3) mb k D):=fun U hU=>by
    have:=(cellsZ (keepZ hU k5)).1
    exact ⟨⟨by rw [this];rfl,by rw [this];rfl,by rw [this];rfl,by rw [this];rfl⟩,HMQ.out.1.kept (row:=none) (gr_belZ (bel0Z b5 hU) none) (by simp)⟩
   have H1:=HPO.out W5 x HB5.out hok
   have HW5:=hideL hW5
   have HB4:=hideL hb4
   clear hx hok b5 hb4 k5 hW5
   go_upto_region 5 with fail
   rw [HW5.out,HB4.out]
   clear i0 i1 i2 i3 q0 q1 q2 q3
   obtain ⟨q0,q1,q2,q3⟩:=HC.out W5 HB5.out
   obtain ⟨⟨i0,i1,i2,i3⟩,-⟩:=HK5.out W5 (Below.refl _ _)
   go_wp2_with fail
   refine H1.mono ?_
   rintro e W6 ⟨rfl,b6⟩
   have HB6:Hid (Below W1.heap.size W1 W6):=bel0Z HB5.out b6
   obtain ⟨⟨u0,-,-,-⟩,hown⟩:=HK5.out W6 b6
   clear H1 b6 q0 q1 q2 q3 i0 i1 i2 i3
   cases hp:pb (PortP n x) with
   | false=>
    have HQ:=hideL (HQF.out W6 HB6.out (fun h=>pb_not hp (h.1 x (List.mem_of_getElem? HX.out.1))))
    clear hp hown
    go_wp2_with fail
    go_ret
    exact HQ.out
   | true=>
    have HPX:=hideL (pb_iff.1 hp)
    have hkey:keyOf Tryz.prog 9 (.string ⟨x.nm.toArray⟩)=some (.string x.nm):=by
     have:=WideMaps.keyOf_string_mk (P:=Tryz.prog) (k:=9) Tryz.underlying9 (s:=⟨x.nm.toArray⟩) (by have h9:x.nm.length≤140737488351232:=HX.out.2;simp [ByteArray.size,maxLen];omega)
     simpa using this
    clear hp
    go_wp2_with (first
     | (at_mapUpdate;refine wpList_mapUpdate_own _ rfl _ _ _ 141 rfl 9 3 (Maps.string_keyed Tryz.underlying9) Tryz.underlying141 _ mb k D rfl hown (by unfold maxLen;omega) _ _ _ rfl rfl hkey _ [] (plainElem_int Tryz.underlying3 (WalkArith.wf_i64 (by omega))) ?_)
     | fail)
    intro w7 hown7 hg7
    have HN1:Hid (w7.ownsMap Tryz.prog 9 (plainElem Tryz.prog 3) mb (k+1) (D.put (.string x.nm) (.lit (.int .i64 (k:Int))))∧MPQ n (k+1) (D.put (.string x.nm) (.lit (.int .i64 (k:Int))))∧∀ p∈n.ports.take (k+1),PortP n p):=⟨hown7,HMQ.out.2.1.put HX.out.1 _ (hown7.tidy (Maps.string_keyed Tryz.underlying9)),all_take HX.out.1 HMQ.out.2.2 HPX.out⟩
    have HB7:Hid (Below W1.heap.size W1 w7):=bel_grZ HB6.out hg7 (fun k9 e9=>by injection e9 with e9;have:=HMB.out;omega)
    clear hown hown7 hg7 hkey HMQ
    go_wp2_with fail
    go_roundw
    case rel=>exact ⟨k+1,_,by go_num,by omega,HN1,HB7⟩
    case measure=>simp [intOf];omega
  ·obtain rfl:k=np:=by omega
   have j2:¬(k:Int) < (k:Int):=by omega
   obtain ⟨hown,hmq,hall⟩:=HMQ.out
   obtain ⟨sz,hsz⟩:∃ sz,Maps.size D=sz:=⟨_,rfl⟩
   have HND:Hid (sz=k↔(n.ports.map (·.nm)).Nodup):=by
    have h1:=hmq.2.2.2
    rw [hsz,List.take_of_length_le (by have:=HNP.out;omega)] at h1
    exact h1
   have HAL:Hid (∀ p∈n.ports,PortP n p):=by
    have h1:=hall
    rw [List.take_of_length_le (by have:=HNP.out;omega)] at h1
    exact h1
   clear hmq hall HMQ
   by_cases he:sz=k
   ·have HQ:=hideL (HQT.out wr HB.out ⟨HAL.out,HND.out.1 he⟩)
    have y1:((sz:Int)==(k:Int))=true:=beq_iff_eq.2 (by omega)
    clear he HND HAL
    go_wp2_with (first
     | (at_len;refine wpList_len_own _ rfl _ 141 rfl 9 3 Tryz.underlying141 _ mb k D rfl hown ?_;rw [hsz])
     | fail)
    go_ret
    exact HQ.out
   ·have HQ:=hideL (HQF.out wr HB.out (fun h=>he (HND.out.2 h.2)))
    have y1:((sz:Int)==(k:Int))=false:=beq_eq_false_iff_ne.2 (by omega)
    clear he HND HAL
    go_wp2_with (first
     | (at_len;refine wpList_len_own _ rfl _ 141 rfl 9 3 Tryz.underlying141 _ mb k D rfl hown ?_;rw [hsz])
     | fail)
    go_ret
    exact HQ.out
end Go.Proofs.YtbplhianpelmfaaGreatDoor.Nt
