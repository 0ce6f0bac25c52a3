import Derived.Test.YtbplhianpelmfaaGreatDoorYAL
import Derived.Test.YtbplhianpelmfaaGreatDoorYAN
namespace Go.Proofs.YtbplhianpelmfaaGreatDoor.Nt
open Go.RowKit Go.Shelf
set_option maxRecDepth 100000 in
set_option maxHeartbeats 8000000 in
theorem xentry_any (n:NN) (v:NV) (box:Int) (x:NE) (pi:Option Addr) (ci:Nat) (pc:Option Addr) (cc:Nat) (po:Option Addr) (co:Nat) (w:World) (hN:LN w n v) (hE:LEL w x pi ci pc cc po co) (hS:SizeP n) (hO:okE x) :
  Calls Tryz.prog 81 #[.agg (nnA n v),.int .i64 box,.agg (neA x pi ci pc cc po co)] w (BQ (EntryP n box x) w):=by
 obtain ⟨pp,cp,pt,ct,pg,cg⟩:=v
 unfold nnA neA
 simp only at hN ⊢
 obtain ⟨ni,hni⟩:∃ ni,x.ins.length=ni:=⟨_,rfl⟩
 obtain ⟨nc,hnc⟩:∃ nc,x.cubes.length=nc:=⟨_,rfl⟩
 obtain ⟨no,hno⟩:∃ no,x.outs.length=no:=⟨_,rfl⟩
 rw [hni,hnc,hno]
 obtain ⟨W1,hW1⟩:∃ W1,(w.alloc (Obj.cells #[.int .i64 n.bits,.slice pp n.ports.length cp,.slice pt n.tabs.length ct,.slice pg n.grds.length cg] 26)).alloc (Obj.cells #[.string ⟨x.nm.toArray⟩,.slice pi ni ci,.slice pc nc cc,.string ⟨x.wr.toArray⟩,.slice po no co] 41)=W1:=⟨_,rfl⟩
 have b1:Below w.heap.size w W1:=by rw [←hW1];exact belAZ (belAZ (Below.refl _ _) _) _
 obtain ⟨B,hB⟩:∃ B,w.heap.size=B:=⟨_,rfl⟩
 obtain ⟨E,hEB⟩:∃ E,B+1=E:=⟨_,rfl⟩
 have k1:W1.heap[B]?=some (.cells #[.int .i64 n.bits,.slice pp n.ports.length cp,.slice pt n.tabs.length ct,.slice pg n.grds.length cg] 26 (0,0)):=by rw [←hW1,←hB];exact keepZ (belAZ (Below.refl _ _) _) (alloc_getZ _ _)
 have k2:W1.heap[E]?=some (.cells #[.string ⟨x.nm.toArray⟩,.slice pi ni ci,.slice pc nc cc,.string ⟨x.wr.toArray⟩,.slice po no co] 41 (0,0)):=by
  have:=alloc_getZ (w.alloc (Obj.cells #[.int .i64 n.bits,.slice pp n.ports.length cp,.slice pt n.tabs.length ct,.slice pg n.grds.length cg] 26)) (Obj.cells #[.string ⟨x.nm.toArray⟩,.slice pi ni ci,.slice pc nc cc,.string ⟨x.wr.toArray⟩,.slice po no co] 41)
  rw [alloc2,hB,hEB,hW1] at this
  exact this
 have HC:Hid (∀ U,Below W1.heap.size W1 U→U.cell? ⟨B,0,none⟩=some (.int .i64 n.bits)∧U.cell? ⟨B,1,none⟩=some (.slice pp n.ports.length cp)∧U.cell? ⟨B,2,none⟩=some (.slice pt n.tabs.length ct)∧U.cell? ⟨B,3,none⟩=some (.slice pg n.grds.length cg)∧U.cell? ⟨E,0,none⟩=some (.string ⟨x.nm.toArray⟩)∧U.cell? ⟨E,1,none⟩=some (.slice pi ni ci)∧U.cell? ⟨E,2,none⟩=some (.slice pc nc cc)∧U.cell? ⟨E,3,none⟩=some (.string ⟨x.wr.toArray⟩)∧U.cell? ⟨E,4,none⟩=some (.slice po no co)):=fun U hU=>by
  have h1:=(cellsZ (keepZ hU k1)).1
  have h2:=(cellsZ (keepZ hU k2)).1
  exact ⟨by rw [h1];rfl,by rw [h1];rfl,by rw [h1];rfl,by rw [h1];rfl,by rw [h2];rfl,by rw [h2];rfl,by rw [h2];rfl,by rw [h2];rfl,by rw [h2];rfl⟩
 have hni9:ni≤17592186043904:=by have:=hO.2.1;unfold okI at this;omega
 have hnc9:nc≤17592186043904:=by have:=hO.2.2.1.1;omega
 have HI:Hid (∀ U,Below W1.heap.size W1 U→Calls Tryz.prog 90 #[.agg #[.int .i64 n.bits,.slice pp n.ports.length cp,.slice pt n.tabs.length ct,.slice pg n.grds.length cg],.int .i64 box,.slice pi ni ci] U (BQ (InsP n box x.ins) U)):=fun U hU=>xins_any n ⟨pp,cp,pt,ct,pg,cg⟩ box x.ins pi ni ci U (hN.below (bel0Z b1 hU)) hni hni9 (hE.1.below (bel0Z b1 hU))
 have HU:Hid (∀ U,Below W1.heap.size W1 U→Calls Tryz.prog 91 #[.agg #[.int .i64 n.bits,.slice pp n.ports.length cp,.slice pt n.tabs.length ct,.slice pg n.grds.length cg],.int .i64 box,.slice po no co] U (BQ (OutsP n box x.outs) U)):=fun U hU=>xouts_any n ⟨pp,cp,pt,ct,pg,cg⟩ box x.outs po no co U (hN.below (bel0Z b1 hU)) hno (by have:=hE.2.2.2.2.2;omega) (hE.2.2.2.2.1.below (bel0Z b1 hU))
 have HK:Hid (∀ U,Below W1.heap.size W1 U→Calls Tryz.prog 80 #[.int .i64 n.bits,.slice pc nc cc] U (BQ (CubesP n.bits x.cubes) U)):=fun U hU=>xcubes_any n.bits x.cubes pc nc cc U hS.2.1 hnc hnc9 (hE.2.2.1.below (bel0Z b1 hU))
 have HX:Hid (∀ U,Calls Tryz.prog 89 #[.int .i64 n.bits,.string ⟨x.wr.toArray⟩] U (BQ (CubeP n.bits x.wr) U)):=fun U=>xcube_any n.bits x.wr U hS.2.1
 obtain ⟨EP,hEP⟩:∃ EP:Prop,EntryP n box x=EP:=⟨_,rfl⟩
 have HEP:Hid (EP=EntryP n box x):=hEP.symm
 have HQT:Hid (∀ U,Below W1.heap.size W1 U→EP→BQ EP w (.returned (.bool true)) U):=fun U hU h=>BQ.yes h (bel0Z b1 hU)
 have HQF:Hid (∀ U,Below W1.heap.size W1 U→¬EP→BQ EP w (.returned (.bool false)) U):=fun U hU h=>BQ.no h (bel0Z b1 hU)
 have HBB:Hid (w.heap.size=B∧B+1=E):=⟨hB,hEB⟩
 have HW:=hideL hW1
 rw [hEP]
 clear k1 k2 b1 hB hEB hW1 hN hE hS hO hni hnc hno hEP hni9 hnc9
 obtain ⟨q0,q1,q2,q3,e0,e1,e2,e3,e4⟩:=HC.out W1 (Below.refl _ _)
 by_cases hnm:x.nm.length≤256
 rotate_left
 ·have j0:¬(x.nm.length:Int)≤256:=by omega
  have HQ:=hideL (HQF.out W1 (Below.refl _ _) (fun h=>hnm (HEP.out ▸ h:EntryP n box x).1))
  clear hnm
  go_enter Tryz.func81,Tryz.ntmps81
  go_upto_region 1 with fail
  rw [HW.out,HBB.out.1,HBB.out.2]
  go_wp2_with fail
  go_ret
  exact HQ.out
 have j0:(x.nm.length:Int)≤256:=by omega
 have HNM:=hideL hnm
 have H1:=HI.out W1 (Below.refl _ _)
 go_enter Tryz.func81,Tryz.ntmps81
 go_upto_region 1 with fail
 rw [HW.out,HBB.out.1,HBB.out.2]
 clear hnm
 go_wp2_with fail
 refine H1.mono ?_
 rintro e W2 ⟨rfl,b1⟩
 have HB1:Hid (Below W1.heap.size W1 W2):=b1
 clear H1 b1 q0 q1 q2 q3 e0 e1 e2 e3 e4
 obtain ⟨q0,q1,q2,q3,e0,e1,e2,e3,e4⟩:=HC.out W2 HB1.out
 cases hp:pb (InsP n box x.ins) with
 | false=>
  have HQ:=hideL (HQF.out W2 HB1.out (fun h=>pb_not hp (HEP.out ▸ h:EntryP n box x).2.1))
  clear hp
  go_wp2_with fail
  go_ret
  exact HQ.out
 | true=>
  have HP1:=hideL (pb_iff.1 hp)
  have H2:=HK.out W2 HB1.out
  clear hp
  go_wp2_with fail
  refine H2.mono ?_
  rintro e W3 ⟨rfl,b2⟩
  have HB2:Hid (Below W1.heap.size W1 W3):=bel0Z HB1.out b2
  clear H2 b2 q0 q1 q2 q3 e0 e1 e2 e3 e4
  obtain ⟨q0,q1,q2,q3,e0,e1,e2,e3,e4⟩:=HC.out W3 HB2.out
  cases hp:pb (CubesP n.bits x.cubes) with
  | false=>
   have HQ:=hideL (HQF.out W3 HB2.out (fun h=>pb_not hp (HEP.out ▸ h:EntryP n box x).2.2.1))
   clear hp
   go_wp2_with fail
   go_ret
   exact HQ.out
  | true=>
   have HP2:=hideL (pb_iff.1 hp)
   have H3:=HX.out W3
   clear hp
   go_wp2_with fail
   refine H3.mono ?_
   rintro e W4 ⟨rfl,b3⟩
   have HB3:Hid (Below W1.heap.size W1 W4):=bel0Z HB2.out b3
   clear H3 b3 q0 q1 q2 q3 e0 e1 e2 e3 e4
   obtain ⟨q0,q1,q2,q3,e0,e1,e2,e3,e4⟩:=HC.out W4 HB3.out
   cases hp:pb (CubeP n.bits x.wr) with
   | false=>
    have HQ:=hideL (HQF.out W4 HB3.out (fun h=>pb_not hp (HEP.out ▸ h:EntryP n box x).2.2.2.1))
    clear hp
    go_wp2_with fail
    go_ret
    exact HQ.out
   | true=>
    have HP3:=hideL (pb_iff.1 hp)
    have H4:=HU.out W4 HB3.out
    clear hp
    go_wp2_with fail
    refine H4.mono ?_
    rintro e W5 ⟨rfl,b4⟩
    have HB4:Hid (Below W1.heap.size W1 W5):=bel0Z HB3.out b4
    clear H4 b4 q0 q1 q2 q3 e0 e1 e2 e3 e4
    obtain ⟨q0,q1,q2,q3,e0,e1,e2,e3,e4⟩:=HC.out W5 HB4.out
    cases hp:pb (OutsP n box x.outs) with
    | false=>
     have HQ:=hideL (HQF.out W5 HB4.out (fun h=>pb_not hp (HEP.out ▸ h:EntryP n box x).2.2.2.2))
     clear hp
     go_wp2_with fail
     go_ret
     exact HQ.out
    | true=>
     have HP4:=hideL (pb_iff.1 hp)
     have HQ:=hideL (HQT.out W5 HB4.out (HEP.out ▸ (⟨HNM.out,HP1.out,HP2.out,HP3.out,HP4.out⟩:EntryP n box x)))
     clear hp
     go_wp2_with fail
     go_ret
     exact HQ.out
set_option maxRecDepth 100000 in
set_option maxHeartbeats 8000000 in
theorem xtotG_any (n:NN) (p:Option Addr) (m c:Nat) (w:World) (hm:n.grds.length=m) (hm9:m≤48) (hL:LGS w p n.grds) (hO:∀ t∈n.grds,t.length≤4398046510976) :
  Calls Tryz.prog 70 #[.slice p m c] w fun e w'=>e=.returned (.int .i64 (totG n:Int))∧w'=w:=by
 have HM:=hideL hm
 have HL:=hideL hL
 have HO:=hideL hO
 clear hm hL hO
 go_enter Tryz.func70,Tryz.ntmps70
 go_wp2_with fail
 go_loopw [3,8] (fun v3 vk wr=>∃ k t:Nat,v3=.int .i64 (t:Int)∧vk=.int .i64 (k:Int)∧k≤m∧t≤k*4398046510976∧Hid (((n.grds.take k).map (·.length)).sum=t)∧wr=w) (fun _ vk _=>m - (intOf vk).toNat)
 case atStart=>exact ⟨0,0,rfl,rfl,Nat.zero_le _,Nat.zero_le _,rfl,rfl⟩
 case round=>
  obtain ⟨k,t,rfl,rfl,hk,ht,HT,rfl⟩:=hrel
  by_cases hlt:k < m
  ·obtain ⟨x,hx⟩:∃ x,n.grds[k]?=some x:=⟨_,List.getElem?_eq_getElem (by have:=HM.out;omega)⟩
   obtain ⟨g,o,p5,c5,rfl,c0,-,-⟩:=HL.out k x hx
   have hx9:=HO.out x (List.mem_of_getElem? hx)
   obtain ⟨l,hl⟩:∃ l,x.length=l:=⟨_,rfl⟩
   rw [hl] at c0 hx9
   have HN1:Hid (((n.grds.take (k+1)).map (·.length)).sum=t+l):=by show _=_;rw [tot_take hx,HT.out,hl]
   have j1:(k:Int) < (m:Int):=by omega
   have j0:(0:Int)≤(k:Int):=by omega
   clear hx hl HT
   go_wp2_with fail
   go_roundw
   case rel=>exact ⟨k+1,t+l,by go_num,by go_num,by omega,by omega,HN1,by first | rfl | trivial⟩
   case measure=>simp [intOf];omega
  ·obtain rfl:k=m:=by omega
   have j1:¬(k:Int) < (k:Int):=by omega
   have HE:Hid (totG n=t):=by
    have h1:=HT.out
    rw [List.take_of_length_le (by have:=HM.out;omega)] at h1
    exact h1
   clear HT
   go_wp2_with fail
   go_ret
   exact ⟨by rw [HE.out];rfl,by first | rfl | trivial⟩
set_option maxRecDepth 100000 in
set_option maxHeartbeats 8000000 in
theorem xtotE_any (n:NN) (p:Option Addr) (m c:Nat) (w:World) (hm:n.tabs.length=m) (hm9:m≤48) (hL:LT w p n.tabs) (hO:∀ t∈n.tabs,t.length≤4398046510976) :
  Calls Tryz.prog 71 #[.slice p m c] w fun e w'=>e=.returned (.int .i64 (totT n:Int))∧w'=w:=by
 have HM:=hideL hm
 have HL:=hideL hL
 have HO:=hideL hO
 clear hm hL hO
 go_enter Tryz.func71,Tryz.ntmps71
 go_wp2_with fail
 go_loopw [3,8] (fun v3 vk wr=>∃ k t:Nat,v3=.int .i64 (t:Int)∧vk=.int .i64 (k:Int)∧k≤m∧t≤k*4398046510976∧Hid (((n.tabs.take k).map (·.length)).sum=t)∧wr=w) (fun _ vk _=>m - (intOf vk).toNat)
 case atStart=>exact ⟨0,0,rfl,rfl,Nat.zero_le _,Nat.zero_le _,rfl,rfl⟩
 case round=>
  obtain ⟨k,t,rfl,rfl,hk,ht,HT,rfl⟩:=hrel
  by_cases hlt:k < m
  ·obtain ⟨x,hx⟩:∃ x,n.tabs[k]?=some x:=⟨_,List.getElem?_eq_getElem (by have:=HM.out;omega)⟩
   obtain ⟨g,o,p5,c5,rfl,c0,-,-⟩:=HL.out k x hx
   have hx9:=HO.out x (List.mem_of_getElem? hx)
   obtain ⟨l,hl⟩:∃ l,x.length=l:=⟨_,rfl⟩
   rw [hl] at c0 hx9
   have HN1:Hid (((n.tabs.take (k+1)).map (·.length)).sum=t+l):=by show _=_;rw [tot_take hx,HT.out,hl]
   have j1:(k:Int) < (m:Int):=by omega
   have j0:(0:Int)≤(k:Int):=by omega
   clear hx hl HT
   go_wp2_with fail
   go_roundw
   case rel=>exact ⟨k+1,t+l,by go_num,by go_num,by omega,by omega,HN1,by first | rfl | trivial⟩
   case measure=>simp [intOf];omega
  ·obtain rfl:k=m:=by omega
   have j1:¬(k:Int) < (k:Int):=by omega
   have HE:Hid (totT n=t):=by
    have h1:=HT.out
    rw [List.take_of_length_le (by have:=HM.out;omega)] at h1
    exact h1
   clear HT
   go_wp2_with fail
   go_ret
   exact ⟨by rw [HE.out];rfl,by first | rfl | trivial⟩
theorem scan_err0 {x:List UInt8} (h:(scanM x).2.1≠0):(scanM x).1=[]:=by
 by_cases hl:x.length≤16384
 ·have:=(run_done x (x.length+1) 0 1 0 [] (by omega)).2
  unfold scanM at h ⊢
  rw [if_neg (by omega)] at h ⊢
  exact this h
 ·unfold scanM
  rw [if_pos (by omega)]
def TAB (w0:World):Prop:=∀ U,Below w0.heap.size w0 U→SH U∧SG U∧VW U
theorem TAB.at {w U:World} (h:TAB w) (hb:Below w.heap.size w U):TAB U:=fun V hV=>h V (bel0Z hb hV)
set_option maxRecDepth 100000 in
set_option maxHeartbeats 8000000 in
theorem xpname_any (x:List UInt8) (w:World) (hx:okS x) (hT:TAB w) :
  Calls Tryz.prog 85 #[.string ⟨x.toArray⟩] w fun e w'=>e=.returned (.bool (fullN x))∧Below w.heap.size w w':=by
 have hT1:=hT w (Below.refl _ _)
 have hx:x.length≤140737488351232:=hx
 have HSC:=scan_any x w (by omega) hT1.1 hT1.2.1 (FOK_of hT1.2.2)
 have HOF:Hid (fullN x=match (scanM x).1 with | t :: _=>t.1==3&&t.2.1==x | []=>false):=by show fullN x=_;rw [←ofB_port];rfl
 have HER:Hid ((scanM x).2.1≠0→(scanM x).1=[]):=scan_err0
 obtain ⟨q,hq⟩:∃ q,fullN x=q:=⟨_,rfl⟩
 rw [hq] at HOF ⊢
 clear hT hT1 hq
 go_enter Tryz.func85,Tryz.ntmps85
 go_wp2_with fail
 refine HSC.mono ?_
 rintro e W2 ⟨v,rfl,o2,b2⟩
 obtain ⟨S,hS⟩:∃ S,scanM x=S:=⟨_,rfl⟩
 rw [hS] at o2 HOF HER ⊢
 obtain ⟨l,s1,s2,s3⟩:=S
 simp only at o2 HOF HER ⊢
 have HB2:=hideL b2
 clear hS HSC b2
 by_cases h0:s1=0
 ·subst h0
  clear HER
  cases l with
  | nil=>
   obtain ⟨pv,cv,rfl⟩:=shapeZ o2
   simp only at HOF
   clear o2
   go_wp2_with fail
   go_ret
   exact ⟨by rw [HOF.out];rfl,HB2.out⟩
  | cons t ls=>
   obtain ⟨t1,t2,t3,t4⟩:=t
   obtain ⟨pv,cv,rfl⟩:=shapeZ o2
   obtain ⟨g,rfl⟩:=own_someZ o2 (by simp)
   have k0:W2.cell? ⟨g,0,none⟩=some (.int .i64 (t1:Int)):=own_atZ o2 rfl
   have k1:W2.cell? ⟨g,1,none⟩=some (.string ⟨t2.toArray⟩):=own_atZ o2 rfl
   obtain ⟨N,hN⟩:∃ N,((t1,t2,t3,t4) :: ls).length=N:=⟨_,rfl⟩
   have j0:(0:Int) < (N:Int):=by rw [←hN];simp only [List.length_cons];omega
   have j00:0 < N:=by omega
   rw [hN]
   simp only at HOF
   clear o2 hN
   by_cases h1:t1=3
   ·subst h1
    by_cases h2:t2=x
    ·subst h2
     have HQ:Hid (q=true):=by show q=_;rw [HOF.out];simp
     clear HOF
     go_wp2_with fail
     go_ret
     exact ⟨by rw [HQ.out];rfl,HB2.out⟩
    ·have y3:(t2==x)=false:=beq_eq_false_iff_ne.2 h2
     have HQ:Hid (q=false):=by show q=_;rw [HOF.out,y3];rfl
     clear HOF h2
     go_wp2_with fail
     go_ret
     exact ⟨by rw [HQ.out];rfl,HB2.out⟩
   ·have y3:((t1:Int)==3)=false:=beq_eq_false_iff_ne.2 (by omega)
    have HQ:Hid (q=false):=by show q=_;rw [HOF.out,beq_eq_false_iff_ne.2 h1];rfl
    clear HOF h1
    go_wp2_with fail
    go_ret
    exact ⟨by rw [HQ.out];rfl,HB2.out⟩
 ·obtain rfl:=HER.out h0
  obtain ⟨pv,cv,rfl⟩:=shapeZ o2
  have y1:((s1:Int)==0)=false:=beq_eq_false_iff_ne.2 (by omega)
  simp only at HOF
  clear o2 h0 HER
  go_wp2_with fail
  go_ret
  exact ⟨by rw [HOF.out];rfl,HB2.out⟩
end Go.Proofs.YtbplhianpelmfaaGreatDoor.Nt
