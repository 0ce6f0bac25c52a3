import Derived.Test.YtbplhianpelmfaaGreatDoorYAK
namespace Go.Proofs.YtbplhianpelmfaaGreatDoor.Nt
open Go.RowKit Go.Shelf
set_option maxRecDepth 100000 in
set_option maxHeartbeats 8000000 in
theorem xcube_any (bits:Int) (c:List UInt8) (w:World) (hb:bits≤256):Calls Tryz.prog 89 #[.int .i64 bits,.string ⟨c.toArray⟩] w (BQ (CubeP bits c) w):=by
 by_cases hl:(c.length:Int)=bits
 ·have y1:((c.length:Int)==bits)=true:=beq_iff_eq.2 hl
  have HT:=trim_any c w (by omega)
  have HTN:=hideL (trim_nil c)
  obtain ⟨T,hT⟩:∃ T,Lib.trimS c [48,49,120]=T:=⟨_,rfl⟩
  rw [hT] at HT HTN
  cases T with
  | nil=>
   have HQ:Hid (∀ U,Below w.heap.size w U→BQ (CubeP bits c) w (.returned (.bool true)) U):=fun U hU=>BQ.yes ⟨hl,HTN.out.1 rfl⟩ hU
   clear hT HTN hl
   go_enter Tryz.func89,Tryz.ntmps89
   go_wp2_with fail
   refine HT.mono ?_
   rintro e W1 ⟨rfl,b1⟩
   have HQ1:=hideL (HQ.out W1 b1)
   clear HT b1 HQ
   go_wp2_with fail
   go_ret
   exact HQ1.out
  | cons t r=>
   have HQ:Hid (∀ U,Below w.heap.size w U→BQ (CubeP bits c) w (.returned (.bool false)) U):=fun U hU=>BQ.no (fun h=>by have:=HTN.out.2 h.2;cases this) hU
   clear hT HTN hl
   go_enter Tryz.func89,Tryz.ntmps89
   go_wp2_with fail
   refine HT.mono ?_
   rintro e W1 ⟨rfl,b1⟩
   have HQ1:=hideL (HQ.out W1 b1)
   clear HT b1 HQ
   go_wp2_with fail
   go_ret
   exact HQ1.out
 ·have y1:((c.length:Int)==bits)=false:=beq_eq_false_iff_ne.2 hl
  have HQ:Hid (BQ (CubeP bits c) w (.returned (.bool false)) w):=BQ.no (fun h=>hl h.1) (Below.refl _ _)
  clear hl
  go_enter Tryz.func89,Tryz.ntmps89
  go_wp2_with fail
  go_ret
  exact HQ.out
set_option maxRecDepth 100000 in
set_option maxHeartbeats 8000000 in
theorem xcube1_any (bits:Int) (c:List UInt8) (b:Nat) (w:World) (hb:bits≤256) (hc:w.cell? ⟨b,0,none⟩=some (.int .i64 bits)):Calls Tryz.prog 88 #[.string ⟨c.toArray⟩,.pointer (some ⟨b,0,none⟩)] w fun e w'=>e=.returned (.bool (!pb (CubeP bits c)))∧Below w.heap.size w w':=by
 have HT:=xcube_any bits c w hb
 obtain ⟨q,hq⟩:∃ q,pb (CubeP bits c)=q:=⟨_,rfl⟩
 have HT:Calls Tryz.prog 89 #[.int .i64 bits,.string ⟨c.toArray⟩] w fun e w'=>e=.returned (.bool q)∧Below w.heap.size w w':=by rw [←hq];exact HT
 rw [hq]
 clear hb hq
 go_enter Tryz.func88,Tryz.ntmps88
 go_wp2_with fail
 refine HT.mono ?_
 rintro e W1 ⟨rfl,b1⟩
 have HB1:=hideL b1
 clear HT b1
 go_wp2_with fail
 go_ret
 exact ⟨rfl,HB1.out⟩
def NumP (n:NN) (p:Int):Prop:=0≤p∧p < (n.ports.length:Int)
def IXQ (bits:Int) (L:List (List UInt8)) (w:World) (e:Ending) (w':World):Prop:=∃ z:Int,e=.returned (.int .i64 z)∧((0≤z)↔¬∀ c∈L,CubeP bits c)∧Below w.heap.size w w'
set_option maxRecDepth 100000 in
set_option maxHeartbeats 8000000 in
theorem xidx_any (bits:Int) (L:List (List UInt8)) (p:Option Addr) (n c b:Nat) (w:World) (hb:bits≤256) (hn:L.length=n) (hn9:n≤17592186043904) (hL:LS w p L) (hc:w.cell? ⟨b,0,none⟩=some (.int .i64 bits)) :
  Calls Tryz.prog 94 #[.slice p n c,.func (.func 88) #[] #[.pointer (some ⟨b,0,none⟩)]] w (IXQ bits L w):=by
 have HN:Hid (L.length=n∧bits≤256):=⟨hn,hb⟩
 have HL:Hid (∀ U,Below w.heap.size w U→LS U p L∧U.cell? ⟨b,0,none⟩=some (.int .i64 bits)):=fun U hU=>⟨hL.below hU,keepC hU hc⟩
 clear hb hn hL hc
 go_enter Tryz.func94,Tryz.ntmps94
 go_wp2_with fail
 go_loopw [8] (fun vk wr=>∃ k:Nat,vk=.int .i64 (k:Int)∧k≤n∧Hid (∀ c∈L.take k,CubeP bits c)∧Hid (Below w.heap.size w wr)) (fun vk _=>n - (intOf vk).toNat)
 case atStart=>exact ⟨0,rfl,Nat.zero_le _,fun c hc=>by simp at hc,Below.refl _ _⟩
 case round=>
  obtain ⟨k,rfl,hk,HOK,HB⟩:=hrel
  by_cases hlt:k < n
  ·obtain ⟨x,hx⟩:∃ x,L[k]?=some x:=⟨_,List.getElem?_eq_getElem (by have:=HN.out.1;omega)⟩
   obtain ⟨g,o,rfl,c0⟩:=(HL.out wr HB.out).1 k x hx
   have H1:=xcube1_any bits x b wr HN.out.2 (HL.out wr HB.out).2
   have j1:(k:Int) < (n:Int):=by omega
   have j0:(0:Int)≤(k:Int):=by omega
   have HX:=hideL hx
   clear hx
   cases hp:pb (CubeP bits x) with
   | false=>
    rw [hp] at H1
    have HQ:Hid (∀ U,Below wr.heap.size wr U→IXQ bits L w (.returned (.int .i64 (k:Int))) U):=fun U hU=>⟨k,rfl,⟨fun _ h=>pb_not hp (h x (List.mem_of_getElem? HX.out)),fun _=>j0⟩,bel0Z HB.out hU⟩
    clear hp HOK HX
    go_wp2_with fail
    refine H1.mono ?_
    rintro e W1 ⟨rfl,b1⟩
    have HQ1:=hideL (HQ.out W1 b1)
    clear H1 b1 HQ
    go_wp2_with fail
    go_ret
    exact HQ1.out
   | true=>
    rw [hp] at H1
    have HN1:Hid (∀ c∈L.take (k+1),CubeP bits c):=all_take HX.out HOK.out (pb_iff.1 hp)
    clear hp HOK HX
    go_wp2_with fail
    refine H1.mono ?_
    rintro e W1 ⟨rfl,b1⟩
    have HB1:Hid (Below w.heap.size w W1):=bel0Z HB.out b1
    clear H1 b1
    go_wp2_with fail
    go_roundw
    case rel=>exact ⟨k+1,by go_num,by omega,HN1,HB1⟩
    case measure=>simp [intOf];omega
  ·obtain rfl:k=n:=by omega
   have j1:¬(k:Int) < (k:Int):=by omega
   have HQ:Hid (IXQ bits L w (.returned (.int .i64 (-1))) wr):=⟨-1,rfl,⟨fun h=>by omega,fun h=>absurd (by have h1:=HOK.out;rw [List.take_of_length_le (by have:=HN.out.1;omega)] at h1;exact h1) h⟩,HB.out⟩
   clear HOK
   go_wp2_with fail
   go_ret
   exact HQ.out
set_option maxRecDepth 100000 in
set_option maxHeartbeats 8000000 in
theorem xcont_any (bits:Int) (L:List (List UInt8)) (p:Option Addr) (n c b:Nat) (w:World) (hb:bits≤256) (hn:L.length=n) (hn9:n≤17592186043904) (hL:LS w p L) (hc:w.cell? ⟨b,0,none⟩=some (.int .i64 bits)) :
  Calls Tryz.prog 87 #[.slice p n c,.func (.func 88) #[] #[.pointer (some ⟨b,0,none⟩)]] w fun e w'=>e=.returned (.bool (!pb (∀ c∈L,CubeP bits c)))∧Below w.heap.size w w':=by
 have H1:=xidx_any bits L p n c b w hb hn hn9 hL hc
 obtain ⟨q,hq⟩:∃ q,(!pb (∀ c∈L,CubeP bits c))=q:=⟨_,rfl⟩
 have HQ:Hid (∀ z:Int,((0≤z)↔¬∀ c∈L,CubeP bits c)→q=decide (0≤z)):=fun z hz=>by
  rw [←hq]
  by_cases h:0≤z
  ·rw [decide_eq_true h,pb_no (hz.1 h)];rfl
  ·rw [decide_eq_false h,pb_yes (Classical.byContradiction (fun h9=>h (hz.2 h9)))];rfl
 rw [hq]
 clear hb hn hn9 hL hc hq
 go_enter Tryz.func87,Tryz.ntmps87
 go_wp2_with fail
 refine H1.mono ?_
 rintro e W1 ⟨z,rfl,hz,b1⟩
 have HB1:=hideL b1
 have HQ1:=hideL (HQ.out z hz)
 clear H1 b1 HQ hz
 by_cases h0:(0:Int)≤z
 ·go_wp2_with fail
  go_ret
  exact ⟨by rw [HQ1.out,decide_eq_true h0];rfl,HB1.out⟩
 ·have HQ2:Hid (q=false∧decide (0≤z)=false):=⟨by rw [HQ1.out,decide_eq_false h0],decide_eq_false h0⟩
  go_wp2_with fail
  go_ret
  exact ⟨by rw [HQ2.out.1];show Ending.returned (Value.bool (decide (0≤z)))=_;rw [HQ2.out.2],HB1.out⟩
set_option maxRecDepth 100000 in
set_option maxHeartbeats 8000000 in
theorem xcubes_any (bits:Int) (L:List (List UInt8)) (p:Option Addr) (n c:Nat) (w:World) (hb:bits≤256) (hn:L.length=n) (hn9:n≤17592186043904) (hL:LS w p L) :
  Calls Tryz.prog 80 #[.int .i64 bits,.slice p n c] w (BQ (CubesP bits L) w):=by
 obtain ⟨W1,hW1⟩:∃ W1,w.alloc (Obj.cells #[.int .i64 bits] 3)=W1:=⟨_,rfl⟩
 have b1:Below w.heap.size w W1:=by rw [←hW1];exact belAZ (Below.refl _ _) _
 obtain ⟨B,hB⟩:∃ B,w.heap.size=B:=⟨_,rfl⟩
 have k1:W1.cell? ⟨B,0,none⟩=some (.int .i64 bits):=by rw [←hW1,←hB,(cellsZ (alloc_getZ w _)).1];rfl
 have HW:=hideL hW1
 have HBB:=hideL hB
 by_cases h64:64 < n
 ·have j0:(64:Int) < (n:Int):=by omega
  have HQ:Hid (BQ (CubesP bits L) w (.returned (.bool false)) W1):=BQ.no (fun h=>by have:=h.1;omega) b1
  clear hb hn hn9 hL b1 k1 hW1 hB h64
  go_enter Tryz.func80,Tryz.ntmps80
  go_upto_region 1 with fail
  rw [HW.out,HBB.out]
  go_wp2_with fail
  go_ret
  exact HQ.out
 ·have j0:¬(64:Int) < (n:Int):=by omega
  have HC:=xcont_any bits L p n c B W1 hb hn hn9 (hL.below b1) k1
  have HPB:Hid (pb (∀ c∈L,CubeP bits c)=pb (CubesP bits L)):=by
   show pb _=pb _
   cases h9:pb (∀ c∈L,CubeP bits c) with
   | true=>exact (pb_yes ⟨by omega,pb_iff.1 h9⟩).symm
   | false=>exact (pb_no (fun h=>pb_not h9 h.2)).symm
  have HB1:=hideL b1
  rw [HPB.out] at HC
  clear hb hn hn9 hL b1 k1 hW1 hB h64 HPB
  go_enter Tryz.func80,Tryz.ntmps80
  go_upto_region 1 with fail
  rw [HW.out,HBB.out]
  go_wp2_with fail
  refine HC.mono ?_
  rintro e W2 ⟨rfl,b2⟩
  have HB2:Hid (Below w.heap.size w W2):=bel0Z HB1.out b2
  clear HC b2
  cases hp:pb (CubesP bits L) with
  | true=>
   have HQ:=hideL (BQ.yes (pb_iff.1 hp) HB2.out)
   clear hp
   go_wp2_with fail
   go_ret
   exact HQ.out
  | false=>
   have HQ:=hideL (BQ.no (pb_not hp) HB2.out)
   clear hp
   go_wp2_with fail
   go_ret
   exact HQ.out
set_option maxRecDepth 100000 in
set_option maxHeartbeats 8000000 in
theorem xnum_any (n:NN) (v:NV) (p:Int) (w:World) (hN:LN w n v) :
  Calls Tryz.prog 86 #[.agg (nnA n v),.int .i64 p] w (BQ (NumP n p) w):=by
 obtain ⟨pp,cp,pt,ct,pg,cg⟩:=v
 unfold nnA
 simp only at hN ⊢
 obtain ⟨W1,hW1⟩:∃ W1,w.alloc (Obj.cells #[.int .i64 n.bits,.slice pp n.ports.length cp,.slice pt n.tabs.length ct,.slice pg n.grds.length cg] 26)=W1:=⟨_,rfl⟩
 have b1:Below w.heap.size w W1:=by rw [←hW1];exact belAZ (Below.refl _ _) _
 obtain ⟨B,hB⟩:∃ B,w.heap.size=B:=⟨_,rfl⟩
 have k1:W1.heap[B]?=some (.cells #[.int .i64 n.bits,.slice pp n.ports.length cp,.slice pt n.tabs.length ct,.slice pg n.grds.length cg] 26 (0,0)):=by rw [←hW1,←hB];exact alloc_getZ _ _
 have HC:Hid (∀ U,Below W1.heap.size W1 U→U.cell? ⟨B,0,none⟩=some (.int .i64 n.bits)∧U.cell? ⟨B,1,none⟩=some (.slice pp n.ports.length cp)∧U.cell? ⟨B,2,none⟩=some (.slice pt n.tabs.length ct)∧U.cell? ⟨B,3,none⟩=some (.slice pg n.grds.length cg)):=fun U hU=>by
  have:=(cellsZ (keepZ hU k1)).1
  exact ⟨by rw [this];rfl,by rw [this];rfl,by rw [this];rfl,by rw [this];rfl⟩
 have HNN:Hid (∀ U,Below W1.heap.size W1 U→LN U n ⟨pp,cp,pt,ct,pg,cg⟩):=fun U hU=>hN.below (bel0Z b1 hU)
 have HB1:=hideL b1
 have HBB:=hideL hB
 have HW:=hideL hW1
 clear k1 b1 hB hW1 hN
 obtain ⟨q0,q1,q2,q3⟩:=HC.out W1 (Below.refl _ _)
 by_cases h0:(0:Int)≤p
 ·by_cases h1:p < (n.ports.length:Int)
  ·have HQ:=hideL (BQ.yes (P:=NumP n p) ⟨h0,h1⟩ HB1.out)
   clear HNN HC
   go_enter Tryz.func86,Tryz.ntmps86
   go_upto_region 1 with fail
   rw [HW.out,HBB.out]
   go_wp2_with fail
   go_ret
   exact HQ.out
  ·have HQ:=hideL (BQ.no (P:=NumP n p) (fun h=>h1 h.2) HB1.out)
   clear HNN HC
   go_enter Tryz.func86,Tryz.ntmps86
   go_upto_region 1 with fail
   rw [HW.out,HBB.out]
   go_wp2_with fail
   go_ret
   exact HQ.out
 ·have HQ:=hideL (BQ.no (P:=NumP n p) (fun h=>h0 h.1) HB1.out)
  clear HNN HC
  go_enter Tryz.func86,Tryz.ntmps86
  go_upto_region 1 with fail
  rw [HW.out,HBB.out]
  go_wp2_with fail
  go_ret
  exact HQ.out
set_option maxRecDepth 100000 in
set_option maxHeartbeats 8000000 in
theorem xof_any (n:NN) (v:NV) (box p:Int) (b:Bool) (w:World) (hN:LN w n v) :
  Calls Tryz.prog 96 #[.agg (nnA n v),.int .i64 box,.int .i64 p,.bool b] w (BQ (IsOfP n box p b) w):=by
 obtain ⟨pp,cp,pt,ct,pg,cg⟩:=v
 unfold nnA
 simp only at hN ⊢
 obtain ⟨W1,hW1⟩:∃ W1,w.alloc (Obj.cells #[.int .i64 n.bits,.slice pp n.ports.length cp,.slice pt n.tabs.length ct,.slice pg n.grds.length cg] 26)=W1:=⟨_,rfl⟩
 have b1:Below w.heap.size w W1:=by rw [←hW1];exact belAZ (Below.refl _ _) _
 obtain ⟨B,hB⟩:∃ B,w.heap.size=B:=⟨_,rfl⟩
 have k1:W1.heap[B]?=some (.cells #[.int .i64 n.bits,.slice pp n.ports.length cp,.slice pt n.tabs.length ct,.slice pg n.grds.length cg] 26 (0,0)):=by rw [←hW1,←hB];exact alloc_getZ _ _
 have HC:Hid (∀ U,Below W1.heap.size W1 U→U.cell? ⟨B,0,none⟩=some (.int .i64 n.bits)∧U.cell? ⟨B,1,none⟩=some (.slice pp n.ports.length cp)∧U.cell? ⟨B,2,none⟩=some (.slice pt n.tabs.length ct)∧U.cell? ⟨B,3,none⟩=some (.slice pg n.grds.length cg)):=fun U hU=>by
  have:=(cellsZ (keepZ hU k1)).1
  exact ⟨by rw [this];rfl,by rw [this];rfl,by rw [this];rfl,by rw [this];rfl⟩
 have HNN:Hid (∀ U,Below W1.heap.size W1 U→LN U n ⟨pp,cp,pt,ct,pg,cg⟩):=fun U hU=>hN.below (bel0Z b1 hU)
 have HB1:=hideL b1
 have HBB:=hideL hB
 have HW:=hideL hW1
 clear k1 b1 hB hW1 hN
 have HNU:Calls Tryz.prog 86 #[.agg #[.int .i64 n.bits,.slice pp n.ports.length cp,.slice pt n.tabs.length ct,.slice pg n.grds.length cg],.int .i64 p] W1 (BQ (NumP n p) W1):=xnum_any n ⟨pp,cp,pt,ct,pg,cg⟩ p W1 (HNN.out W1 (Below.refl _ _))
 obtain ⟨q0,q1,q2,q3⟩:=HC.out W1 (Below.refl _ _)
 go_enter Tryz.func96,Tryz.ntmps96
 go_upto_region 1 with fail
 rw [HW.out,HBB.out]
 go_wp2_with fail
 refine HNU.mono ?_
 rintro e W2 ⟨rfl,b2⟩
 have HB2:Hid (Below w.heap.size w W2):=bel0Z HB1.out b2
 have hP:=(HNN.out W2 b2).1
 clear HNU q0 q1 q2 q3
 obtain ⟨q0,q1,q2,q3⟩:=HC.out W2 b2
 clear b2
 cases hp:pb (NumP n p) with
 | false=>
  have HQ:=hideL (BQ.no (P:=IsOfP n box p b) (fun h=>pb_not hp ⟨h.1,h.2.1⟩) HB2.out)
  clear hp hP HNN HC
  go_wp2_with fail
  go_ret
  exact HQ.out
 | true=>
  obtain ⟨h0,h1⟩:=pb_iff.1 hp
  obtain ⟨k,rfl⟩:∃ k:Nat,p=(k:Int):=⟨p.toNat,by omega⟩
  obtain ⟨x,hx⟩:∃ x,n.ports[k]?=some x:=⟨_,List.getElem?_eq_getElem (by omega)⟩
  obtain ⟨g,o,e,c0,c1,c2,c3⟩:=hP k x hx
  simp only at e
  subst e
  have hpa:=portAt_of hx
  have HX:Hid (IsOfP n box (k:Int) b↔(x.bx=box∧x.inn=b)):=by
   show _↔_
   unfold IsOfP
   rw [hpa]
   exact ⟨fun h=>⟨h.2.2.1,h.2.2.2⟩,fun h=>⟨h0,h1,h.1,h.2⟩⟩
  clear hP hx hpa HNN HC hp
  by_cases hb:x.bx=box
  ·have y1:(x.bx==box)=true:=beq_iff_eq.2 hb
   by_cases hi:x.inn=b
   ·have HQ:=hideL (BQ.yes (HX.out.2 ⟨hb,hi⟩) HB2.out)
    clear HX hb
    rw [hi] at c2
    clear hi
    go_wp2_with fail
    go_ret
    exact HQ.out
   ·have HQ:=hideL (BQ.no (fun h=>hi (HX.out.1 h).2) HB2.out)
    have hnb:x.inn=!b:=by cases hh:x.inn <;> cases b <;> simp_all
    clear HX hb hi
    rw [hnb] at c2
    clear hnb
    cases b with
    | false=>
     go_wp2_with fail
     go_ret
     exact HQ.out
    | true=>
     go_wp2_with fail
     go_ret
     exact HQ.out
  ·have y1:(x.bx==box)=false:=beq_eq_false_iff_ne.2 hb
   have HQ:=hideL (BQ.no (fun h=>hb (HX.out.1 h).1) HB2.out)
   clear HX hb
   go_wp2_with fail
   go_ret
   exact HQ.out
def IIQ (L:List Int) (z:Int) (w:World) (e:Ending) (w':World):Prop:=∃ i:Int,e=.returned (.int .i64 i)∧((0≤i)↔z∈L)∧w'=w
set_option maxRecDepth 100000 in
set_option maxHeartbeats 8000000 in
theorem xindex_any (L:List Int) (z:Int) (p:Option Addr) (n c:Nat) (w:World) (hn:L.length=n) (hn9:n≤17592186043904) (hL:LI w p L) :
  Calls Tryz.prog 78 #[.slice p n c,.int .i64 z] w (IIQ L z w):=by
 have HN:=hideL hn
 have HL:=hideL hL
 clear hn hL
 go_enter Tryz.func78,Tryz.ntmps78
 go_wp2_with fail
 go_loopw [8] (fun vk wr=>∃ k:Nat,vk=.int .i64 (k:Int)∧k≤n∧Hid (∀ c∈L.take k,c≠z)∧wr=w) (fun vk _=>n - (intOf vk).toNat)
 case atStart=>exact ⟨0,rfl,Nat.zero_le _,fun c hc=>by simp at hc,rfl⟩
 case round=>
  obtain ⟨k,rfl,hk,HOK,rfl⟩:=hrel
  by_cases hlt:k < n
  ·obtain ⟨x,hx⟩:∃ x,L[k]?=some x:=⟨_,List.getElem?_eq_getElem (by have:=HN.out;omega)⟩
   obtain ⟨g,o,rfl,c0⟩:=HL.out k x hx
   have j1:(k:Int) < (n:Int):=by omega
   have j0:(0:Int)≤(k:Int):=by omega
   have HX:=hideL hx
   clear hx
   by_cases hz:z=x
   ·have y1:(z==x)=true:=beq_iff_eq.2 hz
    have HQ:Hid (IIQ L z wr (.returned (.int .i64 (k:Int))) wr):=⟨k,rfl,⟨fun _=>by rw [hz];exact List.mem_of_getElem? HX.out,fun _=>j0⟩,rfl⟩
    clear HOK HX hz
    go_wp2_with fail
    go_ret
    exact HQ.out
   ·have y1:(z==x)=false:=beq_eq_false_iff_ne.2 hz
    have HN1:Hid (∀ c∈L.take (k+1),c≠z):=all_take HX.out HOK.out (fun h=>hz h.symm)
    clear HOK HX hz
    go_wp2_with fail
    go_roundw
    case rel=>exact ⟨k+1,by go_num,by omega,HN1,by first | rfl | trivial⟩
    case measure=>simp [intOf];omega
  ·obtain rfl:k=n:=by omega
   have j1:¬(k:Int) < (k:Int):=by omega
   have HQ:Hid (IIQ L z wr (.returned (.int .i64 (-1))) wr):=⟨-1,rfl,⟨fun h=>by omega,fun h=>absurd rfl ((by have h1:=HOK.out;rw [List.take_of_length_le (by have:=HN.out;omega)] at h1;exact h1 z h):z≠z)⟩,rfl⟩
   clear HOK
   go_wp2_with fail
   go_ret
   exact HQ.out
set_option maxRecDepth 100000 in
set_option maxHeartbeats 8000000 in
theorem xhas_any (L:List Int) (z:Int) (p:Option Addr) (n c:Nat) (w:World) (hn:L.length=n) (hn9:n≤17592186043904) (hL:LI w p L) :
  Calls Tryz.prog 69 #[.slice p n c,.int .i64 z] w fun e w'=>e=.returned (.bool (pb (z∈L)))∧w'=w:=by
 have H1:=xindex_any L z p n c w hn hn9 hL
 obtain ⟨q,hq⟩:∃ q,pb (z∈L)=q:=⟨_,rfl⟩
 have HQ:Hid (∀ i:Int,((0≤i)↔z∈L)→q=decide (0≤i)):=fun i hi=>by
  rw [←hq]
  by_cases h:0≤i
  ·rw [decide_eq_true h,pb_yes (hi.1 h)]
  ·rw [decide_eq_false h,pb_no (fun h9=>h (hi.2 h9))]
 rw [hq]
 clear hn hn9 hL hq
 go_enter Tryz.func69,Tryz.ntmps69
 go_wp2_with fail
 refine H1.mono ?_
 rintro e W1 ⟨i,rfl,hi,hw⟩
 obtain rfl:=hw.symm
 have HQ1:=hideL (HQ.out i hi)
 clear H1 HQ hi hw
 by_cases h0:(0:Int)≤i
 ·have HQ2:Hid (q=true∧decide (0≤i)=true):=⟨by rw [HQ1.out,decide_eq_true h0],decide_eq_true h0⟩
  go_wp2_with fail
  go_ret
  exact ⟨by rw [HQ2.out.1];rfl,by first | rfl | trivial⟩
 ·have HQ2:Hid (q=false∧decide (0≤i)=false):=⟨by rw [HQ1.out,decide_eq_false h0],decide_eq_false h0⟩
  go_wp2_with fail
  go_ret
  exact ⟨by rw [HQ2.out.1];show Ending.returned (Value.bool (decide (0≤i)))=_;rw [HQ2.out.2],by first | rfl | trivial⟩
set_option maxRecDepth 100000 in
set_option maxHeartbeats 8000000 in
theorem xins_any (n:NN) (v:NV) (box:Int) (L:List Int) (p:Option Addr) (m c:Nat) (w:World) (hN:LN w n v) (hm:L.length=m) (hm9:m≤17592186043904) (hL:LI w p L) :
  Calls Tryz.prog 90 #[.agg (nnA n v),.int .i64 box,.slice p m c] w (BQ (InsP n box L) w):=by
 obtain ⟨pp,cp,pt,ct,pg,cg⟩:=v
 unfold nnA
 simp only at hN ⊢
 obtain ⟨W1,hW1⟩:∃ W1,w.alloc (Obj.cells #[.int .i64 n.bits,.slice pp n.ports.length cp,.slice pt n.tabs.length ct,.slice pg n.grds.length cg] 26)=W1:=⟨_,rfl⟩
 have b1:Below w.heap.size w W1:=by rw [←hW1];exact belAZ (Below.refl _ _) _
 obtain ⟨B,hB⟩:∃ B,w.heap.size=B:=⟨_,rfl⟩
 have k1:W1.heap[B]?=some (.cells #[.int .i64 n.bits,.slice pp n.ports.length cp,.slice pt n.tabs.length ct,.slice pg n.grds.length cg] 26 (0,0)):=by rw [←hW1,←hB];exact alloc_getZ _ _
 have HC:Hid (∀ U,Below W1.heap.size W1 U→U.cell? ⟨B,0,none⟩=some (.int .i64 n.bits)∧U.cell? ⟨B,1,none⟩=some (.slice pp n.ports.length cp)∧U.cell? ⟨B,2,none⟩=some (.slice pt n.tabs.length ct)∧U.cell? ⟨B,3,none⟩=some (.slice pg n.grds.length cg)):=fun U hU=>by
  have:=(cellsZ (keepZ hU k1)).1
  exact ⟨by rw [this];rfl,by rw [this];rfl,by rw [this];rfl,by rw [this];rfl⟩
 have HNN:Hid (∀ U,Below W1.heap.size W1 U→LN U n ⟨pp,cp,pt,ct,pg,cg⟩):=fun U hU=>hN.below (bel0Z b1 hU)
 have HB1:=hideL b1
 have HBB:=hideL hB
 have HW:=hideL hW1
 clear k1 b1 hB hW1 hN
 have HM:=hideL hm
 have HL:Hid (∀ U,Below W1.heap.size W1 U→LI U p L):=fun U hU=>hL.below (bel0Z HB1.out hU)
 have HQT:Hid (∀ U,Below W1.heap.size W1 U→InsP n box L→BQ (InsP n box L) w (.returned (.bool true)) U):=fun U hU h=>BQ.yes h (bel0Z HB1.out hU)
 have HQF:Hid (∀ U,Below W1.heap.size W1 U→¬InsP n box L→BQ (InsP n box L) w (.returned (.bool false)) U):=fun U hU h=>BQ.no h (bel0Z HB1.out hU)
 have HOF:Hid (∀ U (z:Int),Below W1.heap.size W1 U→Calls Tryz.prog 96 #[.agg #[.int .i64 n.bits,.slice pp n.ports.length cp,.slice pt n.tabs.length ct,.slice pg n.grds.length cg],.int .i64 box,.int .i64 z,.bool true] U (BQ (IsOfP n box z true) U)):=fun U z hU=>xof_any n ⟨pp,cp,pt,ct,pg,cg⟩ box z true U (HNN.out U hU)
 clear hm hL HNN
 go_enter Tryz.func90,Tryz.ntmps90
 go_wp2_with fail
 rw [HW.out,HBB.out]
 go_loopw [7,12] (fun v7 vk wr=>∃ (k:Nat) (l:Int),v7=.int .i64 l∧vk=.int .i64 (k:Int)∧k≤m∧Hid ((k=0∧l=-1)∨(0 < k∧L[k - 1]?=some l))∧Hid ((∀ c∈L.take k,IsOfP n box c true)∧(L.take k).Pairwise (· < ·))∧Hid (Below W1.heap.size W1 wr)) (fun _ vk _=>m - (intOf vk).toNat)
 case atStart=>exact ⟨0,-1,rfl,rfl,Nat.zero_le _,.inl ⟨rfl,rfl⟩,⟨fun c hc=>by simp at hc,by simp⟩,Below.refl _ _⟩
 case round=>
  obtain ⟨k,l,rfl,rfl,hk,HLA,HOK,HB⟩:=hrel
  obtain ⟨q0,q1,q2,q3⟩:=HC.out wr HB.out
  by_cases hlt:k < m
  ·obtain ⟨x,hx⟩:∃ x,L[k]?=some x:=⟨_,List.getElem?_eq_getElem (by have:=HM.out;omega)⟩
   obtain ⟨g,o,rfl,c0⟩:=(HL.out wr HB.out) k x hx
   have H1:=HOF.out wr x HB.out
   have j1:(k:Int) < (m:Int):=by omega
   have j0:(0:Int)≤(k:Int):=by omega
   have HX:=hideL hx
   clear hx
   by_cases hle:x≤l
   ·have HQ:=hideL (HQF.out wr HB.out (fun h=>by
     rcases HLA.out with ⟨h1,h2⟩ | ⟨h1,h2⟩
     ·have:=(h.1 x (List.mem_of_getElem? HX.out)).1
      omega
     ·have:=pw_bad h.2 h1 h2 HX.out
      omega))
    clear HOK HX HLA HQF HQT
    go_wp2_with fail
    go_ret
    exact HQ.out
   ·cases hp:pb (IsOfP n box x true) with
    | false=>
     have H1:Calls Tryz.prog 96 #[.agg #[.int .i64 n.bits,.slice pp n.ports.length cp,.slice pt n.tabs.length ct,.slice pg n.grds.length cg],.int .i64 box,.int .i64 x,.bool true] wr fun e w'=>e=.returned (.bool false)∧Below wr.heap.size wr w':=H1.mono fun e w' he=>⟨by rw [he.1,hp],he.2⟩
     have HQ:Hid (∀ U,Below wr.heap.size wr U→BQ (InsP n box L) w (.returned (.bool false)) U):=fun U hU=>HQF.out U (bel0Z HB.out hU) (fun h=>pb_not hp (h.1 x (List.mem_of_getElem? HX.out)))
     clear hp HOK HX HLA HQF HQT
     go_wp2_with fail
     refine H1.mono ?_
     rintro e W2 ⟨rfl,b2⟩
     have HQ1:=hideL (HQ.out W2 b2)
     clear H1 b2 HQ
     go_wp2_with fail
     go_ret
     exact HQ1.out
    | true=>
     have H1:Calls Tryz.prog 96 #[.agg #[.int .i64 n.bits,.slice pp n.ports.length cp,.slice pt n.tabs.length ct,.slice pg n.grds.length cg],.int .i64 box,.int .i64 x,.bool true] wr fun e w'=>e=.returned (.bool true)∧Below wr.heap.size wr w':=H1.mono fun e w' he=>⟨by rw [he.1,hp],he.2⟩
     have HN1:Hid ((∀ c∈L.take (k+1),IsOfP n box c true)∧(L.take (k+1)).Pairwise (· < ·)):=⟨all_take HX.out HOK.out.1 (pb_iff.1 hp),pw_take HOK.out.2 HX.out (by
      rcases HLA.out with ⟨h1,h2⟩ | ⟨h1,h2⟩
      ·exact .inl h1
      ·exact .inr ⟨l,h2,by omega⟩)⟩
     have HL2:Hid ((k+1=0∧x=-1)∨(0 < k+1∧L[k+1 - 1]?=some x)):=.inr ⟨by omega,HX.out⟩
     clear hp HOK HX HLA HQF HQT
     go_wp2_with fail
     refine H1.mono ?_
     rintro e W2 ⟨rfl,b2⟩
     have HB2:Hid (Below W1.heap.size W1 W2):=bel0Z HB.out b2
     clear H1 b2
     go_wp2_with fail
     go_roundw
     case rel=>exact ⟨k+1,x,rfl,by go_num,by omega,HL2,HN1,HB2⟩
     case measure=>simp [intOf];omega
  ·obtain rfl:k=m:=by omega
   have j1:¬(k:Int) < (k:Int):=by omega
   have HQ:=hideL (HQT.out wr HB.out (by have h1:=HOK.out;rw [List.take_of_length_le (by have:=HM.out;omega)] at h1;exact h1))
   clear HOK HLA HQF HQT
   go_wp2_with fail
   go_ret
   exact HQ.out
set_option maxRecDepth 100000 in
set_option maxHeartbeats 8000000 in
theorem xouts_any (n:NN) (v:NV) (box:Int) (L:List Int) (p:Option Addr) (m c:Nat) (w:World) (hN:LN w n v) (hm:L.length=m) (hmc:m≤c) (hL:LI w p L) :
  Calls Tryz.prog 91 #[.agg (nnA n v),.int .i64 box,.slice p m c] w (BQ (OutsP n box L) w):=by
 obtain ⟨pp,cp,pt,ct,pg,cg⟩:=v
 unfold nnA
 simp only at hN ⊢
 obtain ⟨W1,hW1⟩:∃ W1,w.alloc (Obj.cells #[.int .i64 n.bits,.slice pp n.ports.length cp,.slice pt n.tabs.length ct,.slice pg n.grds.length cg] 26)=W1:=⟨_,rfl⟩
 have b1:Below w.heap.size w W1:=by rw [←hW1];exact belAZ (Below.refl _ _) _
 obtain ⟨B,hB⟩:∃ B,w.heap.size=B:=⟨_,rfl⟩
 have k1:W1.heap[B]?=some (.cells #[.int .i64 n.bits,.slice pp n.ports.length cp,.slice pt n.tabs.length ct,.slice pg n.grds.length cg] 26 (0,0)):=by rw [←hW1,←hB];exact alloc_getZ _ _
 have HC:Hid (∀ U,Below W1.heap.size W1 U→U.cell? ⟨B,0,none⟩=some (.int .i64 n.bits)∧U.cell? ⟨B,1,none⟩=some (.slice pp n.ports.length cp)∧U.cell? ⟨B,2,none⟩=some (.slice pt n.tabs.length ct)∧U.cell? ⟨B,3,none⟩=some (.slice pg n.grds.length cg)):=fun U hU=>by
  have:=(cellsZ (keepZ hU k1)).1
  exact ⟨by rw [this];rfl,by rw [this];rfl,by rw [this];rfl,by rw [this];rfl⟩
 have HNN:Hid (∀ U,Below W1.heap.size W1 U→LN U n ⟨pp,cp,pt,ct,pg,cg⟩):=fun U hU=>hN.below (bel0Z b1 hU)
 have HB1:=hideL b1
 have HBB:=hideL hB
 have HW:=hideL hW1
 clear k1 b1 hB hW1 hN
 have HM:=hideL hm
 have HL:Hid (∀ U,Below W1.heap.size W1 U→LI U p L):=fun U hU=>hL.below (bel0Z HB1.out hU)
 have HQT:Hid (∀ U,Below W1.heap.size W1 U→OutsP n box L→BQ (OutsP n box L) w (.returned (.bool true)) U):=fun U hU h=>BQ.yes h (bel0Z HB1.out hU)
 have HQF:Hid (∀ U,Below W1.heap.size W1 U→¬OutsP n box L→BQ (OutsP n box L) w (.returned (.bool false)) U):=fun U hU h=>BQ.no h (bel0Z HB1.out hU)
 have HOF:Hid (∀ U (z:Int),Below W1.heap.size W1 U→Calls Tryz.prog 96 #[.agg #[.int .i64 n.bits,.slice pp n.ports.length cp,.slice pt n.tabs.length ct,.slice pg n.grds.length cg],.int .i64 box,.int .i64 z,.bool false] U (BQ (IsOfP n box z false) U)):=fun U z hU=>xof_any n ⟨pp,cp,pt,ct,pg,cg⟩ box z false U (HNN.out U hU)
 clear hm hL HNN
 by_cases h4:4 < m
 ·have j4:(4:Int) < (m:Int):=by omega
  have HQ:=hideL (HQF.out W1 (Below.refl _ _) (fun h=>by have:=h.1;have:=HM.out;omega))
  clear HQT HQF HOF HL h4
  go_enter Tryz.func91,Tryz.ntmps91
  go_upto_region 1 with fail
  rw [HW.out,HBB.out]
  go_wp2_with fail
  go_ret
  exact HQ.out
 have j4:¬(4:Int) < (m:Int):=by omega
 have hm4:m≤4:=by omega
 go_enter Tryz.func91,Tryz.ntmps91
 go_upto_region 1 with fail
 rw [HW.out,HBB.out]
 go_wp2_with fail
 go_loopw [14] (fun vk wr=>∃ k:Nat,vk=.int .i64 (k:Int)∧k≤m∧Hid ((∀ c∈L.take k,IsOfP n box c false)∧(L.take k).Nodup)∧Hid (Below W1.heap.size W1 wr)) (fun vk _=>m - (intOf vk).toNat)
 case atStart=>exact ⟨0,rfl,Nat.zero_le _,⟨fun c hc=>by simp at hc,by simp⟩,Below.refl _ _⟩
 case round=>
  obtain ⟨k,rfl,hk,HOK,HB⟩:=hrel
  obtain ⟨q0,q1,q2,q3⟩:=HC.out wr HB.out
  by_cases hlt:k < m
  ·obtain ⟨x,hx⟩:∃ x,L[k]?=some x:=⟨_,List.getElem?_eq_getElem (by have:=HM.out;omega)⟩
   obtain ⟨g,o,e5,c0⟩:=(HL.out wr HB.out) k x hx
   subst e5
   have H1:=HOF.out wr x HB.out
   have j1:(k:Int) < (m:Int):=by omega
   have j0:(0:Int)≤(k:Int):=by omega
   have HX:=hideL hx
   clear hx
   cases hp:pb (IsOfP n box x false) with
   | false=>
    have H1:Calls Tryz.prog 96 #[.agg #[.int .i64 n.bits,.slice pp n.ports.length cp,.slice pt n.tabs.length ct,.slice pg n.grds.length cg],.int .i64 box,.int .i64 x,.bool false] wr fun e w'=>e=.returned (.bool false)∧Below wr.heap.size wr w':=H1.mono fun e w' he=>⟨by rw [he.1,hp],he.2⟩
    have HQ:Hid (∀ U,Below wr.heap.size wr U→BQ (OutsP n box L) w (.returned (.bool false)) U):=fun U hU=>HQF.out U (bel0Z HB.out hU) (fun h=>pb_not hp (h.2.1 x (List.mem_of_getElem? HX.out)))
    clear hp HOK HX HQF HQT
    go_wp2_with fail
    refine H1.mono ?_
    rintro e W2 ⟨rfl,b2⟩
    have HQ1:=hideL (HQ.out W2 b2)
    clear H1 b2 HQ
    go_wp2_with fail
    go_ret
    exact HQ1.out
   | true=>
    have H1:Calls Tryz.prog 96 #[.agg #[.int .i64 n.bits,.slice pp n.ports.length cp,.slice pt n.tabs.length ct,.slice pg n.grds.length cg],.int .i64 box,.int .i64 x,.bool false] wr fun e w'=>e=.returned (.bool true)∧Below wr.heap.size wr w':=H1.mono fun e w' he=>⟨by rw [he.1,hp],he.2⟩
    have HPX:=hideL (pb_iff.1 hp)
    have HMM:Hid (x∈L.take k↔¬∀ j y,j < k→L[j]?=some y→y≠x):=by
     show _↔_
     constructor
     ·intro h9 h8
      obtain ⟨j,hj,he⟩:=List.getElem_of_mem h9
      rw [List.length_take] at hj
      rw [List.getElem_take] at he
      exact h8 j x (by omega) (by rw [←he];exact List.getElem?_eq_getElem _) rfl
     ·intro h9
      refine Classical.byContradiction (fun h8=>h9 (fun j y hj hy he=>h8 ?_))
      subst he
      exact List.mem_of_getElem? (show (L.take k)[j]?=some y by rw [List.getElem?_take,if_pos hj];exact hy)
    have HHA:Hid (∀ U,Below wr.heap.size wr U→Calls Tryz.prog 69 #[.slice (some ⟨g,o,none⟩) k c,.int .i64 x] U fun e w'=>e=.returned (.bool (pb (x∈L.take k)))∧w'=U):=fun U hU=>xhas_any (L.take k) x (some ⟨g,o,none⟩) k c U (by rw [List.length_take];have:=HM.out;omega) (by omega) (fun j y hy=>by
     rw [List.getElem?_take] at hy
     by_cases hj:j < k
     ·rw [if_pos hj] at hy
      exact (HL.out U (bel0Z HB.out hU)) j y hy
     ·rw [if_neg hj] at hy
      cases hy)
    have j5:(k:Int)≤(c:Int):=by omega
    have j6:k≤c:=by omega
    clear hp
    go_wp2_with fail
    refine H1.mono ?_
    rintro e W2 ⟨rfl,b2⟩
    have HB2:Hid (Below W1.heap.size W1 W2):=bel0Z HB.out b2
    have HH1:=HHA.out W2 b2
    clear H1 b2 HHA
    cases hq:pb (x∈L.take k) with
    | true=>
     rw [hq] at HH1
     have HQ:=hideL (HQF.out W2 HB2.out (fun h=>(HMM.out.1 (pb_iff.1 hq)) (fun j y hj hy he=>nd_bad h.2.2 hj (he ▸ hy) HX.out)))
     clear hq HOK HX HQF HQT HMM HPX
     go_wp2_with fail
     refine HH1.mono ?_
     rintro e W3 ⟨rfl,hw⟩
     obtain rfl:=hw.symm
     clear hw HH1
     go_wp2_with fail
     go_ret
     exact HQ.out
    | false=>
     rw [hq] at HH1
     have HN1:Hid ((∀ c∈L.take (k+1),IsOfP n box c false)∧(L.take (k+1)).Nodup):=⟨all_take HX.out HOK.out.1 HPX.out,nd_take HOK.out.2 HX.out (Classical.byContradiction (fun h9=>pb_not hq (HMM.out.2 h9)))⟩
     clear hq HOK HX HQF HQT HMM HPX
     go_wp2_with fail
     refine HH1.mono ?_
     rintro e W3 ⟨rfl,hw⟩
     obtain rfl:=hw.symm
     clear hw HH1
     go_wp2_with fail
     go_roundw
     case rel=>exact ⟨k+1,by go_num,by omega,HN1,HB2⟩
     case measure=>simp [intOf];omega
  ·obtain rfl:k=m:=by omega
   have j1:¬(k:Int) < (k:Int):=by omega
   have HQ:=hideL (HQT.out wr HB.out (by have h1:=HOK.out;rw [List.take_of_length_le (by have:=HM.out;omega)] at h1;exact ⟨by have:=HM.out;omega,h1⟩))
   clear HOK HQF HQT
   go_wp2_with fail
   go_ret
   exact HQ.out
end Go.Proofs.YtbplhianpelmfaaGreatDoor.Nt
