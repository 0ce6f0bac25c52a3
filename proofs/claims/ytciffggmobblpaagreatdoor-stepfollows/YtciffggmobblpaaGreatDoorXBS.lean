import Derived.Test.YtciffggmobblpaaGreatDoorXBQ
import Derived.Test.YtciffggmobblpaaGreatDoorXBR
namespace Go.Proofs.YtciffggmobblpaaGreatDoor.Nt
open Go.RowKit Go.Shelf
theorem rhas_q {bits:Int} {h c:List UInt8} (hh:okS h) (hc:CubeP bits c) (h2:bits≤256) (w:World):Calls Tryz.prog 81 #[.string ⟨c.toArray⟩,.string ⟨h.toArray⟩] w fun e w'=>e=.returned (.bool (Tn.hasB c h))∧Below w.heap.size w w':=by
 have hl:=hc.1
 have h9:=Tn.rHas_any ⟨c.toArray⟩ ⟨h.toArray⟩ w (by show c.toArray.size≤_;simp;omega) (by show h.toArray.size≤_;unfold okS at hh;unfold maxLen;simp;omega)
 refine h9.mono ?_
 rintro e w' ⟨he,k,rfl⟩
 exact ⟨he,bel_drewZ k (Below.refl _ _)⟩
set_option maxRecDepth 100000 in
set_option maxHeartbeats 16000000 in
theorem dhas_any (bits:Int) (L:List (List UInt8)) (p:Option Addr) (n c:Nat) (h:List UInt8) (w:World) (hn:L.length=n) (hL:LS w p L) (hc:∀ x∈L,CubeP bits x) (h2:bits≤256) (hh:okS h) (hN:n≤140737488351232) :
  Calls Tryz.prog 68 #[.slice p n c,.string ⟨h.toArray⟩] w fun e w'=>e=.returned (.bool (hasAny L h))∧Below w.heap.size w w':=by
 have HL:Hid (L.length=n∧∀ U,Below w.heap.size w U→LS U p L):=⟨hn,fun U hU=>hL.below hU⟩
 have HH:Hid (∀ x∈L,∀ U:World,Calls Tryz.prog 81 #[.string ⟨x.toArray⟩,.string ⟨h.toArray⟩] U fun e w'=>e=.returned (.bool (Tn.hasB x h))∧Below U.heap.size U w'):=fun x hx U=>rhas_q hh (hc x hx) h2 U
 clear hn hL hc h2 hh
 go_enter Tryz.func68,Tryz.ntmps68
 go_wp2_with fail
 go_loopw [5] (fun vk wr=>∃ k:Nat,vk=.int .i64 (k:Int)∧k≤n∧Hid (Below w.heap.size w wr∧∀ (i:Nat) c,i < k→L[i]?=some c→Tn.hasB c h=false)) (fun vk _=>n - (intOf vk).toNat)
 case atStart=>exact ⟨0,rfl,Nat.zero_le _,Below.refl _ _,fun i l hi=>by omega⟩
 case round=>
  obtain ⟨k,rfl,hk,HS⟩:=hrel
  by_cases hlt:k < n
  ·obtain ⟨x,hx⟩:∃ x,L[k]?=some x:=⟨_,List.getElem?_eq_getElem (by have:=HL.out.1;omega)⟩
   obtain ⟨g,o,e9,u0⟩:=HL.out.2 wr HS.out.1 k x hx
   subst e9
   have HX:=hideL hx
   have HC:Hid (∀ U:World,Calls Tryz.prog 81 #[.string ⟨x.toArray⟩,.string ⟨h.toArray⟩] U fun e w'=>e=.returned (.bool (Tn.hasB x h))∧Below U.heap.size U w'):=HH.out x (List.mem_of_getElem? hx)
   obtain ⟨b,hb⟩:∃ b,Tn.hasB x h=b:=⟨_,rfl⟩
   rw [hb] at HC
   have HB:=hideL hb
   have j0:(0:Int)≤(k:Int):=by omega
   have j1:(k:Int) < (n:Int):=by omega
   clear hx hb
   go_wp2_with fail
   refine (HC.out wr).mono ?_
   rintro e W3 ⟨rfl,b3⟩
   have c3:=bel0Z HS.out.1 b3
   cases b with
   | true=>
    have HFIN:Hid (hasAny L h=true∧Below w.heap.size w W3):=⟨any_hit HX.out HB.out,c3⟩
    clear u0 b3 c3
    go_wp2_with fail
    go_ret
    exact ⟨by rw [HFIN.out.1];rfl,HFIN.out.2⟩
   | false=>
    have HS9:Hid (Below w.heap.size w W3∧∀ (i:Nat) c,i < k+1→L[i]?=some c→Tn.hasB c h=false):=⟨c3,fun i c hi hc=>by
     by_cases e:i=k
     ·subst e;rw [HX.out] at hc;obtain rfl:=Option.some.inj hc;exact HB.out
     ·exact HS.out.2 i c (by omega) hc⟩
    clear u0 b3 c3
    go_wp2_with fail
    go_roundw
    case rel=>exact ⟨k+1,by go_num,by omega,HS9⟩
    case measure=>simp [intOf];omega
  ·obtain rfl:k=n:=by omega
   have j1:¬(k:Int) < (k:Int):=by omega
   have HFIN:Hid (hasAny L h=false∧Below w.heap.size w wr):=⟨any_no (fun i x hx=>HS.out.2 i x (by have:=(List.getElem?_eq_some_iff.1 hx).1;have:=HL.out.1;omega) hx),HS.out.1⟩
   go_wp2_with fail
   go_ret
   exact ⟨by rw [HFIN.out.1];rfl,HFIN.out.2⟩
set_option maxRecDepth 100000 in
set_option maxHeartbeats 16000000 in
theorem din_any (L:List Int) (p:Option Addr) (n c:Nat) (q:Int) (w:World) (hn:L.length=n) (hL:LI w p L) (hN:n≤140737488351232) :
  Calls Tryz.prog 67 #[.slice p n c,.int .i64 q] w fun e w'=>e=.returned (.bool (decide (q∈L)))∧Below w.heap.size w w':=by
 have HL:Hid (L.length=n∧LI w p L):=⟨hn,hL⟩
 clear hn hL
 go_enter Tryz.func67,Tryz.ntmps67
 go_wp2_with fail
 go_loopw [5] (fun vk wr=>∃ k:Nat,vk=.int .i64 (k:Int)∧k≤n∧Hid (w=wr)∧Hid (∀ (i:Nat) x,i < k→L[i]?=some x→x≠q)) (fun vk _=>n - (intOf vk).toNat)
 case atStart=>exact ⟨0,rfl,Nat.zero_le _,by first | rfl | trivial,fun i l hi=>by omega⟩
 case round=>
  obtain ⟨k,rfl,hk,HWR,HS⟩:=hrel
  obtain rfl:wr=w:=HWR.out.symm
  by_cases hlt:k < n
  ·obtain ⟨x,hx⟩:∃ x,L[k]?=some x:=⟨_,List.getElem?_eq_getElem (by have:=HL.out.1;omega)⟩
   obtain ⟨g,o,e9,u0⟩:=HL.out.2 k x hx
   subst e9
   have HX:=hideL hx
   have j0:(0:Int)≤(k:Int):=by omega
   have j1:(k:Int) < (n:Int):=by omega
   clear hx
   by_cases hq:x=q
   ·subst hq
    have HFIN:Hid (decide (x∈L)=true):=decide_eq_true (List.mem_of_getElem? HX.out)
    go_wp2_with fail
    go_ret
    exact ⟨by rw [HFIN.out];rfl,Below.refl _ _⟩
   ·have hq9:(x==q)=false:=by simpa using hq
    have HS9:Hid (∀ (i:Nat) x,i < k+1→L[i]?=some x→x≠q):=(fun i y hi hy=>by
     by_cases e:i=k
     ·subst e;rw [HX.out] at hy;obtain rfl:=Option.some.inj hy;exact hq
     ·exact HS.out i y (by omega) hy)
    clear hq
    go_wp2_with fail
    go_roundw
    case rel=>exact ⟨k+1,by go_num,by omega,by first | rfl | trivial,HS9⟩
    case measure=>simp [intOf];omega
  ·obtain rfl:k=n:=by omega
   have j1:¬(k:Int) < (k:Int):=by omega
   have HFIN:Hid (decide (q∈L)=false):=decide_eq_false (fun hm=>by
    obtain ⟨i,hi⟩:=List.getElem?_of_mem hm
    exact HS.out i q (by have:=(List.getElem?_eq_some_iff.1 hi).1;have:=HL.out.1;omega) hi rfl)
   go_wp2_with fail
   go_ret
   exact ⟨by rw [HFIN.out];rfl,Below.refl _ _⟩
set_option maxRecDepth 100000 in
set_option maxHeartbeats 16000000 in
theorem dlets_any (bits:Int) (G:List NG) (p:Option Addr) (m c:Nat) (h:List UInt8) (w:World) (hm:G.length=m) (hG:LG w p G) (hc:∀ l∈G,CubesP bits l.cubes) (h2:bits≤256) (hh:okS h) (hM:m≤140737488351232) :
  Calls Tryz.prog 53 #[.slice p m c,.string ⟨h.toArray⟩] w fun e w'=>e=.returned (.bool (lets G h))∧Below w.heap.size w w':=by
 have HL:Hid (G.length=m∧∀ U,Below w.heap.size w U→LG U p G):=⟨hm,fun U hU=>hG.below hU⟩
 have HH:Hid (∀ l∈G,∀ (pc:Option Addr) (nc cc:Nat) (U:World),l.cubes.length=nc→LS U pc l.cubes→Calls Tryz.prog 68 #[.slice pc nc cc,.string ⟨h.toArray⟩] U fun e w'=>e=.returned (.bool (hasAny l.cubes h))∧Below U.heap.size U w'):=fun l hl pc nc cc U hn hL=>dhas_any bits l.cubes pc nc cc h U hn hL (hc l hl).2 h2 hh (by have:=(hc l hl).1;omega)
 obtain ⟨bz,hbz⟩:∃ bz,((m:Int)==0)=bz:=⟨_,rfl⟩
 have HBZ:Hid (G.isEmpty=bz):=by
  rw [←hbz,←hm]
  cases G with
  | nil=>rfl
  | cons x G=>
   show false=(((x :: G).length:Int)==0)
   rw [List.length_cons]
   symm
   rw [beq_eq_false_iff_ne]
   omega
 clear hm hG hc h2 hh
 go_enter Tryz.func53,Tryz.ntmps53
 go_wp2_with fail
 go_loopw [5] (fun vk wr=>∃ k:Nat,vk=.int .i64 (k:Int)∧k≤m∧Hid (Below w.heap.size w wr∧∀ (i:Nat) l,i < k→G[i]?=some l→hasAny l.cubes h=false)) (fun vk _=>m - (intOf vk).toNat)
 case atStart=>exact ⟨0,rfl,Nat.zero_le _,Below.refl _ _,fun i l hi=>by omega⟩
 case round=>
  obtain ⟨k,rfl,hk,HS⟩:=hrel
  by_cases hlt:k < m
  ·obtain ⟨x,hx⟩:∃ x,G[k]?=some x:=⟨_,List.getElem?_eq_getElem (by have:=HL.out.1;omega)⟩
   obtain ⟨g,o,pc,cc,e9,u0,u1,hls,-⟩:=HL.out.2 wr HS.out.1 k x hx
   subst e9
   obtain ⟨nc,hnc⟩:∃ nc,x.cubes.length=nc:=⟨_,rfl⟩
   rw [hnc] at u1
   have HX:=hideL hx
   have HC:Hid (Calls Tryz.prog 68 #[.slice pc nc cc,.string ⟨h.toArray⟩] wr fun e w'=>e=.returned (.bool (hasAny x.cubes h))∧Below wr.heap.size wr w'):=HH.out x (List.mem_of_getElem? hx) pc nc cc wr hnc hls
   obtain ⟨b,hb⟩:∃ b,hasAny x.cubes h=b:=⟨_,rfl⟩
   rw [hb] at HC
   have HB:=hideL hb
   have HK:Hid (∀ U,Below wr.heap.size wr U→U.cell? ⟨g,o+k*2,none⟩=some (.bool x.pm)):=fun U hU=>keepC hU u0
   have j0:(0:Int)≤(k:Int):=by omega
   have j1:(k:Int) < (m:Int):=by omega
   clear hx hb hls hnc
   go_wp2_with fail
   refine (HC.out).mono ?_
   rintro e W3 ⟨rfl,b3⟩
   have c3:=bel0Z HS.out.1 b3
   clear u0 u1
   cases b with
   | true=>
    have u0:=HK.out W3 b3
    have HFIN:Hid (lets G h=x.pm∧Below w.heap.size w W3):=⟨by
     unfold lets
     rw [find_hit (f:=fun l=>hasAny l.cubes h) HX.out HS.out.2 HB.out],c3⟩
    clear b3 c3
    go_wp2_with fail
    go_ret
    exact ⟨by rw [HFIN.out.1];rfl,HFIN.out.2⟩
   | false=>
    have HS9:Hid (Below w.heap.size w W3∧∀ (i:Nat) l,i < k+1→G[i]?=some l→hasAny l.cubes h=false):=⟨c3,fun i l hi hc=>by
     by_cases e:i=k
     ·subst e;rw [HX.out] at hc;obtain rfl:=Option.some.inj hc;exact HB.out
     ·exact HS.out.2 i l (by omega) hc⟩
    clear b3 c3
    go_wp2_with fail
    go_roundw
    case rel=>exact ⟨k+1,by go_num,by omega,HS9⟩
    case measure=>simp [intOf];omega
  ·obtain rfl:k=m:=by omega
   have j1:¬(k:Int) < (k:Int):=by omega
   have HFIN:Hid (lets G h=bz∧Below w.heap.size w wr):=⟨by
    unfold lets
    rw [find_no (f:=fun l=>hasAny l.cubes h) (fun i x hx=>HS.out.2 i x (by have:=(List.getElem?_eq_some_iff.1 hx).1;have:=HL.out.1;omega) hx)]
    exact HBZ.out,HS.out.1⟩
   go_wp2_with fail
   go_ret
   exact ⟨by rw [HFIN.out.1];rfl,HFIN.out.2⟩
end Go.Proofs.YtciffggmobblpaaGreatDoor.Nt
