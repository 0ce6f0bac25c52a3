import Derived.Test.YtciffggmobblpaaGreatDoorXBQ
namespace Go.Proofs.YtciffggmobblpaaGreatDoor.Nt
open Go.RowKit Go.Shelf
def IXS (q:Int) (L:List (Int×List UInt8)) (w:World) (e:Ending) (w':World):Prop:=Below w.heap.size w w'∧((e=.returned (.int .i64 (-1))∧L.find? (fun o=>o.1==q)=none)∨∃ (k:Nat) (o:Int×List UInt8),e=.returned (.int .i64 (k:Int))∧L[k]?=some o∧L.find? (fun o=>o.1==q)=some o)
set_option maxRecDepth 100000 in
set_option maxHeartbeats 16000000 in
theorem fol1_any (x:Int) (t:List UInt8) (q:Int) (bv:Nat) (w:World) (hq:w.cell? ⟨bv,0,none⟩=some (.int .i64 q)) :
  Calls Tryz.prog 57 #[.agg (stC (x,t)).toArray,.pointer (some ⟨bv,0,none⟩)] w fun e w'=>e=.returned (.bool (x==q))∧Below w.heap.size w w':=by
 obtain ⟨d0,d1,d2,d3,d4,d5,d6,d7,d8,h9⟩:=c9_ex t
 rw [stC_arr h9]
 obtain ⟨B,hB⟩:∃ B,w.heap.size=B:=⟨_,rfl⟩
 obtain ⟨W1,hW1⟩:∃ W1,w.alloc (.cells #[.int .i64 x,.int .i64 d0,.int .u64 d1,.int .u64 d2,.int .u64 d3,.int .u64 d4,.int .u64 d5,.int .u64 d6,.int .u64 d7,.int .u64 d8] 76)=W1:=⟨_,rfl⟩
 have b1:Below w.heap.size w W1:=by rw [←hW1];exact belAZ (Below.refl _ _) _
 have k1:W1.heap[B]?=some (.cells #[.int .i64 x,.int .i64 d0,.int .u64 d1,.int .u64 d2,.int .u64 d3,.int .u64 d4,.int .u64 d5,.int .u64 d6,.int .u64 d7,.int .u64 d8] 76 (0,0)):=by rw [←hW1,←hB];exact alloc_getZ _ _
 have r0:W1.cell? ⟨B,0,none⟩=some (.int .i64 x):=by rw [(cellsZ k1).1];rfl
 have q0:=keepC b1 hq
 have HFF:=hideL b1
 have HB:=hideL hB
 have HW1:=hideL hW1
 clear h9 hq hB hW1 b1 k1
 go_enter Tryz.func57,Tryz.ntmps57
 go_upto_region 1 with fail
 rw [HW1.out,HB.out]
 go_wp2_with fail
 go_ret
 exact ⟨rfl,HFF.out⟩
set_option maxRecDepth 100000 in
set_option maxHeartbeats 16000000 in
theorem ixs_any (L:List (Int×List UInt8)) (p:Option Addr) (n c:Nat) (q:Int) (bv:Nat) (w:World) (hn:L.length=n) (hL:RowL 10 stC w p L) (hq:w.cell? ⟨bv,0,none⟩=some (.int .i64 q)) (hN:n≤140737488351232) :
  Calls Tryz.prog 56 #[.slice p n c,.func (.func 57) #[] #[.pointer (some ⟨bv,0,none⟩)]] w (IXS q L w):=by
 have HL:Hid (L.length=n∧∀ U,Below w.heap.size w U→RowL 10 stC U p L):=⟨hn,fun U hU=>hL.below hU⟩
 have HF:Hid (∀ (x:Int) (t:List UInt8) (U:World),Below w.heap.size w U→Calls Tryz.prog 57 #[.agg (stC (x,t)).toArray,.pointer (some ⟨bv,0,none⟩)] U fun e w'=>e=.returned (.bool (x==q))∧Below U.heap.size U w'):=fun x t U hU=>fol1_any x t q bv U (keepC hU hq)
 clear hn hL hq
 go_enter Tryz.func56,Tryz.ntmps56
 go_wp2_with fail
 go_loopw [8] (fun vk wr=>∃ k:Nat,vk=.int .i64 (k:Int)∧k≤n∧Hid (Below w.heap.size w wr∧∀ (i:Nat) o,i < k→L[i]?=some o→(o.1==q)=false)) (fun vk _=>n - (intOf vk).toNat)
 case atStart=>exact ⟨0,rfl,Nat.zero_le _,Below.refl _ _,fun i l hi=>by omega⟩
 case round=>
  obtain ⟨k,rfl,hk,HS⟩:=hrel
  by_cases hlt:k < n
  ·obtain ⟨o,hx⟩:∃ o,L[k]?=some o:=⟨_,List.getElem?_eq_getElem (by have:=HL.out.1;omega)⟩
   obtain ⟨x,t⟩:=o
   obtain ⟨g,oo,e9,hcx⟩:=HL.out.2 wr HS.out.1 k _ hx
   subst e9
   obtain ⟨d0,d1,d2,d3,d4,d5,d6,d7,d8,h8⟩:=c9_ex t
   have hcx9:∀ (i:Nat) (v:Value),([.int .i64 x,.int .i64 d0,.int .u64 d1,.int .u64 d2,.int .u64 d3,.int .u64 d4,.int .u64 d5,.int .u64 d6,.int .u64 d7,.int .u64 d8]:List Value)[i]?=some v→wr.cell? ⟨g,oo+k*10+i,none⟩=some v:=fun i v hv=>hcx i v (by unfold stC;rw [show cubC (x,t).2=_ from h8];exact hv)
   have u0:=hcx9 0 _ rfl
   have u1:=hcx9 1 _ rfl
   have u2:=hcx9 2 _ rfl
   have u3:=hcx9 3 _ rfl
   have u4:=hcx9 4 _ rfl
   have u5:=hcx9 5 _ rfl
   have u6:=hcx9 6 _ rfl
   have u7:=hcx9 7 _ rfl
   have u8:=hcx9 8 _ rfl
   have u9:=hcx9 9 _ rfl
   rw [Nat.add_zero] at u0
   have HC:=HF.out x t wr HS.out.1
   rw [stC_arr h8] at HC
   obtain ⟨b,hb⟩:∃ b,(x==q)=b:=⟨_,rfl⟩
   rw [hb] at HC
   have HC:=hideL HC
   have HX:=hideL hx
   have HB:=hideL hb
   have j0:(0:Int)≤(k:Int):=by omega
   have j1:(k:Int) < (n:Int):=by omega
   clear hx hcx hcx9 h8 hb
   go_wp2_with fail
   refine (HC.out).mono ?_
   rintro e W3 ⟨rfl,b3⟩
   have c3:=bel0Z HS.out.1 b3
   clear u0 u1 u2 u3 u4 u5 u6 u7 u8 u9
   cases b with
   | true=>
    have HFIN:Hid (IXS q L w (.returned (.int .i64 (k:Int))) W3):=⟨c3,.inr ⟨k,(x,t),rfl,HX.out,find_hit HX.out HS.out.2 HB.out⟩⟩
    clear b3 c3
    go_wp2_with fail
    go_ret
    exact HFIN.out
   | false=>
    have HS9:Hid (Below w.heap.size w W3∧∀ (i:Nat) o,i < k+1→L[i]?=some o→(o.1==q)=false):=⟨c3,fun i o hi ho=>by
     by_cases e:i=k
     ·subst e;rw [HX.out] at ho;obtain rfl:=Option.some.inj ho;exact HB.out
     ·exact HS.out.2 i o (by omega) ho⟩
    clear b3 c3
    go_wp2_with fail
    go_roundw
    case rel=>exact ⟨k+1,by go_num,by omega,HS9⟩
    case measure=>simp [intOf];omega
  ·obtain rfl:k=n:=by omega
   have j1:¬(k:Int) < (k:Int):=by omega
   have HFIN:Hid (IXS q L w (.returned (.int .i64 (-1))) wr):=⟨HS.out.1,.inl ⟨rfl,find_no (fun i x hx=>HS.out.2 i x (by have:=(List.getElem?_eq_some_iff.1 hx).1;have:=HL.out.1;omega) hx)⟩⟩
   go_wp2_with fail
   go_ret
   exact HFIN.out
def stpS (n:NN) (s:Int×List UInt8):List (Int×List UInt8):=if (portAt n s.1).inn=true then (aplM n s).2 else ovS n s
def folR (n:NN):List Int→Nat→Int×List UInt8→Nat→List UInt8×Int×Int
 | [],_,s,c=>(s.2,(c:Int),0)
 | q :: r,i,s,c=>match (stpS n s).find? (fun o=>o.1==q) with
  | none=>([],(i:Int),101)
  | some o=>folR n r (i+1) o (if (portAt n s.1).inn=true then c+1 else c)
def folM (n:NN) (s:Int×List UInt8) (ports:List Int):List UInt8×Int×Int:=match ports with
 | []=>([],0,101)
 | q :: r=>if q=s.1 then folR n r 1 s 0 else ([],0,101)
theorem stp_in {n:NN} {s:Int×List UInt8} (h:(portAt n s.1).inn=true):stpS n s=(aplM n s).2:=by
 unfold stpS
 rw [if_pos h]
theorem stp_out {n:NN} {s:Int×List UInt8} (h:(portAt n s.1).inn=false):stpS n s=ovS n s:=by
 unfold stpS
 rw [if_neg (by rw [h];exact Bool.false_ne_true)]
theorem fol_step {n:NN} {q:Int} {r:List Int} {i c:Nat} {s:Int×List UInt8} {S:List (Int×List UInt8)} {b:Bool} (hS:stpS n s=S) (hb:(portAt n s.1).inn=b):folR n (q :: r) i s c=(match S.find? (fun o=>o.1==q) with | none=>([],(i:Int),101) | some o=>folR n r (i+1) o (if b=true then c+1 else c)):=by
 subst hS
 subst hb
 rfl
theorem stp_st {n:NN} {s:Int×List UInt8} (hV:NetP n) (hs:StP n s):(stpS n s).length≤4∧∀ o∈stpS n s,StP n o:=by
 unfold stpS
 split
 ·exact apl_st hV hs.1 hs.2.1 hs.2.2
 ·rename_i h9
  have h:=nxt_st hV hs
  rw [nx_out (by simpa using h9)] at h
  exact ⟨Nat.le_trans (ov_le n s) (by omega),h.2⟩
end Go.Proofs.YtciffggmobblpaaGreatDoor.Nt
