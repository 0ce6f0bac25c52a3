import Derived.Test.YtciffggmobblpaaGreatDoorXAC
import Derived.Deep.RegionLaw
import Derived.Deep.AppendLies
import Derived.OwnWalk
namespace Go.Proofs.YtciffggmobblpaaGreatDoor
open Go.RowKit Go.Shelf
theorem wrapN (k:Nat) (h:k≤1000000):IntKind.i64.wrap ((k:Int)+1)=(k:Int)+1:=by rw [IntKind.wrap_i64];omega
theorem ret_i {a b:Int} (h:a=b):Ending.returned (.int .i64 a)=.returned (.int .i64 b):=by rw [h]
set_option maxRecDepth 100000 in
set_option maxHeartbeats 1000000 in
theorem classOf_any (r:Int) (w:World):Calls Tryz.prog 123 #[.int .i32 r] w fun e w'=>e=.returned (.int .i64 (cls r:Int))∧w'=w:=by
 obtain ⟨c,hc⟩:∃ c,cls r=c:=⟨_,rfl⟩
 have HC:Hid (cls r=c):=hc
 rw [hc]
 clear hc
 go_enter Tryz.func123,Tryz.ntmps123
 go_wp2
 all_goals
  go_ret
  refine ⟨ret_i ?_,rfl⟩
  have hc:=HC.out
  unfold cls at hc
  simp_all <;> (try (repeat' split at hc)) <;> omega
set_option maxRecDepth 100000 in
set_option maxHeartbeats 1000000 in
theorem class_any {X:MX} (hC:MC X) {W:World} {now fst line head:Nat} {v:Value} {D:List Tok} (h:MS X W now fst line head v D) {j:Nat} (hj:AT X.l now j) :
  Calls Tryz.prog 115 #[.pointer (some ⟨X.b,0,none⟩)] W fun e w'=>e=.returned (.int .i64 (kl X.l j:Int))∧MS X w' now fst line head v D:=by
 have hM:Hid (MS X W now fst line head v D):=h
 have hc1:=h.c1
 have hc2:=h.c2
 have hx:=h.cr hC hj
 have hlt:=hj.lt
 have hle:=hj.le
 have hlen:=hC.len
 have n0:(0:Int)≤(now:Int):=by omega
 have n1:(now:Int) < ((chars X.l 0).length:Int):=by omega
 obtain ⟨r,hr⟩:∃ r,chr X.l j=r:=⟨_,rfl⟩
 have HR:Hid (kl X.l j=cls r):=by unfold Hid kl;rw [hr]
 rw [HR.out]
 rw [hr] at hx
 clear hr h hC hj
 go_enter Tryz.func115,Tryz.ntmps115
 go_wp2_with fail
 go_quiet ((go_at_call 123;exact Calls.quiet_of_same (classOf_any _ _)))
 go_wp2_with fail
 go_ret
 exact ⟨rfl,hM.out.drewN _⟩
def inW (l:List UInt8) (j:Nat):Bool:=decide (kl l j=3) || decide (kl l j=4)
set_option maxRecDepth 100000 in
theorem inWord_any {X:MX} (hC:MC X) {W:World} {now fst line head:Nat} {v:Value} {D:List Tok} (h:MS X W now fst line head v D) {j:Nat} (hj:AT X.l now j) :
  Calls Tryz.prog 126 #[.pointer (some ⟨X.b,0,none⟩)] W fun e w'=>e=.returned (.bool (inW X.l j))∧MS X w' now fst line head v D:=by
 have H:=class_any hC h hj
 obtain ⟨c,hc⟩:∃ c,kl X.l j=c:=⟨_,rfl⟩
 obtain ⟨r,hr⟩:∃ r,inW X.l j=r:=⟨_,rfl⟩
 have HR:Hid (inW X.l j=(decide (c=3) || decide (c=4))):=by unfold Hid inW;rw [hc]
 rw [HR.out]
 rw [hc] at H
 clear hc hr h hC hj
 by_cases h3:c=3
 ·subst h3
  go_enter Tryz.func126,Tryz.ntmps126
  go_wp2_with fail
  refine H.mono ?_
  rintro e w1 ⟨rfl,h1⟩
  go_wp2_with fail
  go_ret
  exact ⟨rfl,h1⟩
 ·have e3:((c:Int)==3)=false:=by rw [beq_eq_false_iff_ne];omega
  by_cases h4:c=4
  ·subst h4
   go_enter Tryz.func126,Tryz.ntmps126
   go_wp2_with fail
   refine H.mono ?_
   rintro e w1 ⟨rfl,h1⟩
   go_wp2_with fail
   go_ret
   exact ⟨rfl,h1⟩
  ·have e4:((c:Int)==4)=false:=by rw [beq_eq_false_iff_ne];omega
   have HB:Hid ((decide (c=3) || decide (c=4))=false):=by unfold Hid;simp [h3,h4]
   rw [HB.out]
   go_enter Tryz.func126,Tryz.ntmps126
   go_wp2_with fail
   refine H.mono ?_
   rintro e w1 ⟨rfl,h1⟩
   go_wp2_with fail
   go_ret
   exact ⟨rfl,h1⟩
set_option maxRecDepth 100000 in
theorem column_any {X:MX} {W:World} {now fst line head:Nat} {v:Value} {D:List Tok} (h:MS X W now fst line head v D) {ch:Nat} (hh:head≤ch) (hm:ch≤16384) :
  Calls Tryz.prog 105 #[.pointer (some ⟨X.b,0,none⟩),.int .i64 (ch:Int)] W fun e w'=>e=.returned (.int .i64 ((ch - head+1:Nat):Int))∧w'=W:=by
 have hc5:=h.c5
 have H1:Hid ((ch:Int) - (head:Int)+1=((ch - head+1:Nat):Int)):=by unfold Hid;omega
 clear h
 go_enter Tryz.func105,Tryz.ntmps105
 go_wp2_with fail
 go_ret
 exact ⟨ret_i H1.out,rfl⟩
theorem dec_int (a b:Nat):((a:Int)==(b:Int))=decide (a=b):=by
 by_cases h:a=b
 ·subst h;simp
 ·have:((a:Int)==(b:Int))=false:=by rw [beq_eq_false_iff_ne];omega
  rw [this,decide_eq_false h]
def dotA (l:List UInt8) (j c:Nat):Bool:=decide (kl l j=5)&&decide (kl l (j+1)=c)
theorem kl5 {l:List UInt8} {j:Nat} (h:kl l j=5):j < l.length∧bt l j=46:=by
 unfold kl cls at h
 by_cases h1:chr l j=46
 ·exact (chr_asc l j 46 (by decide)).1 h1
 ·repeat' split at h
  all_goals first | omega | contradiction
set_option maxRecDepth 100000 in
set_option maxHeartbeats 1000000 in
theorem dotAhead_any {X:MX} (hC:MC X) {W:World} {now fst line head:Nat} {v:Value} {D:List Tok} (h:MS X W now fst line head v D) {j:Nat} (hj:AT X.l now j) (c:Nat) (_:c < 100) :
  Calls Tryz.prog 127 #[.pointer (some ⟨X.b,0,none⟩),.int .i64 (c:Int)] W fun e w'=>e=.returned (.bool (dotA X.l j c))∧MS X w' now fst line head v D:=by
 have H:Hid (∀ W',MS X W' now fst line head v D→Calls Tryz.prog 115 #[.pointer (some ⟨X.b,0,none⟩)] W' fun e w'=>e=.returned (.int .i64 (kl X.l j:Int))∧MS X w' now fst line head v D):=fun W' h'=>class_any hC h' hj
 by_cases h5:kl X.l j=5
 ·obtain ⟨hjl,hb⟩:=kl5 h5
  have hj1:=hj.asc hjl (by omega)
  have hlt:=hj1.lt
  have hle:=hj.le
  have hlen:=hC.len
  have n0:(0:Int)≤(now:Int):=by omega
  have n1:(now:Int)+1 < ((chars X.l 0).length:Int):=by omega
  have n2:(0:Int)≤(now:Int)+1:=by omega
  rw [h5] at H
  obtain ⟨r,hr⟩:∃ r,chr X.l (j+1)=r:=⟨_,rfl⟩
  have HX:Hid (∀ W',MS X W' now fst line head v D→W'.cell? ⟨X.b,1,none⟩=some (.slice (some ⟨X.g,0,none⟩) (chars X.l 0).length X.cap)∧W'.cell? ⟨X.b,2,none⟩=some (.int .i64 (now:Int))∧W'.cell? ⟨X.g,(now+1)*2,none⟩=some (.int .i32 r)):=fun W' h'=>⟨h'.c1,h'.c2,by rw [←hr];exact h'.cr hC hj1⟩
  have HR:Hid (dotA X.l j c=decide (cls r=c)):=by unfold Hid dotA;rw [h5];unfold kl;rw [hr];rfl
  rw [HR.out]
  clear hr hj hj1 h5 hb
  go_enter Tryz.func127,Tryz.ntmps127
  go_wp2_with fail
  refine quiet_lit3 (C:=fun W=>MS X W now fst line head v D) (by kernel_rfl) (by kernel_rfl) (MS.drew h) ?_
  go_big_quiet_want
  go_big_quiet_op
  go_big_quiet_on
  go_big_quiet_want
  refine ⟨.int .i64 5,fun W hW=>?_,?_⟩
  ·go_simp
   refine (H.out W hW).mono ?_
   rintro e w7 ⟨rfl,hb⟩
   exact ⟨rfl,hb⟩
  go_big_quiet_on
  simp only [Act.put,List.setIfInBounds_toArray,List.set_cons_zero,List.set_cons_succ]
  go_big_quiet_want
  refine ⟨.bool true,fun W hW=>?_,?_⟩
  ·go_simp
  go_big_quiet_on
  simp only [Act.put,List.setIfInBounds_toArray,List.set_cons_zero,List.set_cons_succ]
  go_big_quiet_want
  go_big_quiet_op
  go_big_quiet_on
  go_big_quiet_want
  go_big_quiet_op
  go_big_quiet_on
  go_big_quiet_want
  refine ⟨.pointer (some ⟨X.b,0,none⟩),fun W hW=>?_,?_⟩
  ·go_simp
  go_big_quiet_on
  simp only [Act.put,List.setIfInBounds_toArray,List.set_cons_zero,List.set_cons_succ]
  go_big_quiet_want
  refine ⟨.pointer (some ⟨X.b,1,none⟩),fun W hW=>?_,?_⟩
  ·go_simp
  go_big_quiet_on
  simp only [Act.put,List.setIfInBounds_toArray,List.set_cons_zero,List.set_cons_succ]
  go_big_quiet_want
  refine ⟨.slice (some ⟨X.g,0,none⟩) (chars X.l 0).length X.cap,fun W hW=>?_,?_⟩
  ·obtain ⟨x1,x2,x3⟩:=HX.out W hW
   go_simp
  go_big_quiet_on
  simp only [Act.put,List.setIfInBounds_toArray,List.set_cons_zero,List.set_cons_succ]
  go_big_quiet_want
  go_big_quiet_op
  go_big_quiet_on
  go_big_quiet_want
  refine ⟨.pointer (some ⟨X.b,0,none⟩),fun W hW=>?_,?_⟩
  ·go_simp
  go_big_quiet_on
  simp only [Act.put,List.setIfInBounds_toArray,List.set_cons_zero,List.set_cons_succ]
  go_big_quiet_want
  refine ⟨.pointer (some ⟨X.b,2,none⟩),fun W hW=>?_,?_⟩
  ·go_simp
  go_big_quiet_on
  simp only [Act.put,List.setIfInBounds_toArray,List.set_cons_zero,List.set_cons_succ]
  go_big_quiet_want
  refine ⟨.int .i64 (now:Int),fun W hW=>?_,?_⟩
  ·obtain ⟨x1,x2,x3⟩:=HX.out W hW
   go_simp
  go_big_quiet_on
  simp only [Act.put,List.setIfInBounds_toArray,List.set_cons_zero,List.set_cons_succ]
  go_big_quiet_want
  refine ⟨.int .i64 ((now:Int)+1),fun W hW=>?_,?_⟩
  ·go_simp
   exact wrapN now (by omega)
  go_big_quiet_on
  simp only [Act.put,List.setIfInBounds_toArray,List.set_cons_zero,List.set_cons_succ]
  go_big_quiet_want
  refine ⟨.pointer (some ⟨X.g,(now+1)*2,none⟩),fun W hW=>?_,?_⟩
  ·go_simp
  go_big_quiet_on
  simp only [Act.put,List.setIfInBounds_toArray,List.set_cons_zero,List.set_cons_succ]
  go_big_quiet_want
  refine ⟨.pointer (some ⟨X.g,(now+1)*2,none⟩),fun W hW=>?_,?_⟩
  ·go_simp
  go_big_quiet_on
  simp only [Act.put,List.setIfInBounds_toArray,List.set_cons_zero,List.set_cons_succ]
  go_big_quiet_want
  refine ⟨.int .i32 r,fun W hW=>?_,?_⟩
  ·obtain ⟨x1,x2,x3⟩:=HX.out W hW
   go_simp
  go_big_quiet_on
  simp only [Act.put,List.setIfInBounds_toArray,List.set_cons_zero,List.set_cons_succ]
  go_big_quiet_want
  refine ⟨.int .i64 (cls r:Int),fun W hW=>?_,?_⟩
  ·go_simp
   refine (classOf_any r W).mono ?_
   rintro e w7 ⟨rfl,rfl⟩
   exact ⟨rfl,hW⟩
  go_big_quiet_on
  simp only [Act.put,List.setIfInBounds_toArray,List.set_cons_zero,List.set_cons_succ]
  go_big_quiet_want
  go_big_quiet_op
  go_big_quiet_on
  go_big_quiet_want
  refine ⟨.bool (decide (cls r=c)),fun W hW=>?_,?_⟩
  ·go_simp
   exact dec_int _ _
  go_big_quiet_on
  simp only [Act.put,List.setIfInBounds_toArray,List.set_cons_zero,List.set_cons_succ]
  go_big_quiet_want
  refine ⟨.bool (decide (cls r=c)),fun W hW=>?_,?_⟩
  ·go_simp
  go_big_quiet_on
  simp only [Act.put,List.setIfInBounds_toArray,List.set_cons_zero,List.set_cons_succ]
  go_big_quiet_want
  go_big_quiet_op
  go_big_quiet_on
  refine wpQuiet_nil ?_
  intro W hW
  go_wp2_with fail
  go_ret
  exact ⟨rfl,hW⟩
 ·have e5:((kl X.l j:Int)==5)=false:=by rw [beq_eq_false_iff_ne];omega
  have HR:Hid (dotA X.l j c=false):=by unfold Hid dotA;rw [decide_eq_false h5];rfl
  rw [HR.out]
  obtain ⟨k,hk⟩:∃ k,kl X.l j=k:=⟨_,rfl⟩
  rw [hk] at H e5
  have hM:Hid (MS X W now fst line head v D):=h
  clear h5 hk hj h hC
  go_enter Tryz.func127,Tryz.ntmps127
  go_wp2_with fail
  refine quiet_lit3 (C:=fun W=>MS X W now fst line head v D) (by kernel_rfl) (by kernel_rfl) (MS.drew hM.out) ?_
  go_big_quiet_want
  go_big_quiet_op
  go_big_quiet_on
  go_big_quiet_want
  refine ⟨.int .i64 (k:Int),fun W hW=>?_,?_⟩
  ·go_simp
   refine (H.out W hW).mono ?_
   rintro e w7 ⟨rfl,hb⟩
   exact ⟨rfl,hb⟩
  go_big_quiet_on
  simp only [Act.put,List.setIfInBounds_toArray,List.set_cons_zero,List.set_cons_succ]
  go_big_quiet_want
  refine ⟨.bool false,fun W hW=>?_,?_⟩
  ·go_simp
  go_big_quiet_on
  simp only [Act.put,List.setIfInBounds_toArray,List.set_cons_zero,List.set_cons_succ]
  go_big_quiet_want
  go_big_quiet_op
  go_big_quiet_on
  go_big_quiet_skip
  go_big_quiet_skip
  go_big_quiet_skip
  go_big_quiet_skip
  go_big_quiet_skip
  go_big_quiet_skip
  go_big_quiet_skip
  go_big_quiet_skip
  go_big_quiet_skip
  go_big_quiet_skip
  go_big_quiet_skip
  go_big_quiet_skip
  go_big_quiet_skip
  go_big_quiet_skip
  go_big_quiet_skip
  go_big_quiet_want
  refine ⟨.bool false,fun W hW=>?_,?_⟩
  ·go_simp
  go_big_quiet_on
  simp only [Act.put,List.setIfInBounds_toArray,List.set_cons_zero,List.set_cons_succ]
  go_big_quiet_want
  go_big_quiet_op
  go_big_quiet_on
  refine wpQuiet_nil ?_
  intro W hW
  go_wp2_with fail
  go_ret
  exact ⟨rfl,hW⟩
theorem MS.grb {X:MX} {W W5:World} {now fst line head:Nat} {v:Value} {D:List Tok} (h:MS X W now fst line head v D) (hg:W.grownBy W5 v.ownBlock) :
  W5.heap[X.b]?=some (.cells (mcells X now fst line head v) 149 (0,0))∧W5.heap[X.g]?=some (.cells X.gc 160 X.gf)∧Below X.w0.heap.size X.w0 W5:=
 ⟨(hg.block X.b (lt_of_get h.blk) (fun e=>own_not h.own h.blk (by decide) e.symm)).trans h.blk,(hg.block X.g (lt_of_get h.gk) (fun e=>own_not h.own h.gk (by decide) e.symm)).trans h.gk,h.bel.grown hg h.bel.size (fun k e=>(h.own.lt k e).1)⟩
theorem MS.after {X:MX} {W W5:World} {now fst line head:Nat} {v:Value} {D:List Tok} (h:MS X W now fst line head v D) (hg:W.grownBy W5 v.ownBlock) :
  W5.cell? ⟨X.b,6,none⟩=some v∧W5.cell? ⟨X.b,4,none⟩=some (.int .i64 (line:Int))∧W5.frozen? ⟨X.b,6,none⟩=false:=by
 have hb:=(h.grb hg).1
 exact ⟨cell_of_row W5 X.b 6 _ _ _ hb,cell_of_row W5 X.b 4 _ _ _ hb,by simp [World.frozen?,hb]⟩
theorem MS.hand {X:MX} (hC:MC X) {W W5:World} {now fst line head:Nat} {v:Value} {D:List Tok} (h:MS X W now fst line head v D) {t:Tok} {g5 c5:Nat}
  (ho:W5.ownsRow X.w0.heap.size 143 4 (.slice (some ⟨g5,0,none⟩) (D.length+1) c5) (D.length+1) (tcels D++tcel t)) (hg:W.grownBy W5 v.ownBlock) :
  MS X (W5.setCell ⟨X.b,6,none⟩ (.slice (some ⟨g5,0,none⟩) (D.length+1) c5)) now fst line head (.slice (some ⟨g5,0,none⟩) (D.length+1) c5) (D++[t]):=by
 obtain ⟨hb,hgg,hbel⟩:=h.grb hg
 refine ⟨?_,(heap_setCell_other W5 ⟨X.b,6,none⟩ X.g _ h.bg).trans hgg,?_,hbel.setCell (p:=⟨X.b,6,none⟩) hC.bB _⟩
 ·rw [heap_setCell_same W5 X.b 6 _ _ _ hb];rfl
 ·rw [List.length_append,tcels_snoc]
  exact ownsRow_setCell_other ho (a:=⟨X.b,6,none⟩) (own_not ho hb (by decide)) _
set_option maxRecDepth 100000 in
set_option maxHeartbeats 2000000 in
theorem hand_any {X:MX} (hC:MC X) {W:World} {now fst line head:Nat} {v:Value} {D:List Tok} (h:MS X W now fst line head v D) (kind:Nat) (t:List UInt8) (ch:Nat) (hh:head≤ch) (hm:ch≤16384) (hD:D.length≤65536) :
  Calls Tryz.prog 129 #[.pointer (some ⟨X.b,0,none⟩),.int .i64 (kind:Int),.string ⟨t.toArray⟩,.int .i64 (ch:Int)] W fun e w'=>e=.returned (.tuple #[])∧∃ v',MS X w' now fst line head v' (D++[(kind,t,line,ch - head+1)]):=by
 obtain ⟨i0,hi,hz0,hz1,hz2⟩:=info_parts info_tok
 have hc4:=h.c4
 have hc6:=h.c6
 have f6:=h.fz 6
 have HCol:=column_any h.drew hh hm
 have hB:=h.bel.size
 obtain ⟨c,hc⟩:∃ c,ch - head+1=c:=⟨_,rfl⟩
 rw [hc] at HCol ⊢
 have hown:=h.own
 have hownd:=h.drew.own
 obtain ⟨qv,cv,rfl⟩:=shapeP hown
 have hM:Hid (MS X W now fst line head (.slice qv D.length cv) D):=h
 have hbs:X.b < W.heap.size:=lt_of_get h.blk
 clear hc h hh hm
 go_enter Tryz.func129,Tryz.ntmps129
 go_wp2_with fail
 go_region_law ((first | (refine step_append_lies _ (by rfl) _ _ 139 (by rfl) X.w0.heap.size 143 i0 _ 4 40 Tryz.underlying139 hi hz0 hz1 hz2 rfl (by decide) _ D.length (tcels D) (by rfl) (by first | exact hownd.alloc _ | exact hown.alloc _) ⟨W.heap.size,0,none⟩ 1 1 (tcel (kind,t,line,c)) (by rfl) rfl (World.news_of_block (cs:=#[.int .i64 (kind:Int),.string ⟨t.toArray⟩,.int .i64 (line:Int),.int .i64 (c:Int)]) (t:=143) (fr:=(0,0)) (heap_alloc_new _ _)) (by simp [tcel,Value.oneCell']) (by decide) (by unfold maxLen;omega) (by omega) (by simp;omega) _ rfl ?_;intro g5 c5 w5 oB hg5 _ _;obtain ⟨y6,y4,z6⟩:=(MS.drew (MS.alloc hM.out _)).after hg5;clear hc4 hc6) | (go_simp;go_at_call 105;refine HCol.mono ?_;rintro e w1 ⟨rfl,rfl⟩)))
 all_goals
  go_wp2_with fail
  go_end0
  exact ⟨rfl,_,MS.hand hC (MS.drew (MS.alloc hM.out _)) oB hg5⟩
theorem tcels_at (L:List Tok):∀ (k:Nat) (t:Tok),L[k]?=some t→(tcels L)[k*4]?=some (.int .i64 (t.1:Int))∧(tcels L)[k*4+1]?=some (.string ⟨t.2.1.toArray⟩)∧(tcels L)[k*4+2]?=some (.int .i64 (t.2.2.1:Int))∧(tcels L)[k*4+3]?=some (.int .i64 (t.2.2.2:Int)):=by
 induction L with
 | nil=>intro k t h;simp at h
 | cons y L ih=>
  intro k t h
  cases k with
  | zero=>
   simp at h
   subst h
   exact ⟨rfl,rfl,rfl,rfl⟩
  | succ k=>
   have:=ih k t (by simpa using h)
   rw [show (k+1)*4=k*4+4 by omega]
   exact this
theorem tok_cell {W:World} {B g c:Nat} {D:List Tok} (h:W.ownsRow B 143 4 (.slice (some ⟨g,0,none⟩) D.length c) D.length (tcels D)) {k:Nat} {t:Tok} (ht:D[k]?=some t) :
  W.cell? ⟨g,k*4,none⟩=some (.int .i64 (t.1:Int))∧W.cell? ⟨g,k*4+1,none⟩=some (.string ⟨t.2.1.toArray⟩)∧W.cell? ⟨g,k*4+2,none⟩=some (.int .i64 (t.2.2.1:Int))∧W.cell? ⟨g,k*4+3,none⟩=some (.int .i64 (t.2.2.2:Int)):=by
 obtain ⟨h0,h1,h2,h3⟩:=tcels_at D k t ht
 have e:∀ m,(⟨g,0,none⟩:Addr).add m=⟨g,m,none⟩:=fun m=>by unfold Addr.add;split <;> simp_all
 have c0:=h.cells rfl _ _ h0
 have c1:=h.cells rfl _ _ h1
 have c2:=h.cells rfl _ _ h2
 have c3:=h.cells rfl _ _ h3
 rw [e] at c0 c1 c2 c3
 exact ⟨c0,c1,c2,c3⟩
def endT (D:List Tok) (line col:Nat):List Tok:=match D.getLast? with
 | some t=>if t.1=1 then D else D++[(1,[10],line,col)]
 | none=>D
set_option maxRecDepth 100000 in
set_option maxHeartbeats 2000000 in
theorem endTokens_any {X:MX} (hC:MC X) {W:World} {now fst line head:Nat} {v:Value} {D:List Tok} (h:MS X W now fst line head v D) (hh:head≤now) (hm:now≤16384) (hD:D.length≤65536) :
  Calls Tryz.prog 117 #[.pointer (some ⟨X.b,0,none⟩)] W fun e w'=>e=.returned (.tuple #[])∧∃ v',MS X w' now fst line head v' (endT D line (now - head+1)):=by
 have hM:Hid (MS X W now fst line head v D):=h
 have hc6:=h.c6
 have hc2:=h.c2
 have hown:=h.own
 by_cases h0:D=[]
 ·subst h0
  obtain ⟨qv,cv,rfl⟩:=shapeP hown
  clear h
  go_enter Tryz.func117,Tryz.ntmps117
  go_wp2_with fail
  go_end0
  exact ⟨rfl,_,hM.out⟩
 ·obtain ⟨D0,t,rfl⟩:∃ D0 t,D=D0++[t]:=⟨D.dropLast,D.getLast h0,(List.dropLast_concat_getLast h0).symm⟩
  have hE:Hid (endT (D0++[t]) line (now - head+1)=if t.1=1 then D0++[t] else D0++[t]++[(1,[10],line,now - head+1)]):=by unfold Hid endT;simp
  obtain ⟨g,c,rfl⟩:=own_form hown (by simp)
  have ht:(D0++[t])[D0.length]?=some t:=by simp
  have hx:=(tok_cell hown ht).1
  have HH:=hand_any hC h 1 [10] now hh hm hD
  have hl:(D0++[t]).length=D0.length+1:=by simp
  rw [hE.out]
  obtain ⟨K,hK⟩:∃ K,D0.length=K:=⟨_,rfl⟩
  rw [hK] at hx hl
  rw [hl] at hc6 hD
  have k0:(0:Int)≤(K:Int):=by omega
  have k1:(0:Int) < (K:Int)+1:=by omega
  obtain ⟨kd,hkd⟩:∃ kd,t.1=kd:=⟨_,rfl⟩
  rw [hkd] at hx ⊢
  by_cases h1:kd=1
  ·subst h1
   rw [if_pos rfl]
   clear h hown ht h0 HH hE hkd
   go_enter Tryz.func117,Tryz.ntmps117
   go_wp2_with fail
   go_end0
   exact ⟨rfl,_,hM.out⟩
  ·have e1:((kd:Int)==1)=false:=by rw [beq_eq_false_iff_ne];omega
   have e2:((kd:Int) != 1)=true:=by rw [bne,e1];rfl
   rw [if_neg h1]
   clear h hown ht h0 hE hkd
   go_enter Tryz.func117,Tryz.ntmps117
   go_wp2_with fail
   refine HH.mono ?_
   rintro e w1 ⟨rfl,v1,h1⟩
   go_wp2_with fail
   go_end0
   exact ⟨rfl,v1,h1⟩
theorem wp_scope_many2 {P:Program} {a:Act} {w:World} {Q:Exit→Act→World→Prop} {c:Code} (J:Nat→Act→World→Prop) (m:Nat→Act→World→Nat)
  (pass:∀ l a w,J l a w→∃ X,findLabel c l=some (.seq .skip X)∧X.wp P (jumpN (fun l' a' w'=>J l' a' w'∧m l' a' w' < m l a w) Q) a w)
  (first:(∀ l a w,J l a w→∃ X,findLabel c l=some (.seq .skip X)∧X.wp P (jumpN J Q) a w)→c.wp P (jumpN J Q) a w):(Code.scope c).wp P Q a w:=
 wp_scope_many J m (first (fun l a w h=>by
  obtain ⟨X,hf,hr⟩:=pass l a w h
  refine ⟨X,hf,wp_mono hr ?_⟩
  intro e a' w' hq
  cases e with
  | goto l'=>exact hq.1
  | normal=>exact hq
  | exit id=>exact hq
  | ret=>exact hq
  | panic ch=>exact hq
  | outgrown=>exact hq)) (fun l a w h=>by
  obtain ⟨X,hf,hr⟩:=pass l a w h
  exact ⟨_,hf,wp_seq (wp_skip hr)⟩)
theorem jump_ret {J:Nat→Act→World→Prop} {Q:Exit→Act→World→Prop} {a:Act} {w:World} (h:Q .ret a w):jumpN J Q .ret a w:=h
theorem bar_iff (l:List UInt8) (j:Nat) (h:j < l.length):(chr l j < 32∨chr l j=127)↔(lo1 l j=true∨bt l j < 32∨bt l j=127):=by
 unfold chr
 rw [if_pos h]
 by_cases hb:bt l j < 128
 ·rw [lo1_asc hb,dc_asc hb]
  simp only [Bool.false_eq_true,if_false,false_or]
  omega
 ·have:=dc_big hb
  cases lo1 l j with
  | true=>simp
  | false=>simp only [Bool.false_eq_true,if_false,false_or];omega
theorem escS_drop (l:List UInt8) (j:Nat) (hj:j < l.length) (hb:bt l j=92) (h:0 < (escS l j).1):(chars l j).drop (escS l j).1=chars l (j+(escS l j).1):=by
 have hc0:chars l j=(92,j) :: chars l (j+1):=by rw [chars_asc hj (by omega),hb];rfl
 have asc:∀ m,j+m < l.length→bt l (j+m) < 128→∃ c,chars l (j+m)=c :: chars l (j+m+1):=fun m h1 h2=>⟨_,chars_asc h1 h2⟩
 have two:j+1 < l.length→bt l (j+1) < 128→(chars l j).drop 2=chars l (j+2):=fun h1 h2=>by
  obtain ⟨c,hc⟩:=asc 1 h1 h2
  rw [hc0,hc];rfl
 unfold escS at h ⊢
 split at h
 ·simp at h
 rename_i g0
 rw [if_neg g0]
 by_cases g1:bt l (j+1)=34
 ·rw [if_pos g1];exact two (by omega) (by omega)
 rw [if_neg g1] at h ⊢
 by_cases g2:bt l (j+1)=92
 ·rw [if_pos g2];exact two (by omega) (by omega)
 rw [if_neg g2] at h ⊢
 by_cases g3:bt l (j+1)=110
 ·rw [if_pos g3];exact two (by omega) (by omega)
 rw [if_neg g3] at h ⊢
 by_cases g4:bt l (j+1)=114
 ·rw [if_pos g4];exact two (by omega) (by omega)
 rw [if_neg g4] at h ⊢
 by_cases g5:bt l (j+1)=116
 ·rw [if_pos g5];exact two (by omega) (by omega)
 rw [if_neg g5] at h ⊢
 by_cases g6:bt l (j+1)=120
 ·rw [if_pos g6] at h ⊢
  have t2:=two (by omega) (by omega)
  rcases hex2 l j with ⟨h3,a,b,ha,hb,hq⟩ | ⟨hq,hno⟩
  ·rw [if_pos h3,ha,hb]
   have:=drop_hex 2 l (j+2) 0
   rw [hq] at this
   show (chars l j).drop 4=chars l (j+4)
   rw [show 4=2+2 by rfl,←List.drop_drop,t2]
   exact this
  ·by_cases h3:j+3 < l.length
   ·rw [if_pos h3] at h
    rcases hno h3 with e | e
    ·rw [e] at h;simp at h
    ·rw [e] at h
     revert h
     cases hexD (l.getD (j+2) 0) <;> simp
   ·rw [if_neg h3] at h;simp at h
 rw [if_neg g6] at h ⊢
 by_cases g7:bt l (j+1)=117
 ·rw [if_pos g7] at h ⊢
  have t2:=two (by omega) (by omega)
  by_cases h0:0 < (brS l j).1
  ·rw [if_pos h0]
   show (chars l j).drop (brS l j).1=chars l (j+(brS l j).1)
   unfold brS at h0 ⊢
   split at h0
   ·simp at h0
   ·split at h0
    ·simp at h0
    ·rename_i k1 k2
     rw [if_neg k1,if_neg k2]
     have hd:=drop_hex 6 l (j+3) 0
     show (chars l j).drop (4+(hexRun 6 (l.drop (j+3)) 0).1)=chars l (j+(4+(hexRun 6 (l.drop (j+3)) 0).1))
     obtain ⟨c2,hc2⟩:=asc 2 (by omega) (by omega)
     have t3:(chars l j).drop 3=chars l (j+3):=by
      rw [show 3=2+1 by rfl,←List.drop_drop,t2,hc2];rfl
     obtain ⟨c3,hc3⟩:=asc (3+(hexRun 6 (l.drop (j+3)) 0).1) (by omega) (by rw [←Nat.add_assoc];omega)
     rw [show 4+(hexRun 6 (l.drop (j+3)) 0).1=3+((hexRun 6 (l.drop (j+3)) 0).1+1) by omega,←List.drop_drop,t3,←List.drop_drop,hd,Nat.add_assoc,hc3]
     exact congrArg (chars l) (by omega)
  ·rw [if_neg h0] at h;simp at h
 ·rw [if_neg g7] at h;simp at h
theorem byteCells_append (a b:List UInt8):Lib.byteCells (a++b)=Lib.byteCells a++Lib.byteCells b:=by simp [Lib.byteCells]
theorem byteCells_one (b:List UInt8):∀ u∈Lib.byteCells b,u.oneCell'=true:=by
 intro u hu
 obtain ⟨c,_,rfl⟩:=List.mem_map.1 hu
 rfl
theorem use_pass {P:Program} {a:Act} {w:World} {R:Exit→Act→World→Prop} {c X:Code} {J:Nat→Act→World→Prop} {l:Nat} (h:∀ a w,J l a w→∃ X,findLabel c l=some (.seq .skip X)∧X.wp P R a w) (hJ:J l a w) (hf:findLabel c l=some (.seq .skip X)):X.wp P R a w:=by
 obtain ⟨Y,hY,hr⟩:=h a w hJ
 have e:=Option.some.inj (hf.symm.trans hY)
 injection e with _ e
 rw [e]
 exact hr
theorem results_pc (tmps:Array Value) (W:World) (a b c:Value) (h:tmps.getD 4 undef=a∧tmps.getD 5 undef=b∧tmps.getD 6 undef=c):(results Tryz.f134 tmps).run Tryz.prog W=.ok (.tuple #[a,b,c]) W:=by
 obtain ⟨h1,h2,h3⟩:=h
 have h1':tmps[4]?.getD undef=a:=by simpa using h1
 have h2':tmps[5]?.getD undef=b:=by simpa using h2
 have h3':tmps[6]?.getD undef=c:=by simpa using h3
 simp [results,h1',h2',h3',go_sem]
def PF2 (l:List UInt8) (p:Nat) (w:World) (lab now j:Nat) (said:List UInt8) (v:Value) (wr:World):Prop:=
 (lab=0∨lab=1)∧(chars l 0).drop now=chars l j∧j≤l.length∧insS l j said=insS l p []∧said.length≤j∧wr.ownsRow w.heap.size 5 1 v said.length (Lib.byteCells said)∧Below w.heap.size w wr∧(lab=0→j < l.length∧bt l j=92)
def PJ2 (l:List UInt8) (p:Nat) (w:World) (ad:Addr) (N cap:Nat) (lab:Nat) (a:Act) (wr:World):Prop:=
 ∃ (now j:Nat) (said:List UInt8) (v:Value) (u:Array Value),a={ tmps:=u,defers:=[] }∧u.size=58∧u.getD 0 undef=.slice (some ad) N cap∧u.getD 1 undef=.int .i64 now∧u.getD 7 undef=v∧Hid (PF2 l p w lab now j said v wr)
def pcR2 (l:List UInt8) (p:Nat) (w:World) (e:Ending) (w':World):Prop:=∃ v k,e=.returned (.tuple #[v,.int .i64 ((insS l p []).2.2:Int),.int .i64 ((k:Nat):Int)])∧(chars l 0).drop k=chars l (insS l p []).2.1∧(insS l p []).2.1≤l.length∧w'.ownsRow w.heap.size 5 1 v (insS l p []).1.length (Lib.byteCells (insS l p []).1)∧Below w.heap.size w w'
set_option maxRecDepth 100000 in
set_option maxHeartbeats 2000000 in
theorem pieces_at (l:List UInt8) (k0 p:Nat) (ad:Addr) (cap:Nat) (w:World) (hs:l.length≤16384) (hp:p≤l.length) (start0:(chars l 0).drop k0=chars l p) (hcap:(chars l 0).length≤cap) (hC0:CH w ad (chars l 0)) (hsh0:SH w) :
  Calls Tryz.prog 134 #[.slice (some ad) (chars l 0).length cap,.int .i64 (k0:Int)] w fun e w'=>pcR2 l p w e w':=by
 have hC:Hid (CH w ad (chars l 0)):=hC0
 have hsh:Hid (SH w):=hsh0
 have hNm:=chars_len l _ 0 (Nat.le_refl _)
 have start:Hid ((chars l 0).drop k0=chars l p):=start0
 clear hC0 hsh0 start0
 obtain ⟨i0,hi,hz0,hz1,hz2⟩:=info_parts info_u8
 go_enter Tryz.func134,Tryz.ntmps134
 go_wp2_with fail
 refine wp_scope_many2 (PJ2 l p w ad (chars l 0).length cap) (fun lab a _=>2*((chars l 0).length - (intOf (a.tmps.getD 1 undef)).toNat)+(if lab=1 then 1 else 0)) ?pass ?first
 case first=>
  intro pass
  go_wp2_with fail
  go_step3
  simp only [Exit.then]
  rename_i hK
  refine hK _ _ ?_
  exact use_pass (pass 1) ⟨k0,p,[],.slice none 0 0,_,rfl,rfl,rfl,rfl,rfl,.inr rfl,start.out,hp,rfl,Nat.zero_le _,World.ownsRow_nil _ _ _ _,Below.refl _ _,fun h=>by cases h⟩ rfl
 case pass=>
  intro lab a wr hJ
  have hlab:lab=0∨lab=1:=by
   obtain ⟨_,_,_,_,_,_,_,_,_,_,HF⟩:=hJ
   exact HF.out.1
  rcases hlab with rfl | rfl
  ·refine ⟨_,rfl,?_⟩
   obtain ⟨now,j,said,v,u,rfl,hu,h0,h1,h7,HF⟩:=hJ
   obtain ⟨u0,u1,u2,u3,u4,u5,u6,u7,u8,u9,u10,u11,u12,u13,u14,u15,u16,u17,u18,u19,u20,u21,u22,u23,u24,u25,u26,u27,u28,u29,u30,u31,u32,u33,u34,u35,u36,u37,u38,u39,u40,u41,u42,u43,u44,u45,u46,u47,u48,u49,u50,u51,u52,u53,u54,u55,u56,u57,rfl⟩:=arr_58 u hu
   have e0:u0=.slice (some ad) (chars l 0).length cap:=h0
   have e1:u1=.int .i64 now:=h1
   have e7:u7=v:=h7
   subst e0 e1 e7
   clear hu h0 h1 h7
   obtain ⟨-,hdr,hjl,hins,hsj,hown,hB,h92⟩:=HF.out
   clear HF
   obtain ⟨hlt,g92⟩:=h92 rfl
   have hnow:=drop_lt hdr
   have n0:(0:Int)≤(now:Int):=by omega
   have n1:(now:Int)≤((chars l 0).length:Int):=by omega
   have hsz:=hB.size
   have hlen:(chars l j).length=(chars l 0).length - now:=by rw [←hdr];simp
   have hCj:=(hC.out.below hB).drop now
   rw [hdr] at hCj
   have HE:=escapeAt_any l j (ad.add (now*2)) (cap - now) wr hs hlt g92 (by omega) hCj (hsh.out.below hB)
   rw [hlen] at HE
   rw [insS,if_pos hlt,if_neg (by omega),if_pos g92] at hins
   by_cases hz:(escS l j).1=0
   ·rw [if_pos hz] at hins
    have HR:Hid (insS l p []=([],j,34)):=hins.symm
    have HN:Hid ((chars l 0).drop now=chars l j):=hdr
    rw [hz] at HE
    obtain ⟨b,hb⟩:∃ b,(escS l j).2=b:=⟨_,rfl⟩
    rw [hb] at HE
    clear hins hdr hCj hb hlen hz
    go_wp2_with fail
    refine HE.mono ?_
    rintro e w2 ⟨v2,rfl,ho2,hb2⟩
    go_wp2_with fail
    refine jump_ret (bodyPost_ret (results_pc _ _ _ _ _ ⟨rfl,rfl,rfl⟩) rfl ?_)
    refine ⟨.slice none 0 0,now,?_⟩
    rw [HR.out]
    exact ⟨rfl,HN.out,hjl,World.ownsRow_nil _ _ _ _,bel0 hB hb2⟩
   ·rw [if_neg hz] at hins
    obtain ⟨hq1,hq2⟩:=escS_end l j (by omega)
    have hbne:=escS_ne l j (by omega)
    have hdr2:=escS_drop l j hlt g92 (by omega)
    obtain ⟨k,hk⟩:∃ k,(escS l j).1=k:=⟨_,rfl⟩
    obtain ⟨b,hb⟩:∃ b,(escS l j).2=b:=⟨_,rfl⟩
    rw [hk] at hz hq1 hq2 hins HE hdr2
    rw [hb] at hq2 hins HE hbne
    have hbl:0 < b.length:=List.length_pos_iff.2 hbne
    have kz:(0:Int) < (k:Int):=by omega
    have HF:∀ (v5:Value) (w5:World),w5.ownsRow w.heap.size 5 1 v5 (said++b).length (Lib.byteCells (said++b))→Below w.heap.size w w5→Hid (PF2 l p w 1 (now+k) (j+k) (said++b) v5 w5):=fun v5 w5 ho hb=>⟨.inr rfl,by rw [←List.drop_drop,hdr,hdr2],hq1,hins,by rw [List.length_append];omega,ho,hb,fun h=>by cases h⟩
    have hkN:now+k < (chars l 0).length:=drop_lt (j:=j+k) (by rw [←List.drop_drop,hdr,hdr2])
    clear hins hdr hCj hk hb hlen hdr2 hbne
    go_wp2_with fail
    refine HE.mono ?_
    rintro e w2 ⟨v2,rfl,ho2,hb2⟩
    have hB2:=bel0 hB hb2
    have hown2:=own_below hown hb2
    have hsz2:=hB2.size
    obtain ⟨g,c,rfl⟩:=own_form ho2 hbl
    have hnews:=ho2.cells (g:=g) rfl
    clear hown HE hB
    go_wp2_with (at_builtin;refine wpList_append_own _ rfl _ _ 82 rfl w.heap.size 5 i0 _ 1 1 Tryz.underlying82 hi hz0 hz1 hz2 rfl (by decide) _ _ _ rfl hown2 ⟨g,0,none⟩ b.length c (Lib.byteCells b) rfl (by rw [Lib.byteCells_length,Nat.mul_one]) hnews (byteCells_one b) (by unfold maxLen;omega) (by omega) hsz2 ?_;intro v5 w5 oB hg5 _)
    have b5:Below w.heap.size w w5:=hB2.grown hg5 hsz2 (fun k e=>(hown2.lt k e).1)
    have HF5:=HF v5 w5 (by rw [List.length_append,byteCells_append];exact oB) b5
    clear HF hg5 oB b5 hown2 ho2 hnews
    go_wp2_with fail
    go_step3
    simp only [Exit.then]
    refine And.intro ⟨now+k,_,_,v5,_,rfl,rfl,rfl,by go_num,rfl,HF5⟩ ?_
    simp [intOf]
    omega
  ·refine ⟨_,rfl,?_⟩
   obtain ⟨now,j,said,v,u,rfl,hu,h0,h1,h7,HF⟩:=hJ
   obtain ⟨u0,u1,u2,u3,u4,u5,u6,u7,u8,u9,u10,u11,u12,u13,u14,u15,u16,u17,u18,u19,u20,u21,u22,u23,u24,u25,u26,u27,u28,u29,u30,u31,u32,u33,u34,u35,u36,u37,u38,u39,u40,u41,u42,u43,u44,u45,u46,u47,u48,u49,u50,u51,u52,u53,u54,u55,u56,u57,rfl⟩:=arr_58 u hu
   have e0:u0=.slice (some ad) (chars l 0).length cap:=h0
   have e1:u1=.int .i64 now:=h1
   have e7:u7=v:=h7
   subst e0 e1 e7
   clear hu h0 h1 h7
   obtain ⟨-,hdr,hjl,hins,hsj,hown,hB,-⟩:=HF.out
   clear HF
   have hnow:=drop_lt hdr
   have hget:=drop_get hdr
   have hx:=((hC.out.below hB) _ _ hget).1
   simp only at hx
   have n0:(0:Int)≤(now:Int):=by omega
   have n1:(now:Int) < ((chars l 0).length:Int):=by omega
   have hsz:=hB.size
   by_cases hlt:j < l.length
   ·have hnx:=drop_next hdr hlt
    rw [insS,if_pos hlt] at hins
    by_cases g34:bt l j=34
    ·rw [(chr_asc l j 34 (by decide)).2 ⟨hlt,g34⟩] at hx
     rw [if_pos g34] at hins
     rw [dc_asc (by omega)] at hnx
     have HR:Hid (insS l p []=(said,j+1,0)):=hins.symm
     have HN:Hid ((chars l 0).drop (now+1)=chars l (j+1)):=hnx
     clear hins hnx hdr hget
     go_wp2_with fail
     refine jump_ret (bodyPost_ret (results_pc _ _ _ _ _ ⟨rfl,rfl,rfl⟩) rfl ?_)
     refine ⟨u7,now+1,?_⟩
     rw [HR.out]
     exact ⟨rfl,HN.out,(by omega:j+1≤l.length),hown,hB⟩
    ·rw [if_neg g34] at hins
     have c34:chr l j≠34:=fun e=>g34 ((chr_asc l j 34 (by decide)).1 e).2
     by_cases g92:bt l j=92
     ·rw [(chr_asc l j 92 (by decide)).2 ⟨hlt,g92⟩] at hx
      have HF:Hid (PF2 l p w 0 now j said u7 wr):=⟨.inl rfl,hdr,hjl,by rw [insS,if_pos hlt,if_neg g34];exact hins,hsj,hown,hB,fun _=>⟨hlt,g92⟩⟩
      clear hins hnx hdr hget
      go_wp2_with fail
      go_step3
      simp only [Exit.inBlock,Exit.then]
      refine And.intro ⟨now,j,said,u7,_,rfl,rfl,rfl,rfl,rfl,HF⟩ ?_
      simp
     ·rw [if_neg g92] at hins
      have c92:chr l j≠92:=fun e=>g92 ((chr_asc l j 92 (by decide)).1 e).2
      have cm2:chr l j≠-2:=by unfold chr;rw [if_pos hlt];split <;> omega
      have HB:=fun W=>barred_any (chr l j) W
      have hbi:=bar_iff l j hlt
      have d34:(chr l j==34)=false:=beq_eq_false_iff_ne.2 c34
      have d92:(chr l j==92)=false:=beq_eq_false_iff_ne.2 c92
      have dm2:(chr l j==-2)=false:=beq_eq_false_iff_ne.2 cm2
      by_cases hbad:lo1 l j=true∨bt l j < 32∨bt l j=127
      ·rw [if_pos hbad] at hins
       rw [decide_eq_true (hbi.2 hbad)] at HB
       have HR:Hid (insS l p []=([],j,33)):=hins.symm
       have HN:Hid ((chars l 0).drop now=chars l j):=hdr
       obtain ⟨R,hR⟩:∃ R,chr l j=R:=⟨_,rfl⟩
       rw [hR] at hx HB d34 d92 dm2
       clear hins hnx hdr hget c34 c92 cm2 hbi hbad hR
       go_wp2_with fail
       refine (HB _).mono ?_
       rintro e w2 ⟨rfl,rfl⟩
       go_wp2_with fail
       refine jump_ret (bodyPost_ret (results_pc _ _ _ _ _ ⟨rfl,rfl,rfl⟩) rfl ?_)
       refine ⟨.slice none 0 0,now,?_⟩
       rw [HR.out]
       exact ⟨rfl,HN.out,hjl,World.ownsRow_nil _ _ _ _,hB⟩
      ·rw [if_neg hbad] at hins
       rw [decide_eq_false (fun e=>hbad (hbi.1 e))] at HB
       have hlo:lo1 l j=false:=Bool.eq_false_iff.2 (fun h=>hbad (.inl h))
       have hcr:chr l j=((dc l j).1:Int):=by unfold chr;rw [if_pos hlt,hlo];rfl
       have htk:=take_own l j hlt hlo
       have hle:=dc_le l j hlt
       have hp:=dc_pos l j
       have hrg:=chr_range l j
       rw [←hcr] at htk
       have HR:=fun hl=>appendRune_any w.heap.size u7 said.length (Lib.byteCells said) (chr l j) wr (by omega) (by omega) hown hl hsz
       have HR2:=HR (by omega)
       rw [htk,←byteCells_append,Lib.byteCells_length] at HR2
       have hTl:((l.drop j).take (dc l j).2).length=(dc l j).2:=by simp;omega
       have HF:∀ (v5:Value) (w5:World),w5.ownsRow w.heap.size 5 1 v5 (said++(l.drop j).take (dc l j).2).length (Lib.byteCells (said++(l.drop j).take (dc l j).2))→Below w.heap.size w w5→Hid (PF2 l p w 1 (now+1) (j+(dc l j).2) (said++(l.drop j).take (dc l j).2) v5 w5):=fun v5 w5 ho hb=>⟨.inr rfl,hnx,hle,hins,by rw [List.length_append,hTl];omega,ho,hb,fun h=>by cases h⟩
       rw [←List.length_append] at HR2
       obtain ⟨R,hR⟩:∃ R,chr l j=R:=⟨_,rfl⟩
       rw [hR] at hx HB d34 d92 dm2 HR2
       obtain ⟨S,hS⟩:∃ S,said++(l.drop j).take (dc l j).2=S:=⟨_,rfl⟩
       rw [hS] at HR2 HF
       have hbel:∀ w5,Below w.heap.size wr w5→Below w.heap.size w w5:=fun w5 h=>hB.trans h
       clear hins hnx hdr hget c34 c92 cm2 hbi hbad hR hS htk hTl HR hcr hlo hrg
       go_wp2_with fail
       refine (HB _).mono ?_
       rintro e w2 ⟨rfl,rfl⟩
       go_wp2_with fail
       refine HR2.mono ?_
       rintro e w3 ⟨v3,rfl,ho3,hb3⟩
       have HF3:=HF v3 w3 ho3 (hbel _ hb3)
       clear HF HR2 HB hbel
       go_wp2_with fail
       go_step3
       simp only [Exit.then]
       refine And.intro ⟨now+1,_,_,v3,_,rfl,rfl,rfl,by go_num,rfl,HF3⟩ ?_
       simp [intOf]
       omega
   ·have hcr:chr l j=-2:=by unfold chr;rw [if_neg hlt]
    rw [hcr] at hx
    rw [insS,if_neg hlt] at hins
    obtain rfl:j=l.length:=by omega
    have HR:Hid (insS l p []=([],l.length,32)):=hins.symm
    have HN:Hid ((chars l 0).drop now=chars l l.length):=hdr
    clear hins hdr hget hcr
    go_wp2_with fail
    refine jump_ret (bodyPost_ret (results_pc _ _ _ _ _ ⟨rfl,rfl,rfl⟩) rfl ?_)
    refine ⟨.slice none 0 0,now,?_⟩
    rw [HR.out]
    exact ⟨rfl,HN.out,Nat.le_refl _,World.ownsRow_nil _ _ _ _,hB⟩
end Go.Proofs.YtciffggmobblpaaGreatDoor
