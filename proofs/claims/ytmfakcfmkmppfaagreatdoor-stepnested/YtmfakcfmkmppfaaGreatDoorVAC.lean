import Derived.Test.YtmfakcfmkmppfaaGreatDoorVAB
import Derived.OneCell
import Derived.Deep.RegionLaw
namespace Go.Proofs.YtmfakcfmkmppfaaGreatDoor
open Go.RowKit Go.Shelf
theorem zad {n:Nat} {l:List Value} (h:l.length=n+1):∃ a r,l=a :: r/\r.length=n:=by
 cases l with
 | nil=>simp at h
 | cons a r=>exact ⟨a,r,rfl,by simpa using h⟩
theorem arr_58 (u:Array Value) (h:u.size=58):∃ u0 u1 u2 u3 u4 u5 u6 u7 u8 u9 u10 u11 u12 u13 u14 u15 u16 u17 u18 u19 u20 u21 u22 u23 u24 u25 u26 u27 u28 u29 u30 u31 u32 u33 u34 u35 u36 u37 u38 u39 u40 u41 u42 u43 u44 u45 u46 u47 u48 u49 u50 u51 u52 u53 u54 u55 u56 u57:Value,u=#[u0,u1,u2,u3,u4,u5,u6,u7,u8,u9,u10,u11,u12,u13,u14,u15,u16,u17,u18,u19,u20,u21,u22,u23,u24,u25,u26,u27,u28,u29,u30,u31,u32,u33,u34,u35,u36,u37,u38,u39,u40,u41,u42,u43,u44,u45,u46,u47,u48,u49,u50,u51,u52,u53,u54,u55,u56,u57]:=by
 obtain ⟨l⟩:=u;have h':l.length=58:=by simpa using h
 obtain ⟨u0,r0,rfl,h0⟩:=zad h';obtain ⟨u1,r1,rfl,h1⟩:=zad h0;obtain ⟨u2,r2,rfl,h2⟩:=zad h1;obtain ⟨u3,r3,rfl,h3⟩:=zad h2;obtain ⟨u4,r4,rfl,h4⟩:=zad h3;obtain ⟨u5,r5,rfl,h5⟩:=zad h4;obtain ⟨u6,r6,rfl,h6⟩:=zad h5;obtain ⟨u7,r7,rfl,h7⟩:=zad h6;obtain ⟨u8,r8,rfl,h8⟩:=zad h7;obtain ⟨u9,r9,rfl,h9⟩:=zad h8;obtain ⟨u10,r10,rfl,h10⟩:=zad h9;obtain ⟨u11,r11,rfl,h11⟩:=zad h10;obtain ⟨u12,r12,rfl,h12⟩:=zad h11;obtain ⟨u13,r13,rfl,h13⟩:=zad h12;obtain ⟨u14,r14,rfl,h14⟩:=zad h13;obtain ⟨u15,r15,rfl,h15⟩:=zad h14;obtain ⟨u16,r16,rfl,h16⟩:=zad h15;obtain ⟨u17,r17,rfl,h17⟩:=zad h16;obtain ⟨u18,r18,rfl,h18⟩:=zad h17;obtain ⟨u19,r19,rfl,h19⟩:=zad h18;obtain ⟨u20,r20,rfl,h20⟩:=zad h19;obtain ⟨u21,r21,rfl,h21⟩:=zad h20;obtain ⟨u22,r22,rfl,h22⟩:=zad h21;obtain ⟨u23,r23,rfl,h23⟩:=zad h22;obtain ⟨u24,r24,rfl,h24⟩:=zad h23;obtain ⟨u25,r25,rfl,h25⟩:=zad h24;obtain ⟨u26,r26,rfl,h26⟩:=zad h25;obtain ⟨u27,r27,rfl,h27⟩:=zad h26;obtain ⟨u28,r28,rfl,h28⟩:=zad h27;obtain ⟨u29,r29,rfl,h29⟩:=zad h28;obtain ⟨u30,r30,rfl,h30⟩:=zad h29;obtain ⟨u31,r31,rfl,h31⟩:=zad h30;obtain ⟨u32,r32,rfl,h32⟩:=zad h31;obtain ⟨u33,r33,rfl,h33⟩:=zad h32;obtain ⟨u34,r34,rfl,h34⟩:=zad h33;obtain ⟨u35,r35,rfl,h35⟩:=zad h34;obtain ⟨u36,r36,rfl,h36⟩:=zad h35;obtain ⟨u37,r37,rfl,h37⟩:=zad h36;obtain ⟨u38,r38,rfl,h38⟩:=zad h37;obtain ⟨u39,r39,rfl,h39⟩:=zad h38;obtain ⟨u40,r40,rfl,h40⟩:=zad h39;obtain ⟨u41,r41,rfl,h41⟩:=zad h40;obtain ⟨u42,r42,rfl,h42⟩:=zad h41;obtain ⟨u43,r43,rfl,h43⟩:=zad h42;obtain ⟨u44,r44,rfl,h44⟩:=zad h43;obtain ⟨u45,r45,rfl,h45⟩:=zad h44;obtain ⟨u46,r46,rfl,h46⟩:=zad h45;obtain ⟨u47,r47,rfl,h47⟩:=zad h46;obtain ⟨u48,r48,rfl,h48⟩:=zad h47;obtain ⟨u49,r49,rfl,h49⟩:=zad h48;obtain ⟨u50,r50,rfl,h50⟩:=zad h49;obtain ⟨u51,r51,rfl,h51⟩:=zad h50;obtain ⟨u52,r52,rfl,h52⟩:=zad h51;obtain ⟨u53,r53,rfl,h53⟩:=zad h52;obtain ⟨u54,r54,rfl,h54⟩:=zad h53;obtain ⟨u55,r55,rfl,h55⟩:=zad h54;obtain ⟨u56,r56,rfl,h56⟩:=zad h55;obtain ⟨u57,r57,rfl,h57⟩:=zad h56;obtain rfl:=List.length_eq_zero_iff.1 h57;exact ⟨u0,u1,u2,u3,u4,u5,u6,u7,u8,u9,u10,u11,u12,u13,u14,u15,u16,u17,u18,u19,u20,u21,u22,u23,u24,u25,u26,u27,u28,u29,u30,u31,u32,u33,u34,u35,u36,u37,u38,u39,u40,u41,u42,u43,u44,u45,u46,u47,u48,u49,u50,u51,u52,u53,u54,u55,u56,u57,rfl⟩
theorem zjr {w W:World} {B e sz n:Nat} {v:Value} {xs:List Value} (h:w.ownsRow B e sz v n xs) (hb:Below w.heap.size w W):W.ownsRow B e sz v n xs:=by
 refine ⟨h.1,?_⟩;rcases h.2 with hh | ⟨g,c,cur,h1,h2,h3,h4⟩
 ·exact .inl hh
 ·exact .inr ⟨g,c,cur,h1,h2,(hb.block _ (zay h3)).trans h3,h4⟩
theorem zii {w:World} {B e sz n:Nat} {v:Value} {xs:List Value} (h:w.ownsRow B e sz v n xs) (hn:0 < n):∃ g cap,v=.slice (some ⟨g,0,none⟩) n cap:=by
 rcases h.2 with hh | ⟨g,c,cur,h1,h2,h3,h4⟩
 ·omega
 ·exact ⟨g,c,h1⟩
set_option maxRecDepth 100000 in
theorem zon (r:Int) (w:World):Calls Tryz.prog 169 #[.int .i32 r] w fun e w'=>e=.returned (.bool (decide (r < 32∨r=127)))/\w'=w:=by
 by_cases h1:r < 32
 ·have hr:Hid (decide (r < 32∨r=127)=true):=decide_eq_true (.inl h1)
  rw [hr.out]
  go_enter Tryz.func169,Tryz.ntmps169
  go_wp2
  go_ret
  exact ⟨rfl,rfl⟩
 ·by_cases h2:r=127
  ·have hr:Hid (decide (r < 32∨r=127)=true):=decide_eq_true (.inr h2)
   rw [hr.out];subst h2
   go_enter Tryz.func169,Tryz.ntmps169
   go_wp2
   go_ret
   exact ⟨rfl,rfl⟩
  ·have hr:Hid (decide (r < 32∨r=127)=false):=decide_eq_false (by omega)
   have h3:(r==127)=false:=beq_eq_false_iff_ne.2 h2;rw [hr.out]
   go_enter Tryz.func169,Tryz.ntmps169
   go_wp2
   go_ret
   exact ⟨rfl,rfl⟩
theorem utfL_ne (n:Nat):utfL n≠[]:=by
 unfold utfL
 repeat' split
 all_goals simp
theorem escS_ne (l:List UInt8) (i:Nat) (h:0 < (zbj l i).1):(zbj l i).2≠[]:=by
 unfold zbj at h ⊢
 split at h
 ·simp at h
 rename_i g0
 rw [if_neg g0]
 repeat' split
 all_goals first
  | (simp;done)
  | (simp_all [utfL_ne];done)
theorem ziq {l:List UInt8} {now j:Nat} (h:(zak l 0).drop now=zak l j):now < (zak l 0).length:=by
 obtain ⟨r,hr⟩:=zbp l j;rw [hr] at h;refine Classical.byContradiction (fun hn=>?_);rw [List.drop_eq_nil_of_le (by omega)] at h;cases h
theorem zf3 {l:List UInt8} {now j:Nat} (h:(zak l 0).drop now=zak l j):(zak l 0)[now]?=some (chr l j,(if j < l.length then j else l.length)):=by
 obtain ⟨r,hr⟩:=zbp l j;have h0:=congrArg (·[0]?) h
 simpa [hr,List.getElem?_drop] using h0
theorem zgv {l:List UInt8} {now j:Nat} (h:(zak l 0).drop now=zak l j) (hj:j < l.length):(zak l 0).drop (now+1)=zak l (j+(dc l j).2):=by
 rw [<-List.drop_drop,h,zcq hj];rfl
theorem zih {W:World} {B g n:Nat} {e e2:TypeId} {sz:Nat} {v:Value} {xs:List Value} {cs:Array Value} {m:Nat×Nat} (h:W.ownsRow B e sz v n xs) (hk:W.heap[g]?=some (.cells cs e2 m)) (hne:e≠e2):v.ownBlock≠some g:=by
 intro hb;rcases h.2 with ⟨rfl,_⟩ | ⟨g2,c2,cur2,rfl,_,hg2,_⟩
 ·cases hb
 ·have:g2=g:=by injection hb
  subst this;rw [hk] at hg2;exact hne (by injection hg2 with hg2;injection hg2 with _ h2 _;exact h2.symm)
abbrev Tok:=Nat×List UInt8×Nat×Nat
def tcel (t:Tok):List Value:=[.int .i64 (t.1:Int),.string ⟨t.2.1.toArray⟩,.int .i64 (t.2.2.1:Int),.int .i64 (t.2.2.2:Int)]
def zft (L:List Tok):List Value:=L.flatMap tcel
theorem znn (L:List Tok) (t:Tok):zft (L++[t])=zft L++tcel t:=by simp [zft]
theorem info_tok:(Tryz.prog.info? 179).map (fun i=>(i.zero,i.size,i.bytes))=some (some (.agg #[.int .i64 0,.string ⟨#[]⟩,.int .i64 0,.int .i64 0]),4,40):=by kernel_rfl
abbrev zdq:List (List UInt8):=[[33,61],[60,61],[62,61],[46,46],[45,62],[40],[41],[33],[61],[60],[62],[38],[124],[44],[58],[47]]
abbrev zl8:Array Value:=#[.string ⟨#[33,61]⟩,.string ⟨#[60,61]⟩,.string ⟨#[62,61]⟩,.string ⟨#[46,46]⟩,.string ⟨#[45,62]⟩,.string ⟨#[40]⟩,.string ⟨#[41]⟩,.string ⟨#[33]⟩,.string ⟨#[61]⟩,.string ⟨#[60]⟩,.string ⟨#[62]⟩,.string ⟨#[38]⟩,.string ⟨#[124]⟩,.string ⟨#[44]⟩,.string ⟨#[58]⟩,.string ⟨#[47]⟩]
def SG (w:World):Prop:=∃ t fr,w.heap[0]?=some (.cells zl8 t fr)
theorem SG.below {w W:World} (h:SG w) (hb:Below w.heap.size w W):SG W:=by
 obtain ⟨t,fr,h⟩:=h;exact ⟨t,fr,(hb.block _ (zay h)).trans h⟩
theorem SG.cell {w:World} (h:SG w) (j:Nat):w.cell? ⟨0,j,none⟩=zl8[j]?:=by
 obtain ⟨t,fr,h⟩:=h;exact cell_of_row w _ j _ _ _ h
structure MX where
 w0:World
 l:List UInt8
 b:Nat
 g:Nat
 cap:Nat
 gc:Array Value
 gf:Nat×Nat
structure MC (X:MX):Prop where
 gcc:∀ k c,(zak X.l 0)[k]?=some c->X.gc[k*2]?=some (.int .i32 c.1)/\X.gc[k*2+1]?=some (.int .i64 (c.2:Int))
 bB:X.w0.heap.size<=X.b
 capN:(zak X.l 0).length<=X.cap
 len:X.l.length<=16384
 sh:SH X.w0
 sg:SG X.w0
def zhr (X:MX) (now fst line head:Nat) (v:Value):Array Value:=#[.string ⟨X.l.toArray⟩,.slice (some ⟨X.g,0,none⟩) (zak X.l 0).length X.cap,.int .i64 (now:Int),.int .i64 (fst:Int),.int .i64 (line:Int),.int .i64 (head:Int),v]
structure MS (X:MX) (W:World) (now fst line head:Nat) (v:Value) (D:List Tok):Prop where
 blk:W.heap[X.b]?=some (.cells (zhr X now fst line head v) 185 (0,0))
 gk:W.heap[X.g]?=some (.cells X.gc 196 X.gf)
 own:W.ownsRow X.w0.heap.size 179 4 v D.length (zft D)
 bel:Below X.w0.heap.size X.w0 W
theorem MS.bg {X:MX} {W:World} {now fst line head:Nat} {v:Value} {D:List Tok} (h:MS X W now fst line head v D):X.g≠X.b:=fun e=>by
 have h1:=h.blk;have h2:=h.gk;rw [e] at h2;rw [h1] at h2;injection h2 with h2;injection h2 with _ h3 _;exact absurd h3 (by decide)
theorem MS.below {X:MX} {W W':World} {now fst line head:Nat} {v:Value} {D:List Tok} (h:MS X W now fst line head v D) (hb:Below W.heap.size W W'):MS X W' now fst line head v D:=
 ⟨zbi hb h.blk,zbi hb h.gk,zjr h.own hb,zhx h.bel hb⟩
theorem MS.drewN {X:MX} {W:World} {now fst line head:Nat} {v:Value} {D:List Tok} (h:MS X W now fst line head v D) (n:Nat):MS X (W.drewN n) now fst line head v D:=
 h.below (zrz n (Below.refl _ _))
theorem MS.drew {X:MX} {W:World} {now fst line head:Nat} {v:Value} {D:List Tok} (h:MS X W now fst line head v D):MS X W.drew now fst line head v D:=
 h.below (Below.refl _ _).drew
theorem MS.alloc {X:MX} {W:World} {now fst line head:Nat} {v:Value} {D:List Tok} (h:MS X W now fst line head v D) (o:Obj):MS X (W.alloc o) now fst line head v D:=
 h.below ((Below.refl _ _).alloc (Nat.le_refl _) _)
theorem MS.set {X:MX} (hC:MC X) {W:World} {now fst line head now' fst' line' head':Nat} {v:Value} {D:List Tok} (h:MS X W now fst line head v D) (i:Nat) (u:Value) (hc:(zhr X now fst line head v).setIfInBounds i u=zhr X now' fst' line' head' v):MS X (W.setCell ⟨X.b,i,none⟩ u) now' fst' line' head' v D:=
 ⟨by rw [heap_setCell_same W X.b i _ _ u h.blk,hc],(heap_setCell_other W ⟨X.b,i,none⟩ X.g u h.bg).trans h.gk,ownsRow_setCell_other h.own (a:=⟨X.b,i,none⟩) (zih h.own h.blk (by decide)) u,h.bel.setCell (p:=⟨X.b,i,none⟩) hC.bB u⟩
theorem MS.setNow {X:MX} (hC:MC X) {W:World} {now fst line head:Nat} {v:Value} {D:List Tok} (h:MS X W now fst line head v D) (n:Nat) {z:Int} (hz:z=(n:Int)):MS X (W.setCell ⟨X.b,2,none⟩ (.int .i64 z)) n fst line head v D:=h.set hC 2 _ (by rw [hz];rfl)
theorem MS.setFst {X:MX} (hC:MC X) {W:World} {now fst line head:Nat} {v:Value} {D:List Tok} (h:MS X W now fst line head v D) (n:Nat) {z:Int} (hz:z=(n:Int)):MS X (W.setCell ⟨X.b,3,none⟩ (.int .i64 z)) now n line head v D:=h.set hC 3 _ (by rw [hz];rfl)
theorem MS.setLine {X:MX} (hC:MC X) {W:World} {now fst line head:Nat} {v:Value} {D:List Tok} (h:MS X W now fst line head v D) (n:Nat) {z:Int} (hz:z=(n:Int)):MS X (W.setCell ⟨X.b,4,none⟩ (.int .i64 z)) now fst n head v D:=h.set hC 4 _ (by rw [hz];rfl)
theorem MS.setHead {X:MX} (hC:MC X) {W:World} {now fst line head:Nat} {v:Value} {D:List Tok} (h:MS X W now fst line head v D) (n:Nat) {z:Int} (hz:z=(n:Int)):MS X (W.setCell ⟨X.b,5,none⟩ (.int .i64 z)) now fst line n v D:=h.set hC 5 _ (by rw [hz];rfl)
theorem MS.c {X:MX} {W:World} {now fst line head:Nat} {v:Value} {D:List Tok} (h:MS X W now fst line head v D) (i:Nat):W.cell? ⟨X.b,i,none⟩=(zhr X now fst line head v)[i]?:=cell_of_row W X.b i _ _ _ h.blk
theorem MS.c0 {X:MX} {W:World} {now fst line head:Nat} {v:Value} {D:List Tok} (h:MS X W now fst line head v D):W.cell? ⟨X.b,0,none⟩=some (.string ⟨X.l.toArray⟩):=h.c 0
theorem MS.c1 {X:MX} {W:World} {now fst line head:Nat} {v:Value} {D:List Tok} (h:MS X W now fst line head v D):W.cell? ⟨X.b,1,none⟩=some (.slice (some ⟨X.g,0,none⟩) (zak X.l 0).length X.cap):=h.c 1
theorem MS.c2 {X:MX} {W:World} {now fst line head:Nat} {v:Value} {D:List Tok} (h:MS X W now fst line head v D):W.cell? ⟨X.b,2,none⟩=some (.int .i64 (now:Int)):=h.c 2
theorem MS.c3 {X:MX} {W:World} {now fst line head:Nat} {v:Value} {D:List Tok} (h:MS X W now fst line head v D):W.cell? ⟨X.b,3,none⟩=some (.int .i64 (fst:Int)):=h.c 3
theorem MS.c4 {X:MX} {W:World} {now fst line head:Nat} {v:Value} {D:List Tok} (h:MS X W now fst line head v D):W.cell? ⟨X.b,4,none⟩=some (.int .i64 (line:Int)):=h.c 4
theorem MS.c5 {X:MX} {W:World} {now fst line head:Nat} {v:Value} {D:List Tok} (h:MS X W now fst line head v D):W.cell? ⟨X.b,5,none⟩=some (.int .i64 (head:Int)):=h.c 5
theorem MS.c6 {X:MX} {W:World} {now fst line head:Nat} {v:Value} {D:List Tok} (h:MS X W now fst line head v D):W.cell? ⟨X.b,6,none⟩=some v:=h.c 6
theorem MS.fz {X:MX} {W:World} {now fst line head:Nat} {v:Value} {D:List Tok} (h:MS X W now fst line head v D) (i:Nat):W.frozen? ⟨X.b,i,none⟩=false:=by
 have:=h.blk;simp [World.frozen?,this]
def AT (l:List UInt8) (now j:Nat):Prop:=(zak l 0).drop now=zak l j
theorem MS.cr {X:MX} (hC:MC X) {W:World} {now fst line head:Nat} {v:Value} {D:List Tok} (h:MS X W now fst line head v D) {k j:Nat} (hj:AT X.l k j):W.cell? ⟨X.g,k*2,none⟩=some (.int .i32 (chr X.l j)):=
 (cell_of_row W X.g _ _ _ _ h.gk).trans (hC.gcc k _ (zf3 hj)).1
theorem MS.ca {X:MX} (hC:MC X) {W:World} {now fst line head:Nat} {v:Value} {D:List Tok} (h:MS X W now fst line head v D) {k j:Nat} (hj:AT X.l k j) (hl:j<=X.l.length):W.cell? ⟨X.g,k*2+1,none⟩=some (.int .i64 (j:Int)):=by
 have:=(cell_of_row W X.g (k*2+1) _ _ _ h.gk).trans (hC.gcc k _ (zf3 hj)).2;rw [this];simp only
 split
 ·rfl
 ·have:j=X.l.length:=by omega
  rw [this]
theorem AT.lt {l:List UInt8} {now j:Nat} (h:AT l now j):now < (zak l 0).length:=ziq h
theorem AT.le {l:List UInt8} {now j:Nat} (h:AT l now j):now<=16384∨16384 < l.length:=by
 have:=h.lt;have:=zcn l _ 0 (Nat.le_refl _);omega
theorem AT.asc {l:List UInt8} {now j:Nat} (h:AT l now j) (hj:j < l.length) (hb:bt l j < 128):AT l (now+1) (j+1):=by
 have:=zgv h hj;rw [zfp hb] at this;exact this
theorem AT.next {l:List UInt8} {now j:Nat} (h:AT l now j) (hj:j < l.length):AT l (now+1) (j+(dc l j).2):=zgv h hj
def ci (l:List UInt8) (j:Nat):Nat:=(zak l 0).length - (zak l j).length
theorem AT.ci {l:List UInt8} {now j:Nat} (h:AT l now j):now=ci l j:=by
 have h1:=h.lt;have h2:=congrArg List.length h;rw [List.length_drop] at h2;unfold Proofs.YtmfakcfmkmppfaaGreatDoor.ci;omega
def cls (r:Int):Nat:=
 if r=-2 then 0 else if r=10 then 1 else if r=32 then 2 else if r=9 then 2 else if r=13 then 2 else if r=46 then 5 else if r=37 then 6 else if r=34 then 7 else if r=35 then 8
 else if (97<=r/\r<=122)∨(65<=r/\r<=90)∨r=95 then 3 else if 48<=r/\r<=57 then 4 else 9
def kl (l:List UInt8) (j:Nat):Nat:=cls (chr l j)
theorem wrapN (k:Nat) (h:k<=1000000):IntKind.i64.wrap ((k:Int)+1)=(k:Int)+1:=by rw [IntKind.wrap_i64];omega
theorem ret_i {a b:Int} (h:a=b):Ending.returned (.int .i64 a)=.returned (.int .i64 b):=by rw [h]
set_option maxRecDepth 100000 in
set_option maxHeartbeats 1000000 in
theorem zg1 (r:Int) (w:World):Calls Tryz.prog 151 #[.int .i32 r] w fun e w'=>e=.returned (.int .i64 (cls r:Int))/\w'=w:=by
 obtain ⟨c,hc⟩:=ex (cls r);have HC:Hid (cls r=c):=hc;rw [hc];clear hc
 go_enter Tryz.func151,Tryz.ntmps151
 go_wp2
 all_goals
  go_ret
  refine ⟨ret_i ?_,rfl⟩;have hc:=HC.out;unfold cls at hc
  simp_all <;> (try (repeat' split at hc)) <;> omega
set_option maxRecDepth 100000 in
set_option maxHeartbeats 1000000 in
theorem zcm {X:MX} (hC:MC X) {W:World} {now fst line head:Nat} {v:Value} {D:List Tok} (h:MS X W now fst line head v D) {j:Nat} (hj:AT X.l now j) :
  Calls Tryz.prog 143 #[.pointer (some ⟨X.b,0,none⟩)] W fun e w'=>e=.returned (.int .i64 (kl X.l j:Int))/\MS X w' now fst line head v D:=by
 have hM:Hid (MS X W now fst line head v D):=h;have hc1:=h.c1;have hc2:=h.c2;have hx:=h.cr hC hj;have hlt:=hj.lt;have hle:=hj.le;have hlen:=hC.len;have n0:(0:Int)<=(now:Int):=by omega
 have n1:(now:Int) < ((zak X.l 0).length:Int):=by omega
 obtain ⟨r,hr⟩:=ex (chr X.l j);have HR:Hid (kl X.l j=cls r):=by unfold Hid kl;rw [hr]
 rw [HR.out];rw [hr] at hx;clear hr h hC hj
 go_enter Tryz.func143,Tryz.ntmps143
 go_wp2_with fail
 go_quiet ((go_at_call 151;exact Calls.quiet_of_same (zg1 _ _)))
 go_wp2_with fail
 go_ret
 exact ⟨rfl,hM.out.drewN _⟩
def inW (l:List UInt8) (j:Nat):Bool:=decide (kl l j=3) || decide (kl l j=4)
set_option maxRecDepth 100000 in
theorem zc6 {X:MX} (hC:MC X) {W:World} {now fst line head:Nat} {v:Value} {D:List Tok} (h:MS X W now fst line head v D) {j:Nat} (hj:AT X.l now j) :
  Calls Tryz.prog 154 #[.pointer (some ⟨X.b,0,none⟩)] W fun e w'=>e=.returned (.bool (inW X.l j))/\MS X w' now fst line head v D:=by
 have H:=zcm hC h hj;obtain ⟨c,hc⟩:=ex (kl X.l j);obtain ⟨r,hr⟩:=ex (inW X.l j);have HR:Hid (inW X.l j=(decide (c=3) || decide (c=4))):=by unfold Hid inW;rw [hc]
 rw [HR.out];rw [hc] at H;clear hc hr h hC hj
 by_cases h3:c=3
 ·subst h3
  go_enter Tryz.func154,Tryz.ntmps154
  go_wp2_with fail
  refine H.mono ?_;rintro e w1 ⟨rfl,h1⟩
  go_wp2_with fail
  go_ret
  exact ⟨rfl,h1⟩
 ·have e3:((c:Int)==3)=false:=by rw [beq_eq_false_iff_ne];omega
  by_cases h4:c=4
  ·subst h4
   go_enter Tryz.func154,Tryz.ntmps154
   go_wp2_with fail
   refine H.mono ?_;rintro e w1 ⟨rfl,h1⟩
   go_wp2_with fail
   go_ret
   exact ⟨rfl,h1⟩
  ·have e4:((c:Int)==4)=false:=by rw [beq_eq_false_iff_ne];omega
   have HB:Hid ((decide (c=3) || decide (c=4))=false):=by unfold Hid;simp [h3,h4]
   rw [HB.out]
   go_enter Tryz.func154,Tryz.ntmps154
   go_wp2_with fail
   refine H.mono ?_;rintro e w1 ⟨rfl,h1⟩
   go_wp2_with fail
   go_ret
   exact ⟨rfl,h1⟩
set_option maxRecDepth 100000 in
theorem zhw {X:MX} {W:World} {now fst line head:Nat} {v:Value} {D:List Tok} (h:MS X W now fst line head v D) {ch:Nat} (hh:head<=ch) (hm:ch<=16384) :
  Calls Tryz.prog 133 #[.pointer (some ⟨X.b,0,none⟩),.int .i64 (ch:Int)] W fun e w'=>e=.returned (.int .i64 ((ch - head+1:Nat):Int))/\w'=W:=by
 have hc5:=h.c5;have H1:Hid ((ch:Int) - (head:Int)+1=((ch - head+1:Nat):Int)):=by unfold Hid;omega
 clear h
 go_enter Tryz.func133,Tryz.ntmps133
 go_wp2_with fail
 go_ret
 exact ⟨ret_i H1.out,rfl⟩
theorem dec_int (a b:Nat):((a:Int)==(b:Int))=decide (a=b):=by
 by_cases h:a=b
 ·subst h;simp
 ·have:((a:Int)==(b:Int))=false:=by rw [beq_eq_false_iff_ne];omega
  rw [this,decide_eq_false h]
def zcl (l:List UInt8) (j c:Nat):Bool:=decide (kl l j=5)&&decide (kl l (j+1)=c)
theorem kl5 {l:List UInt8} {j:Nat} (h:kl l j=5):j < l.length/\bt l j=46:=by
 unfold kl cls at h
 by_cases h1:chr l j=46
 ·exact (zbs l j 46 (by decide)).1 h1
 ·repeat' split at h
  all_goals first | omega | contradiction
set_option maxRecDepth 100000 in
set_option maxHeartbeats 1000000 in
theorem zfn {X:MX} (hC:MC X) {W:World} {now fst line head:Nat} {v:Value} {D:List Tok} (h:MS X W now fst line head v D) {j:Nat} (hj:AT X.l now j) (c:Nat) (_:c < 100) :
  Calls Tryz.prog 155 #[.pointer (some ⟨X.b,0,none⟩),.int .i64 (c:Int)] W fun e w'=>e=.returned (.bool (zcl X.l j c))/\MS X w' now fst line head v D:=by
 have H:Hid (∀ W',MS X W' now fst line head v D->Calls Tryz.prog 143 #[.pointer (some ⟨X.b,0,none⟩)] W' fun e w'=>e=.returned (.int .i64 (kl X.l j:Int))/\MS X w' now fst line head v D):=fun W' h'=>zcm hC h' hj
 by_cases h5:kl X.l j=5
 ·obtain ⟨hjl,hb⟩:=kl5 h5
  have hj1:=hj.asc hjl (by omega);have hlt:=hj1.lt;have hle:=hj.le;have hlen:=hC.len;have n0:(0:Int)<=(now:Int):=by omega
  have n1:(now:Int)+1 < ((zak X.l 0).length:Int):=by omega
  have n2:(0:Int)<=(now:Int)+1:=by omega
  rw [h5] at H;obtain ⟨r,hr⟩:=ex (chr X.l (j+1));have HX:Hid (∀ W',MS X W' now fst line head v D->W'.cell? ⟨X.b,1,none⟩=some (.slice (some ⟨X.g,0,none⟩) (zak X.l 0).length X.cap)/\W'.cell? ⟨X.b,2,none⟩=some (.int .i64 (now:Int))/\W'.cell? ⟨X.g,(now+1)*2,none⟩=some (.int .i32 r)):=fun W' h'=>⟨h'.c1,h'.c2,by rw [<-hr];exact h'.cr hC hj1⟩;have HR:Hid (zcl X.l j c=decide (cls r=c)):=by unfold Hid zcl;rw [h5];unfold kl;rw [hr];rfl
  rw [HR.out];clear hr hj hj1 h5 hb
  go_enter Tryz.func155,Tryz.ntmps155
  go_wp2_with fail
  refine zcg (C:=fun W=>MS X W now fst line head v D) (by kernel_rfl) (by kernel_rfl) (MS.drew h) ?_
  go_big_quiet_want
  go_big_quiet_op
  go_big_quiet_on
  go_big_quiet_want
  refine ⟨.int .i64 5,fun W hW=>?_,?_⟩
  ·go_simp
   refine (H.out W hW).mono ?_;rintro e w7 ⟨rfl,hb⟩;exact ⟨rfl,hb⟩
  go_big_quiet_on
  simp only [Act.put,List.setIfInBounds_toArray,List.set_cons_zero,List.set_cons_succ]
  go_big_quiet_want
  refine ⟨.bool true,fun W hW=>?_,?_⟩
  ·go_simp
  go_big_quiet_on
  simp only [Act.put,List.setIfInBounds_toArray,List.set_cons_zero,List.set_cons_succ]
  go_big_quiet_want
  go_big_quiet_op
  go_big_quiet_on
  go_big_quiet_want
  go_big_quiet_op
  go_big_quiet_on
  go_big_quiet_want
  refine ⟨.pointer (some ⟨X.b,0,none⟩),fun W hW=>?_,?_⟩
  ·go_simp
  go_big_quiet_on
  simp only [Act.put,List.setIfInBounds_toArray,List.set_cons_zero,List.set_cons_succ]
  go_big_quiet_want
  refine ⟨.pointer (some ⟨X.b,1,none⟩),fun W hW=>?_,?_⟩
  ·go_simp
  go_big_quiet_on
  simp only [Act.put,List.setIfInBounds_toArray,List.set_cons_zero,List.set_cons_succ]
  go_big_quiet_want
  refine ⟨.slice (some ⟨X.g,0,none⟩) (zak X.l 0).length X.cap,fun W hW=>?_,?_⟩
  ·obtain ⟨x1,x2,x3⟩:=HX.out W hW
   go_simp
  go_big_quiet_on
  simp only [Act.put,List.setIfInBounds_toArray,List.set_cons_zero,List.set_cons_succ]
  go_big_quiet_want
  go_big_quiet_op
  go_big_quiet_on
  go_big_quiet_want
  refine ⟨.pointer (some ⟨X.b,0,none⟩),fun W hW=>?_,?_⟩
  ·go_simp
  go_big_quiet_on
  simp only [Act.put,List.setIfInBounds_toArray,List.set_cons_zero,List.set_cons_succ]
  go_big_quiet_want
  refine ⟨.pointer (some ⟨X.b,2,none⟩),fun W hW=>?_,?_⟩
  ·go_simp
  go_big_quiet_on
  simp only [Act.put,List.setIfInBounds_toArray,List.set_cons_zero,List.set_cons_succ]
  go_big_quiet_want
  refine ⟨.int .i64 (now:Int),fun W hW=>?_,?_⟩
  ·obtain ⟨x1,x2,x3⟩:=HX.out W hW
   go_simp
  go_big_quiet_on
  simp only [Act.put,List.setIfInBounds_toArray,List.set_cons_zero,List.set_cons_succ]
  go_big_quiet_want
  refine ⟨.int .i64 ((now:Int)+1),fun W hW=>?_,?_⟩
  ·go_simp
   exact wrapN now (by omega)
  go_big_quiet_on
  simp only [Act.put,List.setIfInBounds_toArray,List.set_cons_zero,List.set_cons_succ]
  go_big_quiet_want
  refine ⟨.pointer (some ⟨X.g,(now+1)*2,none⟩),fun W hW=>?_,?_⟩
  ·go_simp
  go_big_quiet_on
  simp only [Act.put,List.setIfInBounds_toArray,List.set_cons_zero,List.set_cons_succ]
  go_big_quiet_want
  refine ⟨.pointer (some ⟨X.g,(now+1)*2,none⟩),fun W hW=>?_,?_⟩
  ·go_simp
  go_big_quiet_on
  simp only [Act.put,List.setIfInBounds_toArray,List.set_cons_zero,List.set_cons_succ]
  go_big_quiet_want
  refine ⟨.int .i32 r,fun W hW=>?_,?_⟩
  ·obtain ⟨x1,x2,x3⟩:=HX.out W hW
   go_simp
  go_big_quiet_on
  simp only [Act.put,List.setIfInBounds_toArray,List.set_cons_zero,List.set_cons_succ]
  go_big_quiet_want
  refine ⟨.int .i64 (cls r:Int),fun W hW=>?_,?_⟩
  ·go_simp
   refine (zg1 r W).mono ?_;rintro e w7 ⟨rfl,rfl⟩;exact ⟨rfl,hW⟩
  go_big_quiet_on
  simp only [Act.put,List.setIfInBounds_toArray,List.set_cons_zero,List.set_cons_succ]
  go_big_quiet_want
  go_big_quiet_op
  go_big_quiet_on
  go_big_quiet_want
  refine ⟨.bool (decide (cls r=c)),fun W hW=>?_,?_⟩
  ·go_simp
   exact dec_int _ _
  go_big_quiet_on
  simp only [Act.put,List.setIfInBounds_toArray,List.set_cons_zero,List.set_cons_succ]
  go_big_quiet_want
  refine ⟨.bool (decide (cls r=c)),fun W hW=>?_,?_⟩
  ·go_simp
  go_big_quiet_on
  simp only [Act.put,List.setIfInBounds_toArray,List.set_cons_zero,List.set_cons_succ]
  go_big_quiet_want
  go_big_quiet_op
  go_big_quiet_on
  refine wpQuiet_nil ?_;intro W hW
  go_wp2_with fail
  go_ret
  exact ⟨rfl,hW⟩
 ·have e5:((kl X.l j:Int)==5)=false:=by rw [beq_eq_false_iff_ne];omega
  have HR:Hid (zcl X.l j c=false):=by unfold Hid zcl;rw [decide_eq_false h5];rfl
  rw [HR.out];obtain ⟨k,hk⟩:=ex (kl X.l j);rw [hk] at H e5;have hM:Hid (MS X W now fst line head v D):=h;clear h5 hk hj h hC
  go_enter Tryz.func155,Tryz.ntmps155
  go_wp2_with fail
  refine zcg (C:=fun W=>MS X W now fst line head v D) (by kernel_rfl) (by kernel_rfl) (MS.drew hM.out) ?_
  go_big_quiet_want
  go_big_quiet_op
  go_big_quiet_on
  go_big_quiet_want
  refine ⟨.int .i64 (k:Int),fun W hW=>?_,?_⟩
  ·go_simp
   refine (H.out W hW).mono ?_;rintro e w7 ⟨rfl,hb⟩;exact ⟨rfl,hb⟩
  go_big_quiet_on
  simp only [Act.put,List.setIfInBounds_toArray,List.set_cons_zero,List.set_cons_succ]
  go_big_quiet_want
  refine ⟨.bool false,fun W hW=>?_,?_⟩
  ·go_simp
  go_big_quiet_on
  simp only [Act.put,List.setIfInBounds_toArray,List.set_cons_zero,List.set_cons_succ]
  go_big_quiet_want
  go_big_quiet_op
  go_big_quiet_on
  go_big_quiet_skip
  go_big_quiet_skip
  go_big_quiet_skip
  go_big_quiet_skip
  go_big_quiet_skip
  go_big_quiet_skip
  go_big_quiet_skip
  go_big_quiet_skip
  go_big_quiet_skip
  go_big_quiet_skip
  go_big_quiet_skip
  go_big_quiet_skip
  go_big_quiet_skip
  go_big_quiet_skip
  go_big_quiet_skip
  go_big_quiet_want
  refine ⟨.bool false,fun W hW=>?_,?_⟩
  ·go_simp
  go_big_quiet_on
  simp only [Act.put,List.setIfInBounds_toArray,List.set_cons_zero,List.set_cons_succ]
  go_big_quiet_want
  go_big_quiet_op
  go_big_quiet_on
  refine wpQuiet_nil ?_;intro W hW
  go_wp2_with fail
  go_ret
  exact ⟨rfl,hW⟩
theorem MS.grb {X:MX} {W W5:World} {now fst line head:Nat} {v:Value} {D:List Tok} (h:MS X W now fst line head v D) (hg:W.grownBy W5 v.ownBlock) :
  W5.heap[X.b]?=some (.cells (zhr X now fst line head v) 185 (0,0))/\W5.heap[X.g]?=some (.cells X.gc 196 X.gf)/\Below X.w0.heap.size X.w0 W5:=
 ⟨(hg.block X.b (zay h.blk) (fun e=>zih h.own h.blk (by decide) e.symm)).trans h.blk,(hg.block X.g (zay h.gk) (fun e=>zih h.own h.gk (by decide) e.symm)).trans h.gk,h.bel.grown hg h.bel.size (fun k e=>(h.own.lt k e).1)⟩
theorem MS.after {X:MX} {W W5:World} {now fst line head:Nat} {v:Value} {D:List Tok} (h:MS X W now fst line head v D) (hg:W.grownBy W5 v.ownBlock) :
  W5.cell? ⟨X.b,6,none⟩=some v/\W5.cell? ⟨X.b,4,none⟩=some (.int .i64 (line:Int))/\W5.frozen? ⟨X.b,6,none⟩=false:=by
 have hb:=(h.grb hg).1;exact ⟨cell_of_row W5 X.b 6 _ _ _ hb,cell_of_row W5 X.b 4 _ _ _ hb,by simp [World.frozen?,hb]⟩
theorem MS.hand {X:MX} (hC:MC X) {W W5:World} {now fst line head:Nat} {v:Value} {D:List Tok} (h:MS X W now fst line head v D) {t:Tok} {g5 c5:Nat}
  (ho:W5.ownsRow X.w0.heap.size 179 4 (.slice (some ⟨g5,0,none⟩) (D.length+1) c5) (D.length+1) (zft D++tcel t)) (hg:W.grownBy W5 v.ownBlock) :
  MS X (W5.setCell ⟨X.b,6,none⟩ (.slice (some ⟨g5,0,none⟩) (D.length+1) c5)) now fst line head (.slice (some ⟨g5,0,none⟩) (D.length+1) c5) (D++[t]):=by
 obtain ⟨hb,hgg,hbel⟩:=h.grb hg;refine ⟨?_,(heap_setCell_other W5 ⟨X.b,6,none⟩ X.g _ h.bg).trans hgg,?_,hbel.setCell (p:=⟨X.b,6,none⟩) hC.bB _⟩
 ·rw [heap_setCell_same W5 X.b 6 _ _ _ hb];rfl
 ·rw [List.length_append,znn]
  exact ownsRow_setCell_other ho (a:=⟨X.b,6,none⟩) (zih ho hb (by decide)) _
set_option maxRecDepth 100000 in
set_option maxHeartbeats 2000000 in
theorem zmt {X:MX} (hC:MC X) {W:World} {now fst line head:Nat} {v:Value} {D:List Tok} (h:MS X W now fst line head v D) (kind:Nat) (t:List UInt8) (ch:Nat) (hh:head<=ch) (hm:ch<=16384) (hD:D.length<=65536) :
  Calls Tryz.prog 157 #[.pointer (some ⟨X.b,0,none⟩),.int .i64 (kind:Int),.string ⟨t.toArray⟩,.int .i64 (ch:Int)] W fun e w'=>e=.returned (.tuple #[])/\∃ v',MS X w' now fst line head v' (D++[(kind,t,line,ch - head+1)]):=by
 obtain ⟨i0,hi,hz0,hz1,hz2⟩:=info_parts info_tok;have hc4:=h.c4;have hc6:=h.c6;have f6:=h.fz 6;have HCol:=zhw h.drew hh hm;have hB:=h.bel.size;obtain ⟨c,hc⟩:=ex (ch - head+1);rw [hc] at HCol ⊢;have hown:=h.own;have hownd:=h.drew.own;obtain ⟨qv,cv,rfl⟩:=zjk hown;have hM:Hid (MS X W now fst line head (.slice qv D.length cv) D):=h;have hbs:X.b < W.heap.size:=zay h.blk;clear hc h hh hm
 go_enter Tryz.func157,Tryz.ntmps157
 go_wp2_with fail
 go_region_law ((first | (refine step_append_lies _ (by rfl) _ _ 175 (by rfl) X.w0.heap.size 179 i0 _ 4 40 Tryz.underlying175 hi hz0 hz1 hz2 rfl (by decide) _ D.length (zft D) (by rfl) (by first | exact hownd.alloc _ | exact hown.alloc _) ⟨W.heap.size,0,none⟩ 1 1 (tcel (kind,t,line,c)) (by rfl) rfl (World.news_of_block (cs:=#[.int .i64 (kind:Int),.string ⟨t.toArray⟩,.int .i64 (line:Int),.int .i64 (c:Int)]) (t:=179) (fr:=(0,0)) (heap_alloc_new _ _)) (by simp [tcel,Value.oneCell']) (by decide) (by unfold maxLen;omega) (by omega) (by simp;omega) _ rfl ?_;intro g5 c5 w5 oB hg5 _ _;obtain ⟨y6,y4,z6⟩:=(MS.drew (MS.alloc hM.out _)).after hg5;clear hc4 hc6) | (go_simp;go_at_call 133;refine HCol.mono ?_;rintro e w1 ⟨rfl,rfl⟩)))
 all_goals
  go_wp2_with fail
  go_end0
  exact ⟨rfl,_,MS.hand hC (MS.drew (MS.alloc hM.out _)) oB hg5⟩
theorem tcels_at (L:List Tok):∀ (k:Nat) (t:Tok),L[k]?=some t->(zft L)[k*4]?=some (.int .i64 (t.1:Int))/\(zft L)[k*4+1]?=some (.string ⟨t.2.1.toArray⟩)/\(zft L)[k*4+2]?=some (.int .i64 (t.2.2.1:Int))/\(zft L)[k*4+3]?=some (.int .i64 (t.2.2.2:Int)):=by
 induction L with
 | nil=>intro k t h;simp at h
 | cons y L ih=>
  intro k t h;cases k with
  | zero=>
   simp at h;subst h;exact ⟨rfl,rfl,rfl,rfl⟩
  | succ k=>
   have:=ih k t (by simpa using h);rw [show (k+1)*4=k*4+4 by omega];exact this
theorem tok_cell {W:World} {B g c:Nat} {D:List Tok} (h:W.ownsRow B 179 4 (.slice (some ⟨g,0,none⟩) D.length c) D.length (zft D)) {k:Nat} {t:Tok} (ht:D[k]?=some t) :
  W.cell? ⟨g,k*4,none⟩=some (.int .i64 (t.1:Int))/\W.cell? ⟨g,k*4+1,none⟩=some (.string ⟨t.2.1.toArray⟩)/\W.cell? ⟨g,k*4+2,none⟩=some (.int .i64 (t.2.2.1:Int))/\W.cell? ⟨g,k*4+3,none⟩=some (.int .i64 (t.2.2.2:Int)):=by
 obtain ⟨h0,h1,h2,h3⟩:=tcels_at D k t ht;have e:∀ m,(⟨g,0,none⟩:Addr).add m=⟨g,m,none⟩:=fun m=>by unfold Addr.add;split <;> simp_all
 have c0:=h.cells rfl _ _ h0;have c1:=h.cells rfl _ _ h1;have c2:=h.cells rfl _ _ h2;have c3:=h.cells rfl _ _ h3;rw [e] at c0 c1 c2 c3;exact ⟨c0,c1,c2,c3⟩
def zlm (D:List Tok) (line col:Nat):List Tok:=match D.getLast? with
 | some t=>if t.1=1 then D else D++[(1,[10],line,col)]
 | none=>D
set_option maxRecDepth 100000 in
set_option maxHeartbeats 2000000 in
theorem zio {X:MX} (hC:MC X) {W:World} {now fst line head:Nat} {v:Value} {D:List Tok} (h:MS X W now fst line head v D) (hh:head<=now) (hm:now<=16384) (hD:D.length<=65536) :
  Calls Tryz.prog 145 #[.pointer (some ⟨X.b,0,none⟩)] W fun e w'=>e=.returned (.tuple #[])/\∃ v',MS X w' now fst line head v' (zlm D line (now - head+1)):=by
 have hM:Hid (MS X W now fst line head v D):=h;have hc6:=h.c6;have hc2:=h.c2;have hown:=h.own
 by_cases h0:D=[]
 ·subst h0
  obtain ⟨qv,cv,rfl⟩:=zjk hown;clear h
  go_enter Tryz.func145,Tryz.ntmps145
  go_wp2_with fail
  go_end0
  exact ⟨rfl,_,hM.out⟩
 ·obtain ⟨D0,t,rfl⟩:∃ D0 t,D=D0++[t]:=⟨D.dropLast,D.getLast h0,(List.dropLast_concat_getLast h0).symm⟩
  have hE:Hid (zlm (D0++[t]) line (now - head+1)=if t.1=1 then D0++[t] else D0++[t]++[(1,[10],line,now - head+1)]):=by unfold Hid zlm;simp
  obtain ⟨g,c,rfl⟩:=zii hown (by simp);have ht:(D0++[t])[D0.length]?=some t:=by simp
  have hx:=(tok_cell hown ht).1;have HH:=zmt hC h 1 [10] now hh hm hD;have hl:(D0++[t]).length=D0.length+1:=by simp
  rw [hE.out];obtain ⟨K,hK⟩:=ex D0.length;rw [hK] at hx hl;rw [hl] at hc6 hD;have k0:(0:Int)<=(K:Int):=by omega
  have k1:(0:Int) < (K:Int)+1:=by omega
  obtain ⟨kd,hkd⟩:=ex t.1;rw [hkd] at hx ⊢
  by_cases h1:kd=1
  ·subst h1
   rw [if_pos rfl];clear h hown ht h0 HH hE hkd
   go_enter Tryz.func145,Tryz.ntmps145
   go_wp2_with fail
   go_end0
   exact ⟨rfl,_,hM.out⟩
  ·have e1:((kd:Int)==1)=false:=by rw [beq_eq_false_iff_ne];omega
   have e2:((kd:Int) != 1)=true:=by rw [bne,e1];rfl
   rw [if_neg h1];clear h hown ht h0 hE hkd
   go_enter Tryz.func145,Tryz.ntmps145
   go_wp2_with fail
   refine HH.mono ?_;rintro e w1 ⟨rfl,v1,h1⟩
   go_wp2_with fail
   go_end0
   exact ⟨rfl,v1,h1⟩
theorem zcs {P:Program} {a:Act} {w:World} {Q:Exit->Act->World->Prop} {c:Code} (J:Nat->Act->World->Prop) (m:Nat->Act->World->Nat)
  (pass:∀ l a w,J l a w->∃ X,findLabel c l=some (.seq .skip X)/\X.wp P (zd9 (fun l' a' w'=>J l' a' w'/\m l' a' w' < m l a w) Q) a w)
  (first:(∀ l a w,J l a w->∃ X,findLabel c l=some (.seq .skip X)/\X.wp P (zd9 J Q) a w)->c.wp P (zd9 J Q) a w):(Code.scope c).wp P Q a w:=
 zh2 J m (first (fun l a w h=>by
  obtain ⟨X,hf,hr⟩:=pass l a w h;refine ⟨X,hf,wp_mono hr ?_⟩;intro e a' w' hq;cases e with
  | goto l'=>exact hq.1
  | normal=>exact hq
  | exit id=>exact hq
  | ret=>exact hq
  | panic ch=>exact hq
  | outgrown=>exact hq)) (fun l a w h=>by
  obtain ⟨X,hf,hr⟩:=pass l a w h;exact ⟨_,hf,wp_seq (wp_skip hr)⟩)
theorem zbo {J:Nat->Act->World->Prop} {Q:Exit->Act->World->Prop} {a:Act} {w:World} (h:Q .ret a w):zd9 J Q .ret a w:=h
theorem bar_iff (l:List UInt8) (j:Nat) (h:j < l.length):(chr l j < 32∨chr l j=127)↔(lo1 l j=true∨bt l j < 32∨bt l j=127):=by
 unfold chr;rw [if_pos h]
 by_cases hb:bt l j < 128
 ·rw [zlf hb,zfp hb]
  simp only [Bool.false_eq_true,if_false,false_or];omega
 ·have:=zm1 hb
  cases lo1 l j with
  | true=>simp
  | false=>simp only [Bool.false_eq_true,if_false,false_or];omega
theorem zrk (l:List UInt8) (j:Nat) (hj:j < l.length) (hb:bt l j=92) (h:0 < (zbj l j).1):(zak l j).drop (zbj l j).1=zak l (j+(zbj l j).1):=by
 have hc0:zak l j=(92,j) :: zak l (j+1):=by rw [zbv hj (by omega),hb];rfl
 have asc:∀ m,j+m < l.length->bt l (j+m) < 128->∃ c,zak l (j+m)=c :: zak l (j+m+1):=fun m h1 h2=>⟨_,zbv h1 h2⟩;have two:j+1 < l.length->bt l (j+1) < 128->(zak l j).drop 2=zak l (j+2):=fun h1 h2=>by
  obtain ⟨c,hc⟩:=asc 1 h1 h2;rw [hc0,hc];rfl
 unfold zbj at h ⊢
 split at h
 ·simp at h
 rename_i g0
 rw [if_neg g0]
 by_cases g1:bt l (j+1)=34
 ·rw [if_pos g1];exact two (by omega) (by omega)
 rw [if_neg g1] at h ⊢
 by_cases g2:bt l (j+1)=92
 ·rw [if_pos g2];exact two (by omega) (by omega)
 rw [if_neg g2] at h ⊢
 by_cases g3:bt l (j+1)=110
 ·rw [if_pos g3];exact two (by omega) (by omega)
 rw [if_neg g3] at h ⊢
 by_cases g4:bt l (j+1)=114
 ·rw [if_pos g4];exact two (by omega) (by omega)
 rw [if_neg g4] at h ⊢
 by_cases g5:bt l (j+1)=116
 ·rw [if_pos g5];exact two (by omega) (by omega)
 rw [if_neg g5] at h ⊢
 by_cases g6:bt l (j+1)=120
 ·rw [if_pos g6] at h ⊢
  have t2:=two (by omega) (by omega);rcases hex2 l j with ⟨h3,a,b,ha,hb,hq⟩ | ⟨hq,hno⟩
  ·rw [if_pos h3,ha,hb]
   have:=zir 2 l (j+2) 0;rw [hq] at this;show (zak l j).drop 4=zak l (j+4);rw [show 4=2+2 by rfl,<-List.drop_drop,t2];exact this
  ·by_cases h3:j+3 < l.length
   ·rw [if_pos h3] at h
    rcases hno h3 with e | e
    ·rw [e] at h;simp at h
    ·rw [e] at h
     revert h
     cases zbu (l.getD (j+2) 0) <;> simp
   ·rw [if_neg h3] at h;simp at h
 rw [if_neg g6] at h ⊢
 by_cases g7:bt l (j+1)=117
 ·rw [if_pos g7] at h ⊢
  have t2:=two (by omega) (by omega)
  by_cases h0:0 < (brS l j).1
  ·rw [if_pos h0]
   show (zak l j).drop (brS l j).1=zak l (j+(brS l j).1);unfold brS at h0 ⊢
   split at h0
   ·simp at h0
   ·split at h0
    ·simp at h0
    ·rename_i k1 k2
     rw [if_neg k1,if_neg k2];have hd:=zir 6 l (j+3) 0;show (zak l j).drop (4+(zan 6 (l.drop (j+3)) 0).1)=zak l (j+(4+(zan 6 (l.drop (j+3)) 0).1));obtain ⟨c2,hc2⟩:=asc 2 (by omega) (by omega);have t3:(zak l j).drop 3=zak l (j+3):=by
      rw [show 3=2+1 by rfl,<-List.drop_drop,t2,hc2];rfl
     obtain ⟨c3,hc3⟩:=asc (3+(zan 6 (l.drop (j+3)) 0).1) (by omega) (by rw [<-Nat.add_assoc];omega);rw [show 4+(zan 6 (l.drop (j+3)) 0).1=3+((zan 6 (l.drop (j+3)) 0).1+1) by omega,<-List.drop_drop,t3,<-List.drop_drop,hd,Nat.add_assoc,hc3];exact congrArg (zak l) (by omega)
  ·rw [if_neg h0] at h;simp at h
 ·rw [if_neg g7] at h;simp at h
theorem zdj (a b:List UInt8):Lib.byteCells (a++b)=Lib.byteCells a++Lib.byteCells b:=by simp [Lib.byteCells]
theorem zi2 (b:List UInt8):∀ u∈Lib.byteCells b,u.oneCell'=true:=by
 intro u hu;obtain ⟨c,_,rfl⟩:=List.mem_map.1 hu;rfl
theorem zl1 {P:Program} {a:Act} {w:World} {R:Exit->Act->World->Prop} {c X:Code} {J:Nat->Act->World->Prop} {l:Nat} (h:∀ a w,J l a w->∃ X,findLabel c l=some (.seq .skip X)/\X.wp P R a w) (hJ:J l a w) (hf:findLabel c l=some (.seq .skip X)):X.wp P R a w:=by
 obtain ⟨Y,hY,hr⟩:=h a w hJ;have e:=Option.some.inj (hf.symm.trans hY);injection e with _ e;rw [e];exact hr
theorem zdw (tmps:Array Value) (W:World) (a b c:Value) (h:tmps.getD 4 undef=a/\tmps.getD 5 undef=b/\tmps.getD 6 undef=c):(results Tryz.f162 tmps).run Tryz.prog W=.ok (.tuple #[a,b,c]) W:=by
 obtain ⟨h1,h2,h3⟩:=h;have h1':tmps[4]?.getD undef=a:=by simpa using h1
 have h2':tmps[5]?.getD undef=b:=by simpa using h2
 have h3':tmps[6]?.getD undef=c:=by simpa using h3
 simp [results,h1',h2',h3',go_sem]
end Go.Proofs.YtmfakcfmkmppfaaGreatDoor
