import Derived.Test.YtmfakcfmkmppfaaGreatDoorVAD
import Derived.BigCall
import Derived.Lib.AppendIntMem
import Derived.Laws.BitsAllLaws
import Derived.Lib.AtoiErrMem
import Derived.RegionIn
import Derived.Lib.ConvBytes
import Derived.Laws.Closers25
import Derived.Laws.Closers25b
import Derived.BigGuard
namespace Go.Proofs.YtmfakcfmkmppfaaGreatDoor
open Go.Shelf Go.RowKit

theorem zqx (n:Int) (h0:-9223372036854775808<=n) (h1:n<=9223372036854775807) (w:World)
  (htab:Lib.TabIs Tryz.prog w "internal/strconv.uint64pow10" .u64 Lib.pow10Tab) :
  Calls Tryz.prog 190 #[.int .i64 n] w fun e w'=>e=.returned (.string ⟨(Lib.itoa n).toArray⟩)/\∃ k os,w'=Sort.grow (w.drewN k) os:=Any.strconv_Itoa Tryz.l171 n h0 h1 w htab
end Go.Proofs.YtmfakcfmkmppfaaGreatDoor
namespace Go.Proofs.YtmfakcfmkmppfaaGreatDoor
open Go.RowKit
theorem zpf {w W:World} (h:Lib.TabIs Tryz.prog w "internal/strconv.uint64pow10" .u64 Lib.pow10Tab) (hb:Below w.heap.size w W):Lib.TabIs Tryz.prog W "internal/strconv.uint64pow10" .u64 Lib.pow10Tab:=by
 unfold Lib.TabIs World.var? at h ⊢;cases hg:Tryz.prog.globalNamed "internal/strconv.uint64pow10" with
 | none=>rw [hg] at h;cases h
 | some g=>
  rw [hg] at h;simp only [Option.bind_some] at h ⊢;cases hw:w.heap[g]? with
  | none=>rw [hw] at h;cases h
  | some o=>rw [zbi hb hw];rw [hw] at h;exact h
theorem zob (w:World) (k:Nat) (os:Array Obj):Below w.heap.size w (Sort.grow (w.drewN k) os):=Lib.below_grow _ w (Nat.le_refl _) k os
theorem itoa_any (n:Nat) (hn:n < 4294967296) (w:World) (htab:Lib.TabIs Tryz.prog w "internal/strconv.uint64pow10" .u64 Lib.pow10Tab) :
  Calls Tryz.prog 190 #[.int .i64 (n:Int)] w fun e w'=>e=.returned (.string ⟨(Lib.decDigits n).toArray⟩)/\Below w.heap.size w w':=
 (zqx n (by omega) (by omega) w htab).mono fun e w' ⟨he,k,os,hw⟩=>⟨by rw [he];unfold Lib.itoa;rw [if_neg (by omega)];rfl,by rw [hw];exact zob w k os⟩
end Go.Proofs.YtmfakcfmkmppfaaGreatDoor
namespace Go.Proofs.YtmfakcfmkmppfaaGreatDoor
open Go.RowKit Go.Shelf
structure VW (w:World):Prop where
 pow:Lib.TabIs Tryz.prog w "internal/strconv.uint64pow10" .u64 Lib.pow10Tab
 syn:∃ tp p,w.var? Tryz.prog "strconv.ErrSyntax" = some #[.iface tp p]
 rng:∃ tp p,w.var? Tryz.prog "strconv.ErrRange" = some #[.iface tp p]
theorem zjf {w W:World} {n:String} {x:Array Value} (h:w.var? Tryz.prog n=some x) (hb:Below w.heap.size w W):W.var? Tryz.prog n=some x:=by
 unfold World.var? at h ⊢;cases hg:Tryz.prog.globalNamed n with
 | none=>rw [hg] at h;cases h
 | some g=>
  rw [hg] at h;simp only [Option.bind_some] at h ⊢;cases hw:w.heap[g]? with
  | none=>rw [hw] at h;cases h
  | some o=>rw [zbi hb hw];rw [hw] at h;exact h
theorem VW.below {w W:World} (h:VW w) (hb:Below w.heap.size w W):VW W:=by
 obtain ⟨h1,⟨t2,p2,h2⟩,⟨t3,p3,h3⟩⟩:=h;exact ⟨zpf h1 hb,⟨t2,p2,zjf h2 hb⟩,⟨t3,p3,zjf h3 hb⟩⟩
theorem atoi_any (l:List UInt8) (w:World) (hs:l.length<=16384) (hv:VW w) :
  Calls Tryz.prog 189 #[.string ⟨l.toArray⟩] w fun e w'=>(∃ (v:Int) (r:Value),e=.returned (.tuple #[.int .i64 v,r])/\((Lib.atoiAll l=.ok v/\r=.nilIface)∨((∀ u,Lib.atoiAll l≠.ok u)/\∃ t p,r=.iface t p)))/\Below w.heap.size w w':=by
 have hz:(ByteArray.mk l.toArray).size=l.length:=by simp [ByteArray.size]
 cases h:Lib.atoiAll l with
 | ok v=>
  refine (Any.strconv_Atoi_ok Tryz.l172 ⟨l.toArray⟩ (by rw [hz];omega) v h w).mono fun e w' ⟨he,hw⟩=>⟨⟨v,.nilIface,he,.inl ⟨rfl,rfl⟩⟩,?_⟩;rcases hw with rfl | ⟨t,rfl⟩
  ·exact Below.refl _ _
  ·exact Lib.bytesWorld_below _ _ _
 | «syntax»=>
  obtain ⟨tp,p,hp⟩:=hv.syn;exact (Any.strconv_Atoi_syntax_var Tryz.l172 ⟨l.toArray⟩ (by rw [hz];omega) h tp p w hp).mono fun e w' ⟨N,he,_,_,hb⟩=>⟨⟨_,_,he,.inr ⟨fun u hu=>(by cases hu),⟨_,_,rfl⟩⟩⟩,hb⟩
 | range=>
  obtain ⟨tp,p,hp⟩:=hv.rng;exact (Any.strconv_Atoi_range_var Tryz.l172 ⟨l.toArray⟩ (by rw [hz];omega) h tp p w hp).mono fun e w' ⟨N,he,_,_,hb⟩=>⟨⟨_,_,he,.inr ⟨fun u hu=>(by cases hu),⟨_,_,rfl⟩⟩⟩,hb⟩
theorem ziu {l:List UInt8} {m:Nat} (hm:m<=4294967295) (h:∀ n:Nat,Lib.atoiAll l=.ok (n:Int)->n<=m->l=Lib.decDigits n->False):zfo l m=none:=by
 cases hd:zfo l m with
 | none=>rfl
 | some n=>
  obtain ⟨h1,h2⟩:=(zm0 l m n (by omega)).1 hd;exact absurd (h n (by rw [h1];exact atoi_dec n (by omega)) h2 h1) id
set_option maxRecDepth 100000 in
theorem ze0 (l:List UInt8) (m:Nat) (w:World) (hs:l.length<=16384) (hm:m<=4294967295) (hv:VW w) :
  Calls Tryz.prog 184 #[.string ⟨l.toArray⟩,.int .i64 (m:Int)] w fun e w'=>(∃ v:Int,e=.returned (.tuple #[.int .i64 v,.bool (zfo l m).isSome])/\∀ n,zfo l m=some n->v=n)/\Below w.heap.size w w':=by
 have HV:Hid (VW w):=hv;have HA:=atoi_any l w hs hv;clear hv
 go_enter Tryz.func184,Tryz.ntmps184
 go_wp2_with fail
 refine HA.mono ?_;rintro e w1 ⟨⟨v,r,rfl,hr⟩,hb1⟩;rcases hr with ⟨ho,rfl⟩ | ⟨hn,t,p,rfl⟩
 ·by_cases h0:0<=v
  ·by_cases h1:v<=(m:Int)
   ·obtain ⟨k,rfl⟩:∃ k:Nat,v=k:=⟨v.toNat,by omega⟩
    go_wp2_with fail
    refine (itoa_any k (by omega) w1 (HV.out.below hb1).pow).mono ?_;rintro e w2 ⟨rfl,hb2⟩
    by_cases hE:Lib.decDigits k=l
    ·have hd:Hid (zfo l m=some k):=by unfold Hid;rw [zm0 _ _ _ (by omega),<-hE];exact ⟨rfl,by omega⟩
     go_wp2
     go_ret2
     rw [hd.out];exact ⟨⟨_,rfl,fun n hn=>by injection hn with hn;rw [hn]⟩,zhx hb1 hb2⟩
    ·have hd:Hid (zfo l m=none):=ziu hm (fun n a b c=>hE (by
      rw [ho] at a;injection a with a;have:k=n:=by omega
      subst this;exact c.symm))
     have hE2:(Lib.decDigits k==l)=false:=beq_eq_false_iff_ne.2 hE
     go_wp2
     go_ret2
     rw [hd.out];exact ⟨⟨_,rfl,fun n hn=>by cases hn⟩,zhx hb1 hb2⟩
   ·have hd:Hid (zfo l m=none):=ziu hm (fun n a b c=>by
     rw [ho] at a;injection a with a;omega)
    go_wp2
    go_ret2
    rw [hd.out];exact ⟨⟨_,rfl,fun n hn=>by cases hn⟩,hb1⟩
  ·have hd:Hid (zfo l m=none):=ziu hm (fun n a b c=>by
    rw [ho] at a;injection a with a;omega)
   go_wp2
   go_ret2
   rw [hd.out];exact ⟨⟨_,rfl,fun n hn=>by cases hn⟩,hb1⟩
 ·have hd:Hid (zfo l m=none):=ziu hm (fun n a b c=>hn _ a)
  go_wp2
  go_ret2
  rw [hd.out];exact ⟨⟨_,rfl,fun n hn=>by cases hn⟩,hb1⟩
theorem zaj {W:World} {b c p:Nat} {v:Value} {o:Obj} (h:W.heap[c]?=some o) (hne:c≠b):(W.setCell ⟨b,p,none⟩ v).heap[c]?=some o:=(Below.heap_setCell _ _ _ _ (by exact hne)).trans h
theorem zas {W:World} {b c:Nat} {o o':Obj} (h:W.heap[c]?=some o) (hne:c≠b):(W.putObj b o').heap[c]?=some o:=(World.putObj_heap_other hne).trans h
theorem zb2 {W:World} {b T:Nat} {m:Nat×Nat} {x:Value} (v:Value) (h:W.heap[b]?=some (.cells #[x] T m)):(W.setCell ⟨b,0,none⟩ v).heap[b]?=some (.cells #[v] T m):=by
 simp only [World.setCell,Array.getElem?_modify,if_pos,h,Option.map_some];simp
theorem zi5 {B:Nat} {w W W':World} {row:Option Nat} (hB:Below B w W) (hg:W.grownBy W' row) (h1:B<=W.heap.size) (h:∀ k,row=some k->B<=k):Below B w W':=hB.grown hg h1 h
theorem zid (tmps:Array Value) (W:World) (b b2:Nat) (v:Int) (x:Bool) {m m2:Nat×Nat} (hp:tmps.getD 2 undef=.pointer (some ⟨b,0,none⟩)) (hp2:tmps.getD 3 undef=.pointer (some ⟨b2,0,none⟩)) (h:W.heap[b]?=some (.cells #[.int .i64 v] 3 m)) (h2:W.heap[b2]?=some (.cells #[.bool x] 4 m2)) :
  (results Tryz.f183 tmps).run Tryz.prog W=.ok (.tuple #[.int .i64 v,.bool x]) W:=by
 have hc:∀ j,W.cell? ⟨b,j,none⟩=(#[.int .i64 v]:Array Value)[j]?:=by
  intro j;unfold World.cell?;rw [h];simp
 have hc2:∀ j,W.cell? ⟨b2,j,none⟩=(#[.bool x]:Array Value)[j]?:=by
  intro j;unfold World.cell?;rw [h2];simp
 have hp':tmps[2]?.getD undef=.pointer (some ⟨b,0,none⟩):=by simpa using hp
 have hp2':tmps[3]?.getD undef=.pointer (some ⟨b2,0,none⟩):=by simpa using hp2
 simp [results,hp',hp2',go_sem,hc,hc2]
theorem zd5 {w W:World} {S:Nat} (hS:w.heap.size=S) (h:Below S w W) (k:Nat) (hk:S<=k):Below w.heap.size w (W.putObj k (.deferred none)):=by
 subst hS;exact zi5 h (grownBy_putObj' W k _) h.size (fun x e=>by cases e;exact hk)
structure QS (w:World) (S:Nat) (vv pp:Int) (r:List UInt8) (lo:Loop) (W:World):Prop where
 a0:W.heap[S]?=some (.cells #[.int .i64 0] 3 (0,0))
 a1:W.heap[S+1]?=some (.cells #[.bool false] 4 (0,0))
 a2:W.heap[S+1+1]?=some (.cells #[.int .i64 vv] 3 (0,0))
 a3:W.heap[S+1+1+1]?=some (.cells #[.int .i64 pp] 3 (0,0))
 a4:W.heap[S+1+1+1+1]?=some (.cells #[.string ⟨r.toArray⟩] 9 (0,0))
 a5:W.heap[S+1+1+1+1+1]?=some (.cells #[.string ⟨#[46]⟩] 9 (0,0))
 a6:W.heap[S+1+1+1+1+1+1]?=some (.cells #[.int .i64 0] 3 (0,0))
 a7:W.heap[S+1+1+1+1+1+1+1]?=some (.deferred (some []))
 a8:W.heap[S+1+1+1+1+1+1+1+1]?=some (.loop lo)
 be:Below S w W
 sz:w.heap.size=S
theorem QS.below {w W X:World} {S:Nat} {vv pp:Int} {r:List UInt8} {lo:Loop} (h:QS w S vv pp r lo W) (hb:Below W.heap.size W X):QS w S vv pp r lo X:=
 ⟨zbi hb h.a0,zbi hb h.a1,zbi hb h.a2,zbi hb h.a3,zbi hb h.a4,zbi hb h.a5,zbi hb h.a6,zbi hb h.a7,zbi hb h.a8,by have:=h.be;rw [<-h.sz] at this ⊢;exact zhx this hb,h.sz⟩
theorem QS.loop {w W:World} {S:Nat} {vv pp:Int} {r:List UInt8} {lo:Loop} (h:QS w S vv pp r lo W) (lo':Loop):QS w S vv pp r lo' (W.putObj (S+1+1+1+1+1+1+1+1) (.loop lo')):=
 ⟨zas h.a0 (by omega),zas h.a1 (by omega),zas h.a2 (by omega),zas h.a3 (by omega),zas h.a4 (by omega),zas h.a5 (by omega),zas h.a6 (by omega),zas h.a7 (by omega),World.putObj_heap_same (zay h.a8),
  zi5 h.be (grownBy_putObj' W _ _) (by rw [<-h.sz];exact h.sz ▸ h.be.size) (fun x e=>by cases e;omega),h.sz⟩
theorem QS.setv {w W:World} {S:Nat} {vv pp:Int} {r:List UInt8} {lo:Loop} (h:QS w S vv pp r lo W) (x:Int):QS w S x pp r lo (W.setCell ⟨S+1+1,0,none⟩ (.int .i64 x)):=
 ⟨zaj h.a0 (by omega),zaj h.a1 (by omega),zb2 _ h.a2,zaj h.a3 (by omega),zaj h.a4 (by omega),zaj h.a5 (by omega),zaj h.a6 (by omega),zaj h.a7 (by omega),zaj h.a8 (by omega),h.be.setCell (p:=⟨S+1+1,0,none⟩) (by show S<=S+1+1;omega) _,h.sz⟩
theorem QS.setp {w W:World} {S:Nat} {vv pp:Int} {r:List UInt8} {lo:Loop} (h:QS w S vv pp r lo W) (x:Int):QS w S vv x r lo (W.setCell ⟨S+1+1+1,0,none⟩ (.int .i64 x)):=
 ⟨zaj h.a0 (by omega),zaj h.a1 (by omega),zaj h.a2 (by omega),zb2 _ h.a3,zaj h.a4 (by omega),zaj h.a5 (by omega),zaj h.a6 (by omega),zaj h.a7 (by omega),zaj h.a8 (by omega),h.be.setCell (p:=⟨S+1+1+1,0,none⟩) (by show S<=S+1+1+1;omega) _,h.sz⟩
theorem QS.sets {w W:World} {S:Nat} {vv pp:Int} {r:List UInt8} {lo:Loop} (h:QS w S vv pp r lo W) (x:List UInt8):QS w S vv pp x lo (W.setCell ⟨S+1+1+1+1,0,none⟩ (.string ⟨x.toArray⟩)):=
 ⟨zaj h.a0 (by omega),zaj h.a1 (by omega),zaj h.a2 (by omega),zaj h.a3 (by omega),zb2 _ h.a4,zaj h.a5 (by omega),zaj h.a6 (by omega),zaj h.a7 (by omega),zaj h.a8 (by omega),h.be.setCell (p:=⟨S+1+1+1+1,0,none⟩) (by show S<=S+1+1+1+1;omega) _,h.sz⟩
theorem QS.same0 {w W:World} {S:Nat} {vv pp:Int} {r:List UInt8} {lo:Loop} (h:QS w S vv pp r lo W):QS w S vv pp r lo ((W.setCell ⟨S,0,none⟩ (.int .i64 0)).setCell ⟨S+1,0,none⟩ (.bool false)):=
 ⟨zaj (zb2 _ h.a0) (by omega),zb2 _ (zaj h.a1 (by omega)),zaj (zaj h.a2 (by omega)) (by omega),zaj (zaj h.a3 (by omega)) (by omega),zaj (zaj h.a4 (by omega)) (by omega),zaj (zaj h.a5 (by omega)) (by omega),zaj (zaj h.a6 (by omega)) (by omega),zaj (zaj h.a7 (by omega)) (by omega),zaj (zaj h.a8 (by omega)) (by omega),(h.be.setCell (p:=⟨S,0,none⟩) (Nat.le_refl _) _).setCell (p:=⟨S+1,0,none⟩) (by show S<=S+1;omega) _,h.sz⟩

theorem QS_start (w:World) (S:Nat) (l:List UInt8) (R:Loop) (hS:w.heap.size=S):QS w S 0 0 l R (((((((((w.alloc (.cells #[.int .i64 0] 3)).alloc (.cells #[.bool false] 4)).alloc (.cells #[.int .i64 0] 3)).alloc (.cells #[.int .i64 0] 3)).alloc (.cells #[.string ⟨l.toArray⟩] 9)).alloc (.cells #[.string ⟨#[46]⟩] 9)).alloc (.cells #[.int .i64 0] 3)).alloc (.deferred (some []))).alloc (.loop R)):=by
 subst hS;obtain ⟨w1,e1⟩:=ex (w.alloc (.cells #[.int .i64 0] 3));have z1:w1.heap.size=w.heap.size+1:=by rw [<-e1];simp
 obtain ⟨w2,e2⟩:=ex (w1.alloc (.cells #[.bool false] 4));have z2:w2.heap.size=w.heap.size+1+1:=by rw [<-e2];simp [z1]
 obtain ⟨w3,e3⟩:=ex (w2.alloc (.cells #[.int .i64 0] 3));have z3:w3.heap.size=w.heap.size+1+1+1:=by rw [<-e3];simp [z2]
 obtain ⟨w4,e4⟩:=ex (w3.alloc (.cells #[.int .i64 0] 3));have z4:w4.heap.size=w.heap.size+1+1+1+1:=by rw [<-e4];simp [z3]
 obtain ⟨w5,e5⟩:=ex (w4.alloc (.cells #[.string ⟨l.toArray⟩] 9));have z5:w5.heap.size=w.heap.size+1+1+1+1+1:=by rw [<-e5];simp [z4]
 obtain ⟨w6,e6⟩:=ex (w5.alloc (.cells #[.string ⟨#[46]⟩] 9));have z6:w6.heap.size=w.heap.size+1+1+1+1+1+1:=by rw [<-e6];simp [z5]
 obtain ⟨w7,e7⟩:=ex (w6.alloc (.cells #[.int .i64 0] 3));have z7:w7.heap.size=w.heap.size+1+1+1+1+1+1+1:=by rw [<-e7];simp [z6]
 obtain ⟨w8,e8⟩:=ex (w7.alloc (.deferred (some [])));have z8:w8.heap.size=w.heap.size+1+1+1+1+1+1+1+1:=by rw [<-e8];simp [z7]
 rw [e1,e2,e3,e4,e5,e6,e7,e8];have k1:w1.heap[w.heap.size]?=some (.cells #[.int .i64 0] 3 (0,0)):=by rw [<-e1];exact zam _ _
 have k2:w2.heap[w.heap.size+1]?=some (.cells #[.bool false] 4 (0,0)):=by rw [<-e2,<-z1];exact zam _ _
 have k3:w3.heap[w.heap.size+1+1]?=some (.cells #[.int .i64 0] 3 (0,0)):=by rw [<-e3,<-z2];exact zam _ _
 have k4:w4.heap[w.heap.size+1+1+1]?=some (.cells #[.int .i64 0] 3 (0,0)):=by rw [<-e4,<-z3];exact zam _ _
 have k5:w5.heap[w.heap.size+1+1+1+1]?=some (.cells #[.string ⟨l.toArray⟩] 9 (0,0)):=by rw [<-e5,<-z4];exact zam _ _
 have k6:w6.heap[w.heap.size+1+1+1+1+1]?=some (.cells #[.string ⟨#[46]⟩] 9 (0,0)):=by rw [<-e6,<-z5];exact zam _ _
 have k7:w7.heap[w.heap.size+1+1+1+1+1+1]?=some (.cells #[.int .i64 0] 3 (0,0)):=by rw [<-e7,<-z6];exact zam _ _
 have k8:w8.heap[w.heap.size+1+1+1+1+1+1+1]?=some (.deferred (some [])):=by rw [<-e8,<-z7];exact zam _ _
 have k9:(w8.alloc (.loop R)).heap[w.heap.size+1+1+1+1+1+1+1+1]?=some (.loop R):=by rw [<-z8];exact zam _ _
 have t2:∀ b o,w1.heap[b]?=some o->w2.heap[b]?=some o:=fun b o h=>by rw [<-e2];exact zax h _
 have t3:∀ b o,w2.heap[b]?=some o->w3.heap[b]?=some o:=fun b o h=>by rw [<-e3];exact zax h _
 have t4:∀ b o,w3.heap[b]?=some o->w4.heap[b]?=some o:=fun b o h=>by rw [<-e4];exact zax h _
 have t5:∀ b o,w4.heap[b]?=some o->w5.heap[b]?=some o:=fun b o h=>by rw [<-e5];exact zax h _
 have t6:∀ b o,w5.heap[b]?=some o->w6.heap[b]?=some o:=fun b o h=>by rw [<-e6];exact zax h _
 have t7:∀ b o,w6.heap[b]?=some o->w7.heap[b]?=some o:=fun b o h=>by rw [<-e7];exact zax h _
 have t8:∀ b o,w7.heap[b]?=some o->w8.heap[b]?=some o:=fun b o h=>by rw [<-e8];exact zax h _
 have t9:∀ b o,w8.heap[b]?=some o->(w8.alloc (.loop R)).heap[b]?=some o:=fun b o h=>zax h _;refine ⟨t9 _ _ (t8 _ _ (t7 _ _ (t6 _ _ (t5 _ _ (t4 _ _ (t3 _ _ (t2 _ _ k1))))))),t9 _ _ (t8 _ _ (t7 _ _ (t6 _ _ (t5 _ _ (t4 _ _ (t3 _ _ k2)))))),t9 _ _ (t8 _ _ (t7 _ _ (t6 _ _ (t5 _ _ (t4 _ _ k3))))),t9 _ _ (t8 _ _ (t7 _ _ (t6 _ _ (t5 _ _ k4)))),t9 _ _ (t8 _ _ (t7 _ _ (t6 _ _ k5))),t9 _ _ (t8 _ _ (t7 _ _ k6)),t9 _ _ (t8 _ _ k7),t9 _ _ k8,k9,?_,rfl⟩;have b0:Below w.heap.size w w:=Below.refl _ _;have b1:=b0.alloc (Nat.le_refl _) (.cells #[.int .i64 0] 3);rw [e1] at b1;have b2:=b1.alloc (by omega) (.cells #[.bool false] 4);rw [e2] at b2;have b3:=b2.alloc (by omega) (.cells #[.int .i64 0] 3);rw [e3] at b3;have b4:=b3.alloc (by omega) (.cells #[.int .i64 0] 3);rw [e4] at b4;have b5:=b4.alloc (by omega) (.cells #[.string ⟨l.toArray⟩] 9);rw [e5] at b5;have b6:=b5.alloc (by omega) (.cells #[.string ⟨#[46]⟩] 9);rw [e6] at b6;have b7:=b6.alloc (by omega) (.cells #[.int .i64 0] 3);rw [e7] at b7;have b8:=b7.alloc (by omega) (.deferred (some []));rw [e8] at b8;exact b8.alloc (by omega) _

def QJ (w:World) (S:Nat) (l:List UInt8) (R:Loop) (r:List UInt8) (W:World):Prop:=
 ∃ (cnt:Nat) (v:Int),QS w S v cnt r R W/\r.length<=16384/\cnt+(zau r).length=(zau l).length/\((zau l).length=4->∃ m:Nat,v=m/\m < 256 ^ cnt/\zdl m (zau r)=zdl 0 (zau l))
def QX (w:World) (S:Nat) (l:List UInt8) (W:World):Prop:=
 zd7 3 0 l=none/\∃ v p r lo,QS w S v p r lo W/\lo.state=.done/\lo.pending=some .ret
def QE (w:World) (S:Nat) (l:List UInt8) (R:Loop) (W:World):Prop:=
 QX w S l W∨∃ (v:Int) (r:List UInt8),QS w S v ((zau l).length:Int) r R W/\((zau l).length=4->∃ m:Nat,v=m/\zdl 0 (zau l)=some m)
attribute [local go_sem] Oper.semAt_some
set_option maxRecDepth 100000 in
set_option maxHeartbeats 2000000 in
theorem znt (l:List UInt8) (w:World) (hs:l.length<=16384) (hv0:VW w) :
  Calls Tryz.prog 183 #[.string ⟨l.toArray⟩] w fun e w'=>(∃ v:Int,e=.returned (.tuple #[.int .i64 v,.bool (zd7 3 0 l).isSome])/\∀ n,zd7 3 0 l=some n->v=n)/\Below w.heap.size w w':=by
 have hv:Hid (VW w):=hv0;clear hv0;refine (callsIn_wide (n:=4)).1 ?_;refine callsIn_of_wp_marks Tryz.func183 rfl trivial ?_ rfl;simp only [Tryz.ntmps183,List.size_toArray,List.length_cons,List.length_nil,Nat.reduceAdd,Nat.reduceSub,Array.replicate_succ,Array.replicate_zero,List.push_toArray,List.append_toArray,List.nil_append,List.cons_append]
 gi_wp2_with (refine ⟨trivial,?_⟩;gi_at_call 167;refine (callsIn_wide.2 (zeg l _)).mono ?_;rintro e w' ⟨rfl,rfl⟩)
 refine zfy rfl (by omega) (gf:=178) (lb:=#[.pointer (some ⟨w.heap.size+1+1+1+1+1,0,none⟩),.pointer (some ⟨w.heap.size+1+1+1+1,0,none⟩),.pointer (some ⟨w.heap.size+1+1+1+1+1+1,0,none⟩)]) rfl trivial (enters_of Tryz.func178 (by kernel_rfl) rfl) ?_;intro fn hfn;obtain ⟨S,hS⟩:=ex w.heap.size;have Hs:Hid (w.heap.size=S):=hS;simp only [World.size_alloc,hS];generalize hR:zb7 fn _ _ _ _ _=R;have rs:R.state=.ready:=by rw [<-hR];rfl
 have rp:R.pending=none:=by rw [<-hR];rfl
 have rf:R.fn=fn:=by rw [<-hR];rfl
 have rq:R.params=#[11]:=by rw [<-hR];rfl
 have q0:=QS_start w S l R hS;obtain ⟨W0,hW0⟩:=ex ((((((((((w.alloc (.cells #[.int .i64 0] 3)).alloc (.cells #[.bool false] 4)).alloc (.cells #[.int .i64 0] 3)).alloc (.cells #[.int .i64 0] 3)).alloc (.cells #[.string ⟨l.toArray⟩] 9)).alloc (.cells #[.string ⟨#[46]⟩] 9)).alloc (.cells #[.int .i64 0] 3)).alloc (.deferred (some []))).alloc (.loop R)));rw [hW0] at q0;have hpl:(zau l).length<=16385:=zqc 16384 l hs;have HB:∀ (p:List UInt8) (ps:List (List UInt8)) (r:List UInt8) (cnt:Nat) (v:Int) (W:World),QS w S v cnt r R W->p.length<=16384->cnt+(ps.length+1)=(zau l).length->((zau l).length=4->∃ m:Nat,v=m/\m < 256 ^ cnt/\zdl m (p :: ps)=zdl 0 (zau l))->
   YieldAt Fence.wide (4 - 1 - 1) Tryz.prog (S+1+1+1+1+1+1+1+1) #[.string ⟨p.toArray⟩] W fun e W'=>(e=.returned (.bool true)/\∃ v':Int,QS w S v' ((cnt+1:Nat):Int) r R W'/\((zau l).length=4->∃ m:Nat,v'=m/\m < 256 ^ (cnt+1)/\zdl m ps=zdl 0 (zau l)))∨(e=.returned (.bool false)/\QX w S l W'):=by
  intro p ps r cnt v W q hp hc hf;have qb:=q.loop { R with state:=.busy };refine (zic (F:=Fence.wide) (m:=4 - 1 - 1) (In:=fun W'=>∃ v':Int,QS w S v' ((cnt+1:Nat):Int) r R W'/\((zau l).length=4->∃ m:Nat,v'=m/\m < 256 ^ (cnt+1)/\zdl m ps=zdl 0 (zau l))) (Out:=fun _ W'=>QX w S l W') (by rw [rf];exact hfn) q.a8 rs rp (by rw [rq];rfl) ?a1 ?has ?hb).mono ?_
  case has=>
   intro K hK;rw [congrArg Loop.assign hR.symm,rq,congrArg Loop.tmps hR.symm];simp only [zb7]
   gi_wp2
   exact hK
  case hb=>
   obtain ⟨V,hV⟩:∃ V,W.putObj (S+1+1+1+1+1+1+1+1) (.loop { R with state:=.busy })=V:=⟨_,rfl⟩;rw [hV] at qb ⊢;rw [congrArg Loop.body hR.symm];simp only [zb7];clear hV;have HV2:VW V:=hv.out.below (by have:=qb.be;rw [<-Hs.out] at this;exact this);have HD:=ze0 p 255 V hp (by omega) HV2;cases hd:zfo p 255 with
   | none=>
    have HQ:Hid (zd7 3 0 l=none):=zp2 (fun h4=>by obtain ⟨m,_,_,he⟩:=hf h4;rw [<-he,zdl,hd]);rw [hd] at HD;clear hf hd
    gi_wp2_with (refine ⟨trivial,?_⟩;gi_at_call 184;refine (CallsIn.inRound _ (callsIn_wide.2 HD)).mono ?_;rintro e V2 ⟨⟨v1,rfl,hv1⟩,hb2⟩;have q2:=qb.below hb2;have c0:=zaz q2.a0;have f0:=zb3 q2.a0;have c1:=zaz q2.a1;have f1:=zb3 q2.a1)
    have q3:=q2.same0;exact ⟨q3.a8,HQ.out,_,_,_,_,q3.loop _,rfl,rfl⟩
   | some x=>
    have hx:=decN_le hd;rw [hd] at HD
    gi_wp2_with (refine ⟨trivial,?_⟩;gi_at_call 184;refine (CallsIn.inRound _ (callsIn_wide.2 HD)).mono ?_;rintro e V2 ⟨⟨v1,rfl,hv1⟩,hb2⟩;have q2:=qb.below hb2;have c2:=zaz q2.a2;have f2:=zb3 q2.a2;have c3:=zaz q2.a3;have f3:=zb3 q2.a3)
    have q3:=(q2.setv (bits BinOp.or IntKind.i64 (wrap64 (v*256)) (x:Int))).setp ((cnt:Int)+1);have hcast:((cnt+1:Nat):Int)=(cnt:Int)+1:=by omega
    refine ⟨q3.a8,bits BinOp.or IntKind.i64 (wrap64 (v*256)) (x:Int),by rw [hcast];exact q3.loop R,fun h4=>?_⟩;obtain ⟨m,rfl,hm,he⟩:=hf h4;have hm2:m < 16777216:=Nat.lt_of_lt_of_le hm (Nat.pow_le_pow_right (j:=3) (show 256 > 0 by decide) (by omega));exact ⟨256*m+x,shl_or m x hm2 hx,by rw [Nat.pow_succ];omega,by rw [<-he,zdl,hd]⟩
  rintro e W' h;rcases h with ⟨he,h⟩ | ⟨he,c,h⟩
  ·exact .inl ⟨he,h⟩
  ·exact .inr ⟨he,h⟩
 have hgo:CallsIn Fence.wide (4 - 1) Tryz.prog 178 #[.func (.yield (S+1+1+1+1+1+1+1+1)) #[] #[],.pointer (some ⟨S+1+1+1+1+1,0,none⟩),.pointer (some ⟨S+1+1+1+1,0,none⟩),.pointer (some ⟨S+1+1+1+1+1+1,0,none⟩)] W0 fun e W'=>(∃ v,e=.returned v)/\(QX w S l W'∨QE w S l R W'):=by
  refine zh9 (4 - 1) (by omega) (S+1+1+1+1+1+1+1+1) (S+1+1+1+1) (QJ w S l R) (QX w S l) (QE w S l R) ?hbox ?hY1 ?hY2 l W0 ⟨0,0,q0,hs,by omega,fun _=>⟨0,rfl,by decide,rfl⟩⟩
  case hbox=>
   rintro r W ⟨cnt,v,q,hr,_,_⟩;exact ⟨q.a4,q.a5,q.a6,hr⟩
  case hY1=>
   rintro r W i ⟨cnt,v,q,hr,hc,hf⟩ hi;rw [zc2 hi] at hc hf;refine (HB (r.take i) (zau (r.drop (i+1))) r cnt v W q (by simp;omega) hc hf).mono ?_;rintro e W' (⟨he,v',q',hf'⟩ | ⟨he,hx⟩)
   ·refine .inl ⟨he,q'.a4,q'.a5,cnt+1,v',q'.sets _,by simp;omega,?_,hf'⟩
    simp only [List.length_cons] at hc;omega
   ·exact .inr ⟨he,hx⟩
  case hY2=>
   rintro r W ⟨cnt,v,q,hr,hc,hf⟩ hi;rw [zc3 hi] at hc hf;refine (HB r [] r cnt v W q hr hc hf).mono ?_;rintro e W' (⟨he,v',q',hf'⟩ | ⟨he,hx⟩)
   ·refine ⟨⟨_,he⟩,.inr ⟨v',r,?_,fun h4=>?_⟩⟩
    ·have:cnt+1=(zau l).length:=hc
     rw [<-this];exact q'
    ·obtain ⟨m,h1,_,h3⟩:=hf' h4
     exact ⟨m,h1,h3.symm⟩
   ·exact ⟨⟨_,he⟩,.inl hx⟩
 rw [hW0];refine hgo.mono ?_;rintro e W ⟨hv1,hJ⟩;refine ⟨hv1,?_⟩;have hJ2:QX w S l W∨∃ (v:Int) (r:List UInt8),QS w S v ((zau l).length:Int) r R W/\((zau l).length=4->∃ m:Nat,v=m/\zdl 0 (zau l)=some m):=by
  rcases hJ with h | h
  ·exact .inl h
  ·exact h
 rcases hJ2 with ⟨hq,v,p,r,lo,q,h1,h2⟩ | ⟨v,r,q,hf⟩
 ·refine ⟨lo,q.a8,(fun e=>by rw [h1] at e;cases e),.inr ⟨_,h2,?_⟩⟩
  have q2:=q.loop { lo with state:=.exhausted };have HQ:Hid (zd7 3 0 l=none):=hq;obtain ⟨V,hV⟩:∃ V,W.putObj (S+1+1+1+1+1+1+1+1) (.loop { lo with state:=.exhausted })=V:=⟨_,rfl⟩;rw [hV] at q2 ⊢;clear hV hq;have c0:=zaz q2.a0;have c1:=zaz q2.a1
  gi_wp2
  refine ⟨by simp,.inl ⟨_,_,rfl,run_takeDeferred q2.a7,?_⟩⟩;refine ⟨_,zid _ _ S (S+1) 0 false rfl rfl (zas q2.a0 (by omega)) (zas q2.a1 (by omega)),⟨0,?_,?_⟩,zd5 Hs.out q2.be _ (by omega)⟩
  ·rw [HQ.out];rfl
  ·intro n hn;rw [HQ.out] at hn;cases hn
 ·refine ⟨R,q.a8,(fun e=>by rw [rs] at e;cases e),.inl ⟨rp,?_⟩⟩
  have q2:=q.loop { R with state:=.exhausted };obtain ⟨V,hV⟩:∃ V,W.putObj (S+1+1+1+1+1+1+1+1) (.loop { R with state:=.exhausted })=V:=⟨_,rfl⟩;rw [hV] at q2 ⊢;clear hV;have c0:=zaz q2.a0;have c1:=zaz q2.a1;have c2:=zaz q2.a2;have c3:=zaz q2.a3;have f0:=zb3 q2.a0;have f1:=zb3 q2.a1
  by_cases h4:(zau l).length=4
  ·obtain ⟨m,rfl,hm⟩:=hf h4
   have HQ:Hid (zd7 3 0 l=some m):=by unfold Hid;rw [zeh,if_pos h4,hm]
   rw [h4] at c3;clear hf h4 hm
   gi_wp2
   gi_region
   gi_wp2
   have k7:((V.setCell ⟨S,0,none⟩ (.int .i64 (m:Int))).setCell ⟨S+1,0,none⟩ (.bool true)).drew.heap[S+1+1+1+1+1+1+1]?=some (.deferred (some [])):=zaj (zaj q2.a7 (by omega)) (by omega);have k0:((V.setCell ⟨S,0,none⟩ (.int .i64 (m:Int))).setCell ⟨S+1,0,none⟩ (.bool true)).drew.heap[S]?=some (.cells #[.int .i64 (m:Int)] 3 (0,0)):=zaj (zb2 _ q2.a0) (by omega);have k1:((V.setCell ⟨S,0,none⟩ (.int .i64 (m:Int))).setCell ⟨S+1,0,none⟩ (.bool true)).drew.heap[S+1]?=some (.cells #[.bool true] 4 (0,0)):=zb2 _ (zaj q2.a1 (by omega));have kb:Below S w ((V.setCell ⟨S,0,none⟩ (.int .i64 (m:Int))).setCell ⟨S+1,0,none⟩ (.bool true)).drew:=((q2.be.setCell (p:=⟨S,0,none⟩) (Nat.le_refl _) _).setCell (p:=⟨S+1,0,none⟩) (by show S<=S+1;omega) _).drew;refine ⟨by simp,.inl ⟨_,_,rfl,run_takeDeferred k7,?_⟩⟩;refine ⟨_,zid _ _ S (S+1) (m:Int) true rfl rfl (zas k0 (by omega)) (zas k1 (by omega)),⟨(m:Int),?_,?_⟩,zd5 Hs.out kb _ (by omega)⟩
   ·rw [HQ.out];rfl
   ·intro n hn;rw [HQ.out] at hn;injection hn with hn;rw [hn]
  ·have HQ:Hid (zd7 3 0 l=none):=by unfold Hid;rw [zeh,if_neg h4]
   obtain ⟨N,hN⟩:=ex ((zau l).length);rw [hN] at c3 h4;have hne:((N:Int)==4)=false:=by rw [beq_eq_false_iff_ne];omega
   clear hf hN
   gi_wp2
   gi_region
   gi_wp2
   have k7:((V.setCell ⟨S,0,none⟩ (.int .i64 v)).setCell ⟨S+1,0,none⟩ (.bool false)).drew.heap[S+1+1+1+1+1+1+1]?=some (.deferred (some [])):=zaj (zaj q2.a7 (by omega)) (by omega);have k0:((V.setCell ⟨S,0,none⟩ (.int .i64 v)).setCell ⟨S+1,0,none⟩ (.bool false)).drew.heap[S]?=some (.cells #[.int .i64 v] 3 (0,0)):=zaj (zb2 _ q2.a0) (by omega);have k1:((V.setCell ⟨S,0,none⟩ (.int .i64 v)).setCell ⟨S+1,0,none⟩ (.bool false)).drew.heap[S+1]?=some (.cells #[.bool false] 4 (0,0)):=zb2 _ (zaj q2.a1 (by omega));have kb:Below S w ((V.setCell ⟨S,0,none⟩ (.int .i64 v)).setCell ⟨S+1,0,none⟩ (.bool false)).drew:=((q2.be.setCell (p:=⟨S,0,none⟩) (Nat.le_refl _) _).setCell (p:=⟨S+1,0,none⟩) (by show S<=S+1;omega) _).drew;refine ⟨by simp,.inl ⟨_,_,rfl,run_takeDeferred k7,?_⟩⟩;refine ⟨_,zid _ _ S (S+1) v false rfl rfl (zas k0 (by omega)) (zas k1 (by omega)),⟨v,?_,?_⟩,zd5 Hs.out kb _ (by omega)⟩
   ·rw [HQ.out];rfl
   ·intro n hn;rw [HQ.out] at hn;cases hn
end Go.Proofs.YtmfakcfmkmppfaaGreatDoor
namespace Go.Proofs.YtmfakcfmkmppfaaGreatDoor
open Go.RowKit
def zhq (l:List UInt8):Option Nat:=
 if 0<=Lib.indexByte l 46 then zd7 3 0 l
 else if (3<=l.length/\l.length<=10)/\l.take 2=[48,120] then zaw 16 zbu (l.drop 2) 0
 else if (3<=l.length/\l.length<=34)/\l.take 2=[48,98] then zaw 2 zcr (l.drop 2) 0
 else zfo l 4294967295
theorem zd1 {b:Nat} {D:UInt8->Option Nat} {l:List UInt8} {k:Nat} {c:UInt8} {d:Nat} (h:l[k]?=some c) (hD:D c=some d) (m:Nat):zaw b D (l.drop k) m=zaw b D (l.drop (k+1)) (b*m+d):=by
 obtain ⟨hk,rfl⟩:=List.getElem?_eq_some_iff.1 h;rw [List.drop_eq_getElem_cons hk,zaw,hD]
theorem zat {b:Nat} {D:UInt8->Option Nat} {l:List UInt8} {k:Nat} {c:UInt8} (h:l[k]?=some c) (hD:D c=none) (m:Nat):zaw b D (l.drop k) m=none:=by
 obtain ⟨hk,rfl⟩:=List.getElem?_eq_some_iff.1 h;rw [List.drop_eq_getElem_cons hk,zaw,hD]
theorem zj5 (b:Nat) (D:UInt8->Option Nat) (l:List UInt8) (m:Nat):zaw b D (l.drop l.length) m=some m:=by rw [List.drop_length];rfl
theorem binD_or {c:UInt8} {d:Nat} (h:zcr c=some d):(c=48/\d=0)∨(c=49/\d=1):=by
 unfold zcr at h
 split at h
 ·exact .inl ⟨by assumption,(Option.some.inj h).symm⟩
 ·split at h
  ·exact .inr ⟨by assumption,(Option.some.inj h).symm⟩
  ·cases h
def valV (l:List UInt8):Int:=if 16384 < l.length then 0 else match zhq l with
 | some v=>v
 | none=>0
def znl (l:List UInt8):Int:=if 16384 < l.length then 2 else match zhq l with
 | some _=>0
 | none=>31
theorem zjw (x:Int) (w:World):Calls Tryz.prog 197 #[.int .u8 x] w fun e w'=>e=.returned (.int .u8 (bits .or .u8 x 32))/\w'=w:=by
 go_enter Tryz.func197,Tryz.ntmps197
 go_wp2
 go_ret
 exact ⟨rfl,rfl⟩
theorem zqt (c:UInt8):∃ lo:Nat,bits .or .u8 (c.toNat:Int) 32=(lo:Int)/\lo < 256/\((48<=c.toNat/\c.toNat<=57/\zbu c=some (c.toNat - 48))∨(¬(48<=c.toNat/\c.toNat<=57)/\97<=lo/\lo<=102/\zbu c=some (lo - 87))∨(¬(48<=c.toNat/\c.toNat<=57)/\103<=lo/\lo<=122/\zbu c=none)∨(¬(48<=c.toNat/\c.toNat<=57)/\(lo < 97∨122 < lo)/\zbu c=none)):=by
 have h:∀ n:Fin 256,bits .or .u8 (n.val:Int) 32=((n.val ||| 32:Nat):Int)/\(n.val ||| 32) < 256/\((48<=n.val/\n.val<=57/\zbu (UInt8.ofNat n.val)=some (n.val - 48))∨(¬(48<=n.val/\n.val<=57)/\97<=(n.val ||| 32)/\(n.val ||| 32)<=102/\zbu (UInt8.ofNat n.val)=some ((n.val ||| 32) - 87))∨(¬(48<=n.val/\n.val<=57)/\103<=(n.val ||| 32)/\(n.val ||| 32)<=122/\zbu (UInt8.ofNat n.val)=none)∨(¬(48<=n.val/\n.val<=57)/\((n.val ||| 32) < 97∨122 < (n.val ||| 32))/\zbu (UInt8.ofNat n.val)=none)):=by decide +kernel
 have:=h ⟨c.toNat,c.toNat_lt⟩;simp only [UInt8.ofNat_toNat] at this;exact ⟨_,this⟩
theorem zml {c:UInt8} {lo:Nat} (h:Hid (bits .or .u8 (c.toNat:Int) 32=(lo:Int))) (h2:97<=lo) (h3:lo<=126:=by omega):c.toNat≠95:=by
 intro e;have:=h.out;rw [e,show bits .or .u8 ((95:Nat):Int) 32=127 by decide] at this;omega

set_option maxRecDepth 100000 in
set_option maxHeartbeats 2000000 in
theorem pu16 (l:List UInt8) (w:World) (hs:l.length<=16384) (hne:l≠[]) :
  Calls Tryz.prog 192 #[.string ⟨l.toArray⟩,.int .i64 16,.int .i64 64] w fun e w'=>(∃ (n:Int) (r:Value),e=.returned (.tuple #[.int .u64 n,r])/\((r=.nilIface/\(l.length<=8->∃ v:Nat,n=v/\zaw 16 zbu l 0=some v))∨((r=.iface 251 (.int .i64 2)∨r=.iface 251 (.int .i64 1))/\(l.length<=8->zaw 16 zbu l 0=none))))/\Below w.heap.size w w':=by
 have hz:(l==[])=false:=beq_eq_false_iff_ne.2 hne;have hsz:(ByteArray.mk l.toArray).size=l.length:=by simp [ByteArray.size]
 have hcv:=Lib.run_convert_string_bytes (P:=Tryz.prog) w 9 145 5 ⟨l.toArray⟩ (u:=.string) Tryz.underlying9 Tryz.underlying145 Tryz.underlying5;have hB:Hid (∀ j c,l[j]?=some c->(Lib.bytesWorld w 5 ⟨l.toArray⟩).cell? ⟨w.heap.size,j,none⟩=some (.int .u8 (c.toNat:Int))):=fun j c hj=>by
  obtain ⟨h1,h2⟩:=List.getElem?_eq_some_iff.1 hj;rw [Lib.bytesWorld_cell w 5 ⟨l.toArray⟩ j (by rw [hsz];exact h1)];simp [List.getD,hj]
 have hbel:Hid (Below w.heap.size w (Lib.bytesWorld w 5 ⟨l.toArray⟩)):=Lib.bytesWorld_below _ _ _;obtain ⟨cp,hcp⟩:=ex (grownCap w (ByteArray.mk l.toArray).size 0 5);rw [hcp,hsz] at hcv;obtain ⟨W1,hW1⟩:∃ W1,W1=Lib.bytesWorld w 5 ⟨l.toArray⟩:=⟨_,rfl⟩;rw [<-hW1] at hcv hB hbel;clear hW1 hcp;have hmv:IntKind.u64.wrap (IntKind.u64.wrap 18446744073709551616 - 1)=18446744073709551615:=by
  rw [IntKind.wrap_u64,IntKind.wrap_u64];decide
 go_enter Tryz.func192,Tryz.ntmps192
 go_wp2_with fail
 go_loop [12,13,101] (fun vu vn vi=>∃ (k:Nat) (a:Int),vu=.bool false/\vn=.int .u64 a/\vi=.int .i64 k/\k<=l.length/\0<=a/\a < 18446744073709551616/\Hid (l.length<=8->∃ acc:Nat,a=(acc:Int)/\acc < 16 ^ k/\zaw 16 zbu (l.drop k) acc=zaw 16 zbu l 0)) (fun _ _ vi=>l.length - (intOf vi).toNat)
 case atStart=>exact ⟨0,0,rfl,rfl,rfl,Nat.zero_le _,by omega,by omega,fun _=>⟨0,rfl,by decide,by rw [List.drop_zero]⟩⟩
 case round=>
  obtain ⟨k,a,rfl,rfl,rfl,hk,a0,a1,hh⟩:=hrel
  by_cases hlt:k < l.length
  ·have j1:(k:Int) < (l.length:Int):=by omega
   have j0:(0:Int)<=(k:Int):=by omega
   obtain ⟨c,hlc⟩:∃ c,l[k]?=some c:=⟨_,List.getElem?_eq_getElem hlt⟩;have hc:=hB.out k c hlc;obtain ⟨lo,hlo0,hlo2,htab⟩:=zqt c;have HL:∀ W,Calls Tryz.prog 197 #[.int .u8 (c.toNat:Int)] W fun e w'=>e=.returned (.int .u8 (lo:Int))/\w'=W:=fun W=>by rw [<-hlo0];exact zjw _ W
   have hlo:Hid (bits .or .u8 (c.toNat:Int) 32=(lo:Int)):=hlo0;clear hlo0;rcases htab with ⟨h1,h2,hD⟩ | ⟨h1,h2,h3,hD⟩ | ⟨h1,h2,h3,hD⟩ | ⟨h1,h2,hD⟩
   ·obtain ⟨x,hx⟩:=ex c.toNat
    rw [hx] at hc h1 h2 hD HL;obtain ⟨dn,hdn⟩:=ex (x - 48);rw [hdn] at hD;have c95:((x:Int)==95)=false:=by rw [beq_eq_false_iff_ne];omega
    have b1:(48:Int)<=(x:Int):=by omega
    have b2:(x:Int)<=57:=by omega
    have hw0:IntKind.u8.wrap ((x:Int) - 48)=(x:Int) - 48:=by rw [IntKind.wrap_u8];omega
    have b3:¬(16:Int)<=(x:Int) - 48:=by omega
    by_cases hcut:1152921504606846976<=a
    ·have HF:Hid (l.length<=8->zaw 16 zbu l 0=none):=by
      unfold Hid;intro hl;obtain ⟨acc,ha,hlt2,_⟩:=hh.out hl;have:=Nat.lt_of_lt_of_le hlt2 (Nat.pow_le_pow_right (j:=8) (show 16 > 0 by decide) (by omega));have h2:(16:Nat) ^ 8<=1152921504606846976:=by decide
      omega
     clear hh
     go_wp2_with (go_at_call 197;refine (HL _).mono ?_;rintro e w' ⟨rfl,rfl⟩)
     go_ret2
     exact ⟨⟨_,_,rfl,.inr ⟨.inr rfl,HF.out⟩⟩,hbel.out⟩
    ·have icut:a < 1152921504606846976:=by omega
     have iov:a*16+((x:Int) - 48) < 18446744073709551616:=by omega
     have hw1:IntKind.u64.wrap (a*16)=a*16:=by rw [IntKind.wrap_u64];omega
     have hw2:IntKind.u64.wrap (a*16+((x:Int) - 48))=a*16+((x:Int) - 48):=by rw [IntKind.wrap_u64];omega
     have hi1:¬a*16+((x:Int) - 48) < a*16:=by omega
     have hi2:¬(18446744073709551615:Int) < a*16+((x:Int) - 48):=by omega
     have HH:Hid (l.length<=8->∃ acc:Nat,a*16+((x:Int) - 48)=(acc:Int)/\acc < 16 ^ (k+1)/\zaw 16 zbu (l.drop (k+1)) acc=zaw 16 zbu l 0):=by
      unfold Hid;intro hl;obtain ⟨acc,ha,hlt2,hf⟩:=hh.out hl;exact ⟨16*acc+dn,by omega,by rw [Nat.pow_succ];omega,by rw [<-hf];exact (zd1 hlc hD acc).symm⟩
     clear hh hcut
     go_wp2_with (go_at_call 197;refine (HL _).mono ?_;rintro e w' ⟨rfl,rfl⟩)
     go_round
     case rel=>exact ⟨k+1,a*16+((x:Int) - 48),rfl,by go_num,by go_num,by omega,by omega,by omega,HH⟩
     case measure=>simp [intOf];omega
   ·obtain ⟨x,hx⟩:=ex c.toNat
    rw [hx] at hc h1 HL;have hx95:x≠95:=hx ▸ zml hlo h2;obtain ⟨dn,hdn⟩:=ex (lo - 87);rw [hdn] at hD
    by_cases b1:(48:Int)<=(x:Int)
    ·have b2:¬(x:Int)<=57:=by omega
     have c95:((x:Int)==95)=false:=by rw [beq_eq_false_iff_ne];omega
     have b3:(97:Int)<=(lo:Int):=by omega
     have b4:(lo:Int)<=122:=by omega
     have hw0:IntKind.u8.wrap ((lo:Int) - 97)=(lo:Int) - 97:=by rw [IntKind.wrap_u8];omega
     have hw00:IntKind.u8.wrap ((lo:Int) - 97+10)=(lo:Int) - 97+10:=by rw [IntKind.wrap_u8];omega
     have b5:¬(16:Int)<=(lo:Int) - 97+10:=by omega
     by_cases hcut:1152921504606846976<=a
     ·have HF:Hid (l.length<=8->zaw 16 zbu l 0=none):=by
       unfold Hid;intro hl;obtain ⟨acc,ha,hlt2,_⟩:=hh.out hl;have:=Nat.lt_of_lt_of_le hlt2 (Nat.pow_le_pow_right (j:=8) (show 16 > 0 by decide) (by omega));have h2:(16:Nat) ^ 8<=1152921504606846976:=by decide
       omega
      clear hh
      go_wp2_with (go_at_call 197;refine (HL _).mono ?_;rintro e w' ⟨rfl,rfl⟩)
      go_ret2
      exact ⟨⟨_,_,rfl,.inr ⟨.inr rfl,HF.out⟩⟩,hbel.out⟩
     ·have icut:a < 1152921504606846976:=by omega
      have iov:a*16+((lo:Int) - 97+10) < 18446744073709551616:=by omega
      have hw1:IntKind.u64.wrap (a*16)=a*16:=by rw [IntKind.wrap_u64];omega
      have hw2:IntKind.u64.wrap (a*16+((lo:Int) - 97+10))=a*16+((lo:Int) - 97+10):=by rw [IntKind.wrap_u64];omega
      have hi1:¬a*16+((lo:Int) - 97+10) < a*16:=by omega
      have hi2:¬(18446744073709551615:Int) < a*16+((lo:Int) - 97+10):=by omega
      have HH:Hid (l.length<=8->∃ acc:Nat,a*16+((lo:Int) - 97+10)=(acc:Int)/\acc < 16 ^ (k+1)/\zaw 16 zbu (l.drop (k+1)) acc=zaw 16 zbu l 0):=by
       unfold Hid;intro hl;obtain ⟨acc,ha,hlt2,hf⟩:=hh.out hl;exact ⟨16*acc+dn,by omega,by rw [Nat.pow_succ];omega,by rw [<-hf];exact (zd1 hlc hD acc).symm⟩
      clear hh hcut
      go_wp2_with (go_at_call 197;refine (HL _).mono ?_;rintro e w' ⟨rfl,rfl⟩)
      go_round
      case rel=>exact ⟨k+1,a*16+((lo:Int) - 97+10),rfl,by go_num,by go_num,by omega,by omega,by omega,HH⟩
      case measure=>simp [intOf];omega
    ·skip
     have c95:((x:Int)==95)=false:=by rw [beq_eq_false_iff_ne];omega
     have b3:(97:Int)<=(lo:Int):=by omega
     have b4:(lo:Int)<=122:=by omega
     have hw0:IntKind.u8.wrap ((lo:Int) - 97)=(lo:Int) - 97:=by rw [IntKind.wrap_u8];omega
     have hw00:IntKind.u8.wrap ((lo:Int) - 97+10)=(lo:Int) - 97+10:=by rw [IntKind.wrap_u8];omega
     have b5:¬(16:Int)<=(lo:Int) - 97+10:=by omega
     by_cases hcut:1152921504606846976<=a
     ·have HF:Hid (l.length<=8->zaw 16 zbu l 0=none):=by
       unfold Hid;intro hl;obtain ⟨acc,ha,hlt2,_⟩:=hh.out hl;have:=Nat.lt_of_lt_of_le hlt2 (Nat.pow_le_pow_right (j:=8) (show 16 > 0 by decide) (by omega));have h2:(16:Nat) ^ 8<=1152921504606846976:=by decide
       omega
      clear hh
      go_wp2_with (go_at_call 197;refine (HL _).mono ?_;rintro e w' ⟨rfl,rfl⟩)
      go_ret2
      exact ⟨⟨_,_,rfl,.inr ⟨.inr rfl,HF.out⟩⟩,hbel.out⟩
     ·have icut:a < 1152921504606846976:=by omega
      have iov:a*16+((lo:Int) - 97+10) < 18446744073709551616:=by omega
      have hw1:IntKind.u64.wrap (a*16)=a*16:=by rw [IntKind.wrap_u64];omega
      have hw2:IntKind.u64.wrap (a*16+((lo:Int) - 97+10))=a*16+((lo:Int) - 97+10):=by rw [IntKind.wrap_u64];omega
      have hi1:¬a*16+((lo:Int) - 97+10) < a*16:=by omega
      have hi2:¬(18446744073709551615:Int) < a*16+((lo:Int) - 97+10):=by omega
      have HH:Hid (l.length<=8->∃ acc:Nat,a*16+((lo:Int) - 97+10)=(acc:Int)/\acc < 16 ^ (k+1)/\zaw 16 zbu (l.drop (k+1)) acc=zaw 16 zbu l 0):=by
       unfold Hid;intro hl;obtain ⟨acc,ha,hlt2,hf⟩:=hh.out hl;exact ⟨16*acc+dn,by omega,by rw [Nat.pow_succ];omega,by rw [<-hf];exact (zd1 hlc hD acc).symm⟩
      clear hh hcut
      go_wp2_with (go_at_call 197;refine (HL _).mono ?_;rintro e w' ⟨rfl,rfl⟩)
      go_round
      case rel=>exact ⟨k+1,a*16+((lo:Int) - 97+10),rfl,by go_num,by go_num,by omega,by omega,by omega,HH⟩
      case measure=>simp [intOf];omega
   ·obtain ⟨x,hx⟩:=ex c.toNat
    rw [hx] at hc h1 HL;have hx95:x≠95:=hx ▸ zml hlo (by omega)
    by_cases b1:(48:Int)<=(x:Int)
    ·have b2:¬(x:Int)<=57:=by omega
     have HF:Hid (l.length<=8->zaw 16 zbu l 0=none):=by
      unfold Hid;intro hl;obtain ⟨acc,_,_,hf⟩:=hh.out hl;rw [<-hf];exact zat hlc hD acc
     clear hh;have c95:((x:Int)==95)=false:=by rw [beq_eq_false_iff_ne];omega
     have b3:(97:Int)<=(lo:Int):=by omega
     have b4:(lo:Int)<=122:=by omega
     have hw0:IntKind.u8.wrap ((lo:Int) - 97)=(lo:Int) - 97:=by rw [IntKind.wrap_u8];omega
     have hw00:IntKind.u8.wrap ((lo:Int) - 97+10)=(lo:Int) - 97+10:=by rw [IntKind.wrap_u8];omega
     have b5:(16:Int)<=(lo:Int) - 97+10:=by omega
     go_wp2_with (go_at_call 197;refine (HL _).mono ?_;rintro e w' ⟨rfl,rfl⟩)
     all_goals go_ret2
     all_goals exact ⟨⟨_,_,rfl,.inr ⟨.inl rfl,HF.out⟩⟩,hbel.out⟩
    ·skip
     have HF:Hid (l.length<=8->zaw 16 zbu l 0=none):=by
      unfold Hid;intro hl;obtain ⟨acc,_,_,hf⟩:=hh.out hl;rw [<-hf];exact zat hlc hD acc
     clear hh;have c95:((x:Int)==95)=false:=by rw [beq_eq_false_iff_ne];omega
     have b3:(97:Int)<=(lo:Int):=by omega
     have b4:(lo:Int)<=122:=by omega
     have hw0:IntKind.u8.wrap ((lo:Int) - 97)=(lo:Int) - 97:=by rw [IntKind.wrap_u8];omega
     have hw00:IntKind.u8.wrap ((lo:Int) - 97+10)=(lo:Int) - 97+10:=by rw [IntKind.wrap_u8];omega
     have b5:(16:Int)<=(lo:Int) - 97+10:=by omega
     go_wp2_with (go_at_call 197;refine (HL _).mono ?_;rintro e w' ⟨rfl,rfl⟩)
     all_goals go_ret2
     all_goals exact ⟨⟨_,_,rfl,.inr ⟨.inl rfl,HF.out⟩⟩,hbel.out⟩
   ·obtain ⟨x,hx⟩:=ex c.toNat
    rw [hx] at hc h1 HL
    by_cases b1:(48:Int)<=(x:Int)
    ·have b2:¬(x:Int)<=57:=by omega
     by_cases hx95:x=95
     ·subst hx95
      have HF:Hid (l.length<=8->zaw 16 zbu l 0=none):=by
       unfold Hid;intro hl;obtain ⟨acc,_,_,hf⟩:=hh.out hl;rw [<-hf];exact zat hlc hD acc
      clear hh
      go_wp2_with (go_at_call 197;refine (HL _).mono ?_;rintro e w' ⟨rfl,rfl⟩)
      all_goals go_ret2
      all_goals exact ⟨⟨_,_,rfl,.inr ⟨.inl rfl,HF.out⟩⟩,hbel.out⟩
     ·have c95:((x:Int)==95)=false:=by rw [beq_eq_false_iff_ne];omega
      by_cases b3:(97:Int)<=(lo:Int)
      ·have b4:¬(lo:Int)<=122:=by omega
       have HF:Hid (l.length<=8->zaw 16 zbu l 0=none):=by
        unfold Hid;intro hl;obtain ⟨acc,_,_,hf⟩:=hh.out hl;rw [<-hf];exact zat hlc hD acc
       clear hh
       go_wp2_with (go_at_call 197;refine (HL _).mono ?_;rintro e w' ⟨rfl,rfl⟩)
       all_goals go_ret2
       all_goals exact ⟨⟨_,_,rfl,.inr ⟨.inl rfl,HF.out⟩⟩,hbel.out⟩
      ·skip
       have HF:Hid (l.length<=8->zaw 16 zbu l 0=none):=by
        unfold Hid;intro hl;obtain ⟨acc,_,_,hf⟩:=hh.out hl;rw [<-hf];exact zat hlc hD acc
       clear hh
       go_wp2_with (go_at_call 197;refine (HL _).mono ?_;rintro e w' ⟨rfl,rfl⟩)
       all_goals go_ret2
       all_goals exact ⟨⟨_,_,rfl,.inr ⟨.inl rfl,HF.out⟩⟩,hbel.out⟩
    ·skip
     by_cases hx95:x=95
     ·subst hx95
      have HF:Hid (l.length<=8->zaw 16 zbu l 0=none):=by
       unfold Hid;intro hl;obtain ⟨acc,_,_,hf⟩:=hh.out hl;rw [<-hf];exact zat hlc hD acc
      clear hh
      go_wp2_with (go_at_call 197;refine (HL _).mono ?_;rintro e w' ⟨rfl,rfl⟩)
      all_goals go_ret2
      all_goals exact ⟨⟨_,_,rfl,.inr ⟨.inl rfl,HF.out⟩⟩,hbel.out⟩
     ·have c95:((x:Int)==95)=false:=by rw [beq_eq_false_iff_ne];omega
      by_cases b3:(97:Int)<=(lo:Int)
      ·have b4:¬(lo:Int)<=122:=by omega
       have HF:Hid (l.length<=8->zaw 16 zbu l 0=none):=by
        unfold Hid;intro hl;obtain ⟨acc,_,_,hf⟩:=hh.out hl;rw [<-hf];exact zat hlc hD acc
       clear hh
       go_wp2_with (go_at_call 197;refine (HL _).mono ?_;rintro e w' ⟨rfl,rfl⟩)
       all_goals go_ret2
       all_goals exact ⟨⟨_,_,rfl,.inr ⟨.inl rfl,HF.out⟩⟩,hbel.out⟩
      ·skip
       have HF:Hid (l.length<=8->zaw 16 zbu l 0=none):=by
        unfold Hid;intro hl;obtain ⟨acc,_,_,hf⟩:=hh.out hl;rw [<-hf];exact zat hlc hD acc
       clear hh
       go_wp2_with (go_at_call 197;refine (HL _).mono ?_;rintro e w' ⟨rfl,rfl⟩)
       all_goals go_ret2
       all_goals exact ⟨⟨_,_,rfl,.inr ⟨.inl rfl,HF.out⟩⟩,hbel.out⟩
  ·have j1:¬(k:Int) < (l.length:Int):=by omega
   obtain rfl:k=l.length:=by omega
   have HF:Hid (l.length<=8->∃ v:Nat,a=v/\zaw 16 zbu l 0=some v):=by
    unfold Hid;intro hl;obtain ⟨acc,ha,_,hf⟩:=hh.out hl;exact ⟨acc,ha,by rw [<-hf];exact zj5 _ _ _ _⟩
   clear hh
   go_wp2_with fail
   go_ret2
   exact ⟨⟨_,_,rfl,.inl ⟨rfl,HF.out⟩⟩,hbel.out⟩
end Go.Proofs.YtmfakcfmkmppfaaGreatDoor
