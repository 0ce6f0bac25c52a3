import Derived.Test.YtciffggmobblpaaGreatDoorXAD
import Derived.Deep.RegionHeldLaw
import Derived.RangeFuncNested
import Derived.RangeFuncBound
import Derived.RangeFuncCalls
import Derived.RangeFuncLeaves
import Derived.RangeFuncBox
import Derived.Shelf.Abstract
import Derived.Shelf.RegionOpen
import Derived.WalkKit
import Derived.OwnWalkIn
import Derived.TacticsInMore
import Derived.LoopNIn
import Derived.LoopIn
import Derived.Maps.AppendAt
import Derived.Test.YtciffggmobblpaaGreatDoorXAA
import Derived.Lib.ItoaNum
import Derived.Lib.AtoiTie
import Derived.Lib.IndexLaws
import Derived.Deep.QuietTactic
import Derived.Laws.Strings3
import Derived.Below
import Derived.BigQuiet
import Derived.Deep.RegionWith
import Derived.Deep.DeepCutAuto
import Derived.Shelf.Strconv.Itoa3
import Derived.Ground.NamesProg
import Derived.Test.YtciffggmobblpaaGreatDoorProg
import Derived.Test.YtciffggmobblpaaGreatDoorChecked
import Derived.BigCall
import Derived.Lib.AppendIntMem
import Derived.Laws.BitsAllLaws
import Derived.Lib.AtoiErrMem
namespace Go.Proofs.YtciffggmobblpaaGreatDoor
open Go.RowKit Go.Shelf
def sgn (r:List UInt8):Nat:=((signsL.find? (fun s=>Lib.hasPrefix r s)).map List.length).getD 0
theorem hasP_any (r s:List UInt8) (w:World):Calls Tryz.prog 114 #[.string ⟨r.toArray⟩,.string ⟨s.toArray⟩] w fun e w'=>e=.returned (.bool (Lib.hasPrefix r s))∧w'=w:=Any.strings_HasPrefix Tryz.l99 ⟨r.toArray⟩ ⟨s.toArray⟩ w
set_option maxRecDepth 100000 in
theorem idx_sign (k:Nat) (z:List UInt8) (h:signsL[k]?=some z) (W:World):Sem.run Tryz.prog (Instr.index 174 (.agg signsC) (.int .i64 (k:Int))) W=.ok (.string ⟨z.toArray⟩) W:=by
 match k,h with
 | 0,h=>obtain rfl:=Option.some.inj h;rfl
 | 1,h=>obtain rfl:=Option.some.inj h;rfl
 | 2,h=>obtain rfl:=Option.some.inj h;rfl
 | 3,h=>obtain rfl:=Option.some.inj h;rfl
 | 4,h=>obtain rfl:=Option.some.inj h;rfl
 | 5,h=>obtain rfl:=Option.some.inj h;rfl
 | 6,h=>obtain rfl:=Option.some.inj h;rfl
 | 7,h=>obtain rfl:=Option.some.inj h;rfl
 | 8,h=>obtain rfl:=Option.some.inj h;rfl
 | 9,h=>obtain rfl:=Option.some.inj h;rfl
 | 10,h=>obtain rfl:=Option.some.inj h;rfl
 | 11,h=>obtain rfl:=Option.some.inj h;rfl
 | 12,h=>obtain rfl:=Option.some.inj h;rfl
 | 13,h=>obtain rfl:=Option.some.inj h;rfl
 | 14,h=>obtain rfl:=Option.some.inj h;rfl
 | 15,h=>obtain rfl:=Option.some.inj h;rfl
 | k+16,h=>simp at h
theorem find_at {α:Type} (p:α→Bool):∀ (L:List α) (k:Nat) (z:α),L[k]?=some z→p z=true→(∀ j y,j < k→L[j]?=some y→p y=false)→L.find? p=some z
 | [],k,z,h,_,_=>by simp at h
 | a :: L,0,z,h,hz,_=>by
  simp at h
  subst h
  simp [hz]
 | a :: L,k+1,z,h,hz,hn=>by
  have h0:p a=false:=hn 0 a (by omega) rfl
  rw [List.find?_cons,h0]
  exact find_at p L k z (by simpa using h) hz (fun j y hj hy=>hn (j+1) y (by omega) (by simpa using hy))
theorem find_no {α:Type} (p:α→Bool) (L:List α) (h:∀ j y,j < L.length→L[j]?=some y→p y=false):L.find? p=none:=by
 rw [List.find?_eq_none]
 intro x hx
 obtain ⟨j,hj,e⟩:=List.mem_iff_getElem.1 hx
 have:=h j x hj (by rw [List.getElem?_eq_getElem hj,e])
 simp [this]
set_option maxRecDepth 100000 in
set_option maxHeartbeats 1000000 in
theorem signAt_any (r:List UInt8) (w:World) (hg:SG w):Calls Tryz.prog 124 #[.string ⟨r.toArray⟩] w fun e w'=>e=.returned (.int .i64 (sgn r:Int))∧w'=w:=by
 have c0:w.cell? ⟨0,0,none⟩=some (.string ⟨#[33,61]⟩):=hg.cell 0
 have c1:w.cell? ⟨0,1,none⟩=some (.string ⟨#[60,61]⟩):=hg.cell 1
 have c2:w.cell? ⟨0,2,none⟩=some (.string ⟨#[62,61]⟩):=hg.cell 2
 have c3:w.cell? ⟨0,3,none⟩=some (.string ⟨#[46,46]⟩):=hg.cell 3
 have c4:w.cell? ⟨0,4,none⟩=some (.string ⟨#[45,62]⟩):=hg.cell 4
 have c5:w.cell? ⟨0,5,none⟩=some (.string ⟨#[40]⟩):=hg.cell 5
 have c6:w.cell? ⟨0,6,none⟩=some (.string ⟨#[41]⟩):=hg.cell 6
 have c7:w.cell? ⟨0,7,none⟩=some (.string ⟨#[33]⟩):=hg.cell 7
 have c8:w.cell? ⟨0,8,none⟩=some (.string ⟨#[61]⟩):=hg.cell 8
 have c9:w.cell? ⟨0,9,none⟩=some (.string ⟨#[60]⟩):=hg.cell 9
 have c10:w.cell? ⟨0,10,none⟩=some (.string ⟨#[62]⟩):=hg.cell 10
 have c11:w.cell? ⟨0,11,none⟩=some (.string ⟨#[38]⟩):=hg.cell 11
 have c12:w.cell? ⟨0,12,none⟩=some (.string ⟨#[124]⟩):=hg.cell 12
 have c13:w.cell? ⟨0,13,none⟩=some (.string ⟨#[44]⟩):=hg.cell 13
 have c14:w.cell? ⟨0,14,none⟩=some (.string ⟨#[58]⟩):=hg.cell 14
 have c15:w.cell? ⟨0,15,none⟩=some (.string ⟨#[47]⟩):=hg.cell 15
 clear hg
 go_enter Tryz.func124,Tryz.ntmps124
 go_wp2_with fail
 go_loop [6] (fun vk=>∃ k:Nat,vk=.int .i64 k∧k≤16∧(∀ (j:Nat) (z:List UInt8),j < k→signsL[j]?=some z→Lib.hasPrefix r z=false)) (fun vk=>16 - (intOf vk).toNat)
 case atStart=>exact ⟨0,rfl,by omega,fun j z hj=>by omega⟩
 case round=>
  clear c0 c1 c2 c3 c4 c5 c6 c7 c8 c9 c10 c11 c12 c13 c14 c15
  obtain ⟨k,rfl,hk,hno⟩:=hrel
  by_cases hk5:k < 16
  ·have hk5':(k:Int) < 16:=by omega
   obtain ⟨z,hz⟩:∃ z,signsL[k]?=some z:=⟨_,List.getElem?_eq_getElem hk5⟩
   have hx:=fun W=>idx_sign k z hz W
   have HP:=fun W=>hasP_any r z W
   have HN:Hid (∀ (j:Nat) (z:List UInt8),j < k→signsL[j]?=some z→Lib.hasPrefix r z=false):=hno
   have HZ:Hid (signsL[k]?=some z):=hz
   obtain ⟨q,hq⟩:∃ q,Lib.hasPrefix r z=q:=⟨_,rfl⟩
   rw [hq] at HP
   have HQ:Hid (Lib.hasPrefix r z=q):=hq
   have hzl:z.length≤2:=by
    have hzz:=hz
    match k,hzz with
    | 0,h=>obtain rfl:=Option.some.inj h;decide
    | 1,h=>obtain rfl:=Option.some.inj h;decide
    | 2,h=>obtain rfl:=Option.some.inj h;decide
    | 3,h=>obtain rfl:=Option.some.inj h;decide
    | 4,h=>obtain rfl:=Option.some.inj h;decide
    | 5,h=>obtain rfl:=Option.some.inj h;decide
    | 6,h=>obtain rfl:=Option.some.inj h;decide
    | 7,h=>obtain rfl:=Option.some.inj h;decide
    | 8,h=>obtain rfl:=Option.some.inj h;decide
    | 9,h=>obtain rfl:=Option.some.inj h;decide
    | 10,h=>obtain rfl:=Option.some.inj h;decide
    | 11,h=>obtain rfl:=Option.some.inj h;decide
    | 12,h=>obtain rfl:=Option.some.inj h;decide
    | 13,h=>obtain rfl:=Option.some.inj h;decide
    | 14,h=>obtain rfl:=Option.some.inj h;decide
    | 15,h=>obtain rfl:=Option.some.inj h;decide
    | k+16,h=>simp at h
   clear hno hz hq
   cases q with
   | true=>
    have HS:Hid (sgn r=z.length):=by
     unfold Hid sgn
     rw [find_at _ _ k z HZ.out HQ.out HN.out]
     rfl
    go_wp2_with fail
    refine (HP _).mono ?_
    rintro e w1 ⟨rfl,rfl⟩
    go_wp2_with fail
    go_ret
    exact ⟨by rw [HS.out];rfl,rfl⟩
   | false=>
    go_wp2_with fail
    refine (HP _).mono ?_
    rintro e w1 ⟨rfl,rfl⟩
    go_wp2_with fail
    go_round
    case rel=>
     refine ⟨k+1,by go_num,by omega,fun j y hj hy=>?_⟩
     rcases Nat.lt_or_ge j k with h | h
     ·exact HN.out j y h hy
     ·obtain rfl:j=k:=by omega
      rw [HZ.out] at hy
      obtain rfl:=Option.some.inj hy
      exact HQ.out
    case measure=>simp [intOf];omega
  ·have hk5':¬(k:Int) < 16:=by omega
   have HS:Hid (sgn r=0):=by
    unfold Hid sgn
    rw [find_no _ _ (fun j y hj hy=>hno j y (by have:j < 16:=hj;omega) hy)]
    rfl
   clear hno
   go_wp2_with fail
   go_ret
   exact ⟨by rw [HS.out];rfl,rfl⟩
end Go.Proofs.YtciffggmobblpaaGreatDoor
namespace Go.Proofs.YtciffggmobblpaaGreatDoor
open Go.RowKit Go.Shelf

section
variable {F:Fence} {m:Nat} {P:Program}

def bodyEnd (l:Nat) (r:Loop) (In:World→Prop) (Out:Code→World→Prop):Exit→Act→World→Prop
  | .normal,_,W=>W.heap[l]?=some (.loop { r with state:=.busy })∧In (W.putObj l (.loop r))
  | .exit id,_,W=>W.heap[l]?=some (.loop { r with state:=.busy })∧Out (.exit id) (W.putObj l (.loop { r with state:=.done,pending:=some (.exit id) }))
  | .ret,_,W=>W.heap[l]?=some (.loop { r with state:=.busy })∧Out .ret (W.putObj l (.loop { r with state:=.done,pending:=some .ret }))
  | _,_,_=>False

theorem round_by {l:Nat} {r:Loop} {W:World} {args:Array Value} {In:World→Prop} {Out:Code→World→Prop} (hF:F.fn r.fn) (hl:W.heap[l]?=some (.loop r)) (hr:r.state=.ready) (hp:r.pending=none) (hs:args.size=r.params.size)
    (a1:Act) (has:∀ K:Act→World→Prop,K a1 W→r.assign.wpIn (F.inRound l) m P (Exit.then K (fun _ _ _=>False)) { tmps:=(r.params.zip args).foldl (fun tmps (t,a)=>tmps.setIfInBounds t a) r.tmps,defers:=[] } W)
    (hb:r.body.wpIn (F.inRound l) m P (bodyEnd l r In Out) a1 (W.putObj l (.loop { r with state:=.busy }))) :
    YieldAt F m P l args W fun e W'=>(e=.returned (.bool true)∧In W')∨(e=.returned (.bool false)∧∃ c,Out c W'):=by
  refine ⟨_,_,_,_,run_yield hl hs,roundIn_of_wpIn hF (has _ ⟨_,run_beginRound hl hr,wpIn_mono hb ?_⟩)⟩
  intro e a2 W2 h
  cases e with
  | normal=>
    have q:=run_endRound (P:=P) none h.1
    have e1:({ ({ r with state:=.busy }:Loop) with state:=if (none:Option Code).isNone=true then .ready else .done,pending:=none }:Loop)=r:=by
      cases r;simp_all
    rw [e1] at q
    exact ⟨_,_,q,.inl ⟨rfl,h.2⟩⟩
  | exit id=>exact ⟨_,_,run_endRound (P:=P) (some (.exit id)) h.1,.inr ⟨rfl,_,h.2⟩⟩
  | ret=>exact ⟨_,_,run_endRound (P:=P) (some .ret) h.1,.inr ⟨rfl,_,h.2⟩⟩
  | goto t=>exact h.elim
  | panic c=>exact h.elim
  | outgrown=>exact h.elim

def recOf (fn:FuncId) (tmps:Array Value) (ps:Array Tmp) (assign body:Code) (D:Nat):Loop:={ state:=.ready,pending:=none,fn,tmps,params:=ps,assign,body,defers:=D }

theorem range_by {n:Nat} {g:Operand} {ps:Array Tmp} {assign body:Code} {Q:Exit→Act→World→Prop} {a:Act} {w:World}
    (hro:F.round=none) (h1:1≤n) {gf:Nat} {lb:Array Value} (hg:a.eval g=.func (.func gf) #[] lb) (hFg:F.fn gf) (eg:∀ args w,(callFunc gf args).run P w=.ok (.enter gf args) w)
    (h:∀ fn,F.fn fn→CallsIn F (n - 1) P gf (#[.func (.yield (w.heap.size+1)) #[] #[]]++lb) ((w.alloc (.deferred (some []))).alloc (.loop (recOf fn a.tmps ps assign body w.heap.size)))
      fun e W=>(∃ v,e=.returned v)∧∃ r,W.heap[w.heap.size+1]?=some (.loop r)∧r.state≠.busy∧
        ((r.pending=none∧Q .normal { a with defers:={ target:=.collected w.heap.size,args:=#[] } :: a.defers } (W.putObj (w.heap.size+1) (.loop { r with state:=.exhausted })))∨
         ∃ c, r.pending = some c ∧ c.wpIn F n P Q { a with defers := { target := .collected w.heap.size, args := #[] } :: a.defers } (W.putObj (w.heap.size + 1) (.loop { r with state := .exhausted })))) :
    (Code.rangeFunc g ps assign body).wpIn F n P Q a w:=by
  refine wpIn_rangeFunc (fun fn hfn=>?_)
  rw [hro]
  have hd:(resolve a.eval (rangeCall g (w.heap.size+1)) 0).run P ((w.alloc (.deferred (some []))).alloc (.loop (recOf fn a.tmps ps assign body w.heap.size)))=.ok { target:=.fn (.func gf) lb,args:=#[.func (.yield (w.heap.size+1)) #[] #[]] } ((w.alloc (.deferred (some []))).alloc (.loop (recOf fn a.tmps ps assign body w.heap.size))):=by
    simp only [resolve,hg]
    simp [go_sem]
  refine ⟨_,_,_,_,_,gf,_,_,run_enterLoop_outer fn a.tmps ps assign body,hd,?_,?_,fun _=>h1,(h fn hfn).mono ?_⟩
  · intro f' hf'
    simp [Target.leads] at hf'
    subst hf'
    exact hFg
  · simp [invoke,go_sem,eg]
  · rintro e W ⟨⟨v,rfl⟩,r,hr,hb,hq⟩
    refine ⟨_,_,run_endLoop (P:=P) hr hb,?_⟩
    rcases hq with ⟨hp,hq⟩ | ⟨c,hp,hq⟩
    · rw [hp] at hq ⊢;exact hq
    · rw [hp] at hq ⊢;exact hq

end
end Go.Proofs.YtciffggmobblpaaGreatDoor
namespace Go.Proofs.YtciffggmobblpaaGreatDoor

theorem head_app {α:Type} {l:List α} (m:List α) (h:l≠[]):(l++m).head?=l.head?:=by
 cases l with
 | nil=>exact absurd rfl h
 | cons a l=>rfl
def isDig (c:UInt8):Bool:=48≤c.toNat&&c.toNat≤57
def decV (l:List UInt8):Nat:=l.foldl (fun n c=>10*n+(c.toNat - 48)) 0
def decP (l:List UInt8):Prop:=l≠[]∧l.all isDig=true∧(1 < l.length→l.head?≠some 48)
theorem decV_snoc (l:List UInt8) (c:UInt8):decV (l++[c])=10*decV l+(c.toNat - 48):=by simp [decV]
theorem decV_pos (l:List UInt8) (h:l.all isDig=true) (hn:l≠[]) (hh:l.head?≠some 48):0 < decV l:=by
 suffices ∀ m:Nat,∀ l:List UInt8,l.length=m→l.all isDig=true→l≠[]→l.head?≠some 48→0 < decV l from this _ l rfl h hn hh
 intro m
 induction m with
 | zero=>intro l hl _ hn _;exact absurd (List.length_eq_zero_iff.1 hl) hn
 | succ m ih=>
  intro l hl ha hn hh
  obtain ⟨l',c,rfl⟩:∃ l' c,l=l'++[c]:=⟨l.dropLast,l.getLast hn,(List.dropLast_concat_getLast hn).symm⟩
  rw [decV_snoc]
  by_cases h0:l'=[]
  ·subst h0
   simp only [List.nil_append,List.head?_cons,ne_eq,Option.some.injEq] at hh
   simp only [List.nil_append,List.all_cons,List.all_nil,Bool.and_true,isDig,Bool.and_eq_true,decide_eq_true_eq] at ha
   have:c.toNat≠48:=fun e=>hh (UInt8.toNat_inj.1 (by simpa using e))
   omega
  ·have hl':l'.length=m:=by simpa using hl
   rw [List.all_append,Bool.and_eq_true] at ha
   have:=ih l' hl' ha.1 h0 (by rw [head_app _ h0] at hh;exact hh)
   omega
theorem dig_of {c:UInt8} (h:isDig c=true):UInt8.ofNat (48+(c.toNat - 48))=c:=by
 simp only [isDig,Bool.and_eq_true,decide_eq_true_eq] at h
 rw [show 48+(c.toNat - 48)=c.toNat by omega]
 exact UInt8.ofNat_toNat
theorem dec_of (l:List UInt8) (h:decP l):Lib.decDigits (decV l)=l:=by
 suffices ∀ m:Nat,∀ l:List UInt8,l.length=m→decP l→Lib.decDigits (decV l)=l from this _ l rfl h
 intro m
 induction m with
 | zero=>intro l hl h;exact absurd (List.length_eq_zero_iff.1 hl) h.1
 | succ m ih=>
  intro l hl ⟨hn,ha,hh⟩
  obtain ⟨l',c,rfl⟩:∃ l' c,l=l'++[c]:=⟨l.dropLast,l.getLast hn,(List.dropLast_concat_getLast hn).symm⟩
  rw [List.all_append,Bool.and_eq_true] at ha
  have hc:isDig c=true:=by simpa using ha.2
  have hc':=hc
  simp only [isDig,Bool.and_eq_true,decide_eq_true_eq] at hc'
  rw [decV_snoc]
  by_cases h0:l'=[]
  ·subst h0
   show Lib.decDigits (10*0+(c.toNat - 48))=[c]
   rw [Lib.decDigits_one (by omega)]
   simp only [Nat.mul_zero,Nat.zero_add]
   rw [dig_of hc]
  ·have hl':l'.length=m:=by simpa using hl
   have hl2:0 < l'.length:=List.length_pos_iff.2 h0
   have hh':l'.head?≠some 48:=by
    have:=hh (by simp;omega)
    rw [head_app _ h0] at this;exact this
   have hp:=decV_pos l' ha.1 h0 hh'
   rw [Lib.decDigits,dif_neg (by omega),show (10*decV l'+(c.toNat - 48)) / 10=decV l' by omega,show (10*decV l'+(c.toNat - 48)) % 10=c.toNat - 48 by omega,ih l' hl' ⟨h0,ha.1,fun _=>hh'⟩,dig_of hc]
theorem ofNat_dig (d:Nat) (h:d < 10):isDig (UInt8.ofNat (48+d))=true∧(UInt8.ofNat (48+d)).toNat=48+d:=by
 have:(UInt8.ofNat (48+d)).toNat=48+d:=by rw [UInt8.toNat_ofNat'];omega
 refine ⟨?_,this⟩
 simp only [isDig,this,Bool.and_eq_true,decide_eq_true_eq]
 omega
theorem of_dec (n:Nat):decP (Lib.decDigits n)∧decV (Lib.decDigits n)=n∧(0 < n→(Lib.decDigits n).head?≠some 48):=by
 induction n using Nat.strongRecOn with
 | ind n ih=>
 rw [Lib.decDigits]
 split
 ·rename_i h
  obtain ⟨h1,h2⟩:=ofNat_dig n h
  refine ⟨⟨by simp,by rw [List.all_cons,h1];rfl,by simp⟩,by simp only [decV,List.foldl_cons,List.foldl_nil,h2];omega,fun hn e=>?_⟩
  simp only [List.head?_cons,Option.some.injEq] at e
  have:=congrArg UInt8.toNat e
  rw [h2] at this
  simp at this
  omega
 ·rename_i h
  obtain ⟨⟨a1,a2,a3⟩,b,c⟩:=ih (n / 10) (by omega)
  obtain ⟨h1,h2⟩:=ofNat_dig (n % 10) (by omega)
  have hc:=c (by omega)
  have hd:(Lib.decDigits (n / 10)++[UInt8.ofNat (48+n % 10)]).head?≠some 48:=by rw [head_app _ a1];exact hc
  refine ⟨⟨by simp,by rw [List.all_append,a2,List.all_cons,h1];rfl,fun _=>hd⟩,by rw [decV_snoc,b,h2];omega,fun _=>hd⟩
theorem dec_short (k n:Nat) (h:n < 10 ^ (k+1)):(Lib.decDigits n).length≤k+1:=by
 induction k generalizing n with
 | zero=>rw [Lib.decDigits_one (by simpa using h)];simp
 | succ k ih=>
  rw [Lib.decDigits]
  split
  ·simp
  ·have:=ih (n / 10) (by rw [Nat.pow_succ] at h;omega)
   rw [List.length_append,List.length_singleton];omega
theorem digitVal_of {c:UInt8} (h:isDig c=true):Lib.digitVal c=some (c.toNat - 48):=by
 simp only [isDig,Bool.and_eq_true,decide_eq_true_eq] at h
 simp [Lib.digitVal,h]
theorem decFrom_of (l:List UInt8) (h:l.all isDig=true) (a:Nat):Lib.decFrom a l=some (l.foldl (fun n c=>10*n+(c.toNat - 48)) a):=by
 induction l generalizing a with
 | nil=>rfl
 | cons c l ih=>
  rw [List.all_cons,Bool.and_eq_true] at h
  simp only [Lib.decFrom,digitVal_of h.1,List.foldl_cons]
  rw [show a*10+(c.toNat - 48)=10*a+(c.toNat - 48) by omega]
  exact ih h.2 _
theorem atoi_dec (n:Nat) (hn:n < 10 ^ 10):Lib.atoiAll (Lib.decDigits n)=.ok (n:Int):=by
 obtain ⟨⟨a1,a2,a3⟩,b,_⟩:=of_dec n
 rw [Lib.atoiAll_short _ (Nat.le_trans (dec_short 9 n hn) (by omega))]
 cases hd:Lib.decDigits n with
 | nil=>exact absurd hd a1
 | cons c r=>
  rw [hd] at a2 b
  have hc:isDig c=true:=by rw [List.all_cons,Bool.and_eq_true] at a2;exact a2.1
  simp only [isDig,Bool.and_eq_true,decide_eq_true_eq] at hc
  have c1:(c==45)=false:=by cases h:c==45 with | false=>rfl | true=>have:=eq_of_beq h;subst this;simp at hc
  have c2:(c==43)=false:=by cases h:c==43 with | false=>rfl | true=>have:=eq_of_beq h;subst this;simp at hc
  have e:Lib.decNat (c :: r)=some n:=by
   unfold Lib.decNat
   rw [decFrom_of _ a2]
   show some (decV (c :: r))=some n
   rw [b]
  simp only [Lib.atoi,c1,c2,e]
  rfl
def decN (l:List UInt8) (top:Nat):Option Nat:=if l≠[]∧l.all isDig=true∧¬(1 < l.length∧l.head?=some 48)∧l.length≤10∧decV l≤top then some (decV l) else none
theorem decN_iff (l:List UInt8) (top v:Nat) (ht:top < 10 ^ 10):decN l top=some v↔l=Lib.decDigits v∧v≤top:=by
 unfold decN
 constructor
 ·intro h
  split at h
  ·rename_i hc
   obtain ⟨h1,h2,h3,h4,h5⟩:=hc
   obtain rfl:=Option.some.inj h
   exact ⟨(dec_of l ⟨h1,h2,fun hl e=>h3 ⟨hl,e⟩⟩).symm,h5⟩
  ·cases h
 ·rintro ⟨rfl,hv⟩
  obtain ⟨⟨a1,a2,a3⟩,b,_⟩:=of_dec v
  rw [if_pos ⟨a1,a2,fun h=>a3 h.1 h.2,dec_short 9 v (by omega),by rw [b];exact hv⟩,b]
end Go.Proofs.YtciffggmobblpaaGreatDoor
namespace Go.Proofs.YtciffggmobblpaaGreatDoor
open Go.RowKit
theorem idx_eq {l:List UInt8} {c:UInt8} {k:Nat} (h:l[k]?=some c) (hn:∀ j,j < k→l[j]?≠some c):Lib.indexByte l c=(k:Int):=by
 have hg:=Lib.indexByte_ge l c
 rcases Int.lt_or_le (Lib.indexByte l c) 0 with hi | hi
 ·exact absurd h (Lib.indexByte_none (by omega) k)
 ·obtain ⟨o,ho⟩:∃ o:Nat,Lib.indexByte l c=o:=⟨(Lib.indexByte l c).toNat,by omega⟩
  obtain ⟨h1,h2⟩:=Lib.indexByte_some ho
  rcases Nat.lt_trichotomy o k with hlt | rfl | hgt
  ·exact absurd h1 (hn o hlt)
  ·exact ho
  ·exact absurd h (h2 k hgt)
theorem idx_no {l:List UInt8} {c:UInt8} (hn:∀ j,j < l.length→l[j]?≠some c):Lib.indexByte l c=-1:=by
 have hg:=Lib.indexByte_ge l c
 rcases Int.lt_or_le (Lib.indexByte l c) 0 with hi | hi
 ·omega
 ·obtain ⟨o,ho⟩:∃ o:Nat,Lib.indexByte l c=o:=⟨(Lib.indexByte l c).toNat,by omega⟩
  obtain ⟨h1,_⟩:=Lib.indexByte_some ho
  exact absurd h1 (hn o (List.getElem?_eq_some_iff.1 h1).1)
end Go.Proofs.YtciffggmobblpaaGreatDoor
namespace Go.Proofs.YtciffggmobblpaaGreatDoor
open Go.RowKit
end Go.Proofs.YtciffggmobblpaaGreatDoor
namespace Go.Proofs.YtciffggmobblpaaGreatDoor
open Go.RowKit
end Go.Proofs.YtciffggmobblpaaGreatDoor
namespace Go.Proofs.YtciffggmobblpaaGreatDoor
open Go.RowKit
def quadK:Nat→Nat→List UInt8→Option Nat
 | 0,n,l=>match decN l 255 with
  | some v=>some (256*n+v)
  | none=>none
 | k+1,n,l=>if Lib.indexByte l 46 < 0 then none else match decN (l.take (Lib.indexByte l 46).toNat) 255 with
  | some v=>quadK k (256*n+v) (l.drop ((Lib.indexByte l 46).toNat+1))
  | none=>none
theorem decN_le {l:List UInt8} {t v:Nat} (h:decN l t=some v):v≤t:=by
 unfold decN at h
 split at h
 ·rename_i hc;obtain rfl:=Option.some.inj h;exact hc.2.2.2.2
 ·cases h
theorem idx_lt (l:List UInt8) (c:UInt8):Lib.indexByte l c < l.length:=by
 rcases Int.lt_or_le (Lib.indexByte l c) 0 with hi | hi
 ·omega
 ·obtain ⟨o,ho⟩:∃ o:Nat,Lib.indexByte l c=o:=⟨(Lib.indexByte l c).toNat,by omega⟩
  have:=(List.getElem?_eq_some_iff.1 (Lib.indexByte_some ho).1).1
  omega
theorem ext_take (l:List UInt8) (i:Nat):(ByteArray.mk l.toArray).extract 0 i=⟨(l.take i).toArray⟩:=ByteArray.ext (by simp)
end Go.Proofs.YtciffggmobblpaaGreatDoor
namespace Go.Proofs.YtciffggmobblpaaGreatDoor
open Go.RowKit Go.Shelf

attribute [local go_sem] Oper.semAt_some

theorem index_dot (r:List UInt8) (w:World):Calls Tryz.prog 151 #[.string ⟨r.toArray⟩,.string ⟨#[46]⟩] w fun e w'=>e=.returned (.int .i64 (Lib.indexByte r 46))∧w'=w:=Any.strings_Index_one Tryz.l143 ⟨r.toArray⟩ 46 w
theorem cell_of {W:World} {b:Nat} {v:Value} {t:TypeId} {m:Nat×Nat} (h:W.heap[b]?=some (.cells #[v] t m)):W.cell? ⟨b,0,none⟩=some v:=by
 unfold World.cell?;rw [h];simp
theorem froz_of {W:World} {b:Nat} {v:Value} {t:TypeId} (h:W.heap[b]?=some (.cells #[v] t (0,0))):W.frozen? ⟨b,0,none⟩=false:=by
 simp [World.frozen?,h]
def sLen (b:Nat) (W:World):Nat:=match W.cell? ⟨b,0,none⟩ with
 | some (.string s)=>s.size
 | _=>0
theorem sLen_of {W:World} {b:Nat} {r:List UInt8} (h:W.cell? ⟨b,0,none⟩=some (.string ⟨r.toArray⟩)):sLen b W=r.length:=by
 unfold sLen;rw [h];simp [ByteArray.size]
theorem splitSeq_in (r:List UInt8) (w:World):Calls Tryz.prog 139 #[.string ⟨r.toArray⟩,.string ⟨#[46]⟩] w fun e w'=>e=.returned (.func (.func 150) #[] #[.pointer (some ⟨w.heap.size+1,0,none⟩),.pointer (some ⟨w.heap.size,0,none⟩),.pointer (some ⟨w.heap.size+1+1,0,none⟩)])∧w'=((w.alloc (.cells #[.string ⟨r.toArray⟩] 9)).alloc (.cells #[.string ⟨#[46]⟩] 9)).alloc (.cells #[.int .i64 0] 3):=by
 go_enter Tryz.func139,Tryz.ntmps139
 go_wp2
 go_ret
 exact ⟨rfl,rfl⟩

set_option maxRecDepth 100000 in
set_option maxHeartbeats 1000000 in
theorem split_in (n:Nat) (hn:1≤n) (l b:Nat) (J:List UInt8→World→Prop) (Jx Je:World→Prop)
  (hbox:∀ r W,J r W→W.heap[b]?=some (.cells #[.string ⟨r.toArray⟩] 9 (0,0))∧W.heap[b+1]?=some (.cells #[.string ⟨#[46]⟩] 9 (0,0))∧W.heap[b+1+1]?=some (.cells #[.int .i64 0] 3 (0,0))∧r.length≤16384)
  (hY1:∀ r W (i:Nat),J r W→Lib.indexByte r 46=i→YieldAt Fence.wide (n - 1) Tryz.prog l #[.string ⟨(r.take i).toArray⟩] W fun e W'=>
   (e=.returned (.bool true)∧W'.heap[b]?=some (.cells #[.string ⟨r.toArray⟩] 9 (0,0))∧W'.heap[b+1]?=some (.cells #[.string ⟨#[46]⟩] 9 (0,0))∧J (r.drop (i+1)) (W'.setCell ⟨b,0,none⟩ (.string ⟨(r.drop (i+1)).toArray⟩)))∨(e=.returned (.bool false)∧Jx W'))
  (hY2:∀ r W,J r W→Lib.indexByte r 46 < 0→YieldAt Fence.wide (n - 1) Tryz.prog l #[.string ⟨r.toArray⟩] W fun e W'=>(∃ x,e=.returned (.bool x))∧Je W')
  (r0:List UInt8) (W0:World) (h0:J r0 W0) :
  CallsIn Fence.wide n Tryz.prog 150 #[.func (.yield l) #[] #[],.pointer (some ⟨b+1,0,none⟩),.pointer (some ⟨b,0,none⟩),.pointer (some ⟨b+1+1,0,none⟩)] W0 fun e W'=>(∃ v,e=.returned v)∧(Jx W'∨Je W'):=by
 obtain ⟨z1,z2,z3,z4⟩:=hbox _ _ h0
 have c2:=cell_of z2
 refine callsIn_of_wp Tryz.func150 rfl trivial ?_ rfl
 simp only [Tryz.ntmps150,List.size_toArray,List.length_cons,List.length_nil,Nat.reduceAdd,Nat.reduceSub,Array.replicate_succ,Array.replicate_zero,List.push_toArray,List.append_toArray,List.nil_append,List.cons_append]
 gi_wp2
 gi_loopw [7] (fun _ wr=>∃ r,J r wr) (fun _ wr=>sLen b wr)
 case atStart=>exact ⟨r0,h0⟩
 case round=>
  clear z1 z2 z3 z4 c2
  obtain ⟨r,hJ⟩:=hrel
  obtain ⟨z1,z2,z3,z4⟩:=hbox _ _ hJ
  have c1:=cell_of z1
  have c2:=cell_of z2
  have c3:=cell_of z3
  have hI:=index_dot r wr
  obtain ⟨di,hdi⟩:∃ di,Lib.indexByte r 46=di:=⟨_,rfl⟩
  have hd1:-1≤di:=by rw [←hdi];exact Lib.indexByte_ge _ _
  have hd2:di < r.length:=by rw [←hdi];exact idx_lt _ _
  rw [hdi] at hI
  by_cases hneg:di < 0
  ·obtain ⟨fn,tmps,assign,body,hy,hR⟩:=hY2 r wr hJ (by rw [hdi];exact hneg)
   gi_wp2_with (refine ⟨trivial,?_⟩;gi_at_call 151;refine (callsIn_wide.2 hI).mono ?_;rintro e w' ⟨rfl,rfl⟩)
   refine hR.mono ?_
   rintro e W3 ⟨⟨x,rfl⟩,hJe⟩
   gi_wp2
   go_end0
   exact ⟨⟨_,rfl⟩,.inr hJe⟩
  ·obtain ⟨i,rfl⟩:∃ i:Nat,di=i:=⟨di.toNat,by omega⟩
   have hnn:¬(i:Int) < 0:=by omega
   obtain ⟨fn,tmps,assign,body,hy,hR⟩:=hY1 r wr i hJ hdi
   have hE1:=ext_take r i
   have hE2:=ext_drop r (i+1)
   gi_wp2_with (refine ⟨trivial,?_⟩;gi_at_call 151;refine (callsIn_wide.2 hI).mono ?_;rintro e w' ⟨rfl,rfl⟩)
   refine hR.mono ?_
   rintro e W3 (⟨rfl,y1,y2,hJ3⟩ | ⟨rfl,hJx3⟩)
   ·have d1:=cell_of y1
    have d2:=cell_of y2
    have f1:=froz_of y1
    have hm:sLen b (W3.setCell ⟨b,0,none⟩ (.string ⟨(r.drop (i+1)).toArray⟩)) < sLen b w':=by
     rw [sLen_of c1,sLen_of (cell_of (hbox _ _ hJ3).1)]
     simp;omega
    have HM:Hid (sLen b (W3.setCell ⟨b,0,none⟩ (.string ⟨(r.drop (i+1)).toArray⟩)) < sLen b w'):=hm
    clear hm
    gi_wp2
    go_roundw
    case rel=>exact ⟨_,hJ3⟩
    case measure=>exact HM.out
   ·gi_wp2
    refine bodyPost_ret (results_none rfl _ _ _) rfl ?_
    exact ⟨⟨_,rfl⟩,.inl hJx3⟩
end Go.Proofs.YtciffggmobblpaaGreatDoor
namespace Go.Proofs.YtciffggmobblpaaGreatDoor
open Go.RowKit Go.Shelf
def parts (r:List UInt8):List (List UInt8):=
 if Lib.indexByte r 46 < 0 then [r] else r.take (Lib.indexByte r 46).toNat :: parts (r.drop ((Lib.indexByte r 46).toNat+1))
termination_by r.length
decreasing_by
 have:=idx_lt r 46
 simp
 omega
theorem parts_neg {r:List UInt8} (h:Lib.indexByte r 46 < 0):parts r=[r]:=by rw [parts,if_pos h]
theorem parts_pos {r:List UInt8} {i:Nat} (h:Lib.indexByte r 46=i):parts r=r.take i :: parts (r.drop (i+1)):=by
 rw [parts,if_neg (by omega),h];rfl
theorem parts_ne (r:List UInt8):0 < (parts r).length:=by
 rw [parts];split <;> simp
theorem parts_len (m:Nat):∀ r:List UInt8,r.length≤m→(parts r).length≤m+1:=by
 induction m using Nat.strongRecOn with
 | ind m ih=>
 intro r hr
 rw [parts]
 split
 ·simp
 ·rename_i h
  have h1:=idx_lt r 46
  have h2:=ih (m - 1) (by omega) (r.drop ((Lib.indexByte r 46).toNat+1)) (by simp;omega)
  simp only [List.length_cons]
  omega
def evalP (n:Nat):List (List UInt8)→Option Nat
 | []=>some n
 | p :: ps=>match decN p 255 with
  | some v=>evalP (256*n+v) ps
  | none=>none
theorem decN_dot {r:List UInt8} {i:Nat} (h:Lib.indexByte r 46=i) (t:Nat):decN r t=none:=by
 unfold decN
 rw [if_neg]
 rintro ⟨_,ha,_⟩
 have h1:=(Lib.indexByte_some h).1
 rw [List.all_eq_true] at ha
 exact absurd (ha 46 (List.mem_of_getElem? h1)) (by decide)
theorem quadK_parts (k:Nat):∀ (n:Nat) (r:List UInt8),quadK k n r=if (parts r).length=k+1 then evalP n (parts r) else none:=by
 induction k with
 | zero=>
  intro n r
  rw [quadK]
  by_cases h:Lib.indexByte r 46 < 0
  ·rw [parts_neg h,if_pos (show [r].length=0+1 from rfl),evalP]
   cases decN r 255 <;> rfl
  ·obtain ⟨i,hi⟩:∃ i:Nat,Lib.indexByte r 46=i:=⟨(Lib.indexByte r 46).toNat,by omega⟩
   rw [decN_dot hi,parts_pos hi,if_neg]
   have:=parts_ne (r.drop (i+1))
   simp only [List.length_cons]
   omega
 | succ k ih=>
  intro n r
  rw [quadK]
  by_cases h:Lib.indexByte r 46 < 0
  ·rw [if_pos h,parts_neg h,if_neg (by simp)]
  ·obtain ⟨i,hi⟩:∃ i:Nat,Lib.indexByte r 46=i:=⟨(Lib.indexByte r 46).toNat,by omega⟩
   rw [if_neg h,parts_pos hi,hi,show ((i:Int)).toNat=i from Int.toNat_natCast i,evalP]
   cases hd:decN (r.take i) 255 with
   | none=>
    show none=if (r.take i :: parts (r.drop (i+1))).length=k+1+1 then none else none
    rw [ite_self]
   | some v=>
    show quadK k (256*n+v) (r.drop (i+1))=if (r.take i :: parts (r.drop (i+1))).length=k+1+1 then evalP (256*n+v) (parts (r.drop (i+1))) else none
    rw [ih]
    simp only [List.length_cons,Nat.add_right_cancel_iff]
theorem quad_none {l:List UInt8} (h:(parts l).length=4→evalP 0 (parts l)=none):quadK 3 0 l=none:=by
 rw [quadK_parts]
 split
 ·rename_i h4;exact h h4
 ·rfl
theorem shl_or (m v:Nat) (hm:m < 16777216) (hv:v≤255):bits .or .i64 (wrap64 ((m:Int)*256)) (v:Int)=((256*m+v:Nat):Int):=by
 have h1:wrap64 ((m:Int)*256)=((256*m:Nat):Int):=by unfold wrap64;omega
 rw [h1]
 have a1:(BitVec.ofInt 64 ((256*m:Nat):Int)).toNat=256*m:=by
  rw [BitVec.ofInt_natCast,BitVec.toNat_ofNat];exact Nat.mod_eq_of_lt (by omega)
 have a2:(BitVec.ofInt 64 (v:Int)).toNat=v:=by
  rw [BitVec.ofInt_natCast,BitVec.toNat_ofNat];exact Nat.mod_eq_of_lt (by omega)
 have a3:256*m ||| v=256*m+v:=by
  have:=Nat.two_pow_add_eq_or_of_lt (i:=8) (b:=v) (by omega) m
  rw [show (256:Nat)=2 ^ 8 by decide]
  exact this.symm
 show IntKind.i64.wrap ((BitVec.ofInt 64 ((256*m:Nat):Int) ||| BitVec.ofInt 64 (v:Int)).toNat:Int)=_
 rw [BitVec.toNat_or,a1,a2,a3,IntKind.wrap_i64]
 omega
end Go.Proofs.YtciffggmobblpaaGreatDoor
namespace Go.Proofs.YtciffggmobblpaaGreatDoor
open Go.RowKit
end Go.Proofs.YtciffggmobblpaaGreatDoor
namespace Go.Proofs.YtciffggmobblpaaGreatDoor
open Go.RowKit
end Go.Proofs.YtciffggmobblpaaGreatDoor
namespace Go.Proofs
open Go.Shelf
def Tryz.l171_ren:Go.Shelf.Ren:=⟨fun | 171=>162 | 243=>167 | 246=>176 | 283=>178 | 284=>179 | 285=>180 | 286=>181 | 129=>183 | 317=>182 | 318=>184 | 319=>185 | 320=>186 | 337=>187 | 338=>188 | n=>n,fun | 3=>3 | 9=>9 | 2=>2 | 4=>4 | 171=>227 | 0=>0 | 53=>70 | 37=>82 | 5=>5 | 173=>230 | 212=>236 | 51=>197 | 20=>20 | 213=>237 | 46=>179 | 232=>240 | 233=>241 | n=>n,fun | 17=>7 | 18=>8 | 19=>9 | n=>n⟩
theorem Tryz.l171:Go.Proofs.LaysM.n171 Tryz.prog Tryz.l171_ren:={
 mixed:=by kernel_rfl
 f129:=Tryz.func183.trans (congrArg some (by kernel_rfl))
 f171:=Tryz.func162.trans (congrArg some (by kernel_rfl))
 f243:=Tryz.func167.trans (congrArg some (by kernel_rfl))
 f246:=Tryz.func176.trans (congrArg some (by kernel_rfl))
 f283:=Tryz.func178.trans (congrArg some (by kernel_rfl))
 f284:=Tryz.func179.trans (congrArg some (by kernel_rfl))
 f285:=Tryz.func180.trans (congrArg some (by kernel_rfl))
 f286:=Tryz.func181.trans (congrArg some (by kernel_rfl))
 f317:=Tryz.func182.trans (congrArg some (by kernel_rfl))
 f318:=Tryz.func184.trans (congrArg some (by kernel_rfl))
 f319:=Tryz.func185.trans (congrArg some (by kernel_rfl))
 f320:=Tryz.func186.trans (congrArg some (by kernel_rfl))
 f337:=Tryz.func187.trans (congrArg some (by kernel_rfl))
 f338:=Tryz.func188.trans (congrArg some (by kernel_rfl))
 t0:=Tryz.underlying0
 a0:=Tryz.isAgg0
 z0:=Tryz.sizeOf0
 v0:=Tryz.zeroValue0
 t2:=Tryz.underlying2
 a2:=Tryz.isAgg2
 z2:=Tryz.sizeOf2
 v2:=Tryz.zeroValue2
 t3:=Tryz.underlying3
 a3:=Tryz.isAgg3
 z3:=Tryz.sizeOf3
 v3:=Tryz.zeroValue3
 t4:=Tryz.underlying4
 a4:=Tryz.isAgg4
 z4:=Tryz.sizeOf4
 v4:=Tryz.zeroValue4
 t5:=Tryz.underlying5
 a5:=Tryz.isAgg5
 z5:=Tryz.sizeOf5
 v5:=Tryz.zeroValue5
 t9:=Tryz.underlying9
 a9:=Tryz.isAgg9
 z9:=Tryz.sizeOf9
 v9:=Tryz.zeroValue9
 t20:=Tryz.underlying20
 a20:=Tryz.isAgg20
 z20:=Tryz.sizeOf20
 v20:=Tryz.zeroValue20
 t37:=Tryz.underlying82
 a37:=Tryz.isAgg82
 z37:=Tryz.sizeOf82
 v37:=Tryz.zeroValue82
 t46:=Tryz.underlying179
 a46:=Tryz.isAgg179
 z46:=Tryz.sizeOf179
 v46:=Tryz.zeroValue179
 t51:=Tryz.underlying197
 a51:=Tryz.isAgg197
 z51:=Tryz.sizeOf197
 v51:=Tryz.zeroValue197
 t53:=Tryz.underlying70
 a53:=Tryz.isAgg70
 z53:=Tryz.sizeOf70
 v53:=Tryz.zeroValue70
 t171:=Tryz.underlying227
 a171:=Tryz.isAgg227
 z171:=Tryz.sizeOf227
 v171:=Tryz.zeroValue227
 t173:=Tryz.underlying230
 a173:=Tryz.isAgg230
 z173:=Tryz.sizeOf230
 v173:=Tryz.zeroValue230
 t212:=Tryz.underlying236
 a212:=Tryz.isAgg236
 z212:=Tryz.sizeOf236
 v212:=Tryz.zeroValue236
 t213:=Tryz.underlying237
 a213:=Tryz.isAgg237
 z213:=Tryz.sizeOf237
 t232:=Tryz.underlying240
 a232:=Tryz.isAgg240
 z232:=Tryz.sizeOf240
 v232:=Tryz.zeroValue240
 t233:=Tryz.underlying241
 a233:=Tryz.isAgg241
 z233:=Tryz.sizeOf241
 v233:=Tryz.zeroValue241
 g17:=by kernel_rfl
 g18:=by kernel_rfl
 g19:=by kernel_rfl
 i0:=by kernel_rfl
 i2:=by kernel_rfl
 i3:=by kernel_rfl
 i4:=by kernel_rfl
 i5:=by kernel_rfl
 i9:=by kernel_rfl
 i20:=by kernel_rfl
 i37:=by kernel_rfl
 i46:=by kernel_rfl
 i51:=by kernel_rfl
 i53:=by kernel_rfl
 i171:=by kernel_rfl
 i173:=by kernel_rfl
 i212:=by kernel_rfl
 i232:=by kernel_rfl
 i233:=by kernel_rfl
 m17:=by kernel_rfl
 m18:=by kernel_rfl
 m19:=by kernel_rfl }
end Go.Proofs
namespace Go.Proofs.YtciffggmobblpaaGreatDoor
open Go.Shelf Go.RowKit

theorem itoa_laid (n:Int) (h0:-9223372036854775808≤n) (h1:n≤9223372036854775807) (w:World)
  (htab:Lib.TabIs Tryz.prog w "internal/strconv.uint64pow10" .u64 Lib.pow10Tab) :
  Calls Tryz.prog 162 #[.int .i64 n] w fun e w'=>e=.returned (.string ⟨(Lib.itoa n).toArray⟩)∧∃ k os,w'=Sort.grow (w.drewN k) os:=Any.strconv_Itoa Tryz.l171 n h0 h1 w htab
end Go.Proofs.YtciffggmobblpaaGreatDoor
namespace Go.Proofs.YtciffggmobblpaaGreatDoor
open Go.RowKit
theorem tab_below {w W:World} (h:Lib.TabIs Tryz.prog w "internal/strconv.uint64pow10" .u64 Lib.pow10Tab) (hb:Below w.heap.size w W):Lib.TabIs Tryz.prog W "internal/strconv.uint64pow10" .u64 Lib.pow10Tab:=by
 unfold Lib.TabIs World.var? at h ⊢
 cases hg:Tryz.prog.globalNamed "internal/strconv.uint64pow10" with
 | none=>rw [hg] at h;cases h
 | some g=>
  rw [hg] at h
  simp only [Option.bind_some] at h ⊢
  cases hw:w.heap[g]? with
  | none=>rw [hw] at h;cases h
  | some o=>rw [keepblk hb hw];rw [hw] at h;exact h
theorem grow_below (w:World) (k:Nat) (os:Array Obj):Below w.heap.size w (Sort.grow (w.drewN k) os):=Lib.below_grow _ w (Nat.le_refl _) k os
theorem itoa_any (n:Nat) (hn:n < 4294967296) (w:World) (htab:Lib.TabIs Tryz.prog w "internal/strconv.uint64pow10" .u64 Lib.pow10Tab) :
  Calls Tryz.prog 162 #[.int .i64 (n:Int)] w fun e w'=>e=.returned (.string ⟨(Lib.decDigits n).toArray⟩)∧Below w.heap.size w w':=
 (itoa_laid n (by omega) (by omega) w htab).mono fun e w' ⟨he,k,os,hw⟩=>⟨by rw [he];unfold Lib.itoa;rw [if_neg (by omega)];rfl,by rw [hw];exact grow_below w k os⟩
end Go.Proofs.YtciffggmobblpaaGreatDoor
namespace Go.Proofs.YtciffggmobblpaaGreatDoor
open Go.RowKit Go.Shelf
structure VW (w:World):Prop where
 pow:Lib.TabIs Tryz.prog w "internal/strconv.uint64pow10" .u64 Lib.pow10Tab
 syn:∃ tp p,w.var? Tryz.prog "strconv.ErrSyntax" = some #[.iface tp p]
 rng:∃ tp p,w.var? Tryz.prog "strconv.ErrRange" = some #[.iface tp p]
theorem var_below {w W:World} {n:String} {x:Array Value} (h:w.var? Tryz.prog n=some x) (hb:Below w.heap.size w W):W.var? Tryz.prog n=some x:=by
 unfold World.var? at h ⊢
 cases hg:Tryz.prog.globalNamed n with
 | none=>rw [hg] at h;cases h
 | some g=>
  rw [hg] at h
  simp only [Option.bind_some] at h ⊢
  cases hw:w.heap[g]? with
  | none=>rw [hw] at h;cases h
  | some o=>rw [keepblk hb hw];rw [hw] at h;exact h
theorem VW.below {w W:World} (h:VW w) (hb:Below w.heap.size w W):VW W:=by
 obtain ⟨h1,⟨t2,p2,h2⟩,⟨t3,p3,h3⟩⟩:=h
 exact ⟨tab_below h1 hb,⟨t2,p2,var_below h2 hb⟩,⟨t3,p3,var_below h3 hb⟩⟩
theorem atoi_any (l:List UInt8) (w:World) (hs:l.length≤16384) (hv:VW w) :
  Calls Tryz.prog 161 #[.string ⟨l.toArray⟩] w fun e w'=>(∃ (v:Int) (r:Value),e=.returned (.tuple #[.int .i64 v,r])∧((Lib.atoiAll l=.ok v∧r=.nilIface)∨((∀ u,Lib.atoiAll l≠.ok u)∧∃ t p,r=.iface t p)))∧Below w.heap.size w w':=by
 have hz:(ByteArray.mk l.toArray).size=l.length:=by simp [ByteArray.size]
 cases h:Lib.atoiAll l with
 | ok v=>
  refine (Any.strconv_Atoi_ok Tryz.l172 ⟨l.toArray⟩ (by rw [hz];omega) v h w).mono fun e w' ⟨he,hw⟩=>⟨⟨v,.nilIface,he,.inl ⟨rfl,rfl⟩⟩,?_⟩
  rcases hw with rfl | ⟨t,rfl⟩
  ·exact Below.refl _ _
  ·exact Lib.bytesWorld_below _ _ _
 | «syntax»=>
  obtain ⟨tp,p,hp⟩:=hv.syn
  exact (Any.strconv_Atoi_syntax_var Tryz.l172 ⟨l.toArray⟩ (by rw [hz];omega) h tp p w hp).mono fun e w' ⟨N,he,_,_,hb⟩=>⟨⟨_,_,he,.inr ⟨fun u hu=>(by cases hu),⟨_,_,rfl⟩⟩⟩,hb⟩
 | range=>
  obtain ⟨tp,p,hp⟩:=hv.rng
  exact (Any.strconv_Atoi_range_var Tryz.l172 ⟨l.toArray⟩ (by rw [hz];omega) h tp p w hp).mono fun e w' ⟨N,he,_,_,hb⟩=>⟨⟨_,_,he,.inr ⟨fun u hu=>(by cases hu),⟨_,_,rfl⟩⟩⟩,hb⟩
theorem decN_no {l:List UInt8} {m:Nat} (hm:m≤4294967295) (h:∀ n:Nat,Lib.atoiAll l=.ok (n:Int)→n≤m→l=Lib.decDigits n→False):decN l m=none:=by
 cases hd:decN l m with
 | none=>rfl
 | some n=>
  obtain ⟨h1,h2⟩:=(decN_iff l m n (by omega)).1 hd
  exact absurd (h n (by rw [h1];exact atoi_dec n (by omega)) h2 h1) id
set_option maxRecDepth 100000 in
theorem decimalOf_any (l:List UInt8) (m:Nat) (w:World) (hs:l.length≤16384) (hm:m≤4294967295) (hv:VW w) :
  Calls Tryz.prog 156 #[.string ⟨l.toArray⟩,.int .i64 (m:Int)] w fun e w'=>(∃ v:Int,e=.returned (.tuple #[.int .i64 v,.bool (decN l m).isSome])∧∀ n,decN l m=some n→v=n)∧Below w.heap.size w w':=by
 have HV:Hid (VW w):=hv
 have HA:=atoi_any l w hs hv
 clear hv
 go_enter Tryz.func156,Tryz.ntmps156
 go_wp2_with fail
 refine HA.mono ?_
 rintro e w1 ⟨⟨v,r,rfl,hr⟩,hb1⟩
 rcases hr with ⟨ho,rfl⟩ | ⟨hn,t,p,rfl⟩
 ·by_cases h0:0≤v
  ·by_cases h1:v≤(m:Int)
   ·obtain ⟨k,rfl⟩:∃ k:Nat,v=k:=⟨v.toNat,by omega⟩
    go_wp2_with fail
    refine (itoa_any k (by omega) w1 (HV.out.below hb1).pow).mono ?_
    rintro e w2 ⟨rfl,hb2⟩
    by_cases hE:Lib.decDigits k=l
    ·have hd:Hid (decN l m=some k):=by unfold Hid;rw [decN_iff _ _ _ (by omega),←hE];exact ⟨rfl,by omega⟩
     go_wp2
     go_ret2
     rw [hd.out]
     exact ⟨⟨_,rfl,fun n hn=>by injection hn with hn;rw [hn]⟩,bel0 hb1 hb2⟩
    ·have hd:Hid (decN l m=none):=decN_no hm (fun n a b c=>hE (by
      rw [ho] at a
      injection a with a
      have:k=n:=by omega
      subst this
      exact c.symm))
     have hE2:(Lib.decDigits k==l)=false:=beq_eq_false_iff_ne.2 hE
     go_wp2
     go_ret2
     rw [hd.out]
     exact ⟨⟨_,rfl,fun n hn=>by cases hn⟩,bel0 hb1 hb2⟩
   ·have hd:Hid (decN l m=none):=decN_no hm (fun n a b c=>by
     rw [ho] at a
     injection a with a
     omega)
    go_wp2
    go_ret2
    rw [hd.out]
    exact ⟨⟨_,rfl,fun n hn=>by cases hn⟩,hb1⟩
  ·have hd:Hid (decN l m=none):=decN_no hm (fun n a b c=>by
    rw [ho] at a
    injection a with a
    omega)
   go_wp2
   go_ret2
   rw [hd.out]
   exact ⟨⟨_,rfl,fun n hn=>by cases hn⟩,hb1⟩
 ·have hd:Hid (decN l m=none):=decN_no hm (fun n a b c=>hn _ a)
  go_wp2
  go_ret2
  rw [hd.out]
  exact ⟨⟨_,rfl,fun n hn=>by cases hn⟩,hb1⟩
end Go.Proofs.YtciffggmobblpaaGreatDoor
