import Derived.Test.YtbplhianpelmfaaGreatDoorXBM
import Derived.RangeFuncSeq
namespace Go.Proofs.YtbplhianpelmfaaGreatDoor.Nt
open Go.RowKit Go.Shelf
structure JW (J:List WY→World→Prop) (Jx:World→Prop):Prop where
 below:∀ o W W',J o W→Below W.heap.size W W'→J o W'
 belowx:∀ W W',Jx W→Below W.heap.size W W'→Jx W'
def YLW (A:List WY) (J:List WY→World→Prop) (Jx:World→Prop) (l m:Nat):Prop:=∀ (o:List WY) (W:World) (x:WY) (v:PV),J o W→PL W (x,v)→(o++[x]) <+: A→YieldAt Fence.wide m Tryz.prog l #[.agg (paC (x,v)).toArray] W fun e W'=>(KQ KTY W W'∧W.heap.size≤W'.heap.size)∧((e=.returned (.bool true)∧J (o++[x]) W')∨(e=.returned (.bool false)∧Jx W'))
def WKQ (J:List WY→World→Prop) (Jx:World→Prop) (o R:List WY) (W:World) (e:Ending) (W':World):Prop:=(KQ KTY W W'∧W.heap.size≤W'.heap.size)∧((e=.returned (.bool true)∧J (o++R) W')∨(e=.returned (.bool false)∧Jx W'))
theorem kq_int {W U:World} (h:KQ KTY W U):∀ (b:Nat) (cs:Array Value) (fr:Nat×Nat),W.heap[b]?=some (.cells cs 3 fr)→U.heap[b]?=some (.cells cs 3 fr):=fun b cs fr hb=>h b 3 cs fr (by decide) hb
theorem kq_nty {W U:World} (h:KQ KTY W U):KQ NTY W U:=h.less (fun _ hT=>List.mem_cons_of_mem _ (List.mem_cons_of_mem _ hT))
theorem pre_take {o A:List WY} {X:List WY} {sub:WY→List WY} {k:Nat} {x:WY} (h:(o++X.flatMap sub) <+: A) (hx:X[k]?=some x):((o++(X.take k).flatMap sub)++sub x) <+: A:=by
 refine List.IsPrefix.trans ?_ h
 have e:X.flatMap sub=((X.take k).flatMap sub++sub x)++(X.drop (k+1)).flatMap sub:=by
  have h1:X=X.take (k+1)++X.drop (k+1):=(List.take_append_drop _ _).symm
  conv=>lhs;rw [h1]
  rw [List.flatMap_append,List.take_add_one,hx,List.flatMap_append]
  simp
 rw [e]
 exact ⟨(X.drop (k+1)).flatMap sub,by simp only [List.append_assoc]⟩
theorem flat_next {X:List WY} {sub:WY→List WY} {k:Nat} {x:WY} (o:List WY) (hx:X[k]?=some x):(o++(X.take k).flatMap sub)++sub x=o++(X.take (k+1)).flatMap sub:=by
 rw [List.take_add_one,hx,List.flatMap_append]
 simp
end Go.Proofs.YtbplhianpelmfaaGreatDoor.Nt
