import PyProof.Rows.All
import Wide.All
import PyProof.EqAt
import PyProof.WalkInts
import OpenK.AllK
import Wide.FinOn
import Lean
import PyProof.EqKinds
import PyProof.TupleCall
import PyProof.EnumMake
import PyProof.Draws
import PyProof.Rows.MatchSeqLen
import PyProof.StrLawsTight
import PyProof.StrLawsChain
import KE.IntTextText
import PyProof.JoinWalk
import PyProof.Rows.StrWeight2
import PyProof.StrBlock2
import PyProof.FString
import PyProof.StrLawsOcc
import KE.KIntText
import PyProof.SliceStr2
import PyProof.FString5
import KE.KDictSum
import PyProof.Rows.SortStr
import KE.KDictOf
import PyProof.DictIter
import KE.KTops
import PySem.Challenge.RW_wholefract_k91_benches_and_deeds
set_option Elab.async false
set_option linter.all false
set_option maxRecDepth 100000
set_option maxHeartbeats 4000000
namespace gH
open PySem PyProof.Rows
def In (A:Around) (h:Heap):Prop:=A.handled=none \/ ∃ (e:Addr) (bQ:Obj) (vs:Array Value),A.handled=some (.ref e)/\h.get? e=some bQ/\bQ.data=.fields vs/\vs[2]?=some .none
theorem In.kept {A:Around} {h g:Heap} (a:In A h) (k : ∀ b o,h.get? b=some o->g.get? b=some o):In A g :=
 a.imp id λ ⟨e,bQ,vs,af,ai,r⟩=>⟨e,bQ,vs,af,k _ _ ai,r⟩
theorem In.but {A:Around} {h g:Heap} {j:Addr} {o:Obj} (a:In A h) (aG:h.get? j=some o) (no : ∀ vs,o.data=.fields vs->vs[2]?≠some .none) (k:Heap.ExtBut j h g):In A g :=
 a.imp id λ ⟨e,bQ,vs,af,ai,aF,aX⟩=>⟨e,bQ,vs,af,k e bQ (λ z=>by subst z;rw [aG] at ai;cases ai;exact no vs aF aX) ai,aF,aX⟩
theorem CI {a b:Value} : ∀ vs,Data.fields #[a,b]=Data.fields vs->vs[2]?≠some .none:=λ vs e=>by
 injection e with e;subst e;exact λ z=>nomatch z
theorem yJ (t:Addr) : ¬ ((Value.ref t == Value.none)=true):=Bool.false_ne_true
section
variable {prog:Program} {w:World} {A:Around} {E:Value->Shared->Prop} {s:Shared}
theorem We {α : Type} {a h:Addr} {o FX:Obj} {vs az:Array Value} {Q : α -> Shared->Prop} (bU:A.handled=some (.ref h)) (ne:h≠a)
  (aG:s.heap.get? a=some o) (hd:o.data=.fields vs) (a9:2<vs.size) (Pm:s.heap.get? h=some FX) (O4:FX.data=.fields az) (ai:az[2]?=some .none)
  (q:E (.ref a) { s with heap:=s.heap.update a (Obj.mapFields (·.setIfInBounds 2 (.ref h))) }):wpAny (model prog w) A (raiseNew (.ref a):Sem α) Q E s:=by
 unfold raiseNew;refine wpAny_bind (wpAny_handled ?_);rw [bU];dsimp only;rw [if_pos (by simpa using ne)];refine wpAny_bind (wpAny_holding (runValue_entry (b:=Builtin.«proto.unchain») (entryFor_of_tree (by kernel_rfl)) ?_));unfold Builtin.«proto.unchain»;dsimp only;refine wpAny_bind (wpAny_field Pm O4 ai ?_);rw [if_pos (show (Value.none == Value.none)=true from rfl)];refine wpAny_pure ⟨.none,rfl,?_⟩;refine wpAny_bind ?_;unfold updateField;refine wpAny_bind (wpAny_load aG ?_);rw [hd];dsimp only;rw [if_pos a9];refine wpAny_update aG ?_;exact wpAny_throw q
theorem stop {α : Type} {Q : α -> Shared->Prop} (bU:In A s.heap)
  (q : ∀ g e,(∀ b o,s.heap.get? b=some o->g.get? b=some o)->(∃ o,g.get? e=some o/\o.cls=.type "StopIteration")->E (.ref e) { s with heap:=g }) :
  wpAny (model prog w) A ((newExc (.type "StopIteration") []>>=λ x=>raiseNew x):Sem α) Q E s:=by
 refine wpAny_bind ?_;simp only [newExc,newTuple];refine wpAny_bind (wpAny_newObj_type (wpAny_bind (m:=firstArgMember _ _) (wpAny_of_eq (a:=Value.none) (by first | rfl | (simp only [firstArgMember];rfl)) (wpAny_newObj_type ?_ (by size_fits)))) (by size_fits));rcases bU with bU | ⟨e,bQ,vs,af,ai,aF,aX⟩
 ·exact wpAny_raiseNew_none bU (q _ _ (λ b o y=>Heap.get?_push_of_some _ (Heap.get?_push_of_some _ y)) ⟨_,Heap.get?_push_size _ rfl,rfl⟩)
 ·have lt:=Heap.lt_size ai;refine We af (Nat.ne_of_lt (Nat.lt_of_lt_of_le lt (by rw [Heap.size_push];exact Nat.le_succ _))) (Heap.get?_push_size _ rfl) rfl (by simp;omega) (Heap.get?_push_of_some _ (Heap.get?_push_of_some _ ai)) aF aX ?_;refine q _ _ (λ b o y=>?_) ⟨_,Heap.get?_update_self _ (Heap.get?_push_size _ rfl) (Obj.isFreed_of_fields (Obj.data_mapFields rfl _)),(Obj.cls_mapFields ..).trans rfl⟩;have nR:=Heap.lt_size y;refine (Heap.get?_update_other _ _ ?_).trans (Heap.get?_push_of_some _ (Heap.get?_push_of_some _ y));intro z;rw [Heap.size_push] at z;subst z;exact Nat.lt_irrefl _ (Nat.lt_of_succ_lt nR)
theorem KQ {it l:Addr} {i:Nat} {items:Array Value} {Q:Fin->Shared->Prop} (bU:In A s.heap) (hit:s.heap.IsListIter it l i) (au:s.heap.IsList l items) (ak:items[i]?=none)
  (q : ∀ g e,Heap.ExtBut it s.heap g->(∃ o,g.get? e=some o/\o.cls=.type "StopIteration")->E (.ref e) { s with heap:=g }) :
  wpAny (model prog w) A (Builtin.«list_iterator.__next__» ⟨[.ref it],[]⟩) Q E s:=by
 obtain ⟨o,aG,aj,hd⟩:=id hit;obtain ⟨ol,l9,_,nl,AP⟩:=au;show wpAny _ _ (field (.ref it) 0>>=_) _ _ s;refine wpAny_bind (wpAny_field aG hd (x:=.ref l) rfl ?_);show wpAny _ _ (ite ((Value.ref l == Value.none)=true) _ _) _ _ s;rw [if_neg (yJ _)];show wpAny _ _ (field (.ref it) 1>>=_) _ _ s;refine wpAny_bind (wpAny_field aG hd (x:=.int i 0) rfl ?_);show wpAny _ _ (seqItems? (.ref l)>>=_) _ _ s;refine wpAny_bind (wpAny_seqItems l9 AP ?_);simp only [Int.toNat_natCast,ak];refine wpAny_bind (wpAny_rule (wpAny_bind (wpAny_setField aG hd (by simp) ?_)));have k:=(Heap.SameBut.update s.heap it (Obj.mapFields (·.setIfInBounds 0 .none))).extBut;exact stop (bU.but aG (by rw [hd];exact CI) k) λ g e a_ x=>q g e (λ b o nb y=>a_ b o (k b o nb y)) x
theorem Kg {it t:Addr} {i:Nat} {items:Array Value} {Q:Fin->Shared->Prop} (bU:In A s.heap) (hit:s.heap.IsTupleIter it t i) (au:s.heap.IsTuple t items) (ak:items[i]?=none)
  (q : ∀ g e,Heap.ExtBut it s.heap g->(∃ o,g.get? e=some o/\o.cls=.type "StopIteration")->E (.ref e) { s with heap:=g }) :
  wpAny (model prog w) A (Builtin.«tuple_iterator.__next__» ⟨[.ref it],[]⟩) Q E s:=by
 obtain ⟨o,aG,aj,hd⟩:=id hit;obtain ⟨ol,l9,_,nl,AP⟩:=au;show wpAny _ _ (field (.ref it) 0>>=_) _ _ s;refine wpAny_bind (wpAny_field aG hd (x:=.ref t) rfl ?_);show wpAny _ _ (ite ((Value.ref t == Value.none)=true) _ _) _ _ s;rw [if_neg (yJ _)];show wpAny _ _ (field (.ref it) 1>>=_) _ _ s;refine wpAny_bind (wpAny_field aG hd (x:=.int i 0) rfl ?_);show wpAny _ _ (seqItems? (.ref t)>>=_) _ _ s;refine wpAny_bind (wpAny_seqItems l9 AP ?_);simp only [Int.toNat_natCast,ak];refine wpAny_bind (wpAny_rule (wpAny_bind (wpAny_setField aG hd (by simp) ?_)));have k:=(Heap.SameBut.update s.heap it (Obj.mapFields (·.setIfInBounds 0 .none))).extBut;exact stop (bU.but aG (by rw [hd];exact CI) k) λ g e a_ x=>q g e (λ b o nb y=>a_ b o (k b o nb y)) x
theorem JY {it l:Addr} {i:Nat} {items:Array Value} {Q:Option Value->Shared->Prop} (bU:In A s.heap) (hit:s.heap.IsListIter it l i) (au:s.heap.IsList l items) (ak:items[i]?=none)
  (q : ∀ g,Heap.ExtBut it s.heap g->Q none { s with heap:=g }):wpAny (model prog w) A (pyNext (.ref it)) Q E s:=by
 unfold pyNext;refine wpAny_bind (wpAny_attempt (wpAny_callSpecial?_slot (name:=Str.ofString "__next__") hit.typeIs slot_listiter_next (wpAny_call_entry slot_listiter_next hit.typeIs entry_listiter_next ?_ (args_listiter_next _))));exact KQ (A:=A.in1) bU hit au ak λ g e a_ ⟨o,aG,aj⟩=>wpAny_bind (wpAny_isInstance (T := "StopIteration") (b:=true) ⟨o,aG,aj⟩ isSubtype_stop (wpAny_pure (q g a_)))
theorem C0 {it t:Addr} {i:Nat} {items:Array Value} {Q:Option Value->Shared->Prop} (bU:In A s.heap) (hit:s.heap.IsTupleIter it t i) (au:s.heap.IsTuple t items) (ak:items[i]?=none)
  (q : ∀ g,Heap.ExtBut it s.heap g->Q none { s with heap:=g }):wpAny (model prog w) A (pyNext (.ref it)) Q E s:=by
 unfold pyNext;refine wpAny_bind (wpAny_attempt (wpAny_callSpecial?_slot (name:=Str.ofString "__next__") hit.typeIs F.slot_tuple_iterator_next (wpAny_call_entry F.slot_tuple_iterator_next hit.typeIs F.entry_tuple_iterator_next ?_ (F.args_tuple_iterator_next_1 _))));exact Kg (A:=A.in1) bU hit au ak λ g e a_ ⟨o,aG,aj⟩=>wpAny_bind (wpAny_isInstance (T := "StopIteration") (b:=true) ⟨o,aG,aj⟩ isSubtype_stop (wpAny_pure (q g a_)))
theorem XK {it l:Addr} {i:Nat} {items:Array Value} {Q:Value->Shared->Prop} (bU:In A s.heap) (hit:s.heap.IsListIter it l i) (au:s.heap.IsList l items) (ak:items[i]?=none)
  (q : ∀ g e,Heap.ExtBut it s.heap g->(∃ o,g.get? e=some o/\o.cls=.type "StopIteration")->E (.ref e) { s with heap:=g }):wpAny (model prog w) A (Builtin.SmallTypes.nextOf (.ref it)) Q E s:=by
 unfold Builtin.SmallTypes.nextOf;exact wpAny_bind (wpAny_callSpecial?_slot (name:=Str.ofString "__next__") hit.typeIs slot_listiter_next (wpAny_call_entry slot_listiter_next hit.typeIs entry_listiter_next (KQ (A:=A.in1) bU hit au ak q) (args_listiter_next _)))
theorem WX {it t:Addr} {i:Nat} {items:Array Value} {Q:Value->Shared->Prop} (bU:In A s.heap) (hit:s.heap.IsTupleIter it t i) (au:s.heap.IsTuple t items) (ak:items[i]?=none)
  (q : ∀ g e,Heap.ExtBut it s.heap g->(∃ o,g.get? e=some o/\o.cls=.type "StopIteration")->E (.ref e) { s with heap:=g }):wpAny (model prog w) A (Builtin.SmallTypes.nextOf (.ref it)) Q E s:=by
 unfold Builtin.SmallTypes.nextOf;exact wpAny_bind (wpAny_callSpecial?_slot (name:=Str.ofString "__next__") hit.typeIs F.slot_tuple_iterator_next (wpAny_call_entry F.slot_tuple_iterator_next hit.typeIs F.entry_tuple_iterator_next (Kg (A:=A.in1) bU hit au ak q) (F.args_tuple_iterator_next_1 _)))
theorem VS {e it l:Addr} {i:Nat} {items:Array Value} {old:Value} {Q:Option Value->Shared->Prop} (bU:In A s.heap) (he:IsEnum s.heap e it i old) (hit:s.heap.IsListIter it l i) (au:s.heap.IsList l items) (ak:items[i]?=none)
  (q : ∀ g,Heap.ExtBut it s.heap g->Q none { s with heap:=g }):wpAny (model prog w) A (pyNext (.ref e)) Q E s:=by
 have ty:s.TypeIs (.ref e) "enumerate" := ⟨_,he,rfl⟩
 unfold pyNext;refine wpAny_bind (wpAny_attempt (wpAny_callSpecial?_slot (name:=Str.ofString "__next__") ty F.slot_enumerate_next (wpAny_call_entry F.slot_enumerate_next ty F.entry_enumerate_next ?_ (F.args_enumerate_next_1 _))));show wpAny _ _ (field (.ref e) 2>>=_) _ _ _;refine wpAny_bind (wpAny_field he rfl (x:=.ref it) rfl (wpAny_bind (XK (A:=A.in1) bU hit au ak λ g x a_ ⟨o,aG,aj⟩=>?_)));exact wpAny_bind (wpAny_isInstance (T := "StopIteration") (b:=true) ⟨o,aG,aj⟩ isSubtype_stop (wpAny_pure (q _ a_)))
theorem items {t:Addr} {items:Array Value} {Q:List Value->Shared->Prop} (bU:In A s.heap) (aW:IsTup s.heap t items)
  (q : ∀ g,Heap.ExtBut s.heap.objs.size s.heap g->Q items.toList { s with heap:=g }):wpAny (model prog w) A (unpackItems (.ref t) items.size none) Q E s:=by
 have lt:t≠s.heap.objs.size:=by
  obtain ⟨o,aG,_⟩:=aW;exact Nat.ne_of_lt (Heap.lt_size aG)
 unfold unpackItems;refine wpAny_bind ?_;unfold notIterableAtAll;refine wpAny_bind (wpAny_specialOf aW.typeIs slot_tuple_iter.lookup (wpAny_pure ?_));simp only [Bool.false_eq_true,if_false];refine wpAny_bind (wpAny_holding (iter_tuple aW (wpAny_bind (wpAny_holding (draw_tuple lt items.size 0 _ _ ⟨_,Heap.get?_push_size _ rfl,rfl,rfl⟩ (aW.push _) (by omega) λ g1 iD s1=>?_)))));rw [show List.take items.size (List.drop 0 items.toList)=items.toList by rw [List.drop_zero];exact List.take_of_length_le (by simp),if_neg (by simp)];have t1:IsTup g1 t items:=(aW.push _).extBut s1.extBut lt;have a_ : ∀ b o,s.heap.get? b=some o->g1.get? b=some o:=λ b o y=>s1.extBut b o (Nat.ne_of_lt (Heap.lt_size y)) (Heap.get?_push_of_some _ y)
 refine wpAny_bind (wpAny_holding (C0 (bU.kept a_) (show Heap.IsTupleIter g1 s.heap.objs.size t (0+items.size) from iD) (show Heap.IsTuple g1 t items from t1) (by simp) λ g2 aQ=>?_));simp only [Option.isSome_none,Bool.false_eq_true,if_false];exact wpAny_pure (q g2 λ b o nb y=>aQ b o nb (a_ b o y))
theorem WW {env:Env} {elts:List Expr} {k} {pos:Pos} {t:Addr} {items:Array Value} {Q:Unit->Shared->Prop} (bU:In A s.heap) (aW:IsTup s.heap t items)
  (aD:(assignEach elts env).length=items.size) (az:(assignEach elts env).findIdx? (·.1)=none)
  (h : ∀ g,Heap.ExtBut s.heap.objs.size s.heap g->wpAny (model prog w) A (assignInOrder ((assignEach elts env).map (·.2)) items.toList) Q E { s with heap:=g }) :
  wpAny (model prog w) A (assign (.Tuple elts k pos) env (.ref t)) Q E s:=by
 rw [assign_Tuple];refine wpAny_bind (wpAny_standAt ?_);unfold unpack;rw [aD,az];exact wpAny_bind (wpAny_holding (gH.items bU aW h))
end
theorem YI {prog:Program} {w:World} {A:Around} {e:Addr} {bQ:Obj} {vs:Array Value} (af:A.handled=some (.ref e)) (aF:bQ.data=.fields vs) (aX:vs[2]?=some .none) (I lT:Addr) (fF:lT≠I) (n6:e≠I) (items:Array Value) :
  Walks prog w A I [I,lT,e] [I] items.size (λ i v=>items[i]?=some v) (λ i h=>h.IsListIter I lT i/\h.IsList lT items/\h.get? e=some bQ) where
 sub:=λ b J=>by simp at J;simp [J]
 frame:=λ _ _ _ st aB=>⟨st.1.at λ o y=>aB I (by simp) o y,st.2.1.at λ o y=>aB lT (by simp) o y,aB e (by simp) _ st.2.2⟩
 item:=λ i s Q E ay st gf=>by
  refine wpAny_pyNext_list_item st.1 st.2.1 (x:=items[i]) (by simp [ay]) λ g Bj cR=>?_
  exact gf _ g s.toks (by simp [ay]) ⟨Bj,st.2.1.extBut cR.extBut fF,cR.extBut _ _ n6 st.2.2⟩ λ b o J y=>cR.extBut b o (λ z=>J (by simp [z])) y
 done:=λ s Q E st gf=>JY (.inr ⟨e,bQ,vs,af,st.2.2,aF,aX⟩) st.1 st.2.1 (by simp) λ g ed=>gf g s.toks λ b o J y=>ed b o (λ z=>J (by simp [z])) y
 self:=λ _ _ _ _ st gf=>wpAny_pyIter_listiter st.1 gf
theorem ZK {prog:Program} {w:World} {A:Around} {e:Addr} {bQ:Obj} {vs:Array Value} (af:A.handled=some (.ref e)) (aF:bQ.data=.fields vs) (aX:vs[2]?=some .none) (I lT:Addr) (fF:lT≠I) (n6:e≠I) (items:Array Value) :
  Walks prog w A I [I,lT,e] [I] items.size (λ i v=>items[i]?=some v) (λ i h=>h.IsTupleIter I lT i/\h.IsTuple lT items/\h.get? e=some bQ) where
 sub:=λ b J=>by simp at J;simp [J]
 frame:=λ _ _ _ st aB=>⟨st.1.at λ o y=>aB I (by simp) o y,st.2.1.at λ o y=>aB lT (by simp) o y,aB e (by simp) _ st.2.2⟩
 item:=λ i s Q E ay st gf=>by
  refine wpAny_pyNext_tuple_item st.1 st.2.1 (x:=items[i]) (by simp [ay]) λ g Bj cR=>?_
  exact gf _ g s.toks (by simp [ay]) ⟨Bj,st.2.1.extBut cR.extBut fF,cR.extBut _ _ n6 st.2.2⟩ λ b o J y=>cR.extBut b o (λ z=>J (by simp [z])) y
 done:=λ s Q E st gf=>C0 (.inr ⟨e,bQ,vs,af,st.2.2,aF,aX⟩) st.1 st.2.1 (by simp) λ g ed=>gf g s.toks λ b o J y=>ed b o (λ z=>J (by simp [z])) y
 self:=λ _ _ _ _ st gf=>wpAny_pyIter_tupleiter st.1 gf
section
variable {prog:Program} {w:World} {A:Around} {E:Value->Shared->Prop} {s:Shared}
theorem max2 {a b:Int} {t u:Tok} {Q:Value->Shared->Prop} (bU:In A s.heap)
  (h : ∀ g bw,(∀ c o,s.heap.get? c=some o->g.get? c=some o)->Q (if b > a then .int b u else .int a t) { s with heap:=g,toks:=bw }) :
  wpAny (model prog w) A (call (.builtin "max") [.int a t,.int b u]) Q E s:=by
 rcases bU with bU | ⟨e,bQ,vs,af,ai,aF,aX⟩
 ·exact max_two_ints bU h
 have bJ:(s.heap.push { cls:=.type "tuple", data:=.seq #[.int a t,.int b u] }).IsTuple s.heap.objs.size (intItems #[(a,t),(b,u)]):=⟨_,Heap.get?_push_size _ rfl,rfl,0,by simp [intItems]⟩
 have lt:=Heap.lt_size ai;have hsz:(s.heap.push { cls:=.type "tuple", data:=.seq #[.int a t,.int b u] }).objs.size=s.heap.objs.size+1:=Heap.size_push ..;refine call_max_two (wpAny_pyIter_tuple bJ ⟨_,[_,s.heap.objs.size,e],[_],_,_,_,_,rfl,ZK (A:=A.in1) af aF aX _ s.heap.objs.size (by rw [hsz];exact Nat.ne_of_lt (Nat.lt_succ_self _)) (by rw [hsz];exact Nat.ne_of_lt (Nat.lt_succ_of_lt lt)) (intItems #[(a,t),(b,u)]),
  ⟨⟨_,Heap.get?_push_size _ rfl,rfl,rfl⟩,bJ.push _,Heap.get?_push_of_some _ (Heap.get?_push_of_some _ ai)⟩,λ c aj=>?_,by simp [intItems],CmpOf.ints_gt (numAt #[(a,t),(b,u)]) (λ _ _=>intItems_at),λ v g bw c4 aB=>?_⟩)
 ·have e5:((s.heap.push { cls:=.type "tuple", data:=.seq #[.int a t,.int b u] }).push { cls:=.type "tuple_iterator", data:=.fields #[.ref s.heap.objs.size,.int 0 0] }).objs.size=s.heap.objs.size+2:=by rw [Heap.size_push,hsz]
  show c<((s.heap.push _).push _).objs.size;rw [e5];simp only [List.mem_cons,List.not_mem_nil,or_false,hsz] at aj;rcases aj with aj | aj | aj
  ·rw [aj];exact Nat.lt_succ_self _
  ·rw [aj];exact Nat.lt_succ_of_lt (Nat.lt_succ_self _)
  ·rw [aj];exact Nat.lt_succ_of_lt (Nat.lt_succ_of_lt lt)
 ·have hold : ∀ c o,s.heap.get? c=some o->g.get? c=some o:=λ c o y=>aB c o (λ hm=>by
   have aO:=List.mem_singleton.mp hm;have:=Heap.lt_size y;rw [aO,hsz] at this;exact Nat.lt_irrefl _ (Nat.lt_of_succ_lt this)) (Heap.get?_push_of_some _ (Heap.get?_push_of_some _ y))
  have mK:(intItems #[(a,t),(b,u)])[argBest (λ i j=>decide (numAt #[(a,t),(b,u)] i > numAt #[(a,t),(b,u)] j)) 1]?=some v:=by
   have RF:(intItems #[(a,t),(b,u)]).size - 1=1:=by simp [intItems]
   rw [<-RF];exact c4
  have bf:v=if b > a then Value.int b u else Value.int a t:=by
   by_cases xk:b > a
   ·rw [show argBest (λ i j=>decide (numAt #[(a,t),(b,u)] i > numAt #[(a,t),(b,u)] j)) 1=1 by simp [argBest,numAt,xk]] at mK;simpa [intItems,xk] using mK.symm
   ·rw [show argBest (λ i j=>decide (numAt #[(a,t),(b,u)] i > numAt #[(a,t),(b,u)] j)) 1=0 by simp [argBest,numAt,xk]] at mK;simpa [intItems,xk] using mK.symm
  rw [bf];exact h g bw hold
end
end gH
namespace bI
open PySem PySem.Spec PyProof.Rows
abbrev Key:=Sum Int Str
def pR:Key->Value->Bool
 | .inl k,v=>Value.isInt k v
 | .inr x,v=>Value.isStrOf x v
def RI (w:World):Key->Int
 | .inl k=>hashInt k
 | .inr x=>hashStr w x
theorem mz : ∀ {k:Key} {v:Value},pR k v=true->(∃ i t,k=Sum.inl i/\v=Value.int i t)\/(∃ x t,k=Sum.inr x/\v=Value.str x t)
 | .inl i,v,h=>by
  obtain ⟨t,e⟩:=Value.isInt_shape (k:=i) (v:=v) h;exact .inl ⟨i,t,rfl,e⟩
 | .inr x,v,h=>by
  obtain ⟨t,e⟩:=Value.isStrOf_shape (x:=x) (v:=v) h;exact .inr ⟨x,t,rfl,e⟩
theorem XB (i:Int) (t:Tok):pR (.inl i) (.int i t)=true:=by simp [pR,Value.isInt]
theorem XC (x:Str) (t:Tok):pR (.inr x) (.str x t)=true:=by simp [pR,Value.isStrOf]
theorem S9 (a b:Int):decide ((Sum.inl a:Key)=Sum.inl b)=(a == b):=by
 by_cases e:a=b
 ·subst e;simp
 ·have h : ¬ (Sum.inl a:Key)=Sum.inl b:=λ q=>e (Sum.inl.inj q)
  rw [decide_eq_false h];exact (beq_eq_false_iff_ne.mpr e).symm
theorem Tb (a b:Str):decide ((Sum.inr a:Key)=Sum.inr b)=decide (a=b):=by
 by_cases e:a=b
 ·subst e;simp
 ·have h : ¬ (Sum.inr a:Key)=Sum.inr b:=λ q=>e (Sum.inr.inj q)
  rw [decide_eq_false h,decide_eq_false e]
theorem S_ (a:Int) (b:Str):decide ((Sum.inl a:Key)=Sum.inr b)=false:=decide_eq_false (λ q=>nomatch q)
theorem Ta (a:Str) (b:Int):decide ((Sum.inr a:Key)=Sum.inl b)=false:=decide_eq_false (λ q=>nomatch q)
def gZ (prog:Program) (w:World):PySem.KeyKind prog w Key where
 is:=pR
 hash:=RI w
 inj:=λ v a b aw J=>by
  rcases mz aw with ⟨i,t,rfl,rfl⟩ | ⟨x,t,rfl,rfl⟩
  ·rcases mz J with ⟨j,u,rfl,e⟩ | ⟨y,u,rfl,e⟩
   ·injection e with aO _;rw [aO]
   ·exact nomatch e
  ·rcases mz J with ⟨j,u,rfl,e⟩ | ⟨y,u,rfl,e⟩
   ·exact nomatch e
   ·injection e with aO _;rw [aO]
 byValue:=λ k v h=>by
  rcases mz h with ⟨i,t,rfl,rfl⟩ | ⟨x,t,rfl,rfl⟩<;>rfl
 pyHash:=λ bf h=>by
  rcases mz bf with ⟨i,t,rfl,rfl⟩ | ⟨x,t,rfl,rfl⟩
  ·exact wpAny_pyHash_int h
  ·exact wpAny_pyHash_str h
 eqBool:=λ bD bf h=>by
  rcases mz bD with ⟨i,t,rfl,rfl⟩ | ⟨x,t,rfl,rfl⟩
  ·rcases mz bf with ⟨j,u,rfl,rfl⟩ | ⟨y,u,rfl,rfl⟩
   ·rw [S9] at h;exact wpAny_eqBool_int h
   ·rw [S_] at h;exact SeqAt.EqAt.int_str i t y u _ _ _ _ h
  ·rcases mz bf with ⟨j,u,rfl,rfl⟩ | ⟨y,u,rfl,rfl⟩
   ·rw [Ta] at h;exact SeqAt.EqAt.str_int x t j u _ _ _ _ h
   ·rw [Tb] at h;exact wpAny_eqBool_str h
 «strs» := λ k x t v h=>by
  rcases mz h with ⟨i,u,rfl,e⟩ | ⟨y,u,rfl,e⟩
  ·exact nomatch e
  ·injection e with aO _;subst aO;cases v<;>rfl
theorem ZV (prog:Program) (w:World) (i:Int) (t:Tok):(gZ prog w).is (.inl i) (.int i t)=true:=XB i t
theorem Lw (prog:Program) (w:World) (x:Str) (t:Tok):(gZ prog w).is (.inr x) (.str x t)=true:=XC x t
inductive V where
 | bg | aJ (b:Bool) | int (i:Int) | str (x:Str) | iB (b:Array UInt8) | hi (b:UInt64) | ref (a:Addr) | ty (n:String)
 deriving DecidableEq
def RelV:V->Value->Prop
 | .bg,u=>u=Value.none
 | .aJ b,u=>u=Value.bool b
 | .int i,u => ∃ t,u=Value.int i t
 | .str x,u => ∃ t,u=Value.str x t
 | .iB b,u => ∃ t,u=Value.bytes b t
 | .hi b,u => ∃ t,u=Value.float b t
 | .ref a,u=>u=Value.ref a
 | .ty n,u=>u=Value.type n
abbrev Vals:List V->List Value->Prop:=Paired RelV
theorem Vals.length {xs:List V} {us:List Value} (r:Vals xs us):xs.length=us.length:=Paired.length r
theorem Vals.get : ∀ {xs:List V} {us:List Value} {i:Nat} {x:V},Vals xs us->xs[i]?=some x -> ∃ u,us[i]?=some u/\RelV x u
 | _,_,_,_,.nil,e=>by simp at e
 | _,_,0,_,.cons r _,e=>by simp at e;subst e;exact ⟨_,rfl,r⟩
 | _,_,i+1,x,.cons _ t,e=>by
  obtain ⟨u,af,ai⟩:=Vals.get (i:=i) (x:=x) t (by simpa using e);exact ⟨u,by simpa using af,ai⟩
theorem Vals.set {x:V} {u:Value} (r:RelV x u) : ∀ {xs:List V} {us:List Value} (i:Nat),Vals xs us->Vals (xs.set i x) (us.set i u)
 | _,_,_,.nil=>.nil
 | _,_,0,.cons _ t=>.cons r t
 | _,_,i+1,.cons q t=>.cons q (Vals.set r i t)
theorem Vals.append : ∀ {xs ys:List V} {us ws:List Value},Vals xs us->Vals ys ws->Vals (xs++ys) (us++ws)
 | _,_,_,_,.nil,s=>s
 | _,_,_,_,.cons r t,s=>.cons r (Vals.append t s)
theorem Vals.take : ∀ {xs:List V} {us:List Value} (n:Nat),Vals xs us->Vals (xs.take n) (us.take n)
 | _,_,0,_=>.nil
 | _,_,_+1,.nil=>.nil
 | _,_,n+1,.cons r t=>.cons r (Vals.take n t)
theorem Vals.drop : ∀ {xs:List V} {us:List Value} (n:Nat),Vals xs us->Vals (xs.drop n) (us.drop n)
 | _,_,0,r=>r
 | _,_,_+1,.nil=>.nil
 | _,_,n+1,.cons _ t=>Vals.drop n t
def hp:Option V->Option Value->Prop
 | some v,some u=>RelV v u
 | none,none=>True
 | _,_=>False
def fw {κ : Type}:List (κ × V)->List (κ × Value)->Prop:=Paired λ (p : κ × V) (q : κ × Value)=>p.1=q.1/\RelV p.2 q.2
def cF:Key->V
 | .inl i=>.int i
 | .inr x=>.str x
inductive dG where
 | lst (xs:List V)
 | tup (xs:List V)
 | bp (kvs:List (Key×V)) | iU (kvs:List (List Key×V))
 | set (S:Int->Bool) (n:Nat)
 | ins (C aH:Addr) (aA:List (Str×V))
 | own (x:Addr)
 | jk (aA:List (Str×V))
 | met (f x:Addr)
 | pC (lo ay:Int)
 | fB (o:Obj) (u:dG)
 | oy (ag:Array Value)
 | ext (φ : Heap->Prop)
abbrev ah:=Addr->Option dG
def upd (H:ah) (a:Addr) (o:dG):ah:=λ b=>if b=a then some o else H b
theorem bA {H:ah} {a:Addr} {o:dG}:upd H a o a=some o:=by unfold upd;rw [if_pos rfl]
theorem a8 {H:ah} {a b:Addr} {o:dG} (h:b≠a):upd H a o b=H b:=by unfold upd;rw [if_neg h]
theorem C1 {H:ah} {a:Addr} {o u:dG}:upd (upd H a o) a u=upd H a u:=by
 funext b;unfold upd;split<;>rfl
theorem cI {H:ah} {a b:Addr} {o u:dG} (h:H a=some o) (h':H b=some u) (d:o≠u):a≠b:=by
 intro e;subst e;rw [h] at h';exact d (Option.some.inj h')
theorem cj {H:ah} {a b:Addr} {o:dG} (h:H a=some o) (h':H b=none):a≠b:=by
 intro e;subst e;rw [h] at h';cases h'
section
variable (P:Program) (w:World)
def nh (h:Heap) (a:Addr) (items:Array Value):Prop := ∃ o,h.get? a=some o/\o.cls=.type "tuple" /\ (∃ n,o.data=.seq items n)/\o.dict=none
theorem nh.up {h:Heap} {a:Addr} {items:Array Value}:nh h a items->IsTup h a items:=λ ⟨o,e,c,d,_⟩=>⟨o,e,c,d⟩
theorem nh.lt {h:Heap} {a:Addr} {items:Array Value}:nh h a items->a<h.objs.size:=λ ⟨_,e,_⟩=>Heap.lt_size e
theorem nh.new (h:Heap) (items:Array Value):nh (h.push { cls:=.type "tuple", data:=.seq items }) h.objs.size items:=⟨_,Heap.get?_push_size _ rfl,rfl,⟨_,rfl⟩,rfl⟩
def dW (H:ah) (h:Heap) (a:Addr):dG->Prop
 | .lst xs=>xs.length<=sizeLine /\ ∃ (its:List Value) (n:Nat),Vals xs its/\h.get? a=some { cls:=.type "list", data:=.seq its.toArray n }
 | .tup xs=>xs.length<=sizeLine /\ ∃ its:List Value,Vals xs its/\nh h a its.toArray
 | .bp kvs=>kvs.length<=sizeLine/\(a == sysModules)=false /\ ∃ vs,fw kvs vs/\h.DictOf (gZ P w) a vs
 | .iU kvs=>kvs.length<=sizeLine/\(a == sysModules)=false /\ ∃ xs:List (List Key×Addr×Value),
   Paired (λ (p:List Key×V) (q:List Key×Addr×Value)=>p.1=q.1/\H q.2.1=some (.tup (p.1.map cF))/\RelV p.2 q.2.2) kvs xs /\
   ∃ o ao ep,h.get? a=some o/\o.ExactDict/\o.data=.dict ao ep/\ao.toList=xs.map (entryOfKey (tupleKind (gZ P w)))/\(xs.map (·.1)).Nodup
 | .set S n=>h.SetOf (intKind P w) a S n
 | .ins C aH aA=>H aH=some (.own a)/\aA.length<=1000/\aH≠a/\h.get? a=some (PySem.W.instObj C aH) /\
   ∃ dB,h.Ns1 aH dB/\(∀ f,hp (aA.lookup f) (dB f))/\PySem.Within dB (aA.map (·.1))
 | .own _ => ∃ o,h.get? a=some o
 | .jk aA => ∃ dB,h.Ns1 a dB /\ ∀ f,hp (aA.lookup f) (dB f)
 | .pC lo ay => ∃ t u v,h.get? a=some { cls:=.type "range", data:=.fields #[.int lo t,.int ay u,.int 1 v] }
 | .fB o u=>h.get? a=some o/\dW H h a u
 | .oy ag=>h.get? a=some { cls:=.none,data:=.fields ag }
 | .met f x=>h.get? a=some (PySem.W.methodObj (.ref f) (.ref x))
 | .ext φ => φ h/\(∃ o,h.get? a=some o) /\ ∀ af ai:Heap,φ af->(∀ o,af.get? a=some o->ai.get? a=some o) -> φ ai
def eo (H:ah) (h:Heap):Prop := ∀ a o,H a=some o->dW P w H h a o
end
section
variable {P:Program} {w:World} {H H':ah} {h h':Heap} {a:Addr} {o:dG}
theorem dW.lt (x:dW P w H h a o):a<h.objs.size:=by
 cases o with
 | lst xs=>obtain ⟨_,_,_,_,e⟩:=x;exact Heap.lt_size e
 | tup xs=>obtain ⟨_,_,_,p⟩:=x;exact p.lt
 | bp kvs=>obtain ⟨_,_,_,_,o,_,_,e,_⟩:=x;exact Heap.lt_size e
 | iU kvs=>obtain ⟨_,_,_,_,o,_,_,e,_⟩:=x;exact Heap.lt_size e
 | set S n=>obtain ⟨o,_,_,_,e,_⟩:=x;exact Heap.lt_size e
 | ins C aH aA=>obtain ⟨_,_,_,e,_⟩:=x;exact Heap.lt_size e
 | own y=>obtain ⟨_,e⟩:=x;exact Heap.lt_size e
 | jk aA=>obtain ⟨_,⟨_,_,_,e,_⟩,_⟩:=x;exact Heap.lt_size e
 | pC lo ay=>obtain ⟨_,_,_,e⟩:=x;exact Heap.lt_size e
 | fB b2 u=>obtain ⟨e,_⟩:=x;exact Heap.lt_size e
 | oy ag=>exact Heap.lt_size (show h.get? a=some _ from x)
 | met f y=>exact Heap.lt_size (show h.get? a=some _ from x)
 | ext φ => obtain ⟨_,⟨_,e⟩,_⟩:=x;exact Heap.lt_size e
theorem Paired.B_ {α β : Type} {F G : α -> β -> Prop} : ∀ {l₁:List α} {l₂:List β},Paired F l₁ l₂->(∀ a b,F a b->G a b)->Paired G l₁ l₂
 | _,_,.nil,_=>.nil
 | _,_,.cons r t,f=>.cons (f _ _ r) (Paired.B_ t f)
theorem dW.ih (x:dW P w H h a o) (k : ∀ b u,(b=a\/H b=some (.own a))->h.get? b=some u->h'.get? b=some u)
  (aG : ∀ b,H b=some (.own a)->H' b=some (.own a)) (aW : ∀ b xs,H b=some (.tup xs)->H' b=some (.tup xs)):dW P w H' h' a o:=by
 induction o with
 | lst xs=>obtain ⟨z,its,n,r,e⟩:=x;exact ⟨z,its,n,r,k _ _ (.inl rfl) e⟩
 | tup xs=>obtain ⟨z,its,r,b2,e,c⟩:=x;exact ⟨z,its,r,b2,k _ _ (.inl rfl) e,c⟩
 | bp kvs=>obtain ⟨z,y,vs,r,b2,ao,ep,e,c⟩:=x;exact ⟨z,y,vs,r,b2,ao,ep,k _ _ (.inl rfl) e,c⟩
 | iU kvs =>
  obtain ⟨z,y,xs,r,b2,ao,ep,e,c⟩:=x;exact ⟨z,y,xs,Paired.B_ r λ p q z=>⟨z.1,aW _ _ z.2.1,z.2.2⟩,b2,ao,ep,k _ _ (.inl rfl) e,c⟩
 | set S n=>obtain ⟨b2,ao,ep,t,e,c⟩:=x;exact ⟨b2,ao,ep,t,k _ _ (.inl rfl) e,c⟩
 | ins C aH aA =>
  obtain ⟨d,z,ne,e,dB,⟨bK,ao,ep,aQ,c⟩,r⟩:=x;exact ⟨aG _ d,z,ne,k _ _ (.inl rfl) e,dB,⟨bK,ao,ep,k _ _ (.inr d) aQ,c⟩,r⟩
 | own y=>obtain ⟨b2,e⟩:=x;exact ⟨b2,k _ _ (.inl rfl) e⟩
 | jk aA=>obtain ⟨dB,⟨bK,ao,ep,e,c⟩,r⟩:=x;exact ⟨dB,⟨bK,ao,ep,k _ _ (.inl rfl) e,c⟩,r⟩
 | pC lo ay=>obtain ⟨t,u,v,e⟩:=x;exact ⟨t,u,v,k _ _ (.inl rfl) e⟩
 | fB b2 u c5=>obtain ⟨e,q⟩:=x;exact ⟨k _ _ (.inl rfl) e,c5 q⟩
 | oy ag =>
  have e:h.get? a=some { cls:=.none,data:=.fields ag }:=x;show h'.get? a=some { cls:=.none,data:=.fields ag };exact k a _ (.inl rfl) e
 | met f y =>
  have e:h.get? a=some (PySem.W.methodObj (.ref f) (.ref y)):=x;show h'.get? a=some (PySem.W.methodObj (.ref f) (.ref y));exact k a _ (.inl rfl) e
 | ext φ => obtain ⟨p,⟨o,e⟩,st⟩:=x;exact ⟨st _ _ p λ o q=>k _ _ (.inl rfl) q,⟨o,k _ _ (.inl rfl) e⟩,st⟩
theorem eo.lt (x:eo P w H h) (e:H a=some o):a<h.objs.size:=(x a o e).lt
theorem eo.fresh (x:eo P w H h) (e:h.objs.size<=a):H a=none:=by
 cases q:H a with
 | none=>rfl
 | some u=>exact absurd (Nat.lt_of_lt_of_le (x.lt q) e) (Nat.lt_irrefl _)
theorem eo.kept (x:eo P w H h) (k : ∀ b u,h.get? b=some u->h'.get? b=some u):eo P w H h':=λ a o e =>
 (x a o e).ih (λ b u _ q=>k b u q) (λ _ q=>q) λ _ _ q=>q
theorem eo.laid (x:eo P w H h) (k : ∀ b u,h.get? b=some u->h'.get? b=some u) (ax:h.objs.size<=a) (new:dW P w (upd H a o) h' a o):eo P w (upd H a o) h':=λ b u e=>by
 have aD:=x.fresh ax;by_cases J:b=a
 ·subst J;rw [bA] at e;cases e;exact new
 ·rw [a8 J] at e;exact (x b u e).ih (λ c v _ q=>k c v q) (λ c q=>by rw [a8 (cj q aD)];exact q) λ c xs q=>by rw [a8 (cj q aD)];exact q
end
def dx (H:ah) (a:Addr) (u:dG):Prop:=H a=some u \/ ∃ o,H a=some (.fB o u)
theorem dx.ok {P:Program} {w:World} {H:ah} {h:Heap} {a:Addr} {u:dG} (r:dx H a u) (x:eo P w H h):dW P w H h a u:=by
 rcases r with r | ⟨o,r⟩
 ·exact x a u r
 ·obtain ⟨_,q⟩:=x a _ r;exact q
def uc:Option dG->Prop
 | some (.lst _)=>True
 | some (.bp _)=>True
 | some (.iU _)=>True
 | some (.set _ _)=>True
 | some (.ins _ _ _)=>True
 | some (.ext _)=>True
 | _=>False
section
variable {P:Program} {w:World} {H:ah} {h h':Heap} {x e:Addr} {eH:dG}
theorem eo.write (ok:eo P w H h) (jP:uc (H x)) (he:e=x\/H e=some (.own x)) (k : ∀ b u,b≠e->h.get? b=some u->h'.get? b=some u) (r7 : ∃ u,h'.get? e=some u)
  (new:dW P w (upd H x eH) h' x eH):eo P w (upd H x eH) h':=λ b u q=>by
 have HT : ∀ c y,H c=some (.own y)->c≠x:=λ c y r z=>by subst z;rw [r] at jP;exact jP
 have RS : ∀ c xs,H c=some (.tup xs)->c≠x:=λ c xs r z=>by subst z;rw [r] at jP;exact jP
 by_cases J:b=x
 ·subst J;rw [bA] at q;cases q;exact new
 ·rw [a8 J] at q;by_cases qw:b=e
  ·have aU:H b=some (.own x):=by
    rcases he with z | z
    ·exact absurd (qw.trans z) J
    ·rw [qw];exact z
   rw [q] at aU;cases aU;obtain ⟨v,bf⟩:=r7;exact ⟨v,by rw [qw];exact bf⟩
  ·refine (ok b u q).ih (λ c v aj r=>k c v ?_ r) (λ c r=>by rw [a8 (HT c b r)];exact r) λ c xs r=>by rw [a8 (RS c xs r)];exact r
   rcases aj with rfl | aj
   ·exact qw
   ·rintro rfl;rcases he with z | z
    ·exact HT c b aj z
    ·rw [aj] at z;cases z;exact J rfl
end
structure fk (aA ex:List Addr) (H H':ah) (h h':Heap):Prop where
 keep : ∀ b o,h.get? b=some o->H b=none->b∉aA->b∉ex->h'.get? b=some o
 slot : ∀ b o,h.get? b=some o->H b=none->b∈aA->b∉ex -> ∃ cA,h'.get? b=some { o with slots:=cA }
 free : ∀ b o,h.get? b=some o->H b=none->b∉ex->H' b=none
 there : ∀ b o,h.get? b=some o->b∉ex -> ∃ eH,h'.get? b=some eH
 j9 : ∀ b xs,H b=some (.tup xs)->H' b=some (.tup xs)
 jC : ∀ b o u,H b=some (.fB o u)->H' b=some (.fB o u)
 j8 : ∀ b ag,H b=some (.oy ag) -> ∃ more,H' b=some (.oy (ag++more))
section
variable {aA N9 ex acr:List Addr} {H H1 ar:ah} {h af ai h':Heap} {a x e:Addr} {o:dG}
theorem fk.any (u:fk aA ex H H1 h af) {b:Addr} {b2:Obj} (q:h.get? b=some b2) (n:H b=none) (ak:b∉ex) : ∃ cA,af.get? b=some { b2 with slots:=cA }:=by
 by_cases J:b∈aA
 ·exact u.slot b b2 q n J ak
 ·exact ⟨b2.slots,u.keep b b2 q n J ak⟩
theorem fk.kept (k : ∀ b u,h.get? b=some u->h'.get? b=some u):fk aA ex H H h h' :=
 ⟨λ b b2 q _ _ _=>k b b2 q,λ b b2 q _ _ _=>⟨b2.slots,k b b2 q⟩,λ _ _ _ n _=>n,λ b b2 q _=>⟨b2,k b b2 q⟩,λ _ _ q=>q,λ _ _ _ q=>q,λ _ ag q=>⟨#[],by rw [q];simp⟩⟩
theorem fk.refl:fk aA ex H H h h:=fk.kept λ _ _ q=>q
theorem fk.laid (k : ∀ b u,h.get? b=some u->h'.get? b=some u) (ax:h.objs.size<=a) (aD:H a=none):fk aA ex H (upd H a o) h h' where
 keep:=λ b u q _ _ _=>k b u q
 slot:=λ b u q _ _ _=>⟨u.slots,k b u q⟩
 free:=λ b u q n _=>by rw [a8 (Nat.ne_of_lt (Nat.lt_of_lt_of_le (Heap.lt_size q) ax))];exact n
 there:=λ b u q _=>⟨u,k b u q⟩
 j9:=λ b xs q=>by rw [a8 (cj q aD)];exact q
 jC:=λ b u xs q=>by rw [a8 (cj q aD)];exact q
 j8:=λ b ag q=>⟨#[],by rw [a8 (cj q aD),q];simp⟩
theorem fk.write (jP:uc (H x)) (he:e=x\/H e=some (.own x)) (k : ∀ b u,b≠e->h.get? b=some u->h'.get? b=some u) (r7 : ∃ u,h'.get? e=some u):fk aA ex H (upd H x o) h h':=by
 have ak : ∀ b,H b=none->b≠x:=λ b n z=>by subst z;rw [n] at jP;exact jP
 have J : ∀ b,H b=none->b≠e:=λ b n z=>by
  subst z;rcases he with r | r
  ·exact ak b n r
  ·rw [n] at r;cases r
 have hm : ∀ b u,H b=some u -> ¬ uc (some u)->b≠x:=λ b u q nm z=>by subst z;rw [q] at jP;exact nm jP
 refine ⟨λ b u q n _ _=>k b u (J b n) q,λ b u q n _ _=>⟨u.slots,k b u (J b n) q⟩,λ b u q n _=>by rw [a8 (ak b n)];exact n,λ b u q _=>?_,
  λ b xs q=>by rw [a8 (hm b _ q λ z=>z)];exact q,λ b u xs q=>by rw [a8 (hm b _ q λ z=>z)];exact q,λ b ag q=>⟨#[],by rw [a8 (hm b _ q λ z=>z),q];simp⟩⟩
 by_cases qw:b=e
 ·subst qw;exact r7
 ·exact ⟨u,k b u qw q⟩
end
def xO (h:Heap) (H:ah):List Addr:=(List.range h.objs.size).filter λ a=>(H a).isSome
def oC (h:Heap) (H:ah):Heap:=PySem.W.hideAll h (xO h H)
theorem Xv (h:Heap) (H:ah):(oC h H).objs.size=h.objs.size:=PySem.W.hideAll_size _ _
theorem V1 {h:Heap} {H:ah} {b:Addr} {o:Obj} (e:h.get? b=some o) (n:H b=none):(oC h H).get? b=some o :=
 PySem.W.hideAll_get _ e λ hm=>by
  have q:(H b).isSome=true:=(List.mem_filter.mp hm).2;rw [n] at q;simp at q
theorem Uz {h:Heap} {H:ah} {b:Addr} {o:Obj} (e:(oC h H).get? b=some o):h.get? b=some o/\H b=none:=by
 have cU:h.get? b=some o:=PySem.W.of_hideAll (xO h H) e;refine ⟨cU,?_⟩;cases q:H b with
 | none=>rfl
 | some x =>
  have hm:b∈xO h H:=List.mem_filter.mpr ⟨List.mem_range.mpr (Heap.lt_size cU),by simp [q]⟩;have z:(oC h H).get? b=none:=PySem.W.hideAll_none (xO h H) hm;rw [z] at e;cases e
structure Mod (K:PySem.W.Frag) (mg:Str->Option Value) (base:Heap):Prop where
 jy:K.In base
 glob:base.Ns mainGlobals mg
 blt : ∃ lj,base.Ns builtinsNs lj /\ ∀ x:Str,x ≠ "__name__" -> lj x=bootBuiltins x
 nolimit:base.NoLimit
structure aP where
 prog:Program
 w:World
 K:PySem.W.Frag
 mg:Str->Option Value
 base:Heap
 A:Around
 N:List Str
 s₀:Shared
 H₀:ah
 env:Env
 outer:List Env
 stack:List Env
 ex:List Addr
 fn:Str->Bool
 calm:Bool
 warm:Bool
 jR:List (Addr×Obj)
 cP:Value->Shared->Prop
def ff (l:List Env):List Addr:=l.filterMap (·.frame)
abbrev aP.aA (X:aP):List Addr:=ff X.outer
def w9 (sc:Scope) (x:Str):Prop:=sc.names.lookup x=some .local\/sc.names.lookup x=some .cell\/sc.names.lookup x=some .free
def Loc (sc:Scope) (x:Str):Prop:=sc.names.lookup x=some .local\/sc.names.lookup x=some .cell
def Look (env:Env) (h:Heap) (m:Str->Option Value) (x:Str) (u:Value):Prop :=
 (env.kindOf x=some .local/\m x=some u)\/((env.kindOf x=some .cell\/env.kindOf x=some .free) /\ ∃ c,env.cells.lookup x=some c/\h.IsCell c (some u))
def sv (A:Around) (h:Heap) (H:ah) (aA ex:List Addr):Prop :=
 A.handled=none \/ ∃ (e:Addr) (bQ:Obj) (vs:Array Value),A.handled=some (.ref e)/\h.get? e=some bQ/\H e=none/\e∉aA/\e∉ex/\bQ.data=.fields vs/\vs[2]?=some .none
structure aP.Ok (X:aP):Prop where
 mod:Mod X.K X.mg X.base
 kind:X.env.scope.kind=.function
 glob:X.env.globals=mainGlobals
 blt:X.env.builtins=builtinsNs
 above:X.s₀.heap.objs.size<=X.env.locals
 inj : ∀ x y c,X.env.cells.lookup x=some c->X.env.cells.lookup y=some c->x=y
 has : ∀ x,(X.env.kindOf x=some .cell\/X.env.kindOf x=some .free) -> ∃ c,X.env.cells.lookup x=some c
 mI : ∀ x c,X.fn x=true->X.env.cells.lookup x=some c->X.s₀.heap.objs.size<=c
 hd:(X.calm=true->X.A.handled=none)/\(X.warm=true->sv X.A X.s₀.heap X.H₀ X.aA X.ex)
 frames:X.A.frames=some X.stack
 ox:X.stack=X.outer\/(X.stack=X.env::X.outer/\X.env.frame=some X.env.locals)
 qr : ∀ b∈X.ex,b≠X.env.locals /\ ∀ x c,X.env.cells.lookup x=some c->c≠b
 bs : ∀ b o,X.base.get? b=some o->X.s₀.heap.get? b=some o/\X.H₀ b=none
 h6:X.base.objs.size<=X.s₀.heap.objs.size
 mj : ∀ b o,X.base.get? b=some o->b∉X.ex
 oA : ∀ b∈X.ex,b∉X.aA
 hR:X.s₀.heap.FunFrames X.base X.outer
 jZ : ∀ b∈X.aA,X.H₀ b=none
structure Inv (X:aP) (pins:List (Addr×Obj)) (σ:List (Option V)) (H:ah) (s:Shared):Prop where
 ok:X.Ok
 os:s.os=X.s₀.os
 bare:AllBare s.gens
 base:fk X.aA X.ex X.H₀ H X.s₀.heap s.heap
 loc : ∃ m,s.heap.Ns X.env.locals m /\ ∀ (i:Nat) (x:Str) (v:V),X.N[i]?=some x->σ[i]?=some (some v)->w9 X.env.scope x -> ∃ u,RelV v u/\Look X.env s.heap m x u
 cell : ∀ x c,X.env.cells.lookup x=some c -> ∃ v,s.heap.IsCell c v
 free:H X.env.locals=none
 gV : ∀ x c,X.env.cells.lookup x=some c->H c=none
 pin : ∀ p∈X.jR++pins,s.heap.get? p.1=some p.2/\H p.1=none/\p.1≠X.env.locals/\p.1∉X.aA /\ ∀ v,p.2.data≠.cell v
 a6:eo X.prog X.w H s.heap
 len:σ.length=X.N.length
section
variable {X:aP} {pins:List (Addr×Obj)} {σ:List (Option V)} {H H':ah} {s:Shared} {h':Heap}
theorem aP.Ok.RM (ok:X.Ok) {b:Addr} {o:Obj} (e:X.base.get? b=some o):b∉X.aA:=λ J=>by
 have:=(ok.hR.mem J).1;rw [e] at this;cases this
theorem Inv.bs (I:Inv X pins σ H s) : ∀ b o,X.base.get? b=some o->s.heap.get? b=some o/\H b=none:=λ b o e =>
 ⟨I.base.keep b o (I.ok.bs b o e).1 (I.ok.bs b o e).2 (I.ok.RM e) (I.ok.mj b o e),I.base.free b o (I.ok.bs b o e).1 (I.ok.bs b o e).2 (I.ok.mj b o e)⟩
theorem Inv.aY (I:Inv X pins σ H s) : ∀ b o,X.base.get? b=some o->s.heap.get? b=some o:=λ b o e=>(I.bs b o e).1
theorem Inv.mod (I:Inv X pins σ H s):Mod X.K X.mg X.base:=I.ok.mod
theorem Inv.Rl (I:Inv X pins σ H s) (hw:X.warm=true):sv X.A s.heap H X.aA X.ex :=
 (I.ok.hd.2 hw).imp id λ ⟨e,bQ,vs,af,ai,aF,aX,bT,r⟩=>⟨e,bQ,vs,af,I.base.keep e bQ ai aF aX bT,I.base.free e bQ ai aF bT,aX,bT,r⟩
theorem Inv.jt (I:Inv X pins σ H s) (hw:X.warm=true):gH.In X.A s.heap :=
 (I.Rl hw).imp id λ ⟨e,bQ,vs,af,ai,_,_,_,r⟩=>⟨e,bQ,vs,af,ai,r⟩
theorem Inv.dF (I:Inv X pins σ H s):X.K.In s.heap:=I.ok.mod.jy.keeps I.aY
theorem Inv.lt (I:Inv X pins σ H s):X.env.locals<s.heap.objs.size:=let ⟨_,aD,_⟩:=I.loc;aD.lt
theorem Inv.jU (I:Inv X pins σ H s):X.s₀.heap.objs.size<=s.heap.objs.size:=Nat.le_trans I.ok.above (Nat.le_of_lt I.lt)
theorem Inv.RN (I:Inv X pins σ H s) {a:Addr} (h:s.heap.objs.size<=a):a∉X.aA:=λ J=>by
 obtain ⟨_,o,aG,_⟩:=I.ok.hR.mem J;exact absurd (Nat.lt_of_lt_of_le (Heap.lt_size aG) (Nat.le_trans I.jU h)) (Nat.lt_irrefl _)
theorem Inv.n1 (I:Inv X pins σ H s) : ∀ x c,X.env.cells.lookup x=some c->c≠X.env.locals:=λ x c e z=>by
 obtain ⟨v,o,aG,hd⟩:=I.cell x c e;obtain ⟨m,⟨eH,ao,ep,ju,mQ,_⟩,_⟩:=I.loc;rw [z,ju] at aG;cases aG;rw [mQ] at hd;cases hd
theorem Inv.hR (I:Inv X pins σ H s):s.heap.FunFrames X.base X.outer:=by
 have all : ∀ (l:List Env),(∀ b∈ff l,b∈X.aA)->X.s₀.heap.FunFrames X.base l->s.heap.FunFrames X.base l:=by
  intro l
  induction l with
  | nil=>intro _ _;trivial
  | cons env r c5 =>
   intro az au;obtain ⟨aB,⟨L,o,hf,aD,aG,hd⟩,aq⟩:=au;have eN:L∈X.aA:=az L (by unfold ff;rw [List.filterMap_cons,hf];exact List.mem_cons_self);obtain ⟨cA,e⟩:=I.base.slot L o aG (I.ok.jZ L eN) eN λ z=>I.ok.oA L z eN
   exact ⟨aB,⟨L,_,hf,aD,e,hd⟩,c5 (λ b J=>az b (by unfold ff;rw [List.filterMap_cons,hf];exact List.mem_cons_of_mem _ J)) aq⟩
 exact all X.outer (λ _ J=>J) I.ok.hR
theorem Inv.stack (I:Inv X pins σ H s):s.heap.FunFrames X.base X.stack:=by
 rcases I.ok.ox with e | ⟨e,hf⟩
 ·rw [e];exact I.hR
 ·rw [e];obtain ⟨m,aD,_⟩:=I.loc;refine .cons (by rw [I.ok.kind];decide) hf aD ?_ I.hR;exact Heap.get?_none_of_le (Nat.le_trans I.ok.h6 I.ok.above)
theorem Inv.oO (I:Inv X pins σ H s) : ∀ b∈ff X.stack,b∈X.env.locals::X.aA:=λ b J=>by
 rcases I.ok.ox with e | ⟨e,hf⟩
 ·rw [e] at J;exact List.mem_cons_of_mem _ J
 ·rw [e] at J;unfold ff at J;rw [List.filterMap_cons,hf] at J;exact J
theorem Inv.AM {bo:List Addr} (I:Inv X pins σ H s) (hw:X.warm=true) (f : ∀ b∈bo,b∈X.ex\/X.s₀.heap.objs.size<=b):sv X.A s.heap H (ff X.stack) bo :=
 (I.ok.hd.2 hw).imp id λ ⟨e,bQ,vs,af,ai,aF,aX,bT,r⟩=>⟨e,bQ,vs,af,I.base.keep e bQ ai aF aX bT,I.base.free e bQ ai aF bT,
  λ z=>(List.mem_cons.mp (I.oO e z)).elim (λ q=>absurd (Nat.lt_of_lt_of_le (Heap.lt_size ai) (by rw [q];exact I.ok.above)) (Nat.lt_irrefl _)) aX,
  λ z=>(f e z).elim bT λ q=>absurd (Nat.lt_of_lt_of_le (Heap.lt_size ai) q) (Nat.lt_irrefl _),r⟩
theorem Inv.sZ (I:Inv X pins σ H s) : ∀ b∈ff X.stack,H b=none:=λ b J=>by
 rcases List.mem_cons.mp (I.oO b J) with e | J
 ·rw [e];exact I.free
 ·obtain ⟨_,o,aG,_⟩:=I.ok.hR.mem J;exact I.base.free b o aG (I.ok.jZ b J) λ z=>I.ok.oA b z J
theorem Inv.step {g':Array GenState} {t':Nat} {d':Drawn} {ch:List Addr} (I:Inv X pins σ H s)
  (mP : ∀ b∈ch,(b∈X.ex\/X.s₀.heap.objs.size<=b)/\b≠X.env.locals/\(∀ x c,X.env.cells.lookup x=some c->c≠b) /\ ∀ p∈X.jR++pins,p.1≠b)
  (keep : ∀ b o,b≠X.env.locals->b∉X.aA->b∉ch->s.heap.get? b=some o->H b=none->h'.get? b=some o)
  (slot : ∀ b o,b≠X.env.locals->b∈X.aA->b∉ch->s.heap.get? b=some o->H b=none -> ∃ cA,h'.get? b=some { o with slots:=cA }) (free : ∀ b o,b∉ch->s.heap.get? b=some o->H b=none->H' b=none)
  (there : ∀ b o,b∉ch->s.heap.get? b=some o -> ∃ eH,h'.get? b=some eH)
  (j9 : ∀ b xs,H b=some (.tup xs)->H' b=some (.tup xs)) (jC : ∀ b o u,H b=some (.fB o u)->H' b=some (.fB o u)) (j8 : ∀ b ag,H b=some (.oy ag) -> ∃ more,H' b=some (.oy (ag++more)))
  (ns : ∀ m,s.heap.Ns X.env.locals m->h'.Ns X.env.locals m) (a6:eo X.prog X.w H' h') (aI:AllBare g') :
  Inv X pins σ H' { s with heap:=h',gens:=g',drawn:=d',toks:=t' }:=by
 have G6 : ∀ b o,X.s₀.heap.get? b=some o->b≠X.env.locals:=λ b o e=>Nat.ne_of_lt (Nat.lt_of_lt_of_le (Heap.lt_size e) I.ok.above)
 have xF : ∀ b o,X.s₀.heap.get? b=some o->b∉X.ex->b∉ch:=λ b o e ak J=>by
  rcases (mP b J).1 with z | z
  ·exact ak z
  ·exact absurd (Nat.lt_of_lt_of_le (Heap.lt_size e) z) (Nat.lt_irrefl _)
 have cellK : ∀ x c,X.env.cells.lookup x=some c -> ∀ v,s.heap.IsCell c v->h'.IsCell c v:=λ x c e v ⟨o,aG,hd⟩=>by
  have uZ:c∉ch:=λ z=>(mP c z).2.2.1 x c e rfl
  by_cases aj:c∈X.aA
  ·obtain ⟨cA,q⟩:=slot c o (I.n1 x c e) aj uZ aG (I.gV x c e);exact ⟨_,q,hd⟩
  ·exact ⟨o,keep c o (I.n1 x c e) aj uZ aG (I.gV x c e),hd⟩
 refine ⟨I.ok,I.os,aI,⟨λ b o e n J ak=>?_,λ b o e n J ak=>?_,λ b o e n ak=>?_,λ b o e ak=>?_,λ b xs e=>j9 b xs (I.base.j9 b xs e),λ b o xs e=>jC b o xs (I.base.jC b o xs e),λ b ag e=>?_⟩,?_,λ x c e=>?_,?_,λ x c e=>?_,λ p ax=>?_,a6,I.len⟩
 ·exact keep b o (G6 b o e) J (xF b o e ak) (I.base.keep b o e n J ak) (I.base.free b o e n ak)
 ·obtain ⟨cA,aO⟩:=I.base.slot b o e n J ak;obtain ⟨mY,aQ⟩:=slot b _ (G6 b o e) J (xF b o e ak) aO (I.base.free b o e n ak);exact ⟨mY,aQ⟩
 ·obtain ⟨eH,aO⟩:=I.base.there b o e ak;exact free b eH (xF b o e ak) aO (I.base.free b o e n ak)
 ·obtain ⟨eH,aO⟩:=I.base.there b o e ak;exact there b eH (xF b o e ak) aO
 ·obtain ⟨g7,aO⟩:=I.base.j8 b ag e;obtain ⟨kk,aQ⟩:=j8 b _ aO;exact ⟨g7++kk,by rw [aQ,Array.append_assoc]⟩
 ·obtain ⟨m,aD,au⟩:=I.loc;refine ⟨m,ns m aD,λ i x v aO aQ el=>?_⟩;obtain ⟨u,r,l⟩:=au i x v aO aQ el;refine ⟨u,r,?_⟩;rcases l with l | ⟨k,c,e,z⟩
  ·exact .inl l
  ·exact .inr ⟨k,c,e,cellK x c e _ z⟩
 ·obtain ⟨v,z⟩:=I.cell x c e;exact ⟨v,cellK x c e v z⟩
 ·obtain ⟨m,⟨o,_,_,aG,_⟩,_⟩:=I.loc;exact free _ o (λ z=>(mP _ z).2.1 rfl) aG I.free
 ·obtain ⟨v,o,aG,hd⟩:=I.cell x c e;exact free c o (λ z=>(mP c z).2.2.1 x c e rfl) aG (I.gV x c e)
 ·obtain ⟨e,n,ne,fZ,d⟩:=I.pin p ax;have uZ:p.1∉ch:=λ z=>(mP p.1 z).2.2.2 p ax rfl
  exact ⟨keep p.1 p.2 ne fZ uZ e n,free p.1 p.2 uZ e n,ne,fZ,d⟩
theorem Inv.un {t':Nat} (I:Inv X pins σ H s) (u:fk X.aA [] H H' s.heap h') (a6:eo X.prog X.w H' h'):Inv X pins σ H' { s with heap:=h',toks:=t' }:=by
 obtain ⟨m,⟨o,ao,ep,aG,r⟩,_⟩:=id I.loc;obtain ⟨cA,eN⟩:=u.any aG I.free (by simp);exact I.step (g':=s.gens) (d':=s.drawn) (ch:=[]) (λ _ z=>nomatch z) (λ b o _ J _ e n=>u.keep b o e n J (by simp)) (λ b o _ J _ e n=>u.slot b o e n J (by simp)) (λ b o _ e n=>u.free b o e n (by simp)) (λ b o _ e=>u.there b o e (by simp)) u.j9 u.jC u.j8 (λ cJ hm=>by
  obtain ⟨eH,lx,xf,ju,bB⟩:=hm;rw [aG] at ju;cases ju;exact ⟨_,lx,xf,eN,bB⟩) a6 I.bare
theorem Inv.call {g':Array GenState} {t':Nat} {d':Drawn} {ch:List Addr} (I:Inv X pins σ H s) (u:fk (ff X.stack) ch H H' s.heap h') (a6:eo X.prog X.w H' h') (aI:AllBare g')
  (mP : ∀ b∈ch,(b∈X.ex\/X.s₀.heap.objs.size<=b)/\b≠X.env.locals/\(∀ x c,X.env.cells.lookup x=some c->c≠b) /\ ∀ p∈X.jR++pins,p.1≠b) :
  Inv X pins σ H' { s with heap:=h',gens:=g',drawn:=d',toks:=t' }:=by
 obtain ⟨m,⟨o,ao,ep,aG,r⟩,_⟩:=id I.loc;obtain ⟨cA,eN⟩:=u.any aG I.free λ z=>(mP _ z).2.1 rfl
 exact I.step (ch:=ch) mP (λ b o eN J aj e n=>u.keep b o e n (λ z=>(List.mem_cons.mp (I.oO b z)).elim eN J) aj) (λ b o _ _ aj e n=>u.any e n aj) (λ b o aj e n=>u.free b o e n aj) (λ b o aj e=>u.there b o e aj) u.j9 u.jC u.j8 (λ cJ hm=>by
  obtain ⟨eH,lx,xf,ju,bB⟩:=hm;rw [aG] at ju;cases ju;exact ⟨_,lx,xf,eN,bB⟩) a6 aI
theorem Inv.turned {t':Nat} {it:Addr} (I:Inv X pins σ H s) (k : ∀ b o,b≠it->s.heap.get? b=some o->h'.get? b=some o) (aD:H it=none) (eN:it≠X.env.locals)
  (af:it∈X.ex\/X.s₀.heap.objs.size<=it) (ai : ∀ x c,X.env.cells.lookup x=some c->c≠it) (aF : ∀ p∈X.jR++pins,p.1≠it):Inv X pins σ H { s with heap:=h',toks:=t' }:=by
 have pz : ∀ b u,H b=some u->b≠it:=λ b u e z=>by rw [z,aD] at e;cases e
 refine I.step (g':=s.gens) (d':=s.drawn) (ch:=[it]) (λ b J=>?_) (λ b o _ _ aj e _=>k b o (λ z=>aj (by simp [z])) e) (λ b o _ _ aj e _=>⟨o.slots,k b o (λ z=>aj (by simp [z])) e⟩) (λ _ _ _ _ n=>n)
  (λ b o aj e=>⟨o,k b o (λ z=>aj (by simp [z])) e⟩) (λ _ _ e=>e) (λ _ _ _ e=>e) (λ b ag e=>⟨#[],by rw [e];simp⟩) (λ m hm=>?_) (λ b u e=>?_) I.bare
 ·have e:b=it:=by simpa using J
  subst e;exact ⟨af,eN,ai,aF⟩
 ·obtain ⟨o,ao,ep,aG,r⟩:=hm;exact ⟨o,ao,ep,k _ o (Ne.symm eN) aG,r⟩
 ·refine (I.a6 b u e).ih (λ c v aj q=>k c v ?_ q) (λ _ q=>q) λ _ _ q=>q
  rcases aj with z | z
  ·rw [z];exact pz b u e
  ·exact pz c _ z
theorem Inv.tok (I:Inv X pins σ H s) (t:Nat):Inv X pins σ H { s with toks:=t }:=I.un (h':=s.heap) (t':=t) fk.refl I.a6
theorem Inv.kept {t':Nat} (I:Inv X pins σ H s) (k : ∀ b u,s.heap.get? b=some u->h'.get? b=some u):Inv X pins σ H { s with heap:=h',toks:=t' }:=I.un (fk.kept k) (I.a6.kept k)
theorem Inv.laid {a:Addr} {o:dG} {t':Nat} (I:Inv X pins σ H s) (k : ∀ b u,s.heap.get? b=some u->h'.get? b=some u) (ax:s.heap.objs.size<=a) (new:dW X.prog X.w (upd H a o) h' a o) :
  Inv X pins σ (upd H a o) { s with heap:=h',toks:=t' }:=I.un (fk.laid k ax (I.a6.fresh ax)) (I.a6.laid k ax new)
theorem Inv.write {x e:Addr} {o:dG} {t':Nat} (I:Inv X pins σ H s) (jP:uc (H x)) (he:e=x\/H e=some (.own x)) (k : ∀ b u,b≠e->s.heap.get? b=some u->h'.get? b=some u) (r7 : ∃ u,h'.get? e=some u)
  (new:dW X.prog X.w (upd H x o) h' x o):Inv X pins σ (upd H x o) { s with heap:=h',toks:=t' }:=I.un (fk.write jP he k r7) (I.a6.write jP he k r7 new)
theorem Inv.Jv {q6:List (Addr×Obj)} (I:Inv X pins σ H s) (h : ∀ p∈q6,s.heap.get? p.1=some p.2/\H p.1=none/\p.1≠X.env.locals/\p.1∉X.aA /\ ∀ v,p.2.data≠.cell v):Inv X q6 σ H s :=
 ⟨I.ok,I.os,I.bare,I.base,I.loc,I.cell,I.free,I.gV,λ p ax=>(List.mem_append.mp ax).elim (λ z=>I.pin p (List.mem_append_left _ z)) (h p),I.a6,I.len⟩
theorem C8 {N:List Str} (di:N.Nodup) {i j:Nat} {x:Str} (a:N[i]?=some x) (b:N[j]?=some x):i=j:=by
 obtain ⟨af,aO⟩:=List.getElem?_eq_some_iff.mp a;obtain ⟨ai,aQ⟩:=List.getElem?_eq_some_iff.mp b;exact (List.getElem_inj di).mp (aO.trans aQ.symm)
theorem KY {M:Model} {A:Around} {E:Value->Shared->Prop} {i:Nat} {x:Str} {v:V} {u:Value} {Q:Unit->Shared->Prop} (I:Inv X pins σ H s) (di:X.N.Nodup) (ay:X.N[i]?=some x) (ak:Loc X.env.scope x) (r:RelV v u)
  (h : ∀ s',Inv X pins (σ.set i (some v)) H s'->(∃ a,Heap.SameBut a s.heap s'.heap/\(a=X.env.locals\/X.env.cells.lookup x=some a))->Q () s') (hf:X.fn x=true\/X.env.scope.names.lookup x=some .local:=by first | exact .inl rfl | exact .inr rfl | assumption):wpAny M A (storeName X.env x u) Q E s:=by
 obtain ⟨m,aD,au⟩:=id I.loc;have vj:(X.env.scope.kind == .class||(X.env.scope.kind == .module&&X.env.locals != X.env.globals))=false:=by rw [I.ok.kind];rfl
 have hiσ:i < σ.length:=by rw [I.len];exact (List.getElem?_eq_some_iff.mp ay).1
 have n1:=I.n1;have tracked : ∀ {a:Addr} {h':Heap},(∃ o,s.heap.get? a=some o/\H a=none)->Heap.SameBut a s.heap h'->eo X.prog X.w H h':=λ {a h'} aw az b b2 e=>by
  obtain ⟨_,_,Ig⟩:=aw;refine (I.a6 b b2 e).ih (λ c cO aj q=>(az.2 c ?_).trans q) (λ _ q=>q) λ _ _ q=>q
  rintro rfl;rcases aj with rfl | aj
  ·rw [Ig] at e;cases e
  ·rw [Ig] at aj;cases aj
 rcases ak with aB | aB
 ·refine wpAny_storeName_local aB aD (λ h' A6 az=>?_) vj;obtain ⟨FW,_,_,GD,_⟩:=id aD;refine h _ ⟨I.ok,I.os,I.bare,⟨λ b o e n J ak=>?_,λ b o e n J ak=>?_,I.base.free,λ b o e ak=>?_,I.base.j9,I.base.jC,I.base.j8⟩,⟨_,A6,λ j y iz aO aQ el=>?_⟩,λ y c e=>?_,I.free,I.gV,λ p ax=>?_,tracked ⟨FW,GD,I.free⟩ az,by simpa using I.len⟩ ⟨_,az,.inl rfl⟩
  ·exact (az.2 b (Nat.ne_of_lt (Nat.lt_of_lt_of_le (Heap.lt_size e) I.ok.above))).trans (I.base.keep b o e n J ak)
  ·obtain ⟨cA,aO⟩:=I.base.slot b o e n J ak;exact ⟨cA,(az.2 b (Nat.ne_of_lt (Nat.lt_of_lt_of_le (Heap.lt_size e) I.ok.above))).trans aO⟩
  ·obtain ⟨eH,aO⟩:=I.base.there b o e ak;exact ⟨eH,(az.2 b (Nat.ne_of_lt (Nat.lt_of_lt_of_le (Heap.lt_size e) I.ok.above))).trans aO⟩
  ·by_cases b3:j=i
   ·subst b3;rw [ay] at aO;cases aO;rw [List.getElem?_set_self hiσ] at aQ;cases aQ;exact ⟨u,r,.inl ⟨aB,by simp⟩⟩
   ·rw [List.getElem?_set_ne (Ne.symm b3)] at aQ;obtain ⟨jj,bB,q⟩:=au j y iz aO aQ el;refine ⟨jj,bB,?_⟩;rcases q with ⟨k,e⟩ | ⟨k,c,e,z⟩
    ·refine .inl ⟨k,?_⟩;have:y≠x:=λ e=>b3 (C8 di aO (e ▸ ay))
     simp [this,e]
    ·exact .inr ⟨k,c,e,z.sameBut az (n1 y c e)⟩
  ·obtain ⟨cO,z⟩:=I.cell y c e;exact ⟨cO,z.sameBut az (n1 y c e)⟩
  ·obtain ⟨e,n,ne,fZ,d⟩:=I.pin p ax;exact ⟨(az.2 p.1 ne).trans e,n,ne,fZ,d⟩
 ·have AU:X.fn x=true:=by
   rcases hf with z | z
   ·exact z
   ·rw [z] at aB;cases aB
  obtain ⟨c,aj⟩:=I.ok.has x (.inl aB);obtain ⟨cO,z⟩:=I.cell x c aj;refine wpAny_storeName_cell I.ok.kind aB aj z (λ h' n4 az=>?_);obtain ⟨e1,mR,Rz⟩:=id z;refine h { s with heap:=h' } ⟨I.ok,I.os,I.bare,⟨λ b o e n J ak=>?_,λ b o e n J ak=>?_,I.base.free,λ b o e ak=>?_,I.base.j9,I.base.jC,I.base.j8⟩,⟨m,aD.sameBut az (Ne.symm (n1 x c aj)),λ j y iz aO aQ el=>?_⟩,λ y cN e=>?_,I.free,I.gV,λ p ax=>?_,tracked ⟨e1,mR,I.gV x c aj⟩ az,by simpa using I.len⟩ ⟨c,az,.inr aj⟩
  ·exact (az.2 b (Nat.ne_of_lt (Nat.lt_of_lt_of_le (Heap.lt_size e) (I.ok.mI x c AU aj)))).trans (I.base.keep b o e n J ak)
  ·obtain ⟨cA,aO⟩:=I.base.slot b o e n J ak;exact ⟨cA,(az.2 b (Nat.ne_of_lt (Nat.lt_of_lt_of_le (Heap.lt_size e) (I.ok.mI x c AU aj)))).trans aO⟩
  ·obtain ⟨eH,aO⟩:=I.base.there b o e ak;exact ⟨eH,(az.2 b (Nat.ne_of_lt (Nat.lt_of_lt_of_le (Heap.lt_size e) (I.ok.mI x c AU aj)))).trans aO⟩
  ·by_cases b3:j=i
   ·subst b3;rw [ay] at aO;cases aO;rw [List.getElem?_set_self hiσ] at aQ;cases aQ;exact ⟨u,r,.inr ⟨.inl aB,c,aj,n4⟩⟩
   ·rw [List.getElem?_set_ne (Ne.symm b3)] at aQ;obtain ⟨jj,bB,q⟩:=au j y iz aO aQ el;refine ⟨jj,bB,?_⟩;rcases q with q | ⟨k,cN,e,dR⟩
    ·exact .inl q
    ·refine .inr ⟨k,cN,e,dR.sameBut az ?_⟩;rintro rfl;exact b3 (C8 di aO (I.ok.inj _ _ _ e aj ▸ ay))
  ·by_cases mO:cN=c
   ·subst mO;exact ⟨_,n4⟩
   ·obtain ⟨gz,e4⟩:=I.cell y cN e;exact ⟨gz,e4.sameBut az mO⟩
  ·obtain ⟨e,n,ne,fZ,d⟩:=I.pin p ax;refine ⟨(az.2 p.1 ?_).trans e,n,ne,fZ,d⟩;intro q;rw [q,mR] at e;have aU:e1=p.2:=Option.some.inj e;exact d cO (by rw [<-aU];exact Rz)
theorem tb {M:Model} {A:Around} {E:Value->Shared->Prop} {i:Nat} {x:Str} {v:V} {u:Value} {Q:Unit->Shared->Prop} (I:Inv X pins σ H s) (di:X.N.Nodup) (ay:X.N[i]?=some x) (ak:Loc X.env.scope x) (r:RelV v u)
  (h : ∀ s',Inv X pins (σ.set i (some v)) H s'->Q () s') (hf:X.fn x=true\/X.env.scope.names.lookup x=some .local:=by first | exact .inl rfl | exact .inr rfl | assumption):wpAny M A (storeName X.env x u) Q E s :=
 KY I di ay ak r (λ s' iR _=>h s' iR) hf
theorem Inv.yg {s':Shared} {ch:List Addr} (I:Inv X pins σ H s) (aG:s'.os=s.os) (u:fk (ff X.stack) ch H H' s.heap s'.heap) (a6:eo X.prog X.w H' s'.heap) (aI:AllBare s'.gens)
  (mP : ∀ b∈ch,(b∈X.ex\/X.s₀.heap.objs.size<=b)/\b≠X.env.locals/\(∀ x c,X.env.cells.lookup x=some c->c≠b) /\ ∀ p∈X.jR++pins,p.1≠b):Inv X pins σ H' s':=by
 obtain ⟨h',g',d',t',eH⟩:=s';have e:eH=s.os:=aG;subst e;exact I.call (g':=g') (t':=t') (d':=d') u a6 aI mP
end
abbrev dz:=Value->Option Addr->ah->Prop
abbrev St:=List (Option V)
abbrev bz:=V->ah->Prop
abbrev TE:=St->ah->bz->Prop
abbrev TT:=St->ah->(Bool->ah->Prop)->Prop
abbrev c3:=St->ah->(List V->ah->Prop)->Prop
structure Ends where
 bF:St->ah->Prop
 ji:bz
 aY:St->ah->Prop:=λ _ _=>False
 cu:St->ah->Prop:=λ _ _=>False
abbrev dr:=Ends->St->ah->Prop
def f_ (X:aP) (pins:List (Addr×Obj)) (σ:St) (Q:bz) (u:Value) (s':Shared):Prop := ∃ v H',Inv X pins σ H' s'/\RelV v u/\Q v H'
def zA (X:aP) (pins:List (Addr×Obj)) (σ:St) (Q:Bool->ah->Prop) (b:Bool) (s':Shared):Prop := ∃ H',Inv X pins σ H' s'/\Q b H'
def MH (X:aP) (pins:List (Addr×Obj)) (σ:St) (Q:List V->ah->Prop) (us:List Value) (s':Shared):Prop := ∃ vs H',Inv X pins σ H' s'/\Vals vs us/\Q vs H'
def g5 (X:aP) (pins:List (Addr×Obj)) (D:Ends) (f:Flow) (s':Shared):Prop :=
 match f with
 | .next => ∃ σ' H',Inv X pins σ' H' s'/\D.bF σ' H'
 | .brk => ∃ σ' H',Inv X pins σ' H' s'/\D.aY σ' H'
 | .cont => ∃ σ' H',Inv X pins σ' H' s'/\D.cu σ' H'
 | .ret u => ∃ v σ' H',Inv X pins σ' H' s'/\RelV v u/\D.ji v H'
def b9 (X:aP) (e:Expr) (t:TE):Prop :=
 ∀ (pins:List (Addr×Obj)) (s:Shared) (σ:St) (H:ah) (Q:bz),Inv X pins σ H s->t σ H Q->wpAny (model X.prog X.w) X.A (eval e X.env) (f_ X pins σ Q) X.cP s
def kg (X:aP) (e:Expr) (t:TT):Prop :=
 ∀ (pins:List (Addr×Obj)) (s:Shared) (σ:St) (H:ah) (Q:Bool->ah->Prop),Inv X pins σ H s->t σ H Q->wpAny (model X.prog X.w) X.A (isTrue e X.env (eval e X.env)) (zA X pins σ Q) X.cP s
def mA (X:aP) (e:Expr) (t:TT):Prop :=
 ∀ (whole:Sem Value) (pins:List (Addr×Obj)) (s:Shared) (σ:St) (H:ah) (Q:Bool->ah->Prop),Inv X pins σ H s->t σ H Q->wpAny (model X.prog X.w) X.A (isTrue e X.env whole) (zA X pins σ Q) X.cP s
theorem mA.pt {X:aP} {e:Expr} {t:TT} (h:mA X e t):kg X e t:=h _
def hA (X:aP) (ao:List Expr) (t:c3):Prop :=
 ∀ (pos:Pos) (pins:List (Addr×Obj)) (s:Shared) (σ:St) (H:ah) (Q:List V->ah->Prop),Inv X pins σ H s->t σ H Q->wpAny (model X.prog X.w) X.A (spliced (backTo pos (starEach ao X.env))) (MH X pins σ Q) X.cP s
def jK (X:aP) (st:Stmt) (t:dr):Prop :=
 ∀ (pins:List (Addr×Obj)) (s:Shared) (σ:St) (H:ah) (D:Ends),Inv X pins σ H s->t D σ H->wpAny (model X.prog X.w) X.A (exec st X.env) (g5 X pins D) X.cP s
def jX (X:aP) (st:List Stmt) (t:dr):Prop :=
 ∀ (pins:List (Addr×Obj)) (s:Shared) (σ:St) (H:ah) (D:Ends),Inv X pins σ H s->t D σ H->wpAny (model X.prog X.w) X.A (execs st X.env) (g5 X pins D) X.cP s
theorem bj {α : Type} {t:Sem α} {Q tO : α -> Shared->Prop} {M:Model} {A:Around} {E:Value->Shared->Prop} {s:Shared} (h:wpAny M A t Q E s) (gf : ∀ a s,Q a s->tO a s):wpAny M A t tO E s:=wpAny_mono h gf λ _ _ x=>x
section
variable {X:aP}
def yc (i:Nat):TE:=λ σ H Q => ∃ v,σ[i]?=some (some v)/\Q v H
def iw (v:V):TE:=λ _ H Q=>Q v H
theorem Tx {i:Nat} {x:Str} {pos:Pos} (di:X.N[i]?=some x) (bf:w9 X.env.scope x) (hd:(x == ("__debug__" : Str))=false:=by decide) (hN:(x == ("__classdict__" : Str))=false:=by decide):b9 X (.Name x pos) (yc i):=by
 intro pins s σ H Q I h;obtain ⟨v,e,h⟩:=h;obtain ⟨m,aD,au⟩:=I.loc;obtain ⟨u,r,l⟩:=au i x v di e bf;have fin:f_ X pins σ Q u s:=⟨v,H,I,r,h⟩
 rcases l with ⟨aB,hm⟩ | ⟨aB,c,aj,Ic⟩
 ·exact wpAny_Name (wpAny_loadName_local I.ok.kind aB aD hm fin) hd
 ·rcases aB with aB | aB
  ·exact wpAny_Name (wpAny_loadName_cell I.ok.kind aB aj Ic fin) hd
  ·exact wpAny_Name (wpAny_loadName_free I.ok.kind aB aj Ic fin hN) hd
theorem Tr {i j pos}:b9 X (.Constant (.int i) j pos) (iw (.int i)):=λ _ _ _ H _ I h=>wpAny_Constant_int ⟨.int i,H,I.tok _,⟨_,rfl⟩,h⟩
theorem Ss {b j pos}:b9 X (.Constant (.bool b) j pos) (iw (.aJ b)):=λ _ _ _ H _ I h=>Constant_bool ⟨.aJ b,H,I,rfl,h⟩
theorem IT {j pos}:b9 X (.Constant .none j pos) (iw .bg):=λ _ _ _ H _ I h=>Constant_none ⟨.bg,H,I,rfl,h⟩
theorem Tv {x j pos}:b9 X (.Constant (.str x) j pos) (iw (.str x)):=λ _ _ _ H _ I h=>Calls.Constant_str ⟨.str x,H,I.tok _,⟨_,rfl⟩,h⟩
def dy (X:aP) (x:Str):Prop:=X.env.kindOf x=some .globalImplicit
theorem nx {E:Value->Shared->Prop} {pins:List (Addr×Obj)} {s:Shared} {σ:St} {H:ah} {x:Str} {u:Value} {pos:Pos} {Q:Value->Shared->Prop} (I:Inv X pins σ H s) (aI:dy X x) (hm:X.mg x=some u) (h:Q u s)
  (hd:(x == ("__debug__" : Str))=false:=by decide):wpAny (model X.prog X.w) X.A (eval (.Name x pos) X.env) Q E s :=
 Calls.Name_function_global I.ok.kind aI (Calls.loadGlobal_global (by rw [I.ok.glob];exact I.mod.glob.keeps I.aY) hm h) hd
theorem mr {E:Value->Shared->Prop} {pins:List (Addr×Obj)} {s:Shared} {σ:St} {H:ah} {x:Str} {u:Value} {pos:Pos} {Q:Value->Shared->Prop} (I:Inv X pins σ H s) (aI:dy X x) (hm:X.mg x=none) (bf:bootBuiltins x=some u) (h:Q u s)
  (aD:x ≠ "__name__" := by decide) (hd:(x == ("__debug__" : Str))=false:=by decide):wpAny (model X.prog X.w) X.A (eval (.Name x pos) X.env) Q E s:=by
 obtain ⟨lj,af,ai⟩:=I.mod.blt;exact Calls.Name_function_global I.ok.kind aI (Calls.loadGlobal_builtin (by rw [I.ok.glob];exact I.mod.glob.keeps I.aY) hm (by rw [I.ok.blt];exact af.keeps I.aY) ((ai x aD).trans bf) h) hd
theorem CT {x:Str} {v:V} {u:Value} {pos:Pos} (aI:dy X x) (hm:X.mg x=some u) (r:RelV v u) (hd:(x == ("__debug__" : Str))=false:=by decide):b9 X (.Name x pos) (iw v) :=
 λ _ _ _ H _ I h=>nx I aI hm ⟨v,H,I,r,h⟩ hd
theorem UE {x:Str} {v:V} {u:Value} {pos:Pos} (aI:dy X x) (hm:X.mg x=none) (bf:bootBuiltins x=some u) (r:RelV v u) (aD:x ≠ "__name__" := by decide) (hd:(x == ("__debug__" : Str))=false:=by decide):b9 X (.Name x pos) (iw v) :=
 λ _ _ _ H _ I h=>mr I aI hm bf ⟨v,H,I,r,h⟩ aD hd
variable {a b:Expr} {aZ bk:TE} {pos:Pos}
def qh (t:TE):TT:=λ σ H Q=>t σ H λ x H1 => ∃ c,x=.aJ c/\Q c H1
theorem TO {e:Expr} {t:TE} (h:b9 X e t) (he : ∀ whole,isTrue e X.env whole=(do let v ← whole;standAt e.pos;holding [v] (truthy v)):=by intro _;rfl):kg X e (qh t):=by
 intro pins s σ H Q I hw;refine isTrue_plain (bj (h pins s σ H _ I hw) λ v s1 ⟨x,H1,aE,bq,a7⟩=>?_) (he _);obtain ⟨d,rfl,q⟩:=a7;cases bq;exact wpAny_truthy_bool ⟨H1,aE,q⟩
variable {ha kA:TT} {rest:List Expr}
def H0 (t u:TT):TT:=λ σ H Q=>t σ H λ c H1=>if c=true then u σ H1 Q else Q false H1
def Ht (t u:TT):TT:=λ σ H Q=>t σ H λ c H1=>if c=true then Q true H1 else u σ H1 Q
def H7 (t:TT):TT:=λ σ H Q=>t σ H λ c H1=>Q (!c) H1
theorem U3 (aw:kg X a ha):mA X (.BoolOp .And [a] pos) ha:=by
 intro t9 pins s σ H Q I h;refine isTrue_and (bj (aw pins s σ H Q I h) λ c s1 e=>?_);cases c with
 | true=>exact isTrue_and_nil e
 | false=>exact e
theorem TQ (aw:kg X a ha):mA X (.BoolOp .Or [a] pos) ha:=by
 intro t9 pins s σ H Q I h;refine isTrue_or (bj (aw pins s σ H Q I h) λ c s1 e=>?_);cases c with
 | false=>exact isTrue_or_nil e
 | true=>exact e
theorem TP (aw:kg X a ha) (J:mA X (.BoolOp .And (b::rest) pos) kA):mA X (.BoolOp .And (a::b::rest) pos) (H0 ha kA):=by
 intro t9 pins s σ H Q I h;refine isTrue_and (bj (aw pins s σ H _ I h) λ c s1 ⟨H1,aE,a7⟩=>?_);cases c with
 | true=>exact J t9 pins s1 σ H1 Q aE a7
 | false=>exact ⟨H1,aE,a7⟩
theorem SD (aw:kg X a ha) (J:mA X (.BoolOp .Or (b::rest) pos) kA):mA X (.BoolOp .Or (a::b::rest) pos) (Ht ha kA):=by
 intro t9 pins s σ H Q I h;refine isTrue_or (bj (aw pins s σ H _ I h) λ c s1 ⟨H1,aE,a7⟩=>?_);cases c with
 | true=>exact ⟨H1,aE,a7⟩
 | false=>exact J t9 pins s1 σ H1 Q aE a7
theorem TN (aw:kg X a ha):kg X (.UnaryOp .Not a pos) (H7 ha):=by
 intro pins s σ H Q I h;exact isTrue_not (aw pins s σ H (λ c H1=>Q (!c) H1) I h)
def yp (aZ bk:TE):TE:=λ σ H Q=>aZ σ H λ x H1 => ∃ c,x=.aJ c/\if c=true then bk σ H1 Q else Q (.aJ false) H1
def H8 (aZ bk:TE):TE:=λ σ H Q=>aZ σ H λ x H1 => ∃ c,x=.aJ c/\if c=true then Q (.aJ true) H1 else bk σ H1 Q
def IB (aZ:TE):TE:=λ σ H Q=>aZ σ H λ x H1 => ∃ c,x=.aJ c/\Q (.aJ (!c)) H1
theorem Tu {op} {t:TE} (h:b9 X a t):b9 X (.BoolOp op [a] pos) t:=λ pins s σ H Q I hw=>BoolOp_one (h pins s σ H Q I hw)
theorem To (aw:b9 X a aZ) (J:b9 X (.BoolOp .And (b::rest) pos) bk):b9 X (.BoolOp .And (a::b::rest) pos) (yp aZ bk):=by
 intro pins s σ H Q I h;refine BoolOp_and (bj (aw pins s σ H _ I h) λ v s1 ⟨x,H1,aE,bq,a7⟩=>?_);obtain ⟨c,rfl,a7⟩:=a7;cases bq;refine wpAny_truthy_bool ?_;cases c with
 | true=>exact J pins s1 σ H1 Q aE a7
 | false=>exact ⟨.aJ false,H1,aE,rfl,a7⟩
theorem Sx (aw:b9 X a aZ) (J:b9 X (.BoolOp .Or (b::rest) pos) bk):b9 X (.BoolOp .Or (a::b::rest) pos) (H8 aZ bk):=by
 intro pins s σ H Q I h;refine BoolOp_or (bj (aw pins s σ H _ I h) λ v s1 ⟨x,H1,aE,bq,a7⟩=>?_);obtain ⟨c,rfl,a7⟩:=a7;cases bq;refine wpAny_truthy_bool ?_;cases c with
 | false=>exact J pins s1 σ H1 Q aE a7
 | true=>exact ⟨.aJ true,H1,aE,rfl,a7⟩
theorem Tt (aw:b9 X a aZ):b9 X (.UnaryOp .Not a pos) (IB aZ):=by
 intro pins s σ H Q I h;refine UnaryOp_ (bj (aw pins s σ H _ I h) λ v s1 ⟨x,H1,aE,bq,a7⟩=>?_);obtain ⟨c,rfl,a7⟩:=a7;cases bq;exact not_of (wpAny_truthy_bool ⟨.aJ (!c),H1,aE,rfl,a7⟩)
end
def a3 (K:PySem.W.Frag) (H:ah) (a:Addr) (xs:List V):Prop :=
 dx H a (.lst xs) \/
  ∃ (o:Obj) (its:Array Value) (n:Nat),K.lookup a=some o/\o.cls=.type "list" /\ o.dict=none/\o.data=.seq its n/\its.size<=sizeLine/\Vals xs its.toList
def aR (K:PySem.W.Frag) (H:ah) (a:Addr) (xs:List V):Prop :=
 dx H a (.tup xs) \/
  ∃ (o:Obj) (its:Array Value) (n:Nat),K.lookup a=some o/\o.cls=.type "tuple" /\ o.data=.seq its n/\its.size<=sizeLine/\Vals xs its.toList
def Q9:Value->Option V
 | .none=>some .bg
 | .bool b=>some (.aJ b)
 | .int i _=>some (.int i)
 | .str x _=>some (.str x)
 | .bytes b _=>some (.iB b)
 | .float b _=>some (.hi b)
 | .ref a=>some (.ref a)
 | .type n=>some (.ty n)
 | _=>none
theorem RelV.abs {x:V} {u:Value} (r:RelV x u):Q9 u=some x:=by
 cases x with
 | bg=>cases r;rfl
 | aJ _=>cases r;rfl
 | int _=>obtain ⟨t,rfl⟩:=r;rfl
 | str _=>obtain ⟨t,rfl⟩:=r;rfl
 | iB _=>obtain ⟨t,rfl⟩:=r;rfl
 | hi _=>obtain ⟨t,rfl⟩:=r;rfl
 | ref _=>cases r;rfl
 | ty _=>cases r;rfl
theorem RelV.inj {x y:V} {u:Value} (r:RelV x u) (q:RelV y u):x=y:=Option.some.inj (r.abs.symm.trans q.abs)
theorem Vals.inj : ∀ {xs ys:List V} {us:List Value},Vals xs us->Vals ys us->xs=ys
 | _,_,_,.nil,.nil=>rfl
 | _,_,_,.cons r t,.cons bB t'=>by rw [r.inj bB,Vals.inj t t']
section
variable {X:aP} {pins:List (Addr×Obj)} {σ:St} {H:ah} {s:Shared} {a:Addr} {xs ys:List V}
theorem a3.of {K:PySem.W.Frag} (h:H a=some (.lst xs)):a3 K H a xs:=.inl (.inl h)
theorem aR.of {K:PySem.W.Frag} (h:H a=some (.tup xs)):aR K H a xs:=.inl (.inl h)
theorem Inv.list (I:Inv X pins σ H s) (h:a3 X.K H a xs) : ∃ its:List Value,Vals xs its/\PlainL s.heap a its.toArray/\xs.length<=sizeLine:=by
 rcases h with h | ⟨o,its,n,aB,aj,hd,az,a9,r⟩
 ·obtain ⟨z,its,n,r,e⟩:=h.ok I.a6;exact ⟨its,r,⟨_,n,e,rfl,rfl,rfl⟩,z⟩
 ·refine ⟨its.toList,r,⟨o,n,I.dF a o aB,aj,hd,by simpa using az⟩,?_⟩;have e:=r.length;simp only [Array.length_toList] at e;omega
theorem Inv.tuple (I:Inv X pins σ H s) (h:aR X.K H a xs) : ∃ its:List Value,Vals xs its/\IsTup s.heap a its.toArray/\xs.length<=sizeLine:=by
 rcases h with h | ⟨o,its,n,aB,aj,az,a9,r⟩
 ·obtain ⟨z,its,r,p⟩:=h.ok I.a6;exact ⟨its,r,p.up,z⟩
 ·refine ⟨its.toList,r,⟨o,I.dF a o aB,aj,n,by simpa using az⟩,?_⟩;have e:=r.length;simp only [Array.length_toList] at e;omega
theorem Inv.JZ (I:Inv X pins σ H s) (h:a3 X.K H a xs) (h':a3 X.K H a ys):xs=ys:=by
 obtain ⟨its,r,⟨o,n,e,_,_,d⟩,_⟩:=I.list h;obtain ⟨its',bB,⟨eH,b6,cU,_,_,d'⟩,_⟩:=I.list h';rw [e] at cU;cases cU;rw [d] at d';injection d' with iT _;have:its=its':=by simpa using congrArg Array.toList iT
 subst this;exact r.inj bB
theorem Inv.ru (I:Inv X pins σ H s) (h:aR X.K H a xs) (h':aR X.K H a ys):xs=ys:=by
 obtain ⟨its,r,⟨o,e,_,n,d⟩,_⟩:=I.tuple h;obtain ⟨its',bB,⟨eH,cU,_,b6,d'⟩,_⟩:=I.tuple h';rw [e] at cU;cases cU;rw [d] at d';injection d' with iT _;have:its=its':=by simpa using congrArg Array.toList iT
 subst this;exact r.inj bB
end
abbrev aP.m9 (X:aP) (E:Value->Shared->Prop):aP:={ X with cP:=E }
abbrev aP.u3 (X:aP):aP:=X.m9 λ _ _=>False
theorem aP.Ok.m9 {X:aP} (ok:X.Ok) (E:Value->Shared->Prop):(X.m9 E).Ok :=
 ⟨ok.mod,ok.kind,ok.glob,ok.blt,ok.above,ok.inj,ok.has,ok.mI,ok.hd,ok.frames,ok.ox,ok.qr,ok.bs,ok.h6,ok.mj,ok.oA,ok.hR,ok.jZ⟩
theorem aP.Ok.pX {X:aP} {E:Value->Shared->Prop} (ok:(X.m9 E).Ok):X.Ok :=
 ⟨ok.mod,ok.kind,ok.glob,ok.blt,ok.above,ok.inj,ok.has,ok.mI,ok.hd,ok.frames,ok.ox,ok.qr,ok.bs,ok.h6,ok.mj,ok.oA,ok.hR,ok.jZ⟩
section
variable {X:aP} {pins:List (Addr×Obj)} {σ:St} {H:ah} {s:Shared} {E:Value->Shared->Prop}
theorem Inv.m9 (I:Inv X pins σ H s) (E:Value->Shared->Prop):Inv (X.m9 E) pins σ H s:=⟨I.ok.m9 E,I.os,I.bare,I.base,I.loc,I.cell,I.free,I.gV,I.pin,I.a6,I.len⟩
theorem Inv.pX (I:Inv (X.m9 E) pins σ H s):Inv X pins σ H s:=⟨I.ok.pX,I.os,I.bare,I.base,I.loc,I.cell,I.free,I.gV,I.pin,I.a6,I.len⟩
theorem g5.pX {D:Ends} {f:Flow} {s':Shared} (h:g5 (X.m9 E) pins D f s'):g5 X pins D f s':=by
 cases f with
 | next=>obtain ⟨σ',H',I,q⟩:=h;exact ⟨σ',H',I.pX,q⟩
 | brk=>obtain ⟨σ',H',I,q⟩:=h;exact ⟨σ',H',I.pX,q⟩
 | cont=>obtain ⟨σ',H',I,q⟩:=h;exact ⟨σ',H',I.pX,q⟩
 | ret u=>obtain ⟨v,σ',H',I,r,q⟩:=h;exact ⟨v,σ',H',I.pX,r,q⟩
theorem jX.u3 {st:List Stmt} {t:dr} (h:jX X.u3 st t):jX X st t:=λ pins s σ H D I hw =>
 wpAny_mono (h pins s σ H D (I.m9 _) hw) (λ _ _ q=>q.pX) λ _ _ z=>False.elim z
end
section
variable {X:aP} {st:Stmt} {rest:List Stmt} {t u:dr} {e:Expr} {bh:TE} {pos:Pos}
def IA:dr:=λ D σ H=>D.bF σ H
def Cf (t u:dr):dr:=λ D σ H=>t { D with bF:=u D } σ H
theorem UY:jX X [] IA:=λ _ _ σ H _ I h=>wpAny_execs_nil ⟨σ,H,I,h⟩
theorem WC (af:jK X st t) (ai:jX X rest u):jX X (st::rest) (Cf t u):=by
 intro pins s σ H D I h;refine wpAny_execs_cons (bj (af pins s σ H { D with bF:=u D } I h) λ f s1 q=>?_);cases f with
 | next =>
  obtain ⟨σ',H',iR,q⟩:=q;exact ai pins s1 σ' H' D iR q
 | ret v=>exact q
 | brk=>exact q
 | cont=>exact q
theorem UZ (af:jK X st t):jX X [st] t:=by
 intro pins s σ H D I h;refine wpAny_execs_cons (bj (af pins s σ H D I h) λ f s1 q=>?_);cases f with
 | next=>exact wpAny_execs_nil q
 | ret v=>exact q
 | brk=>exact q
 | cont=>exact q
theorem Inv.quiet {pins:List (Addr×Obj)} {σ:St} {H:ah} {s:Shared} (I:Inv X pins σ H s):interactive X.env=false:=by simp [interactive,I.ok.kind]
def Iy (bh:TE):dr:=λ D σ H=>bh σ H λ _ H1=>D.bF σ H1
theorem UW (he:b9 X e bh) (az:swapsWith e none pos.line X.env=pure false:=by rfl):jK X (.Expr e pos) (Iy bh):=by
 intro pins s σ H D I h;exact wpAny_Expr_any (bj (he pins s σ H _ I h) λ v s1 ⟨x,H1,aE,bq,a7⟩=>⟨σ,H1,aE,a7⟩) I.quiet az
def H9 (bh:TE):dr:=λ D σ H=>bh σ H D.ji
theorem TL (he:b9 X e bh):jK X (.Return (some e) pos) (H9 bh):=by
 intro pins s σ H D I h;exact wpAny_Return_some (bj (he pins s σ H _ I h) λ v s1 ⟨x,H1,aE,bq,a7⟩=>⟨x,σ,H1,aE,bq,a7⟩)
def H5 (c:TT) (t u:dr):dr:=λ D σ H=>c σ H λ b H1=>if b=true then t D σ H1 else u D σ H1
theorem SA {c:Expr} {a b:List Stmt} {c_:TT} (aj:kg X c c_) (aw:jX X a t) (J:jX X b u):jK X (.If c a b pos) (H5 c_ t u):=by
 intro pins s σ H D I h;refine wpAny_If (bj (aj pins s σ H _ I h) λ d s1 ⟨H1,aE,a7⟩=>?_);cases d with
 | true=>exact aw pins s1 σ H1 D aE a7
 | false=>exact J pins s1 σ H1 D aE a7
def I2:dr:=λ _ _ _=>False
theorem WA:jK X st I2:=λ _ _ _ _ _ _ h=>h.elim
end
abbrev eG:=V->St->ah->(St->ah->Prop)->Prop
abbrev ko:=List V->St->ah->(St->ah->Prop)->Prop
def nF (X:aP) (target:Expr) (t:eG):Prop :=
 ∀ (pins:List (Addr×Obj)) (s:Shared) (σ:St) (H:ah) (v:V) (u:Value) (Q:St->ah->Prop),Inv X pins σ H s->RelV v u->t v σ H Q ->
  wpAny (model X.prog X.w) X.A (assign target X.env u) (λ _ s' => ∃ σ' H',Inv X pins σ' H' s'/\Q σ' H') X.cP s
def ud (X:aP) (cb:List Expr) (t:ko):Prop :=
 ∀ (pins:List (Addr×Obj)) (s:Shared) (σ:St) (H:ah) (vs:List V) (us:List Value) (Q:St->ah->Prop),Inv X pins σ H s->Vals vs us->t vs σ H Q ->
  wpAny (model X.prog X.w) X.A (assignInOrder ((assignEach cb X.env).map (·.2)) us) (λ _ s' => ∃ σ' H',Inv X pins σ' H' s'/\Q σ' H') X.cP s
abbrev sz:=V->V->V->ah->(ah->Prop)->Prop
def xW (X:aP) (t:sz):Prop :=
 ∀ (pins:List (Addr×Obj)) (s:Shared) (σ:St) (H:ah) (o i v:V) (de dY u:Value) (Q:ah->Prop),Inv X pins σ H s->RelV o de->RelV i dY->RelV v u->t o i v H Q ->
  wpAny (model X.prog X.w) X.A (setItem de dY u) (λ _ s' => ∃ H',Inv X pins σ H' s'/\Q H') X.cP s
abbrev w7:=V->V->ah->bz->Prop
def Gb (X:aP) (op:Operator) (t:w7):Prop :=
 ∀ (pins:List (Addr×Obj)) (s:Shared) (σ:St) (H:ah) (x y:V) (v u:Value) (Q:bz),Inv X pins σ H s->RelV x v->RelV y u->t x y H Q ->
  wpAny (model X.prog X.w) X.A (inplaceOp op v u) (f_ X pins σ Q) X.cP s
section
variable {X:aP} {pos:Pos}
def gW (i:Nat):eG:=λ v σ H Q=>Q (σ.set i (some v)) H
theorem UM {i:Nat} {x:Str} (di:X.N.Nodup) (ay:X.N[i]?=some x) (ak:Loc X.env.scope x) (hf:X.fn x=true\/X.env.scope.names.lookup x=some .local:=by first | exact .inl rfl | exact .inr rfl | assumption):nF X (.Name x pos) (gW i):=by
 intro pins s σ H v u Q I r h;exact wpAny_assign_Name (tb I di ay ak r (λ s' iR=>⟨_,H,iR,h⟩) hf)
def vh:ko:=λ vs σ H Q=>vs=[]/\Q σ H
def pP (t:eG) (u:ko):ko:=λ vs σ H Q => ∃ v r,vs=v::r/\t v σ H λ σ' H'=>u r σ' H' Q
theorem UN:ud X [] vh:=by
 intro pins s σ H vs us Q I r h;obtain ⟨e,h⟩:=h;subst e;cases r;exact assignInOrder_nil ⟨σ,H,I,h⟩
theorem Wx {e:Expr} {ao:List Expr} {t:eG} {u:ko} (af:nF X e t) (ai:ud X ao u)
  (az:(assignEach (e::ao) X.env).map (·.2)=assign e X.env::(assignEach ao X.env).map (·.2):=by rfl):ud X (e::ao) (pP t u):=by
 intro pins s σ H vs us Q I r h;obtain ⟨v,aca,aO,h⟩:=h;subst aO;cases r with
 | cons r jT =>
  rw [az];refine assignInOrder_cons (bj (af pins s σ H _ _ _ I r h) λ _ s1 ⟨σ1,H1,aE,a7⟩=>?_);exact ai pins s1 σ1 H1 _ _ Q aE jT a7
def sC (K:PySem.W.Frag) (n:Nat) (t:ko):eG:=λ v σ H Q => ∃ a xs,v=.ref a/\aR K H a xs/\xs.length=n/\t xs σ H Q
theorem TA {ao:List Expr} {k:Nat} {t:ko} {n:Nat} (aj:X.warm=true) (h:ud X ao t)
  (aD:(assignEach ao X.env).length=n:=by rfl) (cB:(assignEach ao X.env).findIdx? (·.1)=none:=by rfl):nF X (.Tuple ao k pos) (sC X.K n t):=by
 intro pins s σ H v u Q I r hw;obtain ⟨a,xs,aO,aS,au,hw⟩:=hw;subst aO;cases r;obtain ⟨its,bR,aW,a9⟩:=I.tuple aS;refine gH.WW (I.jt aj) aW (by simp [aD,<-au,bR.length]) cB λ h' ak=>?_
 have aE:Inv X pins σ H { s with heap:=h' }:=I.kept (t':=s.toks) λ b o e=>ak b o (Nat.ne_of_lt (Heap.lt_size e)) e
 exact h pins _ σ H xs _ Q aE (by simpa using bR) hw
def HD (to gy:TE) (t:sz):eG:=λ v σ H Q=>to σ H λ o H1=>gy σ H1 λ i ar=>t o i v ar λ aK=>Q σ aK
theorem Tz {o i:Expr} {to gy:TE} {t:sz} (aG:b9 X o to) (ay:b9 X i gy) (az:xW X t)
  (aw : ∀ v,assign (.Subscript o i pos) X.env v=(do
   let de ← holding [v] (eval o X.env)
   let dY ← holding [v,de] (eval i X.env)
   standAt pos
   holding [v,de,dY] (setItem de dY v)
   release [v,de,dY] []):=by intro _;rfl):nF X (.Subscript o i pos) (HD to gy t):=by
 intro pins s σ H v u Q I r h;rw [aw];refine wpAny_bind (wpAny_holding (bj (aG pins s σ H _ I h) λ de s1 ⟨x,H1,aE,bq,a7⟩=>?_));refine wpAny_bind (wpAny_holding (bj (ay pins s1 σ H1 _ aE a7) λ dY s2 ⟨y,ar,bS,b5,bV⟩=>?_));refine wpAny_bind (wpAny_standAt (wpAny_bind (wpAny_holding (bj (az pins s2 σ ar x y v de dY u _ bS bq b5 r bV) λ _ s3 ⟨aK,b_,ea⟩=>?_))));exact wpAny_release ⟨σ,aK,b_,ea⟩
def pM (bh:TE) (g:eG):dr:=λ D σ H=>bh σ H λ x H1=>g x σ H1 D.bF
theorem TH {bb e:Expr} {bh:TE} {g:eG} (he:b9 X e bh) (aI:nF X bb g) (az:swapsWithSole [bb] e pos.line X.env=pure false:=by rfl) (hw:swappedStores [bb] e X.env=pure none:=by rfl)
  (af:(assignEach [bb] X.env).map (·.2)=[assign bb X.env]:=by rfl):jK X (.Assign [bb] e pos) (pM bh g):=by
 intro pins s σ H D I h;refine wpAny_Assign_stores (bj (he pins s σ H _ I h) λ v s1 ⟨x,H1,aE,bq,a7⟩=>?_) az hw;rw [af];exact bj (aI pins s1 σ H1 x v _ aE bq a7) λ _ s2 q=>q
theorem TM {i:Nat} {x:Str} {e:Expr} {bh:TE} {pos':Pos} (di:X.N.Nodup) (ay:X.N[i]?=some x) (ak:Loc X.env.scope x) (he:b9 X e bh) (az:swapsWith e (some (.Name x pos')) pos.line X.env=pure false:=by rfl) (hf:X.fn x=true\/X.env.scope.names.lookup x=some .local:=by first | exact .inl rfl | exact .inr rfl | assumption) :
  jK X (.Assign [.Name x pos'] e pos) (pM bh (gW i)):=by
 intro pins s σ H D I h;refine wpAny_Assign_Name (bj (he pins s σ H _ I h) λ v s1 ⟨y,H1,aE,bq,a7⟩=>?_) az;exact tb aE di ay ak bq (λ s2 bS=>⟨_,H1,bS,a7⟩) hf
def Iw (to gy bh:TE) (yd:V->V->ah->bz->Prop) (xN:w7) (yf:sz):dr:=λ D σ H=>to σ H λ o H1=>gy σ H1 λ i ar=>yd o i ar λ x aK=>bh σ aK λ y bc=>xN x y bc λ z bt=>yf o i z bt λ cE=>D.bF σ cE
def HA (X:aP) (t:V->V->ah->bz->Prop):Prop :=
 ∀ (pins:List (Addr×Obj)) (s:Shared) (σ:St) (H:ah) (o i:V) (de dY:Value) (Q:bz),Inv X pins σ H s->RelV o de->RelV i dY->t o i H Q ->
  wpAny (model X.prog X.w) X.A (getItem de dY) (f_ X pins σ Q) X.cP s
theorem UU {o i e:Expr} {to gy bh:TE} {yd:V->V->ah->bz->Prop} {xN:w7} {yf:sz} {op:Operator} {ye:Pos} (aG:b9 X o to) (ay:b9 X i gy) (aI:HA X yd) (he:b9 X e bh) (ax:Gb X op xN) (az:xW X yf)
  (aw : ∀ de dY new,augStore i de dY new=(do holding [new,de,dY] (setItem de dY new);release [new,de,dY] [];pure .next):=by intros;rfl):jK X (.AugAssign (.Subscript o i ye) op e pos) (Iw to gy bh yd xN yf):=by
 intro pins s σ H D I h;refine wpAny_AugAssign_SubscriptAny (bj (aG pins s σ H _ I h) λ de s1 ⟨hc,H1,aE,bq,a7⟩=>?_) aw;refine bj (ay pins s1 σ H1 _ aE a7) λ dY s2 ⟨iY,ar,bS,b5,bV⟩=>?_
 refine bj (aI pins s2 σ ar hc iY de dY _ bS bq b5 bV) λ old s3 ⟨Ac,aK,b_,hF,ea⟩=>?_
 refine bj (he pins s3 σ aK _ b_ ea) λ v s4 ⟨Ad,bc,cV,hG,jS⟩=>?_
 refine bj (ax pins s4 σ bc Ac Ad old v _ cV hF hG jS) λ new s5 ⟨w2,bt,je,lY,nX⟩=>?_
 exact bj (az pins s5 σ bt hc iY w2 de dY new _ je bq b5 lY nX) λ _ bL ⟨cE,d9,t4⟩=>⟨σ,cE,d9,t4⟩
def GW (f:Int->Int->Int):w7:=λ x y H Q => ∃ i j,x=.int i/\y=.int j/\Q (.int (f i j)) H
theorem S7:Gb X .Add (GW λ i j=>i+j):=by
 intro pins s σ H x y v u Q I bq b5 h;obtain ⟨i,j,aO,aQ,q⟩:=h;subst aO;subst aQ;obtain ⟨t,rfl⟩:=bq;obtain ⟨t',rfl⟩:=b5;exact iadd_int ⟨.int _,H,I.tok _,⟨_,rfl⟩,q⟩
def CH (c:TT) (bk:dr):dr:=λ D σ H => ∃ W:Nat->St->ah->Prop,(∃ m,W m σ H) /\ ∀ m σ H,W m σ H ->
 c σ H λ b H1=>if b=true then ∃ N:St->ah->Prop,(∀ σ' H',N σ' H' -> ∃ cJ,cJ<m/\W cJ σ' H')/\bk { D with bF:=N,cu:=N,aY:=D.bF } σ H1 else D.bF σ H1
theorem WB {c:Expr} {body:List Stmt} {c_:TT} {bk:dr} (ax:PassesOwn (model X.prog X.w) X.A X.env X.cP) (aj:kg X c c_) (J:jX X body bk):jK X (.While c body [] pos) (CH c_ bk):=by
 intro pins s σ H D I h;obtain ⟨W,⟨m0,h2⟩,turn⟩:=h;refine wpAny_While (codeAny_whileLoop (λ n s' => ∃ σ' H',Inv X pins σ' H' s'/\W n σ' H') ?_ m0 ⟨σ,H,I,h2⟩);rintro n s1 ⟨σ1,H1,aE,hJ⟩;refine wpAny_passesOwn ax (bj (aj pins s1 σ1 H1 _ aE (turn n σ1 H1 hJ)) λ b s2 ⟨ar,bS,bV⟩=>?_);cases b with
 | true =>
  obtain ⟨N,di,bV⟩:=bV;rw [if_pos rfl];refine wpAny_passesOwn ax (bj (J pins s2 σ1 ar _ bS bV) λ f s3 ea=>?_);cases f with
  | next =>
   obtain ⟨σ3,aK,b_,ee⟩:=ea;obtain ⟨cJ,hm,lq⟩:=di σ3 aK ee;exact ⟨cJ,hm,σ3,aK,b_,lq⟩
  | cont =>
   obtain ⟨σ3,aK,b_,ee⟩:=ea;obtain ⟨cJ,hm,lq⟩:=di σ3 aK ee;exact ⟨cJ,hm,σ3,aK,b_,lq⟩
  | brk=>exact ea
  | ret v=>exact ea
 | false =>
  rw [if_neg Bool.false_ne_true];exact wpAny_execs_nil ⟨σ1,ar,bS,bV⟩
end
structure g4 where
 go:Nat->ah->Prop
 j5:Nat->ah->V->ah->Prop
 stop:Nat->ah->Prop
def mh (X:aP) (pins:List (Addr×Obj)) (H:ah) (b:Addr):Prop :=
 H b=none/\b≠X.env.locals/\b∉X.aA/\(b∈X.ex\/X.s₀.heap.objs.size<=b)/\(∀ x c,X.env.cells.lookup x=some c->c≠b) /\ ∀ p∈X.jR++pins,p.1≠b
theorem Inv.mi {X:aP} {pins:List (Addr×Obj)} {σ:St} {H H':ah} {s:Shared} {b:Addr} (I:Inv X pins σ H s) (J:s.heap.objs.size<=b) (aD:H' b=none):mh X pins H' b:=by
 refine ⟨aD,Nat.ne_of_gt (Nat.lt_of_lt_of_le I.lt J),I.RN J,.inr (Nat.le_trans I.jU J),λ x c e z=>?_,λ p ax z=>?_⟩
 ·obtain ⟨v,q⟩:=I.cell x c e;exact absurd (Nat.lt_of_lt_of_le q.lt (by rw [z];exact J)) (Nat.lt_irrefl _)
 ·exact absurd (Nat.lt_of_lt_of_le (Heap.lt_size (I.pin p ax).1) (by rw [z];exact J)) (Nat.lt_irrefl _)
structure Turn (P:Program) (w:World) (K:PySem.W.Frag) (c:Bool) (bb:Expr) (b1:g4) (bo:List Addr) (it:Addr) (gN:Nat->Heap->Prop):Prop where
 mem:it∈bo
 obj : ∀ i h,gN i h -> ∀ b∈bo,∃ o,h.get? b=some o /\ ∀ v,o.data≠.cell v
 keep : ∀ i h h',gN i h->(∀ b∈bo,∀ o,h.get? b=some o->h'.get? b=some o)->gN i h'
 item : ∀ (X:aP),X.prog=P->X.w=w->X.K=K->X.calm=c->X.warm=true -> ∀ (i:Nat) (pins:List (Addr×Obj)) (s:Shared) (σ:St) (H:ah) (E:Value->Shared->Prop),Inv X pins σ H s->(∀ b∈bo,mh X pins H b)->gN i s.heap->b1.go i H ->
  wpAny (model P w) X.A (pyNext (.ref it)) (λ r s1 => ∃ u,r=some u /\
   wpAny (model P w) X.A (letOwnedTupleGo bb (.ref it) u) (λ _ s2 => ∃ x H',Inv X pins σ H' s2/\RelV x u/\b1.j5 i H x H'/\gN (i+1) s2.heap /\ ∀ b∈bo,H' b=none) E s1) E s
 done : ∀ (X:aP),X.prog=P->X.w=w->X.K=K->X.calm=c->X.warm=true -> ∀ (i:Nat) (pins:List (Addr×Obj)) (s:Shared) (σ:St) (H:ah) (E:Value->Shared->Prop),Inv X pins σ H s->(∀ b∈bo,mh X pins H b)->gN i s.heap->b1.stop i H ->
  wpAny (model P w) X.A (pyNext (.ref it)) (λ r s1=>r=none/\Inv X pins σ H s1) E s
 self : ∀ (A:Around) (i:Nat) (s:Shared) (Q:Value->Shared->Prop) (E:Value->Shared->Prop),gN i s.heap->Q (.ref it) s->wpAny (model P w) A (pyIter (.ref it)) Q E s
abbrev TI:=St->ah->(g4->ah->Prop)->Prop
def Ak (X:aP) (pins:List (Addr×Obj)) (σ:St) (bb:Expr) (R:g4->ah->Prop) (xB:Value) (s2:Shared):Prop :=
 ∃ (it:Addr) (bo:List Addr) (gN:Nat->Heap->Prop) (b1:g4) (H':ah),xB=.ref it/\Inv X pins σ H' s2/\Turn X.prog X.w X.K X.calm bb b1 bo it gN/\gN 0 s2.heap/\(∀ b∈bo,mh X pins H' b)/\R b1 H'
def k4 (X:aP) (bb iter:Expr) (fq:TI):Prop :=
 ∀ (pins:List (Addr×Obj)) (s:Shared) (σ:St) (H:ah) (R:g4->ah->Prop),Inv X pins σ H s->fq σ H R ->
  wpAny (model X.prog X.w) X.A (eval iter X.env) (λ v s1=>wpAny (model X.prog X.w) X.A (pyIter v) (Ak X pins σ bb R) X.cP s1) X.cP s
theorem vE {M:Model} {A:Around} {E:Value->Shared->Prop} {s:Shared} {bb:Expr} {it:Addr} {u:Value} {o:Obj} {n:String} {vs:Array Value} {Q:Unit->Shared->Prop} (aG:s.heap.get? it=some o) (aj:o.cls=.type n) (hd:o.data=.fields vs)
  (aD:["enumerate", "zip", "dict_itemiterator", "dict_reverseitemiterator", "odict_iterator", "itertools.zip_longest", "itertools.pairwise"].contains n=false) (gf:Q () s):wpAny M A (letOwnedTupleGo bb (.ref it) u) Q E s:=by
 unfold letOwnedTupleGo;cases bb<;>first
  | exact wpAny_pure gf
  | (cases u<;>first
    | exact wpAny_pure gf
    | (refine wpAny_bind (wpAny_load aG ?_)
       rw [aj,hd];show wpAny M A (if (["enumerate", "zip", "dict_itemiterator", "dict_reverseitemiterator", "odict_iterator", "itertools.zip_longest", "itertools.pairwise"].contains n&&vs[0]? == some (rawInt _))=true then _ else _) Q E s;rw [if_neg (by intro h;rw [aD,Bool.false_and] at h;cases h)];exact wpAny_pure gf))
def rX (K:PySem.W.Frag) (a:Addr):g4 :=
 ⟨λ i H => ∃ xs x,a3 K H a xs/\xs[i]?=some x,λ i H x H'=>H'=H /\ ∀ xs,a3 K H a xs->xs[i]?=some x,λ i H => ∃ xs,a3 K H a xs/\xs.length<=i⟩
def pf (K:PySem.W.Frag) (a:Addr):g4 :=
 ⟨λ i H => ∃ xs x,aR K H a xs/\xs[i]?=some x,λ i H x H'=>H'=H /\ ∀ xs,aR K H a xs->xs[i]?=some x,λ i H => ∃ xs,aR K H a xs/\xs.length<=i⟩
def pe (lo:Int) (n:Nat):g4:=⟨λ i _=>i<n,λ i H x H'=>H'=H/\x=.int (lo+i),λ i _=>n<=i⟩
theorem YC {c:Bool} {P:Program} {w:World} {K:PySem.W.Frag} {bb:Expr} (a it:Addr):Turn P w K c bb (rX K a) [it] it (λ i h=>h.IsListIter it a i) where
 mem:=by simp
 obj:=λ i h st b J=>by
  have e:b=it:=by simpa using J
  subst e;obtain ⟨o,e,c,d⟩:=st;exact ⟨o,e,λ v z=>by rw [d] at z;cases z⟩
 keep:=λ i h h' st k=>st.at λ o e=>k it (by simp) o e
 item:=by
  intro X c4 hw dH aB aj i pins s σ H E I hf st aI;subst c4 hw dH;obtain ⟨xs,x,aS,ak⟩:=aI;obtain ⟨its,bR,p,a9⟩:=I.list aS;obtain ⟨u,bD,eI⟩:=bR.get ak;obtain ⟨f0,f1,f2,dh,f4,d_⟩:=hf it (by simp);refine wpAny_pyNext_list_item st p.isList (x:=u) (by simpa using bD) λ h' ib cR=>?_
  have aE:Inv X pins σ H { s with heap:=h' }:=I.turned (t':=s.toks) (λ b o J e=>(cR.2 b J).trans e) f0 f1 dh f4 d_;obtain ⟨o,e,c,d⟩:=id ib;exact ⟨u,rfl,vE (s:={ s with heap:=h' }) e c d (by decide) ⟨x,H,aE,eI,⟨rfl,λ ys aN=>by rw [I.JZ aN aS];exact ak⟩,ib,λ b J=>(hf b J).1⟩⟩
 done:=by
  intro X c4 hw dH aB aj i pins s σ H E I hf st aI;subst c4 hw dH;obtain ⟨xs,aS,ak⟩:=aI;obtain ⟨its,bR,p,a9⟩:=I.list aS;obtain ⟨f0,f1,f2,dh,f4,d_⟩:=hf it (by simp);have au:=bR.length;exact gH.JY (I.jt aj) st p.isList (by simp;omega) λ h' ed=>⟨rfl,I.turned (t':=s.toks) (λ b o J e=>ed b o J e) f0 f1 dh f4 d_⟩
 self:=λ _ _ _ _ _ st h=>wpAny_pyIter_listiter st h
theorem ZJ {c:Bool} {P:Program} {w:World} {K:PySem.W.Frag} {bb:Expr} (a it:Addr):Turn P w K c bb (pf K a) [it] it (λ i h=>h.IsTupleIter it a i) where
 mem:=by simp
 obj:=λ i h st b J=>by
  have e:b=it:=by simpa using J
  subst e;obtain ⟨o,e,c,d⟩:=st;exact ⟨o,e,λ v z=>by rw [d] at z;cases z⟩
 keep:=λ i h h' st k=>st.at λ o e=>k it (by simp) o e
 item:=by
  intro X c4 hw dH aB aj i pins s σ H E I hf st aI;subst c4 hw dH;obtain ⟨xs,x,aS,ak⟩:=aI;obtain ⟨its,bR,p,a9⟩:=I.tuple aS;obtain ⟨u,bD,eI⟩:=bR.get ak;obtain ⟨f0,f1,f2,dh,f4,d_⟩:=hf it (by simp);refine wpAny_pyNext_tuple_item st (show s.heap.IsTuple a its.toArray from p) (x:=u) (by simpa using bD) λ h' ib cR=>?_
  have aE:Inv X pins σ H { s with heap:=h' }:=I.turned (t':=s.toks) (λ b o J e=>(cR.2 b J).trans e) f0 f1 dh f4 d_;obtain ⟨o,e,c,d⟩:=id ib;exact ⟨u,rfl,vE (s:={ s with heap:=h' }) e c d (by decide) ⟨x,H,aE,eI,⟨rfl,λ ys aN=>by rw [I.ru aN aS];exact ak⟩,ib,λ b J=>(hf b J).1⟩⟩
 done:=by
  intro X c4 hw dH aB aj i pins s σ H E I hf st aI;subst c4 hw dH;obtain ⟨xs,aS,ak⟩:=aI;obtain ⟨its,bR,p,a9⟩:=I.tuple aS;obtain ⟨f0,f1,f2,dh,f4,d_⟩:=hf it (by simp);have au:=bR.length;exact gH.C0 (I.jt aj) st (show s.heap.IsTuple a its.toArray from p) (by simp;omega) λ h' ed=>⟨rfl,I.turned (t':=s.toks) (λ b o J e=>ed b o J e) f0 f1 dh f4 d_⟩
 self:=λ _ _ _ _ _ st h=>wpAny_pyIter_tupleiter st h
theorem ZI {c:Bool} (cY:c=true) {P:Program} {w:World} {K:PySem.W.Frag} {bb:Expr} (it:Addr) (lo:Int) (n:Nat):Turn P w K c bb (pe lo n) [it] it (λ i h=>IsRangeIter h it (lo+(i:Nat) * 1) ((n:Int) - (i:Nat)) 1) where
 mem:=by simp
 obj:=λ i h st b J=>by
  have e:b=it:=by simpa using J
  subst e;exact ⟨_,st,λ v z=>by
   have dR:Data.fields _=Data.cell v:=z;cases dR⟩
 keep:=λ i h h' st k=>k it (by simp) _ st
 item:=by
  intro X c4 hw dH aB aj i pins s σ H E I hf st aI;subst c4 hw dH;obtain ⟨f0,f1,f2,dh,f4,d_⟩:=hf it (by simp);have W:=Walks.range (prog:=X.prog) (w:=X.w) (I.ok.hd.1 (aB.trans cY)) it lo 1 n;refine W.item i s _ _ aI st λ v h' bw bf ib fb=>?_
  obtain ⟨t,rfl⟩:=bf;have aE:Inv X pins σ H { s with heap:=h',toks:=bw }:=I.turned (λ b o J e=>fb b o (by simpa using J) e) f0 f1 dh f4 d_;refine ⟨_,rfl,vE (s:={ s with heap:=h',toks:=bw }) (n := "range_iterator") ib rfl rfl (by decide) ⟨.int (lo+i),H,aE,⟨t,?_⟩,⟨rfl,rfl⟩,ib,λ b J=>(hf b J).1⟩⟩;rw [Int.mul_one]
 done:=by
  intro X c4 hw dH aB aj i pins s σ H E I hf st aI;subst c4 hw dH;obtain ⟨f0,f1,f2,dh,f4,d_⟩:=hf it (by simp);exact wpAny_pyNext_range_end (I.ok.hd.1 (aB.trans cY)) st (by have:n<=i:=aI;omega) λ h' ed=>⟨rfl,I.turned (t':=s.toks) (λ b o J e=>ed b o J e) f0 f1 dh f4 d_⟩
 self:=λ _ _ _ _ _ st h=>wpAny_pyIter_rangeiter st h
section
variable {X:aP} {bb:Expr}
def Il (K:PySem.W.Frag) (ck:TE):TI:=λ σ H R=>ck σ H λ x H1 => ∃ a,x=.ref a/\(∃ xs,a3 K H1 a xs)/\R (rX K a) H1
def HN (K:PySem.W.Frag) (ck:TE):TI:=λ σ H R=>ck σ H λ x H1 => ∃ a,x=.ref a/\(∃ xs,aR K H1 a xs)/\R (pf K a) H1
theorem UP {l:Expr} {ck:TE} (au:b9 X l ck):k4 X bb l (Il X.K ck):=by
 intro pins s σ H R I h;refine bj (au pins s σ H _ I h) λ v s1 ⟨x,H1,aE,bq,a7⟩=>?_
 obtain ⟨a,e,⟨xs,aS⟩,q⟩:=a7;subst e;cases bq;obtain ⟨its,bR,p,a9⟩:=aE.list aS;refine wpAny_pyIter_list p.isList ?_;refine ⟨s1.heap.objs.size,[s1.heap.objs.size],_,_,H1,rfl,aE.kept (t':=s1.toks) λ b o e=>Heap.get?_push_of_some _ e,YC a _,⟨_,Heap.get?_push_size _ rfl,rfl,rfl⟩,λ b J=>?_,q⟩;have e:b=s1.heap.objs.size:=by simpa using J
 subst e;exact aE.mi (Nat.le_refl _) (aE.a6.fresh (Nat.le_refl _))
theorem TC {l:Expr} {ck:TE} (au:b9 X l ck):k4 X bb l (HN X.K ck):=by
 intro pins s σ H R I h;refine bj (au pins s σ H _ I h) λ v s1 ⟨x,H1,aE,bq,a7⟩=>?_
 obtain ⟨a,e,⟨xs,aS⟩,q⟩:=a7;subst e;cases bq;obtain ⟨its,bR,p,a9⟩:=aE.tuple aS;refine wpAny_pyIter_tuple (show s1.heap.IsTuple a its.toArray from p) ?_;refine ⟨s1.heap.objs.size,[s1.heap.objs.size],_,_,H1,rfl,aE.kept (t':=s1.toks) λ b o e=>Heap.get?_push_of_some _ e,ZJ a _,⟨_,Heap.get?_push_size _ rfl,rfl,rfl⟩,λ b J=>?_,q⟩;have e:b=s1.heap.objs.size:=by simpa using J
 subst e;exact aE.mi (Nat.le_refl _) (aE.a6.fresh (Nat.le_refl _))
theorem J8 (cY:X.calm=true) {pins:List (Addr×Obj)} {σ:St} {H:ah} {s:Shared} {R:g4->ah->Prop} {E:Value->Shared->Prop} {lo ay:Int} {t u v:Tok} {bw:Nat} (I:Inv X pins σ H s) (af : -(2 ^ 62)<=lo) (ai:lo<2 ^ 62) (aF : -(2 ^ 62)<=ay) (aX:ay<2 ^ 62)
  (q:R (pe lo (ay - lo).toNat) H):wpAny (model X.prog X.w) X.A (pyIter (.ref s.heap.objs.size)) (Ak X pins σ bb R) E { s with heap:=s.heap.push { cls:=.type "range", data:=.fields #[.int lo t,.int ay u,.int 1 v] },toks:=bw }:=by
 refine wpAny_pyIter_range (IsRange.new ..) (small_one af ai aF aX) ?_;have aE:Inv X pins σ H { s with heap:=s.heap.push { cls:=.type "range", data:=.fields #[.int lo t,.int ay u,.int 1 v] },toks:=bw }:=I.kept λ b o e=>Heap.get?_push_of_some _ e
 refine ⟨(s.heap.push { cls:=.type "range", data:=.fields #[.int lo t,.int ay u,.int 1 v] }).objs.size,[(s.heap.push { cls:=.type "range", data:=.fields #[.int lo t,.int ay u,.int 1 v] }).objs.size],_,_,H,rfl,
  aE.kept (t':=bw) λ b o e=>Heap.get?_push_of_some _ e,ZI cY _ lo (ay - lo).toNat,?_,λ b J=>?_,q⟩
 ·have aO:lo+((0:Nat):Int) * 1=lo:=by simp
  have aQ:(((ay - lo).toNat:Nat):Int) - ((0:Nat):Int)=Builtin.Range.rangeSize lo ay 1:=by rw [rangeSize_one];split<;>omega
  show IsRangeIter _ _ (lo+((0:Nat):Int) * 1) ((((ay - lo).toNat:Nat):Int) - ((0:Nat):Int)) 1;rw [aO,aQ];exact Heap.get?_push_size _ rfl
 ·have e:b=(s.heap.push { cls:=.type "range", data:=.fields #[.int lo t,.int ay u,.int 1 v] }).objs.size:=by simpa using J
  subst e;exact aE.mi (Nat.le_refl _) (aE.a6.fresh (Nat.le_refl _))
def Im (aZ:c3):TI:=λ σ H R=>aZ σ H λ vs H1 => ∃ j:Int,vs=[.int j] /\ -(2 ^ 62)<=j/\j<2 ^ 62/\R (pe 0 j.toNat) H1
def Io (aZ:c3):TI:=λ σ H R=>aZ σ H λ vs H1 => ∃ i j:Int,vs=[.int i,.int j]/\(-(2 ^ 62)<=i/\i<2 ^ 62 /\ -(2 ^ 62)<=j/\j<2 ^ 62)/\R (pe i (j - i).toNat) H1
theorem X2 {a:Expr} {aZ:c3} {p pos:Pos} (aI:dy X "range") (hm:X.mg "range" = none) (aw:hA X [a] aZ) (az:starEach [a] X.env=[(false,eval a X.env)]:=by rfl) (cY:X.calm=true:=by rfl):k4 X bb (.Call (.Name "range" p) [a] [] pos) (Im aZ):=by
 intro pins s σ H R I h;refine Call_ (mr I aI hm boot_range (PyProof.Rows.callWith_type1 (bj (aw pos pins s σ H _ I h) λ us s1 ⟨vs,H1,aE,bq,a7⟩=>?_) az rfl));obtain ⟨j,e,a7,bV,q⟩:=a7;subst e;cases bq with
 | cons r jT =>
  cases jT;obtain ⟨t,rfl⟩:=r;exact call_range_1 (J8 cY aE (by omega) (by omega) a7 bV (by simpa using q))
theorem X3 {a b:Expr} {aZ:c3} {p pos:Pos} (aI:dy X "range") (hm:X.mg "range" = none) (aw:hA X [a,b] aZ) (az:starEach [a,b] X.env=[(false,eval a X.env),(false,eval b X.env)]:=by rfl) (e5:starEach [b] X.env=[(false,eval b X.env)]:=by rfl) (cY:X.calm=true:=by rfl) :
  k4 X bb (.Call (.Name "range" p) [a,b] [] pos) (Io aZ):=by
 intro pins s σ H R I h;refine Call_ (mr I aI hm boot_range (PyProof.Rows.callWith_type1 (bj (aw pos pins s σ H _ I h) λ us s1 ⟨vs,H1,aE,bq,a7⟩=>?_) (by rw [az,e5]) (by rw [e5];rfl)));obtain ⟨i,j,e,⟨a7,bV,ea,jS⟩,q⟩:=a7;subst e;cases bq with
 | cons r jT =>
  cases jT with
  | cons bB jT =>
   cases jT;obtain ⟨t,rfl⟩:=r;obtain ⟨t',rfl⟩:=bB;exact call_range_2 (J8 cY aE a7 bV ea jS q)
def H4 (fq:TI) (g:eG) (bk:dr):dr:=λ D σ H=>fq σ H λ b1 H1 => ∃ W:Nat->Nat->St->ah->Prop,(∃ m,W 0 m σ H1) /\ ∀ i m σ H,W i m σ H ->
 (b1.stop i H/\D.bF σ H)\/(b1.go i H /\ ∃ N:St->ah->Prop,(∀ σ' H',N σ' H' -> ∃ cJ,cJ<m/\W (i+1) cJ σ' H') /\ ∀ x H',b1.j5 i H x H'->g x σ H' λ σ2 ar=>bk { D with bF:=N,cu:=N,aY:=D.bF } σ2 ar)
def sQ (bo:List Addr) (h:Heap):List (Addr×Obj):=bo.filterMap λ b=>(h.get? b).map λ o=>(b,o)
theorem tq {bo:List Addr} {h:Heap} {b:Addr} {o:Obj} (J:b∈bo) (e:h.get? b=some o):(b,o)∈sQ bo h:=List.mem_filterMap.mpr ⟨b,J,by rw [e];rfl⟩
theorem XX {bo:List Addr} {h:Heap} {p:Addr×Obj} (ax:p∈sQ bo h):p.1∈bo/\h.get? p.1=some p.2:=by
 obtain ⟨b,J,e⟩:=List.mem_filterMap.mp ax;cases q:h.get? b with
 | none=>rw [q] at e;cases e
 | some o =>
  rw [q] at e;have cU:(b,o)=p:=Option.some.inj e;subst cU;exact ⟨J,q⟩
theorem Inv.pinned {pins:List (Addr×Obj)} {σ:St} {H:ah} {s:Shared} {bo:List Addr} (I:Inv X pins σ H s) (hf : ∀ b∈bo,mh X pins H b) (aG : ∀ b∈bo,∃ o,s.heap.get? b=some o /\ ∀ v,o.data≠.cell v):Inv X (pins++sQ bo s.heap) σ H s :=
 I.Jv λ p ax=>(List.mem_append.mp ax).elim (λ z=>I.pin p (List.mem_append_right _ z)) λ z=>by
  obtain ⟨J,e⟩:=XX z;obtain ⟨f0,f1,f2,_⟩:=hf p.1 J;obtain ⟨o,cU,d⟩:=aG p.1 J;rw [e] at cU;cases cU;exact ⟨e,f0,f1,f2,d⟩
theorem Inv.v5 {pins pl:List (Addr×Obj)} {σ:St} {H:ah} {s:Shared} (I:Inv X (pins++pl) σ H s):Inv X pins σ H s:=I.Jv λ p ax=>I.pin p (List.mem_append_right _ (List.mem_append_left _ ax))
theorem TK {iter:Expr} {body:List Stmt} {fq:TI} {g:eG} {bk:dr} {pos:Pos} (ax:PassesOwn (model X.prog X.w) X.A X.env X.cP) (aj:X.warm=true) (ay:k4 X bb iter fq) (aI:nF X bb g) (J:jX X body bk)
  (az : ∀ x,foldedSetIterable iter X.env x=pure x:=by intro _;rfl):jK X (.For bb iter body [] pos) (H4 fq g bk):=by
 intro pins s σ H D I h;refine wpAny_For (bj (ay pins s σ H _ I h) λ v s1 af=>bj af λ xB s2 ai=>?_) az;obtain ⟨it,bo,gN,b1,ar,e,bS,T,ov,f2,W,⟨m0,h2⟩,turn⟩:=ai;subst e;have stat : ∀ {H':ah},(∀ b∈bo,H' b=none) -> ∀ b∈bo,mh X pins H' b:=λ aD b J=>⟨aD b J,(f2 b J).2⟩
 refine codeAny_forLoop_any (λ n s' => ∃ i σ' H',Inv X pins σ' H' s'/\gN i s'.heap/\(∀ b∈bo,H' b=none)/\W i n σ' H') ?_ m0 ⟨0,σ,ar,bS,ov,λ b J=>(f2 b J).1,h2⟩;rintro n s3 ⟨i,σ3,aK,b_,Hr,Gj,lq⟩;rcases turn i n σ3 aK lq with ⟨stop,qf⟩ | ⟨go,N,di,step⟩
 ·refine wpAny_passesOwn ax (bj (T.done X rfl rfl rfl rfl aj i pins s3 σ3 aK X.cP b_ (stat Gj) Hr stop) λ r s4 ⟨aq,cV⟩=>?_);subst aq;exact wpAny_execs_nil ⟨σ3,aK,cV,qf⟩
 ·refine wpAny_passesOwn ax (bj (T.item X rfl rfl rfl rfl aj i pins s3 σ3 aK X.cP b_ (stat Gj) Hr go) λ r s4 ⟨u,aq,aX⟩=>?_);subst aq;refine wpAny_passesOwn ax (bj aX λ _ s5 ⟨x,bt,je,lY,NO,ow,qs⟩=>?_);have NR:=je.pinned (stat qs) (T.obj _ _ ow);refine wpAny_passesOwn ax (bj (aI _ s5 σ3 bt x u _ NR lY (step x bt NO)) λ _ bL ⟨σ6,cE,d9,t4⟩=>?_);refine wpAny_passesOwn ax (bj (J _ bL σ6 cE _ d9 t4) λ f cC pa=>?_);have again : ∀ {σ7:St} {cT:ah},Inv X (pins++sQ bo s5.heap) σ7 cT cC->N σ7 cT -> ∃ m,m<n /\ ∃ i σ' H',Inv X pins σ' H' cC/\gN i cC.heap/\(∀ b∈bo,H' b=none)/\W i m σ' H':=λ {σ7 cT} iv jh=>by
   obtain ⟨cJ,hm,Aa⟩:=di σ7 cT jh;refine ⟨cJ,hm,i+1,σ7,cT,iv.v5,T.keep _ _ _ ow λ b J o e=>(iv.pin (b,o) (List.mem_append_right _ (List.mem_append_right _ (tq J e)))).1,λ b J=>?_,Aa⟩;obtain ⟨o,e,d⟩:=T.obj _ _ ow b J;exact (iv.pin (b,o) (List.mem_append_right _ (List.mem_append_right _ (tq J e)))).2.1
  cases f with
  | next=>obtain ⟨σ7,cT,iv,jh⟩:=pa;exact again iv jh
  | cont=>obtain ⟨σ7,cT,iv,jh⟩:=pa;exact again iv jh
  | brk=>obtain ⟨σ7,cT,iv,pa⟩:=pa;exact ⟨σ7,cT,iv.v5,pa⟩
  | ret v=>obtain ⟨NL,σ7,cT,iv,rO,pa⟩:=pa;exact ⟨NL,σ7,cT,iv.v5,rO,pa⟩
end
theorem yE {K:PySem.W.Frag} {a:Addr} {xs:List V} {g:eG} {bk:dr} {D:Ends} {σ:St} {H:ah} (Pv:Nat->St->ah->Prop) (h0:Pv 0 σ H) (au : ∀ i σ H,i<=xs.length->Pv i σ H->aR K H a xs)
  (az : ∀ i x σ H,xs[i]?=some x->Pv i σ H->g x σ H λ σ2 ar=>bk { D with bF:=Pv (i+1),cu:=Pv (i+1),aY:=D.bF } σ2 ar) (hd : ∀ σ H,Pv xs.length σ H->D.bF σ H) :
  ∃ W:Nat->Nat->St->ah->Prop,(∃ m,W 0 m σ H) /\ ∀ i m σ H,W i m σ H ->
   ((pf K a).stop i H/\D.bF σ H)\/((pf K a).go i H /\ ∃ N:St->ah->Prop,(∀ σ' H',N σ' H' -> ∃ cJ,cJ<m/\W (i+1) cJ σ' H') /\ ∀ x H',(pf K a).j5 i H x H'->g x σ H' λ σ2 ar=>bk { D with bF:=N,cu:=N,aY:=D.bF } σ2 ar):=by
 refine ⟨λ i m σ H=>m=xs.length - i/\i<=xs.length/\Pv i σ H,⟨xs.length,by simp,Nat.zero_le _,h0⟩,?_⟩;rintro i m σ H ⟨rfl,ay,p⟩;have q:=au i σ H ay p;by_cases dE:i<xs.length
 ·refine .inr ⟨⟨xs,xs[i],q,by simp [dE]⟩,Pv (i+1),λ σ' H' hD=>⟨xs.length - (i+1),by omega,rfl,dE,hD⟩,λ x H' y=>?_⟩;obtain ⟨e,y⟩:=y;subst e;exact az i x σ _ (y xs q) p
 ·have e:i=xs.length:=by omega
  subst e;exact .inl ⟨⟨xs,q,Nat.le_refl _⟩,hd σ H p⟩
theorem mx {lo:Int} {n:Nat} {g:eG} {bk:dr} {D:Ends} {σ:St} {H:ah} (Pv:Nat->St->ah->Prop) (h0:Pv 0 σ H)
  (az : ∀ i σ H,i<n->Pv i σ H->g (.int (lo+i)) σ H λ σ2 ar=>bk { D with bF:=Pv (i+1),cu:=Pv (i+1),aY:=D.bF } σ2 ar) (hd : ∀ σ H,Pv n σ H->D.bF σ H) :
  ∃ W:Nat->Nat->St->ah->Prop,(∃ m,W 0 m σ H) /\ ∀ i m σ H,W i m σ H ->
   ((pe lo n).stop i H/\D.bF σ H)\/((pe lo n).go i H /\ ∃ N:St->ah->Prop,(∀ σ' H',N σ' H' -> ∃ cJ,cJ<m/\W (i+1) cJ σ' H') /\ ∀ x H',(pe lo n).j5 i H x H'->g x σ H' λ σ2 ar=>bk { D with bF:=N,cu:=N,aY:=D.bF } σ2 ar):=by
 refine ⟨λ i m σ H=>m=n - i/\i<=n/\Pv i σ H,⟨n,by simp,Nat.zero_le _,h0⟩,?_⟩;rintro i m σ H ⟨rfl,ay,p⟩;by_cases dE:i<n
 ·refine .inr ⟨dE,Pv (i+1),λ σ' H' hD=>⟨n - (i+1),by omega,rfl,dE,hD⟩,λ x H' y=>?_⟩;obtain ⟨e,y⟩:=y;subst e y;exact az i σ _ dE p
 ·have e:i=n:=by omega
  subst e;exact .inl ⟨Nat.le_refl _,hd σ H p⟩
abbrev e_:=V->V->ah->bz->Prop
def dD (X:aP) (f:Value->Value->Sem Value) (r:e_):Prop :=
 ∀ (pins:List (Addr×Obj)) (s:Shared) (σ:St) (H:ah) (x y:V) (v u:Value) (Q:bz),Inv X pins σ H s->RelV x v->RelV y u->r x y H Q ->
  wpAny (model X.prog X.w) X.A (f v u) (f_ X pins σ Q) X.cP s
def w8 (X:aP) (f:Value->Sem Value) (r:V->ah->bz->Prop):Prop :=
 ∀ (pins:List (Addr×Obj)) (s:Shared) (σ:St) (H:ah) (x:V) (v:Value) (Q:bz),Inv X pins σ H s->RelV x v->r x H Q ->
  wpAny (model X.prog X.w) X.A (f v) (f_ X pins σ Q) X.cP s
def e7 (X:aP) (f:Value) (r:List V->ah->bz->Prop):Prop :=
 ∀ (pins:List (Addr×Obj)) (s:Shared) (σ:St) (H:ah) (xs:List V) (us:List Value) (Q:bz),Inv X pins σ H s->Vals xs us->r xs H Q ->
  wpAny (model X.prog X.w) X.A (call f us) (f_ X pins σ Q) X.cP s
def pD (r:e_) (aZ bk:TE):TE:=λ σ H Q=>aZ σ H λ x H1=>bk σ H1 λ y ar=>r x y ar Q
def Hv (r:V->ah->bz->Prop) (aZ:TE):TE:=λ σ H Q=>aZ σ H λ x H1=>r x H1 Q
def t5 (C:Int->Int->Prop) (g:Int->Int->V):e_:=λ x y H Q => ∃ i j,x=.int i/\y=.int j/\C i j/\Q (g i j) H
def pB (g:Int->Int->V):e_:=λ x y H Q => ∃ i j,x=.int i/\y=.int j/\Q (g i j) H
def F0 (g:Int->V):V->ah->bz->Prop:=λ x H Q => ∃ i,x=.int i/\Q (g i) H
section
variable {X:aP} {a b c:Expr} {aZ bk c_:TE} {pos:Pos}
theorem BV (aw:b9 X a aZ) (J:b9 X b bk) {pins:List (Addr×Obj)} {s:Shared} {σ:St} {H:ah} {R:V->V->ah->Prop} (I:Inv X pins σ H s)
  (h:aZ σ H λ x H1=>bk σ H1 λ y ar=>R x y ar) {Q:Value->Shared->Prop} {f:Value->Value->Sem Value}
  (hf : ∀ v u s2 x y ar,Inv X pins σ ar s2->RelV x v->RelV y u->R x y ar->wpAny (model X.prog X.w) X.A (f v u) Q X.cP s2) :
  wpAny (model X.prog X.w) X.A (eval a X.env) (λ v s₁=>wpAny (model X.prog X.w) X.A (eval b X.env) (λ u s₂=>wpAny (model X.prog X.w) X.A (f v u) Q X.cP s₂) X.cP s₁) X.cP s:=by
 refine bj (aw pins s σ H _ I h) λ v s1 ⟨x,H1,aE,bq,a7⟩=>?_
 refine bj (J pins s1 σ H1 _ aE a7) λ u s2 ⟨y,ar,bS,b5,bV⟩=>?_
 exact hf v u s2 x y ar bS bq b5 bV
theorem Sw {op:Operator} {r:e_} (aG:dD X (binaryOp op) r) (aw:b9 X a aZ) (J:b9 X b bk):b9 X (.BinOp a op b pos) (pD r aZ bk):=by
 intro pins s σ H Q I h;exact wpAny_BinOp (BV aw J I h λ v u s2 x y ar bS a5 br q=>aG pins s2 σ ar x y v u Q bS a5 br q)
theorem Sz {op:UnaryOp} {r:V->ah->bz->Prop} (aG:w8 X (unaryOp op) r) (aw:b9 X a aZ):b9 X (.UnaryOp op a pos) (Hv r aZ):=by
 intro pins s σ H Q I h;exact UnaryOp_ (bj (aw pins s σ H _ I h) λ v s1 ⟨x,H1,aE,bq,a7⟩=>aG pins s1 σ H1 x v Q aE bq a7)
theorem xI {f:Value->Value->Sem Value} {C:Int->Int->Prop} {g:Int->Int->Int}
  (rule : ∀ (i j:Int) (t u:Tok) (s:Shared) (Q:Value->Shared->Prop) (E:Value->Shared->Prop),C i j->Q (.int (g i j) s.toks) { s with toks:=s.toks+1 }->wpAny (model X.prog X.w) X.A (f (.int i t) (.int j u)) Q E s) :
  dD X f (t5 C λ i j=>.int (g i j)):=by
 intro pins s σ H x y v u Q I a5 br h;obtain ⟨i,j,rfl,rfl,aj,q⟩:=h;obtain ⟨t,rfl⟩:=a5;obtain ⟨t',rfl⟩:=br;exact rule i j t t' s _ _ aj ⟨.int (g i j),H,I.tok _,⟨_,rfl⟩,q⟩
theorem HV {f:Value->Value->Sem Value} {g:Int->Int->Int}
  (rule : ∀ (i j:Int) (t u:Tok) (s:Shared) (Q:Value->Shared->Prop) (E:Value->Shared->Prop),Q (.int (g i j) s.toks) { s with toks:=s.toks+1 }->wpAny (model X.prog X.w) X.A (f (.int i t) (.int j u)) Q E s) :
  dD X f (pB λ i j=>.int (g i j)):=by
 intro pins s σ H x y v u Q I a5 br h;obtain ⟨i,j,rfl,rfl,q⟩:=h;obtain ⟨t,rfl⟩:=a5;obtain ⟨t',rfl⟩:=br;exact rule i j t t' s _ _ ⟨.int (g i j),H,I.tok _,⟨_,rfl⟩,q⟩
theorem x_ {f:Value->Value->Sem Value} {g:Int->Int->Bool}
  (rule : ∀ (i j:Int) (t u:Tok) (s:Shared) (Q:Value->Shared->Prop) (E:Value->Shared->Prop),Q (.bool (g i j)) s->wpAny (model X.prog X.w) X.A (f (.int i t) (.int j u)) Q E s) :
  dD X f (pB λ i j=>.aJ (g i j)):=by
 intro pins s σ H x y v u Q I a5 br h;obtain ⟨i,j,rfl,rfl,q⟩:=h;obtain ⟨t,rfl⟩:=a5;obtain ⟨t',rfl⟩:=br;exact rule i j t t' s _ _ ⟨.aJ (g i j),H,I,rfl,q⟩
def Q5 (i j:Int):Prop:=0<j/\j<1073741824
def Q6 (i j:Int):Prop:=0<=j/\j<=1000000/\i.natAbs<2 ^ 64
def BR (i j:Int):Prop:=(-(2 ^ 64)<i/\i<2 ^ 64)\/(-(2 ^ 64)<j/\j<2 ^ 64)
theorem BR.ok {i j:Int} (h:BR i j):IntMulOk i j:=by
 rcases h with ⟨af,ai⟩ | ⟨af,ai⟩
 ·exact .of_left (intBits_le_64 af ai)
 ·exact .of_right (intBits_le_64 af ai)
theorem fG:dD X (binaryOp .Add) (pB λ i j=>.int (i+j)):=HV λ _ _ _ _ _ _ _ q=>add_int q
theorem jH:dD X (binaryOp .Sub) (pB λ i j=>.int (i - j)):=HV λ _ _ _ _ _ _ _ q=>sub_int q
theorem oN:dD X (binaryOp .Mult) (t5 BR λ i j=>.int (i * j)):=xI λ _ _ _ _ _ _ _ aj q=>mul_int q aj.ok
theorem sW:dD X (binaryOp .FloorDiv) (t5 Q5 λ i j=>.int (i / j)):=xI λ i j _ _ _ _ _ aj q=>by
 have af:(0:Int)<j:=aj.1;have ai:j<1073741824:=aj.2;exact floordiv_int (by omega) (by rw [Int.fdiv_eq_ediv_of_nonneg i (by omega)];exact q) (.inl (PyProof.noPylong_small (by omega)))
theorem oM:dD X (binaryOp .Mod) (t5 (λ _ j=>0<j) λ i j=>.int (i % j)):=xI λ i j _ _ _ _ _ aj q=>by
 have af:(0:Int)<j:=aj;exact mod_int' (by omega) (by rw [Int.fmod_eq_emod_of_nonneg i (by omega)];exact q)
theorem vS:dD X (binaryOp .Pow) (t5 Q6 λ i j=>.int (i ^ j.toNat)):=xI λ _ _ _ _ _ _ _ aj q=>pow_int_small aj.1 aj.2.1 aj.2.2 q
theorem QY {f:Value->Sem Value} {g:Int->Int}
  (rule : ∀ (i:Int) (t:Tok) (s:Shared) (Q:Value->Shared->Prop) (E:Value->Shared->Prop),Q (.int (g i) s.toks) { s with toks:=s.toks+1 }->wpAny (model X.prog X.w) X.A (f (.int i t)) Q E s) :
  w8 X f (F0 λ i=>.int (g i)):=by
 intro pins s σ H x v Q I a5 h;obtain ⟨i,rfl,q⟩:=h;obtain ⟨t,rfl⟩:=a5;exact rule i t s _ _ ⟨.int (g i),H,I.tok _,⟨_,rfl⟩,q⟩
theorem nu:w8 X (unaryOp .USub) (F0 λ i=>.int (-i)):=QY λ _ _ _ _ _ q=>neg_int q
end
def HY:V->V->Bool
 | .bg,.bg=>true | .bg,.int _=>true | .int _,.bg=>true | .bg,.aJ _=>true | .aJ _,.bg=>true | .bg,.str _=>true | .str _,.bg=>true
 | .int _,.int _=>true | .aJ _,.aJ _=>true | .str _,.str _=>true | .iB _,.iB _=>true
 | .int _,.str _=>true | .str _,.int _=>true | .aJ _,.str _=>true | .str _,.aJ _=>true
 | _,_=>false
def QJ:e_:=λ x y H Q=>HY x y=true/\Q (.aJ (decide (x=y))) H
def QK:e_:=λ x y H Q=>HY x y=true/\Q (.aJ (!decide (x=y))) H
theorem Ji {i j:Int}:decide (V.int i=V.int j)=(i == j):=by
 rw [Bool.eq_iff_iff];simp
theorem II {i j:Bool}:decide (V.aJ i=V.aJ j)=(i == j):=by
 rw [Bool.eq_iff_iff];simp
theorem Jj {i j:Str}:decide (V.str i=V.str j)=(i == j):=by
 rw [Bool.eq_iff_iff];simp
theorem Jh {i j:Array UInt8}:decide (V.iB i=V.iB j)=(i.toList == j.toList):=by
 rw [Bool.eq_iff_iff];cases i;cases j;simp
section
variable {X:aP} {a b c:Expr} {aZ bk c_:TE} {pos:Pos}
theorem eK {pins:List (Addr×Obj)} {σ:St} {H:ah} {s:Shared} {Q:bz} {k fa:Bool} (I:Inv X pins σ H s) (q:Q (.aJ k) H) (e:k=fa):f_ X pins σ Q (.bool fa) s:=by
 subst e;exact ⟨.aJ k,H,I,rfl,q⟩
theorem eJ:dD X (compareOp .Eq) QJ:=by
 intro pins s σ H x y v u Q I a5 br h;obtain ⟨az,q⟩:=h;cases x with
 | bg =>
  cases a5;cases y with
  | bg=>cases br;exact PySem.EqNone.eq_none_none (eK I q (by simp))
  | aJ j=>cases br;exact PySem.EqNone.eq_none_bool (eK I q (by simp))
  | int j=>obtain ⟨t',rfl⟩:=br;exact PySem.EqNone.eq_none_int (eK I q (by simp))
  | str j=>obtain ⟨t',rfl⟩:=br;exact PySem.EqNone.eq_none_str (eK I q (by simp))
  | _=>exact absurd (show false=true from az) Bool.false_ne_true
 | aJ i =>
  cases a5;cases y with
  | bg=>cases br;exact PySem.EqNone.eq_bool_none (eK I q (by simp))
  | aJ j=>cases br;exact eq_bool (eK I q II)
  | str j=>obtain ⟨t',rfl⟩:=br;exact PySem.EqMixed.eq_bool_str (eK I q (by simp))
  | _=>exact absurd (show false=true from az) Bool.false_ne_true
 | int i =>
  obtain ⟨t,rfl⟩:=a5;cases y with
  | bg=>cases br;exact PySem.EqNone.eq_int_none (eK I q (by simp))
  | int j=>obtain ⟨t',rfl⟩:=br;exact eq_int (eK I q Ji)
  | str j=>obtain ⟨t',rfl⟩:=br;exact PySem.EqMixed.eq_int_str (eK I q (by simp))
  | _=>exact absurd (show false=true from az) Bool.false_ne_true
 | str i =>
  obtain ⟨t,rfl⟩:=a5;cases y with
  | bg=>cases br;exact PySem.EqNone.eq_str_none (eK I q (by simp))
  | aJ j=>cases br;exact PySem.EqMixed.eq_str_bool (eK I q (by simp))
  | int j=>obtain ⟨t',rfl⟩:=br;exact PySem.EqMixed.eq_str_int (eK I q (by simp))
  | str j=>obtain ⟨t',rfl⟩:=br;exact eq_str (eK I q Jj)
  | _=>exact absurd (show false=true from az) Bool.false_ne_true
 | iB i =>
  obtain ⟨t,rfl⟩:=a5;cases y with
  | iB j=>obtain ⟨t',rfl⟩:=br;exact PySem.W.eq_bytes (eK I q Jh)
  | _=>exact absurd (show false=true from az) Bool.false_ne_true
 | _=>cases y<;>exact absurd (show false=true from az) Bool.false_ne_true
theorem jF:dD X (compareOp .NotEq) QK:=by
 intro pins s σ H x y v u Q I a5 br h;obtain ⟨az,q⟩:=h;cases x with
 | bg =>
  cases a5;cases y with
  | bg=>cases br;exact PySem.EqNone.ne_none_none (eK I q (by simp))
  | aJ j=>cases br;exact PySem.EqNone.ne_none_bool (eK I q (by simp))
  | int j=>obtain ⟨t',rfl⟩:=br;exact PySem.EqNone.ne_none_int (eK I q (by simp))
  | str j=>obtain ⟨t',rfl⟩:=br;exact PySem.EqNone.ne_none_str (eK I q (by simp))
  | _=>exact absurd (show false=true from az) Bool.false_ne_true
 | aJ i =>
  cases a5;cases y with
  | bg=>cases br;exact PySem.EqNone.ne_bool_none (eK I q (by simp))
  | aJ j=>cases br;exact ne_bool (eK I q (congrArg not II))
  | str j=>obtain ⟨t',rfl⟩:=br;exact PySem.EqMixed.ne_bool_str (eK I q (by simp))
  | _=>exact absurd (show false=true from az) Bool.false_ne_true
 | int i =>
  obtain ⟨t,rfl⟩:=a5;cases y with
  | bg=>cases br;exact PySem.EqNone.ne_int_none (eK I q (by simp))
  | int j=>obtain ⟨t',rfl⟩:=br;exact ne_int (eK I q (congrArg not Ji))
  | str j=>obtain ⟨t',rfl⟩:=br;exact PySem.EqMixed.ne_int_str (eK I q (by simp))
  | _=>exact absurd (show false=true from az) Bool.false_ne_true
 | str i =>
  obtain ⟨t,rfl⟩:=a5;cases y with
  | bg=>cases br;exact PySem.EqNone.ne_str_none (eK I q (by simp))
  | aJ j=>cases br;exact PySem.EqMixed.ne_str_bool (eK I q (by simp))
  | int j=>obtain ⟨t',rfl⟩:=br;exact PySem.EqMixed.ne_str_int (eK I q (by simp))
  | str j=>obtain ⟨t',rfl⟩:=br;exact ne_str (eK I q (congrArg not Jj))
  | _=>exact absurd (show false=true from az) Bool.false_ne_true
 | iB i =>
  obtain ⟨t,rfl⟩:=a5;cases y with
  | iB j=>obtain ⟨t',rfl⟩:=br;exact PySem.W.ne_bytes (eK I q (congrArg not Jh))
  | _=>exact absurd (show false=true from az) Bool.false_ne_true
 | _=>cases y<;>exact absurd (show false=true from az) Bool.false_ne_true
theorem lJ:dD X (compareOp .Lt) (pB λ i j=>.aJ (decide (i<j))):=x_ λ _ _ _ _ _ _ _ q=>lt_int q
theorem vL:dD X (compareOp .LtE) (pB λ i j=>.aJ (decide (i<=j))):=x_ λ _ _ _ _ _ _ _ q=>le_int q
theorem mn:dD X (compareOp .Gt) (pB λ i j=>.aJ (decide (j<i))):=x_ λ _ _ _ _ _ _ _ q=>gt_int q
theorem Ct:dD X (compareOp .GtE) (pB λ i j=>.aJ (decide (j<=i))):=x_ λ _ _ _ _ _ _ _ q=>ge_int q
theorem XZ:dD X (compareOp .In) (λ x y H Q => ∃ i j,x=.str i/\y=.str j/\Q (.aJ (!(Builtin.Str.occurrences j i 0 j.length 1).isEmpty)) H):=by
 intro pins s σ H x y v u Q I a5 br h;obtain ⟨i,j,rfl,rfl,q⟩:=h;obtain ⟨t,rfl⟩:=a5;obtain ⟨t',rfl⟩:=br;exact in_str (eK I q rfl)
theorem mv:dD X (compareOp .Is) (λ x y H Q=>y=.bg/\Q (.aJ (decide (x=.bg))) H):=by
 intro pins s σ H x y v u Q I a5 br h;obtain ⟨rfl,q⟩:=h;cases br;refine is_none_gen (eK I q ?_);cases x<;>first
  | (cases a5;rfl)
  | (obtain ⟨t,rfl⟩:=a5;rfl)
theorem Ju:dD X (compareOp .IsNot) (λ x y H Q=>y=.bg/\Q (.aJ (!decide (x=.bg))) H):=by
 intro pins s σ H x y v u Q I a5 br h;obtain ⟨rfl,q⟩:=h;cases br;refine isnot_none_gen (eK I q ?_);cases x<;>first
  | (cases a5;rfl)
  | (obtain ⟨t,rfl⟩:=a5;rfl)
theorem dD.or {f:Value->Value->Sem Value} {r bB:e_} (h:dD X f r) (h':dD X f bB):dD X f (λ x y H Q=>r x y H Q\/bB x y H Q):=by
 intro pins s σ H x y v u Q I a5 br q;rcases q with q | q
 ·exact h pins s σ H x y v u Q I a5 br q
 ·exact h' pins s σ H x y v u Q I a5 br q
theorem bZ (b:Expr) {op:CmpOp} (h:op≠.In:=by decide) (ai:op≠.NotIn:=by decide):behindInMarks op b=false:=by
 have aO:(op == CmpOp.In)=false:=by cases op<;>first | rfl | exact absurd rfl h
 have aQ:(op == CmpOp.NotIn)=false:=by cases op<;>first | rfl | exact absurd rfl ai
 cases b<;>simp [behindInMarks,aO,aQ]
theorem UH {op:CmpOp} {r:e_} (aG:dD X (compareOp op) r) (aw:b9 X a aZ) (J:b9 X b bk) (hm:behindInMarks op b=false):b9 X (.Compare a [op] [b] pos) (pD r aZ bk):=by
 intro pins s σ H Q I h;exact wpAny_Compare1 (BV aw J I h λ v u s2 x y ar bS a5 br q=>aG pins s2 σ ar x y v u Q bS a5 br q) hm
def ID (t:TE):TT:=λ σ H Q=>t σ H λ x H' => ∃ k,x=.aJ k/\Q k H'
theorem U0 {op:CmpOp} {r:e_} (aG:dD X (compareOp op) r) (aw:b9 X a aZ) (J:b9 X b bk) (hm:behindInMarks op b=false):kg X (.Compare a [op] [b] pos) (ID (pD r aZ bk)):=by
 intro pins s σ H Q I h;refine wpAny_isTrue_Compare1 (bj (aw pins s σ H _ I h) λ v s1 ⟨x,H1,aE,bq,a7⟩=>bj (J pins s1 σ H1 _ aE a7) λ u s2 ⟨y,ar,bS,b5,bV⟩ =>
  bj (aG pins s2 σ ar x y v u _ bS bq b5 bV) λ c s3 ⟨z,aK,b_,hF,k,e,ea⟩=>?_) hm
 subst e;cases hF;exact wpAny_truthy_bool ⟨aK,b_,ea⟩
def I1 (r bB:e_) (aZ bk c_:TE):TE:=λ σ H Q=>aZ σ H λ x H1=>bk σ H1 λ y ar=>r x y ar λ z aK => ∃ k,z=.aJ k /\
 (if k=true then c_ σ aK λ cO bc=>bB y cO bc Q else Q (.aJ false) aK)
theorem Ws {op qS:CmpOp} {r bB:e_} (aG:dD X (compareOp op) r) (ju:dD X (compareOp qS) bB) (aw:b9 X a aZ) (J:b9 X b bk) (aj:b9 X c c_)
  (hm:lastMarks [op,qS] [b,c]=false:=by with_unfolding_all rfl):b9 X (.Compare a [op,qS] [b,c] pos) (I1 r bB aZ bk c_):=by
 intro pins s σ H Q I h;refine Compare_chain (bj (aw pins s σ H _ I h) λ v s1 ⟨x,H1,aE,bq,a7⟩=>chain_link (bj (J pins s1 σ H1 _ aE a7) λ u s2 ⟨y,ar,bS,b5,bV⟩ =>
  bj (aG pins s2 σ ar x y v u _ bS bq b5 bV) λ d s3 ⟨z,aK,b_,hF,k,e,ea⟩=>?_)) hm
 subst e;cases hF;refine wpAny_truthy_bool ?_;cases k with
 | false=>exact ite_ff ⟨.aJ false,aK,b_,rfl,ea⟩
 | true=>exact ite_tt (chain_last (bj (aj pins s3 σ aK _ b_ ea) λ cO s4 ⟨dR,bc,cV,hG,jS⟩=>ju pins s4 σ bc y dR u cO Q cV b5 hG jS))
theorem sP:(sizeLine:Nat)<2 ^ 63:=by rw [sizeLine_eq];decide
theorem vals1 {x:V} {us:List Value} (r:Vals [x] us) : ∃ u,us=[u]/\RelV x u:=by
 cases r with
 | cons bq b5=>cases b5;exact ⟨_,rfl,bq⟩
theorem vals2 {x y:V} {us:List Value} (r:Vals [x,y] us) : ∃ u cO,us=[u,cO]/\RelV x u/\RelV y cO:=by
 cases r with
 | cons bq b5 =>
  cases b5 with
  | cons hF hG=>cases hG;exact ⟨_,_,rfl,bq,hF⟩
theorem v_ (aj:X.warm=true):e7 X (.builtin "max") (λ xs H Q => ∃ i j,xs=[.int i,.int j]/\Q (.int (if j > i then j else i)) H):=by
 intro pins s σ H xs us Q I r h;obtain ⟨i,j,rfl,q⟩:=h;obtain ⟨u,cO,rfl,⟨t,rfl⟩,⟨t',rfl⟩⟩:=vals2 r;refine gH.max2 (I.jt aj) λ h' bw k=>⟨_,H,I.kept k,?_,q⟩
 by_cases b3:j > i
 ·rw [if_pos b3,if_pos b3];exact ⟨_,rfl⟩
 ·rw [if_neg b3,if_neg b3];exact ⟨_,rfl⟩
theorem Ku (aj:X.calm=true):e7 X (.builtin "min") (λ xs H Q => ∃ i j,xs=[.int i,.int j]/\Q (.int (if j<i then j else i)) H):=by
 intro pins s σ H xs us Q I r h;obtain ⟨i,j,rfl,q⟩:=h;obtain ⟨u,cO,rfl,⟨t,rfl⟩,⟨t',rfl⟩⟩:=vals2 r;refine min_two_ints (I.ok.hd.1 aj) λ h' bw k=>⟨_,H,I.kept k,?_,q⟩
 by_cases b3:j<i
 ·rw [if_pos b3,if_pos b3];exact ⟨_,rfl⟩
 ·rw [if_neg b3,if_neg b3];exact ⟨_,rfl⟩
theorem Xh:e7 X (.type "int") (λ xs H Q=>(∃ i,xs=[.int i]/\Q (.int i) H) \/ ∃ k,xs=[.aJ k]/\Q (.int (if k then 1 else 0)) H):=by
 intro pins s σ H xs us Q I r h;rcases h with ⟨i,rfl,q⟩ | ⟨k,rfl,q⟩
 ·obtain ⟨u,rfl,t,rfl⟩:=vals1 r;exact call_int_int ⟨.int i,H,I,⟨_,rfl⟩,q⟩
 ·obtain ⟨u,rfl,bq⟩:=vals1 r;cases bq;exact call_int_bool ⟨.int (if k then 1 else 0),H,I.tok _,⟨_,rfl⟩,q⟩
end
structure qZ (h:Heap) (x aH C:Addr) (dB:Str->Option Value):Prop where
 obj:h.get? x=some (PySem.W.instObj C aH)
 ns:h.Ns1 aH dB
 ne:aH≠x
theorem KR {h:Heap} {aH:Addr} {dB:Str->Option Value} (n:h.Ns1 aH dB) : ∃ bK,h.get? aH=some bK /\ ∀ name,PySem.W.lookIn name bK=some (dB name):=by
 obtain ⟨o,ao,ep,aG,hd,aB,_,hm⟩:=n;refine ⟨o,aG,λ name=>?_⟩;have e:=hm name;unfold nsFind findBy at e;rw [<-Array.find?_toList] at e;unfold PySem.W.lookIn;rw [hd];dsimp only;split
 ·rename_i y q;rw [q] at e;exact congrArg some e
 ·rename_i q;rw [q] at e;have a:ao.toList.any (·.refKey)=false:=by
   rw [List.any_eq_false];intro y aN;obtain ⟨z,t,B2⟩:=aB y (Array.mem_toList_iff.mp aN);simp [DictEntry.refKey,B2]
  have nI : ¬ ao.toList.any (·.refKey)=true:=by rw [a];exact Bool.false_ne_true
  rw [if_neg nI];exact congrArg some e
theorem qZ.look {h:Heap} {x aH C:Addr} {dB:Str->Option Value} (I:qZ h x aH C dB) : ∃ bK,PySem.W.InstAt h x (PySem.W.instObj C aH) C (some bK) /\ ∀ name,PySem.W.lookIn name bK=some (dB name) :=
 let ⟨bK,aG,au⟩:=KR I.ns
 ⟨bK,⟨I.obj,rfl,rfl,aG⟩,au⟩
section
variable {prog:Program} {w:World} {A:Around} {E:Value->Shared->Prop} {s:Shared} {K:PySem.W.Frag} {x aH C f:Addr} {dB:Str->Option Value} {name:Str} {v:Value}
theorem get_map {expr:Bool} {Q:Value->Shared->Prop} (X:K.In s.heap) (I:qZ s.heap x aH C dB) (aI:PySem.W.plainGet K C name=true) (bU:PySem.W.hasDictIn K C=true)
  (aw:PySem.W.findIn K (.ref C) name=some none) (bf:dB name=some v) (qL:PySem.W.handedIn v=true) (h:Q v { s with toks:=s.toks+1 }) :
  wpAny (model prog w) A (getAttr (.ref x) name expr) Q E s:=by
 obtain ⟨bK,b1,au⟩:=I.look;exact PySem.W.get_value X b1 (PySem.W.plainGet_of aI).1 (PySem.W.findObj_own bU aw rfl (by rw [au,bf])) qL h
theorem VZ {pl:Sem Bool} {Q:Value×List Value->Shared->Prop} (X:K.In s.heap) (I:qZ s.heap x aH C dB) (aI:PySem.W.plainGet K C name=true)
  (hf:PySem.W.findIn K (.ref C) name=some (some (.ref f))) (aW:PySem.W.isFn K (.ref f)=true) (bf:dB name=none) (h:Q (.ref f,[.ref x]) s) :
  wpAny (model prog w) A (getMethod (.ref x) name pl) Q E s:=by
 obtain ⟨bK,b1,au⟩:=I.look;exact PySem.W.method_fn X b1 (PySem.W.plainGet_of aI).1 (PySem.W.plainGet_of aI).2 hf (beq_iff_eq.mp aW) (by show (PySem.W.lookIn name bK).map (·.isSome)=some false;rw [au,bf];rfl) h
theorem Vj {ns:List Str} {Q:Unit->Shared->Prop} (X:K.In s.heap) (I:qZ s.heap x aH C dB)
  (az:PySem.W.findIn K (.ref C) "__setattr__" = some (some (.builtin "object.__setattr__"))) (ax:PySem.W.plainOver K C=true) (aW:PySem.W.takerIn K C name=some none) (bU:PySem.W.hasDictIn K C=true)
  (hw:PySem.Within dB ns) (hsz:ns.length<=sizeLine)
  (h : ∀ h',qZ h' x aH C (λ y=>if y=name then some v else dB y)->Heap.SameBut aH s.heap h'->Q () { s with heap:=h',toks:=s.toks+2 }) :
  wpAny (model prog w) A (setAttr (.ref x) name v) Q E s:=by
 obtain ⟨bK,b1,au⟩:=I.look;refine PySem.W.set_plain X b1 az (PySem.W.osa_open (s:={ s with toks:=s.toks+1 }) (r:=none) X b1 ax aW λ b=>?_);obtain ⟨cd,aj,mQ⟩:=PySem.W.any_some bU;have ak:s.heap.get? x=some ⟨.ref C,some aH,.plain,#[]⟩:=I.obj;refine wpAny_bind (wpAny_pure (wpAny_bind (wpAny_bind (wpAny_loadPart ak (wpAny_bind (PySem.W.Looks.here (s:={ s with toks:=s.toks+1 }) (PySem.W.looks_clsIn X aj) ?_))))));rw [mQ];refine wpAny_pure (a:=some aH) (wpAny_bind (wpAny_pure (wpAny_bind ?_)));refine wpAny_nsSet1 (s:={ s with toks:=s.toks+1 }) I.ns λ h' lC e5=>?_
 obtain ⟨Nq,N3,N1,A8,AN,l7⟩:=lC.count (PySem.Within.cons name v hw);refine wpAny_bind (wpAny_lookBehind A8 (by rw [AN];exact pastItsLine_dict (Nat.le_trans l7 (by rw [List.length_cons];omega))) ?_);exact wpAny_pure (h _ ⟨(e5.2 _ (Ne.symm I.ne)).trans I.obj,lC,I.ne⟩ e5)
theorem Wb {R:Result->Shared->Prop} {vs:List Value} {kw:List (Str×Value)} (X:K.In s.heap) (hm:PySem.W.makesIn K C=true)
  (ay:PySem.W.findIn K (.ref C) "__init__" = some (some (.ref f))) (hf:PySem.W.typeIn K (.ref f)=some (.type "function"))
  (h:codeAny (model prog w) (A.under (.builtin "type.__call__" ⟨.ref C::vs,kw⟩)) (.call (.ref f) ⟨.ref (s.heap.objs.size+1)::vs,kw⟩) (PySem.W.InitBack (s.heap.objs.size+1) R)
   { s with heap:=(s.heap.push PySem.W.emptyDict).push (PySem.W.instObj C s.heap.objs.size) }) :
  codeAny (model prog w) A (.call (.ref C) ⟨vs,kw⟩) R s:=by
 obtain ⟨bU,g,d,t,os⟩:=s;exact PySem.W.make_core (PySem.W.makes_of X hm) (PySem.W.looks_findIn X ay) (λ self=>PySem.W.bind_fn X self hf) (.inl rfl) h
end
def i9 (f:Str) (v:V):List (Str×V)->List (Str×V)
 | []=>[(f,v)]
 | (g,x)::r=>if g=f then (g,v)::r else (g,x)::i9 f v r
theorem Lu (f g:Str) (v:V) : ∀ aA:List (Str×V),(i9 f v aA).lookup g=if g=f then some v else aA.lookup g
 | []=>by
  show List.lookup g [(f,v)]=_;by_cases h:g=f
  ·have J:(g == f)=true:=beq_iff_eq.mpr h;simp only [List.lookup,J,if_pos h]
  ·have J:(g == f)=false:=beq_eq_false_iff_ne.mpr h;simp only [List.lookup,J,if_neg h]
 | (k,x)::r=>by
  have c5:=Lu f g v r;rw [show i9 f v ((k,x)::r)=(if k=f then (k,v)::r else (k,x)::i9 f v r) from rfl];by_cases aB:k=f
  ·rw [if_pos aB];by_cases h:g=k
   ·have J:(g == k)=true:=beq_iff_eq.mpr h;simp only [List.lookup,J,if_pos (h.trans aB)]
   ·have J:(g == k)=false:=beq_eq_false_iff_ne.mpr h;simp only [List.lookup,J,if_neg (λ e:g=f=>h (e.trans aB.symm))]
  ·rw [if_neg aB];by_cases h:g=k
   ·have J:(g == k)=true:=beq_iff_eq.mpr h;simp only [List.lookup,J,if_neg (λ e:g=f=>aB (h.symm.trans e))]
   ·have J:(g == k)=false:=beq_eq_false_iff_ne.mpr h;simp only [List.lookup,J];exact c5
theorem Dx (f:Str) (v:V) : ∀ aA:List (Str×V),f∈(i9 f v aA).map (·.1) /\ ∀ g,g∈aA.map (·.1)->g∈(i9 f v aA).map (·.1)
 | []=>⟨by simp [i9],λ g h=>by simp at h⟩
 | (k,x)::r=>by
  obtain ⟨eA,fM⟩:=Dx f v r;rw [show i9 f v ((k,x)::r)=(if k=f then (k,v)::r else (k,x)::i9 f v r) from rfl];by_cases aB:k=f
  ·rw [if_pos aB];subst aB;exact ⟨by simp,λ g h=>by simpa using h⟩
  ·rw [if_neg aB];refine ⟨?_,λ g h=>?_⟩
   ·rw [List.map_cons];exact List.mem_cons_of_mem _ eA
   ·rw [List.map_cons] at h ⊢;rcases List.mem_cons.mp h with e | e
    ·exact List.mem_cons.mpr (.inl e)
    ·exact List.mem_cons_of_mem _ (fM g e)
theorem Lr (f:Str) (v:V) : ∀ aA:List (Str×V),(i9 f v aA).length<=aA.length+1
 | []=>by simp [i9]
 | (k,x)::r=>by
  have c5:=Lr f v r;rw [show i9 f v ((k,x)::r)=(if k=f then (k,v)::r else (k,x)::i9 f v r) from rfl];by_cases aB:k=f
  ·rw [if_pos aB,List.length_cons,List.length_cons];omega
  ·rw [if_neg aB,List.length_cons,List.length_cons];omega
theorem hp.some_of {v:V} {o:Option Value} (r:hp (some v) o) : ∃ u,o=some u/\RelV v u:=by
 cases o with
 | none=>exact (show False from r).elim
 | some u=>exact ⟨u,rfl,r⟩
theorem hp.none_of {o:Option Value} (r:hp none o):o=none:=by
 cases o with
 | none=>rfl
 | some u=>exact (show False from r).elim
theorem KL {v:V} {u:Value} (r:RelV v u):PySem.W.handedIn u=true:=by
 cases v with
 | bg=>cases (show u=Value.none from r);rfl
 | aJ b=>cases (show u=Value.bool b from r);rfl
 | int i=>obtain ⟨t,e⟩:=(show ∃ t,u=Value.int i t from r);cases e;rfl
 | str x=>obtain ⟨t,e⟩:=(show ∃ t,u=Value.str x t from r);cases e;rfl
 | iB b=>obtain ⟨t,e⟩:=(show ∃ t,u=Value.bytes b t from r);cases e;rfl
 | hi b=>obtain ⟨t,e⟩:=(show ∃ t,u=Value.float b t from r);cases e;rfl
 | ref a=>cases (show u=Value.ref a from r);rfl
 | ty n=>cases (show u=Value.type n from r);rfl
section
variable {P:Program} {w:World} {H H':ah} {h h':Heap} {a C aH:Addr} {aA N9:List (Str×V)}
theorem yI (a6:eo P w H h) (e:H a=some (.ins C aH aA)) : ∃ dB,qZ h a aH C dB/\(∀ f,hp (aA.lookup f) (dB f))/\PySem.Within dB (aA.map (·.1))/\aA.length<=1000/\H aH=some (.own a):=by
 obtain ⟨d,z,ne,b2,dB,n,r,q⟩:=(show dW P w H h a (.ins C aH aA) from a6 a _ e)
 exact ⟨dB,⟨b2,n,ne⟩,r,q,z,d⟩
end
structure jm (K:PySem.W.Frag) (C:Addr):Prop where
 lW:PySem.W.plainGet K C Str.empty=true
 hd:PySem.W.hasDictIn K C=true
 po:PySem.W.plainOver K C=true
 rP:PySem.W.findIn K (.ref C) "__setattr__" = some (some (.builtin "object.__setattr__"))
theorem jm.get {K:PySem.W.Frag} {C:Addr} (c:jm K C) (f:Str):PySem.W.plainGet K C f=true:=c.lW
def oL (K:PySem.W.Frag) (C:Addr) (f:Str):Prop:=PySem.W.findIn K (.ref C) f=some none
theorem oL.SM {K:PySem.W.Frag} {C:Addr} {f:Str} (n:oL K C f):PySem.W.takerIn K C f=some none:=by
 unfold PySem.W.takerIn;rw [show PySem.W.findIn K (.ref C) f=some none from n];rfl
structure Meth (K:PySem.W.Frag) (C:Addr) (m:Str) (f:Addr):Prop where
 at_:PySem.W.findIn K (.ref C) m=some (some (.ref f))
 fn:PySem.W.isFn K (.ref f)=true
 a_:PySem.W.keepIn K (.ref f)=true
section
variable {X:aP} {pins:List (Addr×Obj)} {σ:St} {H:ah} {s:Shared} {a C aH:Addr} {aA:List (Str×V)} {f:Str} {v:V} {A:Around} {E:Value->Shared->Prop}
theorem Y5 {b:Bool} {Q:Value->Shared->Prop} (I:Inv X pins σ H s) (e:H a=some (.ins C aH aA)) (c:jm X.K C) (n:oL X.K C f) (l:aA.lookup f=some v)
  (h : ∀ u s',Inv X pins σ H s'->RelV v u->Q u s'):wpAny (model X.prog X.w) A (getAttr (.ref a) f b) Q E s:=by
 obtain ⟨dB,O,r,_,_,_⟩:=yI I.a6 e;obtain ⟨u,bD,eI⟩:=hp.some_of (v:=v) (o:=dB f) (by rw [<-l];exact r f);exact get_map I.dF O (c.get f) c.hd n bD (KL eI) (h u _ (I.tok _) eI)
theorem K_ {m:Str} {g:Addr} {pl:Sem Bool} {Q:Value×List Value->Shared->Prop} (I:Inv X pins σ H s) (e:H a=some (.ins C aH aA)) (c:jm X.K C) (k:Meth X.K C m g) (l:aA.lookup m=none)
  (h:Q (.ref g,[.ref a]) s):wpAny (model X.prog X.w) A (getMethod (.ref a) m pl) Q E s:=by
 obtain ⟨dB,O,r,_,_,_⟩:=yI I.a6 e;have aD:dB m=none:=hp.none_of (by rw [<-l];exact r m);exact VZ I.dF O (c.get m) k.at_ k.fn aD h
theorem Zy {y:V} {u:Value} {Q:Unit->Shared->Prop} (I:Inv X pins σ H s) (e:H a=some (.ins C aH aA)) (c:jm X.K C) (n:oL X.K C f) (au:aA.length<1000) (br:RelV y u)
  (h : ∀ s',Inv X pins σ (upd H a (.ins C aH (i9 f y aA))) s'->Q () s'):wpAny (model X.prog X.w) A (setAttr (.ref a) f u) Q E s:=by
 obtain ⟨dB,O,r,fq,_,aG⟩:=yI I.a6 e;have a9:(aA.map (·.1)).length<=sizeLine:=by rw [List.length_map,sizeLine_eq];omega
 refine Vj I.dF O c.rP c.po n.SM c.hd fq a9 λ h' zy cR=>h _ ?_
 have hd : ∃ o,h'.get? aH=some o:=let ⟨o,_,_,cU,_⟩:=zy.ns;⟨o,cU⟩
 refine I.write (x:=a) (e:=aH) (by rw [e];exact True.intro) (.inr aG) (λ b q J z=>(cR.2 b J).trans z) hd ?_;refine ⟨by rw [a8 O.ne];exact aG,?_,O.ne,zy.obj,_,zy.ns,λ g=>?_,λ g aI=>?_⟩
 ·have:=Lr f y aA;omega
 ·show hp ((i9 f y aA).lookup g) (if g=f then some u else dB g);rw [Lu];by_cases q:g=f
  ·rw [if_pos q,if_pos q];exact br
  ·rw [if_neg q,if_neg q];exact r g
 ·by_cases q:g=f
  ·rw [q];exact (Dx f y aA).1
  ·refine (Dx f y aA).2 g (fq g λ z=>aI ?_);show (if g=f then some u else dB g)=none;rw [if_neg q];exact z
theorem Inv.made (I:Inv X pins σ H s):Inv X pins σ (upd (upd H s.heap.objs.size (.own (s.heap.objs.size+1))) (s.heap.objs.size+1) (.ins C s.heap.objs.size []))
  { s with heap:=(s.heap.push PySem.W.emptyDict).push (PySem.W.instObj C s.heap.objs.size) }:=by
 have aO:(s.heap.push PySem.W.emptyDict).get? s.heap.objs.size=some PySem.W.emptyDict:=Heap.get?_push_size s.heap rfl;have aQ:((s.heap.push PySem.W.emptyDict).push (PySem.W.instObj C s.heap.objs.size)).get? (s.heap.objs.size+1)=some (PySem.W.instObj C s.heap.objs.size):=by
  have:=Heap.get?_push_size (s.heap.push PySem.W.emptyDict) (o:=PySem.W.instObj C s.heap.objs.size) rfl
  rwa [Heap.size_push] at this
 have el:(s.heap.push PySem.W.emptyDict).Ns s.heap.objs.size (λ _=>none):=⟨PySem.W.emptyDict,#[],_,aO,rfl,(λ e he=>absurd he (by simp)),λ _=>rfl⟩
 have aE:=I.laid (a:=s.heap.objs.size) (o:=.own (s.heap.objs.size+1)) (h':=s.heap.push PySem.W.emptyDict) (t':=s.toks) (λ b u q=>Heap.get?_push_of_some _ q) (Nat.le_refl _) ⟨_,aO⟩;refine aE.laid (a:=s.heap.objs.size+1) (o:=.ins C s.heap.objs.size []) (t':=s.toks) (λ b u q=>Heap.get?_push_of_some _ q) (Nat.le_of_eq (Heap.size_push _ _)) ?_;have ne:s.heap.objs.size≠s.heap.objs.size+1:=Nat.ne_of_lt (Nat.lt_succ_self _);refine ⟨by rw [a8 ne,bA],Nat.zero_le _,ne,aQ,λ _=>none,(Heap.Ns1.of_empty el).at λ o q=>Heap.get?_push_of_some _ q,λ _=>True.intro,λ y aN=>absurd rfl aN⟩
theorem Jc {prog:Program} {w:World} {env:Env} {e:Expr} {f:Str} {pos:Pos} {s:Shared} {Q:Value->Shared->Prop} (J:attributeBase e f env (eval e env)=eval e env)
  (h:wpAny (model prog w) A (eval e env) (λ o s₁=>wpAny (model prog w) A (getAttr o f true) Q E s₁) E s):wpAny (model prog w) A (eval (.Attribute e f pos) env) Q E s :=
 Attribute_any_ h (by rw [arm_eval_Attribute,J])
end
def H3 (K:PySem.W.Frag) (aZ:TE) (f:Str):TE:=λ σ H Q=>aZ σ H λ x H1 => ∃ a C aH aA v,x=.ref a/\H1 a=some (.ins C aH aA)/\jm K C/\oL K C f/\aA.lookup f=some v/\Q v H1
def HX (K:PySem.W.Frag) (aZ ix:TE) (f:Str):dr:=λ D σ H=>ix σ H λ y H1=>aZ σ H1 λ x ar => ∃ a C aH aA,x=.ref a/\ar a=some (.ins C aH aA)/\jm K C/\oL K C f/\aA.length<1000 /\
 D.bF σ (upd ar a (.ins C aH (i9 f y aA)))
section
variable {X:aP} {o e value:Expr} {f:Str} {pos pos' ye:Pos} {aZ ix:TE}
theorem Tq (he:b9 X e aZ) (J:attributeBase e f X.env (eval e X.env)=eval e X.env):b9 X (.Attribute e f pos) (H3 X.K aZ f):=by
 intro pins s σ H Q I h;refine Jc J (bj (he pins s σ H _ I h) λ u s1 ⟨x,H1,aE,a5,a,C,aH,aA,v,ex,es,c,n,l,q⟩=>?_);subst ex;obtain rfl:u=Value.ref a:=a5;exact Y5 aE es c n l λ jj s2 bS eI=>⟨v,H1,bS,eI,q⟩
theorem TJ (aw:b9 X o aZ) (bf:b9 X value ix) (az:swapsWith value (some (.Attribute o f pos')) pos.line X.env=pure false):jK X (.Assign [.Attribute o f pos'] value pos) (HX X.K aZ ix f):=by
 intro pins s σ H D I h;refine plainObj_wpAny_Assign_Attribute (bj (bf pins s σ H _ I h) λ u s1 ⟨y,H1,aE,br,q⟩=>bj (aw pins s1 σ H1 _ aE q) λ de s2 ⟨x,ar,bS,a5,a,C,aH,aA,ex,es,c,n,l,bV⟩=>?_) az;subst ex;obtain rfl:de=Value.ref a:=a5;exact Zy bS es c n l br λ s3 b_=>⟨σ,_,b_,bV⟩
end
section
variable {X:aP} {pins:List (Addr×Obj)} {σ:St} {H:ah} {s:Shared} {A:Around} {E:Value->Shared->Prop} {Q:Value->Shared->Prop} {c:Value} {b:Bool}
inductive ie (K:PySem.W.Frag) (H:ah):V->Value->Prop where
 | bg:ie K H .bg (.type "NoneType")
 | aJ (x:Bool):ie K H (.aJ x) (.type "bool")
 | int (i:Int):ie K H (.int i) (.type "int")
 | str (x:Str):ie K H (.str x) (.type "str")
 | hi (x:UInt64):ie K H (.hi x) (.type "float")
 | lst {a:Addr} {xs:List V} (e:H a=some (.lst xs)):ie K H (.ref a) (.type "list")
 | fB {a:Addr} {o:Obj} {xs:List V} (e:H a=some (.fB o (.lst xs))):ie K H (.ref a) (.type "list")
 | tup {a:Addr} {xs:List V} (e:H a=some (.tup xs)):ie K H (.ref a) (.type "tuple")
 | bp {a:Addr} {kvs:List (Key×V)} (e:H a=some (.bp kvs)):ie K H (.ref a) (.type "dict")
 | iU {a:Addr} {kvs:List (List Key×V)} (e:H a=some (.iU kvs)):ie K H (.ref a) (.type "dict")
 | ins {a C aH:Addr} {aA:List (Str×V)} (e:H a=some (.ins C aH aA)) (cl:jm K C) (aw:PySem.W.findIn K (.ref C) "__class__" = some (some (.builtin "object.__class__")))
   (aD:PySem.W.specialIn K (.builtin "object.__class__") "__get__" = some (some (.builtin "getset_descriptor.__get__"))) (oa:PySem.W.takesIn K (.builtin "object.__class__")=some true)
   (hm:PySem.W.mroIn K C (.type "object")=some true):ie K H (.ref a) (.ref C)
theorem Xw {x:V} {u t:Value} (I:Inv X pins σ H s) (a5:RelV x u) (ty:ie X.K H x t) (e:PySem.W.kitOne X.K t c=some b) (h : ∀ bw,Q (.bool b) { s with toks:=bw }) :
  wpAny (model X.prog X.w) A (call (.builtin "isinstance") [u,c]) Q E s:=by
 cases ty with
 | bg=>cases (show u=Value.none from a5);exact PySem.W.kia_one PySem.W.kitx_none I.dF True.intro e (λ z=>nomatch z) h
 | aJ y=>cases (show u=Value.bool y from a5);exact PySem.W.kia_one PySem.W.kitx_bool I.dF True.intro e (λ z=>nomatch z) h
 | int i=>obtain ⟨t,q⟩:=(show ∃ t,u=Value.int i t from a5);cases q;exact PySem.W.kia_one PySem.W.kitx_int I.dF True.intro e (λ z=>nomatch z) h
 | str y=>obtain ⟨t,q⟩:=(show ∃ t,u=Value.str y t from a5);cases q;exact PySem.W.kia_one PySem.W.kitx_str I.dF True.intro e (λ z=>nomatch z) h
 | hi y=>obtain ⟨t,q⟩:=(show ∃ t,u=Value.float y t from a5);cases q;exact PySem.W.kia_one PySem.W.kitx_float I.dF True.intro e (λ z=>nomatch z) h
 | @lst a xs es =>
  cases (show u=Value.ref a from a5);obtain ⟨_,_,n,_,af⟩:=(show dW X.prog X.w H s.heap a (.lst xs) from I.a6 a _ es)
  exact PySem.W.kia_one PySem.W.kitx_list I.dF ⟨_,af,rfl⟩ e (λ z=>nomatch z) h
 | @fB a b2 xs es =>
  cases (show u=Value.ref a from a5);obtain ⟨_,_,_,n,_,af⟩:=(show dW X.prog X.w H s.heap a (.fB b2 (.lst xs)) from I.a6 a _ es)
  exact PySem.W.kia_one PySem.W.kitx_list I.dF ⟨_,af,rfl⟩ e (λ z=>nomatch z) h
 | @tup a xs es =>
  cases (show u=Value.ref a from a5);obtain ⟨_,_,_,hE⟩:=(show dW X.prog X.w H s.heap a (.tup xs) from I.a6 a _ es)
  have p:=hE.up;obtain ⟨o,af,ai,_⟩:=p;exact PySem.W.kia_one PySem.W.kitx_tuple I.dF ⟨o,af,ai⟩ e (λ z=>nomatch z) h
 | @bp a kvs es =>
  cases (show u=Value.ref a from a5);obtain ⟨_,_,vs,_,p⟩:=(show dW X.prog X.w H s.heap a (.bp kvs) from I.a6 a _ es)
  obtain ⟨o,ao,ep,af,ai,_⟩:=p;exact PySem.W.kia_one PySem.W.kitx_dict I.dF ⟨o,af,ai.1⟩ e (λ z=>nomatch z) h
 | @iU a kvs es =>
  cases (show u=Value.ref a from a5);obtain ⟨_,_,xs,_,o,ao,ep,af,ai,_⟩:=(show dW X.prog X.w H s.heap a (.iU kvs) from I.a6 a _ es)
  exact PySem.W.kia_one PySem.W.kitx_dict I.dF ⟨o,af,ai.1⟩ e (λ z=>nomatch z) h
 | @ins a C aH aA es cl aw aD oa hm =>
  cases (show u=Value.ref a from a5);obtain ⟨dB,O,_⟩:=yI I.a6 es;obtain ⟨bK,b1,_⟩:=O.look;exact PySem.W.kia_one (PySem.W.kitx_own (cl.get _) cl.hd aw aD oa hm) I.dF b1 e (λ z=>nomatch z) h
end
structure dV (k:Nat) (A:Around):Prop where
 hd:A.handled=none
 mC:A.depth+3 * k+5<recursionLimit
 un:A.units+16 * k+200<cLine
theorem dV.mono {j k:Nat} {A:Around} (r:dV k A) (h:j<=k):dV j A:=⟨r.hd,by have:=r.mC;omega,by have:=r.un;omega⟩
theorem dV.deeper {k:Nat} {A:Around} (r:dV (k+1) A) (env:Env):dV k (A.deeper env) :=
 ⟨r.hd,by have:=r.mC;show A.depth+1+3 * k+5<_;omega,by have:=r.un;show A.units+3+16 * k+200<_;omega⟩
theorem Zi {A:Around} {C:Addr} {us:List Value} {kw:List (Str×Value)}:(A.under (.builtin "type.__call__" ⟨.ref C::us,kw⟩)).depth=A.depth+1:=by
 first | rfl | simp [Around.under,Code.weight,Code.isCreation,Code.isGuard,Code.isCaller,Code.frames,Code.isFrame,guardIds]
theorem Zj {A:Around} {C:Addr} {us:List Value} {kw:List (Str×Value)}:(A.under (.builtin "type.__call__" ⟨.ref C::us,kw⟩)).units=A.units+1:=by
 first | rfl | simp [Around.under,Code.cUnits,Code.frames,Code.isFrame]
theorem dV.make {k:Nat} {A:Around} (r:dV (k+1) A) (C:Addr) (us:List Value) (kw:List (Str×Value)):dV k (A.under (.builtin "type.__call__" ⟨.ref C::us,kw⟩)) :=
 ⟨r.hd,by have:=r.mC;rw [Zi];omega,by have:=r.un;rw [Zj];omega⟩
theorem dV.depth {k:Nat} {A:Around} (r:dV k A):A.depth<recursionLimit:=by have:=r.mC;omega
theorem dV.units {k:Nat} {A:Around} (r:dV k A):A.units+64<cLine:=by have:=r.un;omega
def m8:c3:=λ _ H Q=>Q [] H
def yr (aZ:TE) (ND:c3):c3:=λ σ H Q=>aZ σ H λ x H1=>ND σ H1 λ xs ar=>Q (x::xs) ar
section
variable {X:aP} {e:Expr} {ao:List Expr} {bh:TE} {t:c3} {pos:Pos}
theorem Tn:hA X [] m8:=λ _ _ _ _ H Q I h=>Calls.spliced_nil ⟨[],H,I,.nil,h⟩
theorem UD (aw:b9 X e bh) (aq:hA X ao t) (az:starEach (e::ao) X.env=(false,eval e X.env)::starEach ao X.env:=by rfl):hA X (e::ao) (yr bh t):=by
 intro pos pins s σ H Q I h;rw [az];show wpAny _ _ (spliced ((false,eval e X.env)::backTo pos (starEach ao X.env))) _ _ s;refine Calls.spliced_cons (bj (aw pins s σ H _ I h) λ u s1 ⟨x,H1,aE,bq,a7⟩=>?_);exact bj (aq pos pins s1 σ H1 _ aE a7) λ us s2 ⟨xs,ar,bS,b5,bV⟩=>⟨x::xs,ar,bS,.cons bq b5,bV⟩
def H_ (t:c3):TE:=λ σ H Q=>t σ H λ xs H1=>xs.length<=sizeLine /\ ∀ p,H1 p=none->Q (.ref p) (upd H1 p (.tup xs))
def H6 (t:c3):TE:=λ σ H Q=>t σ H λ xs H1=>xs.length<=sizeLine /\ ∀ p,H1 p=none->Q (.ref p) (upd H1 p (.lst xs))
theorem Tw {hc} (h:hA X ao t):b9 X (.Tuple ao hc pos) (H_ t):=by
 intro pins s σ H Q I aS;refine wpAny_Tuple_spliced (bj (h pos pins s σ H _ I aS) λ us s1 ⟨xs,H1,aE,r,z,q⟩=>⟨by rw [<-r.length];exact z,?_⟩);have hf:H1 s1.heap.objs.size=none:=aE.a6.fresh (Nat.le_refl _);refine ⟨.ref s1.heap.objs.size,upd H1 s1.heap.objs.size (.tup xs),aE.laid (t':=s1.toks) (λ b u e=>Heap.get?_push_of_some _ e) (Nat.le_refl _) ?_,rfl,q _ hf⟩;exact ⟨z,us,r,⟨_,Heap.get?_push_size _ rfl,rfl,⟨_,rfl⟩,rfl⟩⟩
theorem Ts (h:hA X ao t):b9 X (.List ao pos) (H6 t):=by
 intro pins s σ H Q I aS;refine wpAny_List_spliced (bj (h pos pins s σ H _ I aS) λ us s1 ⟨xs,H1,aE,r,z,q⟩=>⟨by rw [<-r.length];exact z,?_⟩);have hf:H1 s1.heap.objs.size=none:=aE.a6.fresh (Nat.le_refl _);refine ⟨.ref s1.heap.objs.size,upd H1 s1.heap.objs.size (.lst xs),aE.laid (t':=s1.toks) (λ b u e=>Heap.get?_push_of_some _ e) (Nat.le_refl _) ?_,rfl,q _ hf⟩;exact ⟨z,us,0,r,Heap.get?_push_size _ rfl⟩
end
abbrev bX:=List V->ah->bz->dz->Prop
abbrev hL:=List Env->ah->Shared->dz->Value->Shared->Prop
structure mf (P:Program) (w:World) (K:PySem.W.Frag) (mg:Str->Option Value) (base:Heap) (A:Around) (outer:List Env) (s:Shared) (H:ah):Prop where
 frames:A.frames=some outer
 mod:Mod K mg base
 bs : ∀ b o,base.get? b=some o->s.heap.get? b=some o/\H b=none
 h6:base.objs.size<=s.heap.objs.size
 hR:s.heap.FunFrames base outer
 jZ : ∀ b∈ff outer,H b=none
 a6:eo P w H s.heap
 bare:AllBare s.gens
def tH (outer:List Env) (P:Program) (w:World) (H:ah) (s:Shared) (Q:bz) (u:Value) (s':Shared):Prop :=
 ∃ v H',s'.os=s.os/\AllBare s'.gens/\fk (ff outer) [] H H' s.heap s'.heap/\eo P w H' s'.heap/\RelV v u/\Q v H'
def zu (cp:hL) (outer:List Env) (P:Program) (w:World) (H:ah) (s:Shared) (Q:bz) (E:dz) (r:Result) (s':Shared):Prop :=
 match r with
 | .ok (.ret u)=>tH outer P w H s Q u s'
 | .ok _=>False
 | .error e=>cp outer H s E e s'
structure dU (P:Program) (w:World) (K:PySem.W.Frag) (mg:Str->Option Value) (base:Heap) (cp:hL) (k:Nat) (f:Addr) (fd:FuncData) (ag:List Str) (sp:bX):Prop where
 len : ∀ vs H Q E,sp vs H Q E->vs.length=ag.length
 run : ∀ (A:Around) (outer:List Env) (s:Shared) (H:ah) (args:Args) (us:List Value) (vs:List V) (Q:bz) (E:dz),dV k A->mf P w K mg base A outer s H->BindsTo s fd args (ag.zip us)->Vals vs us->sp vs H Q E ->
  codeAny (model P w) A (.call (.ref f) args) (zu cp outer P w H s Q E) s
theorem dU.mono {P:Program} {w:World} {K:PySem.W.Frag} {mg:Str->Option Value} {base:Heap} {cp:hL} {j k:Nat} {f:Addr} {fd:FuncData} {ag:List Str} {sp:bX} (F:dU P w K mg base cp j f fd ag sp) (h:j<=k) :
  dU P w K mg base cp k f fd ag sp:=⟨F.len,λ A outer s H args us vs Q E aq=>F.run A outer s H args us vs Q E (aq.mono h)⟩
theorem dU.imp {P:Program} {w:World} {K:PySem.W.Frag} {mg:Str->Option Value} {base:Heap} {cp:hL} {k:Nat} {f:Addr} {fd:FuncData} {ag:List Str} {sp va:bX} (F:dU P w K mg base cp k f fd ag sp)
  (h : ∀ vs H Q E,va vs H Q E->sp vs H Q E):dU P w K mg base cp k f fd ag va :=
 ⟨λ vs H Q E q=>F.len vs H Q E (h _ _ _ _ q),λ A outer s H args us vs Q E aq he J bf az=>F.run A outer s H args us vs Q E aq he J bf (h _ _ _ _ az)⟩
theorem mf.make {P:Program} {w:World} {K:PySem.W.Frag} {mg:Str->Option Value} {base:Heap} {A:Around} {outer:List Env} {s:Shared} {H:ah} (e:mf P w K mg base A outer s H) (C:Addr) (us:List Value) (kw:List (Str×Value)) :
  mf P w K mg base (A.under (.builtin "type.__call__" ⟨.ref C::us,kw⟩)) outer s H:=⟨by first | exact e.frames | (simpa [Around.under,Code.envs,Code.isFrame,pushEnvs] using e.frames),e.mod,e.bs,e.h6,e.hR,e.jZ,e.a6,e.bare⟩
section
variable {X:aP} {pins:List (Addr×Obj)} {σ:St} {H:ah} {s s':Shared}
theorem Inv.q0 (I:Inv X pins σ H s):mf X.prog X.w X.K X.mg X.base X.A X.stack s H :=
 ⟨I.ok.frames,I.ok.mod,I.bs,Nat.le_trans I.ok.h6 I.jU,I.stack,I.sZ,I.a6,I.bare⟩
theorem Inv.after {Q:bz} {u:Value} (I:Inv X pins σ H s) (h:tH X.stack X.prog X.w H s Q u s'):f_ X pins σ Q u s':=by
 obtain ⟨v,H',os,bare,un,a6,r,q⟩:=h;obtain ⟨bU,g,d,t,QB⟩:=s';obtain rfl:QB=s.os:=os;exact ⟨v,H',I.call (h':=bU) (g':=g) (d':=d) (t':=t) (ch:=[]) un a6 bare (λ b z=>absurd z (by simp)),r,q⟩
end
def pT (sp:bX) (eD:List V) (E:dz) (t:c3):TE:=λ σ H Q=>t σ H λ vs H1=>sp (vs++eD) H1 Q E
def yt (C:Addr) (m:Str) (sp:bX) (eD:List V) (E:dz) (aZ:TE) (t:c3):TE:=λ σ H Q=>aZ σ H λ x H1 => ∃ a aH aA,x=.ref a/\H1 a=some (.ins C aH aA)/\aA.lookup m=none /\
 t σ H1 λ vs ar=>sp (x::(vs++eD)) ar Q E
def Cx (C:Addr) (sp:bX) (eD:List V) (E:dz) (t:c3):TE:=λ σ H Q=>t σ H λ vs H1 => ∀ x aH,H1 x=none->H1 aH=none->aH≠x ->
 sp (.ref x::(vs++eD)) (upd (upd H1 aH (.own x)) x (.ins C aH [])) (λ v ar=>v=.bg/\Q (.ref x) ar) E
def Binds (K:PySem.W.Frag) (fd:FuncData) (ag:List Str) (ds:List Value):Prop :=
 ∀ (s:Shared) (us:List Value),K.In s.heap->(us++ds).length=ag.length->BindsTo s fd ⟨us,[]⟩ (ag.zip (us++ds))
theorem Binds.all {K:PySem.W.Frag} {fd:FuncData} {ag:List Str} (h : ∀ us:List Value,us.length=ag.length->bindArgs fd ⟨us,[]⟩=pure (ag.zip us)):Binds K fd ag []:=λ s us _ au=>by
 rw [List.append_nil] at au ⊢;exact .of_eq (h us au)
def Passes (cp:hL) (X:aP) (E:dz):Prop := ∀ (pins:List (Addr×Obj)) (σ:St) (H:ah) (s:Shared) (e:Value) (s':Shared),Inv X pins σ H s->cp X.stack H s E e s'->X.cP e s'
section
variable {X:aP} {cp:hL} {k:Nat} {f C:Addr} {fd:FuncData} {ag:List Str} {sp:bX} {eD:List V} {ds:List Value} {E:dz} {x m:Str} {p pos apos:Pos} {e o:Expr} {ao:List Expr} {aZ:TE} {t:c3}
theorem yz {pins:List (Addr×Obj)} {σ:St} {H:ah} {s:Shared} {Q:bz} {us:List Value} {vs:List V} (F:dU X.prog X.w X.K X.mg X.base cp k f fd ag sp) (aq:dV k X.A) (J:Binds X.K fd ag ds) (hd:Vals eD ds) (ak:Passes cp X E)
  (I:Inv X pins σ H s) (r:Vals vs us) (h:sp (vs++eD) H Q E):wpAny (model X.prog X.w) X.A (call (.ref f) us) (f_ X pins σ Q) X.cP s:=by
 have b5:Vals (vs++eD) (us++ds):=r.append hd;have au:(us++ds).length=ag.length:=by rw [<-b5.length];exact F.len _ _ _ _ h
 refine wpAny_call (codeAny_mono (F.run X.A X.stack s H ⟨us,[]⟩ (us++ds) (vs++eD) Q E aq I.q0 (J s us I.dF au) b5 h) λ r s' aS=>?_);cases r with
 | error e=>exact ak pins σ H s e s' I aS
 | ok cW =>
  cases cW with
  | ret u=>exact I.after aS
  | next=>exact False.elim aS
  | brk=>exact False.elim aS
  | cont=>exact False.elim aS
theorem UG (F:dU X.prog X.w X.K X.mg X.base cp k f fd ag sp) (aq:dV k X.A) (aI:dy X x) (hm:X.mg x=some (.ref f)) (aB:PySem.W.keepIn X.K (.ref f)=true) (J:Binds X.K fd ag ds) (hd:Vals eD ds) (ak:Passes cp X E)
  (aw:hA X (e::ao) t) (eg:(x == ("__debug__" : Str))=false:=by decide) (he:starEach (e::ao) X.env=(false,eval e X.env)::starEach ao X.env:=by rfl) (dp:(backTo pos (starEach ao X.env)).any (·.1)=false:=by rfl) :
  b9 X (.Call (.Name x p) (e::ao) [] pos) (pT sp eD E t):=by
 intro pins s σ H Q I h;refine wpAny_Call_Name_kw (nx I aI hm ?_ eg);refine PySem.W.callWith_K (h₀:=X.base) I.ok.mod.jy aB (bj (aw pos pins s σ H _ I h) λ us s1 ⟨vs,H1,aE,r,q⟩=>⟨aE.dF,?_⟩) he dp;exact yz F aq J hd ak aE r q
theorem Wq (F:dU X.prog X.w X.K X.mg X.base cp k f fd ag sp) (aq:dV k X.A) (aI:dy X x) (hm:X.mg x=some (.ref f)) (aB:PySem.W.keepIn X.K (.ref f)=true) (J:Binds X.K fd ag ds) (hd:Vals eD ds) (ak:Passes cp X E)
  (eg:(x == ("__debug__" : Str))=false:=by decide):b9 X (.Call (.Name x p) [] [] pos) (pT sp eD E m8):=by
 intro pins s σ H Q I h;refine wpAny_Call_Name_kw (nx I aI hm ?_ eg);exact PySem.W.callWith_K0 I.dF aB (yz (us:=[]) F aq J hd ak I .nil h)
theorem UL {pl:Sem Bool} (he:b9 X o aZ) (c:jm X.K C) (hm:Meth X.K C m f) (F:dU X.prog X.w X.K X.mg X.base cp k f fd ag sp) (aq:dV k X.A) (J:Binds X.K fd ag ds) (hd:Vals eD ds) (ak:Passes cp X E) (aw:hA X (e::ao) t)
  (cB:starEach (e::ao) X.env=(false,eval e X.env)::starEach ao X.env:=by rfl) (dp:(backTo pos (starEach ao X.env)).any (·.1)=false:=by rfl)
  (aW:eval (.Call (.Attribute o m apos) (e::ao) [] pos) X.env=(do
   let de ← eval o X.env
   standAt apos.atName
   let (f,first) ← holding [de] (getMethod de m pl)
   callWith pos f first (backTo pos (starEach (e::ao) X.env)) (backToKw pos (keywordEach [] X.env))):=by rfl) :
  b9 X (.Call (.Attribute o m apos) (e::ao) [] pos) (yt C m sp eD E aZ t):=by
 intro pins s σ H Q I h;refine PySem.W.methodCall_KW (pl:=pl) (bj (he pins s σ H _ I h) λ u s1 ⟨x,H1,aE,a5,a,aH,aA,ex,es,l,q⟩=>?_) aW;subst ex;obtain rfl:u=Value.ref a:=a5;refine K_ aE es c hm l ?_;refine PySem.W.callWith_K (first:=[.ref a]) (h₀:=X.base) I.ok.mod.jy hm.a_ (bj (aw pos pins s1 σ H1 _ aE q) λ us s2 ⟨vs,ar,bS,r,bV⟩=>⟨bS.dF,?_⟩) cB dp;exact yz (us:=.ref a::us) (vs:=.ref a::vs) F aq J hd ak bS (.cons rfl r) bV
theorem Wv {pl:Sem Bool} (he:b9 X o aZ) (c:jm X.K C) (hm:Meth X.K C m f) (F:dU X.prog X.w X.K X.mg X.base cp k f fd ag sp) (aq:dV k X.A) (J:Binds X.K fd ag ds) (hd:Vals eD ds) (ak:Passes cp X E)
  (aW:eval (.Call (.Attribute o m apos) [] [] pos) X.env=(do
   let de ← eval o X.env
   standAt apos.atName
   let (f,first) ← holding [de] (getMethod de m pl)
   callWith pos f first (backTo pos (starEach [] X.env)) (backToKw pos (keywordEach [] X.env))):=by rfl) :
  b9 X (.Call (.Attribute o m apos) [] [] pos) (yt C m sp eD E aZ m8):=by
 intro pins s σ H Q I h;refine PySem.W.methodCall_KW (pl:=pl) (bj (he pins s σ H _ I h) λ u s1 ⟨x,H1,aE,a5,a,aH,aA,ex,es,l,q⟩=>?_) aW;subst ex;obtain rfl:u=Value.ref a:=a5;refine K_ aE es c hm l ?_;exact PySem.W.callWith_K0 (first:=[.ref a]) aE.dF hm.a_ (yz (us:=[.ref a]) (vs:=[.ref a]) F aq J hd ak aE (.cons rfl .nil) q)
structure wC (K:PySem.W.Frag) (C f:Addr):Prop where
 makes:PySem.W.makesIn K C=true
 init:PySem.W.findIn K (.ref C) "__init__" = some (some (.ref f))
 fn:PySem.W.isFn K (.ref f)=true
 a_:PySem.W.keepIn K (.ref C)=true
theorem WN {pins:List (Addr×Obj)} {σ:St} {H:ah} {s:Shared} {Q:bz} {us:List Value} {vs:List V} (M:wC X.K C f) (F:dU X.prog X.w X.K X.mg X.base cp k f fd ag sp) (aq:dV (k+1) X.A) (J:Binds X.K fd ag ds) (hd:Vals eD ds)
  (ak:Passes cp X E) (I:Inv X pins σ H s) (r:Vals vs us)
  (h : ∀ x aH,H x=none->H aH=none->aH≠x->sp (.ref x::(vs++eD)) (upd (upd H aH (.own x)) x (.ins C aH [])) (λ v ar=>v=.bg/\Q (.ref x) ar) E) :
  wpAny (model X.prog X.w) X.A (call (.ref C) us) (f_ X pins σ Q) X.cP s:=by
 have aS:=h (s.heap.objs.size+1) s.heap.objs.size (I.a6.fresh (Nat.le_succ _)) (I.a6.fresh (Nat.le_refl _)) (Nat.ne_of_lt (Nat.lt_succ_self _));have bS:=Inv.made (C:=C) I;have b5:Vals (V.ref (s.heap.objs.size+1)::(vs++eD)) (Value.ref (s.heap.objs.size+1)::(us++ds)):=.cons rfl (r.append hd);have au:(Value.ref (s.heap.objs.size+1)::us++ds).length=ag.length:=by
  have e:=b5.length;rw [F.len _ _ _ _ aS] at e;exact e.symm
 refine wpAny_call (Wb (f:=f) I.dF M.makes M.init (beq_iff_eq.mp M.fn) (codeAny_mono (F.run _ X.stack _ _ ⟨Value.ref (s.heap.objs.size+1)::us,[]⟩ (Value.ref (s.heap.objs.size+1)::(us++ds)) _ _ E (aq.make C us [])
  (bS.q0.make C us []) (J _ (Value.ref (s.heap.objs.size+1)::us) bS.dF au) b5 aS) λ r s' f3=>?_))
 cases r with
 | error e=>exact ak pins σ _ _ e s' bS f3
 | ok cW =>
  cases cW with
  | ret u =>
   obtain ⟨v,H',b_,bR,ev,ea⟩:=bS.after f3;subst ev;exact ⟨bR,⟨V.ref (s.heap.objs.size+1),H',b_,rfl,ea⟩⟩
  | next=>exact False.elim f3
  | brk=>exact False.elim f3
  | cont=>exact False.elim f3
theorem UK (M:wC X.K C f) (F:dU X.prog X.w X.K X.mg X.base cp k f fd ag sp) (aq:dV (k+1) X.A) (aI:dy X x) (hm:X.mg x=some (.ref C)) (J:Binds X.K fd ag ds) (hd:Vals eD ds) (ak:Passes cp X E)
  (aw:hA X (e::ao) t) (eg:(x == ("__debug__" : Str))=false:=by decide) (he:starEach (e::ao) X.env=(false,eval e X.env)::starEach ao X.env:=by rfl) (dp:(backTo pos (starEach ao X.env)).any (·.1)=false:=by rfl) :
  b9 X (.Call (.Name x p) (e::ao) [] pos) (Cx C sp eD E t):=by
 intro pins s σ H Q I h;refine wpAny_Call_Name_kw (nx I aI hm ?_ eg);refine PySem.W.callWith_K (h₀:=X.base) I.ok.mod.jy M.a_ (bj (aw pos pins s σ H _ I h) λ us s1 ⟨vs,H1,aE,r,q⟩=>⟨aE.dF,?_⟩) he dp;exact WN M F aq J hd ak aE r q
end
structure cq (N P:List Str) (sc:Scope):Prop where
 kind:sc.kind=.function
 co:sc.isCoroutine=false
 gen:sc.isGenerator=false
 cX:N.Nodup
 pre:N.take P.length=P
 par : ∀ x∈P,sc.names.lookup x=some .local\/sc.names.lookup x=some .cell
 Th : ∀ y∈sc.names,y.2≠.free
theorem Kt {kindOf:Str->Option NameKind} {x:Str} : ∀ {binds:List (Str×Value)} {m:Str->Option Value},(∀ v,(x,v)∉binds)->bindL kindOf binds m x=m x
 | [],_,_=>rfl
 | (n,v)::r,m,h=>by
  unfold bindL;rw [Kt λ w hw=>h w (List.mem_cons_of_mem _ hw)];split
  ·have:x≠n:=by rintro rfl;exact h v List.mem_cons_self
   simp [this]
  ·rfl
theorem Kr {kindOf:Str->Option NameKind} {x:Str} : ∀ {binds:List (Str×Value)} {m:Str->Option Value},(∀ v,(x,v)∉binds)->bindC kindOf binds m x=m x
 | [],_,_=>rfl
 | (n,v)::r,m,h=>by
  unfold bindC;rw [Kr λ w hw=>h w (List.mem_cons_of_mem _ hw)];split
  ·rfl
  ·have:x≠n:=by rintro rfl;exact h v List.mem_cons_self
   simp [this]
theorem Ks {kindOf:Str->Option NameKind} {x:Str} {v:Value} : ∀ {P:List Str} {vs:List Value} {i:Nat} {m:Str->Option Value},P.Nodup->P[i]?=some x->vs[i]?=some v->kindOf x=some .local ->
  bindL kindOf (P.zip vs) m x=some v
 | [],_,_,_,_,h,_,_=>by simp at h
 | _::_,[],_,_,_,_,h,_=>by simp at h
 | p::P,w::vs,0,m,cX,af,ai,aB=>by
  simp at af ai;subst af;subst ai;show bindL kindOf ((p,w)::P.zip vs) m p=_;unfold bindL;rw [Kt λ v bf=>(List.nodup_cons.mp cX).1 (List.of_mem_zip bf).1,if_pos aB];simp
 | p::P,w::vs,i+1,m,cX,af,ai,aB=>by
  show bindL kindOf ((p,w)::P.zip vs) m x=_;unfold bindL;exact Ks (i:=i) (List.nodup_cons.mp cX).2 (by simpa using af) (by simpa using ai) aB
theorem Kq {kindOf:Str->Option NameKind} {x:Str} {v:Value} : ∀ {P:List Str} {vs:List Value} {i:Nat} {m:Str->Option Value},P.Nodup->P[i]?=some x->vs[i]?=some v->kindOf x≠some .local ->
  bindC kindOf (P.zip vs) m x=some v
 | [],_,_,_,_,h,_,_=>by simp at h
 | _::_,[],_,_,_,_,h,_=>by simp at h
 | p::P,w::vs,0,m,cX,af,ai,aB=>by
  simp at af ai;subst af;subst ai;show bindC kindOf ((p,w)::P.zip vs) m p=_;unfold bindC;rw [Kr λ v bf=>(List.nodup_cons.mp cX).1 (List.of_mem_zip bf).1,if_neg aB];simp
 | p::P,w::vs,i+1,m,cX,af,ai,aB=>by
  show bindC kindOf ((p,w)::P.zip vs) m x=_;unfold bindC;exact Kq (i:=i) (List.nodup_cons.mp cX).2 (by simpa using af) (by simpa using ai) aB
def start (N:List Str) (vs:List V):St:=vs.map some++List.replicate (N.length - vs.length) none
def j6 (cp:hL) (P:Program) (w:World) (K:PySem.W.Frag) (mg:Str->Option Value) (base:Heap) (N:List Str) (qual:Str) (scope:Scope) (f:Addr) (cd:Value) (A:Around) (outer:List Env) (s:Shared) (H:ah) (E:dz):aP where
 prog:=P
 w:=w
 K:=K
 mg:=mg
 base:=base
 A:=A.deeper (envOfC qual scope s.heap.objs.size f cd)
 N:=N
 s₀:=s
 H₀:=H
 env:=envOfC qual scope s.heap.objs.size f cd
 outer:=outer
 stack:=envOfC qual scope s.heap.objs.size f cd::outer
 ex:=[]
 calm:=true
 warm:=true
 fn:=λ _=>true
 jR:=[]
 cP:=λ e s'=>wpAny (model P w) (A.deeper (envOfC qual scope s.heap.objs.size f cd)) (leaving (envOfC qual scope s.heap.objs.size f cd) e) (λ _ iE=>cp outer H s E e iE) (λ cU iE=>cp outer H s E cU iE) s'
theorem JR {sc:Scope} {n:Nat} {x:Str} (h:sc.names.lookup x=some .cell) : ∃ c,(cellsFrom n sc.names []).lookup x=some c:=by
 have q:=PySem.W.cellsFrom_some sc.names n [] (.inl h);exact Option.isSome_iff_exists.mp q
theorem Dv {cp:hL} {P:Program} {w:World} {K:PySem.W.Frag} {mg:Str->Option Value} {base:Heap} {N ag:List Str} {qual:Str} {scope:Scope} {f:Addr} {cd:Value} {A:Around} {outer:List Env} {s s1:Shared} {H:ah} {E:dz} {us:List Value} {vs:List V}
  (S:cq N ag scope) (hd:A.handled=none) (bP:mf P w K mg base A outer s H) (au:vs.length=ag.length) (r:Vals vs us)
  (x:InCallC s s.heap.objs.size (bindL (envOfC qual scope s.heap.objs.size f cd).kindOf (ag.zip us) λ _=>none) (cellsFrom (s.heap.objs.size+1) scope.names []) (bindC (envOfC qual scope s.heap.objs.size f cd).kindOf (ag.zip us) λ _=>none) s1) :
  Inv (j6 cp P w K mg base N qual scope f cd A outer s H E) [] (start N vs) H s1:=by
 have dp:ag.length<=N.length:=by have:=congrArg List.length S.pre;rw [List.length_take] at this;omega
 obtain ⟨af,bw,rfl,aB⟩:=x.done;have u2 : ∀ b:Addr,b∉(j6 cp P w K mg base N qual scope f cd A outer s H E).ex:=λ b z=>absurd (show b∈([]:List Addr) from z) (by simp)
 refine ⟨⟨bP.mod,S.kind,rfl,rfl,Nat.le_refl _,λ y z c af ai=>?_,λ y aN=>?_,λ y c _ h=>?_,⟨λ _=>hd,λ _=>.inl hd⟩,Around.frames_deeper bP.frames,.inr ⟨rfl,rfl⟩,λ b z=>absurd z (u2 b),bP.bs,bP.h6,λ b _ _=>u2 b,λ b z=>absurd z (u2 b),bP.hR,bP.jZ⟩,
  rfl,bP.bare,fk.kept aB,⟨_,x.toInCall.ns,λ i y v af ai aF=>?_⟩,λ y c h=>⟨_,x.cell y c h⟩,bP.a6.fresh (Nat.le_refl _),λ y c h=>?_,λ p ax=>absurd (show p∈([]:List (Addr×Obj)) from ax) (by simp),bP.a6.kept aB,?_⟩
 ·exact name_of_addr x.apart (PySem.mem_of_lookup af) (PySem.mem_of_lookup ai)
 ·have aN:scope.names.lookup y=some .cell\/scope.names.lookup y=some .free:=aN;rcases aN with aN | aN
  ·exact JR aN
  ·exact absurd rfl (S.Th _ (PySem.mem_of_lookup aN))
 ·exact Nat.le_of_lt (x.above y c (PySem.mem_of_lookup h))
 ·have ay:i<vs.length:=by
   unfold start at ai;by_cases ay:i<vs.length
   ·exact ay
   ·rw [List.getElem?_append_right (by simpa using ay)] at ai;rw [List.getElem?_replicate] at ai;split at ai<;>cases ai
  have aw:vs[i]?=some v:=by
   unfold start at ai;rw [List.getElem?_append_left (by simpa using ay),List.getElem?_map] at ai;cases e:vs[i]? with
   | none=>rw [e] at ai;cases ai
   | some a=>rw [e] at ai;cases ai;rfl
  obtain ⟨u,bD,bR⟩:=r.get aw;have ax:ag[i]?=some y:=by
   rw [<-S.pre,List.getElem?_take_of_lt (by omega)];exact af
  have G1:ag.Nodup:=by rw [<-S.pre];exact S.cX.sublist (List.take_sublist _ _)
  refine ⟨u,bR,?_⟩;rcases S.par y (List.mem_of_getElem? ax) with k | k
  ·exact .inl ⟨k,Ks G1 ax bD k⟩
  ·obtain ⟨c,e⟩:=JR (n:=s.heap.objs.size+1) k;refine .inr ⟨.inl k,c,e,?_⟩;have q:=x.cell y c e;rw [Kq G1 ax bD (by show scope.names.lookup y≠_;rw [k];decide)] at q;exact q
 ·exact bP.a6.fresh (Nat.le_of_lt (x.above y c (PySem.mem_of_lookup h)))
 ·unfold start;show _=N.length;rw [List.length_append,List.length_map,List.length_replicate];omega
theorem Ib {cp:hL} {P:Program} {w:World} {K:PySem.W.Frag} {mg:Str->Option Value} {base:Heap} {k:Nat} {f:Addr} {name qual:Str} {params:Arguments} {body:List Stmt} {scope:Scope} {wK cF doc pm ba cu e1:Value} {an bK:Option Addr}
  {md:Array (Option Value)} {N ag:List Str} {sp:bX} (lk:K.lookup f=some ⟨e1,bK,.func (PySem.W.fnOf name qual params body scope wK cF doc pm an ba cu),md⟩) (hN:PySem.W.codeIn K ba qual=true) (S:cq N ag scope)
  (len : ∀ vs H Q E,sp vs H Q E->vs.length=ag.length)
  (ml : ∀ (A:Around) (outer:List Env) (s:Shared) (H:ah) (vs:List V) (Q:bz) (E:dz),dV k (A.deeper (envOfC qual scope s.heap.objs.size f ba))->sp vs H Q E ->
   ∃ t,jX (j6 cp P w K mg base N qual scope f ba A outer s H E) body t/\t { bF:=λ _ H'=>Q .bg H',ji:=Q } (start N vs) H) :
  dU P w K mg base cp (k+1) f (PySem.W.fnOf name qual params body scope wK cF doc pm an ba cu) ag sp:=by
 refine ⟨len,λ A outer s H args us vs Q E aq bP J r eb=>?_⟩;have au:=len _ _ _ _ eb;have iS:K.In s.heap:=bP.mod.jy.keeps λ b o e=>(bP.bs b o e).1
 have lim:s.heap.NoLimit:=bP.mod.nolimit.keeps λ b o e=>(bP.bs b o e).1
 have vF : ∀ y∈ag.zip us,scope.names.lookup y.1=some .local\/(scope.names.lookup y.1=some .cell/\((cellsFrom (s.heap.objs.size+1) scope.names []).lookup y.1).isSome=true):=λ ⟨n,v⟩ aN=>by
  rcases S.par n (List.of_mem_zip aN).1 with q | q
  ·exact .inl q
  ·exact .inr ⟨q,PySem.W.cellsFrom_some _ _ _ (.inl q)⟩
 refine codeAny_call_function aq.depth (iS _ _ lk) rfl S.co S.gen rfl (PySem.W.codeRec_of iS hN) (J _ _ _ _ ?_);refine wpAny_newFunctionEnv_cells S.kind vF λ env he s1 x=>?_
 subst he;refine ⟨lim.keeps x.toInCall.keep,codeAny_func ?_⟩;obtain ⟨t,aW,aS⟩:=ml A outer s H vs Q E (aq.deeper _) eb;have I:Inv (j6 cp P w K mg base N qual scope f ba A outer s H E) [] (start N vs) H s1:=Dv S aq.hd bP au r x;refine wpAny_mono (aW [] s1 (start N vs) H _ I aS) (λ cW s' az=>?_) λ e s' az=>az
 have fin : ∀ {σ':St} {H':ah} {v:V} {u:Value},Inv (j6 cp P w K mg base N qual scope f ba A outer s H E) [] σ' H' s'->RelV v u->Q v H'->tH outer P w H s Q u s' :=
  λ {σ' H' v u} b1 bR q=>⟨v,H',b1.os,b1.bare,b1.base,b1.a6,bR,q⟩
 cases cW with
 | ret u =>
  obtain ⟨v,σ',H',b1,bR,q⟩:=az;exact fin b1 bR q
 | next =>
  obtain ⟨σ',H',b1,q⟩:=az;exact fin (v:=V.bg) (u:=Value.none) b1 rfl q
 | brk =>
  obtain ⟨_,_,_,q⟩:=az;exact False.elim q
 | cont =>
  obtain ⟨_,_,_,q⟩:=az;exact False.elim q
section
variable {X:aP} {x:Str} {p pos:Pos} {e:Expr} {ao:List Expr} {t:c3} {id T:String} {r:List V->ah->bz->Prop}
def sm (r:List V->ah->bz->Prop) (t:c3):TE:=λ σ H Q=>t σ H λ vs H1=>r vs H1 Q
theorem Wr (aj:e7 X (.builtin id) r) (aI:dy X x) (hm:X.mg x=none) (bf:bootBuiltins x=some (.builtin id)) (aw:hA X (e::ao) t) (aD:x ≠ "__name__" := by decide) (eg:(x == ("__debug__" : Str))=false:=by decide)
  (he:starEach (e::ao) X.env=(false,eval e X.env)::starEach ao X.env:=by rfl) (dp:(backTo pos (starEach ao X.env)).any (·.1)=false:=by rfl):b9 X (.Call (.Name x p) (e::ao) [] pos) (sm r t):=by
 intro pins s σ H Q I h;refine wpAny_Call_Name_kw (mr I aI hm bf ?_ aD eg);exact PyProof.Rows.callWith_builtin1 (bj (aw pos pins s σ H _ I h) λ us s1 ⟨vs,H1,aE,bq,a7⟩=>aj pins s1 σ H1 vs us Q aE bq a7) he dp
theorem X1 (aj:e7 X (.type T) r) (aI:dy X x) (hm:X.mg x=none) (bf:bootBuiltins x=some (.type T)) (aw:hA X (e::ao) t) (aD:x ≠ "__name__" := by decide) (eg:(x == ("__debug__" : Str))=false:=by decide)
  (he:starEach (e::ao) X.env=(false,eval e X.env)::starEach ao X.env:=by rfl) (dp:(backTo pos (starEach ao X.env)).any (·.1)=false:=by rfl):b9 X (.Call (.Name x p) (e::ao) [] pos) (sm r t):=by
 intro pins s σ H Q I h;refine wpAny_Call_Name_kw (mr I aI hm bf ?_ aD eg);exact PyProof.Rows.callWith_type1 (bj (aw pos pins s σ H _ I h) λ us s1 ⟨vs,H1,aE,bq,a7⟩=>aj pins s1 σ H1 vs us Q aE bq a7) he dp
end
end bI
namespace dT
open PySem PyProof.Rows
section
variable {prog:Program} {w:World} {A:Around} {E:Value->Shared->Prop} {s:Shared}
theorem Ui {t b:Addr} {vs ws:List Value} {Q:Value->Shared->Prop} (aW:IsTup s.heap t vs.toArray) (J:IsTup s.heap b ws.toArray) (bf:vs≠[])
  (af:ws=[]->Q (.ref t) s) (ai:ws≠[]->Q (.ref s.heap.objs.size) { s with heap:=s.heap.push { cls:=.type "tuple", data:=.seq (vs++ws).toArray } })
  (hsz:vs.length+ws.length<=sizeLine):wpAny (model prog w) A (binaryOp .Add (.ref t) (.ref b)) Q E s:=by
 obtain ⟨⟨cls,dd,data,cA⟩,aG,aj,n,hd⟩:=id aW;obtain ⟨⟨ac1,Gh,data2,Hp⟩,xr,Gv,c0,hd2⟩:=id J;simp only at aj hd Gv hd2;subst aj hd Gv hd2;have e:vs.toArray++ws.toArray=(vs++ws).toArray:=by simp
 by_cases hw:ws=[]
 ·exact concat_meets ⟨_,aG,rfl⟩ ⟨_,xr,rfl⟩ noFill_tuple_add seq_tuple_add PySem.F.slot_tuple_add PySem.F.entry_tuple_add (PySem.F.args_tuple_add_2 _ _)
   (tuple_addW1 t b vs.toArray ws.toArray n c0 dd Gh cA Hp (by simpa using bf) (by simp [hw])) ⟨aG,xr,af hw⟩
 ·refine concat_meets ⟨_,aG,rfl⟩ ⟨_,xr,rfl⟩ noFill_tuple_add seq_tuple_add PySem.F.slot_tuple_add PySem.F.entry_tuple_add (PySem.F.args_tuple_add_2 _ _)
   (tuple_addW2 t b vs.toArray ws.toArray n c0 dd Gh cA Hp (by simpa using bf) (by simpa using hw) (by rw [List.size_toArray,List.size_toArray];exact hsz)) ⟨aG,xr,?_⟩
  rw [e];exact ai hw
def cx (n d:Nat):Option Int->Nat
 | none=>d
 | some v=>if v<0 then (v+(n:Int)).toNat else min v.toNat n
theorem T1 (n d:Nat) (hd:d<=n) (o:Option Int):cx n d o<=n:=by
 cases o with
 | none=>exact hd
 | some v =>
  show (if v<0 then (v+(n:Int)).toNat else min v.toNat n)<=n;by_cases bf:v<0
  ·rw [if_pos bf];omega
  ·rw [if_neg bf];exact Nat.min_le_right _ _
theorem Je (v:Int) (n d:Nat):(if v<0 then max (v+(n:Int)) 0 else min v (n:Int))=((cx n d (some v):Nat):Int):=by
 show (if v<0 then max (v+(n:Int)) 0 else min v (n:Int))=(((if v<0 then (v+(n:Int)).toNat else min v.toNat n):Nat):Int);by_cases bf:v<0
 ·simp only [if_pos bf];omega
 ·simp only [if_neg bf];omega
theorem YV (lo ay:Option Int) (n:Nat):Builtin.Slice.sliceAdjust lo ay 1 (n:Int)=(((cx n 0 lo:Nat):Int),((cx n n ay:Nat):Int)):=by
 have af : ¬ ((1:Int)<0):=by omega
 unfold Builtin.Slice.sliceAdjust;simp only [af,if_false];refine Prod.ext ?_ ?_
 ·cases lo with
  | none=>rfl
  | some v=>exact Je v n 0
 ·cases ay with
  | none=>rfl
  | some v=>exact Je v n n
theorem Zu (i j:Nat):Builtin.Slice.slicePlaces (i:Int) (j:Int) 1=j - i:=by
 unfold Builtin.Slice.slicePlaces;have af:(1:Int) > 0:=by omega
 simp only [af,if_true,Int.ediv_one];split<;>omega
theorem Lg {v:Value} {o:Option Int} {Q:Option Int->Shared->Prop} (p:IsPart v o) (h:Q o s):wpAny (model prog w) A (Builtin.Slice.slicePartIndex v) Q E s:=by
 cases p with
 | none=>exact slicePart_none h
 | int i t=>exact slicePart_int h
theorem Mx {cA:Addr} {fO fP:Value} {lo ay:Option Int} {n:Nat} {Q:Int×Int×Nat->Shared->Prop} (az:s.heap.IsSliceOf cA fO fP .none) (pl:IsPart fO lo) (pu:IsPart fP ay)
  (h:Q (((cx n 0 lo:Nat):Int),1,cx n n ay - cx n 0 lo) s):wpAny (model prog w) A (Builtin.Slice.sliceApplied (.ref cA) (pure (n:Int))) Q E s:=by
 obtain ⟨os,qG,xm,gP⟩:=id az;unfold Builtin.Slice.sliceApplied Builtin.Slice.sliceFields;refine wpAny_bind (wpAny_bind (wpAny_field qG gP (x:=fO) rfl (wpAny_bind (wpAny_field qG gP (x:=fP) rfl (wpAny_bind (wpAny_field qG gP (x:=.none) rfl (wpAny_pure ?_)))))));refine wpAny_bind (slicePart_none ?_);show wpAny _ _ (if ((1:Int) == 0)=true then _ else _) _ _ s;rw [if_neg (by decide)];refine wpAny_bind (Lg pl (wpAny_bind (Lg pu (wpAny_bind (wpAny_pure ?_)))));show wpAny _ _ (match Builtin.Slice.sliceAdjust lo ay 1 (n:Int) with | (lo,ay)=>pure (lo,(1:Int),Builtin.Slice.slicePlaces lo ay 1)) _ _ s;rw [YV lo ay n];show wpAny _ _ (pure (((cx n 0 lo:Nat):Int),(1:Int),Builtin.Slice.slicePlaces ((cx n 0 lo:Nat):Int) ((cx n n ay:Nat):Int) 1)) _ _ s;rw [Zu];exact wpAny_pure h
theorem Wy (xs:Array Value) (i k:Nat):((List.range k).filterMap λ (m:Nat)=>xs[((i:Int)+(m:Int) * 1).toNat]?).toArray=((xs.toList.drop i).take k).toArray:=by
 have e:(λ (m:Nat)=>xs[((i:Int)+(m:Int) * 1).toNat]?)=λ m=>xs[i+m]?:=by
  funext m;have:((i:Int)+(m:Int) * 1).toNat=i+m:=by omega
  rw [this]
 rw [e];have:=pick_run xs i k;rw [List.filterMap_map] at this;have aQ:((λ x=>xs[x]?) ∘ λ x=>i+x)=λ m=>xs[i+m]?:=rfl
 rw [aQ] at this;rw [this]
theorem abu {t cA:Addr} {items:Array Value} {fO fP:Value} {lo ay:Option Int} {Q:Value->Shared->Prop} (aW:IsTup s.heap t items) (az:s.heap.IsSliceOf cA fO fP .none) (pl:IsPart fO lo) (pu:IsPart fP ay)
  (hw : ¬ (cx items.size 0 lo=0/\cx items.size items.size ay=items.size))
  (h:Q (.ref s.heap.objs.size) { s with heap:=s.heap.push { cls:=.type "tuple", data:=.seq ((items.toList.drop (cx items.size 0 lo)).take (cx items.size items.size ay - cx items.size 0 lo)).toArray } })
  (hsz:items.size<=sizeLine):wpAny (model prog w) A (getItem (.ref t) (.ref cA)) Q E s:=by
 have yj:sizeOk (.seq ((items.toList.drop (cx items.size 0 lo)).take (cx items.size items.size ay - cx items.size 0 lo)).toArray):=by
  show ((items.toList.drop (cx items.size 0 lo)).take (cx items.size items.size ay - cx items.size 0 lo)).toArray.size<=sizeLine;rw [List.size_toArray,List.length_take,List.length_drop,Array.length_toList];omega
 have b3:cx items.size items.size ay<=items.size:=T1 _ _ (Nat.le_refl _) ay;obtain ⟨os,qG,xm,gP⟩:=id az;have AF:s.TypeIs (.ref cA) "slice" := ⟨os,qG,xm⟩
 unfold getItem
 try with_reducible refine wpAny_holding ?_
 first | refine wpAny_bind (wpAny_pure ?_) | skip
 refine wpAny_bind (wpAny_sequenceKey aW.typeIs (by decide) ?_);refine wpAny_bind (wpAny_callSpecial?_slot (name:=Str.ofString "__getitem__") aW.typeIs PyProof.Rows.slot_tuple_getitem
  (wpAny_call_entry PyProof.Rows.slot_tuple_getitem aW.typeIs entry_tuple_getitem ?_ (args_tuple_getitem _ _)))
 show wpAny _ _ (Builtin.Tuple.tupleItemsOf (.ref t)>>=_) _ _ s;refine wpAny_bind (tupleItemsOf_ aW ?_);refine wpAny_bind (wpAny_typeOf AF ?_);rw [if_pos (by decide)];refine wpAny_bind (Mx az pl pu ?_);have A7 : ¬ ((((cx items.size 0 lo:Nat):Int) == 0&&(1:Int) == 1&&(cx items.size items.size ay - cx items.size 0 lo) == items.size)=true):=by
  intro q;rw [Bool.and_eq_true,Bool.and_eq_true] at q;have a7:((cx items.size 0 lo:Nat):Int)=0:=eq_of_beq q.1.1;have bV:cx items.size items.size ay - cx items.size 0 lo=items.size:=eq_of_beq q.2;exact hw ⟨by omega,by omega⟩
 show wpAny _ _ (if (((cx items.size 0 lo:Nat):Int) == 0&&(1:Int) == 1&&(cx items.size items.size ay - cx items.size 0 lo) == items.size)=true then _ else _) _ _ s;rw [if_neg A7,Wy]
 first
  | exact wpAny_bind (m:=Builtin.Tuple.tupleExact _) (wpAny_newObj_type (wpAny_pure ⟨_,rfl,wpAny_pure h⟩) yj)
  | exact wpAny_bind (m:=Builtin.Tuple.tupleExact _) (wpAny_newObj_type (wpAny_bind (wpAny_pure (wpAny_pure ⟨_,rfl,wpAny_pure h⟩))) yj)
  | exact wpAny_bind (wpAny_bind (m:=Builtin.Tuple.tupleExact _) (wpAny_newObj_type (wpAny_pure (wpAny_pure ⟨_,rfl,wpAny_pure h⟩)) yj))
  | exact wpAny_bind (wpAny_bind (m:=Builtin.Tuple.tupleExact _) (wpAny_newObj_type (wpAny_pure ⟨_,rfl,wpAny_pure h⟩) yj))
end
end dT
namespace bI
open PySem PySem.Spec PyProof.Rows
abbrev bu:=St->ah->(Option Int->ah->Prop)->Prop
def tN (X:aP) (e:Option Expr) (t:bu):Prop :=
 ∀ (pins:List (Addr×Obj)) (s:Shared) (σ:St) (H:ah) (Q:Option Int->ah->Prop),Inv X pins σ H s->t σ H Q ->
  wpAny (model X.prog X.w) X.A (evalPart e X.env) (λ u s' => ∃ o H',Inv X pins σ H' s'/\IsPart u o/\Q o H') X.cP s
def JD:bu:=λ _ H Q=>Q none H
def IC (t:TE):bu:=λ σ H Q=>t σ H λ x H1 => ∃ i,x=.int i/\Q (some i) H1
theorem intsAre_of {ns:List Int} : ∀ {us:List Value},Vals (ns.map V.int) us->IntsAre us ns:=by
 induction ns with
 | nil=>intro us r;rw [List.map_nil] at r;cases r;exact .nil
 | cons n ns c5 =>
  intro us r;rw [List.map_cons] at r;cases r with
  | cons bq b5 =>
   obtain ⟨t,e⟩:=bq;subst e;exact .cons n t (c5 b5)
section
variable {X:aP} {e:Expr} {bh:TE} {lo ay:Option Expr} {ck bY:bu} {pos gh:Pos}
theorem UR:tN X none JD:=by
 intro pins s σ H Q I h;rw [evalPart_none];exact wpAny_pure ⟨none,H,I,.none,h⟩
theorem US (h:b9 X e bh):tN X (some e) (IC bh):=by
 intro pins s σ H Q I hw;rw [evalPart_some];refine bj (h pins s σ H _ I hw) λ u s1 ⟨x,H1,aE,bq,a7⟩=>?_
 obtain ⟨i,rfl,q⟩:=a7;obtain ⟨t,rfl⟩:=bq;exact ⟨some i,H1,aE,.int i t,q⟩
def jY (X:aP) (r:V->Option Int->Option Int->ah->bz->Prop):Prop :=
 ∀ (pins:List (Addr×Obj)) (s:Shared) (σ:St) (H:ah) (x:V) (v fO fP:Value) (lo ay:Option Int) (cA:Addr) (Q:bz),Inv X pins σ H s->RelV x v->s.heap.IsSliceOf cA fO fP .none->IsPart fO lo->IsPart fP ay->r x lo ay H Q ->
  ∃ T id,typeLookup (.type T) "__getitem__" = pure (some (.builtin id))/\s.TypeIs v T/\wpAny (model X.prog X.w) X.A (getItem v (.ref cA)) (f_ X pins σ Q) X.cP s
theorem jY.or {r bB:V->Option Int->Option Int->ah->bz->Prop} (h:jY X r) (h':jY X bB):jY X (λ x lo ay H Q=>r x lo ay H Q\/bB x lo ay H Q):=by
 intro pins s σ H x v fO fP lo ay cA Q I a5 az pl pu q;rcases q with q | q
 ·exact h pins s σ H x v fO fP lo ay cA Q I a5 az pl pu q
 ·exact h' pins s σ H x v fO fP lo ay cA Q I a5 az pl pu q
def Hu (r:V->Option Int->Option Int->ah->bz->Prop) (bh:TE) (ck bY:bu):TE:=λ σ H Q=>bh σ H λ x H1=>ck σ H1 λ l ar=>bY σ ar λ u aK=>r x l u aK Q
theorem Ww {r:V->Option Int->Option Int->ah->bz->Prop} (aq:jY X r) (he:b9 X e bh) (au:tN X lo ck) (bD:tN X ay bY):b9 X (.Subscript e (.Slice lo ay none gh) pos) (Hu r bh ck bY):=by
 intro pins s σ H Q I h;refine Subscript_ (bj (he pins s σ H _ I h) λ v s1 ⟨x,H1,aE,bq,a7⟩=>?_);refine wpAny_Slice (bj (au pins s1 σ H1 _ aE a7) λ fO s2 ⟨l,ar,bS,pl,bV⟩=>bj (bD pins s2 σ ar _ bS bV) λ fP s3 ⟨u,aK,b_,pu,ea⟩=>?_);rw [evalPart_none];refine wpAny_pure ?_;have cV:Inv X pins σ aK { s3 with heap:=s3.heap.push { cls:=.type "slice", data:=.fields #[fO,fP,.none] } }:=b_.kept (t':=s3.toks) λ b b2 q=>Heap.get?_push_of_some _ q
 obtain ⟨T,id,bJ,aW,aI⟩:=aq pins { s3 with heap:=s3.heap.push { cls:=.type "slice", data:=.fields #[fO,fP,.none] } } σ aK x v fO fP l u s3.heap.objs.size Q cV bq (Heap.IsSliceOf.new ..) pl pu ea;show wpAny (model X.prog X.w) X.A (subscriptTail e (.Slice lo ay none gh) v (.ref s3.heap.objs.size)) (f_ X pins σ Q) X.cP { s3 with heap:=s3.heap.push { cls:=.type "slice", data:=.fields #[fO,fP,.none] } };exact tail_any (ops:=[.ref s3.heap.objs.size,v]) aW bJ aI (by with_unfolding_all rfl)
def kH (xs:List V) (lo ay:Option Int):List V:=(xs.drop (dT.cx xs.length 0 lo)).take (dT.cx xs.length xs.length ay - dT.cx xs.length 0 lo)
theorem Lo (xs:List V) (lo ay:Option Int):(kH xs lo ay).length<=xs.length:=by
 unfold kH;rw [List.length_take,List.length_drop];omega
def Cd (K:PySem.W.Frag):V->Option Int->Option Int->ah->bz->Prop:=λ x lo ay H Q => ∃ a xs,x=.ref a/\aR K H a xs /\
 ¬ (dT.cx xs.length 0 lo=0/\dT.cx xs.length xs.length ay=xs.length) /\ ∀ p,H p=none->Q (.ref p) (upd H p (.tup (kH xs lo ay)))
theorem T3:jY X (Cd X.K):=by
 intro pins s σ H x v fO fP lo ay cA Q I a5 az pl pu h;obtain ⟨a,xs,rfl,ak,hw,q⟩:=h;cases a5;obtain ⟨its,r,aW,a9⟩:=I.tuple ak;have hlen:its.toArray.size=xs.length:=by rw [List.size_toArray];exact r.length.symm
 refine ⟨"tuple", _,PyProof.Rows.slot_tuple_getitem.lookup,aW.typeIs,?_⟩;refine dT.abu aW az pl pu (by rw [hlen];exact hw) ?_ (by rw [hlen];exact a9);rw [hlen];refine ⟨.ref s.heap.objs.size,_,I.laid (t':=s.toks) (o:=.tup (kH xs lo ay)) (λ b b2 q=>Heap.get?_push_of_some _ q) (Nat.le_refl _) ?_,rfl,q _ (I.a6.fresh (Nat.le_refl _))⟩;exact ⟨Nat.le_trans (Lo xs lo ay) a9,_,(r.drop (dT.cx xs.length 0 lo)).take (dT.cx xs.length xs.length ay - dT.cx xs.length 0 lo),nh.new _ _⟩
def Cv (K:PySem.W.Frag):e_:=λ x y H Q => ∃ a b xs ys,x=.ref a/\y=.ref b/\aR K H a xs/\aR K H b ys/\xs≠[]/\xs.length+ys.length<=sizeLine /\
 (ys=[]->Q (.ref a) H)/\(ys≠[] -> ∀ p,H p=none->Q (.ref p) (upd H p (.tup (xs++ys))))
theorem Vals.CS {xs:List V} {us:List Value} (r:Vals xs us):us=[] ↔ xs=[]:=by
 cases r with
 | nil=>simp
 | cons _ _=>simp
theorem UC:dD X (binaryOp .Add) (Cv X.K):=by
 intro pins s σ H x y v u Q I a5 br h;obtain ⟨a,b,xs,ys,rfl,rfl,aw,J,ak,a9,a7,bV⟩:=h;cases a5;cases br;obtain ⟨its,bq,e2,_⟩:=I.tuple aw;obtain ⟨vu,b5,gh,_⟩:=I.tuple J;refine dT.Ui e2 gh (λ z=>ak (bq.CS.mp z)) (λ z=>⟨.ref a,H,I,rfl,a7 (b5.CS.mp z)⟩) (λ z=>?_) (by rw [<-bq.length,<-b5.length];exact a9);refine ⟨.ref s.heap.objs.size,_,I.laid (t':=s.toks) (o:=.tup (xs++ys)) (λ b b2 q=>Heap.get?_push_of_some _ q) (Nat.le_refl _) ?_,rfl,bV (λ w=>z (b5.CS.mpr w)) _ (I.a6.fresh (Nat.le_refl _))⟩;exact ⟨by rw [List.length_append];exact a9,_,bq.append b5,nh.new _ _⟩
end
def ma (n:Nat) (i:Int):Option Nat:=if 0<=i then (if i<n then some i.toNat else none) else if -(n:Int)<=i then some (i+n).toNat else none
def gA {α : Type} (xs:List α) (i:Int):Option α := (ma xs.length i).bind λ j=>xs[j]?
theorem Jn {n:Nat} {i:Int} {j:Nat} (h:ma n i=some j):seqIndex? i n=some j/\j<n /\ -(n:Int)<=i/\i<n:=by
 unfold ma at h;by_cases h0:0<=i
 ·rw [if_pos h0] at h;by_cases af:i<n
  ·rw [if_pos af] at h;have e:i.toNat=j:=Option.some.inj h;exact ⟨by rw [seqIndex_of h0 af,e],by omega,by omega,af⟩
  ·rw [if_neg af] at h;cases h
 ·rw [if_neg h0] at h;by_cases af : -(n:Int)<=i
  ·rw [if_pos af] at h;have e:(i+n).toNat=j:=Option.some.inj h;exact ⟨by rw [seqIndex_neg (by omega) af,e],by omega,af,by omega⟩
  ·rw [if_neg af] at h;cases h
theorem Ja {α : Type} {xs:List α} {i:Int} {v : α} (h:gA xs i=some v) : ∃ j,seqIndex? i xs.length=some j/\xs[j]?=some v/\j<xs.length /\ -(xs.length:Int)<=i/\i<xs.length:=by
 unfold gA at h;cases e:ma xs.length i with
 | none=>rw [e] at h;cases h
 | some j =>
  rw [e] at h;obtain ⟨af,ai,aF,aX⟩:=Jn e;exact ⟨j,af,h,ai,aF,aX⟩
theorem Jb {α : Type} {xs:List α} {j:Nat} {v : α} (h:xs[j]?=some v):gA xs (j:Int)=some v:=by
 have b3:j<xs.length:=(List.getElem?_eq_some_iff.mp h).1;have e:ma xs.length (j:Int)=some j:=by
  unfold ma;rw [if_pos (by omega),if_pos (by omega)];simp
 unfold gA;rw [e];exact h
theorem JQ {α : Type} (xs:List α) (v : α):gA (xs++[v]) (-1)=some v:=by
 have au:(xs++[v]).length=xs.length+1:=by simp
 have e:ma (xs++[v]).length (-1)=some xs.length:=by
  unfold ma;rw [au,if_neg (by decide),if_pos (by omega)];congr 1;omega
 unfold gA;rw [e];show (xs++[v])[xs.length]?=some v;simp
def I9 (b:Expr):Prop := ∀ o i,subscripted b false o i=operate [o,i] (getItem o i)
def w4 (X:aP) (r:e_):Prop :=
 ∀ (value slice:Expr) (pins:List (Addr×Obj)) (s:Shared) (σ:St) (H:ah) (x y:V) (v u:Value) (Q:bz),Inv X pins σ H s->RelV x v->RelV y u->r x y H Q ->
  subscripted slice false v u=operate [v,u] (getItem v u)->wpAny (model X.prog X.w) X.A (subscriptTail value slice v u) (f_ X pins σ Q) X.cP s
def rY (X:aP) (id:String) (r:V->List V->ah->bz->Prop):Prop :=
 ∀ (pins:List (Addr×Obj)) (s:Shared) (σ:St) (H:ah) (x:V) (xs:List V) (v:Value) (us:List Value) (Q:bz),Inv X pins σ H s->RelV x v->Vals xs us->r x xs H Q ->
  wpAny (model X.prog X.w) X.A (call (.builtin id) (v::us)) (f_ X pins σ Q) X.cP s
section
variable {X:aP} {a b:Expr} {aZ bk:TE} {pos:Pos}
theorem Sv {r:e_} (aq:w4 X r) (aw:b9 X a aZ) (J:b9 X b bk) (az:I9 b):b9 X (.Subscript a b pos) (pD r aZ bk):=by
 intro pins s σ H Q I h;exact Subscript_ (BV aw J I h λ v u s2 x y ar bS a5 br q=>aq a b pins s2 σ ar x y v u Q bS a5 br q (az _ _))
def R1 (K:PySem.W.Frag):e_:=λ x y H Q => ∃ p xs i v,x=.ref p/\y=.int i/\a3 K H p xs/\gA xs i=some v/\Q v H
def R2 (K:PySem.W.Frag):e_:=λ x y H Q => ∃ p xs i v,x=.ref p/\y=.int i/\aR K H p xs/\gA xs i=some v/\Q v H
theorem d7:w4 X (R1 X.K):=by
 intro value slice pins s σ H x y v u Q I a5 br h az;obtain ⟨p,xs,i,z,rfl,rfl,aS,he,q⟩:=h;cases a5;obtain ⟨t,rfl⟩:=br;obtain ⟨its,r,pl,a9⟩:=I.list aS;obtain ⟨j,af,ai,aF,aX,bT⟩:=Ja he;obtain ⟨w,o7,eE⟩:=r.get ai;have au:=r.length;have aD:=sP;have fin:f_ X pins σ Q w s:=⟨z,H,I,eE,q⟩
 by_cases h0:0<=i
 ·have b3:i.toNat=j:=by
   rw [seqIndex_of h0 bT] at af;exact Option.some.inj af
  exact item_listR pl.isList h0 (by omega) (by rw [b3];simpa using o7) fin az
 ·have b3:(i+(its.toArray.size:Int)).toNat=j:=by
   rw [seqIndex_neg (by omega) aX] at af;rw [List.size_toArray,<-au];exact Option.some.inj af
  exact subscriptTail_builtinR (x:=w) pl.isList.typeIs slot_list_getitem.lookup
   (wpAny_getItem_list_neg (Q:=λ r s'=>r=w/\f_ X pins σ Q r s') pl.isList (by omega) (by rw [List.size_toArray]<;>omega) (by omega) (by rw [b3];simpa using o7) ⟨rfl,fin⟩) az
theorem hv:w4 X (R2 X.K):=by
 intro value slice pins s σ H x y v u Q I a5 br h az;obtain ⟨p,xs,i,z,rfl,rfl,aS,he,q⟩:=h;cases a5;obtain ⟨t,rfl⟩:=br;obtain ⟨its,r,pl,a9⟩:=I.tuple aS;obtain ⟨j,af,ai,aF,aX,bT⟩:=Ja he;obtain ⟨w,o7,eE⟩:=r.get ai;have au:=r.length;have aD:=sP;have fin:f_ X pins σ Q w s:=⟨z,H,I,eE,q⟩
 exact subscriptTail_builtinR (x:=w) pl.typeIs slot_tuple_getitem.lookup
  (getItem_tuple (j:=j) (Q:=λ r s'=>r=w/\f_ X pins σ Q r s') pl (by omega) (by omega) (by rw [List.size_toArray,<-au];exact af) (by simpa using o7) ⟨rfl,fin⟩) az
theorem Zk (its:List Value) (n j:Nat) (u:Value):Obj.mapSeq (·.setIfInBounds j u) { cls:=.type "list", data:=.seq its.toArray n }={ cls:=.type "list", data:=.seq (its.set j u).toArray n }:=by
 simp [Obj.mapSeq]
theorem Inv.lst {pins:List (Addr×Obj)} {σ:St} {H:ah} {s:Shared} {p:Addr} {xs:List V} (I:Inv X pins σ H s) (h:H p=some (.lst xs)) :
  ∃ (its:List Value) (n:Nat),Vals xs its/\s.heap.get? p=some { cls:=.type "list", data:=.seq its.toArray n }/\xs.length<=sizeLine:=by
 obtain ⟨z,its,n,r,e⟩:=I.a6 p _ h;exact ⟨its,n,r,e,z⟩
theorem Inv.Td {pins:List (Addr×Obj)} {σ:St} {H:ah} {s:Shared} {p:Addr} {xs ys:List V} {its its':List Value} {n b6:Nat} {f:Obj->Obj} (I:Inv X pins σ H s) (h:H p=some (.lst xs))
  (aG:s.heap.get? p=some { cls:=.type "list", data:=.seq its.toArray n }) (hf:f { cls:=.type "list", data:=.seq its.toArray n }={ cls:=.type "list", data:=.seq its'.toArray b6 }) (r:Vals ys its') (a9:ys.length<=sizeLine) (t:Nat) :
  Inv X pins σ (upd H p (.lst ys)) { s with heap:=s.heap.update p f,toks:=t }:=by
 have e:(s.heap.update p f).get? p=some { cls:=.type "list", data:=.seq its'.toArray b6 }:=by
  rw [Heap.get?_update_self f aG (by rw [hf]<;>rfl),hf]
 refine I.write (x:=p) (e:=p) (by rw [h];trivial) (.inl rfl) (λ b u J q=>(Heap.get?_update_other _ _ (Ne.symm J)).trans q) ⟨_,e⟩ ?_;exact ⟨a9,its',b6,r,e⟩
def Iu:V->V->V->ah->(ah->Prop)->Prop:=λ o i v H Q => ∃ p xs k j,o=.ref p/\i=.int k/\H p=some (.lst xs)/\ma xs.length k=some j/\Q (upd H p (.lst (xs.set j v)))
theorem set_list:xW X Iu:=by
 intro pins s σ H o i v de dY u Q I Nz Ny bR h;obtain ⟨p,xs,k,j,rfl,rfl,ax,b3,q⟩:=h;cases Nz;obtain ⟨t,rfl⟩:=Ny;obtain ⟨its,n,r,aG,a9⟩:=I.lst ax;obtain ⟨af,ai,aF,aX⟩:=Jn b3;have au:=r.length;have aD:=sP;have iR:Inv X pins σ (upd H p (.lst (xs.set j v))) { s with heap:=s.heap.update p (Obj.mapSeq (·.setIfInBounds j u)) } :=
  I.Td ax aG (Zk its n j u) (r.set bR j) (by rw [List.length_set];exact a9) s.toks
 by_cases h0:0<=k
 ·have aB:k.toNat=j:=by
   rw [seqIndex_of h0 aX] at af;exact Option.some.inj af
  exact PySem.W.ki_setAt aG h0 (by omega) (by rw [List.size_toArray,<-au];exact aX) (by rw [aB];exact ⟨_,iR,q⟩)
 ·have aB:(k+(its.toArray.size:Int)).toNat=j:=by
   rw [seqIndex_neg (by omega) aF] at af;rw [List.size_toArray,<-au];exact Option.some.inj af
  exact PySem.W.ki_setBack aG (by omega) (by rw [List.size_toArray,<-au];exact aF) (by omega) (by rw [aB];exact ⟨_,iR,q⟩)
theorem aao (lo ay:Option Int) (n:Nat):(sliceBounds lo ay none n).1=((dT.cx n 0 lo:Nat):Int)/\(sliceBounds lo ay none n).2.1=((dT.cx n n ay:Nat):Int)/\(sliceBounds lo ay none n).2.2=1:=by
 refine ⟨?_,?_,rfl⟩
 ·cases lo with
  | none=>simp [sliceBounds,dT.cx]
  | some i =>
   simp only [sliceBounds,dT.cx,Option.getD_none,show (1:Int) > 0 by decide,if_true];by_cases h:i<0
   ·simp only [h,if_true]<;>omega
   ·simp only [h,if_false]<;>omega
 ·cases ay with
  | none=>simp [sliceBounds,dT.cx]
  | some i =>
   simp only [sliceBounds,dT.cx,Option.getD_none,show (1:Int) > 0 by decide,if_true];by_cases h:i<0
   ·simp only [h,if_true]<;>omega
   ·simp only [h,if_false]<;>omega
theorem aaV (its:List Value) (lo ay:Option Int):slicePick its.toArray lo ay none=((its.drop (dT.cx its.length 0 lo)).take (dT.cx its.length its.length ay - dT.cx its.length 0 lo)).toArray:=by
 obtain ⟨af,ai,aF⟩:=aao lo ay its.toArray.size;unfold slicePick;rw [af,ai,aF];simp only [sliceRange_one,pick_run,List.size_toArray]<;>rfl
def R6 (K:PySem.W.Frag):V->Option Int->Option Int->ah->bz->Prop:=λ x lo ay H Q => ∃ a xs,x=.ref a/\a3 K H a xs /\ ∀ p,H p=none->Q (.ref p) (upd H p (.lst (kH xs lo ay)))
theorem Vl:jY X (R6 X.K):=by
 intro pins s σ H x v fO fP lo ay cA Q I a5 az pl pu h;obtain ⟨a,xs,rfl,ak,q⟩:=h;cases a5;obtain ⟨its,r,aW,a9⟩:=I.list ak;have hlen:=r.length;refine ⟨"list", _,slot_list_getitem.lookup,aW.isList.typeIs,?_⟩;refine wpAny_getItem_list_slice aW.isList az pl pu .none (by simp) ?_ (by rw [List.size_toArray]<;>omega);rw [aaV,<-hlen];refine ⟨.ref s.heap.objs.size,_,I.laid (t':=s.toks) (o:=.lst (kH xs lo ay)) (λ b b2 q=>Heap.get?_push_of_some _ q) (Nat.le_refl _) ?_,rfl,q _ (I.a6.fresh (Nat.le_refl _))⟩;exact ⟨Nat.le_trans (Lo xs lo ay) a9,_,0,(r.drop (dT.cx xs.length 0 lo)).take (dT.cx xs.length xs.length ay - dT.cx xs.length 0 lo),Heap.get?_push_size _ rfl⟩
theorem gG:e7 X (.builtin "len") (λ xs H Q => ∃ p ys,xs=[.ref p]/\(a3 X.K H p ys\/aR X.K H p ys)/\Q (.int ys.length) H):=by
 intro pins s σ H xs us Q I r h;obtain ⟨p,ys,rfl,aS,q⟩:=h;obtain ⟨u,rfl,a5⟩:=vals1 r;cases a5;have aD:=sP;rcases aS with aS | aS
 ·obtain ⟨its,bB,pl,a9⟩:=I.list aS;have hlen:=bB.length;exact Calls.call_len_list pl.isList (by simp only [List.size_toArray]<;>omega) ⟨.int ys.length,H,I.tok _,⟨s.toks+1,by rw [List.size_toArray,hlen]⟩,q⟩
 ·obtain ⟨its,bB,pl,a9⟩:=I.tuple aS;have hlen:=bB.length;exact len_tuple pl (by simp only [List.size_toArray]<;>omega) ⟨.int ys.length,H,I.tok _,⟨s.toks+1,by rw [List.size_toArray,hlen]⟩,q⟩
theorem Ee:e7 X (.builtin "len") (λ xs H Q => ∃ z,xs=[.str z]/\z.length<=sizeLine/\Q (.int z.length) H):=by
 intro pins s σ H xs us Q I r h;obtain ⟨z,rfl,a9,q⟩:=h;obtain ⟨u,rfl,t,rfl⟩:=vals1 r;have aD:=sP;exact len_str (by omega) ⟨.int z.length,H,I.tok _,⟨_,rfl⟩,q⟩
theorem Z7:e7 X (.type "list") (λ xs H Q => ∃ p ys,xs=[.ref p]/\(a3 X.K H p ys\/aR X.K H p ys) /\ ∀ l,H l=none->Q (.ref l) (upd H l (.lst ys))):=by
 intro pins s σ H xs us Q I r h;obtain ⟨p,ys,rfl,aS,q⟩:=h;obtain ⟨u,rfl,a5⟩:=vals1 r;cases a5;have fin : ∀ (its:List Value),Vals ys its->ys.length<=sizeLine -> ∀ (h':Heap) (cN:Nat),(∀ b eH,s.heap.get? b=some eH->h'.get? b=some eH) ->
   h'.get? s.heap.objs.size=some { cls:=.type "list", dict:=none,data:=.seq its.toArray cN,slots:=#[] }->f_ X pins σ Q (.ref s.heap.objs.size) { s with heap:=h' }:=λ its bB a9 h' cN a_ e =>
  ⟨.ref s.heap.objs.size,_,I.laid (t':=s.toks) a_ (Nat.le_refl _) (show dW X.prog X.w _ h' _ (.lst ys) from ⟨a9,its,cN,bB,e⟩),rfl,q _ (I.a6.fresh (Nat.le_refl _))⟩
 rcases aS with aS | aS
 ·obtain ⟨its,bB,pl,a9⟩:=I.list aS;have hlen:=bB.length;obtain ⟨o,aG,aj,n,hd⟩:=pl.isList;exact call_list_seq p (.inl rfl) aG aj hd (λ h' cN a_ e=>fin its bB a9 h' cN a_ e) (by simp only [List.size_toArray]<;>omega)
 ·obtain ⟨its,bB,pl,a9⟩:=I.tuple aS;have hlen:=bB.length;obtain ⟨o,aG,aj,n,hd⟩:=pl;exact call_list_seq p (.inr rfl) aG aj hd (λ h' cN a_ e=>fin its bB a9 h' cN a_ e) (by simp only [List.size_toArray]<;>omega)
theorem tD:e7 X (.type "tuple") (λ xs H Q => ∃ p ys,xs=[.ref p]/\((a3 X.K H p ys /\ ∀ l,H l=none->Q (.ref l) (upd H l (.tup ys)))\/(aR X.K H p ys/\Q (.ref p) H))):=by
 intro pins s σ H xs us Q I r h;obtain ⟨p,ys,rfl,h⟩:=h;obtain ⟨u,rfl,a5⟩:=vals1 r;cases a5;rcases h with ⟨aS,q⟩ | ⟨aS,q⟩
 ·obtain ⟨its,bB,pl,a9⟩:=I.list aS;have hlen:=bB.length;refine call_tuple_list pl.isList (λ h' a_=>?_) (by simp only [List.size_toArray]<;>omega);have aE:Inv X pins σ H { s with heap:=h' }:=I.kept (t':=s.toks) a_;have bS:Inv X pins σ (upd H h'.objs.size (.tup ys)) { s with heap:=h'.push { cls:=.type "tuple", data:=.seq its.toArray } } :=
   aE.laid (t':=s.toks) (λ b o e=>Heap.get?_push_of_some _ e) (Nat.le_refl _) (show dW X.prog X.w _ _ _ (.tup ys) from ⟨a9,its,bB,nh.new _ _⟩)
  exact ⟨.ref h'.objs.size,_,bS,rfl,q _ (aE.a6.fresh (Nat.le_refl _))⟩
 ·obtain ⟨its,bB,pl,a9⟩:=I.tuple aS;exact call_tuple_same pl ⟨.ref p,H,I,rfl,q⟩
def BK (K:PySem.W.Frag) (T:String) (x:V) (H:ah):Prop:=match x with
 | .str _=>T = "str"
 | .int _=>T = "int"
 | .ref p=>(T = "list" /\ ∃ xs,a3 K H p xs)\/(T = "tuple" /\ ∃ o,K.lookup p=some o/\o.cls=.type "tuple" /\ o.dict=none) \/
   (T = "dict" /\ ((∃ kvs,H p=some (.bp kvs)) \/ ∃ kvs,H p=some (.iU kvs)))\/(T = "set" /\ ∃ S n,H p=some (.set S n))
 | _=>False
theorem I4 {pins:List (Addr×Obj)} {σ:St} {H:ah} {s:Shared} {T:String} {x:V} {v:Value} (I:Inv X pins σ H s) (r:RelV x v) (ty:BK X.K T x H) :
  s.TypeIs v T /\ ∀ a,v=.ref a -> ∃ b2,s.heap.get? a=some b2/\b2.dict=none:=by
 cases x with
 | str z =>
  obtain ⟨t,rfl⟩:=r;cases (show T = "str" from ty);exact ⟨typeIs_str s z t,λ _ e=>nomatch e⟩
 | int i =>
  obtain ⟨t,rfl⟩:=r;cases (show T = "int" from ty);exact ⟨typeIs_int s i t,λ _ e=>nomatch e⟩
 | ref p =>
  cases r;rcases ty with ⟨rfl,xs,aS⟩ | ⟨rfl,o,aB,aj,hd⟩ | ⟨rfl,aB⟩ | ⟨rfl,S,n,aB⟩
  ·obtain ⟨its,_,pl,_⟩:=I.list aS;refine ⟨pl.isList.typeIs,λ a e=>?_⟩;cases e;obtain ⟨o,n,e,c,hd,_⟩:=pl;exact ⟨o,e,hd⟩
  ·refine ⟨⟨o,I.dF p o aB,aj⟩,λ a e=>?_⟩;cases e;exact ⟨o,I.dF _ o aB,hd⟩
  ·have z : ∃ o,s.heap.get? p=some o/\o.ExactDict:=by
    rcases aB with ⟨kvs,aB⟩ | ⟨kvs,aB⟩
    ·obtain ⟨_,_,_,_,o,_,_,e,ex,_⟩:=I.a6 p _ aB;exact ⟨o,e,ex⟩
    ·obtain ⟨_,_,_,_,o,_,_,e,ex,_⟩:=I.a6 p _ aB;exact ⟨o,e,ex⟩
   obtain ⟨o,e,ex⟩:=z;refine ⟨⟨o,e,ex.1⟩,λ a aQ=>?_⟩;cases aQ;exact ⟨o,e,ex.2.1⟩
  ·obtain ⟨o,_,_,_,e,ex,_⟩:=I.a6 p _ aB;refine ⟨⟨o,e,ex.1⟩,λ a aQ=>?_⟩;cases aQ;exact ⟨o,e,ex.2.1⟩
 | _=>exact False.elim ty
def H2 (K:PySem.W.Frag) (T:String) (r:V->List V->ah->bz->Prop) (to:TE):TE:=λ σ H Q=>to σ H λ x H1=>BK K T x H1/\r x [] H1 Q
def Hs (K:PySem.W.Frag) (T:String) (r:V->List V->ah->bz->Prop) (to:TE) (t:c3):TE:=λ σ H Q=>to σ H λ x H1=>BK K T x H1/\t σ H1 λ xs ar=>r x xs ar Q
variable {o e:Expr} {ao:List Expr} {to:TE} {t:c3} {name:Str} {apos d4:Pos} {T id:String} {r:V->List V->ah->bz->Prop}
theorem Tp (dJ:PlainAttrs T) (slot:Slot T name id) (qK:typeOf (.builtin id)=pure (.type "method_descriptor")) (hm:rY X id r) (aG:b9 X o to)
  (jE:attributeBase o name X.env (eval o X.env)=eval o X.env:=by rfl) (q4:(apos.endLine == d4.line)=true:=by rfl):b9 X (.Call (.Attribute o name apos) [] [] d4) (H2 X.K T r to):=by
 intro pins s σ H Q I h;refine wpAny_Call_method0_late jE q4 (bj (aG pins s σ H _ I h) λ v s1 ⟨x,H1,aE,bq,ty,a7⟩=>?_);obtain ⟨af,ai⟩:=I4 aE bq ty;exact ⟨T,id,dJ,slot,qK,af,ai,Calls.callWith_builtin rfl (PySem.evalArgs_none (hm pins s1 σ H1 x [] v [] Q aE bq .nil a7))⟩
theorem Su (dJ:PlainAttrs T) (slot:Slot T name id) (qK:typeOf (.builtin id)=pure (.type "method_descriptor")) (hm:rY X id r) (aG:b9 X o to) (aw:hA X (e::ao) t)
  (jE:attributeBase o name X.env (eval o X.env)=eval o X.env:=by rfl)
  (BY:((backTo d4 (starEach (e::ao) X.env)).all (λ x => !x.1)&&(backToKw d4 (keywordEach [] X.env)).all (λ x=>x.1.isSome)
   && decide ((e::ao).length+([]:List Keyword).length+(if ([]:List Keyword).isEmpty then 0 else 1)<30))=true:=by rfl)
  (q4:(apos.endLine == d4.line)=true:=by rfl) (az:starEach (e::ao) X.env=(false,eval e X.env)::starEach ao X.env:=by rfl) (vP:(backTo d4 (starEach ao X.env)).any (·.1)=false:=by rfl) :
  b9 X (.Call (.Attribute o name apos) (e::ao) [] d4) (Hs X.K T r to t):=by
 intro pins s σ H Q I h;refine wpAny_Call_method_late jE BY q4 rfl (bj (aG pins s σ H _ I h) λ v s1 ⟨x,H1,aE,bq,ty,a7⟩=>?_);obtain ⟨af,ai⟩:=I4 aE bq ty;refine ⟨T,id,dJ,slot,qK,af,ai,?_⟩;have lV:=aw d4 pins s1 σ H1 _ aE a7;rw [az] at lV ⊢;refine Calls.callWith_builtin (by show (false||(backTo d4 (starEach ao X.env)).any (·.1))=false;rw [vP]<;>rfl) (Calls.evalArgs_plain ?_);exact bj lV λ us s2 ⟨vs,ar,bS,b5,bV⟩=>hm pins s2 σ ar x vs v us Q bS bq b5 bV
end
def n0 (X:aP) (id:String) (r:V->List V->ah->bz->Prop):Prop :=
 ∀ (pins:List (Addr×Obj)) (s:Shared) (σ:St) (H:ah) (x:V) (xs:List V) (v:Value) (us:List Value) (Q:bz),Inv X pins σ H s->RelV x v->Vals xs us->r x xs H Q ->
  wpAny (model X.prog X.w) X.A (call (.builtin id) (v::us)) (f_ X pins σ Q) X.cP s
theorem Vals.one : ∀ {x:V} {us:List Value},Vals [x] us -> ∃ u,us=[u]/\RelV x u
 | _,_,.cons r .nil=>⟨_,rfl,r⟩
theorem Vals.zero : ∀ {us:List Value},Vals [] us->us=[]
 | _,.nil=>rfl
theorem Vals.dropLast {xs:List V} {us:List Value} (h:Vals xs us):Vals xs.dropLast us.dropLast:=by
 induction h with
 | nil=>exact .nil
 | cons r t c5 =>
  cases t with
  | nil=>exact .nil
  | cons q t'=>exact .cons r c5
theorem Vals.rep {xs:List V} {us:List Value} (h:Vals xs us) : ∀ k:Nat,Vals (List.replicate k xs).flatten (List.replicate k us).flatten
 | 0=>.nil
 | k+1=>by
  rw [List.replicate_succ,List.replicate_succ,List.flatten_cons,List.flatten_cons];exact Vals.append h (Vals.rep h k)
theorem Y3 {α : Type} (l:List α):l.eraseIdx (l.length - 1)=l.dropLast:=by
 induction l with
 | nil=>rfl
 | cons a r c5 =>
  cases r with
  | nil=>rfl
  | cons b r =>
   have e:(a::b::r).length - 1=((b::r).length - 1)+1:=by
    have af:(a::b::r).length=r.length+2:=rfl;have ai:(b::r).length=r.length+1:=rfl;omega
   rw [e,List.eraseIdx_cons_succ,c5]
   all_goals rfl
theorem foldl_rep (its:List Value) : ∀ (k:Nat) (acc:List Value),
  List.foldl (λ hc iY=>hc++iY) acc.toArray (List.replicate k its.toArray)=(acc++(List.replicate k its).flatten).toArray
 | 0,acc=>by simp
 | k+1,acc=>by
  have e:acc.toArray++its.toArray=(acc++its).toArray:=by simp
  have aQ:(acc++its)++(List.replicate k its).flatten=acc++(List.replicate (k+1) its).flatten:=by
   rw [List.replicate_succ,List.flatten_cons,List.append_assoc]
  rw [<-aQ,<-foldl_rep its k (acc++its),<-e,List.replicate_succ,List.foldl_cons]
section
variable {X:aP} {pins:List (Addr×Obj)} {σ:St} {H:ah} {s:Shared} {l b:Addr} {xs ys zs:List V}
theorem Inv.B9 {its its':List Value} {n:Nat} {f:Array Value->Array Value} {t':Nat} (I:Inv X pins σ H s) (g6:H l=some (.lst xs))
  (e:s.heap.get? l=some { cls:=.type "list", data:=.seq its.toArray n }) (hf:f its.toArray=its'.toArray) (bf:Vals ys its') (a9:ys.length<=sizeLine) :
  Inv X pins σ (upd H l (.lst ys)) { s with heap:=s.heap.update l (Obj.mapSeq f),toks:=t' }:=by
 have q:=PySem.IsL.update e f;rw [hf] at q;refine I.write (x:=l) (e:=l) (by rw [g6];exact trivial) (.inl rfl) (λ dO u J bD=>(Heap.get?_update_other s.heap (Obj.mapSeq f) (Ne.symm J)).trans bD) ⟨_,q⟩ ?_;exact ⟨a9,its',_,bf,q⟩
theorem Inv.x8 {its:List Value} {t':Nat} (I:Inv X pins σ H s) (bf:Vals ys its) (a9:ys.length<=sizeLine) :
  Inv X pins σ (upd H s.heap.objs.size (.lst ys)) { s with heap:=s.heap.push { cls:=.type "list", data:=.seq its.toArray },toks:=t' } :=
 I.laid (λ _ _ q=>Heap.get?_push_of_some _ q) (Nat.le_refl _) ⟨a9,its,0,bf,Heap.get?_push_size _ rfl⟩
theorem Inv.fresh (I:Inv X pins σ H s):H s.heap.objs.size=none:=I.a6.fresh (Nat.le_refl _)
theorem Inv.iH (I:Inv X pins σ H s) (g6:H l=some (.lst xs)):xs.length<=sizeLine /\ ∃ (its:List Value) (n:Nat),Vals xs its/\xs.length=its.length/\s.heap.get? l=some { cls:=.type "list", data:=.seq its.toArray n }:=by
 obtain ⟨z,its,n,r,e⟩:=I.a6 l _ g6;exact ⟨z,its,n,r,r.length,e⟩
theorem Wg {n:Nat} (h:n<=sizeLine):Builtin.List.listTooLong n=false:=by
 unfold Builtin.List.listTooLong;exact decide_eq_false (by omega)
end
section
variable {X:aP}
def Vc:V->List V->ah->bz->Prop:=λ x vs H Q => ∃ l xs y,x=.ref l/\vs=[y]/\H l=some (.lst xs)/\xs.length<sizeLine/\Q .bg (upd H l (.lst (xs++[y])))
theorem y2:n0 X "list.append" Vc:=by
 intro pins s σ H x vs v us Q I a5 bR h;obtain ⟨l,xs,y,rfl,rfl,g6,a9,q⟩:=h;cases a5;obtain ⟨u,rfl,eI⟩:=bR.one;obtain ⟨z,its,n,r,au,e⟩:=I.iH g6;refine call_meets F.slot_list_append ⟨_,e,rfl⟩ F.entry_list_append (F.args_list_append_2 _ _) (PySem.list_append l its.toArray n u (by rw [List.size_toArray];omega)) ⟨e,?_⟩;refine ⟨.bg,_,I.B9 (its':=its++[u]) g6 e (by simp) (r.append (.cons eI .nil)) ?_,rfl,q⟩;rw [List.length_append,List.length_singleton];omega
def R3:V->List V->ah->bz->Prop:=λ x vs H Q => ∃ l xs y,x=.ref l/\vs=[]/\H l=some (.lst xs)/\xs[xs.length - 1]?=some y/\Q y (upd H l (.lst xs.dropLast))
theorem IM:n0 X "list.pop" R3:=by
 intro pins s σ H x vs v us Q I a5 bR h;obtain ⟨l,xs,y,rfl,rfl,g6,aN,q⟩:=h;cases a5;have PE:=bR.zero;subst PE;obtain ⟨z,its,n,r,au,e⟩:=I.iH g6;obtain ⟨u,bD,eI⟩:=r.get aN;have eh:its.toArray[its.toArray.size - 1]?=some u:=by
  show its.toArray[its.length - 1]?=some u;rw [<-Array.getElem?_toList,<-au];exact bD
 refine call_meets F.slot_list_pop ⟨_,e,rfl⟩ F.entry_list_pop (F.args_list_pop_1 _) (MeetsSeq.list_pop_last l its.toArray n u eh (by rw [List.size_toArray];omega)) ⟨e,?_⟩;refine ⟨y,_,I.B9 (its':=its.dropLast) g6 e ?_ r.dropLast ?_,eI,q⟩
 ·show its.toArray.eraseIdxIfInBounds (its.toArray.size - 1)=its.dropLast.toArray;rw [List.size_toArray,List.eraseIdxIfInBounds_toArray,Y3]
 ·rw [List.length_dropLast];omega
def RY:e_:=λ x y H Q => ∃ l b xs zs,x=.ref l/\y=.ref b/\H l=some (.lst xs)/\H b=some (.lst zs)/\xs.length+zs.length<=sizeLine /\ ∀ p,H p=none->Q (.ref p) (upd H p (.lst (xs++zs)))
theorem Tj:dD X (binaryOp .Add) RY:=by
 intro pins s σ H x y v u Q I a5 br h;obtain ⟨l,b,xs,zs,rfl,rfl,g6,qa,a9,q⟩:=h;cases a5;cases br;obtain ⟨z,its,n,r,au,e⟩:=I.iH g6;obtain ⟨e4,vu,c0,b5,fg,aQ⟩:=I.iH qa;refine PySem.P.add_list e aQ ?_ (by rw [List.size_toArray,List.size_toArray];omega);have es:its.toArray++vu.toArray=(its++vu).toArray:=by simp
 rw [es];exact ⟨.ref _,_,I.x8 (t':=s.toks) (r.append b5) (by rw [List.length_append];omega),rfl,q _ I.fresh⟩
def R4:e_:=λ x y H Q => ∃ l k xs,x=.ref l/\y=.int k/\H l=some (.lst xs) /\ -(2 ^ 63)<=k/\k<2 ^ 63/\xs.length * k.toNat<=sizeLine /\
 ∀ p,H p=none->Q (.ref p) (upd H p (.lst (List.replicate k.toNat xs).flatten))
theorem len_rep {α : Type} (xs:List α) (k:Nat):(List.replicate k xs).flatten.length=k * xs.length:=by
 induction k with
 | zero=>simp
 | succ k c5=>rw [List.replicate_succ,List.flatten_cons,List.length_append,c5,Nat.succ_mul,Nat.add_comm]
theorem IS:dD X (binaryOp .Mult) R4:=by
 intro pins s σ H x y v u Q I a5 br h;obtain ⟨l,k,xs,rfl,rfl,g6,af,ai,a9,q⟩:=h;cases a5;obtain ⟨t,rfl⟩:=br;obtain ⟨z,its,n,r,au,e⟩:=I.iH g6;have hlen:its.toArray.size * k.toNat<=sizeLine:=by rw [List.size_toArray,<-au];exact a9
 have Rj : ¬ its.toArray.size * k.toNat > (2 ^ 63 - 1) / 8:=by
  have:(sizeLine:Nat)<=(2 ^ 63 - 1) / 8:=by decide
  omega
 have B1 : ¬ (!Builtin.List.listFitsIndex k)=true:=by
  rw [fitsIndex_both af ai];exact Bool.false_ne_true
 have Sk : ¬ Builtin.List.listTooLong (its.toArray.size * k.toNat)=true:=by
  rw [Wg hlen];exact Bool.false_ne_true
 have Ry:List.foldl (λ hc iY=>hc++iY) #[] (List.replicate (if its.toArray.isEmpty=true then 0 else k.toNat) its.toArray)=(List.replicate k.toNat its).flatten.toArray:=by
  have f0 : ∀ m:Nat,List.foldl (λ hc iY=>hc++iY) #[] (List.replicate m its.toArray)=(List.replicate m its).flatten.toArray:=λ m=>by
   have:=foldl_rep its m [];rw [List.nil_append] at this;exact this
  rw [f0];cases its with
  | nil=>simp
  | cons a bB=>rw [if_neg (by simp)]
 refine wpAny_binaryOp_repeat_ref (T := "list") (U := "int") (by decide) ⟨_,e,rfl⟩ (λ s'=>typeIs_int s' k t) noFill_list_mul F.fills_int_mul F.slot_int_rmul repeat_list F.slot_int_index.lookup
  (call_meets F.slot_int_rmul (typeIs_int s k t) F.entry_int_rmul (F.args_int_rmul_2 _ _) (int___rmul___int_list k t l its.toArray n)
   ⟨e,rfl,⟨_,e,rfl⟩,call_meets F.slot_list_mul ⟨_,e,rfl⟩ F.entry_list_mul (F.args_list_mul_2 _ _) (AutoListH.list___mul___list_int_3 l its.toArray n k t B1 Rj Sk) ⟨e,?_⟩⟩)
 rw [Ry];exact ⟨.ref _,_,I.x8 (t':=s.toks) (r.rep k.toNat) (by rw [len_rep,Nat.mul_comm];exact a9),rfl,q _ I.fresh⟩
end
end bI
namespace F7
open PySem PySem.W PySem.Calls PyProof.Rows
theorem abb {P:Params} {h:Heap} : ∀ (ns:List Int) (vs:List Value),WellAll P h vs (ns.map WData.int)->IntsAre vs ns:=by
 intro ns
 induction ns with
 | nil =>
  intro vs w;rw [List.map_nil] at w;cases w;exact .nil
 | cons n ns c5 =>
  intro vs w;rw [List.map_cons] at w;cases w with
  | cons a b =>
   cases a;exact .cons _ _ (c5 _ b)
theorem Yc {l:OpenLaw} {n:Nat} (aD:l.most=some n) {P:Params} {h:Heap} {args:List WData} {vals:List Value}
  (x4:l.row.toRowW.claim.pre args=true) (xx:WellAll P h vals args) :
  ∃ a vs ns,vals=[Value.ref a]/\args=[WData.list (ns.map WData.int)]/\h.get? a=some { cls:=.type "list", data:=.seq vs.toArray }/\IntsAre vs ns/\ns.length<=n:=by
 have Py:WShape.hasAll [] args [.list .int]=true:=(pre_splitW x4).1;have aj:l.pre.holds [] { args:=args }=true:=(pre_splitW x4).2;obtain ⟨d,r,rfl,af,ai⟩:=hasAllW_cons Py;obtain rfl:=hasAllW_nil ai;obtain ⟨xs,rfl,aF⟩:=hasW_list af;obtain ⟨ns,rfl⟩:=items_int aF;have hlen:ns.length<=n:=by
  unfold OpenLaw.pre at aj;have aX:(WTm.not (.lt (.lit (.int (n:Int))) (.len (.arg 0)))).holds [] { args:=[.list (ns.map .int)] }=true:=by
   have aX:=(holds_andW aj).1;rw [aD] at aX;exact aX
  have bT:=condW_of aX (w_not (w_lt w_lit (w_len_list (w_arg rfl))));rw [List.length_map] at bT;refine Nat.le_of_not_lt λ q=>?_
  have aU:(n:Int)<((ns.length:Nat):Int):=by omega
  first
   | (rw [decide_eq_true aU] at bT;exact absurd bT (by decide))
   | (simp at bT;omega)
 cases xx with
 | cons hJ gz =>
  cases gz;cases hJ with
  | list aG fT=>exact ⟨_,_,ns,rfl,rfl,aG,abb ns _ fT,hlen⟩
theorem X5 (l:OpenLaw) (args:List WData):l.row.toRowW.claim.post args (.bool true) args=true :=
 postW_of (r:=l.row.toRowW) (X:=(true == true))
  (show WShape.has [] (.bool true) .bool=true by first | rfl | decide | simp [WShape.has,WShape.arms,WShape.armsAll])
  (show (WTm.eq .res (.lit (.bool true))).value [] { args:=args,res:=some (.bool true),after:=args }=some (.bool (true == true)) from w_eq_bool (w_res rfl) w_lit) rfl
theorem ZM {l:OpenLaw} {n:Nat} {q:Program} {loose:List Str} {rF:(Str->Option Value)->Heap->Prop} {o3:World->Heap->Prop} {d:DefRec}
  (aD:l.most=some n) (uD:d.params.defaults=[])
  (call : ∀ (w:World) (s₀ s₁:Shared) (mg lj:Str->Option Value) (gK:Addr) (o:Obj) (pm cd doc:Value) (a:Addr) (vs:List Value) (ns:List Int),
   Ground q loose [] rF w s₀ mg lj s₁.heap->o3 w s₁.heap ->
   s₁.heap.get? gK=some o->o.data=.func (docDef d.name d.params d.body d.scope pm cd doc)->s₁.heap.CodeRec cd d.name->mg d.name=some (.ref gK) ->
   s₁.heap.get? a=some { cls:=.type "list", data:=.seq vs.toArray }->IntsAre vs ns->ns.length<=n->s₁.gens=#[] ->
   codeAny (model l.prog w) callerA (.call (.ref gK) ⟨[.ref a],[]⟩) (λ r s'=>r=.ok (.ret (.bool true))/\OldK s₁.heap s'.heap/\s'.os=s₁.os/\AllBare s'.gens) s₁) :
  WalkO q loose rF o3 l.row.toRowW d [] (λ f vs=>PySem.call f vs):=by
 intro w s₀ s₁ mg lj G Y gK o pm cd doc wK cF aG hd hN a4 uL aI args vals as x4 ac4 GK xx acx;obtain rfl:wK=.none:=Dflts.none a4 uD;obtain rfl:cF=.none:=Dflts.noKw a4;obtain ⟨a,vs,ns,rfl,rfl,oD,hints,hlen⟩:=Yc aD x4 xx;refine enter_call (codeAny_mono (call w s₀ s₁ mg lj gK o pm cd doc a vs ns G Y aG (fd_plain hd) hN uL oD hints hlen aI) λ r s' aS=>?_);obtain ⟨rfl,ai,aF,aX⟩:=aS;exact ⟨.inl ⟨.bool true,.bool true,[],rfl,λ _=>rfl,.bool true,X5 l _,λ _=>⟨List.Pairwise.nil,λ _ hm=>(nomatch hm)⟩⟩,ai,aF,aX⟩
end F7
namespace bI
open PySem PySem.Spec PyProof.Rows
theorem K1 : ∀ {vs:List Value} {ns:List Int},IntsAre vs ns->Vals (ns.map V.int) vs
 | _,_,.nil=>.nil
 | _,_,.cons n t h=>.cons ⟨t,rfl⟩ (K1 h)
def BU (H:ah):Prop := ∀ b,H b=none \/ ∃ o xs,H b=some (.fB o (.lst xs))
theorem V_ {P:Program} {w:World} {K:PySem.W.Frag} {mg lj:Str->Option Value} {cp:hL} {k:Nat} {gK a:Addr} {fd:FuncData} {x:Str} {sp:bX} {s₁:Shared} {vs:List Value} {ns:List Int}
  (iS:K.In s₁.heap) (i4:s₁.heap.Ns mainGlobals mg) (J:s₁.heap.Ns builtinsNs lj) (O3 : ∀ x:Str,x ≠ "__name__" -> lj x=bootBuiltins x) (Rv:s₁.heap.NoLimit) (aI:s₁.gens=#[])
  (aw:s₁.heap.get? a=some { cls:=.type "list", data:=.seq vs.toArray }) (ay:IntsAre vs ns) (au:ns.length<=sizeLine) (aq:dV k callerA)
  (F : ∀ base:Heap,K.In base->base.Ns mainGlobals mg->dU P w K mg base cp k gK fd [x] sp) (Si : ∀ (s:Shared) (u:Value),BindsTo s fd ⟨[u],[]⟩ [(x,u)])
  (eb : ∀ H:ah,BU H->a3 K H a (ns.map V.int)->sp [.ref a] H (λ v _=>v=.aJ true) λ _ _ _=>False)
  (AA : ∀ H e s',cp [] H s₁ (λ _ _ _=>False) e s'->False) :
  codeAny (model P w) callerA (.call (.ref gK) ⟨[.ref a],[]⟩) (λ r s'=>r=.ok (.ret (.bool true))/\OldK s₁.heap s'.heap/\s'.os=s₁.os/\AllBare s'.gens) s₁:=by
 have bR:=K1 ay;have RK:=ay.length;have core : ∀ H:ah,BU H->a3 K H a (ns.map V.int)->eo P w H s₁.heap->(∀ b,H b≠none->b=a)->(H a≠none->K.lookup a=none) ->
   codeAny (model P w) callerA (.call (.ref gK) ⟨[.ref a],[]⟩) (λ r s'=>r=.ok (.ret (.bool true))/\OldK s₁.heap s'.heap/\s'.os=s₁.os/\AllBare s'.gens) s₁:=by
  intro H wO c8 a6 lV dH;have Jd : ∀ {b:Addr} {o:Obj},s₁.heap.get? b=some o->H b=none->(oC s₁.heap H).get? b=some o:=λ e n=>V1 e n
  have u2 : ∀ {b:Addr} {o:Obj} {ao:Array DictEntry} {ep:Nat},s₁.heap.get? b=some o->o.data=.dict ao ep->H b=none:=λ {b o ao ep} e d=>by
   cases q:H b with
   | none=>rfl
   | some u =>
    have cU:b=a:=lV b (by rw [q];simp);subst cU;rw [aw] at e;cases e;have d':Data.seq vs.toArray _=Data.dict ao ep:=d;cases d'
  have xH : ∀ {b:Addr} {m:Str->Option Value},s₁.heap.Ns b m->(oC s₁.heap H).Ns b m:=λ {b m} ⟨o,ao,ep,e,d,r⟩=>⟨o,ao,ep,Jd e (u2 e d),d,r⟩
  have Gq:K.In (oC s₁.heap H):=λ b o e=>Jd (iS b o e) (by
   cases q:H b with
   | none=>rfl
   | some u =>
    have cU:b=a:=lV b (by rw [q];simp);subst cU;rw [dH (by rw [q];simp)] at e;cases e)
  have tW:Mod K mg (oC s₁.heap H):=⟨Gq,xH i4,⟨lj,xH J,O3⟩,let ⟨Nl,af,ai⟩:=Rv;⟨Nl,xH af,ai⟩⟩
  have bP:mf P w K mg (oC s₁.heap H) callerA [] s₁ H:=⟨rfl,tW,λ b o e=>Uz e,Nat.le_of_eq (Xv _ _),trivial,λ b J=>absurd (show b∈([]:List Addr) from J) (by simp),a6,.of_eq aI⟩
  refine codeAny_mono ((F _ Gq (xH i4)).run callerA [] s₁ H ⟨[.ref a],[]⟩ [.ref a] [.ref a] _ _ aq bP (Si s₁ (.ref a)) (.cons rfl .nil) (eb H wO c8)) λ r s' h=>?_
  cases r with
  | error e=>exact (AA H e s' h).elim
  | ok cW =>
   cases cW with
   | next=>exact False.elim h
   | brk=>exact False.elim h
   | cont=>exact False.elim h
   | ret u =>
    obtain ⟨v,H',os,bare,un,RA,bB,q⟩:=h;have aU:v=.aJ true:=q;subst aU;obtain rfl:u=Value.bool true:=bB;refine ⟨rfl,OldK.of_keep λ b o e=>?_,os,bare⟩;cases q:H b with
    | none=>exact un.keep b o e q (by intro z;exact absurd (show b∈([]:List Addr) from z) (by simp)) (by simp)
    | some u =>
     rcases wO b with z | ⟨b2,xs,z⟩
     ·rw [q] at z;cases z
     ·have e4:=un.jC b b2 _ z;obtain ⟨aO,_⟩:=a6 b _ z;obtain ⟨aQ,_⟩:=RA b _ e4;rw [e] at aO;cases aO;exact aQ
 cases aB:K.lookup a with
 | some o =>
  have e:=iS a o aB;rw [aw] at e;cases e;refine core (λ _=>none) (λ _=>.inl rfl) (.inr ⟨_,vs.toArray,_,aB,rfl,rfl,rfl,by rw [List.size_toArray,RK];exact au,by simpa using bR⟩) (λ b u z=>by have dR:(none:Option dG)=some u:=z;cases dR) (λ b z=>absurd rfl z) λ z=>absurd rfl z
 | none =>
  refine core (λ b=>if b=a then some (.fB { cls:=.type "list", data:=.seq vs.toArray } (.lst (ns.map V.int))) else none) (λ b=>?_) (.inl (.inr ⟨{ cls:=.type "list", data:=.seq vs.toArray },if_pos rfl⟩)) (λ b u z=>?_) (λ b z=>?_) λ _=>aB
  ·by_cases J:b=a
   ·exact .inr ⟨_,_,if_pos J⟩
   ·exact .inl (if_neg J)
  ·by_cases J:b=a
   ·have dR:=(if_pos J).symm.trans z;cases dR;subst J;exact ⟨aw,by rw [List.length_map];exact au,vs,_,bR,aw⟩
   ·have dR:=(if_neg J).symm.trans z;cases dR
  ·by_cases J:b=a
   ·exact J
   ·exact absurd (if_neg J) z
theorem Vt {l:PySem.W.OpenLaw} {n k:Nat} {q:Program} {loose:List Str} {rF:(Str->Option Value)->Heap->Prop} {o3:World->Heap->Prop} {d:DefRec} {K:Params->PySem.W.Frag} {cp:World->hL} {sp:World->bX} {x:Str}
  (aD:l.most=some n) (lC:n<=sizeLine) (uD:d.params.defaults=[]) (aq:dV k callerA)
  (zK : ∀ (w:World) (h:Heap),o3 w h->(K w.params).In h)
  (F : ∀ (w:World) (mg:Str->Option Value) (gK:Addr) (h:Heap),(K w.params).In h->h.Ns mainGlobals mg->mg d.name=some (.ref gK) ->
   ∃ fd:FuncData,(∀ (s:Shared) (u:Value),BindsTo s fd ⟨[u],[]⟩ [(x,u)]) /\
    ∀ base:Heap,(K w.params).In base->base.Ns mainGlobals mg->dU l.prog w (K w.params) mg base (cp w) k gK fd [x] (sp w))
  (eb : ∀ (w:World) (H:ah) (a:Addr) (ns:List Int),ns.length<=n->BU H->a3 (K w.params) H a (ns.map V.int)->sp w [.ref a] H (λ v _=>v=.aJ true) λ _ _ _=>False)
  (AA : ∀ (w:World) (H:ah) (s:Shared) (e:Value) (s':Shared),cp w [] H s (λ _ _ _=>False) e s'->False) :
  PySem.W.WalkO q loose rF o3 l.row.toRowW d [] (λ f vs=>PySem.call f vs):=by
 refine F7.ZM aD uD λ w s₀ s₁ mg lj gK o pm cd doc a vs ns G Y aG hd hN uL oD hints hlen aI=>?_
 have iS:=zK w _ Y;obtain ⟨fd,J,la⟩:=F w mg gK _ iS G.T.g uL;exact V_ iS G.T.g G.T.b G.T.builtins G.T.nolimit aI oD hints (Nat.le_trans hlen lC) aq la J (λ H wO c8=>eb w H a ns hlen wO c8) λ H e s'=>AA w H s₁ e s'
end bI
namespace bI
open PySem PySem.Spec PyProof.Rows
def kT (s:Stmt):Arguments:=match s with
 | .FunctionDef _ a _ _ _ _ _ _ _ _=>a
 | _=>{ posonlyargs:=[],args:=[],vararg:=none,kwonlyargs:=[],kw_defaults:=[],kwarg:=none,defaults:=[] }
def ip (s:Stmt):List Stmt:=match s with
 | .FunctionDef _ _ b _ _ _ _ _ _ _=>b
 | _=>[]
def bO (s:Stmt):Scope:=match s with
 | .FunctionDef _ _ _ _ _ _ sc _ _ _=>sc
 | _=>{ kind:=.function,names:=[],isGenerator:=false,isCoroutine:=false }
abbrev cD:hL:=λ _ _ _ _ _ _=>False
abbrev iu:dz:=λ _ _ _=>False
theorem bM {X:aP}:Passes cD X iu:=λ _ _ _ _ _ _ _ h=>h.elim
structure h3 (K:PySem.W.Frag) (x qual:Str) (st:Stmt) (f:Addr) (fd:FuncData):Prop where
 ex : ∃ (e1:Value) (bK:Option Addr) (cF doc pm:Value) (an:Option Addr) (ba cu:Value) (md:Array (Option Value)),
  fd=PySem.W.fnOf x qual (kT st) (ip st) (bO st) .none cF doc pm an ba cu/\K.lookup f=some ⟨e1,bK,.func fd,md⟩/\PySem.W.codeIn K ba qual=true
 a_:PySem.W.keepIn K (.ref f)=true
section
variable {P:Program} {w:World} {K:PySem.W.Frag} {mg:Str->Option Value} {base:Heap}
theorem h3.ok {x qual:Str} {st:Stmt} {f:Addr} {fd:FuncData} {N ag:List Str} {k:Nat} {sp:bX} (F:h3 K x qual st f fd) (S:cq N ag (bO st)) (len : ∀ vs H Q E,sp vs H Q E->vs.length=ag.length)
  (ml : ∀ (ba:Value) (A:Around) (outer:List Env) (s:Shared) (H:ah) (vs:List V) (Q:bz) (E:dz),dV k (A.deeper (envOfC qual (bO st) s.heap.objs.size f ba))->sp vs H Q E ->
   ∃ t,jX (j6 cD P w K mg base N qual (bO st) f ba A outer s H E).u3 (ip st) t/\t { bF:=λ _ H'=>Q .bg H',ji:=Q } (start N vs) H):dU P w K mg base cD (k+1) f fd ag sp:=by
 obtain ⟨e1,bK,cF,doc,pm,an,ba,cu,md,rfl,lk,hN⟩:=F.ex;refine Ib lk hN S len λ A outer s H vs Q E aq eb=>?_
 obtain ⟨t,h,q⟩:=ml ba A outer s H vs Q E aq eb;exact ⟨t,h.u3,q⟩
theorem h3.binds {x qual:Str} {st:Stmt} {f:Addr} {fd:FuncData} {ag:List Str} (F:h3 K x qual st f fd)
  (h : ∀ (cF doc pm:Value) (an:Option Addr) (ba cu:Value) (us:List Value),us.length=ag.length->bindArgs (PySem.W.fnOf x qual (kT st) (ip st) (bO st) .none cF doc pm an ba cu) ⟨us,[]⟩=pure (ag.zip us)):Binds K fd ag []:=by
 obtain ⟨e1,bK,cF,doc,pm,an,ba,cu,md,rfl,lk,hN⟩:=F.ex;exact .all (h cF doc pm an ba cu)
theorem CB {x qual:Str} {st:Stmt} {f:Addr} {e1:Value} {bK an:Option Addr} {md:Array (Option Value)} {cF doc pm ba cu:Value} (l:K.lookup f=some ⟨e1,bK,.func (PySem.W.fnOf x qual (kT st) (ip st) (bO st) .none cF doc pm an ba cu),md⟩)
  (c:PySem.W.codeIn K ba qual=true) (k:PySem.W.keepIn K (.ref f)=true):h3 K x qual st f (PySem.W.fnOf x qual (kT st) (ip st) (bO st) .none cF doc pm an ba cu):=⟨⟨e1,bK,cF,doc,pm,an,ba,cu,md,rfl,l,c⟩,k⟩
end
theorem mm {A:Around} {k:Nat} (aq:dV k A):A.units+1<cLine:=Nat.lt_of_le_of_lt (Nat.add_le_add_left (by decide:1<=64) _) aq.units
section
variable {X:aP}
theorem o_ (i:Nat) {x:Str} {pos:Pos} (di:X.N[i]?=some x:=by rfl) (bf:w9 X.env.scope x:=by first | exact Or.inl rfl | exact Or.inr (Or.inl rfl) | exact Or.inr (Or.inr rfl)) (hd:(x == ("__debug__" : Str))=false:=by decide)
  (hN:(x == ("__classdict__" : Str))=false:=by decide):b9 X (.Name x pos) (yc i):=Tx di bf hd hN
end
theorem bx {A B:Prop} (h:B):if false=true then A else B:=by
 rw [if_neg Bool.false_ne_true];exact h
theorem cm {A B:Prop} (h:A):if true=true then A else B:=by
 rw [if_pos rfl];exact h
theorem eu {c A B:Prop} [Decidable c] (af:c->A) (ai : ¬ c->B):if c then A else B:=by
 by_cases h:c
 ·rw [if_pos h];exact af h
 ·rw [if_neg h];exact ai h
theorem So {c A B:Prop} [Decidable c] (aj:c) (h:B):if (!decide c)=true then A else B:=by
 rw [decide_eq_true aj];exact bx h
def aC (H H':ah):Prop := ∀ b o,H b=some o->H' b=some o
theorem aC.refl (H:ah):aC H H:=λ _ _ h=>h
theorem aC.trans {H H1 ar:ah} (a:aC H H1) (b:aC H1 ar):aC H ar:=λ c o h=>b c o (a c o h)
theorem aC.free {H H':ah} (e:aC H H') {l:Addr} (h:H' l=Option.none):H l=Option.none:=by
 cases q:H l with
 | none=>rfl
 | some o =>
  rw [e l o q] at h;cases h
def R0 (K:PySem.W.Frag):List V->ah->bz->Prop:=λ xs H Q => ∃ x T t b,xs=[x,.ty T]/\ie K H x t/\PySem.W.kitOne K t (.type T)=some b/\Q (.aJ b) H
section
variable {X:aP}
theorem d8:e7 X (.builtin "isinstance") (R0 X.K):=by
 intro pins s σ H xs us Q I r h;obtain ⟨x,T,t,b,rfl,ty,e,q⟩:=h;obtain ⟨u,cO,rfl,a5,Nx⟩:=vals2 r;cases (show cO=Value.type T from Nx);exact Xw I a5 ty e λ bw=>⟨.aJ b,H,I.tok _,rfl,q⟩
theorem yM : ∀ {bs:List Bool} {us:List Value},Vals (bs.map V.aJ) us->us=bs.map Value.bool
 | [],_,r=>by rw [List.map_nil] at r;cases r;rfl
 | b::bs,_,r=>by
  rw [List.map_cons] at r;cases r with
  | cons bq b5 =>
   cases (show _=Value.bool b from bq);rw [yM b5];rfl
theorem all_range (bs:List Bool):((List.range bs.length).all λ i=>bs.getD i true)=bs.all id:=by
 rw [Bool.eq_iff_iff,List.all_eq_true,List.all_eq_true];constructor
 ·intro h b J;obtain ⟨i,ay,rfl⟩:=List.getElem_of_mem J;have:=h i (List.mem_range.mpr ay);rw [List.getD_eq_getElem?_getD,List.getElem?_eq_getElem ay] at this;exact this
 ·intro h i ay;have uI:=List.mem_range.mp ay;rw [List.getD_eq_getElem?_getD,List.getElem?_eq_getElem uI];exact h _ (List.getElem_mem uI)
theorem oT (aj:X.calm=true):e7 X (.builtin "all") (λ xs H Q => ∃ (p:Addr) (bs:List Bool),xs=[.ref p]/\a3 X.K H p (bs.map V.aJ)/\Q (.aJ (bs.all id)) H):=by
 intro pins s σ H xs us Q I r h;obtain ⟨p,bs,rfl,aS,q⟩:=h;obtain ⟨u,rfl,eI⟩:=vals1 r;cases eI;obtain ⟨its,bR,pl,a9⟩:=I.list aS;have mE:=yM bR;subst mE;have ax:p<s.heap.objs.size:=by obtain ⟨_,_,e,_⟩:=pl;exact Heap.lt_size e
 have hd:X.A.in1.handled=none:=I.ok.hd.1 aj;refine call_all_walk (wpAny_pyIter_list pl.isList ?_);refine ⟨s.heap.objs.size,_,_,_,_,_,(λ i=>bs.getD i true),rfl,Walks.list hd s.heap.objs.size p (Nat.ne_of_lt ax) (bs.map Value.bool).toArray,⟨⟨_,Heap.get?_push_size _ rfl,rfl,rfl⟩,pl.isList.push _⟩,?_,?_⟩
 ·intro i v s' tO lR bf gf;have qL:(bs.map Value.bool)[i]?=some v:=by simpa using bf
  rw [List.getElem?_map] at qL;cases e:bs[i]? with
  | none=>rw [e] at qL;cases qL
  | some b =>
   rw [e] at qL;cases qL;have Gr:tO (bs.getD i true) s':=gf;rw [List.getD_eq_getElem?_getD,e] at Gr;exact wpAny_truthy_bool Gr
 ·intro h' bw aB;refine ⟨.aJ (bs.all id),H,I.kept λ b o e=>aB b o ?_ (Heap.get?_push_of_some _ e),?_,q⟩
  ·intro z;rw [List.mem_singleton.mp z] at e;exact absurd (Heap.lt_size e) (Nat.lt_irrefl _)
  ·show Value.bool _=Value.bool _;rw [<-all_range bs];simp
def Vf:V->List V->ah->bz->Prop:=λ x vs H Q => ∃ l xs i y,x=.ref l/\vs=[.int i,y]/\H l=some (.lst xs)/\0<=i/\i<2 ^ 63/\xs.length<sizeLine /\
 Q .bg (upd H l (.lst (xs.take (min i.toNat xs.length)++y::xs.drop (min i.toNat xs.length))))
theorem Y7 (its:List Value) (k:Nat) (u:Value):(its.toArray.extract 0 k).push u++its.toArray.extract k=(its.take k++u::its.drop k).toArray:=by
 apply Array.toList_inj.mp;simp;exact List.take_of_length_le (by simp)
theorem XP:n0 X "list.insert" Vf:=by
 intro pins s σ H x vs v us Q I a5 bR h;obtain ⟨l,xs,i,y,rfl,rfl,g6,h0,af,a9,q⟩:=h;cases a5;obtain ⟨ab8,hI,rfl,⟨t,rfl⟩,br⟩:=vals2 bR;obtain ⟨z,its,n,r,au,e⟩:=I.iH g6;have B1 : ¬ (!Builtin.List.listFitsIndex i)=true:=by
  rw [fitsIndex_both (by omega) af];exact Bool.false_ne_true
 refine call_meets F.slot_list_insert ⟨_,e,rfl⟩ F.entry_list_insert (F.args_list_insert_3 _ _ _) (AutoListH.list_insert_list_int_val_1 l its.toArray n i t hI B1 (by rw [List.size_toArray];omega)) ⟨e,?_⟩;refine ⟨.bg,_,I.B9 (its':=its.take (min i.toNat xs.length)++hI::its.drop (min i.toNat xs.length)) g6 e ?_ ((r.take _).append (.cons br (r.drop _))) ?_,rfl,q⟩
 ·have aB:(if i<0 then (i+((its.toArray.size:Nat):Int)).toNat else min i.toNat its.toArray.size)=min i.toNat xs.length:=by
   rw [if_neg (by omega),List.size_toArray,au]
  show ((its.toArray.extract 0 (if i<0 then (i+((its.toArray.size:Nat):Int)).toNat else min i.toNat its.toArray.size)).push hI++its.toArray.extract (if i<0 then (i+((its.toArray.size:Nat):Int)).toNat else min i.toNat its.toArray.size))=_;rw [aB,Y7]
 ·simp only [List.length_append,List.length_take,List.length_cons,List.length_drop];omega
def Cu (K:PySem.W.Frag):e_:=λ x y H Q => ∃ a b ys,x=.ref a/\y=.ref b/\aR K H a []/\aR K H b ys/\Q (.ref b) H
theorem UB:dD X (binaryOp .Add) (Cu X.K):=by
 intro pins s σ H x y v u Q I a5 br h;obtain ⟨a,b,ys,rfl,rfl,aw,J,q⟩:=h;cases a5;cases br;obtain ⟨its,bq,e2,_⟩:=I.tuple aw;obtain ⟨vu,b5,gh,_⟩:=I.tuple J;cases bq;obtain ⟨⟨hB,iT,f1,cQ⟩,g1,k1,cc,b0⟩:=id e2;obtain ⟨⟨k7,o5,f2,e0⟩,g2,k2,c0,b4⟩:=id gh;simp only at k1 b0 k2 b4;subst k1 b0 k2 b4;exact concat_meets ⟨_,g1,rfl⟩ ⟨_,g2,rfl⟩ noFill_tuple_add seq_tuple_add PySem.F.slot_tuple_add PySem.F.entry_tuple_add (PySem.F.args_tuple_add_2 _ _) (tuple_addW0 a b #[] vu.toArray cc c0 iT o5 cQ e0 rfl) ⟨g1,g2,⟨.ref b,H,I,rfl,q⟩⟩
theorem UA:dD X (binaryOp .Add) (λ x y H Q=>Cu X.K x y H Q\/Cv X.K x y H Q):=UB.or UC
end
def pick (js:List (Option Nat)) (σ:St):St:=js.map λ o=>o.bind λ j=>(σ[j]?).join
theorem J5 {js:List (Option Nat)} {σ:St} {i:Nat} {v:V} (h:(pick js σ)[i]?=some (some v)) : ∃ j,js[i]?=some (some j)/\σ[j]?=some (some v):=by
 unfold pick at h;rw [List.getElem?_map] at h;cases e:js[i]? with
 | none=>rw [e] at h;cases h
 | some o =>
  rw [e] at h;have h':(o.bind λ j=>(σ[j]?).join)=some v:=Option.some.inj h;cases o with
  | none=>cases h'
  | some j =>
   refine ⟨j,rfl,?_⟩;have ai:(σ[j]?).join=some v:=h';cases aQ:σ[j]? with
   | none=>rw [aQ] at ai;cases ai
   | some q =>
    rw [aQ] at ai;have aF:q=some v:=ai;rw [aF]
structure sN (X:aP) (scope:Scope) (cl:List (Str×Addr)) (N:List Str) (js:List (Option Nat)):Prop where
 sA:closureFor scope X.env=pure cl
 IP : ∀ y∈scope.names,y.2≠.cell
 kind:scope.kind=.function
 names : ∀ y∈scope.names,y.2=.local->scope.names.lookup y.1=some .local
 sub : ∀ x c,cl.lookup x=some c->X.env.cells.lookup x=some c
 has : ∀ x,((relabel scope X.env).names.lookup x=some .cell\/(relabel scope X.env).names.lookup x=some .free) -> ∃ c,cl.lookup x=some c
 len:js.length=N.length
 seen : ∀ (i j:Nat) (x:Str),N[i]?=some x->js[i]?=some (some j)->X.N[j]?=some x/\X.env.scope.names.lookup x=some .cell/\((relabel scope X.env).names.lookup x=some .cell\/(relabel scope X.env).names.lookup x=some .free)
abbrev e8 (X:aP) (scope:Scope) (cl:List (Str×Addr)) (N:List Str) (bo:List Addr) (pins:List (Addr×Obj)) (s:Shared) (H:ah) (E:Value->Shared->Prop):aP :=
 { X with N:=N,s₀:=s,H₀:=H,env:=compEnvC scope cl s.heap.objs.size X.env,outer:=X.stack,ex:=bo,fn:=λ _=>false,jR:=X.jR++pins,cP:=E }
def iI (b1:g4) (D:Addr) (js:List (Option Nat)) (g:eG) (c_:TT) (bh:TE) (σ:St) (H1:ah) (Q:bz):Prop :=
 ∃ W:Nat->Nat->St->ah->List V->Prop,(∃ m,W 0 m (pick js σ) (upd H1 D (.lst [])) []) /\ ∀ i m σ' H' ys,W i m σ' H' ys->H' D=some (.lst ys) /\
  ((b1.stop i H'/\Q (.ref D) H')\/(b1.go i H'/\ys.length<sizeLine /\ ∃ N:St->ah->List V->Prop,(∀ σ2 ar zs,N σ2 ar zs -> ∃ cJ,cJ<m/\W (i+1) cJ σ2 ar zs) /\ ∀ x ar,b1.j5 i H' x ar->g x σ' ar λ σ2 aK=>c_ σ2 aK λ k bt =>
   if k=true then bh σ2 bt λ y bc=>bc D=some (.lst ys)/\N σ2 (upd bc D (.lst (ys++[y]))) (ys++[y]) else bt D=some (.lst ys)/\N σ2 bt ys))
def yq (js:List (Option Nat)) (fq:TI) (g:eG) (c_:TT) (bh:TE):TE:=λ σ H Q=>fq σ H λ b1 H1 => ∀ D,H1 D=none->iI b1 D js g c_ bh σ H1 Q
theorem C4 {b1:g4} {n:Nat} {D:Addr} {js:List (Option Nat)} {g:eG} {c_:TT} {bh:TE} {σ:St} {H1:ah} {Q:bz} (aD:n<=sizeLine) (Pv:Nat->St->ah->List V->Prop) (h0:Pv 0 (pick js σ) (upd H1 D (.lst [])) [])
  (ax : ∀ i σ' H' ys,i<=n->Pv i σ' H' ys->H' D=some (.lst ys)/\ys.length<=i) (ks : ∀ i σ' H' ys,i<n->Pv i σ' H' ys->b1.go i H') (cB : ∀ σ' H' ys,Pv n σ' H' ys->b1.stop n H'/\Q (.ref D) H')
  (az : ∀ i σ' H' ys x ar,i<n->Pv i σ' H' ys->b1.j5 i H' x ar->g x σ' ar λ σ2 aK=>c_ σ2 aK λ k bt =>
   if k=true then bh σ2 bt λ y bc=>bc D=some (.lst ys)/\Pv (i+1) σ2 (upd bc D (.lst (ys++[y]))) (ys++[y]) else bt D=some (.lst ys)/\Pv (i+1) σ2 bt ys) :
  ∃ W:Nat->Nat->St->ah->List V->Prop,(∃ m,W 0 m (pick js σ) (upd H1 D (.lst [])) []) /\ ∀ i m σ' H' ys,W i m σ' H' ys->H' D=some (.lst ys) /\
   ((b1.stop i H'/\Q (.ref D) H')\/(b1.go i H'/\ys.length<sizeLine /\ ∃ N:St->ah->List V->Prop,(∀ σ2 ar zs,N σ2 ar zs -> ∃ cJ,cJ<m/\W (i+1) cJ σ2 ar zs) /\ ∀ x ar,b1.j5 i H' x ar->g x σ' ar λ σ2 aK=>c_ σ2 aK λ k bt =>
    if k=true then bh σ2 bt λ y bc=>bc D=some (.lst ys)/\N σ2 (upd bc D (.lst (ys++[y]))) (ys++[y]) else bt D=some (.lst ys)/\N σ2 bt ys)):=by
 refine ⟨λ i m σ' H' ys=>m=n - i/\i<=n/\Pv i σ' H' ys,⟨n,rfl,Nat.zero_le _,h0⟩,?_⟩;rintro i m σ' H' ys ⟨rfl,ay,p⟩;obtain ⟨a4,aN⟩:=ax i σ' H' ys ay p;refine ⟨a4,?_⟩;by_cases dE:i<n
 ·exact .inr ⟨ks i σ' H' ys dE p,by omega,Pv (i+1),λ σ2 ar zs hD=>⟨n - (i+1),by omega,rfl,dE,hD⟩,λ x ar y=>az i σ' H' ys x ar dE p y⟩
 ·have e:i=n:=by omega
  subst e;exact .inl (cB σ' H' ys p)
def ue (X:aP) (cs:List Expr) (t:TT):Prop :=
 ∀ (pins:List (Addr×Obj)) (s:Shared) (σ:St) (H:ah) (Q:Bool->ah->Prop),Inv X pins σ H s->t σ H Q ->
  wpAny (model X.prog X.w) X.A (forIn cs true λ c r=>if r=true then do let ok ← isTrue c X.env (eval c X.env);pure (ForInStep.yield ok) else pure (ForInStep.yield r)) (zA X pins σ Q) X.cP s
def kc:TT:=λ _ H Q=>Q true H
theorem U1 {X:aP}:ue X [] kc:=λ _ _ _ H _ I h=>wpAny_tests_nil ⟨H,I,h⟩
theorem U2 {X:aP} {c:Expr} {t:TT} (aj:kg X c t):ue X [c] t:=λ pins s σ H Q I h=>wpAny_tests_one (aj pins s σ H Q I h)
section
variable {prog:Program} {w:World} {A:Around} {R:Result->Shared->Prop} {s:Shared}
theorem Jp {elt bb iter:Expr} {cs:List Expr} {scope:Scope} {pos:Pos} {it acc:Value} {env:Env} (b1:Nat->Shared->Prop)
  (turn : ∀ n s',b1 n s'->wpAny (model prog w) A (pyNext it) (λ r t1=>match r with
   | none=>R (.ok .next) t1
   | some v=>wpAny (model prog w) A (letOwnedTupleGo bb it v) (λ _ aT=>wpAny (model prog w) A (assign bb env v) (λ _ t3 =>
     wpAny (model prog w) A (forIn cs true λ c r=>if r=true then do let ok ← isTrue c env (eval c env);pure (ForInStep.yield ok) else pure (ForInStep.yield r)) (λ ok z1 =>
      if ok=true then wpAny (model prog w) A (eval elt env) (λ x F3=>wpAny (model prog w) A (call (.builtin "list.append") [acc,x]) (λ _ l0 => ∃ m,m<n/\b1 m l0)
       (notedBy (model prog w) A env λ e iE=>R (.error e) iE) F3) (notedBy (model prog w) A env λ e iE=>R (.error e) iE) z1
      else ∃ m,m<n/\b1 m z1) (notedBy (model prog w) A env λ e iE=>R (.error e) iE) t3) (notedBy (model prog w) A env λ e iE=>R (.error e) iE) aT) (notedBy (model prog w) A env λ e iE=>R (.error e) iE) t1)
    (notedBy (model prog w) A env λ e iE=>R (.error e) iE) s')
  (n:Nat) (h:b1 n s):codeAny (model prog w) A (.compLoop (.ListComp elt [⟨bb,iter,cs,0⟩] scope pos) 0 it acc env) R s:=by
 refine codeAny_loop rfl b1 (λ n s' Na=>?_) n h;show wpAny _ A ((compTurn (.ListComp elt [⟨bb,iter,cs,0⟩] scope pos) 0 it acc env).onRaise (λ z=>do noteFrame z env;theTreesLotGoes z)) _ _ s';refine wpAny_noted ?_;rw [compTurn_list];refine wpAny_bind (wpAny_standAt (wpAny_bind (bj (turn n s' Na) λ r t1 k1=>?_)));cases r with
 | none=>exact wpAny_pure k1
 | some v =>
  refine wpAny_bind (bj k1 λ _ aT k2=>wpAny_bind (bj k2 λ _ t3 k3=>wpAny_bind (bj k3 λ ok z1 mF=>?_)));cases ok with
  | false=>exact wpAny_pure ⟨rfl,mF⟩
  | true=>exact wpAny_bind (wpAny_bind (bj mF λ x F3 k5=>wpAny_bind (bj k5 λ _ l0 zN=>wpAny_pure (wpAny_pure ⟨rfl,zN⟩))))
end
theorem j7 {M:Model} {A:Around} {α : Type} {t:Sem α} {Q : α -> Shared->Prop} {E lR:Value->Shared->Prop} {s:Shared} (fL : ∀ e s',E e s'->False) (h:wpAny M A t Q E s):wpAny M A t Q lR s:=wpAny_mono h (λ _ _ q=>q) λ e s' z=>(fL e s' z).elim
theorem UI {X:aP} {elt bb iter:Expr} {cs:List Expr} {scope:Scope} {pos:Pos} {cl:List (Str×Addr)} {N:List Str} {js:List (Option Nat)} {fq:TI} {g:eG} {c_:TT} {bh:TE}
  (C:sN X scope cl N js) (aj:X.warm=true) (ay:k4 X bb iter fq)
  (aI : ∀ bo pins s H,nF (e8 X scope cl N bo pins s H λ _ _=>False) bb g)
  (aW : ∀ bo pins s H,ue (e8 X scope cl N bo pins s H λ _ _=>False) cs c_)
  (he : ∀ bo pins s H,b9 (e8 X scope cl N bo pins s H λ _ _=>False) elt bh)
  (az : ∀ x,foldedSetIterable iter X.env x=pure x:=by intro _;rfl):b9 X (.ListComp elt [⟨bb,iter,cs,0⟩] scope pos) (yq js fq g c_ bh):=by
 intro pins s σ H Q I h;rw [eval_ListComp];refine wpAny_comprehension_free (use:=none) rfl az C.sA C.kind C.names (bj (ay pins s σ H _ I h) λ NM s1 af=>bj af λ xB s2 ai=>?_);obtain ⟨it,bo,gN,b1,ar,e,bS,T,ov,f2,ai⟩:=ai;subst e;obtain ⟨W,⟨m0,h2⟩,turn⟩:=ai s2.heap.objs.size bS.fresh;refine wpAny_newObj_type (wpAny_newFunctionEnv C.IP (by intro y aN;simp at aN) (λ aX qR qU=>?_) C.kind);have b_:Inv X pins σ (upd ar s2.heap.objs.size (.lst [])) { s2 with heap:=s2.heap.push { cls:=.type "list", data:=.seq ([]:List Value).toArray } }:=bS.x8 (t':=s2.toks) (its:=[]) .nil (Nat.zero_le _);dsimp only at qR qU ⊢;generalize el:({ s2 with heap:=s2.heap.push { cls:=.type "list", data:=.seq ([]:List Value).toArray } }:Shared)=s3 at b_;have qp:s2.heap.push { cls:=.type "list", data:=.seq ([]:List Value).toArray }=s3.heap:=by rw [<-el]
 have NZ:s2.gens=s3.gens:=by rw [<-el]
 have N0:s2.os=s3.os:=by rw [<-el]
 rw [qp] at qR qU ⊢;generalize k8:upd ar s2.heap.objs.size (.lst [])=aK at b_ h2;have a4:s2.heap.objs.size<s3.heap.objs.size:=by rw [<-qp,Heap.size_push];exact Nat.lt_succ_self _
 have vc : ∀ b o,s2.heap.get? b=some o->s3.heap.get? b=some o:=λ b o q=>by rw [<-qp];exact Heap.get?_push_of_some _ q
 have kB : ∀ b o,s3.heap.get? b=some o->aX.get? b=some o:=λ b o q=>qU.extBut b o (Nat.ne_of_lt (Heap.lt_size q)) (Heap.get?_push_of_some _ q)
 have um : ∀ b∈bo,b<s3.heap.objs.size:=λ b J=>by
  obtain ⟨o,en,_⟩:=T.obj 0 _ ov b J;exact Heap.lt_size (vc b o en)
 have fst : ∀ b∈bo,b∉ff X.stack:=λ b J z=>by
  rcases List.mem_cons.mp (b_.oO b z) with q | q
  ·exact (f2 b J).2.1 q
  ·exact (f2 b J).2.2.1 q
 have BC:(e8 X scope cl N bo pins s3 aK λ _ _=>False).Ok:=by
  refine ⟨I.ok.mod,C.kind,I.ok.glob,I.ok.blt,Nat.le_refl _,λ x y c a7 bV=>I.ok.inj x y c (C.sub _ _ a7) (C.sub _ _ bV),C.has,λ x c z=>absurd z Bool.false_ne_true,⟨I.ok.hd.1,λ hw=>b_.AM hw λ b J=>(f2 b J).2.2.2.1⟩,I.ok.frames,.inl rfl,λ b J=>⟨Nat.ne_of_lt (um b J),λ x c q=>(f2 b J).2.2.2.2.1 x c (C.sub _ _ q)⟩,
   b_.bs,Nat.le_trans I.ok.h6 b_.jU,λ b o q J=>?_,fst,b_.stack,b_.sZ⟩
  rcases (f2 b J).2.2.2.1 with z | z
  ·exact I.ok.mj b o q z
  ·exact absurd (Nat.lt_of_lt_of_le (Heap.lt_size q) (Nat.le_trans I.ok.h6 z)) (Nat.lt_irrefl _)
 have cV:Inv (e8 X scope cl N bo pins s3 aK λ _ _=>False) [] (pick js σ) aK { s3 with heap:=aX,toks:=s3.toks+([]:List (Str×Value)).length }:=by
  refine ⟨BC,rfl,b_.bare,fk.kept kB,⟨_,qR,λ i x v a7 bV ea=>?_⟩,λ x c q=>?_,b_.a6.fresh (Nat.le_refl _),λ x c q=>b_.gV x c (C.sub _ _ q),λ p ax=>?_,b_.a6.kept kB,?_⟩
  ·obtain ⟨j,k1,k2⟩:=J5 bV;obtain ⟨fs,e4,iZ⟩:=C.seen i j x a7 k1;obtain ⟨m,aD,au⟩:=b_.loc;obtain ⟨u,eI,lk⟩:=au j x v fs k2 (.inr (.inl e4));refine ⟨u,eI,.inr ⟨iZ,?_⟩⟩;rcases lk with ⟨k,_⟩ | ⟨_,c,dX,e1,mR,qy⟩
   ·have fa:X.env.scope.names.lookup x=some .local:=k;rw [e4] at fa;cases fa
   ·obtain ⟨cN,uj⟩:=C.has x iZ;have:=C.sub _ _ uj;rw [dX] at this;cases this;exact ⟨c,uj,e1,kB _ _ mR,qy⟩
  ·obtain ⟨v,e1,mR,qy⟩:=b_.cell x c (C.sub _ _ q);exact ⟨v,e1,kB _ _ mR,qy⟩
  ·have mS:p∈X.jR++pins:=by simpa using ax
   obtain ⟨a7,bV,ea,jS,nX⟩:=b_.pin p mS;refine ⟨kB _ _ a7,bV,Nat.ne_of_lt (Heap.lt_size a7),λ z=>?_,nX⟩;rcases List.mem_cons.mp (b_.oO _ z) with q | q
   ·exact ea q
   ·exact jS q
  ·show (pick js σ).length=N.length;unfold pick;rw [List.length_map,C.len]
 have stat : ∀ {H':ah},(∀ b∈bo,H' b=none) -> ∀ b∈bo,mh (e8 X scope cl N bo pins s3 aK λ _ _=>False) [] H' b:=λ aD b J =>
  ⟨aD b J,Nat.ne_of_lt (um b J),fst b J,.inl J,λ x c q=>(f2 b J).2.2.2.2.1 x c (C.sub _ _ q),λ p ax=>(f2 b J).2.2.2.2.2 p (by simpa using ax)⟩
 have vb:gN 0 aX:=T.keep 0 _ _ ov λ b J o q=>kB b o (vc b o q)
 have bF : ∀ e s',(e8 X scope cl N bo pins s3 aK λ _ _=>False).cP e s'->False:=λ _ _ z=>z
 have loop:codeAny (model X.prog X.w) X.A (.compLoop (.ListComp elt [⟨bb,iter,cs,0⟩] scope pos) 0 (.ref it) (.ref s2.heap.objs.size) (compEnvC scope cl s3.heap.objs.size X.env))
   (compPost (model X.prog X.w) X.A X.cP none (f_ X pins σ Q) (.ref s2.heap.objs.size) s3.heap.objs.size) { s3 with heap:=aX,toks:=s3.toks+([]:List (Str×Value)).length }:=by
  refine Jp (λ n s' => ∃ i σ' H' ys,Inv (e8 X scope cl N bo pins s3 aK λ _ _=>False) [] σ' H' s'/\gN i s'.heap/\(∀ b∈bo,H' b=none)/\W i n σ' H' ys) ?_ m0 ⟨0,_,aK,[],cV,vb,λ b J=>?_,h2⟩
  ·rintro n s5 ⟨i,σ5,bt,ys,je,ow,qs,z_⟩;obtain ⟨OQ,way⟩:=turn i n σ5 bt ys z_;rcases way with ⟨stop,qf⟩ | ⟨go,a9,tM,di,step⟩
   ·refine j7 bF (bj (T.done (e8 X scope cl N bo pins s3 aK λ _ _=>False) rfl rfl rfl rfl aj i [] s5 σ5 bt _ je (stat qs) ow stop) λ r bL ⟨aq,d9⟩=>?_);subst aq;obtain ⟨m,aD,_⟩:=d9.loc;refine ⟨m,aD,λ h' cR=>⟨.ref s2.heap.objs.size,bt,?_,rfl,qf⟩⟩;have low : ∀ b o,s3.heap.get? b=some o->b≠s3.heap.objs.size:=λ b o q=>Nat.ne_of_lt (Heap.lt_size q)
    have same : ∀ b,b≠s3.heap.objs.size->h'.get? b=bL.heap.get? b:=λ b J=>cR.2 b J
    have B:=d9.base;refine b_.yg (s':={ bL with heap:=h' }) (H':=bt) (ch:=bo) d9.os ⟨λ b o q gL af ai=>?_,λ b o q gL af ai=>?_,B.free,λ b o q ai=>?_,B.j9,B.jC,B.j8⟩ (λ a o q=>?_) d9.bare (λ b J=>⟨(f2 b J).2.2.2.1,(f2 b J).2.1,(f2 b J).2.2.2.2.1,(f2 b J).2.2.2.2.2⟩)
    ·exact (same b (low b o q)).trans (B.keep b o q gL af ai)
    ·obtain ⟨cA,z⟩:=B.slot b o q gL af ai;exact ⟨cA,(same b (low b o q)).trans z⟩
    ·obtain ⟨eH,z⟩:=B.there b o q ai;exact ⟨eH,(same b (low b o q)).trans z⟩
    ·have qd : ∀ c u,bt c=some u->c≠s3.heap.objs.size:=λ c u z y=>by
      have:=d9.free;rw [y] at z;rw [show bt s3.heap.objs.size=none from this] at z;cases z
     refine (d9.a6 a o q).ih (λ c u n4 z=>(same c ?_).trans z) (λ _ z=>z) λ _ _ z=>z
     rcases n4 with dR | dR
     ·rw [dR];exact qd a o q
     ·exact qd c _ dR
   ·refine j7 bF (bj (T.item (e8 X scope cl N bo pins s3 aK λ _ _=>False) rfl rfl rfl rfl aj i [] s5 σ5 bt _ je (stat qs) ow go) λ r bL ⟨u,aq,dn⟩=>?_);subst aq;refine j7 bF (bj dn λ _ cC ⟨x,cT,iv,rO,Ag,qV,Aw⟩=>?_);have Ai:=iv.pinned (stat Aw) (T.obj _ _ qV);refine j7 bF (bj (aI bo pins s3 aK _ cC σ5 cT x u _ Ai rO (step x cT Ag)) λ _ cH ⟨σ8,e9,tJ,zS⟩=>?_);refine j7 bF (bj (aW bo pins s3 aK _ cH σ8 e9 _ tJ zS) λ k eC ⟨fX,tK,nY⟩=>?_);have fin : ∀ {s':Shared} {σ':St} {H':ah} {kC:List V},Inv (e8 X scope cl N bo pins s3 aK λ _ _=>False) ([]++sQ bo cC.heap) σ' H' s'->tM σ' H' kC ->
      ∃ cJ,cJ<n /\ ∃ i σ' H' ys,Inv (e8 X scope cl N bo pins s3 aK λ _ _=>False) [] σ' H' s'/\gN i s'.heap/\(∀ b∈bo,H' b=none)/\W i cJ σ' H' ys:=λ {s' σ' H' kC} p4 zP=>by
     obtain ⟨cJ,hm,wv⟩:=di σ' H' kC zP;refine ⟨cJ,hm,i+1,σ',H',kC,p4.v5,T.keep _ _ _ qV λ b J o q=>(p4.pin (b,o) (List.mem_append_right _ (List.mem_append_right _ (tq J q)))).1,λ b J=>?_,wv⟩;obtain ⟨o,q,_⟩:=T.obj _ _ qV b J;exact (p4.pin (b,o) (List.mem_append_right _ (List.mem_append_right _ (tq J q)))).2.1
    cases k with
    | false =>
     rw [if_neg Bool.false_ne_true] at nY ⊢;exact fin tK nY.2
    | true =>
     rw [if_pos rfl] at nY ⊢;refine j7 bF (bj (he bo pins s3 aK _ eC σ8 fX _ tK nY) λ y gM ⟨jl,ke,zw,zV,AB,zT⟩=>?_);refine j7 bF (bj (y2 _ gM σ8 ke (.ref s2.heap.objs.size) [jl] _ [y] (λ _ kY=>tM σ8 kY (ys++[jl])) zw rfl (.cons zV .nil) ⟨_,ys,jl,rfl,rfl,AB,a9,zT⟩) λ _ sB ⟨_,kY,zx,_,zU⟩=>?_);exact fin zx zU
  ·rw [<-k8,a8]
   ·exact (f2 b J).1
   ·obtain ⟨o,en,_⟩:=T.obj 0 _ ov b J;exact Nat.ne_of_lt (Heap.lt_size en)
 have goal:codeAny (model X.prog X.w) X.A (.compStart (.ListComp elt [⟨bb,iter,cs,0⟩] scope pos) 0 (.ref it) (.ref s2.heap.objs.size) (compEnvC scope cl s3.heap.objs.size X.env))
   (compPost (model X.prog X.w) X.A X.cP none (f_ X pins σ Q) (.ref s2.heap.objs.size) s3.heap.objs.size) { s3 with heap:=aX,toks:=s3.toks+([]:List (Str×Value)).length } :=
  codeAny_compStart_list loop (T.self _ 0 _ _ _ vb loop)
 subst el;exact goal
end bI
namespace rG
open PySem PyProof.Rows
theorem yJ (t:Addr) : ¬ ((Value.ref t == Value.none)=true):=Bool.false_ne_true
section
variable {prog:Program} {w:World} {A:Around} {E:Value->Shared->Prop} {s:Shared}
theorem pull {j t:Addr} {k:Nat} {vs:Array Value} {x:Value} {Q:Value->Shared->Prop} (a:s.heap.IsTupleIter j t k) (b:s.heap.IsTuple t vs) (c:vs[k]?=some x)
  (q : ∀ g,g.IsTupleIter j t (k+1)->Heap.SameBut j s.heap g->Q x { s with heap:=g }):wpAny (model prog w) A (Builtin.SmallTypes.nextOf (.ref j)) Q E s:=by
 obtain ⟨Nr,rK,MV,p7⟩:=id a;obtain ⟨Nt,gt,_,ab7,MX⟩:=b;unfold Builtin.SmallTypes.nextOf;refine wpAny_bind (wpAny_callSpecial?_slot (name:=Str.ofString "__next__") a.typeIs F.slot_tuple_iterator_next (wpAny_call_entry F.slot_tuple_iterator_next a.typeIs F.entry_tuple_iterator_next ?_ (F.args_tuple_iterator_next_1 _)));show wpAny _ _ (field (.ref j) 0>>=_) _ _ s;refine wpAny_bind (wpAny_field rK p7 (x:=.ref t) rfl ?_);show wpAny _ _ (ite ((Value.ref t == Value.none)=true) _ _) _ _ s;rw [if_neg (yJ t)];show wpAny _ _ (field (.ref j) 1>>=_) _ _ s;refine wpAny_bind (wpAny_field rK p7 (x:=.int k 0) rfl ?_);show wpAny _ _ (seqItems? (.ref t)>>=_) _ _ s;refine wpAny_bind (wpAny_seqItems gt MX ?_);simp only [Int.toNat_natCast,c];refine wpAny_bind (wpAny_setField rK p7 (by simp) (wpAny_pure ⟨x,rfl,wpAny_pure (q _ ⟨_,Heap.get?_update_self _ rK (Obj.isFreed_of_fields (Obj.data_mapFields p7 _)),(Obj.cls_mapFields ..).trans MV,?_⟩ (Heap.SameBut.update ..))⟩));rw [Obj.data_mapFields p7];simp [rawInt]
theorem yU {j t:Addr} {k:Nat} {vs:Array Value} {Q:Value->Shared->Prop} (hd:gH.In A s.heap) (a:s.heap.IsTupleIter j t k) (b:s.heap.IsTuple t vs) (c:vs[k]?=none)
  (q : ∀ g e,Heap.ExtBut j s.heap g->(∃ o,g.get? e=some o/\o.cls=.type "StopIteration")->E (.ref e) { s with heap:=g }):wpAny (model prog w) A (Builtin.SmallTypes.nextOf (.ref j)) Q E s :=
 gH.WX hd a b c q
theorem v8 {z TI bu b0 b4 t1 aT:Addr} {k:Nat} {xs ys:Array Value} {x y a b:Value} {Q:Value->Shared->Prop} (D:ZipApart z TI bu b0 b4 t1 aT)
  (c1:IsZip s.heap z TI bu .none) (gj:IsPair s.heap TI (.ref b0) (.ref b4)) (hK:IsPair s.heap bu a b)
  (eA:s.heap.IsTupleIter b0 t1 k) (fM:s.heap.IsTupleIter b4 aT k) (cQ:s.heap.IsTuple t1 xs) (e0:s.heap.IsTuple aT ys) (ex:xs[k]?=some x) (du:ys[k]?=some y)
  (q : ∀ g,IsZip g z TI bu (rawInt s.heap.objs.size)->IsPair g bu x y->g.IsTupleIter b0 t1 (k+1)->g.IsTupleIter b4 aT (k+1)->IsPair g s.heap.objs.size x y ->
   (∀ c o,c≠z->c≠bu->c≠b0->c≠b4->s.heap.get? c=some o->g.get? c=some o)->Q (.ref s.heap.objs.size) { s with heap:=g }) :
  wpAny (model prog w) A (Builtin.«zip.__next__» ⟨[.ref z],[]⟩) (λ fin s' => ∃ v,fin=.done (.ret v)/\Q v s') E s:=by
 show wpAny _ _ (field (.ref z) 2>>=_) _ _ _;refine wpAny_bind (wpAny_field c1 rfl (x:=.bool false) rfl ?_);show wpAny _ _ (field (.ref z) 3>>=_) _ _ _;refine wpAny_bind (wpAny_field c1 rfl (x:=.ref TI) rfl (wpAny_bind (wpAny_seqItems gj rfl ?_)));show wpAny _ _ (Builtin.SmallTypes.ownedTupleIsFree (.ref z)>>=_) _ _ _;refine wpAny_bind ?_;unfold Builtin.SmallTypes.ownedTupleIsFree;refine wpAny_bind (wpAny_field c1 rfl (x:=.none) rfl (wpAny_pure ?_));simp only [if_true];refine wpAny_bind (wpAny_rule (wpAny_bind (wpAny_field c1 rfl (x:=.ref bu) rfl (wpAny_bind (wpAny_setField_rec c1 (by simp) λ g1 fS s1=>?_)))));replace fS:IsZip g1 z TI bu .ellipsis:=fS;refine wpAny_bind ?_;simp only [List.zipIdx_cons,List.zipIdx_nil,List.forIn_cons,List.forIn_nil];refine wpAny_bind (wpAny_bind (wpAny_onRaise ?_));show wpAny _ _ (Builtin.SmallTypes.nextOf (.ref b0)>>=_) _ _ _;refine wpAny_bind (pull (eA.extBut s1.extBut D.i1z) (cQ.extBut s1.extBut D.l1z) ex λ g2 qM s2=>wpAny_pure ?_);have jB:IsPair g2 bu a b:=s2.extBut _ _ D.TOi1 (s1.extBut _ _ D.TOz hK);refine wpAny_bind (wpAny_seqItems jB rfl (wpAny_bind (wpAny_updateSeq_pair jB λ g3 kD s3=>?_)));replace kD:IsPair g3 bu x b:=kD;refine wpAny_bind (wpAny_letGo (wpAny_pure (wpAny_bind (wpAny_bind (wpAny_onRaise ?_)))));show wpAny _ _ (Builtin.SmallTypes.nextOf (.ref b4)>>=_) _ _ _;have od:=((fM.extBut s1.extBut D.i2z).extBut s2.extBut D.i12.symm).extBut s3.extBut D.TOi2.symm;have og:=((e0.extBut s1.extBut D.l2z).extBut s2.extBut D.l2i1).extBut s3.extBut D.l2TO;refine wpAny_bind (pull od og du λ fY vr s4=>wpAny_pure ?_);have pG:IsPair fY bu x b:=s4.extBut _ _ D.TOi2 kD;refine wpAny_bind (wpAny_seqItems pG rfl (wpAny_bind (wpAny_updateSeq_pair pG λ dA kE s5=>?_)));replace kE:IsPair dA bu x y:=kE;refine wpAny_bind (wpAny_letGo (wpAny_pure (wpAny_pure (wpAny_bind (wpAny_seqItems kE rfl (wpAny_bind (wpAny_newTuple ?_)))))));have jU:dA.objs.size=s.heap.objs.size:=by rw [s5.1,s4.1,s3.1,s2.1,s1.1]
 have vf:IsZip dA z TI bu .ellipsis:=s5.extBut _ _ D.TOz.symm (s4.extBut _ _ D.i2z.symm (s3.extBut _ _ D.TOz.symm (s2.extBut _ _ D.i1z.symm fS)));have BN : ∀ c o,c≠z->c≠bu->c≠b0->c≠b4->s.heap.get? c=some o->dA.get? c=some o:=λ c o cc c0 ee eB aU =>
  s5.extBut _ _ c0 (s4.extBut _ _ eB (s3.extBut _ _ c0 (s2.extBut _ _ ee (s1.extBut _ _ cc aU))))
 have Bk:dA.IsTupleIter b0 t1 (k+1):=((qM.extBut s3.extBut D.TOi1.symm).extBut s4.extBut D.i12).extBut s5.extBut D.TOi1.symm;have Bl:dA.IsTupleIter b4 aT (k+1):=vr.extBut s5.extBut D.TOi2.symm;have i8:z<dA.objs.size:=Heap.lt_size vf;show wpAny _ _ (Builtin.SmallTypes.ownedTupleHandOut (.ref z) (.ref dA.objs.size)>>=_) _ _ _;refine wpAny_bind ?_;unfold Builtin.SmallTypes.ownedTupleHandOut;have BP:IsZip (dA.push { cls:=.type "tuple", data:=.seq #[x,y] }) z TI bu .ellipsis:=Heap.get?_push_of_some _ vf;refine wpAny_bind (wpAny_setField_rec BP (by simp) λ fJ m1 cC=>?_);replace m1:IsZip fJ z TI bu (rawInt dA.objs.size):=m1;refine wpAny_setField_rec m1 (by simp) λ nM me cH=>?_
 replace me:IsZip nM z TI bu (rawInt dA.objs.size):=me;have oz : ∀ c o,c≠z->dA.get? c=some o->nM.get? c=some o:=λ c o cc aU=>cH.extBut _ _ cc (cC.extBut _ _ cc (Heap.get?_push_of_some _ aU))
 have vv:IsPair nM dA.objs.size x y:=cH.extBut _ _ (Nat.ne_of_gt i8) (cC.extBut _ _ (Nat.ne_of_gt i8) (Heap.get?_push_size _ rfl));rw [jU] at me vv;refine wpAny_pure ⟨_,rfl,?_⟩;show Q (.ref dA.objs.size) _;rw [jU];refine q nM me (oz _ _ D.TOz kE) ?_ ?_ vv λ c o cc c0 ee eB aU=>oz c o cc (BN c o cc c0 ee eB aU)
 ·obtain ⟨o,e,r⟩:=Bk;exact ⟨o,oz _ _ D.i1z e,r⟩
 ·obtain ⟨o,e,r⟩:=Bl;exact ⟨o,oz _ _ D.i2z e,r⟩
theorem v9 {z TI bu b0 b4 t1 aT:Addr} {k:Nat} {xs ys:Array Value} {a b:Value} {Q:Fin->Shared->Prop} (hd:gH.In A s.heap) (D:ZipApart z TI bu b0 b4 t1 aT)
  (c1:IsZip s.heap z TI bu .none) (gj:IsPair s.heap TI (.ref b0) (.ref b4)) (hK:IsPair s.heap bu a b)
  (eA:s.heap.IsTupleIter b0 t1 k) (fM:s.heap.IsTupleIter b4 aT k) (cQ:s.heap.IsTuple t1 xs) (e0:s.heap.IsTuple aT ys) (nK:xs[k]?=none\/ys[k]?=none)
  (q : ∀ g e,(∀ c o,c≠z->c≠bu->c≠b0->c≠b4->s.heap.get? c=some o->g.get? c=some o)->(∃ o,g.get? e=some o/\o.cls=.type "StopIteration")->E (.ref e) { s with heap:=g }) :
  wpAny (model prog w) A (Builtin.«zip.__next__» ⟨[.ref z],[]⟩) Q E s:=by
 show wpAny _ _ (field (.ref z) 2>>=_) _ _ _;refine wpAny_bind (wpAny_field c1 rfl (x:=.bool false) rfl ?_);show wpAny _ _ (field (.ref z) 3>>=_) _ _ _;refine wpAny_bind (wpAny_field c1 rfl (x:=.ref TI) rfl (wpAny_bind (wpAny_seqItems gj rfl ?_)));show wpAny _ _ (Builtin.SmallTypes.ownedTupleIsFree (.ref z)>>=_) _ _ _;refine wpAny_bind ?_;unfold Builtin.SmallTypes.ownedTupleIsFree;refine wpAny_bind (wpAny_field c1 rfl (x:=.none) rfl (wpAny_pure ?_));simp only [if_true];refine wpAny_bind (wpAny_rule (wpAny_bind (wpAny_field c1 rfl (x:=.ref bu) rfl (wpAny_bind (wpAny_setField_rec c1 (by simp) λ g1 fS s1=>?_)))));replace fS:IsZip g1 z TI bu .ellipsis:=fS;refine wpAny_bind ?_;simp only [List.zipIdx_cons,List.zipIdx_nil,List.forIn_cons,List.forIn_nil];refine wpAny_bind (wpAny_bind (wpAny_onRaise ?_));show wpAny _ _ (Builtin.SmallTypes.nextOf (.ref b0)>>=_) _ _ _;have pk:gH.In A g1:=hd.but c1 (λ vs e=>by injection e with e;subst e;exact λ z=>nomatch z) s1.extBut;cases ex:xs[k]? with
 | none =>
  refine wpAny_bind (yU pk (eA.extBut s1.extBut D.i1z) (cQ.extBut s1.extBut D.l1z) ex λ g2 e s2 ⟨bQ,fQ,coe⟩=>?_);have pH:IsZip g2 z TI bu .ellipsis:=s2 _ _ D.i1z.symm fS;have oj:e≠z:=λ y=>by
   subst y;rw [pH] at fQ;cases fQ;simp at coe
  exact wpAny_setField_rec pH (by simp) λ g3 _ s3=>q g3 e (λ c o cc _ ee _ y=>s3.extBut _ _ cc (s2 _ _ ee (s1.extBut _ _ cc y))) ⟨bQ,s3.extBut _ _ oj fQ,coe⟩
 | some x =>
  have du:ys[k]?=none:=nK.resolve_left (by rw [ex];exact λ y=>nomatch y);refine wpAny_bind (pull (eA.extBut s1.extBut D.i1z) (cQ.extBut s1.extBut D.l1z) ex λ g2 qM s2=>wpAny_pure ?_);have jB:IsPair g2 bu a b:=s2.extBut _ _ D.TOi1 (s1.extBut _ _ D.TOz hK);refine wpAny_bind (wpAny_seqItems jB rfl (wpAny_bind (wpAny_updateSeq_pair jB λ g3 kD s3=>?_)));refine wpAny_bind (wpAny_letGo (wpAny_pure (wpAny_bind (wpAny_bind (wpAny_onRaise ?_)))));show wpAny _ _ (Builtin.SmallTypes.nextOf (.ref b4)>>=_) _ _ _;have od:=((fM.extBut s1.extBut D.i2z).extBut s2.extBut D.i12.symm).extBut s3.extBut D.TOi2.symm;have og:=((e0.extBut s1.extBut D.l2z).extBut s2.extBut D.l2i1).extBut s3.extBut D.l2TO;obtain ⟨Nr,rK,_,p7⟩:=eA.extBut s1.extBut D.i1z;have hd2:gH.In A g2:=pk.but rK (by rw [p7];exact gH.CI) s2.extBut;have qx:gH.In A g3:=hd2.but jB (λ vs e=>nomatch e) s3.extBut;refine wpAny_bind (yU qx od og du λ fY e s4 ⟨bQ,fQ,coe⟩=>?_);have ve:IsZip fY z TI bu .ellipsis:=s4 _ _ D.i2z.symm (s3.extBut _ _ D.TOz.symm (s2.extBut _ _ D.i1z.symm fS));have oj:e≠z:=λ y=>by
   subst y;rw [ve] at fQ;cases fQ;simp at coe
  exact wpAny_setField_rec ve (by simp) λ dA _ s5=>q dA e (λ c o cc c0 ee eB y=>s5.extBut _ _ cc (s4 _ _ eB (s3.extBut _ _ c0 (s2.extBut _ _ ee (s1.extBut _ _ cc y))))) ⟨bQ,s5.extBut _ _ oj fQ,coe⟩
theorem next_item {z TI bu b0 b4 t1 aT:Addr} {k:Nat} {xs ys:Array Value} {x y a b:Value} {Q:Option Value->Shared->Prop} (D:ZipApart z TI bu b0 b4 t1 aT)
  (c1:IsZip s.heap z TI bu .none) (gj:IsPair s.heap TI (.ref b0) (.ref b4)) (hK:IsPair s.heap bu a b)
  (eA:s.heap.IsTupleIter b0 t1 k) (fM:s.heap.IsTupleIter b4 aT k) (cQ:s.heap.IsTuple t1 xs) (e0:s.heap.IsTuple aT ys) (ex:xs[k]?=some x) (du:ys[k]?=some y)
  (q : ∀ g,IsZip g z TI bu (rawInt s.heap.objs.size)->IsPair g bu x y->g.IsTupleIter b0 t1 (k+1)->g.IsTupleIter b4 aT (k+1)->IsPair g s.heap.objs.size x y ->
   (∀ c o,c≠z->c≠bu->c≠b0->c≠b4->s.heap.get? c=some o->g.get? c=some o)->Q (some (.ref s.heap.objs.size)) { s with heap:=g }):wpAny (model prog w) A (pyNext (.ref z)) Q E s:=by
 have ty:s.TypeIs (.ref z) "zip" := ⟨_,c1,rfl⟩
 unfold pyNext;refine wpAny_bind (wpAny_attempt (wpAny_callSpecial?_slot (name:=Str.ofString "__next__") ty F.slot_zip_next (wpAny_call_entry F.slot_zip_next ty F.entry_zip_next ?_ (F.args_zip_next_1 _))));exact v8 D c1 gj hK eA fM cQ e0 ex du λ g dP dQ eM ek dt gc=>wpAny_pure (q g dP dQ eM ek dt gc)
theorem wc {z TI bu b0 b4 t1 aT:Addr} {k:Nat} {xs ys:Array Value} {a b:Value} {Q:Option Value->Shared->Prop} (hd:gH.In A s.heap) (D:ZipApart z TI bu b0 b4 t1 aT)
  (c1:IsZip s.heap z TI bu .none) (gj:IsPair s.heap TI (.ref b0) (.ref b4)) (hK:IsPair s.heap bu a b)
  (eA:s.heap.IsTupleIter b0 t1 k) (fM:s.heap.IsTupleIter b4 aT k) (cQ:s.heap.IsTuple t1 xs) (e0:s.heap.IsTuple aT ys) (nK:xs[k]?=none\/ys[k]?=none)
  (q : ∀ g,(∀ c o,c≠z->c≠bu->c≠b0->c≠b4->s.heap.get? c=some o->g.get? c=some o)->Q none { s with heap:=g }):wpAny (model prog w) A (pyNext (.ref z)) Q E s:=by
 have ty:s.TypeIs (.ref z) "zip" := ⟨_,c1,rfl⟩
 unfold pyNext;refine wpAny_bind (wpAny_attempt (wpAny_callSpecial?_slot (name:=Str.ofString "__next__") ty F.slot_zip_next (wpAny_call_entry F.slot_zip_next ty F.entry_zip_next ?_ (F.args_zip_next_1 _))));refine v9 hd D c1 gj hK eA fM cQ e0 nK λ g e up ⟨bQ,fQ,coe⟩=>?_
 exact wpAny_bind (wpAny_isInstance (T := "StopIteration") (b:=true) ⟨bQ,fQ,coe⟩ isSubtype_stop (wpAny_pure (q _ up)))
end
abbrev mb (h:Heap) (t1:Addr):Heap:=h.push { cls:=.type "tuple_iterator", data:=.fields #[.ref t1,.int 0 0] }
abbrev oh (h:Heap) (t1 aT:Addr):Heap:=(mb h t1).push { cls:=.type "tuple_iterator", data:=.fields #[.ref aT,.int 0 0] }
abbrev j3 (h:Heap) (t1 aT:Addr):Heap:=(oh h t1 aT).push { cls:=.type "tuple", data:=.seq #[.ref h.objs.size,.ref (mb h t1).objs.size] }
abbrev j4 (h:Heap) (t1 aT:Addr):Heap:=(j3 h t1 aT).push { cls:=.type "tuple", data:=.seq #[.none,.none] }
abbrev h_ (h:Heap) (t1 aT:Addr):Heap:=(j4 h t1 aT).push { cls:=.type "zip", data:=.fields #[.none,.bool false,.bool false,.ref (oh h t1 aT).objs.size,.ref (j3 h t1 aT).objs.size] }
theorem wb (t1 aT:Addr) (xs ys:Array Value):Meets (Builtin.«zip.__new__» ⟨[.type "zip", .ref t1,.ref aT],[]⟩) (λ _ R s=>s.heap.IsTuple t1 xs/\s.heap.IsTuple aT ys/\R (.ok (.ret (.ref (j4 s.heap t1 aT).objs.size))) { s with heap:=h_ s.heap t1 aT }) :=
 .of_wp λ prog w A R s h=>by
  obtain ⟨bU,nO,dd,tt,nU⟩:=s;obtain ⟨a1,a2,h⟩:=h;have sub:=sub_zip;have dP:Heap.IsTuple (Shared.heap ⟨bU,nO,dd,tt,nU⟩) t1 xs:=a1;have dQ:Heap.IsTuple (Shared.heap ⟨mb bU t1,nO,dd,tt,nU⟩) aT ys:=Heap.IsTuple.push a2 _
  wp_walk using wpAny_pyIter_tuple dP,wpAny_pyIter_tuple dQ
  exact ⟨_,rfl,h⟩
section
variable {prog:Program} {w:World} {A:Around} {E:Value->Shared->Prop} {s:Shared}
theorem make {t1 aT:Addr} {xs ys:Array Value} {Q:Value->Shared->Prop} (a1:s.heap.IsTuple t1 xs) (a2:s.heap.IsTuple aT ys)
  (q : ∀ g,IsZip g (s.heap.objs.size+4) (s.heap.objs.size+2) (s.heap.objs.size+3) .none->IsPair g (s.heap.objs.size+2) (.ref s.heap.objs.size) (.ref (s.heap.objs.size+1))->IsPair g (s.heap.objs.size+3) .none .none ->
   g.IsTupleIter s.heap.objs.size t1 0->g.IsTupleIter (s.heap.objs.size+1) aT 0->(∀ c o,s.heap.get? c=some o->g.get? c=some o)->Q (.ref (s.heap.objs.size+4)) { s with heap:=g }) :
  wpAny (model prog w) A (call (.type "zip") [.ref t1,.ref aT]) Q E s:=by
 refine callType_new F.called_zip (by decide) (F.typeCall_zip_2 _ _) (F.newCall_zip_2 _ _) (λ obj=>F.args_object_init_3 obj _ _) F.entry_zip_new (wb t1 aT xs ys) ⟨a1,a2,?_⟩;have cc:(mb s.heap t1).objs.size=s.heap.objs.size+1:=Heap.size_push ..;have c0:(oh s.heap t1 aT).objs.size=s.heap.objs.size+2:=by rw [Heap.size_push,cc]
 have ee:(j3 s.heap t1 aT).objs.size=s.heap.objs.size+3:=by rw [Heap.size_push,c0]
 have eB:(j4 s.heap t1 aT).objs.size=s.heap.objs.size+4:=by rw [Heap.size_push,ee]
 have lp:(h_ s.heap t1 aT).get? (j4 s.heap t1 aT).objs.size=some _:=Heap.get?_push_size _ rfl;have nW:(h_ s.heap t1 aT).get? (j3 s.heap t1 aT).objs.size=some _:=Heap.get?_push_of_some _ (Heap.get?_push_size _ rfl);have jQ:(h_ s.heap t1 aT).get? (oh s.heap t1 aT).objs.size=some _:=Heap.get?_push_of_some _ (Heap.get?_push_of_some _ (Heap.get?_push_size _ rfl));have gh:(h_ s.heap t1 aT).get? (mb s.heap t1).objs.size=some _:=Heap.get?_push_of_some _ (Heap.get?_push_of_some _ (Heap.get?_push_of_some _ (Heap.get?_push_size _ rfl)));have e2:(h_ s.heap t1 aT).get? s.heap.objs.size=some _:=Heap.get?_push_of_some _ (Heap.get?_push_of_some _ (Heap.get?_push_of_some _ (Heap.get?_push_of_some _ (Heap.get?_push_size _ rfl))));show _/\_;rw [c0,ee,eB] at lp;rw [cc,c0] at jQ;rw [ee] at nW;rw [cc] at gh;rw [eB];exact ⟨⟨_,lp,rfl⟩,q _ lp jQ nW ⟨_,e2,rfl,rfl⟩ ⟨_,gh,rfl,rfl⟩ λ c o y=>Heap.get?_push_of_some _ (Heap.get?_push_of_some _ (Heap.get?_push_of_some _ (Heap.get?_push_of_some _ (Heap.get?_push_of_some _ y))))⟩
end
end rG
namespace bI
open PySem PySem.Spec PyProof.Rows
def pg (K:PySem.W.Frag) (a b:Addr):g4 :=
 ⟨λ i H => ∃ xs ys x y,aR K H a xs/\aR K H b ys/\xs[i]?=some x/\ys[i]?=some y,
 λ i H v H' => ∃ p,H p=none/\v=.ref p /\ ∃ x y,H'=upd H p (.tup [x,y]) /\ ∀ xs ys,aR K H a xs->aR K H b ys->xs[i]?=some x/\ys[i]?=some y,
 λ i H => ∃ xs ys,aR K H a xs/\aR K H b ys/\(xs.length<=i\/ys.length<=i)⟩
def kV:Expr->Bool
 | .Tuple _ _ _=>true
 | _=>false
theorem Inv.we {X:aP} {pins:List (Addr×Obj)} {σ:St} {H:ah} {s:Shared} {h':Heap} {t':Nat} {L:List Addr} {p:Addr} {xs:List V} (I:Inv X pins σ H s) (k : ∀ b o,b∉L->s.heap.get? b=some o->h'.get? b=some o)
  (hf : ∀ b∈L,mh X pins H b) (ax:s.heap.objs.size<=p) (new:dW X.prog X.w (upd H p (.tup xs)) h' p (.tup xs)):Inv X pins σ (upd H p (.tup xs)) { s with heap:=h',toks:=t' }:=by
 have aD:H p=none:=I.a6.fresh ax;have ne : ∀ b o,s.heap.get? b=some o->b≠p:=λ b o e=>Nat.ne_of_lt (Nat.lt_of_lt_of_le (Heap.lt_size e) ax)
 have pz : ∀ b u,H b=some u->b∉L:=λ b u e z=>by rw [(hf b z).1] at e;cases e
 refine I.step (g':=s.gens) (d':=s.drawn) (ch:=L) (λ b J=>?_) (λ b o _ _ aj e _=>k b o aj e) (λ b o _ _ aj e _=>⟨o.slots,k b o aj e⟩) (λ b o _ e n=>by rw [a8 (ne b o e)];exact n) (λ b o aj e=>⟨o,k b o aj e⟩)
  (λ b ys e=>by rw [a8 (cj e aD)];exact e) (λ b o u e=>by rw [a8 (cj e aD)];exact e) (λ b ag e=>⟨#[],by rw [a8 (cj e aD),e];simp⟩) (λ m hm=>?_) (λ b u e=>?_) I.bare
 ·obtain ⟨_,f1,_,dh,f4,d_⟩:=hf b J;exact ⟨dh,f1,f4,d_⟩
 ·obtain ⟨o,ao,ep,aG,r⟩:=hm;exact ⟨o,ao,ep,k _ o (λ z=>(hf _ z).2.1 rfl) aG,r⟩
 ·by_cases J:b=p
  ·subst J;rw [bA] at e;cases e;exact new
  ·rw [a8 J] at e;refine (I.a6 b u e).ih (λ c v aj q=>k c v ?_ q) (λ c q=>by rw [a8 (cj q aD)];exact q) λ c ys q=>by rw [a8 (cj q aD)];exact q
   rcases aj with z | z
   ·rw [z];exact pz b u e
   ·exact pz c _ z
theorem Inv.vV {X:aP} {pins:List (Addr×Obj)} {σ:St} {H:ah} {s:Shared} {h':Heap} {t':Nat} {L:List Addr} (I:Inv X pins σ H s) (k : ∀ b o,b∉L->s.heap.get? b=some o->h'.get? b=some o)
  (hf : ∀ b∈L,mh X pins H b):Inv X pins σ H { s with heap:=h',toks:=t' }:=by
 have pz : ∀ b u,H b=some u->b∉L:=λ b u e z=>by rw [(hf b z).1] at e;cases e
 refine I.step (g':=s.gens) (d':=s.drawn) (ch:=L) (λ b J=>?_) (λ b o _ _ aj e _=>k b o aj e) (λ b o _ _ aj e _=>⟨o.slots,k b o aj e⟩) (λ _ _ _ _ n=>n) (λ b o aj e=>⟨o,k b o aj e⟩) (λ _ _ e=>e) (λ _ _ _ e=>e) (λ b ag e=>⟨#[],by rw [e];simp⟩)
  (λ m hm=>?_) (λ b u e=>?_) I.bare
 ·obtain ⟨_,f1,_,dh,f4,d_⟩:=hf b J;exact ⟨dh,f1,f4,d_⟩
 ·obtain ⟨o,ao,ep,aG,r⟩:=hm;exact ⟨o,ao,ep,k _ o (λ z=>(hf _ z).2.1 rfl) aG,r⟩
 ·refine (I.a6 b u e).ih (λ c v aj q=>k c v ?_ q) (λ _ q=>q) λ _ _ q=>q
  rcases aj with z | z
  ·rw [z];exact pz b u e
  ·exact pz c _ z
theorem WZ {tT:Bool} {P:Program} {w:World} {K:PySem.W.Frag} {bb:Expr} (fR:kV bb=true) {z TI bu b0 b4 a b:Addr} (D:ZipApart z TI bu b0 b4 a b) :
  Turn P w K tT bb (pg K a b) [z,bu,b0,b4,TI] z (λ i h=>IsZip h z TI bu .none/\IsPair h TI (.ref b0) (.ref b4)/\(∃ u v,IsPair h bu u v)/\h.IsTupleIter b0 a i/\h.IsTupleIter b4 b i) where
 mem:=List.mem_cons_self
 obj:=λ i h st c aj=>by
  obtain ⟨af,ai,⟨u,v,aF⟩,⟨g9,aX,_,jg⟩,⟨iX,bT,_,eQ⟩⟩:=st;have hQ : ∀ {o:Obj} {vs:Array Value},o.data=.fields vs -> ∀ v,o.data≠.cell v:=λ e v q=>by rw [e] at q;cases q
  have mc : ∀ {o:Obj} {vs:Array Value} {n:Nat},o.data=.seq vs n -> ∀ v,o.data≠.cell v:=λ e v q=>by rw [e] at q;cases q
  simp only [List.mem_cons,List.not_mem_nil,or_false] at aj;rcases aj with rfl | rfl | rfl | rfl | rfl
  ·exact ⟨_,af,hQ rfl⟩
  ·exact ⟨_,aF,mc rfl⟩
  ·exact ⟨_,aX,hQ jg⟩
  ·exact ⟨_,bT,hQ eQ⟩
  ·exact ⟨_,ai,mc rfl⟩
 keep:=λ i h h' st k=>by
  obtain ⟨af,ai,⟨u,v,aF⟩,⟨g9,aX,hG⟩,⟨iX,bT,lY⟩⟩:=st;exact ⟨k _ (by simp) _ af,k _ (by simp) _ ai,⟨u,v,k _ (by simp) _ aF⟩,⟨g9,k _ (by simp) _ aX,hG⟩,⟨iX,k _ (by simp) _ bT,lY⟩⟩
 item:=by
  intro X c4 hw dH iC aj i pins s σ H E I hf st aI;subst c4 hw dH;obtain ⟨af,ai,⟨u,v,aF⟩,aX,bT⟩:=st;obtain ⟨xs,ys,x,y,cG,dv,ak,aN⟩:=aI;obtain ⟨its,bR,dJ,_⟩:=I.tuple cG;obtain ⟨gS,eE,fN,_⟩:=I.tuple dv;obtain ⟨hb,n2,oo⟩:=bR.get ak;obtain ⟨hI,qq,qT⟩:=eE.get aN;refine rG.next_item D af ai aF aX bT (show s.heap.IsTuple a its.toArray from dJ) (show s.heap.IsTuple b gS.toArray from fN) (x:=hb) (y:=hI) (by simpa using n2) (by simpa using qq) λ g dP dQ eM ek dt gc=>?_
  refine ⟨_,rfl,?_⟩;have i8:z<s.heap.objs.size:=Heap.lt_size af;cases bb with
  | Tuple ao fb pp =>
   refine wpAny_letOwnedTupleGo_zip dP λ g' hB cR=>?_
   have new:IsPair g' s.heap.objs.size hb hI:=cR.extBut _ _ (Nat.ne_of_gt i8) dt;have aE:Inv X pins σ (upd H s.heap.objs.size (.tup [x,y])) { s with heap:=g' }:=by
    refine I.we (t':=s.toks) (L:=[z,bu,b0,b4,TI]) (λ c o cL e=>?_) hf (Nat.le_refl _) ⟨by show 2<=sizeLine;decide,[hb,hI],.cons oo (.cons qT .nil),⟨_,new,rfl,⟨0,rfl⟩,rfl⟩⟩;simp only [List.mem_cons,List.not_mem_nil,or_false,not_or] at cL;exact cR.extBut c o cL.1 (gc c o cL.1 cL.2.1 cL.2.2.1 cL.2.2.2.1 e)
   have qu:IsPair g' TI (.ref b0) (.ref b4):=cR.extBut _ _ D.TIz (gc _ _ D.TIz D.TITO D.TIi1 D.TIi2 ai);refine ⟨.ref s.heap.objs.size,_,aE,rfl,⟨_,I.fresh,rfl,x,y,rfl,λ xR kC a7 bV=>⟨by rw [I.ru a7 cG];exact ak,by rw [I.ru bV dv];exact aN⟩⟩,⟨hB,qu,⟨_,_,cR.extBut _ _ D.TOz dQ⟩,eM.extBut cR.extBut D.i1z,ek.extBut cR.extBut D.i2z⟩,λ c cY=>?_⟩;obtain ⟨o,en,_⟩ : ∃ o,s.heap.get? c=some o/\True:=by
    simp only [List.mem_cons,List.not_mem_nil,or_false] at cY;rcases cY with rfl | rfl | rfl | rfl | rfl
    ·exact ⟨_,af,trivial⟩
    ·exact ⟨_,aF,trivial⟩
    ·obtain ⟨g9,fY,_⟩:=aX;exact ⟨_,fY,trivial⟩
    ·obtain ⟨iX,dA,_⟩:=bT;exact ⟨_,dA,trivial⟩
    ·exact ⟨_,ai,trivial⟩
   rw [a8 (Nat.ne_of_lt (Heap.lt_size en))];exact (hf c cY).1
  | _=>exact absurd (show false=true from fR) Bool.false_ne_true
 done:=by
  intro X c4 hw dH iC aj i pins s σ H E I hf st aI;subst c4 hw dH;obtain ⟨af,ai,⟨u,v,aF⟩,aX,bT⟩:=st;obtain ⟨xs,ys,cG,dv,au⟩:=aI;obtain ⟨its,bR,dJ,_⟩:=I.tuple cG;obtain ⟨gS,eE,fN,_⟩:=I.tuple dv;have aO:=bR.length;have aQ:=eE.length;refine rG.wc (I.jt aj) D af ai aF aX bT (show s.heap.IsTuple a its.toArray from dJ) (show s.heap.IsTuple b gS.toArray from fN) ?_ λ g up=>⟨rfl,?_⟩
  ·rcases au with au | au
   ·exact .inl (by simp;omega)
   ·exact .inr (by simp;omega)
  ·refine I.vV (t':=s.toks) (L:=[z,bu,b0,b4,TI]) (λ c o cL e=>?_) hf;simp only [List.mem_cons,List.not_mem_nil,or_false,not_or] at cL;exact up c o cL.1 cL.2.1 cL.2.2.1 cL.2.2.2.1 e
 self:=λ _ _ _ _ _ st h=>wpAny_pyIter_zip st.1 h
section
variable {X:aP} {bb:Expr}
def HO (K:PySem.W.Frag) (aZ:c3):TI:=λ σ H R=>aZ σ H λ vs H1 => ∃ a b,vs=[.ref a,.ref b]/\(∃ xs,aR K H1 a xs)/\(∃ ys,aR K H1 b ys)/\R (pg K a b) H1
theorem apart_new {n cQ e0:Addr} (af:cQ<n) (ai:e0<n):ZipApart (n+4) (n+2) (n+3) n (n+1) cQ e0:=zipApart_new af ai
theorem TF {aO aQ:Expr} {aZ:c3} {p pos:Pos} (fR:kV bb=true) (aI:dy X "zip") (hm:X.mg "zip" = none) (aw:hA X [aO,aQ] aZ) (az:starEach [aO,aQ] X.env=[(false,eval aO X.env),(false,eval aQ X.env)]:=by rfl) (e5:starEach [aQ] X.env=[(false,eval aQ X.env)]:=by rfl)
  (J:bootBuiltins "zip" = some (.type "zip"):=by decide +kernel):k4 X bb (.Call (.Name "zip" p) [aO,aQ] [] pos) (HO X.K aZ):=by
 intro pins s σ H R I h;refine Call_ (mr I aI hm J (PyProof.Rows.callWith_type1 (bj (aw pos pins s σ H _ I h) λ us s1 ⟨vs,H1,aE,bq,a7⟩=>?_) (by rw [az,e5]) (by rw [e5];rfl)));obtain ⟨a,b,e,⟨xs,cG⟩,⟨ys,dv⟩,q⟩:=a7;subst e;obtain ⟨gi,kl,rfl,lZ,qg⟩:=vals2 bq;cases lZ;cases qg;obtain ⟨its,bR,dJ,_⟩:=aE.tuple cG;obtain ⟨gS,eE,fN,_⟩:=aE.tuple dv;have nQ:a<s1.heap.objs.size:=by obtain ⟨o,e,_⟩:=dJ;exact Heap.lt_size e
 have nR:b<s1.heap.objs.size:=by obtain ⟨o,e,_⟩:=fN;exact Heap.lt_size e
 refine rG.make (show s1.heap.IsTuple a its.toArray from dJ) (show s1.heap.IsTuple b gS.toArray from fN) λ g fs e4 iZ qi qj up=>?_
 refine wpAny_pyIter_zip fs ?_;have bS:Inv X pins σ H1 { s1 with heap:=g }:=aE.kept (t':=s1.toks) up;refine ⟨_,[s1.heap.objs.size+4,s1.heap.objs.size+3,s1.heap.objs.size,s1.heap.objs.size+1,s1.heap.objs.size+2],_,_,H1,rfl,bS,WZ fR (apart_new nQ nR),⟨fs,e4,⟨_,_,iZ⟩,qi,qj⟩,λ c aj=>?_,q⟩;have big:s1.heap.objs.size<=c:=by
  simp only [List.mem_cons,List.not_mem_nil,or_false] at aj;rcases aj with rfl | rfl | rfl | rfl | rfl
  ·exact Nat.le_add_right _ _
  ·exact Nat.le_add_right _ _
  ·exact Nat.le_refl _
  ·exact Nat.le_add_right _ _
  ·exact Nat.le_add_right _ _
 exact aE.mi big (aE.a6.fresh big)
end
theorem Jl {K:PySem.W.Frag} {a b:Addr} {xs ys:List V} {g:eG} {bk:dr} {D:Ends} {σ:St} {H:ah} (Pv:Nat->St->ah->Prop) (h0:Pv 0 σ H) (au : ∀ i σ H,i<=min xs.length ys.length->Pv i σ H->aR K H a xs/\aR K H b ys)
  (az : ∀ i x y p σ H,xs[i]?=some x->ys[i]?=some y->H p=none->Pv i σ H->g (.ref p) σ (upd H p (.tup [x,y])) λ σ2 ar=>bk { D with bF:=Pv (i+1),cu:=Pv (i+1),aY:=D.bF } σ2 ar) (hd : ∀ σ H,Pv (min xs.length ys.length) σ H->D.bF σ H) :
  ∃ W:Nat->Nat->St->ah->Prop,(∃ m,W 0 m σ H) /\ ∀ i m σ H,W i m σ H ->
   ((pg K a b).stop i H/\D.bF σ H)\/((pg K a b).go i H /\ ∃ N:St->ah->Prop,(∀ σ' H',N σ' H' -> ∃ cJ,cJ<m/\W (i+1) cJ σ' H') /\ ∀ x H',(pg K a b).j5 i H x H'->g x σ H' λ σ2 ar=>bk { D with bF:=N,cu:=N,aY:=D.bF } σ2 ar):=by
 refine ⟨λ i m σ H=>m=min xs.length ys.length - i/\i<=min xs.length ys.length/\Pv i σ H,⟨_,rfl,Nat.zero_le _,h0⟩,?_⟩;rintro i m σ H ⟨rfl,ay,p⟩;obtain ⟨cG,dv⟩:=au i σ H ay p;by_cases dE:i<min xs.length ys.length
 ·have af:i<xs.length:=by omega
  have ai:i<ys.length:=by omega
  refine .inr ⟨⟨xs,ys,xs[i],ys[i],cG,dv,by simp [af],by simp [ai]⟩,Pv (i+1),λ σ' H' hD=>⟨min xs.length ys.length - (i+1),by omega,rfl,dE,hD⟩,λ v H' jl=>?_⟩;obtain ⟨q,aS,rfl,x,y,rfl,i6⟩:=jl;obtain ⟨ex,du⟩:=i6 xs ys cG dv;exact az i x y q σ H ex du aS p
 ·have e:i=min xs.length ys.length:=by omega
  refine .inl ⟨⟨xs,ys,cG,dv,by omega⟩,hd σ H (e ▸ p)⟩
end bI
namespace FD
open PySem PyProof.Rows
open AutoSeq1 (wpAny_loadPart')
section
variable {prog:Program} {w:World} {A:Around} {E:Value->Shared->Prop} {s:Shared}
theorem gather {r:Addr} {a b c:Int} {t u v:Tok} {n:Nat} {Q:List Value->Shared->Prop} (hd:A.handled=none) (aq:IsRange s.heap r a b c t u v) (g_:Builtin.Range.small a b c=true) (aD:Builtin.Range.rangeSize a b c=n) (au:n<=2 ^ 24)
  (q : ∀ (g:Heap) (bw:Nat) (acc:Array Value),(∀ b o,s.heap.get? b=some o->g.get? b=some o)->ItemsOf (λ i v => ∃ t,v=.int (a+i * c) t) acc n->Q acc.toList { s with heap:=g,toks:=bw }):wpAny (model prog w) A (collect (.ref r)) Q E s:=by
 unfold collect;refine wpAny_bind (wpAny_runValue (codeAny_builtin F.entry_proto_collect ?_));rw [Around.under_plainId F.plain_proto_collect _];show wpAny _ A.in1 (newList []>>=λ l=>again (.builtin "list.__iadd__" ⟨[l,.ref r],[]⟩)) _ _ s;refine wpAny_bind (wpAny_newObj_type (wpAny_pure ⟨plainId_quiet F.plain_list_iadd _,codeAny_builtin F.entry_list_iadd ?_⟩));rw [Around.under_plainId F.plain_list_iadd _];have new:(s.heap.push { cls:=.type "list", data:=.seq ([]:List Value).toArray }).get? s.heap.objs.size=some { cls:=.type "list", data:=.seq #[] 0 }:=Heap.get?_push_size _ rfl;show wpAny _ A.in1 (Builtin.List.listExtendWith (.ref s.heap.objs.size) (.ref r) (.ref s.heap.objs.size)) _ _ _;have last : ∀ (bB:Result) (s':Shared),(∃ (g:Heap) (bw:Nat) (acc:Array Value) (k:Nat),bB=.ok (.ret (.ref s.heap.objs.size))/\s'={ s with heap:=g,toks:=bw }/\g.get? s.heap.objs.size=some { cls:=.type "list", dict:=none,data:=.seq acc k,slots:=#[] }/\(∀ b o,s.heap.get? b=some o->g.get? b=some o)/\ItemsOf (λ i v => ∃ t,v=.int (a+i * c) t) acc n) ->
   (match bB with
    | .ok (.ret v)=>wpAny (model prog w) A (match v with
      | Value.ref a=>do
       match (← load a).data with
        | Data.seq xs _=>pure xs.toList
        | _=>unsupported "internal:collect"
      | _=>unsupported "internal:collect") Q E s'
    | .ok _=>False
    | .error e=>E e s'):=by
  rintro bB s' ⟨g,bw,acc,k,rfl,rfl,got,up,ok⟩;show wpAny _ A (load s.heap.objs.size>>=_) _ _ _;exact wpAny_bind (wpAny_load got (wpAny_pure (q g bw acc up ok)))
 refine wpAny_mono (wpAny_extend_range (A:=A) (R:=λ bB s' => ∃ (g:Heap) (bw:Nat) (acc:Array Value) (k:Nat),bB=.ok (.ret (.ref s.heap.objs.size))/\s'={ s with heap:=g,toks:=bw }/\g.get? s.heap.objs.size=some { cls:=.type "list", dict:=none,data:=.seq acc k,slots:=#[] }/\(∀ b o,s.heap.get? b=some o->g.get? b=some o)/\ItemsOf (λ i v => ∃ t,v=.int (a+i * c) t) acc n)
  (s:={ s with heap:=s.heap.push { cls:=.type "list", data:=.seq ([]:List Value).toArray } }) hd (Heap.get?_push_of_some _ aq) g_ aD au s.heap.objs.size (.ref s.heap.objs.size) 0 new λ g bw acc k up got ok=>⟨g,bw,acc,k,rfl,rfl,got,λ b o e=>up b o (Nat.ne_of_lt (Heap.lt_size e)) (Heap.get?_push_of_some _ e),ok⟩) (λ fin s' h=>?_) (λ e s' h=>?_)
 ·cases fin with
  | done f=>exact last _ _ h
  | again cN=>exact ⟨h.1,codeAny_mono h.2 λ bB iE h'=>last bB iE h'⟩
 ·exact last _ _ h
theorem ZU (r:Addr) (a b c:Int) (t u v:Tok) (n:Nat) (g_:Builtin.Range.small a b c=true) (aD:Builtin.Range.rangeSize a b c=n) (au:n<=2 ^ 24) :
  Meets (Builtin.«tuple.__new__» ⟨[.type "tuple", .ref r],[]⟩) (λ A R s=>A.handled=none/\IsRange s.heap r a b c t u v /\ ∀ (g:Heap) (bw:Nat) (acc:Array Value),(∀ b o,s.heap.get? b=some o->g.get? b=some o)->ItemsOf (λ i v => ∃ t,v=.int (a+i * c) t) acc n ->
   R (.ok (.ret (.ref g.objs.size))) { s with heap:=g.push { cls:=.type "tuple", data:=.seq acc },toks:=bw }) :=
 .of_wp λ prog w A R s h=>by
  obtain ⟨hd,aq,h⟩:=h;have sub:=sub_tuple_self;have acE:=init_tuple_lookup;have acM:=madeHere_tuple;have ty:s.TypeIs (.ref r) "range" := ⟨_,aq,rfl⟩
  have pk:A.in1.handled=none:=hd
  wp_walk using wpAny_typeOf ty,gather pk aq g_ aD au
  intro g bw acc up ok;show wpAny _ _ (Builtin.Tuple.tupleExact acc.toList.toArray>>=λ v=>ret v) _ _ _;unfold Builtin.Tuple.tupleExact;refine wpAny_bind (wpAny_newObj_type (wpAny_pure ⟨_,rfl,?_⟩) (show acc.toList.toArray.size<=sizeLine by simp only [Array.toArray_toList];rw [ok.1,sizeLine_eq];omega));have e:acc.toList.toArray=acc:=by simp
  rw [e];exact h g bw acc up ok
theorem Wi {r:Addr} {a b c:Int} {t u v:Tok} {n:Nat} {Q:Value->Shared->Prop} (hd:A.handled=none) (aq:IsRange s.heap r a b c t u v) (g_:Builtin.Range.small a b c=true) (aD:Builtin.Range.rangeSize a b c=n) (au:n<=2 ^ 24)
  (q : ∀ (g:Heap) (bw:Nat) (acc:Array Value),(∀ b o,s.heap.get? b=some o->g.get? b=some o)->ItemsOf (λ i v => ∃ t,v=.int (a+i * c) t) acc n->Q (.ref g.objs.size) { s with heap:=g.push { cls:=.type "tuple", data:=.seq acc },toks:=bw }) :
  wpAny (model prog w) A (call (.type "tuple") [.ref r]) Q E s :=
 callType_new F.called_tuple (by decide) (F.typeCall_tuple_1 _) (F.newCall_tuple_1 _) (λ obj=>F.args_object_init_2 obj _) F.entry_tuple_new (ZU r a b c t u v n g_ aD au) ⟨hd,aq,λ g bw acc up ok=>⟨⟨_,Heap.get?_push_size _ rfl,rfl⟩,q g bw acc up ok⟩⟩
end
end FD
namespace bI
open PySem PySem.Spec PyProof.Rows
section
variable {X:aP}
theorem YZ:e7 X (.type "range") (λ xs H Q => ∃ n:Int,xs=[.int n] /\ ∀ p,H p=none->Q (.ref p) (upd H p (.pC 0 n))):=by
 intro pins s σ H xs us Q I r h;obtain ⟨n,rfl,q⟩:=h;obtain ⟨u,rfl,t,rfl⟩:=vals1 r;refine call_range_1 ⟨.ref s.heap.objs.size,_,I.laid (a:=s.heap.objs.size) (o:=.pC 0 n) (λ _ _ e=>Heap.get?_push_of_some _ e) (Nat.le_refl _) ⟨_,_,_,Heap.get?_push_size _ rfl⟩,rfl,q _ I.fresh⟩
theorem Lk : ∀ (its:List Value) (k:Nat),(∀ (i:Nat) v,its[i]?=some v -> ∃ t,v=Value.int ((k:Int)+i) t)->Vals ((List.range' k its.length).map λ i=>V.int ((i:Nat):Int)) its
 | [],_,_=>.nil
 | v::its,k,h=>by
  rw [List.length_cons,List.range'_succ,List.map_cons];refine .cons ?_ (Lk its (k+1) λ i iz e=>?_)
  ·obtain ⟨t,e⟩:=h 0 v rfl;exact ⟨t,by rw [e];simp⟩
  ·obtain ⟨t,q⟩:=h (i+1) iz (by simpa using e);exact ⟨t,by rw [q];congr 1;omega⟩
theorem abm (aj:X.calm=true):e7 X (.type "tuple") (λ xs H Q => ∃ p n,xs=[.ref p]/\H p=some (.pC 0 n)/\0<=n/\n<=1000 /\ ∀ l,H l=none->Q (.ref l) (upd H l (.tup ((List.range n.toNat).map λ i=>V.int ((i:Nat):Int))))):=by
 intro pins s σ H xs us Q I r h;obtain ⟨p,n,rfl,ax,h0,af,q⟩:=h;obtain ⟨u,rfl,eI⟩:=vals1 r;cases eI;obtain ⟨t,u,v,e⟩:=(show dW X.prog X.w H s.heap p (.pC 0 n) from I.a6 p _ ax)
 have aD:Builtin.Range.rangeSize 0 n 1=((n.toNat:Nat):Int):=by rw [rangeSize_one];split<;>omega
 refine FD.Wi (I.ok.hd.1 aj) (show IsRange s.heap p 0 n 1 t u v from e) (small_one (by omega) (by omega) (by omega) (by omega)) aD (by omega) λ g bw acc up ok=>?_
 have aE:Inv X pins σ H { s with heap:=g,toks:=bw }:=I.kept up;have bf:Vals ((List.range n.toNat).map λ i=>V.int ((i:Nat):Int)) acc.toList:=by
  have:=Lk acc.toList 0 λ i v e=>by
   obtain ⟨t,q⟩:=ok.2 i v (by simpa using e);exact ⟨t,by rw [q];simp⟩
  rw [Array.length_toList,ok.1,<-List.range_eq_range'] at this;exact this
 refine ⟨.ref g.objs.size,_,aE.laid (a:=g.objs.size) (t':=bw) (λ _ _ e=>Heap.get?_push_of_some _ e) (Nat.le_refl _) (show dW X.prog X.w _ _ _ (.tup _) from ⟨?_,acc.toList,bf,?_⟩),rfl,q _ (aE.a6.fresh (Nat.le_refl _))⟩
 ·rw [List.length_map,List.length_range,sizeLine_eq];omega
 ·refine ⟨_,Heap.get?_push_size _ rfl,rfl,⟨0,?_⟩,rfl⟩;simp
end
end bI
namespace dT
open PySem PyProof.Rows
section
variable {prog:Program} {w:World} {A:Around} {E:Value->Shared->Prop} {s:Shared}
theorem Xp {t cA:Addr} {items:Array Value} {fO fP:Value} {lo ay:Option Int} {Q:Value->Shared->Prop} (aW:IsTup s.heap t items) (az:s.heap.IsSliceOf cA fO fP .none) (pl:IsPart fO lo) (pu:IsPart fP ay)
  (hw:cx items.size 0 lo=0/\cx items.size items.size ay=items.size) (h:Q (.ref t) s):wpAny (model prog w) A (getItem (.ref t) (.ref cA)) Q E s:=by
 obtain ⟨os,qG,xm,gP⟩:=id az;have AF:s.TypeIs (.ref cA) "slice" := ⟨os,qG,xm⟩
 unfold getItem
 try with_reducible refine wpAny_holding ?_
 first | refine wpAny_bind (wpAny_pure ?_) | skip
 refine wpAny_bind (wpAny_sequenceKey aW.typeIs (by decide) ?_);refine wpAny_bind (wpAny_callSpecial?_slot (name:=Str.ofString "__getitem__") aW.typeIs PyProof.Rows.slot_tuple_getitem
  (wpAny_call_entry PyProof.Rows.slot_tuple_getitem aW.typeIs entry_tuple_getitem ?_ (args_tuple_getitem _ _)))
 show wpAny _ _ (Builtin.Tuple.tupleItemsOf (.ref t)>>=_) _ _ s;refine wpAny_bind (tupleItemsOf_ aW ?_);refine wpAny_bind (wpAny_typeOf AF ?_);rw [if_pos (by decide)];refine wpAny_bind (Mx az pl pu ?_);have RG:(((cx items.size 0 lo:Nat):Int) == 0&&(1:Int) == 1&&(cx items.size items.size ay - cx items.size 0 lo) == items.size)=true:=by
  rw [hw.1,hw.2];simp
 show wpAny _ _ (if (((cx items.size 0 lo:Nat):Int) == 0&&(1:Int) == 1&&(cx items.size items.size ay - cx items.size 0 lo) == items.size)=true then _ else _) _ _ s;rw [if_pos RG];obtain ⟨Nt,got,acp,_⟩:=id aW;unfold Builtin.Tuple.tupleIsExact;refine wpAny_bind (wpAny_bind (wpAny_typeOf aW.typeIs (wpAny_pure ?_)));rw [if_pos (by decide)];exact wpAny_bind (wpAny_rule (wpAny_pure ⟨_,rfl,wpAny_pure h⟩))
end
end dT
namespace bI
open PySem PySem.Spec PyProof.Rows
section
variable {X:aP}
def Ce (K:PySem.W.Frag):V->Option Int->Option Int->ah->bz->Prop:=λ x lo ay H Q => ∃ a xs,x=.ref a/\aR K H a xs/\dT.cx xs.length 0 lo=0/\dT.cx xs.length xs.length ay=xs.length/\Q (.ref a) H
theorem WO:jY X (Ce X.K):=by
 intro pins s σ H x v fO fP lo ay cA Q I a5 az pl pu h;obtain ⟨a,xs,rfl,ak,hJ,gz,q⟩:=h;cases a5;obtain ⟨its,r,aW,a9⟩:=I.tuple ak;have hlen:its.toArray.size=xs.length:=by rw [List.size_toArray];exact r.length.symm
 exact ⟨"tuple", _,PyProof.Rows.slot_tuple_getitem.lookup,aW.typeIs,dT.Xp aW az pl pu (by rw [hlen];exact ⟨hJ,gz⟩) ⟨.ref a,H,I,rfl,q⟩⟩
theorem JB:jY X (λ x lo ay H Q=>Cd X.K x lo ay H Q\/Ce X.K x lo ay H Q):=T3.or WO
end
def SG:TE:=λ _ H Q => ∀ p,H p=none->Q (.ref p) (upd H p (.bp []))
theorem Inv.Q_ {X:aP} {pins:List (Addr×Obj)} {σ:St} {H:ah} {s:Shared} (I:Inv X pins σ H s):sysModules<s.heap.objs.size :=
 Nat.lt_trans (by decide) (I.mod.glob.keeps I.aY).lt
theorem UJ {X:aP} {pos:Pos}:b9 X (.Dict [] [] pos) SG:=λ pins s σ H Q I h =>
 wpAny_Dict_empty ⟨.ref s.heap.objs.size,_,I.laid (a:=s.heap.objs.size) (o:=.bp []) (t':=s.toks) (λ _ _ q=>Heap.get?_push_of_some _ q) (Nat.le_refl _)
  ⟨Nat.zero_le _,beq_eq_false_iff_ne.mpr (Ne.symm (Nat.ne_of_lt I.Q_)),[],.nil,Heap.DictOf.new _⟩,rfl,h _ I.fresh⟩
theorem Sy {X:aP} {x:Str} {T:String} {pos:Pos} (aI:dy X x) (hm:X.mg x=none) (bf:bootBuiltins x=some (.type T)) (aD:x ≠ "__name__" := by decide) (hd:(x == ("__debug__" : Str))=false:=by decide):b9 X (.Name x pos) (iw (.ty T)) :=
 UE (v:=.ty T) aI hm bf rfl aD hd
end bI
namespace fz
def nt (p:Nat):Nat->Nat->Nat
 | 0,n=>n
 | f+1,n=>if 2<=p/\1<=n/\n % p=0 then nt p f (n / p) else n
theorem LG (p:Nat) : ∀ f n:Nat,n<=f->nt p (f+1) n=nt p f n
 | 0,n,h=>by
  obtain rfl:n=0:=by omega
  exact if_neg (λ z=>by omega)
 | f+1,n,h=>by
  show (if 2<=p/\1<=n/\n % p=0 then nt p (f+1) (n / p) else n)=if 2<=p/\1<=n/\n % p=0 then nt p f (n / p) else n
  by_cases q:2<=p/\1<=n/\n % p=0
  ·rw [if_pos q,if_pos q];exact LG p f (n / p) (by have:=Nat.div_lt_self q.2.1 q.1;omega)
  ·rw [if_neg q,if_neg q]
theorem DM (p n:Nat) : ∀ k:Nat,nt p (n+k) n=nt p n n
 | 0=>rfl
 | k+1=>by rw [show n+(k+1)=(n+k)+1 from rfl,LG p (n+k) n (by omega)];exact DM p n k
def strip (p:Nat) (n:Nat):Nat:=nt p n n
theorem KZ (p n:Nat):strip p n=if 2<=p/\1<=n/\n % p=0 then strip p (n / p) else n:=by
 have e:strip p n=nt p (n+1) n:=(DM p n 1).symm;rw [e];show (if 2<=p/\1<=n/\n % p=0 then nt p n (n / p) else n)=_;by_cases q:2<=p/\1<=n/\n % p=0
 ·rw [if_pos q,if_pos q];have lt:=Nat.div_lt_self q.2.1 q.1;have:=DM p (n / p) (n - n / p);rw [show n / p+(n - n / p)=n by omega] at this;exact this
 ·rw [if_neg q,if_neg q]
theorem ti {p n:Nat} (ax:2<=p) (aD:1<=n) (h:n % p=0):strip p n=strip p (n / p):=by
 rw [KZ p n,if_pos ⟨ax,aD,h⟩]
theorem rt {p n:Nat} (h:n % p≠0):strip p n=n:=by
 rw [KZ,if_neg (λ q=>h q.2.2)]
theorem tm {p n:Nat} (aD:1<=n) (h:n % p=0):1<=n / p:=by
 have e:=Nat.div_add_mod n p;rw [h] at e;rcases Nat.eq_zero_or_pos (n / p) with z | z
 ·rw [z] at e;omega
 ·exact z
theorem wd {p:Nat} (ax:2<=p) : ∀ n:Nat,1<=n->1<=strip p n:=by
 intro n
 induction n using Nat.strongRecOn with
 | ind n c5 =>
  intro aD;by_cases h:n % p=0
  ·rw [ti ax aD h];exact c5 _ (Nat.div_lt_self aD ax) (tm aD h)
  ·rw [rt h];exact aD
theorem Yn {p:Nat} (ax:2<=p) : ∀ n:Nat,1<=n->strip p n % p≠0:=by
 intro n
 induction n using Nat.strongRecOn with
 | ind n c5 =>
  intro aD;by_cases h:n % p=0
  ·rw [ti ax aD h];exact c5 _ (Nat.div_lt_self aD ax) (tm aD h)
  ·rw [rt h];exact h
theorem Yp {p:Nat} (ax:2<=p) {m:Nat} (hm:1<=m) : ∀ e:Nat,strip p (p ^ e * m)=strip p m:=by
 intro e
 induction e with
 | zero=>rw [Nat.pow_zero,Nat.one_mul]
 | succ e c5 =>
  have af:p ^ (e+1) * m=p * (p ^ e * m):=by rw [Nat.pow_succ,Nat.mul_comm (p ^ e) p,Nat.mul_assoc]
  have ig:1<=p ^ e * m:=Nat.mul_pos (Nat.pow_pos (by omega)) hm;have ai:1<=p * (p ^ e * m):=Nat.mul_pos (by omega) ig;rw [af,ti ax ai (Nat.mul_mod_right _ _),Nat.mul_div_cancel_left _ (by omega)];exact c5
def dk:List Nat:=[2,3,5,7,11,13,17,19,23,29]
def gY (ag:List Nat) (n:Nat):Nat:=ag.foldl (λ m p=>strip p m) n
def iq (n:Nat):Nat:=gY dk n
theorem y9 : ∀ (ag:List Nat),(∀ p∈ag,2<=p) -> ∀ n,1<=n->1<=gY ag n
 | [],_,_,h=>h
 | p::ag,ax,n,h=>y9 ag (λ q aS=>ax q (List.mem_cons_of_mem _ aS)) _ (wd (ax p List.mem_cons_self) n h)
theorem kS : ∀ p∈dk,2<=p:=by decide
theorem aav {n:Nat} (h:1<=n):1<=iq n:=y9 dk kS n h
def oR (a b:Nat):Bool:=dk.all λ p=>a % p != 0||b % p != 0
theorem Lx {a b:Nat}:oR a b=true ↔ ∀ p∈dk,¬ (p∣a/\p∣b):=by
 unfold oR;rw [List.all_eq_true];constructor
 ·intro h p ax ⟨af,ai⟩;have:=h p ax;rw [Nat.mod_eq_zero_of_dvd af,Nat.mod_eq_zero_of_dvd ai] at this;exact absurd this (by decide)
 ·intro h p ax;by_cases af:a % p=0
  ·by_cases ai:b % p=0
   ·exact absurd ⟨Nat.dvd_of_mod_eq_zero af,Nat.dvd_of_mod_eq_zero ai⟩ (h p ax)
   ·simp [ai]
  ·simp [af]
def iL:List Nat->List Nat->Nat
 | p::ag,e::ao=>p ^ e * iL ag ao
 | _,_=>1
theorem DA : ∀ (ag ao:List Nat),(∀ p∈ag,2<=p)->1<=iL ag ao
 | [],_,_=>Nat.le_refl _
 | _::_,[],_=>Nat.le_refl _
 | p::ag,e::ao,h=>Nat.mul_pos (Nat.pow_pos (by have:=h p List.mem_cons_self;omega)) (DA ag ao λ q aS=>h q (List.mem_cons_of_mem _ aS))
theorem Dr {p:Nat} : ∀ (ag ao:List Nat),(∀ q∈ag,Nat.Coprime p q)->Nat.Coprime p (iL ag ao)
 | [],_,_=>Nat.coprime_one_right p
 | _::_,[],_=>Nat.coprime_one_right p
 | q::ag,e::ao,h=>Nat.Coprime.mul_right (Nat.Coprime.pow_right e (h q List.mem_cons_self)) (Dr ag ao λ r aq=>h r (List.mem_cons_of_mem _ aq))
theorem aa4 {p n:Nat} (ax:2<=p) (c:Nat.Coprime p n):n % p≠0:=λ h=>by
 have:=c.eq_one_of_dvd (Nat.dvd_of_mod_eq_zero h);omega
theorem Yo {p:Nat} (ax:2<=p):strip p 1=1:=rt (by rw [Nat.mod_eq_of_lt (by omega)];decide)
theorem Lh : ∀ (ag:List Nat),(∀ p∈ag,2<=p)->gY ag 1=1
 | [],_=>rfl
 | p::ag,h=>by
  show gY ag (strip p 1)=1;rw [Yo (h p List.mem_cons_self)];exact Lh ag λ q aS=>h q (List.mem_cons_of_mem _ aS)
theorem LZ : ∀ (ag ao:List Nat),(∀ p∈ag,2<=p)->ag.Pairwise Nat.Coprime->gY ag (iL ag ao)=1
 | [],_,_,_=>rfl
 | p::ag,[],h,_=>Lh (p::ag) h
 | p::ag,e::ao,h,c=>by
  have ax:=h p List.mem_cons_self;have aW : ∀ q∈ag,2<=q:=λ q aS=>h q (List.mem_cons_of_mem _ aS)
  have cN:=List.pairwise_cons.mp c;show gY ag (strip p (p ^ e * iL ag ao))=1;rw [Yp ax (DA ag ao aW),rt (aa4 ax (Dr ag ao cN.1))];exact LZ ag ao aW cN.2
theorem y8:dk.Pairwise Nat.Coprime:=by decide
def prod (ao:List Nat):Nat:=iL dk ao
theorem Wz (ao:List Nat):1<=prod ao:=DA _ _ kS
theorem aa0 (ao:List Nat):iq (prod ao)=1:=LZ _ _ kS y8
theorem Cy {p:Nat} : ∀ (ag ao:List Nat) (k:Nat),ag.Pairwise Nat.Coprime->ag[k]?=some p->ao.getD k 0=0->Nat.Coprime p (iL ag ao)
 | [],_,_,_,h,_=>by simp at h
 | _::_,[],_,_,_,_=>Nat.coprime_one_right p
 | q::ag,e::ao,0,c,h,h0=>by
  simp at h h0;subst h;subst h0;show Nat.Coprime q (q ^ 0 * iL ag ao);rw [Nat.pow_zero,Nat.one_mul];exact Dr ag ao (List.pairwise_cons.mp c).1
 | q::ag,e::ao,k+1,c,h,h0=>by
  have cN:=List.pairwise_cons.mp c;have h':ag[k]?=some p:=by simpa using h
  have hm:p∈ag:=List.mem_of_getElem? h';refine Nat.Coprime.mul_right (Nat.Coprime.pow_right e (Nat.Coprime.symm (cN.1 p hm))) ?_;exact Cy ag ao k cN.2 h' (by simpa using h0)
theorem aah {ao aA:List Nat} (h : ∀ k,ao.getD k 0=0\/aA.getD k 0=0):oR (prod ao) (prod aA)=true:=by
 rw [Lx];intro p ax ⟨af,ai⟩;obtain ⟨k,aB⟩:=List.getElem?_of_mem ax;have t8:=kS p ax;rcases h k with e | e
 ·have:=(Cy dk ao k y8 aB e).eq_one_of_dvd af;omega
 ·have:=(Cy dk aA k y8 aB e).eq_one_of_dvd ai;omega
theorem J6 : ∀ (ag ao:List Nat),(∀ p∈ag,p<=29)->iL ag ao<=29 ^ ao.sum
 | [],_,_=>Nat.pow_pos (by decide)
 | _::_,[],_=>Nat.le_refl _
 | p::ag,e::ao,h=>by
  rw [List.sum_cons,Nat.pow_add];exact Nat.mul_le_mul (Nat.pow_le_pow_left (h p List.mem_cons_self) e) (J6 ag ao λ q aS=>h q (List.mem_cons_of_mem _ aS))
theorem UT (ao:List Nat):prod ao<=29 ^ ao.sum:=J6 dk ao (by decide)
def ij (i:Int):Bool:=decide (1<=i)&&decide (i<=1000000000000)&&decide (iq i.toNat=1)
def i_ (i j:Int):Bool:=ij i&&ij j&&oR i.toNat j.toNat
theorem Li {ao:List Nat} (h:ao.sum<=3):ij (prod ao:Nat)=true:=by
 unfold ij;have af:=Wz ao;have ai:=UT ao;have aF:29 ^ ao.sum<=29 ^ 3:=Nat.pow_le_pow_right (by decide) h;have aX:(29:Nat) ^ 3=24389:=by decide
 rw [Bool.and_eq_true,Bool.and_eq_true,decide_eq_true_iff,decide_eq_true_iff,decide_eq_true_iff];refine ⟨⟨by omega,by omega⟩,?_⟩;rw [Int.toNat_natCast];exact aa0 ao
theorem Y4 {ao aA:List Nat} (af:ao.sum<=3) (ai:aA.sum<=3) (h : ∀ k,ao.getD k 0=0\/aA.getD k 0=0):i_ (prod ao:Nat) (prod aA:Nat)=true:=by
 unfold i_;rw [Li af,Li ai,Int.toNat_natCast,Int.toNat_natCast,aah h];rfl
def ups (xs:List Int):List Nat:=xs.map Int.toNat
def downs (xs:List Int):List Nat:=xs.map λ x=>(-x).toNat
theorem aay (xs:List Int) (k:Nat):(ups xs).getD k 0=0\/(downs xs).getD k 0=0:=by
 unfold ups downs;rw [List.getD_eq_getElem?_getD,List.getD_eq_getElem?_getD,List.getElem?_map,List.getElem?_map];cases xs[k]? with
 | none=>exact .inl rfl
 | some x=>simp;omega
theorem wi : ∀ (xs:List Nat) (k:Nat) (v:Nat),(xs.set k v).sum+xs.getD k 0<=xs.sum+v
 | [],k,v=>by simp
 | x::xs,0,v=>by simp;omega
 | x::xs,k+1,v=>by
  have:=wi xs k v;simp only [List.set_cons_succ,List.sum_cons,List.getD_cons_succ];omega
theorem I5 {xs:List Int} {k:Nat} {x:Int} (h:xs[k]?=some x):(ups (xs.set k (x+1))).sum<=(ups xs).sum+1:=by
 have q:=wi (ups xs) k (x+1).toNat;have e:(ups xs).getD k 0=x.toNat:=by unfold ups;rw [List.getD_eq_getElem?_getD,List.getElem?_map,h];rfl
 rw [e] at q;have aQ:ups (xs.set k (x+1))=(ups xs).set k (x+1).toNat:=by unfold ups;rw [List.map_set]
 rw [aQ];omega
theorem W3 {xs:List Int} {k:Nat} {x:Int} (h:xs[k]?=some x):(ups (xs.set k (x - 1))).sum<=(ups xs).sum:=by
 have q:=wi (ups xs) k (x - 1).toNat;have e:(ups xs).getD k 0=x.toNat:=by unfold ups;rw [List.getD_eq_getElem?_getD,List.getElem?_map,h];rfl
 rw [e] at q;have aQ:ups (xs.set k (x - 1))=(ups xs).set k (x - 1).toNat:=by unfold ups;rw [List.map_set]
 rw [aQ];omega
theorem Y2 {xs:List Int} {k:Nat} {x:Int} (h:xs[k]?=some x):(downs (xs.set k (x - 1))).sum<=(downs xs).sum+1:=by
 have q:=wi (downs xs) k (-(x - 1)).toNat;have e:(downs xs).getD k 0=(-x).toNat:=by unfold downs;rw [List.getD_eq_getElem?_getD,List.getElem?_map,h];rfl
 rw [e] at q;have aQ:downs (xs.set k (x - 1))=(downs xs).set k (-(x - 1)).toNat:=by unfold downs;rw [List.map_set]
 rw [aQ];omega
theorem VQ {xs:List Int} {k:Nat} {x:Int} (h:xs[k]?=some x):(downs (xs.set k (x+1))).sum<=(downs xs).sum:=by
 have q:=wi (downs xs) k (-(x+1)).toNat;have e:(downs xs).getD k 0=(-x).toNat:=by unfold downs;rw [List.getD_eq_getElem?_getD,List.getElem?_map,h];rfl
 rw [e] at q;have aQ:downs (xs.set k (x+1))=(downs xs).set k (-(x+1)).toNat:=by unfold downs;rw [List.map_set]
 rw [aQ];omega
theorem Lq {xs:List Int} (af:(ups xs).sum<=3) (ai:(downs xs).sum<=3):i_ (prod (ups xs):Nat) (prod (downs xs):Nat)=true:=Y4 af ai (aay xs)
end fz
namespace bI
open PySem PySem.Spec PyProof.Rows
theorem Wt {X:aP} {x:Str} {i:Int} {pos:Pos} (aI:dy X x) (hm : ∃ t,X.mg x=some (.int i t)) (hd:(x == ("__debug__" : Str))=false:=by decide):b9 X (.Name x pos) (iw (.int i)):=by
 obtain ⟨t,h⟩:=hm;exact CT aI h ⟨t,rfl⟩ hd
theorem Wu {X:aP} {x:Str} {i:Str} {pos:Pos} (aI:dy X x) (hm : ∃ t,X.mg x=some (.str i t)) (hd:(x == ("__debug__" : Str))=false:=by decide):b9 X (.Name x pos) (iw (.str i)):=by
 obtain ⟨t,h⟩:=hm;exact CT aI h ⟨t,rfl⟩ hd
def vx (sc jA:Scope):List (Str×NameKind):=sc.names.map λ (n,k)=>if (k == .free&&jA.kind == .function&&jA.names.lookup n == some .cell) then (n,.cell) else (n,k)
def B7 (sc:Scope):List Str:=((sc.names.filter (λ p=>p.2 == .free)).reverse).map (·.1)
def CL (sc jA:Scope) (N o2:List Str) (js:List (Option Nat)):Bool :=
 sc.names.all (λ y=>y.2 != .cell)&&decide (sc.kind=.function)&&sc.names.all (λ y=>y.2 != .local||sc.names.lookup y.1 == some .local) &&
 (vx sc jA).all (λ p => !(p.2 == .cell||p.2 == .free)||(B7 sc).contains p.1)&&js.length == N.length &&
 (List.range N.length).all λ i=>match js[i]?,N[i]? with
  | some (some j),some x=>o2[j]? == some x&&jA.names.lookup x == some .cell&&((vx sc jA).lookup x == some .cell||(vx sc jA).lookup x == some .free)
  | _,_=>true
theorem mem_of_lookup {α β : Type} [BEq α] [LawfulBEq α] : ∀ {l:List (α × β)} {x : α} {c : β},l.lookup x=some c->(x,c)∈l
 | [],_,_,h=>by simp at h
 | (y,d)::r,x,c,h=>by
  rw [List.lookup_cons] at h;cases e:(x == y) with
  | true =>
   rw [e] at h;cases h;rw [eq_of_beq e];exact List.mem_cons_self
  | false =>
   rw [e] at h;exact List.mem_cons_of_mem _ (mem_of_lookup h)
theorem L5 {α β : Type} [BEq α] [LawfulBEq α] : ∀ {l:List (α × β)} {x : α},x∈l.map (·.1) -> ∃ c,l.lookup x=some c
 | [],_,h=>by cases h
 | (y,d)::r,x,h=>by
  rw [List.lookup_cons];cases e:(x == y) with
  | true=>exact ⟨d,rfl⟩
  | false =>
   rcases List.mem_cons.mp h with z | z
   ·rw [z] at e;simp at e
   ·exact L5 z
theorem Xn {X:aP} {sc jA:Scope} {cl:List (Str×Addr)} {N o2:List Str} {js:List (Option Nat)} (aG:X.env.scope=jA) (sA:closureFor sc X.env=pure cl) (aB:cl.map (·.1)=B7 sc)
  (B6 : ∀ p∈cl,X.env.cells.lookup p.1=some p.2) (ug:CL sc jA N o2 js=true) (di:X.N=o2):sN X sc cl N js:=by
 unfold CL at ug;simp only [Bool.and_eq_true] at ug;obtain ⟨⟨⟨⟨⟨af,ai⟩,aF⟩,aX⟩,bT⟩,dn⟩:=ug;have FI:(relabel sc X.env).names=vx sc jA:=by
  unfold relabel vx Env.kindOf;rw [aG]
 refine ⟨sA,?_,of_decide_eq_true ai,?_,?_,?_,eq_of_beq bT,?_⟩
 ·intro y aN;have:=List.all_eq_true.mp af y aN;simpa using this
 ·intro y aN au;have:=List.all_eq_true.mp aF y aN;rw [au] at this;simpa using this
 ·intro x c h;exact B6 (x,c) (mem_of_lookup h)
 ·intro x h;rw [FI] at h;refine L5 ?_;rw [aB];rcases h with h | h
  all_goals
   have:=List.all_eq_true.mp aX _ (mem_of_lookup h);simpa using this
 ·intro i j x xh b3;have ay:i<N.length:=(List.getElem?_eq_some_iff.mp xh).1;have:=List.all_eq_true.mp dn i (List.mem_range.mpr ay);rw [b3,xh] at this;simp only [Bool.and_eq_true,Bool.or_eq_true] at this;obtain ⟨⟨a,b⟩,c⟩:=this;refine ⟨?_,?_,?_⟩
  ·rw [di];exact eq_of_beq a
  ·rw [aG];exact eq_of_beq b
  ·rw [FI];rcases c with c | c
   ·exact .inl (eq_of_beq c)
   ·exact .inr (eq_of_beq c)
end bI
namespace cy
open PySem bI
theorem fh:bootBuiltins "len" = some (.builtin "len"):=PySem.boot_len
theorem df:bootBuiltins "isinstance" = some (.builtin "isinstance"):=by decide +kernel
theorem sF:bootBuiltins "int" = some (.type "int"):=by decide +kernel
theorem pV:bootBuiltins "bool" = some (.type "bool"):=by decide +kernel
theorem gu:bootBuiltins "tuple" = some (.type "tuple"):=by decide +kernel
theorem q9:bootBuiltins "list" = some (.type "list"):=by decide +kernel
theorem nc:bootBuiltins "str" = some (.type "str"):=by decide +kernel
theorem Ue:bootBuiltins "range" = some (.type "range"):=by decide +kernel
theorem sG:bootBuiltins "max" = some (.builtin "max"):=by decide +kernel
theorem vC:bootBuiltins "min" = some (.builtin "min"):=by decide +kernel
theorem oE:bootBuiltins "all" = some (.builtin "all"):=by decide +kernel
def d5 (H:ah):V->Prop
 | .bg=>True
 | .aJ _=>True
 | .int _=>True
 | .str _=>True
 | .ref a=>(∃ xs,H a=some (.tup xs))\/(∃ xs,H a=some (.lst xs))\/(∃ kvs,H a=some (.bp kvs))
 | _=>False
def kN:Option dG->Option (List V)
 | some (.tup xs)=>some xs
 | _=>none
def er (H:ah):V->Option (List V)
 | .ref a=>kN (H a)
 | _=>none
theorem oQ {H:ah} {a:Addr} {xs:List V} (h:H a=some (.tup xs)):er H (.ref a)=some xs:=by
 show kN (H a)=_;rw [h];rfl
theorem rk {H:ah} {v:V} {xs:List V} (h:er H v=some xs) : ∃ a,v=.ref a/\H a=some (.tup xs):=by
 cases v with
 | ref a =>
  refine ⟨a,rfl,?_⟩;have h':kN (H a)=some xs:=h;cases e:H a with
  | none=>rw [e] at h';cases h'
  | some o =>
   rw [e] at h';cases o<;>first | (cases h';rfl) | cases h'
 | _=>cases h
def xA:V->Bool
 | .int _=>true
 | .aJ _=>true
 | _=>false
def GX:V->Bool
 | .aJ _=>true
 | _=>false
def sf:V->Bool
 | .int _=>true
 | _=>false
theorem IL (v:V):(xA v && !GX v)=sf v:=by cases v<;>rfl
theorem CR {v:V} (h:sf v=true) : ∃ i,v=.int i:=by
 cases v with
 | int i=>exact ⟨i,rfl⟩
 | _=>cases h
section
variable {K:PySem.W.Frag} {H:ah} {v:V}
theorem pQ (k:d5 H v) : ∃ t,ie K H v t/\PySem.W.kitOne K t (.type "tuple")=some (er H v).isSome:=by
 cases v with
 | bg=>exact ⟨_,.bg,by kernel_rfl⟩
 | aJ b=>exact ⟨_,.aJ b,by kernel_rfl⟩
 | int i=>exact ⟨_,.int i,by kernel_rfl⟩
 | str x=>exact ⟨_,.str x,by kernel_rfl⟩
 | ref a =>
  rcases (show (∃ xs,H a=some (.tup xs))\/(∃ xs,H a=some (.lst xs))\/(∃ kvs,H a=some (.bp kvs)) from k) with ⟨xs,e⟩ | ⟨xs,e⟩ | ⟨kvs,e⟩
  ·exact ⟨_,.tup e,by rw [oQ e];kernel_rfl⟩
  ·refine ⟨_,.lst e,?_⟩;show _=some (kN (H a)).isSome;rw [e];kernel_rfl
  ·refine ⟨_,.bp e,?_⟩;show _=some (kN (H a)).isSome;rw [e];kernel_rfl
 | _=>exact False.elim k
theorem vG (k:d5 H v) : ∃ t,ie K H v t/\PySem.W.kitOne K t (.type "int")=some (xA v):=by
 cases v with
 | bg=>exact ⟨_,.bg,by kernel_rfl⟩
 | aJ b=>exact ⟨_,.aJ b,by kernel_rfl⟩
 | int i=>exact ⟨_,.int i,by kernel_rfl⟩
 | str x=>exact ⟨_,.str x,by kernel_rfl⟩
 | ref a =>
  rcases (show (∃ xs,H a=some (.tup xs))\/(∃ xs,H a=some (.lst xs))\/(∃ kvs,H a=some (.bp kvs)) from k) with ⟨xs,e⟩ | ⟨xs,e⟩ | ⟨kvs,e⟩
  ·exact ⟨_,.tup e,by kernel_rfl⟩
  ·exact ⟨_,.lst e,by kernel_rfl⟩
  ·exact ⟨_,.bp e,by kernel_rfl⟩
 | _=>exact False.elim k
theorem sI (k:d5 H v) : ∃ t,ie K H v t/\PySem.W.kitOne K t (.type "bool")=some (GX v):=by
 cases v with
 | bg=>exact ⟨_,.bg,by kernel_rfl⟩
 | aJ b=>exact ⟨_,.aJ b,by kernel_rfl⟩
 | int i=>exact ⟨_,.int i,by kernel_rfl⟩
 | str x=>exact ⟨_,.str x,by kernel_rfl⟩
 | ref a =>
  rcases (show (∃ xs,H a=some (.tup xs))\/(∃ xs,H a=some (.lst xs))\/(∃ kvs,H a=some (.bp kvs)) from k) with ⟨xs,e⟩ | ⟨xs,e⟩ | ⟨kvs,e⟩
  ·exact ⟨_,.tup e,by kernel_rfl⟩
  ·exact ⟨_,.lst e,by kernel_rfl⟩
  ·exact ⟨_,.bp e,by kernel_rfl⟩
 | _=>exact False.elim k
end
theorem aC.kind {H H':ah} (s:aC H H') {v:V} (k:d5 H v):d5 H' v:=by
 cases v with
 | ref a =>
  rcases (show (∃ xs,H a=some (.tup xs))\/(∃ xs,H a=some (.lst xs))\/(∃ kvs,H a=some (.bp kvs)) from k) with ⟨xs,e⟩ | ⟨xs,e⟩ | ⟨kvs,e⟩
  ·exact .inl ⟨xs,s _ _ e⟩
  ·exact .inr (.inl ⟨xs,s _ _ e⟩)
  ·exact .inr (.inr ⟨kvs,s _ _ e⟩)
 | bg=>trivial
 | aJ b=>trivial
 | int i=>trivial
 | str x=>trivial
 | iB b=>exact False.elim k
 | hi b=>exact False.elim k
 | ty b=>exact False.elim k
def bW (a:Addr) (H H':ah):Prop := ∀ b o,b≠a->H b=some o->H' b=some o
theorem bW.refl (a:Addr) (H:ah):bW a H H:=λ _ _ _ h=>h
theorem bW.trans {a:Addr} {H H1 ar:ah} (x:bW a H H1) (y:bW a H1 ar):bW a H ar:=λ b o n h=>y b o n (x b o n h)
theorem bW.of {a:Addr} {H H':ah} (x:aC H H'):bW a H H':=λ b o _ h=>x b o h
theorem bW.free {a:Addr} {H H':ah} (x:bW a H H') {p:Addr} (h:H' p=none) (ax:p≠a):H p=none:=by
 cases q:H p with
 | none=>rfl
 | some o=>rw [x p o ax q] at h;cases h
theorem bW.Sh {a:Addr} {H H':ah} (x:bW a H H') {o:dG} (aw:H' a=some o) {p:Addr} (h:H' p=none):H p=none :=
 x.free h λ z=>by rw [z,aw] at h;cases h
theorem bW.upd {a:Addr} {H:ah} {o:dG}:bW a H (upd H a o):=λ b q n h=>by rw [a8 n];exact h
theorem bW.new {a p:Addr} {H H':ah} {o:dG} (x:bW a H H') (h:H' p=none):bW a H (bI.upd H' p o):=λ b q n e=>by rw [a8 (cj (x b q n e) h)];exact x b q n e
theorem bW.set {a:Addr} {H H':ah} {o:dG} (x:bW a H H'):bW a H (bI.upd H' a o):=λ b q n e=>by rw [a8 n];exact x b q n e
theorem aC.new {H:ah} {p:Addr} {o:dG} (h:H p=none):aC H (upd H p o):=λ b q e=>by rw [a8 (cj e h)];exact e
theorem aC.more {H H':ah} {p:Addr} {o:dG} (s:aC H H') (h:H' p=none):aC H (upd H' p o):=s.trans (aC.new h)
theorem aC.tup {K:PySem.W.Frag} {H H':ah} {a:Addr} {xs:List V} (e:aC H H') (h:aR K H a xs):aR K H' a xs:=by
 rcases h with (h | ⟨o,h⟩) | h
 ·exact .inl (.inl (e _ _ h))
 ·exact .inl (.inr ⟨o,e _ _ h⟩)
 ·exact .inr h
theorem kd {ns:List Int} {i:Nat} {y:V} (h:(ns.map V.int)[i]?=some y) : ∃ z,y=.int z/\ns[i]?=some z:=by
 rw [List.getElem?_map] at h;cases e:ns[i]? with
 | none=>rw [e] at h;cases h
 | some z=>rw [e] at h;exact ⟨z,(Option.some.inj h).symm,rfl⟩
theorem lL {α : Type} {xs:List α} {i:Int} {v : α} (h0:0<=i) (h:xs[i.toNat]?=some v):gA xs i=some v:=by
 have:=Jb h
 rwa [Int.toNat_of_nonneg h0] at this
theorem vQ {n:Nat} {i:Int} (h0:0<=i) (h:i<n):ma n i=some i.toNat:=by
 unfold ma;rw [if_pos h0,if_pos h]
end cy
namespace bI
open PySem PySem.Spec PyProof.Rows
def noStar:Expr->Bool
 | .Starred _ _=>false
 | _=>true
theorem ry {e:Expr} (h:noStar e=true) (ao:List Expr) (env:Env):starEach (e::ao) env=(false,eval e env)::starEach ao env:=by
 cases e<;>first | rfl | cases h
theorem RV {X:aP} {e:Expr} {ao:List Expr} {bh:TE} {t:c3} (aw:b9 X e bh) (aq:hA X ao t) (h:noStar e=true:=by rfl):hA X (e::ao) (yr bh t):=UD aw aq (ry h ao X.env)
section
variable {K:PySem.W.Frag} {a D:Addr} {js:List (Option Nat)} {g:eG} {bh:TE} {σ:St} {H1:ah} {Q:bz}
theorem wg {b1:g4} {n:Nat} (aD:n<=sizeLine) (Pv:Nat->St->ah->List V->Prop) (h0:Pv 0 (pick js σ) (upd H1 D (.lst [])) [])
  (ks : ∀ i σ' H' ys,i<n->H' D=some (.lst ys)->Pv i σ' H' ys->b1.go i H') (cB : ∀ σ' H' ys,H' D=some (.lst ys)->ys.length=n->Pv n σ' H' ys->b1.stop n H'/\Q (.ref D) H')
  (az : ∀ i σ' H' ys x ar (R:St->V->ah->Prop),i<n->H' D=some (.lst ys)->ys.length=i->Pv i σ' H' ys->b1.j5 i H' x ar ->
   (∀ σ2 y bc,bc D=some (.lst ys)->Pv (i+1) σ2 (upd bc D (.lst (ys++[y]))) (ys++[y])->R σ2 y bc)->g x σ' ar λ σ2 aK=>bh σ2 aK λ y bc=>R σ2 y bc) :
  iI b1 D js g kc bh σ H1 Q:=by
 refine ⟨λ i m σ' H' ys=>m=n - i/\i<=n/\H' D=some (.lst ys)/\ys.length=i/\Pv i σ' H' ys,⟨n,rfl,Nat.zero_le _,bA,rfl,h0⟩,?_⟩;rintro i m σ' H' ys ⟨rfl,ay,a4,aN,p⟩;refine ⟨a4,?_⟩;by_cases e:i=n
 ·subst e;exact .inl (cB σ' H' ys a4 aN p)
 ·have dE:i<n:=by omega
  refine .inr ⟨ks i σ' H' ys dE a4 p,by omega,λ σ2 ar zs=>ar D=some (.lst zs)/\zs.length=i+1/\Pv (i+1) σ2 ar zs,λ σ2 ar zs ⟨fs,e4,iZ⟩=>⟨n - (i+1),by omega,rfl,by omega,fs,e4,iZ⟩,λ x ar ak=>?_⟩;exact az i σ' H' ys x ar (λ σ2 y bc=>bc D=some (.lst ys)/\(upd bc D (.lst (ys++[y]))) D=some (.lst (ys++[y]))/\(ys++[y]).length=i+1/\Pv (i+1) σ2 (upd bc D (.lst (ys++[y]))) (ys++[y])) dE a4 aN p ak
   λ σ2 y bc fs e4=>⟨fs,bA,by rw [List.length_append,aN];rfl,e4⟩
theorem Y1 {lo:Int} {n:Nat} (aD:n<=sizeLine) (Pv:Nat->St->ah->List V->Prop) (h0:Pv 0 (pick js σ) (upd H1 D (.lst [])) [])
  (az : ∀ i σ' H' ys (R:St->V->ah->Prop),i<n->H' D=some (.lst ys)->ys.length=i->Pv i σ' H' ys->(∀ σ2 y bc,bc D=some (.lst ys)->Pv (i+1) σ2 (upd bc D (.lst (ys++[y]))) (ys++[y])->R σ2 y bc) ->
   g (.int (lo+i)) σ' H' λ σ2 aK=>bh σ2 aK λ y bc=>R σ2 y bc)
  (cB : ∀ σ' H' ys,H' D=some (.lst ys)->ys.length=n->Pv n σ' H' ys->Q (.ref D) H'):iI (pe lo n) D js g kc bh σ H1 Q :=
 wg aD Pv h0 (λ i _ _ _ ay _ _=>ay) (λ σ' H' ys a b c=>⟨Nat.le_refl _,cB σ' H' ys a b c⟩) λ i σ' H' ys x ar R ay a b c ⟨aO,aQ⟩=>by
  subst aO;subst aQ;exact az i σ' ar ys R ay a b c
theorem Kz {xs:List V} (aD:xs.length<=sizeLine) (Pv:Nat->St->ah->List V->Prop) (h0:Pv 0 (pick js σ) (upd H1 D (.lst [])) [])
  (au : ∀ i σ' H' ys,i<=xs.length->H' D=some (.lst ys)->Pv i σ' H' ys->a3 K H' a xs)
  (az : ∀ i x σ' H' ys (R:St->V->ah->Prop),xs[i]?=some x->H' D=some (.lst ys)->ys.length=i->Pv i σ' H' ys->(∀ σ2 y bc,bc D=some (.lst ys)->Pv (i+1) σ2 (upd bc D (.lst (ys++[y]))) (ys++[y])->R σ2 y bc) ->
   g x σ' H' λ σ2 aK=>bh σ2 aK λ y bc=>R σ2 y bc)
  (cB : ∀ σ' H' ys,H' D=some (.lst ys)->ys.length=xs.length->Pv xs.length σ' H' ys->Q (.ref D) H'):iI (rX K a) D js g kc bh σ H1 Q :=
 wg aD Pv h0 (λ i σ' H' ys ay a4 p=>⟨xs,xs[i],au i σ' H' ys (by omega) a4 p,List.getElem?_eq_getElem ay⟩)
  (λ σ' H' ys a4 b c=>⟨⟨xs,au _ σ' H' ys (Nat.le_refl _) a4 c,Nat.le_refl _⟩,cB σ' H' ys a4 b c⟩) λ i σ' H' ys x ar R ay a4 b c ⟨aO,aQ⟩=>by
  subst aO;exact az i x σ' ar ys R (aQ xs (au i σ' ar ys (by omega) a4 c)) a4 b c
theorem yO {xs:List V} (aD:xs.length<=sizeLine) (Pv:Nat->St->ah->List V->Prop) (h0:Pv 0 (pick js σ) (upd H1 D (.lst [])) [])
  (au : ∀ i σ' H' ys,i<=xs.length->H' D=some (.lst ys)->Pv i σ' H' ys->aR K H' a xs)
  (az : ∀ i x σ' H' ys (R:St->V->ah->Prop),xs[i]?=some x->H' D=some (.lst ys)->ys.length=i->Pv i σ' H' ys->(∀ σ2 y bc,bc D=some (.lst ys)->Pv (i+1) σ2 (upd bc D (.lst (ys++[y]))) (ys++[y])->R σ2 y bc) ->
   g x σ' H' λ σ2 aK=>bh σ2 aK λ y bc=>R σ2 y bc)
  (cB : ∀ σ' H' ys,H' D=some (.lst ys)->ys.length=xs.length->Pv xs.length σ' H' ys->Q (.ref D) H'):iI (pf K a) D js g kc bh σ H1 Q :=
 wg aD Pv h0 (λ i σ' H' ys ay a4 p=>⟨xs,xs[i],au i σ' H' ys (by omega) a4 p,List.getElem?_eq_getElem ay⟩)
  (λ σ' H' ys a4 b c=>⟨⟨xs,au _ σ' H' ys (Nat.le_refl _) a4 c,Nat.le_refl _⟩,cB σ' H' ys a4 b c⟩) λ i σ' H' ys x ar R ay a4 b c ⟨aO,aQ⟩=>by
  subst aO;exact az i x σ' ar ys R (aQ xs (au i σ' ar ys (by omega) a4 c)) a4 b c
end
theorem a3.yL {K:PySem.W.Frag} {H:ah} {a D:Addr} {xs:List V} {o:dG} (h:a3 K H a xs) (n:H D=none):a3 K (upd H D o) a xs:=by
 rcases h with (h | ⟨u,h⟩) | h
 ·exact .inl (.inl (by rw [a8 (cj h n)];exact h))
 ·exact .inl (.inr ⟨u,by rw [a8 (cj h n)];exact h⟩)
 ·exact .inr h
theorem aR.yL {K:PySem.W.Frag} {H:ah} {a D:Addr} {xs:List V} {o:dG} (h:aR K H a xs) (n:H D=none):aR K (upd H D o) a xs:=by
 rcases h with (h | ⟨u,h⟩) | h
 ·exact .inl (.inl (by rw [a8 (cj h n)];exact h))
 ·exact .inl (.inr ⟨u,by rw [a8 (cj h n)];exact h⟩)
 ·exact .inr h
theorem wq {α β : Type} {f : α -> β} {xs:List α} {i:Nat} {x : α} (h:xs[i]?=some x):(xs.take (i+1)).map f=(xs.take i).map f++[f x]:=by
 rw [List.take_add_one,h,List.map_append];rfl
section
variable {K:PySem.W.Frag} {a D:Addr} {js:List (Option Nat)} {bh:TE} {σ:St} {H1:ah} {Q:bz}
theorem L3 {xs:List V} {o:Option V} {σ0:St} {f:V->V} (ax:pick js σ=o::σ0) (aD:xs.length<=sizeLine) (a4:H1 D=none) (c8:a3 K H1 a xs)
  (az : ∀ (x:V) (H':ah) (R:bz),x∈xs->R (f x) H'->bh (some x::σ0) H' R) (q:Q (.ref D) (upd H1 D (.lst (xs.map f)))):iI (rX K a) D js (gW 0) kc bh σ H1 Q:=by
 refine Kz (xs:=xs) aD (λ i σ' H' ys=>(∃ u,σ'=u::σ0)/\ys=(xs.take i).map f/\H'=upd H1 D (.lst ys)) ⟨⟨o,ax⟩,rfl,rfl⟩ ?_ ?_ ?_
 ·rintro i σ' H' ys _ _ ⟨_,rfl,rfl⟩;exact c8.yL a4
 ·rintro i x σ' H' ys R ak _ _ ⟨⟨u,rfl⟩,rfl,rfl⟩ k;refine az x _ _ (List.mem_of_getElem? ak) (k _ _ _ bA ⟨⟨_,rfl⟩,(wq ak).symm,C1⟩)
 ·rintro σ' H' ys _ _ ⟨_,rfl,rfl⟩;rw [List.take_length];exact q
theorem LM {xs:List V} {o:Option V} {σ0:St} {f:V->V} (ax:pick js σ=o::σ0) (aD:xs.length<=sizeLine) (a4:H1 D=none) (c8:aR K H1 a xs)
  (az : ∀ (x:V) (H':ah) (R:bz),x∈xs->R (f x) H'->bh (some x::σ0) H' R) (q:Q (.ref D) (upd H1 D (.lst (xs.map f)))):iI (pf K a) D js (gW 0) kc bh σ H1 Q:=by
 refine yO (xs:=xs) aD (λ i σ' H' ys=>(∃ u,σ'=u::σ0)/\ys=(xs.take i).map f/\H'=upd H1 D (.lst ys)) ⟨⟨o,ax⟩,rfl,rfl⟩ ?_ ?_ ?_
 ·rintro i σ' H' ys _ _ ⟨_,rfl,rfl⟩;exact c8.yL a4
 ·rintro i x σ' H' ys R ak _ _ ⟨⟨u,rfl⟩,rfl,rfl⟩ k;refine az x _ _ (List.mem_of_getElem? ak) (k _ _ _ bA ⟨⟨_,rfl⟩,(wq ak).symm,C1⟩)
 ·rintro σ' H' ys _ _ ⟨_,rfl,rfl⟩;rw [List.take_length];exact q
end
theorem tj {c:TT} {bk:dr} {D:Ends} {σ:St} {H:ah} (Pv:St->ah->Prop) (μ : St->ah->Nat) (h0:Pv σ H)
  (az : ∀ σ H,Pv σ H->c σ H λ b H1=>if b=true then ∃ N:St->ah->Prop,(∀ σ' H',N σ' H' -> ∃ cJ,cJ < μ σ H/\cJ = μ σ' H'/\Pv σ' H')/\bk { D with bF:=N,cu:=N,aY:=D.bF } σ H1 else D.bF σ H1):CH c bk D σ H :=
 ⟨λ m σ H=>m = μ σ H/\Pv σ H,⟨_,rfl,h0⟩,λ m σ H ⟨e,p⟩=>by subst e;exact az σ H p⟩
theorem sq {bk:dr} {D:Ends} {σ:St} {H1:ah} {m:Nat} {Pv:St->ah->Prop} {μ : St->ah->Nat} (h:bk { D with bF:=λ σ' H'=>Pv σ' H' /\ μ σ' H'<m,cu:=λ σ' H'=>Pv σ' H' /\ μ σ' H'<m,aY:=D.bF } σ H1) :
  ∃ N:St->ah->Prop,(∀ σ' H',N σ' H' -> ∃ cJ,cJ<m/\cJ = μ σ' H'/\Pv σ' H')/\bk { D with bF:=N,cu:=N,aY:=D.bF } σ H1:=⟨_,λ _ _ ⟨a,b⟩=>⟨_,b,rfl,a⟩,h⟩
theorem IZ {n d:Nat} {i:Int} (h:0<=i):dT.cx n d (some i)=min i.toNat n:=by
 show (if i<0 then _ else _)=_;rw [if_neg (by omega)]
theorem C5 {xs:List V} {i:Int} (h:0<=i):kH xs none (some i)=xs.take i.toNat:=by
 unfold kH;rw [IZ h];show (xs.drop 0).take (min i.toNat xs.length - 0)=_;rw [List.drop_zero,Nat.sub_zero];rcases Nat.le_total i.toNat xs.length with g | g
 ·rw [Nat.min_eq_left g]
 ·rw [Nat.min_eq_right g,List.take_of_length_le (Nat.le_refl _),List.take_of_length_le g]
structure bC (X:aP) (e:Expr) (t:TE):Prop where
 o:b9 X e t
structure kh (X:aP) (e:Expr) (t:TT):Prop where
 o:kg X e t
structure ez (X:aP) (e:Expr) (t:TT):Prop where
 o:mA X e t
structure eZ (X:aP) (e:List Expr) (t:c3):Prop where
 o:hA X e t
structure gJ (X:aP) (e:Stmt) (t:dr):Prop where
 o:jK X e t
structure h4 (X:aP) (e:List Stmt) (t:dr):Prop where
 o:jX X e t
structure k6 (X:aP) (e:Expr) (t:eG):Prop where
 o:nF X e t
structure rZ (X:aP) (e:List Expr) (t:ko):Prop where
 o:ud X e t
structure wD (X:aP) (e:Option Expr) (t:bu):Prop where
 o:tN X e t
structure w5 (X:aP) (e:List Expr) (t:TT):Prop where
 o:ue X e t
structure jL (X:aP) (bb e:Expr) (t:TI):Prop where
 o:k4 X bb e t
theorem aa (i:Nat) {x:Str} {pos:Pos} (di:X.N[i]?=some x:=by rfl) (bf:w9 X.env.scope x:=by first | exact Or.inl rfl | exact Or.inr (Or.inl rfl) | exact Or.inr (Or.inr rfl)) (hd:(x == ("__debug__" : Str))=false:=by decide) (hN:(x == ("__classdict__" : Str))=false:=by decide):bC X (.Name x pos) (yc i) :=
 ⟨o_ i di bf hd hN⟩
theorem aL {i j pos}:bC X (.Constant (.int i) j pos) (iw (.int i)) :=
 ⟨Tr ⟩
theorem gX {b j pos}:bC X (.Constant (.bool b) j pos) (iw (.aJ b)) :=
 ⟨Ss ⟩
theorem fj {j pos}:bC X (.Constant .none j pos) (iw .bg) :=
 ⟨IT ⟩
theorem dq {x j pos}:bC X (.Constant (.str x) j pos) (iw (.str x)) :=
 ⟨Tv ⟩
theorem jc {x:Str} {v:V} {u:Value} {pos:Pos} (aI:dy X x) (hm:X.mg x=some u) (r:RelV v u) (hd:(x == ("__debug__" : Str))=false:=by decide):bC X (.Name x pos) (iw v) :=
 ⟨CT aI hm r hd⟩
theorem rm {X:aP} {x:Str} {i:Int} {pos:Pos} (aI:dy X x) (hm : ∃ t,X.mg x=some (.int i t)) (hd:(x == ("__debug__" : Str))=false:=by decide):bC X (.Name x pos) (iw (.int i)) :=
 ⟨Wt aI hm hd⟩
theorem WL {X:aP} {x:Str} {i:Str} {pos:Pos} (aI:dy X x) (hm : ∃ t,X.mg x=some (.str i t)) (hd:(x == ("__debug__" : Str))=false:=by decide):bC X (.Name x pos) (iw (.str i)) :=
 ⟨Wu aI hm hd⟩
theorem d0 {X:aP} {x:Str} {T:String} {pos:Pos} (aI:dy X x) (hm:X.mg x=none) (bf:bootBuiltins x=some (.type T)) (aD:x ≠ "__name__" := by decide) (hd:(x == ("__debug__" : Str))=false:=by decide):bC X (.Name x pos) (iw (.ty T)) :=
 ⟨Sy aI hm bf aD hd⟩
theorem b8 {a:Expr} {b:Expr} {op:Operator} {r:e_} (aG:dD X (binaryOp op) r) (aw:bC X a aZ) (J:bC X b bk):bC X (.BinOp a op b pos) (pD r aZ bk) :=
 ⟨Sw aG aw.o J.o⟩
theorem nf {a:Expr} {op:UnaryOp} {r:V->ah->bz->Prop} (aG:w8 X (unaryOp op) r) (aw:bC X a aZ):bC X (.UnaryOp op a pos) (Hv r aZ) :=
 ⟨Sz aG aw.o⟩
theorem iN {rest:List Expr} {a:Expr} {b:Expr} (aw:bC X a aZ) (J:bC X (.BoolOp .And (b::rest) pos) bk):bC X (.BoolOp .And (a::b::rest) pos) (yp aZ bk) :=
 ⟨To aw.o J.o⟩
theorem SE {rest:List Expr} {a:Expr} {b:Expr} (aw:bC X a aZ) (J:bC X (.BoolOp .Or (b::rest) pos) bk):bC X (.BoolOp .Or (a::b::rest) pos) (H8 aZ bk) :=
 ⟨Sx aw.o J.o⟩
theorem ik {a:Expr} {op} {t:TE} (h:bC X a t):bC X (.BoolOp op [a] pos) t :=
 ⟨Tu h.o⟩
theorem IV {a:Expr} (aw:bC X a aZ):bC X (.UnaryOp .Not a pos) (IB aZ) :=
 ⟨Tt aw.o⟩
theorem gE {a:Expr} {b:Expr} {op:CmpOp} {r:e_} (aG:dD X (compareOp op) r) (aw:bC X a aZ) (J:bC X b bk) (hm:behindInMarks op b=false):bC X (.Compare a [op] [b] pos) (pD r aZ bk) :=
 ⟨UH aG aw.o J.o hm⟩
theorem C_ {a:Expr} {b:Expr} {c:Expr} {op qS:CmpOp} {r bB:e_} (aG:dD X (compareOp op) r) (ju:dD X (compareOp qS) bB) (aw:bC X a aZ) (J:bC X b bk) (aj:bC X c c_) (hm:lastMarks [op,qS] [b,c]=false:=by with_unfolding_all rfl):bC X (.Compare a [op,qS] [b,c] pos) (I1 r bB aZ bk c_) :=
 ⟨Ws aG ju aw.o J.o aj.o hm⟩
theorem IW {hc} (h:eZ X ao t):bC X (.Tuple ao hc pos) (H_ t) :=
 ⟨Tw h.o⟩
theorem vT (h:eZ X ao t):bC X (.List ao pos) (H6 t) :=
 ⟨Ts h.o⟩
theorem cS {a:Expr} {b:Expr} {r:e_} (aq:w4 X r) (aw:bC X a aZ) (J:bC X b bk) (az:I9 b):bC X (.Subscript a b pos) (pD r aZ bk) :=
 ⟨Sv aq aw.o J.o az⟩
theorem rn {lo:Option Expr} {ay:Option Expr} {e:Expr} {r:V->Option Int->Option Int->ah->bz->Prop} (aq:jY X r) (he:bC X e bh) (au:wD X lo ck) (bD:wD X ay bY):bC X (.Subscript e (.Slice lo ay none gh) pos) (Hu r bh ck bY) :=
 ⟨Ww aq he.o au.o bD.o⟩
theorem U4 {e:Expr} (F:dU X.prog X.w X.K X.mg X.base cp k f fd ag sp) (aq:dV k X.A) (aI:dy X x) (hm:X.mg x=some (.ref f)) (aB:PySem.W.keepIn X.K (.ref f)=true) (J:Binds X.K fd ag ds) (hd:Vals eD ds) (ak:Passes cp X E) (aw:eZ X (e::ao) t) (eg:(x == ("__debug__" : Str))=false:=by decide) (he:starEach (e::ao) X.env=(false,eval e X.env)::starEach ao X.env:=by rfl) (dp:(backTo pos (starEach ao X.env)).any (·.1)=false:=by rfl):bC X (.Call (.Name x p) (e::ao) [] pos) (pT sp eD E t) :=
 ⟨UG F aq aI hm aB J hd ak aw.o eg he dp⟩
theorem WG (F:dU X.prog X.w X.K X.mg X.base cp k f fd ag sp) (aq:dV k X.A) (aI:dy X x) (hm:X.mg x=some (.ref f)) (aB:PySem.W.keepIn X.K (.ref f)=true) (J:Binds X.K fd ag ds) (hd:Vals eD ds) (ak:Passes cp X E) (eg:(x == ("__debug__" : Str))=false:=by decide):bC X (.Call (.Name x p) [] [] pos) (pT sp eD E m8) :=
 ⟨Wq F aq aI hm aB J hd ak eg⟩
theorem WH {id:String} {e:Expr} (aj:e7 X (.builtin id) r) (aI:dy X x) (hm:X.mg x=none) (bf:bootBuiltins x=some (.builtin id)) (aw:eZ X (e::ao) t) (aD:x ≠ "__name__" := by decide) (eg:(x == ("__debug__" : Str))=false:=by decide) (he:starEach (e::ao) X.env=(false,eval e X.env)::starEach ao X.env:=by rfl) (dp:(backTo pos (starEach ao X.env)).any (·.1)=false:=by rfl):bC X (.Call (.Name x p) (e::ao) [] pos) (sm r t) :=
 ⟨Wr aj aI hm bf aw.o aD eg he dp⟩
theorem X8 {e:Expr} (aj:e7 X (.type T) r) (aI:dy X x) (hm:X.mg x=none) (bf:bootBuiltins x=some (.type T)) (aw:eZ X (e::ao) t) (aD:x ≠ "__name__" := by decide) (eg:(x == ("__debug__" : Str))=false:=by decide) (he:starEach (e::ao) X.env=(false,eval e X.env)::starEach ao X.env:=by rfl) (dp:(backTo pos (starEach ao X.env)).any (·.1)=false:=by rfl):bC X (.Call (.Name x p) (e::ao) [] pos) (sm r t) :=
 ⟨X1 aj aI hm bf aw.o aD eg he dp⟩
theorem jG {id:String} {e:Expr} {o:Expr} (dJ:PlainAttrs T) (slot:Slot T name id) (qK:typeOf (.builtin id)=pure (.type "method_descriptor")) (hm:rY X id r) (aG:bC X o to) (aw:eZ X (e::ao) t) (jE:attributeBase o name X.env (eval o X.env)=eval o X.env:=by rfl) (BY:((backTo d4 (starEach (e::ao) X.env)).all (λ x => !x.1)&&(backToKw d4 (keywordEach [] X.env)).all (λ x=>x.1.isSome)
   && decide ((e::ao).length+([]:List Keyword).length+(if ([]:List Keyword).isEmpty then 0 else 1)<30))=true:=by rfl) (q4:(apos.endLine == d4.line)=true:=by rfl) (az:starEach (e::ao) X.env=(false,eval e X.env)::starEach ao X.env:=by rfl) (vP:(backTo d4 (starEach ao X.env)).any (·.1)=false:=by rfl):bC X (.Call (.Attribute o name apos) (e::ao) [] d4) (Hs X.K T r to t) :=
 ⟨Su dJ slot qK hm aG.o aw.o jE BY q4 az vP⟩
theorem IU {id:String} {o:Expr} (dJ:PlainAttrs T) (slot:Slot T name id) (qK:typeOf (.builtin id)=pure (.type "method_descriptor")) (hm:rY X id r) (aG:bC X o to) (jE:attributeBase o name X.env (eval o X.env)=eval o X.env:=by rfl) (q4:(apos.endLine == d4.line)=true:=by rfl):bC X (.Call (.Attribute o name apos) [] [] d4) (H2 X.K T r to) :=
 ⟨Tp dJ slot qK hm aG.o jE q4⟩
theorem cn {a:Expr} {b:Expr} {op:CmpOp} {r:e_} (aG:dD X (compareOp op) r) (aw:bC X a aZ) (J:bC X b bk) (hm:behindInMarks op b=false):kh X (.Compare a [op] [b] pos) (ID (pD r aZ bk)) :=
 ⟨U0 aG aw.o J.o hm⟩
theorem gs {a:Expr} (aw:kh X a ha):kh X (.UnaryOp .Not a pos) (H7 ha) :=
 ⟨TN aw.o⟩
theorem ej {e:Expr} {t:TE} (h:bC X e t) (he : ∀ whole,isTrue e X.env whole=(do let v ← whole;standAt e.pos;holding [v] (truthy v)):=by intro _;rfl):kh X e (qh t) :=
 ⟨TO h.o he⟩
theorem ra {rest:List Expr} {a:Expr} {b:Expr} (aw:kh X a ha) (J:ez X (.BoolOp .And (b::rest) pos) kA):ez X (.BoolOp .And (a::b::rest) pos) (H0 ha kA) :=
 ⟨TP aw.o J.o⟩
theorem rh {a:Expr} (aw:kh X a ha):ez X (.BoolOp .And [a] pos) ha :=
 ⟨U3 aw.o⟩
theorem gr {rest:List Expr} {a:Expr} {b:Expr} (aw:kh X a ha) (J:ez X (.BoolOp .Or (b::rest) pos) kA):ez X (.BoolOp .Or (a::b::rest) pos) (Ht ha kA) :=
 ⟨SD aw.o J.o⟩
theorem hT {a:Expr} (aw:kh X a ha):ez X (.BoolOp .Or [a] pos) ha :=
 ⟨TQ aw.o⟩
theorem av  : eZ X [] m8 :=
 ⟨Tn ⟩
theorem ae {X:aP} {e:Expr} {ao:List Expr} {bh:TE} {t:c3} (aw:bC X e bh) (aq:eZ X ao t) (h:noStar e=true:=by rfl):eZ X (e::ao) (yr bh t) :=
 ⟨RV aw.o aq.o h⟩
theorem rf  : wD X none JD :=
 ⟨UR ⟩
theorem rg {e:Expr} (h:bC X e bh):wD X (some e) (IC bh) :=
 ⟨US h.o⟩
theorem sY {l:Expr} {ck:TE} (au:bC X l ck):jL X bb l (Il X.K ck) :=
 ⟨UP au.o⟩
theorem nj {l:Expr} {ck:TE} (au:bC X l ck):jL X bb l (HN X.K ck) :=
 ⟨TC au.o⟩
theorem my {a:Expr} {aZ:c3} {p pos:Pos} (aI:dy X "range") (hm:X.mg "range" = none) (aw:eZ X [a] aZ) (az:starEach [a] X.env=[(false,eval a X.env)]:=by rfl) (cY:X.calm=true:=by rfl):jL X bb (.Call (.Name "range" p) [a] [] pos) (Im aZ) :=
 ⟨X2 aI hm aw.o az cY⟩
theorem X9 {a b:Expr} {aZ:c3} {p pos:Pos} (aI:dy X "range") (hm:X.mg "range" = none) (aw:eZ X [a,b] aZ) (az:starEach [a,b] X.env=[(false,eval a X.env),(false,eval b X.env)]:=by rfl) (e5:starEach [b] X.env=[(false,eval b X.env)]:=by rfl) (cY:X.calm=true:=by rfl):jL X bb (.Call (.Name "range" p) [a,b] [] pos) (Io aZ) :=
 ⟨X3 aI hm aw.o az e5 cY⟩
theorem nk {aO aQ:Expr} {aZ:c3} {p pos:Pos} (fR:kV bb=true) (aI:dy X "zip") (hm:X.mg "zip" = none) (aw:eZ X [aO,aQ] aZ) (az:starEach [aO,aQ] X.env=[(false,eval aO X.env),(false,eval aQ X.env)]:=by rfl) (e5:starEach [aQ] X.env=[(false,eval aQ X.env)]:=by rfl) (J:bootBuiltins "zip" = some (.type "zip"):=by decide +kernel):jL X bb (.Call (.Name "zip" p) [aO,aQ] [] pos) (HO X.K aZ) :=
 ⟨TF fR aI hm aw.o az e5 J⟩
theorem kb {i:Nat} {x:Str} (di:X.N.Nodup) (ay:X.N[i]?=some x) (ak:Loc X.env.scope x) (hf:X.fn x=true\/X.env.scope.names.lookup x=some .local:=by first | exact .inl rfl | exact .inr rfl | assumption):k6 X (.Name x pos) (gW i) :=
 ⟨UM di ay ak hf⟩
theorem lN {ao:List Expr} {k:Nat} {t:ko} {n:Nat} (aj:X.warm=true) (h:rZ X ao t) (aD:(assignEach ao X.env).length=n:=by rfl) (cB:(assignEach ao X.env).findIdx? (·.1)=none:=by rfl):k6 X (.Tuple ao k pos) (sC X.K n t) :=
 ⟨TA aj h.o aD cB⟩
theorem vU {o i:Expr} {to gy:TE} {t:sz} (aG:bC X o to) (ay:bC X i gy) (az:xW X t) (aw : ∀ v,assign (.Subscript o i pos) X.env v=(do
   let de ← holding [v] (eval o X.env)
   let dY ← holding [v,de] (eval i X.env)
   standAt pos
   holding [v,de,dY] (setItem de dY v)
   release [v,de,dY] []):=by intro _;rfl):k6 X (.Subscript o i pos) (HD to gy t) :=
 ⟨Tz aG.o ay.o az aw⟩
theorem fV  : rZ X [] vh :=
 ⟨UN ⟩
theorem da {e:Expr} {ao:List Expr} {t:eG} {u:ko} (af:k6 X e t) (ai:rZ X ao u) (az:(assignEach (e::ao) X.env).map (·.2)=assign e X.env::(assignEach ao X.env).map (·.2):=by rfl):rZ X (e::ao) (pP t u) :=
 ⟨Wx af.o ai.o az⟩
theorem yx {i:Nat} {x:Str} {e:Expr} {bh:TE} {pos':Pos} (di:X.N.Nodup) (ay:X.N[i]?=some x) (ak:Loc X.env.scope x) (he:bC X e bh) (az:swapsWith e (some (.Name x pos')) pos.line X.env=pure false:=by rfl) (hf:X.fn x=true\/X.env.scope.names.lookup x=some .local:=by first | exact .inl rfl | exact .inr rfl | assumption):gJ X (.Assign [.Name x pos'] e pos) (pM bh (gW i)) :=
 ⟨TM di ay ak he.o az hf⟩
theorem nq {bb e:Expr} {bh:TE} {g:eG} (he:bC X e bh) (aI:k6 X bb g) (az:swapsWithSole [bb] e pos.line X.env=pure false:=by rfl) (hw:swappedStores [bb] e X.env=pure none:=by rfl) (af:(assignEach [bb] X.env).map (·.2)=[assign bb X.env]:=by rfl):gJ X (.Assign [bb] e pos) (pM bh g) :=
 ⟨TH he.o aI.o az hw af⟩
theorem bH {e:Expr} (he:bC X e bh):gJ X (.Return (some e) pos) (H9 bh) :=
 ⟨TL he.o⟩
theorem hV {e:Expr} (he:bC X e bh) (az:swapsWith e none pos.line X.env=pure false:=by rfl):gJ X (.Expr e pos) (Iy bh) :=
 ⟨UW he.o az⟩
theorem cM {c:Expr} {a b:List Stmt} {c_:TT} (aj:kh X c c_) (aw:h4 X a t) (J:h4 X b u):gJ X (.If c a b pos) (H5 c_ t u) :=
 ⟨SA aj.o aw.o J.o⟩
theorem s_ {c:Expr} {body:List Stmt} {c_:TT} {bk:dr} (ax:PassesOwn (model X.prog X.w) X.A X.env X.cP) (aj:kh X c c_) (J:h4 X body bk):gJ X (.While c body [] pos) (CH c_ bk) :=
 ⟨WB ax aj.o J.o⟩
theorem gD {iter:Expr} {body:List Stmt} {fq:TI} {g:eG} {bk:dr} {pos:Pos} (ax:PassesOwn (model X.prog X.w) X.A X.env X.cP) (aj:X.warm=true) (ay:jL X bb iter fq) (aI:k6 X bb g) (J:h4 X body bk) (az : ∀ x,foldedSetIterable iter X.env x=pure x:=by intro _;rfl):gJ X (.For bb iter body [] pos) (H4 fq g bk) :=
 ⟨TK ax aj ay.o aI.o J.o az⟩
theorem ct  : h4 X [] IA :=
 ⟨UY ⟩
theorem aV {st:Stmt} (af:gJ X st t):h4 X [st] t :=
 ⟨UZ af.o⟩
theorem aM {rest:List Stmt} {st:Stmt} (af:gJ X st t) (ai:h4 X rest u):h4 X (st::rest) (Cf t u) :=
 ⟨WC af.o ai.o⟩
theorem fW {X:aP}:w5 X [] kc :=
 ⟨U1 ⟩
theorem Jy {X:aP} {c:Expr} {t:TT} (aj:kh X c t):w5 X [c] t :=
 ⟨U2 aj.o⟩
theorem ez.pt {X:aP} {e:Expr} {t:TT} (h:ez X e t):kh X e t :=
 ⟨mA.pt h.o⟩
theorem f9 {X:aP} {elt bb iter:Expr} {cs:List Expr} {scope:Scope} {pos:Pos} {cl:List (Str×Addr)} {N:List Str} {js:List (Option Nat)} {fq:TI} {g:eG} {c_:TT} {bh:TE}
  (C:sN X scope cl N js) (aj:X.warm=true) (ay:jL X bb iter fq)
  (aI : ∀ bo pins s H,k6 (e8 X scope cl N bo pins s H λ _ _=>False) bb g)
  (aW : ∀ bo pins s H,w5 (e8 X scope cl N bo pins s H λ _ _=>False) cs c_)
  (he : ∀ bo pins s H,bC (e8 X scope cl N bo pins s H λ _ _=>False) elt bh)
  (az : ∀ x,foldedSetIterable iter X.env x=pure x:=by intro _;rfl):bC X (.ListComp elt [⟨bb,iter,cs,0⟩] scope pos) (yq js fq g c_ bh) :=
 ⟨UI C aj ay.o (λ a b c d=>(aI a b c d).o) (λ a b c d=>(aW a b c d).o) (λ a b c d=>(he a b c d).o) az⟩
theorem h3.ec {P:Program} {w:World} {K:PySem.W.Frag} {mg:Str->Option Value} {base:Heap} {x qual:Str} {st:Stmt} {f:Addr} {fd:FuncData} {N ag:List Str} {k:Nat} {sp:bX} (F:h3 K x qual st f fd) (S:cq N ag (bO st)) (len : ∀ vs H Q E,sp vs H Q E->vs.length=ag.length)
  (ml : ∀ (ba:Value) (A:Around) (outer:List Env) (s:Shared) (H:ah) (vs:List V) (Q:bz) (E:dz),dV k (A.deeper (envOfC qual (bO st) s.heap.objs.size f ba))->sp vs H Q E ->
   ∃ t,h4 (j6 cD P w K mg base N qual (bO st) f ba A outer s H E).u3 (ip st) t/\t { bF:=λ _ H'=>Q .bg H',ji:=Q } (start N vs) H):dU P w K mg base cD (k+1) f fd ag sp :=
 F.ok S len λ ba A outer s H vs Q E aq h=>let ⟨t,a,b⟩:=ml ba A outer s H vs Q E aq h;⟨t,a.o,b⟩
end bI
namespace cy
open PySem bI
theorem Z9 {xs:List V} {lo ay:Option Int} (af:dT.cx xs.length 0 lo=0) (ai:dT.cx xs.length xs.length ay=xs.length):kH xs lo ay=xs:=by
 unfold kH;rw [af,ai,List.drop_zero,Nat.sub_zero,List.take_length]
theorem Yf {K:PySem.W.Frag} {a:Addr} {xs:List V} {lo ay:Option Int} {H:ah} {Q:bz} (aw:H a=some (.tup xs)) (q : ∀ p H',aC H H'->H' p=some (.tup (kH xs lo ay))->Q (.ref p) H') :
  Cd K (.ref a) lo ay H Q\/Ce K (.ref a) lo ay H Q:=by
 by_cases e:dT.cx xs.length 0 lo=0/\dT.cx xs.length xs.length ay=xs.length
 ·exact .inr ⟨a,xs,rfl,aR.of aw,e.1,e.2,q a H (aC.refl H) (by rw [Z9 e.1 e.2];exact aw)⟩
 ·exact .inl ⟨a,xs,rfl,aR.of aw,e,λ p ax=>q p _ (aC.new ax) bA⟩
theorem Uh {K:PySem.W.Frag} {a b:Addr} {xs ys:List V} {H:ah} {Q:bz} (aw:H a=some (.tup xs)) (J:H b=some (.tup ys)) (au:xs.length+ys.length<=sizeLine) (q : ∀ p H',aC H H'->H' p=some (.tup (xs++ys))->Q (.ref p) H') :
  Cu K (.ref a) (.ref b) H Q\/Cv K (.ref a) (.ref b) H Q:=by
 by_cases e:xs=[]
 ·subst e;exact .inl ⟨a,b,ys,rfl,rfl,aR.of aw,aR.of J,q b H (aC.refl H) J⟩
 ·refine .inr ⟨a,b,xs,ys,rfl,rfl,aR.of aw,aR.of J,e,au,λ z=>?_,λ z p ax=>q p _ (aC.new ax) bA⟩;subst z;exact q a H (aC.refl H) (by rw [List.append_nil];exact aw)
end cy
namespace bI
open PySem PySem.Spec PyProof.Rows
theorem dD.imp {X:aP} {f:Value->Value->Sem Value} {r bB:e_} (h:dD X f r) (i : ∀ x y H Q,bB x y H Q->r x y H Q):dD X f bB:=λ pins s σ H x y v u Q I a5 br z=>h pins s σ H x y v u Q I a5 br (i x y H Q z)
theorem e7.imp {X:aP} {f:Value} {r bB:List V->ah->bz->Prop} (h:e7 X f r) (i : ∀ xs H Q,bB xs H Q->r xs H Q):e7 X f bB:=λ pins s σ H xs us Q I a5 z=>h pins s σ H xs us Q I a5 (i xs H Q z)
theorem jY.imp {X:aP} {r bB:V->Option Int->Option Int->ah->bz->Prop} (h:jY X r) (i : ∀ x lo ay H Q,bB x lo ay H Q->r x lo ay H Q):jY X bB:=λ pins s σ H x v fO fP lo ay cA Q I a5 a b c z=>h pins s σ H x v fO fP lo ay cA Q I a5 a b c (i x lo ay H Q z)
theorem n0.imp {X:aP} {id:String} {r bB:V->List V->ah->bz->Prop} (h:n0 X id r) (i : ∀ x xs H Q,bB x xs H Q->r x xs H Q):n0 X id bB:=λ pins s σ H x xs v us Q I a5 rs z=>h pins s σ H x xs v us Q I a5 rs (i x xs H Q z)
def kF (o:dG) (H:ah) (Q:bz):Prop := ∀ p H',H p=none->aC H H'->H' p=some o->Q (.ref p) H'
theorem kF.at {o:dG} {H:ah} {Q:bz} (q:kF o H Q) : ∀ p,H p=none->Q (.ref p) (upd H p o):=λ p ax=>q p _ ax (cy.aC.new ax) bA
def SK (t:c3):TE:=λ σ H Q=>t σ H λ xs H1=>xs.length<=sizeLine/\kF (.tup xs) H1 Q
def SH (t:c3):TE:=λ σ H Q=>t σ H λ xs H1=>xs.length<=sizeLine/\kF (.lst xs) H1 Q
def T8:TE:=λ _ H Q=>kF (.bp []) H Q
section
variable {X:aP}
theorem hx {ao:List Expr} {t:c3} {hc} {pos:Pos} (h:eZ X ao t):bC X (.Tuple ao hc pos) (SK t):=⟨by
 intro pins s σ H Q I aS;refine wpAny_Tuple_spliced (bj (h.o pos pins s σ H _ I aS) λ us s1 ⟨xs,H1,aE,r,z,q⟩=>⟨by rw [<-r.length];exact z,?_⟩);have hf:H1 s1.heap.objs.size=none:=aE.a6.fresh (Nat.le_refl _);refine ⟨.ref s1.heap.objs.size,upd H1 s1.heap.objs.size (.tup xs),aE.laid (t':=s1.toks) (λ b u e=>Heap.get?_push_of_some _ e) (Nat.le_refl _) ?_,rfl,q.at _ hf⟩;exact ⟨z,us,r,⟨_,Heap.get?_push_size _ rfl,rfl,⟨_,rfl⟩,rfl⟩⟩⟩
theorem eL {ao:List Expr} {t:c3} {pos:Pos} (h:eZ X ao t):bC X (.List ao pos) (SH t):=⟨by
 intro pins s σ H Q I aS;refine wpAny_List_spliced (bj (h.o pos pins s σ H _ I aS) λ us s1 ⟨xs,H1,aE,r,z,q⟩=>⟨by rw [<-r.length];exact z,?_⟩);have hf:H1 s1.heap.objs.size=none:=aE.a6.fresh (Nat.le_refl _);refine ⟨.ref s1.heap.objs.size,upd H1 s1.heap.objs.size (.lst xs),aE.laid (t':=s1.toks) (λ b u e=>Heap.get?_push_of_some _ e) (Nat.le_refl _) ?_,rfl,q.at _ hf⟩;exact ⟨z,us,0,r,Heap.get?_push_size _ rfl⟩⟩
theorem v3 {pos:Pos}:bC X (.Dict [] [] pos) T8:=⟨λ pins s σ H Q I h=>UJ pins s σ H Q I (kF.at h)⟩
def TS:e_:=λ x y H Q => ∃ l b xs zs,x=.ref l/\y=.ref b/\H l=some (.lst xs)/\H b=some (.lst zs)/\xs.length+zs.length<=sizeLine/\kF (.lst (xs++zs)) H Q
theorem vY:dD X (binaryOp .Add) TS:=Tj.imp λ x y H Q ⟨l,b,xs,zs,aO,aQ,af,ai,aF,q⟩=>⟨l,b,xs,zs,aO,aQ,af,ai,aF,q.at⟩
def TY:e_:=λ x y H Q => ∃ l k xs,x=.ref l/\y=.int k/\H l=some (.lst xs) /\ -(2 ^ 63)<=k/\k<2 ^ 63/\xs.length * k.toNat<=sizeLine/\kF (.lst (List.replicate k.toNat xs).flatten) H Q
theorem J4:dD X (binaryOp .Mult) TY:=IS.imp λ x y H Q ⟨l,k,xs,aO,aQ,af,ai,aF,aX,q⟩=>⟨l,k,xs,aO,aQ,af,ai,aF,aX,q.at⟩
theorem aaB:e7 X (.type "list") (λ xs H Q => ∃ p ys,xs=[.ref p]/\(a3 X.K H p ys\/aR X.K H p ys)/\kF (.lst ys) H Q):=Z7.imp λ xs H Q ⟨p,ys,e,h,q⟩=>⟨p,ys,e,h,q.at⟩
theorem rz:e7 X (.type "tuple") (λ xs H Q => ∃ p ys,xs=[.ref p]/\a3 X.K H p ys/\kF (.tup ys) H Q):=tD.imp λ xs H Q ⟨p,ys,e,h,q⟩=>⟨p,ys,e,.inl ⟨h,q.at⟩⟩
def R5:V->Option Int->Option Int->ah->bz->Prop:=λ x lo ay H Q => ∃ a xs,x=.ref a/\H a=some (.tup xs) /\ ∀ p H',aC H H'->H' p=some (.tup (kH xs lo ay))->Q (.ref p) H'
theorem vy:jY X R5:=JB.imp λ x lo ay H Q ⟨a,xs,e,h,q⟩=>by subst e;exact cy.Yf h q
def TU:e_:=λ x y H Q => ∃ a b xs ys,x=.ref a/\y=.ref b/\H a=some (.tup xs)/\H b=some (.tup ys)/\xs.length+ys.length<=sizeLine /\ ∀ p H',aC H H'->H' p=some (.tup (xs++ys))->Q (.ref p) H'
theorem vZ:dD X (binaryOp .Add) TU:=UA.imp λ x y H Q ⟨a,b,xs,ys,aO,aQ,af,ai,aF,q⟩=>by subst aO;subst aQ;exact cy.Uh af ai aF q
def WM:V->List V->ah->bz->Prop:=λ x vs H Q => ∃ l xs y,x=.ref l/\vs=[y]/\H l=some (.lst xs)/\xs.length<sizeLine /\ ∀ H',cy.bW l H H'->H' l=some (.lst (xs++[y]))->Q .bg H'
theorem p0:n0 X "list.append" WM:=y2.imp λ x vs H Q ⟨l,xs,y,aO,aQ,af,ai,q⟩=>⟨l,xs,y,aO,aQ,af,ai,q _ cy.bW.upd bA⟩
end
end bI
namespace cy
open PySem bI
def gC (H H':ah):Prop := ∀ b o,H b=some o->H' b=some o \/ ∃ xs ys,o=.lst xs/\H' b=some (.lst ys)
theorem gC.of {H H':ah} (s:aC H H'):gC H H':=λ b o h=>.inl (s b o h)
theorem gC.but {a:Addr} {H H':ah} {xs ys:List V} (dc:bW a H H') (h:H a=some (.lst xs)) (h':H' a=some (.lst ys)):gC H H':=λ b o e=>by
 by_cases z:b=a
 ·subst z;rw [h] at e;cases e;exact .inr ⟨xs,ys,rfl,h'⟩
 ·exact .inl (dc b o z e)
theorem gC.tup {H H':ah} (k:gC H H') {b:Addr} {xs:List V} (h:H b=some (.tup xs)):H' b=some (.tup xs):=by
 rcases k b _ h with z | ⟨_,_,e,_⟩
 ·exact z
 ·cases e
theorem gC.kind {H H':ah} (s:gC H H') {v:V} (k:d5 H v):d5 H' v:=by
 cases v with
 | ref a =>
  rcases (show (∃ xs,H a=some (.tup xs))\/(∃ xs,H a=some (.lst xs))\/(∃ kvs,H a=some (.bp kvs)) from k) with ⟨xs,e⟩ | ⟨xs,e⟩ | ⟨kvs,e⟩
  ·exact .inl ⟨xs,s.tup e⟩
  ·rcases s _ _ e with z | ⟨_,ys,_,z⟩
   ·exact .inr (.inl ⟨xs,z⟩)
   ·exact .inr (.inl ⟨ys,z⟩)
  ·rcases s _ _ e with z | ⟨_,ys,w,z⟩
   ·exact .inr (.inr ⟨kvs,z⟩)
   ·cases w
 | bg=>trivial
 | aJ b=>trivial
 | int i=>trivial
 | str x=>trivial
 | iB b=>exact False.elim k
 | hi b=>exact False.elim k
 | ty b=>exact False.elim k
theorem gC.er {H H':ah} (s:gC H H') {v:V} (k:d5 H v):cy.er H' v=cy.er H v:=by
 cases v with
 | ref a =>
  rcases (show (∃ xs,H a=some (.tup xs))\/(∃ xs,H a=some (.lst xs))\/(∃ kvs,H a=some (.bp kvs)) from k) with ⟨xs,e⟩ | ⟨xs,e⟩ | ⟨kvs,e⟩
  ·show kN (H' a)=kN (H a);rw [s.tup e,e]
  ·show kN (H' a)=kN (H a);rcases s _ _ e with z | ⟨_,ys,_,z⟩<;>rw [z,e]<;>rfl
  ·show kN (H' a)=kN (H a);rcases s _ _ e with z | ⟨_,ys,w,z⟩
   ·rw [z,e]
   ·cases w
 | _=>rfl
def dK (H:ah) (v:V):Prop:=d5 H v /\ ∀ xs,er H v=some xs->xs.length<=1000 /\ ∀ x∈xs,d5 H x
def BO (H:ah) (v:V):Prop:=d5 H v /\ ∀ xs,er H v=some xs->xs.length<=1000 /\ ∀ x∈xs,dK H x
theorem gC.dK {H H':ah} (s:gC H H') {v:V} (k:cy.dK H v):cy.dK H' v:=by
 obtain ⟨k,a_⟩:=k;refine ⟨s.kind k,λ xs e=>?_⟩;rw [s.er k] at e;obtain ⟨l,m⟩:=a_ xs e;exact ⟨l,λ x ak=>s.kind (m x ak)⟩
section
variable {H:ah} {p:Addr} {xs:List V}
theorem yQ (h:H p=some (.tup xs)):d5 H (.ref p):=.inl ⟨xs,h⟩
theorem C6 (h:H p=some (.lst xs)):d5 H (.ref p):=.inr (.inl ⟨xs,h⟩)
theorem ny (h:H p=some (.tup xs)) (l:xs.length<=1000) (m : ∀ x∈xs,d5 H x):dK H (.ref p):=⟨yQ h,λ ys e=>by rw [oQ h] at e;cases e;exact ⟨l,m⟩⟩
theorem Vx (h:H p=some (.tup xs)) (l:xs.length<=1000) (m : ∀ x∈xs,dK H x):BO H (.ref p):=⟨yQ h,λ ys e=>by rw [oQ h] at e;cases e;exact ⟨l,m⟩⟩
theorem CQ (h:H p=some (.lst xs)):er H (.ref p)=none:=by show kN (H p)=none;rw [h];rfl
theorem S8 {kvs:List (Key×V)} (h:H p=some (.bp kvs)):er H (.ref p)=none:=by show kN (H p)=none;rw [h];rfl
theorem yC {v:V} (k:d5 H v) (h:er H v=none):dK H v:=⟨k,λ ys e=>by rw [h] at e;cases e⟩
theorem Vv (h:H p=some (.lst xs)):dK H (.ref p):=yC (C6 h) (CQ h)
theorem Vu (i:Int):dK H (.int i):=yC trivial rfl
theorem Vw:dK H .bg:=yC trivial rfl
theorem all2 {α : Type} {p : α -> Prop} {x y : α} (a:p x) (b:p y) : ∀ z∈[x,y],p z:=List.forall_mem_cons.mpr ⟨a,List.forall_mem_cons.mpr ⟨b,List.forall_mem_nil _⟩⟩
end
end cy
namespace bI
open PySem PySem.Spec PyProof.Rows
section
variable {κ : Type} [DecidableEq κ]
def dZ (kvs:List (κ × V)) (k : κ):Option V:=(kvs.find? λ d3=>decide (d3.1=k)).map (·.2)
def putK (kvs:List (κ × V)) (k : κ) (v:V):List (κ × V) :=
 if (kvs.any λ d3=>decide (d3.1=k))=true then kvs.map (λ d3=>if d3.1=k then (d3.1,v) else d3) else kvs++[(k,v)]
def oF (kvs:List (κ × V)) (k : κ):List (κ × V):=kvs.filter λ d3=>decide (d3.1≠k)
theorem yW {p : κ × V} {r:List (κ × V)} {k : κ} (e:p.1=k):dZ (p::r) k=some p.2:=by simp [dZ,List.find?_cons,e]
theorem v7 {p : κ × V} {r:List (κ × V)} {k : κ} (e : ¬ p.1=k):dZ (p::r) k=dZ r k:=by simp [dZ,List.find?_cons,e]
theorem Kh (k : κ) : ∀ kvs:List (κ × V),(kvs.any λ d3=>decide (d3.1=k))=(dZ kvs k).isSome
 | []=>rfl
 | p::r=>by
  rw [List.any_cons];by_cases e:p.1=k
  ·simp only [yW e,decide_eq_true e,Bool.true_or,Option.isSome_some]
  ·rw [v7 e,decide_eq_false e,Bool.false_or];exact Kh k r
theorem Ls (kvs:List (κ × V)) (k : κ) (v:V):(putK kvs k v).length<=kvs.length+1:=by
 unfold putK;split
 ·rw [List.length_map];omega
 ·rw [List.length_append,List.length_cons,List.length_nil];omega
theorem hp.Dw {o:Option V} {u:Option Value} (r:hp o u):o.isSome=u.isSome:=by
 cases o with
 | none=>cases u with
  | none=>rfl
  | some _=>exact (show False from r).elim
 | some _=>cases u with
  | none=>exact (show False from r).elim
  | some _=>rfl
theorem hp.getD {o:Option V} {u:Option Value} {d:V} {d':Value} (r:hp o u) (cK:RelV d d'):RelV (o.getD d) (u.getD d'):=by
 cases o with
 | none=>cases u with
  | none=>exact cK
  | some _=>exact (show False from r).elim
 | some _=>cases u with
  | none=>exact (show False from r).elim
  | some _=>exact r
theorem fw.val {kvs:List (κ × V)} {vs:List (κ × Value)} (r:fw kvs vs) (k : κ):hp (dZ kvs k) (valueAt vs k):=by
 unfold fw at r
 induction r with
 | nil=>exact True.intro
 | @cons p q ag lX h t c5 =>
  obtain ⟨af,ai⟩:=h;by_cases e:p.1=k
  ·have cU:q.1=k:=af.symm.trans e;have b:valueAt (q::lX) k=some q.2:=by simp [valueAt,List.find?_cons,cU]
   rw [yW e,b];exact ai
  ·have cU : ¬ q.1=k:=λ z=>e (af.trans z)
   have b:valueAt (q::lX) k=valueAt lX k:=by simp [valueAt,List.find?_cons,cU]
   rw [v7 e,b];exact c5
theorem fw.any {kvs:List (κ × V)} {vs:List (κ × Value)} (r:fw kvs vs) (k : κ):(kvs.any λ d3=>decide (d3.1=k))=vs.any λ d3=>decide (d3.1=k):=by
 unfold fw at r
 induction r with
 | nil=>rfl
 | cons h t c5=>rw [List.any_cons,List.any_cons,c5,h.1]
theorem fw.q2 {kvs:List (κ × V)} {vs:List (κ × Value)} (r:fw kvs vs) (k : κ) {y:V} {u:Value} (br:RelV y u) :
  fw (kvs.map λ d3=>if d3.1=k then (d3.1,y) else d3) (vs.map λ d3=>if d3.1=k then (d3.1,u) else d3):=by
 unfold fw at r ⊢
 induction r with
 | nil=>exact .nil
 | @cons p q ag lX h t c5 =>
  rw [List.map_cons,List.map_cons];refine .cons ?_ c5;obtain ⟨af,ai⟩:=h;by_cases e:p.1=k
  ·rw [if_pos e,if_pos (af.symm.trans e)];exact ⟨af,br⟩
  ·rw [if_neg e,if_neg (λ z=>e (af.trans z))];exact ⟨af,ai⟩
theorem fw.put {kvs:List (κ × V)} {vs:List (κ × Value)} (r:fw kvs vs) (k : κ) {y:V} {u:Value} (br:RelV y u):fw (putK kvs k y) (stored vs k u):=by
 unfold putK stored;rw [r.any k];by_cases e:(vs.any λ d3=>decide (d3.1=k))=true
 ·rw [if_pos e,if_pos e];exact r.q2 k br
 ·rw [if_neg e,if_neg e];exact Paired.snoc r ⟨rfl,br⟩
theorem fw.drop {kvs:List (κ × V)} {vs:List (κ × Value)} (r:fw kvs vs) (k : κ):fw (oF kvs k) (without vs k):=by
 unfold fw at r ⊢;unfold oF without
 induction r with
 | nil=>exact .nil
 | @cons p q ag lX h t c5 =>
  obtain ⟨af,ai⟩:=h;rw [List.filter_cons,List.filter_cons];by_cases e:p.1=k
  ·have a : ¬ decide (p.1≠k)=true:=by simp [e]
   have b : ¬ decide (q.1≠k)=true:=by simp [af.symm.trans e]
   rw [if_neg a,if_neg b];exact c5
  ·have cU : ¬ q.1=k:=λ z=>e (af.trans z)
   have a:decide (p.1≠k)=true:=by simp [e]
   have b:decide (q.1≠k)=true:=by simp [cU]
   rw [if_pos a,if_pos b];exact .cons ⟨af,ai⟩ c5
theorem fw.keys {kvs:List (κ × V)} {vs:List (κ × Value)} (r:fw kvs vs):kvs.map (·.1)=vs.map (·.1):=by
 unfold fw at r
 induction r with
 | nil=>rfl
 | cons h t c5=>rw [List.map_cons,List.map_cons,c5,h.1]
theorem fw.length {kvs:List (κ × V)} {vs:List (κ × Value)} (r:fw kvs vs):kvs.length=vs.length:=Paired.length r
theorem VR (kvs:List (κ × V)) (k : κ):(oF kvs k).length<=kvs.length:=List.length_filter_le _ _
end
theorem vH {P:Program} {w:World} {k:Key} {u:Value} (r:RelV (cF k) u):(gZ P w).is k u=true:=by
 cases k with
 | inl i=>obtain ⟨t,e⟩:=(show ∃ t,u=Value.int i t from r);subst e;exact ZV P w i t
 | inr x=>obtain ⟨t,e⟩:=(show ∃ t,u=Value.str x t from r);subst e;exact Lw P w x t
theorem KN {P:Program} {w:World} : ∀ {fp:List Key} {us:List Value},Vals (fp.map cF) us->ItemsAre (gZ P w) fp us
 | [],_,r=>by rw [List.map_nil] at r;cases r;exact .nil
 | k::fp,_,r=>by
  rw [List.map_cons] at r;cases r with
  | cons h t=>exact .cons (vH h) (KN t)
abbrev KT (H:ah):List (List Key×V)->List (List Key×Addr×Value)->Prop:=Paired λ p q=>p.1=q.1/\H q.2.1=some (.tup (p.1.map cF))/\RelV p.2 q.2.2
theorem KT.val {H:ah} {kvs:List (List Key×V)} {xs:List (List Key×Addr×Value)} (r:KT H kvs xs) (k:List Key):hp (dZ kvs k) ((atKey xs k).map (·.2)):=by
 induction r with
 | nil=>exact True.intro
 | @cons p q ag lX h t c5 =>
  obtain ⟨af,_,ai⟩:=h;by_cases e:p.1=k
  ·have cU:q.1=k:=af.symm.trans e;have b:atKey (q::lX) k=some q.2:=by simp [atKey,List.find?_cons,cU]
   rw [yW e,b];exact ai
  ·have cU : ¬ q.1=k:=λ z=>e (af.trans z)
   have b:atKey (q::lX) k=atKey lX k:=by simp [atKey,List.find?_cons,cU]
   rw [v7 e,b];exact c5
theorem KT.q2 {H:ah} {kvs:List (List Key×V)} {xs:List (List Key×Addr×Value)} (r:KT H kvs xs) (k:List Key) {y:V} {u:Value} (br:RelV y u) :
  KT H (kvs.map λ d3=>if d3.1=k then (d3.1,y) else d3) (xs.map (putAt k u)):=by
 induction r with
 | nil=>exact .nil
 | @cons p q ag lX h t c5 =>
  rw [List.map_cons,List.map_cons];refine .cons ?_ c5;obtain ⟨af,ai,aF⟩:=h;unfold putAt;by_cases e:p.1=k
  ·rw [if_pos e,if_pos (af.symm.trans e)];exact ⟨af,ai,br⟩
  ·rw [if_neg e,if_neg (λ z=>e (af.trans z))];exact ⟨af,ai,aF⟩
theorem KT.put {H:ah} {kvs:List (List Key×V)} {xs:List (List Key×Addr×Value)} (r:KT H kvs xs) (k:List Key) {b:Addr} {y:V} {u:Value} (J:H b=some (.tup (k.map cF))) (br:RelV y u) :
  KT H (putK kvs k y) (storedH xs k b u):=by
 have e:(kvs.any λ d3=>decide (d3.1=k))=(atKey xs k).isSome:=by
  rw [Kh,(r.val k).Dw,Option.isSome_map]
 unfold putK storedH;rw [e];by_cases q:(atKey xs k).isSome=true
 ·rw [if_pos q,if_pos q];exact r.q2 k br
 ·rw [if_neg q,if_neg q];exact Paired.snoc r ⟨rfl,J,br⟩
theorem KT.keeps {H H':ah} {kvs:List (List Key×V)} {xs:List (List Key×Addr×Value)} (r:KT H kvs xs) (aW : ∀ b ys,H b=some (.tup ys)->H' b=some (.tup ys)):KT H' kvs xs :=
 Paired.B_ r λ _ _ z=>⟨z.1,aW _ _ z.2.1,z.2.2⟩
section
variable {P:Program} {w:World} {H:ah} {h:Heap} {a:Addr}
theorem Iv {u:dG} (ok:eo P w H h) (e:dx H a u):dW P w H h a u:=e.ok ok
theorem q3 {kvs:List (Key×V)} (ok:eo P w H h) (e:dx H a (.bp kvs)):kvs.length<=sizeLine/\(a == sysModules)=false /\ ∃ vs,fw kvs vs/\h.DictOf (gZ P w) a vs :=
 show dW P w H h a (.bp kvs) from Iv ok e
theorem vD {kvs:List (Key×V)} (ok:eo P w H h) (e:H a=some (.bp kvs)):kvs.length<=sizeLine/\(a == sysModules)=false /\ ∃ vs,fw kvs vs/\h.DictOf (gZ P w) a vs:=q3 ok (.inl e)
theorem yw {fp:List Key} (ok:eo P w H h) (e:H a=some (.tup (fp.map cF))):(tupleKind (gZ P w)).is h fp a:=by
 obtain ⟨_,its,r,o,af,ai,⟨n,aF⟩,_⟩:=(show dW P w H h a (.tup (fp.map cF)) from ok a _ e)
 exact ⟨o,its.toArray,n,af,ai,aF,by simpa using KN r⟩
theorem yh {kvs:List (List Key×V)} (ok:eo P w H h) (e:dx H a (.iU kvs)):kvs.length<=sizeLine/\(a == sysModules)=false /\
  ∃ xs,KT H kvs xs/\h.DictOfH (tupleKind (gZ P w)) a xs:=by
 obtain ⟨z,y,xs,r,o,ao,ep,af,ai,aF,aX,bT⟩:=(show dW P w H h a (.iU kvs) from Iv ok e)
 refine ⟨z,y,xs,r,o,ao,ep,af,ai,aF,aX,λ x ak=>?_,bT⟩;have all : ∀ {l:List (List Key×V)} {m:List (List Key×Addr×Value)},KT H l m -> ∀ x∈m,(tupleKind (gZ P w)).is h x.1 x.2.1:=by
  intro l m q
  induction q with
  | nil=>intro x ak;exact nomatch ak
  | @cons p q ag lX aS t c5 =>
   intro x ak;rcases List.mem_cons.mp ak with e | ak
   ·subst e;exact yw ok (by rw [<-aS.1];exact aS.2.1)
   ·exact c5 x ak
 exact all r x ak
theorem Sg {kvs:List (List Key×V)} (ok:eo P w H h) (e:H a=some (.iU kvs)):kvs.length<=sizeLine/\(a == sysModules)=false /\
  ∃ xs,KT H kvs xs/\h.DictOfH (tupleKind (gZ P w)) a xs:=yh ok (.inl e)
end
def m2 (H:ah) (a:Addr) (y:V) (r:Option V):Prop :=
 (∃ kvs k,dx H a (.bp kvs)/\y=cF k/\r=dZ kvs k) \/ ∃ kvs k b,dx H a (.iU kvs)/\y=.ref b/\H b=some (.tup (k.map cF))/\r=dZ kvs k
def xU (H:ah) (a:Addr) (y v:V) (H':ah):Prop :=
 (∃ kvs k,H a=some (.bp kvs)/\y=cF k/\kvs.length<sizeLine/\H'=upd H a (.bp (putK kvs k v))) \/
 ∃ kvs k b,H a=some (.iU kvs)/\y=.ref b/\H b=some (.tup (k.map cF))/\kvs.length<sizeLine/\H'=upd H a (.iU (putK kvs k v))
theorem m2.k {H:ah} {a:Addr} {kvs:List (Key×V)} {k:Key} (e:H a=some (.bp kvs)):m2 H a (cF k) (dZ kvs k):=.inl ⟨kvs,k,.inl e,rfl,rfl⟩
theorem xU.k {H:ah} {a:Addr} {kvs:List (Key×V)} {k:Key} {v:V} (e:H a=some (.bp kvs)) (au:kvs.length<sizeLine):xU H a (cF k) v (upd H a (.bp (putK kvs k v))):=.inl ⟨kvs,k,e,rfl,au,rfl⟩
section
variable {X:aP} {pins:List (Addr×Obj)} {σ:St} {H:ah} {s:Shared} {a:Addr} {y v:V} {u r:Value} {o:Option V} {A:Around} {E:Value->Shared->Prop}
theorem Inv.big (I:Inv X pins σ H s):sysModules<s.heap.objs.size:=by
 have h:mainGlobals<s.heap.objs.size:=(I.mod.glob.keeps I.aY).lt;exact Nat.lt_trans (by decide) h
theorem KD {Q:Value->Shared->Prop} (bD:A.units+1<cLine) (I:Inv X pins σ H s) (g:m2 H a y (some v)) (br:RelV y u) (h : ∀ cO s',Inv X pins σ H s'->RelV v cO->Q cO s') :
  wpAny (model X.prog X.w) A (getItem (.ref a) u) Q E s:=by
 rcases g with ⟨kvs,k,e,du,l⟩ | ⟨kvs,k,b,e,du,ed,l⟩
 ·subst du;obtain ⟨z,hd,vs,rel,dd⟩:=q3 I.a6 e;obtain ⟨cO,hw,eE⟩:=hp.some_of (v:=v) (o:=valueAt vs k) (by rw [l];exact rel.val k);exact wpAny_getItem_of (vH br) dd.mapOf hw (h cO _ (I.tok _) eE)
 ·subst du;cases (show u=Value.ref b from br);obtain ⟨z,hd,xs,rel,dd⟩:=yh I.a6 e;obtain ⟨cO,hw,eE⟩:=hp.some_of (v:=v) (o:=(atKey xs k).map (·.2)) (by rw [l];exact rel.val k);obtain ⟨p,ax,hk⟩:=Option.map_eq_some_iff.mp hw;refine wpAny_getItem_heap (tupleKind_room_in1 bD) (yw I.a6 ed) dd ax ?_;rw [hk];exact h cO _ (I.tok _) eE
theorem Jg {Q:Value->Shared->Prop} (bD:A.units+1<cLine) (I:Inv X pins σ H s) (g:m2 H a y o) (br:RelV y u) (h : ∀ s',Inv X pins σ H s'->Q (.bool (!o.isSome)) s') :
  wpAny (model X.prog X.w) A (compareOp .NotIn u (.ref a)) Q E s:=by
 rcases g with ⟨kvs,k,e,du,l⟩ | ⟨kvs,k,b,e,du,ed,l⟩
 ·subst du;obtain ⟨z,hd,vs,rel,dd⟩:=q3 I.a6 e;refine wpAny_notIn_of (vH br) hd dd.mapOf ?_;rw [<-(rel.val k).Dw,<-l];exact h _ (I.tok _)
 ·subst du;cases (show u=Value.ref b from br);obtain ⟨z,hd,xs,rel,dd⟩:=yh I.a6 e;refine wpAny_notIn_heap (tupleKind_room_in1 bD) (yw I.a6 ed) hd dd ?_;have q:=(rel.val k).Dw;rw [Option.isSome_map] at q;rw [<-q,<-l];exact h _ (I.tok _)
theorem CM {h':Heap} {t':Nat} {b2:dG} (I:Inv X pins σ H s) (jP:uc (H a)) (az:Heap.SameBut a s.heap h') (he : ∃ q,h'.get? a=some q) (new:dW X.prog X.w (upd H a b2) h' a b2) :
  Inv X pins σ (upd H a b2) { s with heap:=h',toks:=t' } :=
 I.write (x:=a) (e:=a) jP (.inl rfl) (λ b q J z=>(az.2 b J).trans z) he new
theorem Cz {P:Program} {w:World} {H':ah} {h':Heap} {kvs:List (Key×V)} {vs:List (Key×Value)} (z:kvs.length<=sizeLine) (hd:(a == sysModules)=false) (rel:fw kvs vs) (dd:h'.DictOf (gZ P w) a vs) :
  dW P w H' h' a (.bp kvs):=⟨z,hd,vs,rel,dd⟩
theorem Xq {H':ah} {Q:Unit->Shared->Prop} (bD:A.units+1<cLine) (I:Inv X pins σ H s) (g:xU H a y v H') (br:RelV y u) (bR:RelV v r) (h : ∀ s',Inv X pins σ H' s'->Q () s') :
  wpAny (model X.prog X.w) A (setItem (.ref a) u r) Q E s:=by
 rcases g with ⟨kvs,k,e,du,l,k8⟩ | ⟨kvs,k,b,e,du,ed,l,k8⟩
 ·subst du k8;obtain ⟨z,hd,vs,rel,dd⟩:=vD I.a6 e;have a9:vs.length<=sizeLine:=by rw [<-rel.length];exact z
  have au:(putK kvs k v).length<=sizeLine:=by have:=Ls kvs k v;omega
  refine wpAny_setItem_pairs (hsz:=a9) (vH br) dd λ h' lu az=>h _ ?_
  have he : ∃ q,h'.get? a=some q:=let ⟨q,_,_,aS,_⟩:=lu;⟨q,aS⟩
  exact CM I (by rw [e];exact True.intro) az he (Cz au hd (rel.put k bR) lu)
 ·subst du k8;cases (show u=Value.ref b from br);obtain ⟨z,hd,xs,rel,dd⟩:=Sg I.a6 e;have a9:xs.length<=sizeLine:=by rw [<-Paired.length rel];exact z
  have au:(putK kvs k v).length<=sizeLine:=by have:=Ls kvs k v;omega
  refine wpAny_setItem_heap (hsz:=a9) (tupleKind_room_in1 bD) (yw I.a6 ed) dd λ h' lu az=>h _ ?_
  obtain ⟨q,ao,ep,aS,ai,aF,aX,_,bT⟩:=lu;refine CM I (by rw [e];exact True.intro) az ⟨q,aS⟩ ⟨au,hd,_,(rel.put k ed bR).keeps λ c ys dX=>?_,q,ao,ep,aS,ai,aF,aX,bT⟩;rw [a8 (cI dX e (λ z=>nomatch z))];exact dX
end
section
variable {X:aP} {pins:List (Addr×Obj)} {σ:St} {H:ah} {s:Shared} {a:Addr} {kvs:List (Key×V)} {k:Key} {u:Value} {A:Around} {E:Value->Shared->Prop}
theorem Sf {v:V} {more:List Value} {Q:Value->Shared->Prop} (I:Inv X pins σ H s) (e:H a=some (.bp kvs)) (br:RelV (cF k) u) (l:dZ kvs k=some v) (hm:more=[] \/ ∃ x,more=[x])
  (h : ∀ cO s',Inv X pins σ (upd H a (.bp (oF kvs k))) s'->RelV v cO->Q cO s'):wpAny (model X.prog X.w) A (call (.builtin "dict.pop") (.ref a::u::more)) Q E s:=by
 obtain ⟨z,hd,vs,rel,dd⟩:=vD I.a6 e;obtain ⟨cO,hw,eE⟩:=hp.some_of (v:=v) (o:=valueAt vs k) (by rw [<-l];exact rel.val k);have ax:(keyPart u).isSome=true:=by
  cases k with
  | inl i=>obtain ⟨t,q⟩:=(show ∃ t,u=Value.int i t from br);subst q;rfl
  | inr x=>obtain ⟨t,q⟩:=(show ∃ t,u=Value.str x t from br);subst q;rfl
 have aw:argsOk "dict.pop" ⟨.ref a::u::more,[]⟩:=by
  rcases hm with q | ⟨x,q⟩
  ·subst q;exact PySem.F.args_dict_pop_2 _ _
  ·subst q;exact PySem.F.args_dict_pop_3 _ _ _
 refine call_meetsIn PySem.F.slot_dict_pop dd.typeIs PySem.F.entry_dict_pop aw (meets_dict_pop_there (gZ X.prog X.w) a (vH br) more hm ax)
  ⟨vs,cO,dd,by rw [<-rel.length];exact z,hw,λ h' lu az=>h cO _ ?_ eE⟩
 have he : ∃ q,h'.get? a=some q:=let ⟨q,_,_,aS,_⟩:=lu;⟨q,aS⟩
 exact CM I (by rw [e];exact True.intro) az he (Cz (Nat.le_trans (VR kvs k) z) hd (rel.drop k) lu)
theorem Ia {Q:Value->Shared->Prop} (I:Inv X pins σ H s) (e:dx H a (.bp kvs)) (h : ∀ t s',Inv X pins σ H s'->Q (.int kvs.length t) s'):wpAny (model X.prog X.w) A (call (.builtin "len") [.ref a]) Q E s:=by
 obtain ⟨z,hd,vs,rel,dd⟩:=q3 I.a6 e;refine call_len_dict hd dd (by rw [<-rel.length];rw [sizeLine_eq] at z;omega) ?_;rw [<-rel.length];exact h _ _ (I.tok _)
end
def BS (i:Expr):Prop := ∀ de dY,subscripted i false de dY=operate [de,dY] (getItem de dY)
theorem JC {prog:Program} {w:World} {A:Around} {E:Value->Shared->Prop} {s:Shared} {env:Env} {value slice:Expr} {pos:Pos} {T id:String} {Q:Value->Shared->Prop}
  (au:typeLookup (.type T) "__getitem__" = pure (some (.builtin id))) (az:BS slice)
  (h:wpAny (model prog w) A (eval value env) (λ o s₁=>wpAny (model prog w) A (eval slice env) (λ i s₂=>s₂.TypeIs o T/\wpAny (model prog w) A (getItem o i) Q E s₂) E s₁) E s) :
  wpAny (model prog w) A (eval (.Subscript value slice pos) env) Q E s:=by
 refine Subscript_ (wpAny_mono h (λ o s₁ h₁=>wpAny_mono h₁ (λ i s₂ h₂=>?_) λ _ _ x=>x) λ _ _ x=>x);obtain ⟨bJ,h₂⟩:=h₂;unfold subscriptTail;refine wpAny_bind ?_;rw [getitemInPython_of_ne bJ.not_modules];refine wpAny_bind (wpAny_specialOf bJ au ?_);have fin:wpAny (model prog w) A (subscripted slice false o i) (λ r s₃=>wpAny (model prog w) A (letTemporaryGo value o r>>=λ _=>pure r) Q E s₃) E s₂:=by
  rw [az o i];exact wpAny_operating (wpAny_mono h₂ (λ r s₃ h₃=>wpAny_bind (wpAny_letTemporaryGo (wpAny_pure h₃))) λ _ _ x=>x)
 first
  | exact wpAny_pure (wpAny_bind fin)
  | exact wpAny_bind (wpAny_pure (wpAny_bind fin))
  | exact wpAny_bind fin
theorem Lp {X:aP} {pins:List (Addr×Obj)} {σ:St} {H:ah} {s:Shared} {a:Addr} {y:V} {o:Option V} (I:Inv X pins σ H s) (g:m2 H a y o):s.TypeIs (.ref a) "dict" := by
 rcases g with ⟨kvs,k,e,_,_⟩ | ⟨kvs,k,b,e,_,_,_⟩
 ·obtain ⟨_,_,vs,_,dd⟩:=q3 I.a6 e;exact dd.typeIs
 ·obtain ⟨_,_,xs,_,dd⟩:=yh I.a6 e;exact dd.typeIs
theorem s9 {X:aP} {st:Stmt}:gJ X st I2:=⟨WA⟩
def ub (a:Addr):g4 :=
 ⟨λ i H => ∃ xs x,H a=some (.lst xs)/\xs[i]?=some x,
 λ i H v H' => ∃ p,H p=none/\v=.ref p /\ ∃ x,H'=upd H p (.tup [.int (i:Int),x]) /\ ∀ xs,H a=some (.lst xs)->xs[i]?=some x,
 λ i H => ∃ xs,H a=some (.lst xs)/\xs.length<=i⟩
theorem YA {tT:Bool} {P:Program} {w:World} {K:PySem.W.Frag} {bb:Expr} (fR:kV bb=true) {e it a:Addr} (fF:e≠it) :
  Turn P w K tT bb (ub a) [e,it] e (λ i h=>(∃ old,IsEnum h e it (i:Int) old)/\h.IsListIter it a i) where
 mem:=List.mem_cons_self
 obj:=λ i h st c aj=>by
  obtain ⟨⟨old,af⟩,⟨g9,aX,_,jg⟩⟩:=st;have hQ : ∀ {o:Obj} {vs:Array Value},o.data=.fields vs -> ∀ v,o.data≠.cell v:=λ e v q=>by rw [e] at q;cases q
  simp only [List.mem_cons,List.not_mem_nil,or_false] at aj;rcases aj with rfl | rfl
  ·exact ⟨_,af,hQ rfl⟩
  ·exact ⟨_,aX,hQ jg⟩
 keep:=λ i h h' st k=>by
  obtain ⟨⟨old,af⟩,⟨g9,aX,hG⟩⟩:=st;exact ⟨⟨old,k _ (by simp) _ af⟩,⟨g9,k _ (by simp) _ aX,hG⟩⟩
 item:=by
  intro X c4 hw dH iC aj i pins s σ H E I hf st aI;subst c4 hw dH;obtain ⟨⟨old,af⟩,aX⟩:=st;obtain ⟨xs,x,cG,ak⟩:=aI;obtain ⟨z,its,n,bR,hlen,bP⟩:=I.iH cG;obtain ⟨hb,n2,oo⟩:=bR.get ak;refine wpAny_pyNext_enum_item af aX (show s.heap.IsList a its.toArray from ⟨_,bP,rfl,n,rfl⟩) (x:=hb) (by simpa using n2) fF λ g dP dQ eM ek dt=>?_
  refine ⟨_,rfl,?_⟩;have elt:e<s.heap.objs.size:=Heap.lt_size af;cases bb with
  | Tuple ao fb pp =>
   refine wpAny_letOwnedTupleGo_enum dP λ g' hB cR=>?_
   have new:g'.get? s.heap.objs.size=some { cls:=.type "tuple", data:=.seq #[.int i s.toks,hb] }:=cR.extBut _ _ (Nat.ne_of_gt elt) eM;have aE:Inv X pins σ (upd H s.heap.objs.size (.tup [.int (i:Int),x])) { s with heap:=g',toks:=s.toks+1 }:=by
    refine I.we (t':=s.toks+1) (L:=[e,it]) (λ c o cL en=>?_) hf (Nat.le_refl _) ⟨by show 2<=sizeLine;decide,[.int i s.toks,hb],.cons ⟨_,rfl⟩ (.cons oo .nil),⟨_,new,rfl,⟨0,rfl⟩,rfl⟩⟩;simp only [List.mem_cons,List.not_mem_nil,or_false,not_or] at cL;exact cR.extBut c o cL.1 (dt c o cL.1 cL.2 en)
   refine ⟨.ref s.heap.objs.size,_,aE,rfl,⟨_,I.fresh,rfl,x,rfl,λ xR a7=>?_⟩,⟨⟨hb,?_⟩,dQ.extBut cR.extBut fF.symm⟩,λ c cY=>?_⟩
   ·rw [cG] at a7;cases a7;exact ak
   ·rw [show ((i+1:Nat):Int)=(i:Int)+1 by omega];exact hB
   ·obtain ⟨o,en⟩ : ∃ o,s.heap.get? c=some o:=by
     simp only [List.mem_cons,List.not_mem_nil,or_false] at cY;rcases cY with rfl | rfl
     ·exact ⟨_,af⟩
     ·obtain ⟨g9,fY,_⟩:=aX;exact ⟨_,fY⟩
    rw [a8 (Nat.ne_of_lt (Heap.lt_size en))];exact (hf c cY).1
  | _=>exact absurd (show false=true from fR) Bool.false_ne_true
 done:=by
  intro X c4 hw dH iC aj i pins s σ H E I hf st aI;subst c4 hw dH;obtain ⟨⟨old,af⟩,aX⟩:=st;obtain ⟨xs,cG,au⟩:=aI;obtain ⟨z,its,n,bR,hlen,bP⟩:=I.iH cG;refine gH.VS (I.jt aj) af aX (show s.heap.IsList a its.toArray from ⟨_,bP,rfl,n,rfl⟩) (by simp;omega) λ g up=>⟨rfl,?_⟩
  refine I.vV (t':=s.toks) (L:=[e,it]) (λ c o cL en=>?_) hf;simp only [List.mem_cons,List.not_mem_nil,or_false,not_or] at cL;exact up c o cL.2 en
 self:=λ _ _ _ _ _ st h=>by
  obtain ⟨⟨old,af⟩,_⟩:=st;exact wpAny_pyIter_enum af h
section
variable {X:aP} {bb:Expr}
def Ik (aZ:c3):TI:=λ σ H R=>aZ σ H λ vs H1 => ∃ a xs,vs=[.ref a]/\H1 a=some (.lst xs)/\R (ub a) H1
theorem UO {aO:Expr} {aZ:c3} {p pos:Pos} (fR:kV bb=true) (aI:dy X "enumerate") (hm:X.mg "enumerate" = none) (aw:hA X [aO] aZ) (az:starEach [aO] X.env=[(false,eval aO X.env)]:=by rfl)
  (J:bootBuiltins "enumerate" = some (.type "enumerate"):=by decide +kernel):k4 X bb (.Call (.Name "enumerate" p) [aO] [] pos) (Ik aZ):=by
 intro pins s σ H R I h;refine Call_ (mr I aI hm J (PyProof.Rows.callWith_type1 (bj (aw pos pins s σ H _ I h) λ us s1 ⟨vs,H1,aE,bq,a7⟩=>?_) az rfl));obtain ⟨a,xs,e,cG,q⟩:=a7;subst e;obtain ⟨gi,rfl,lZ⟩:=vals1 bq;cases lZ;obtain ⟨z,its,n,bR,hlen,bP⟩:=aE.iH cG;refine call_enumerate_1 bP λ g fs e4 iZ up=>?_
 refine wpAny_pyIter_enum fs ?_;have bS:Inv X pins σ H1 { s1 with heap:=g }:=aE.kept (t':=s1.toks) up;refine ⟨_,[s1.heap.objs.size+1,s1.heap.objs.size],_,_,H1,rfl,bS,YA fR (Nat.ne_of_gt (Nat.lt_succ_self _)),⟨⟨_,fs⟩,e4⟩,λ c aj=>?_,q⟩;have big:s1.heap.objs.size<=c:=by
  simp only [List.mem_cons,List.not_mem_nil,or_false] at aj;rcases aj with rfl | rfl
  ·exact Nat.le_add_right _ _
  ·exact Nat.le_refl _
 exact aE.mi big (aE.a6.fresh big)
theorem Jx {aO:Expr} {aZ:c3} {p pos:Pos} (fR:kV bb=true) (aI:dy X "enumerate") (hm:X.mg "enumerate" = none) (aw:eZ X [aO] aZ) (az:starEach [aO] X.env=[(false,eval aO X.env)]:=by rfl)
  (J:bootBuiltins "enumerate" = some (.type "enumerate"):=by decide +kernel):jL X bb (.Call (.Name "enumerate" p) [aO] [] pos) (Ik aZ):=⟨UO fR aI hm aw.o az J⟩
end
theorem JU {a:Addr} {xs:List V} {g:eG} {bk:dr} {D:Ends} {σ:St} {H:ah} (Pv:Nat->St->ah->Prop) (h0:Pv 0 σ H) (au : ∀ i σ H,i<=xs.length->Pv i σ H->H a=some (.lst xs))
  (az : ∀ i x p σ H,xs[i]?=some x->H p=none->Pv i σ H->g (.ref p) σ (upd H p (.tup [.int (i:Int),x])) λ σ2 ar=>bk { D with bF:=Pv (i+1),cu:=Pv (i+1),aY:=D.bF } σ2 ar) (hd : ∀ σ H,Pv xs.length σ H->D.bF σ H) :
  ∃ W:Nat->Nat->St->ah->Prop,(∃ m,W 0 m σ H) /\ ∀ i m σ H,W i m σ H ->
   ((ub a).stop i H/\D.bF σ H)\/((ub a).go i H /\ ∃ N:St->ah->Prop,(∀ σ' H',N σ' H' -> ∃ cJ,cJ<m/\W (i+1) cJ σ' H') /\ ∀ x H',(ub a).j5 i H x H'->g x σ H' λ σ2 ar=>bk { D with bF:=N,cu:=N,aY:=D.bF } σ2 ar):=by
 refine ⟨λ i m σ H=>m=xs.length - i/\i<=xs.length/\Pv i σ H,⟨_,rfl,Nat.zero_le _,h0⟩,?_⟩;rintro i m σ H ⟨rfl,ay,p⟩;have cG:=au i σ H ay p;by_cases dE:i<xs.length
 ·refine .inr ⟨⟨xs,xs[i],cG,by simp [dE]⟩,Pv (i+1),λ σ' H' hD=>⟨xs.length - (i+1),by omega,rfl,dE,hD⟩,λ v H' jl=>?_⟩;obtain ⟨q,aS,rfl,x,rfl,i6⟩:=jl;exact az i x q σ H (i6 xs cG) aS p
 ·have e:i=xs.length:=by omega
  refine .inl ⟨⟨xs,cG,by omega⟩,hd σ H (e ▸ p)⟩
section
variable {X:aP}
theorem Xk (aj:X.calm=true):e7 X (.builtin "min") (λ xs H Q => ∃ (p:Addr) (ns:List Int),xs=[.ref p]/\a3 X.K H p (ns.map V.int)/\ns≠[] /\ ∀ M,M∈ns->(∀ a,a∈ns->M<=a)->Q (.int M) H):=by
 intro pins s σ H xs us Q I r h;obtain ⟨p,ns,rfl,aS,fF,q⟩:=h;obtain ⟨u,rfl,a5⟩:=vals1 r;cases a5;obtain ⟨its,bB,pl,a9⟩:=I.list aS;have au:=pl.isList;have ay:=intsAre_of bB;obtain ⟨xs,e⟩:=ay.allInts.items;have i4:ns=xs.toList.map (·.1):=by rw [<-ay.numsOf,<-nums_intItems,<-e]
 have hsz:0<xs.size:=by
  have aF:0<ns.length:=by cases ns with | nil=>exact absurd rfl fF | cons=>simp
  rw [i4,List.length_map,Array.length_toList] at aF;exact aF
 rw [e] at au;refine min_intList (I.ok.hd.1 aj) au hsz λ v h' bw bf aB=>?_
 obtain ⟨t,rfl⟩:=intItems_at bf;obtain ⟨af,ai⟩:=argBest_lt (numAt xs) (xs.size - 1);refine ⟨.int _,H,I.kept aB,⟨_,rfl⟩,q _ ?_ λ a aw=>?_⟩
 ·rw [i4,numAt_eq];exact getD_mem (by rw [List.length_map,Array.length_toList];omega)
 ·rw [i4] at aw;obtain ⟨j,b3,rfl⟩:=mem_getD aw;rw [List.length_map,Array.length_toList] at b3;rw [<-numAt_eq];exact ai j (by omega)
end
def vg (H:ah) (x:V) (c:List Int):Prop := ∃ a,x=.ref a/\H a=some (.tup (c.map V.int))
def eX (H:ah) (xs:List V) (cs:List (List Int)):Prop:=xs.length=cs.length /\ ∀ (i:Nat) (x:V),xs[i]?=some x -> ∃ c,cs[i]?=some c/\vg H x c
end bI
namespace p6
open PySem PyProof.Rows
theorem aa1 (o:Obj) (f:Array Value->Array Value):(Obj.mapFields f o).dict=o.dict:=by
 unfold Obj.mapFields;split<;>rfl
def Rec (h:Heap) (e:Addr) (C:Value) (d:Option Addr) (head:Value):Prop := ∃ bQ vs,h.get? e=some bQ/\bQ.cls=C/\bQ.dict=d/\bQ.data=.fields vs/\vs[1]?=some head/\vs[2]?=some .none
def Ent (h:Heap) (T:Addr) (cW:Value):Prop := ∃ rN cb,h.get? T=some rN/\rN.data=.fields cb/\cb[3]?=some cW
abbrev mJ (l:List Env):List Addr:=l.filterMap (·.frame)
def jb (L F:List Addr) (h h':Heap):Prop:=(∀ b o,b∉L->b∉F->h.get? b=some o->h'.get? b=some o) /\ ∀ b o,b∉L->b∈F->h.get? b=some o -> ∃ cA,h'.get? b=some { o with slots:=cA }
theorem jb.trans {L Fx F:List Addr} {h af ai:Heap} (x:jb L F h af) (y:jb Fx F af ai):jb (L++Fx) F h ai:=by
 refine ⟨λ b o nl fZ e=>?_,λ b o nl hf e=>?_⟩
 ·exact y.1 b o (λ z=>nl (List.mem_append_right _ z)) fZ (x.1 b o (λ z=>nl (List.mem_append_left _ z)) fZ e)
 ·obtain ⟨cA,aO⟩:=x.2 b o (λ z=>nl (List.mem_append_left _ z)) hf e;obtain ⟨mY,aQ⟩:=y.2 b _ (λ z=>nl (List.mem_append_right _ z)) hf aO;exact ⟨mY,aQ⟩
section
variable {M:Model} {A:Around} {E:Value->Shared->Prop} {s:Shared}
theorem IJ {base:Heap} {env:Env} {outer:List Env} {L e:Addr} {bQ:Obj} {vs:Array Value} {head:Value} {Un:Bool} {Q:Unit->Shared->Prop}
  (gQ:A.frames=some (env::outer)) (au:s.heap.FunFrames base (env::outer)) (hf:env.frame=some L)
  (he:s.heap.get? e=some bQ) (hd:bQ.data=.fields vs) (hsz:1<vs.size) (ai:vs[2]?=some .none)
  (h : ∀ h' T,s.heap.get? T=none->jb [e] (mJ (env::outer)) s.heap h'->Rec h' e bQ.cls bQ.dict (.ref T)->Ent h' T (rawInt L)->Q () { s with heap:=h' }) :
  wpAny M A (do let a ← frameOf env;let pl ← entryPlaceOf L Un;let b ← EntryCells.newEntry head a .none (rawInt L) .none pl;setField (.ref e) 1 b) Q E s:=by
 have Rn:e∉mJ (env::outer):=λ hm=>by
  obtain ⟨_,o,aG,kv⟩:=au.mem hm;rw [he] at aG;injection aG with aG;subst aG;exact kv vs hd
 refine wpAny_bind (wpAny_frameOf_fun gQ au hf λ af mU=>?_);refine wpAny_bind (wpAny_entryPlaceOf λ pl dp=>?_);unfold EntryCells.newEntry newFields;refine wpAny_bind (wpAny_newObj_type ?_ (dp.sizeOk5 _ _ _ _ _));have pn:af.get? e=some bQ:=(mU.2.1 e Rn).trans he;have Gw:=Heap.get?_push_of_some (h:=af) { cls:=.type "traceback", dict:=none,data:=.fields ([head,.ref L,.none,rawInt L,.none]++(if pl.isEmpty then List.replicate 6 Value.none else pl)).toArray } pn;have xj:af.objs.size≠e:=Nat.ne_of_gt (Heap.lt_size pn);have qx:=Obj.data_mapFields hd (·.setIfInBounds 1 (Value.ref af.objs.size));have qA:=Heap.get?_update_self (Obj.mapFields (·.setIfInBounds 1 (Value.ref af.objs.size))) Gw (Obj.isFreed_of_fields qx);refine wpAny_setField Gw hd hsz (h _ af.objs.size ?_ ⟨λ b o nl fZ q=>?_,λ b o nl J q=>?_⟩ ⟨_,_,qA,Obj.cls_mapFields _ _,aa1 _ _,qx,by simp [hsz],by simp [ai]⟩ ⟨_,_,(Heap.get?_update_other _ _ (Ne.symm xj)).trans (Heap.get?_push_size af rfl),rfl,?_⟩)
 ·cases q:s.heap.get? af.objs.size with
  | none=>rfl
  | some o=>have:=Heap.lt_size q;rw [<-mU.1] at this;exact absurd this (Nat.lt_irrefl _)
 ·have Br:b≠e:=λ z=>nl (by rw [z];exact List.mem_singleton.mpr rfl)
  rw [Heap.get?_update_other _ _ (Ne.symm Br)];exact Heap.get?_push_of_some _ ((mU.2.1 b fZ).trans q)
 ·have Br:b≠e:=λ z=>nl (by rw [z];exact List.mem_singleton.mpr rfl)
  obtain ⟨cA,aO⟩:=mU.2.2 b o q;refine ⟨cA,?_⟩;rw [Heap.get?_update_other _ _ (Ne.symm Br)];exact Heap.get?_push_of_some _ aO
 ·first | (simp;done) | (rcases dp with rfl | ⟨_,_,_,_,_,_,_,rfl⟩<;>simp)
theorem Wh {base:Heap} {env:Env} {outer:List Env} {L e:Addr} {C:Value} {d:Option Addr} {Q:Unit->Shared->Prop}
  (gQ:A.frames=some (env::outer)) (au:s.heap.FunFrames base (env::outer)) (hf:env.frame=some L) (aq:Rec s.heap e C d .none)
  (h : ∀ h' T,s.heap.get? T=none->jb [e] (mJ (env::outer)) s.heap h'->Rec h' e C d (.ref T)->Ent h' T (rawInt L)->Q () { s with heap:=h' }):wpAny M A (noteFrame (.ref e) env) Q E s:=by
 obtain ⟨bQ,vs,he,rfl,rfl,hd,af,ai⟩:=aq;unfold noteFrame;simp only [hf];refine wpAny_bind (wpAny_field he hd af ?_);rw [if_neg (show ¬ ((Value.none != Value.none)=true) by decide)];exact IJ gQ au hf he hd (Array.getElem?_eq_some_iff.mp af).1 ai h
theorem Uw {base:Heap} {env:Env} {outer:List Env} {L e T0:Addr} {C:Value} {d:Option Addr} {Q:Unit->Shared->Prop}
  (gQ:A.frames=some (env::outer)) (au:s.heap.FunFrames base (env::outer)) (hf:env.frame=some L) (aq:Rec s.heap e C d (.ref T0)) (aW:Ent s.heap T0 .none) (fF:T0≠e)
  (h : ∀ h' T,s.heap.get? T=none->jb [e,T0] (mJ (env::outer)) s.heap h'->Rec h' e C d (.ref T)->Ent h' T (rawInt L)->Q () { s with heap:=h' }):wpAny M A (noteFrame (.ref e) env) Q E s:=by
 obtain ⟨bQ,vs,he,rfl,rfl,hd,af,ai⟩:=aq;obtain ⟨rN,cb,bJ,lA,aF⟩:=aW;unfold noteFrame;simp only [hf];refine wpAny_bind (wpAny_field he hd af ?_);rw [if_pos (show (Value.ref T0 != Value.none)=true from by simp)];refine wpAny_bind (wpAny_field bJ lA aF ?_);rw [if_neg (show ¬ ((Value.none == rawInt L)=true) from by simp [rawInt])];refine wpAny_bind (wpAny_setField bJ lA (Array.getElem?_eq_some_iff.mp aF).1 ?_);have other : ∀ b,b≠T0->(s.heap.update T0 (Obj.mapFields (·.setIfInBounds 3 Value.none))).get? b=s.heap.get? b:=λ b J=>Heap.get?_update_other _ _ (Ne.symm J)
 have Wf : ∀ b o,s.heap.get? b=some o->(∀ vs,o.data≠.fields vs)->b≠T0:=λ b o J kv q=>by
  rw [q,bJ] at J;injection J with J;subst J;exact kv cb lA
 refine IJ gQ (au.of_keeps λ b o J kv=>⟨o,(other b (Wf b o J kv)).trans J,rfl⟩) hf ((other e (Ne.symm fF)).trans he) hd (Array.getElem?_eq_some_iff.mp af).1 ai λ h' T uz hC i5 uT=>?_
 refine h h' T ?_ ⟨λ b o nl fZ q=>?_,λ b o nl J q=>?_⟩ i5 uT
 ·cases q:s.heap.get? T with
  | none=>rfl
  | some o =>
   by_cases z:T=T0
   ·have bD:=Heap.get?_update_self (Obj.mapFields (·.setIfInBounds 3 Value.none)) bJ (Obj.isFreed_of_fields (Obj.data_mapFields lA _));rw [<-z] at bD;rw [z] at uz;rw [z] at bD;rw [bD] at uz;cases uz
   ·rw [other T z,q] at uz;cases uz
 ·have cc:b≠T0:=λ z=>nl (by rw [z];simp)
  exact hC.1 b o (λ z=>nl (by rw [List.mem_singleton.mp z];simp)) fZ ((other b cc).trans q)
 ·have cc:b≠T0:=λ z=>nl (by rw [z];simp)
  exact hC.2 b o (λ z=>nl (by rw [List.mem_singleton.mp z];simp)) J ((other b cc).trans q)
theorem land {F:List Addr} {e T:Addr} {C cW:Value} {d:Option Addr} {Q:Unit->Shared->Prop} (aq:Rec s.heap e C d (.ref T)) (aW:Ent s.heap T cW) (fF:T≠e) (la : ∀ b∈F,b≠T)
  (h : ∀ h',jb [T] F s.heap h'->Rec h' e C d (.ref T)->Ent h' T .none->Q () { s with heap:=h' }):wpAny M A (setFlight (.ref e) none) Q E s:=by
 obtain ⟨bQ,vs,he,eR,AO,hd,af,ai⟩:=aq;obtain ⟨rN,cb,bJ,lA,aF⟩:=aW;have HK:3<cb.size:=(Array.getElem?_eq_some_iff.mp aF).1;unfold setFlight;refine wpAny_bind (wpAny_field he hd af ?_);rw [if_pos (show (Value.ref T != Value.none)=true from by simp)];refine wpAny_setField bJ lA HK (h _ ⟨λ b o nl _ q=>(Heap.get?_update_other _ _ (λ z=>nl (by rw [z];exact List.mem_singleton.mpr rfl))).trans q,λ b o nl _ q=>⟨o.slots,(Heap.get?_update_other _ _ (λ z=>nl (by rw [z];exact List.mem_singleton.mpr rfl))).trans q⟩⟩
  ⟨bQ,vs,(Heap.get?_update_other _ _ fF).trans he,eR,AO,hd,af,ai⟩ ⟨_,_,Heap.get?_update_self _ bJ (Obj.isFreed_of_fields (Obj.data_mapFields lA _)),Obj.data_mapFields lA _,by simp [HK]⟩)
def vN (h:Heap) (e:Addr) (head:Value) (L:List Addr):Prop:=(head=.none/\L=[]) \/ ∃ T,head=.ref T/\Ent h T .none/\T≠e/\L=[T]
theorem Sq {base:Heap} {env:Env} {outer:List Env} {L e:Addr} {C head:Value} {d:Option Addr} {i3:List Addr} {Q:Unit->Shared->Prop}
  (gQ:A.frames=some (env::outer)) (au:s.heap.FunFrames base (env::outer)) (hf:env.frame=some L) (aq:Rec s.heap e C d head) (bU:vN s.heap e head i3)
  (h : ∀ h' T,s.heap.get? T=none->jb (e::i3) (mJ (env::outer)) s.heap h'->Rec h' e C d (.ref T)->Ent h' T (rawInt L)->Q () { s with heap:=h' }):wpAny M A (noteFrame (.ref e) env) Q E s:=by
 rcases bU with ⟨rfl,rfl⟩ | ⟨T0,rfl,aW,fF,rfl⟩
 ·exact Wh gQ au hf aq h
 ·exact Uw gQ au hf aq aW fF h
theorem landed {base:Heap} {env:Env} {outer:List Env} {L e:Addr} {C head:Value} {d:Option Addr} {i3:List Addr} {Q:Unit->Shared->Prop}
  (gQ:A.frames=some (env::outer)) (au:s.heap.FunFrames base (env::outer)) (hf:env.frame=some L) (aq:Rec s.heap e C d head) (bU:vN s.heap e head i3)
  (h : ∀ h' T,s.heap.get? T=none->T≠e->jb (e::i3) (mJ (env::outer)) s.heap h'->Rec h' e C d (.ref T)->Ent h' T .none->Q () { s with heap:=h' }) :
  wpAny M A (noteFrame (.ref e) env) (λ _ s'=>wpAny M A (setFlight (.ref e) none) Q E s') E s:=by
 refine Sq gQ au hf aq bU λ af T bJ k1 bq t1=>?_
 have xj:T≠e:=λ z=>by
  obtain ⟨bQ,_,he,_⟩:=aq;rw [z,he] at bJ;cases bJ
 have O1 : ∀ b∈mJ (env::outer),b≠T:=λ b J z=>by
  obtain ⟨_,o,aG,_⟩:=au.mem J;rw [z,bJ] at aG;cases aG
 refine land (F:=mJ (env::outer)) (s:={ s with heap:=af }) bq t1 xj O1 λ ai k2 b5 aT=>?_
 have k:=k1.trans k2;refine h ai T bJ xj ⟨λ b o nl fZ q=>k.1 b o (λ z=>?_) fZ q,λ b o nl J q=>k.2 b o (λ z=>?_) J q⟩ b5 aT
 all_goals
  rcases List.mem_append.mp z with z | z
  ·exact nl z
  ·rw [List.mem_singleton.mp z,bJ] at q;cases q
theorem leave {base:Heap} {env:Env} {outer:List Env} {L e:Addr} {C head:Value} {d:Option Addr} {i3:List Addr} {Q:Unit->Shared->Prop}
  (gQ:A.frames=some (env::outer)) (au:s.heap.FunFrames base (env::outer)) (hf:env.frame=some L) (aq:Rec s.heap e C d head) (bU:vN s.heap e head i3)
  (h : ∀ h' T,s.heap.get? T=none->T≠e->jb (e::i3) (mJ (env::outer)) s.heap h'->Rec h' e C d (.ref T)->Ent h' T .none->Q () { s with heap:=h' }):wpAny M A (leaving env (.ref e)) Q E s:=by
 unfold leaving;exact wpAny_bind (landed gQ au hf aq bU h)
end
end p6
namespace bI
open PySem PySem.Spec PyProof.Rows p6
theorem dW.some {P:Program} {w:World} {H:ah} {h:Heap} {a:Addr} {o:dG} (x:dW P w H h a o) : ∃ b2,h.get? a=some b2:=by
 cases o with
 | lst xs=>obtain ⟨_,_,_,_,e⟩:=x;exact ⟨_,e⟩
 | tup xs=>obtain ⟨_,_,_,b2,e,_⟩:=x;exact ⟨_,e⟩
 | bp kvs=>obtain ⟨_,_,_,_,o,_,_,e,_⟩:=x;exact ⟨_,e⟩
 | iU kvs=>obtain ⟨_,_,_,_,o,_,_,e,_⟩:=x;exact ⟨_,e⟩
 | set S n=>obtain ⟨o,_,_,_,e,_⟩:=x;exact ⟨_,e⟩
 | ins C aH aA=>obtain ⟨_,_,_,e,_⟩:=x;exact ⟨_,e⟩
 | own y=>obtain ⟨_,e⟩:=x;exact ⟨_,e⟩
 | jk aA=>obtain ⟨_,⟨_,_,_,e,_⟩,_⟩:=x;exact ⟨_,e⟩
 | pC lo ay=>obtain ⟨_,_,_,e⟩:=x;exact ⟨_,e⟩
 | fB b2 u=>obtain ⟨e,_⟩:=x;exact ⟨_,e⟩
 | oy ag=>exact ⟨_,(show h.get? a=Option.some _ from x)⟩
 | met f y=>exact ⟨_,(show h.get? a=Option.some _ from x)⟩
 | ext φ => obtain ⟨_,⟨_,e⟩,_⟩:=x;exact ⟨_,e⟩
theorem eo.gone {P:Program} {w:World} {H:ah} {h:Heap} (x:eo P w H h) {a:Addr} (e:h.get? a=none):H a=none:=by
 cases q:H a with
 | none=>rfl
 | some o =>
  obtain ⟨b2,z⟩:=(x a o q).some;rw [e] at z;cases z
theorem eo.nv {P:Program} {w:World} {H:ah} {h h':Heap} {L F:List Addr} (x:eo P w H h) (k:jb L F h h') (eN : ∀ b∈L,H b=none) (la : ∀ b∈F,H b=none):eo P w H h':=λ a o e =>
 (x a o e).ih (λ b u J q=>by
  have aD:H b≠none:=by
   rcases J with rfl | z
   ·rw [e];simp
   ·rw [z];simp
  exact k.1 b u (λ z=>aD (eN b z)) (λ z=>aD (la b z)) q) (λ _ q=>q) λ _ _ q=>q
theorem fk.nv {aA:List Addr} {a0 H:ah} {h0 h h':Heap} {L F:List Addr} (u:fk aA [] a0 H h0 h) (k:jb L F h h') (eN : ∀ b∈L,h0.get? b=none) (la : ∀ b∈F,b∈aA\/h0.get? b=none):fk aA [] a0 H h0 h':=by
 have t2 : ∀ b o,h0.get? b=some o->b∉L:=λ b o e z=>by rw [eN b z] at e;cases e
 refine ⟨λ b o e n fZ bF=>?_,λ b o e n hf bF=>?_,u.free,λ b o e bF=>?_,u.j9,u.jC,u.j8⟩
 ·refine k.1 b o (t2 b o e) (λ z=>?_) (u.keep b o e n fZ bF);rcases la b z with z | z
  ·exact fZ z
  ·rw [z] at e;cases e
 ·obtain ⟨cA,aO⟩:=u.slot b o e n hf bF;by_cases J:b∈F
  ·obtain ⟨mY,aQ⟩:=k.2 b _ (t2 b o e) J aO;exact ⟨mY,aQ⟩
  ·exact ⟨cA,k.1 b _ (t2 b o e) J aO⟩
 ·obtain ⟨eH,aO⟩:=u.there b o e bF;by_cases J:b∈F
  ·obtain ⟨mY,aQ⟩:=k.2 b _ (t2 b o e) J aO;exact ⟨_,aQ⟩
  ·exact ⟨_,k.1 b _ (t2 b o e) J aO⟩
def i0 (P:Program) (w:World):hL:=λ outer H s E ev s' => ∃ (e T C:Addr) (d:Option Addr) (H':ah),ev=.ref e/\s'.os=s.os/\AllBare s'.gens/\fk (ff outer) [] H H' s.heap s'.heap/\eo P w H' s'.heap /\
 s.heap.get? e=none/\s.heap.get? T=none/\T≠e/\H' e=none/\H' T=none/\Rec s'.heap e (.ref C) d (.ref T)/\Ent s'.heap T .none/\E (.ref C) d H'
structure eW (X:aP) (pins:List (Addr×Obj)) (e:Addr):Prop where
 s0:X.s₀.heap.get? e=none
 loc:e≠X.env.locals
 cell : ∀ x c,X.env.cells.lookup x=some c->c≠e
 pin : ∀ p∈X.jR++pins,p.1≠e
theorem eW.of {X:aP} {pins:List (Addr×Obj)} {σ:St} {H:ah} {s:Shared} (I:Inv X pins σ H s) (ak:X.ex=[]) {e:Addr} (h:s.heap.get? e=none):eW X pins e:=by
 refine ⟨?_,?_,λ x c aj z=>?_,λ p ax z=>?_⟩
 ·cases q:X.s₀.heap.get? e with
  | none=>rfl
  | some o =>
   obtain ⟨eH,z⟩:=I.base.there e o q (by rw [ak];simp);rw [h] at z;cases z
 ·intro z;obtain ⟨m,⟨o,_,_,aG,_⟩,_⟩:=I.loc;rw [z,aG] at h;cases h
 ·obtain ⟨v,o,aG,_⟩:=I.cell x c aj;rw [<-z,aG] at h;cases h
 ·obtain ⟨aG,_⟩:=I.pin p ax;rw [<-z,aG] at h;cases h
def ql (X:aP) (E:dz):Prop := ∀ (pins:List (Addr×Obj)) (σ:St) (H:ah) (s:Shared) (e C:Addr) (d:Option Addr) (head:Value) (au:List Addr),Inv X pins σ H s->eW X pins e->H e=none ->
 Rec s.heap e (.ref C) d head->vN s.heap e head au->(∀ b∈au,eW X pins b/\H b=none)->E (.ref C) d H->X.cP (.ref e) s
theorem vM {X:aP} {E:dz} (ak:X.ex=[]) (k:ql X E):Passes (i0 X.prog X.w) X E:=by
 rintro pins σ H s ev s' I ⟨e,T,C,d,H',rfl,aG,aI,u,a6,fx,p_,ky,gw,dT,aq,aW,fL⟩;exact k pins σ H' s' e C d (.ref T) [T] (I.yg aG u a6 aI λ b J=>absurd J (by simp)) (eW.of I ak fx) gw aq (.inr ⟨T,rfl,aW,ky,rfl⟩) (λ b J=>by rw [List.mem_singleton.mp J];exact ⟨eW.of I ak p_,dT⟩) fL
theorem sS {P:Program} {w:World} {K:PySem.W.Frag} {mg:Str->Option Value} {base:Heap} {N:List Str} {qual:Str} {scope:Scope} {f:Addr} {cd:Value} {A:Around} {outer:List Env} {s0:Shared} {a0:ah} {E:dz} :
  ql (j6 (i0 P w) P w K mg base N qual scope f cd A outer s0 a0 E) E:=by
 intro pins σ H s e C d head au I fx gw aq bU pq fL;show wpAny (model P w) (A.deeper (envOfC qual scope s0.heap.objs.size f cd)) (leaving (envOfC qual scope s0.heap.objs.size f cd) (.ref e)) _ _ s;have O8 : ∀ b∈mJ (envOfC qual scope s0.heap.objs.size f cd::outer),H b=none:=I.sZ;refine leave (base:=base) I.ok.frames I.stack rfl aq bU λ h' T bJ ky hC bq t1=>⟨e,T,C,d,H,rfl,I.os,I.bare,?_,?_,fx.s0,(eW.of I rfl bJ).s0,ky,gw,I.a6.gone bJ,bq,t1,fL⟩
 ·refine (show fk (ff outer) [] a0 H s0.heap s.heap from I.base).nv hC (λ b J=>?_) (λ b J=>?_)
  ·rcases List.mem_cons.mp J with z | z
   ·rw [z];exact fx.s0
   ·exact (pq b z).1.s0
  ·rcases List.mem_cons.mp (show b∈s0.heap.objs.size::ff outer from J) with z | z
   ·refine .inr ?_;cases q:s0.heap.get? b with
    | none=>rfl
    | some o=>have:=Heap.lt_size q;rw [z] at this;exact absurd this (Nat.lt_irrefl _)
   ·exact .inl z
 ·refine I.a6.nv hC (λ b J=>?_) O8;rcases List.mem_cons.mp J with z | z
  ·rw [z];exact gw
  ·exact (pq b z).2
theorem yn {P:Program} {w:World} {K:PySem.W.Frag} {mg:Str->Option Value} {base:Heap} {N:List Str} {qual:Str} {scope:Scope} {f:Addr} {cd:Value} {A:Around} {outer:List Env} {s0:Shared} {a0:ah} {E:dz} :
  Passes (i0 P w) (j6 (i0 P w) P w K mg base N qual scope f cd A outer s0 a0 E) E:=vM rfl sS
abbrev iA:List Value:=[.type "ValueError", .type "Exception", .type "BaseException", .type "object"]
structure m3 (K:PySem.W.Frag) (mg:Str->Option Value) (x:Str) (C:Addr):Prop where
 at_:mg x=some (.ref C)
 is:PySem.W.excIn K C iA "ValueError.__new__" = true
theorem m3.own {K:PySem.W.Frag} {mg:Str->Option Value} {x:Str} {C:Addr} {h:Heap} (c:m3 K mg x C) (X:K.In h):OwnCls x C iA "ValueError.__new__" mg h:=by
 obtain ⟨e,q⟩:=c;refine ⟨e,?_⟩;unfold PySem.W.excIn at q;split at q
 ·rename_i dd cd cA aG;split at q
  ·rename_i ML bm k0 k1 k2 k3 n k5 hm az;simp only [Bool.and_eq_true,beq_iff_eq,Bool.not_eq_true'] at q;obtain ⟨⟨⟨⟨⟨rfl,rfl⟩,HI⟩,aW⟩,a6⟩,qF⟩:=q;obtain ⟨nm,bs,mro,ns,qf,hd,sn,sub,ab,col,del⟩:=cd;dsimp only at hm HI a6 qF;subst hm HI;have Pz:cA=#[k0,k1,k2,k3,some (.builtin "ValueError.__new__"),k5]:=by
    obtain ⟨l⟩:=cA;simp only at az;rw [az]
   subst Pz;exact ⟨bm,ns,nm,qf,bs,hd,sn,sub,ab,col,dd,k0,k1,k2,k3,k5,_,X _ _ aG,.of_isNs (PySem.W.isNs_of_in X a6),PySem.W.nsMap_none_of_in X a6 qF,PySem.W.tail_of_in X aW⟩
  ·cases q
 ·cases q
def T2 (C:Addr) (E:dz) (aZ:c3):dr:=λ _ σ H=>aZ σ H λ vs H1=>vs.length<=sizeLine/\E (.ref C) none H1
theorem yV {X:aP} {E:dz} {x:Str} {C:Addr} {a:Expr} {ao:List Expr} {aZ:c3} {np d4 pos:Pos} (k:ql X E) (ak:X.ex=[]) (aj:X.calm=true) (c:m3 X.K X.mg x C) (aI:dy X x) (aw:eZ X (a::ao) aZ) (cB:noStar a=true:=by rfl)
  (dp:(backTo d4 (starEach ao X.env)).any (·.1)=false:=by rfl) (hd:(x == ("__debug__" : Str))=false:=by decide):gJ X (.Raise (some (.Call (.Name x np) (a::ao) [] d4)) none pos) (T2 C E aZ):=⟨by
 intro pins s σ H D I h;obtain ⟨ck,N,nm,q,bs,hdct,sn,sub,ab,col,dd,k0,k1,k2,k3,k5,mN,eR,di,qF,T⟩:=(c.own I.mod.jy).obj;have he:=ry cB ao X.env;refine wpAny_Raise_call_subT (C:=C) (nm:=nm) (q:=q) (N:=N) (bs:=bs) (bm:=ck) (hdct:=hdct) (sn:=sn) (sub:=sub) (ab:=ab) (col:=col) (dd:=dd) (k0:=k0) (k1:=k1) (k2:=k2) (k3:=k3) (k5:=k5)
  PySem.F.excBase_ValueError (mN:=mN) (T.hasType PySem.F.excBase_ValueError.hasBase) (I.ok.hd.1 aj) (by rw [he];show (false||(backTo d4 (starEach ao X.env)).any (·.1))=false;rw [dp];rfl) qF (nx I aI c.at_ ⟨rfl,?_⟩ hd)
 have h7:=aw.o d4 pins s σ H _ I h;rw [he] at h7 ⊢;refine Calls.evalArgs_plain (bj h7 λ us s1 ⟨vs,H1,aE,r,a9,fL⟩=>?_);refine ⟨rfl,by rw [<-r.length];exact a9,aE.aY _ _ eR,di.keeps aE.aY,T.keeps aE.aY,λ h' e hm=>?_⟩
 ·have bS:Inv X pins σ H1 { s1 with heap:=h' }:=aE.kept (t':=s1.toks) hm.keeps;obtain ⟨t,qz,_,_⟩:=hm.there;refine k pins σ H1 _ e C none .none [] bS (eW.of aE ak hm.new) (aE.a6.gone hm.new) ⟨_,_,qz,rfl,rfl,rfl,rfl,rfl⟩ (.inl ⟨rfl,rfl⟩) (λ b J=>absurd J (by simp)) fL⟩
end bI
namespace PySem
section
variable {M:Model} {A:Around} {E:Value->Shared->Prop}
variable {nm q G9 aU:Str} {C N D Fy:Addr} {bs bm Gg xc:List Value} {hdct Ie:Bool} {sn Hq:List Str} {sub HZ:List Value} {ab Gd:Bool} {col HC:Option Bool} {dd lu:Option Addr} {k0 k1 k2 k3 k5 FO b0 b4 FP FQ:Option Value} {newId Tg:String}
theorem abn {h:Heap} {g:Array GenState} {d:Drawn} {t:Nat} {os:OsState} {e:Addr} {bQ:Obj} {Q:Bool->Shared->Prop}
  (eR:h.get? C=some (excClassObj nm q C N bs bm hdct sn sub ab col dd k0 k1 k2 k3 k5 newId)) (a4:h.get? D=some (excClassObj G9 aU D Fy Gg xc Ie Hq HZ Gd HC lu FO b0 b4 FP FQ Tg))
  (he:h.get? e=some bQ) (vj:bQ.cls=.ref C) (jE:xc.contains (.type "BaseException")=true) (jt:bm.contains (.ref D)=true)
  (aS:Q true ⟨h,g,d,t,os⟩):wpAny M A (excMatches (.ref e) (.ref D)) Q E ⟨h,g,d,t,os⟩:=by
 have AJ:(Value.ref D::xc).contains (.type "BaseException")=true:=by rw [List.contains_cons,jE,Bool.or_true]
 have AK:(Value.ref C::bm).contains (.ref D)=true:=by rw [List.contains_cons,jt,Bool.or_true]
 have f:=tc_notTuple;unfold excMatches
 repeat (first | (with_reducible refine wpAny_loadPart_at he ?_;rw [vj]) | with_reducible refine wpAny_loadPart_at a4 ?_ | (with_reducible refine wpAny_isSubtype_exc a4 ?_;rw [AJ]) | (with_reducible refine wpAny_isSubtype_exc eR ?_;rw [AK]) | wp_step)
 exact aS
end
end PySem
namespace bI
open PySem PySem.Spec PyProof.Rows p6
theorem Inv.nv {X:aP} {pins:List (Addr×Obj)} {σ:St} {H:ah} {s:Shared} {h':Heap} {L:List Addr} (I:Inv X pins σ H s) (ak:X.ex=[]) (hC:jb L (ff X.stack) s.heap h') (eN : ∀ b∈L,eW X pins b/\H b=none) :
  Inv X pins σ H { s with heap:=h' }:=by
 have one : ∀ b o,b∉L->s.heap.get? b=some o -> ∃ cA,h'.get? b=some { o with slots:=cA }:=λ b o nl e=>by
  by_cases J:b∈ff X.stack
  ·exact hC.2 b o nl J e
  ·exact ⟨o.slots,hC.1 b o nl J e⟩
 refine ⟨I.ok,I.os,I.bare,?_,?_,λ x c e=>?_,I.free,I.gV,λ p ax=>?_,I.a6.nv hC (λ b J=>(eN b J).2) I.sZ,I.len⟩
 ·rw [ak];have u:=I.base;rw [ak] at u;refine u.nv hC (λ b J=>(eN b J).1.s0) λ b J=>?_
  rcases List.mem_cons.mp (I.oO b J) with z | z
  ·refine .inr ?_;cases q:X.s₀.heap.get? b with
   | none=>rfl
   | some o =>
    have:=Nat.lt_of_lt_of_le (Heap.lt_size q) I.ok.above;rw [z] at this;exact absurd this (Nat.lt_irrefl _)
  ·exact .inl z
 ·obtain ⟨m,⟨o,ao,ep,aG,r⟩,au⟩:=I.loc;obtain ⟨cA,aO⟩:=one X.env.locals o (λ z=>(eN _ z).1.loc rfl) aG;refine ⟨m,⟨_,ao,ep,aO,r⟩,λ i x v a b c=>?_⟩;obtain ⟨u,bR,l⟩:=au i x v a b c;refine ⟨u,bR,?_⟩;rcases l with l | ⟨k,c,e,e1,ju,hd⟩
  ·exact .inl l
  ·obtain ⟨mY,aQ⟩:=one c e1 (λ z=>(eN _ z).1.cell x c e rfl) ju;exact .inr ⟨k,c,e,_,aQ,hd⟩
 ·obtain ⟨v,e1,ju,hd⟩:=I.cell x c e;obtain ⟨mY,aQ⟩:=one c e1 (λ z=>(eN _ z).1.cell x c e rfl) ju;exact ⟨v,_,aQ,hd⟩
 ·obtain ⟨e,n,ne,fZ,d⟩:=I.pin p ax;refine ⟨hC.1 p.1 p.2 (λ z=>(eN _ z).1.pin p ax rfl) (λ z=>?_) e,n,ne,fZ,d⟩;rcases List.mem_cons.mp (I.oO p.1 z) with y | y
  ·exact ne y
  ·exact fZ y
theorem K0 {X:aP} {pins:List (Addr×Obj)} {σ:St} {H:ah} {s:Shared} {M:Model} {A:Around} {E:Value->Shared->Prop} {i:Nat} {x:Str} {v:V} {Q:Unit->Shared->Prop} (I:Inv X pins σ H s) (di:X.N.Nodup) (ay:X.N[i]?=some x) (aB:X.env.scope.names.lookup x=some .local) (bf:σ[i]?=some (some v))
  (h : ∀ s',Inv X pins (σ.set i none) H s'->Q () s'):wpAny M A (unbindName X.env x) Q E s:=by
 obtain ⟨m,aD,au⟩:=id I.loc;have vj:(X.env.scope.kind == .class||(X.env.scope.kind == .module&&X.env.locals != X.env.globals))=false:=by rw [I.ok.kind];rfl
 obtain ⟨u,_,lk⟩:=au i x v ay bf (.inl aB);have hm:m x=some u:=by
  rcases lk with ⟨_,e⟩ | ⟨k,_⟩
  ·exact e
  ·have fa:X.env.scope.names.lookup x=some .cell\/X.env.scope.names.lookup x=some .free:=k;rw [aB] at fa;rcases fa with z | z<;>cases z
 refine wpAny_unbindName_local aB aD hm vj λ h' cO A6 az=>?_
 obtain ⟨FW,_,_,GD,_⟩:=id aD;have u0 : ∀ b o,X.s₀.heap.get? b=some o->b≠X.env.locals:=λ b o e=>Nat.ne_of_lt (Nat.lt_of_lt_of_le (Heap.lt_size e) I.ok.above)
 refine h _ ⟨I.ok,I.os,I.bare,⟨λ b o e n J ak=>?_,λ b o e n J ak=>?_,I.base.free,λ b o e ak=>?_,I.base.j9,I.base.jC,I.base.j8⟩,⟨_,A6,λ j y iz aO aQ el=>?_⟩,λ y c e=>?_,I.free,I.gV,λ p ax=>?_,?_,?_⟩
 ·exact (az.2 b (u0 b o e)).trans (I.base.keep b o e n J ak)
 ·obtain ⟨cA,aO⟩:=I.base.slot b o e n J ak;exact ⟨cA,(az.2 b (u0 b o e)).trans aO⟩
 ·obtain ⟨eH,aO⟩:=I.base.there b o e ak;exact ⟨eH,(az.2 b (u0 b o e)).trans aO⟩
 ·by_cases b3:j=i
  ·subst b3;have hiσ:j < σ.length:=(List.getElem?_eq_some_iff.mp bf).1;rw [List.getElem?_set_self hiσ] at aQ;cases aQ
  ·rw [List.getElem?_set_ne (Ne.symm b3)] at aQ;obtain ⟨jj,bB,q⟩:=au j y iz aO aQ el;refine ⟨jj,bB,?_⟩;rcases q with ⟨k,e⟩ | ⟨k,c,e,z⟩
   ·refine .inl ⟨k,?_⟩;have:y≠x:=λ e=>b3 (C8 di aO (e ▸ ay))
    simp [this,e]
   ·exact .inr ⟨k,c,e,z.sameBut az (I.n1 y c e)⟩
 ·obtain ⟨gz,z⟩:=I.cell y c e;exact ⟨gz,z.sameBut az (I.n1 y c e)⟩
 ·obtain ⟨e,n,ne,fZ,d⟩:=I.pin p ax;exact ⟨(az.2 p.1 ne).trans e,n,ne,fZ,d⟩
 ·intro b b2 e;refine (I.a6 b b2 e).ih (λ c cO aj q=>(az.2 c ?_).trans q) (λ _ q=>q) λ _ _ q=>q
  rintro rfl;rcases aj with rfl | aj
  ·rw [I.free] at e;cases e
  ·rw [I.free] at aj;cases aj
 ·rw [List.length_set];exact I.len
def kJ (e C:Addr) (d:Option Addr):dG:=.ext λ h => ∃ bQ vs,h.get? e=some bQ/\bQ.cls=.ref C/\bQ.dict=d/\bQ.data=.fields vs/\vs[2]?=some .none
theorem Rec.ok {P:Program} {w:World} {H:ah} {h:Heap} {e C:Addr} {d:Option Addr} {head:Value} (r:Rec h e (.ref C) d head):dW P w H h e (kJ e C d):=by
 obtain ⟨bQ,vs,he,aj,hd,hf,_,ai⟩:=r;refine ⟨⟨bQ,vs,he,aj,hd,hf,ai⟩,⟨_,he⟩,?_⟩;rintro af ai ⟨u5,qX,a,b,c,d'⟩ k;exact ⟨u5,qX,k _ a,b,c,d'⟩
theorem Inv.known {X:aP} {pins:List (Addr×Obj)} {σ:St} {H:ah} {s:Shared} {e:Addr} {o:dG} (I:Inv X pins σ H s) (ak:X.ex=[]) (fx:eW X pins e) (he:H e=none) (ok:dW X.prog X.w (upd H e o) s.heap e o) (fZ : ∀ b∈ff X.stack,b≠e):Inv X pins σ (upd H e o) s:=by
 have u0 : ∀ b b2,X.s₀.heap.get? b=some b2->b≠e:=λ b b2 q z=>by rw [z,fx.s0] at q;cases q
 refine ⟨I.ok,I.os,I.bare,⟨I.base.keep,I.base.slot,λ b b2 q n ak=>by rw [a8 (u0 b b2 q)];exact I.base.free b b2 q n ak,I.base.there,λ b xs q=>?_,λ b b2 u q=>?_,λ b ag q=>?_⟩,I.loc,I.cell,?_,λ x c q=>?_,λ p ax=>?_,λ b b2 q=>?_,I.len⟩
 ·have:=I.base.j9 b xs q;rw [a8 (cj this he)];exact this
 ·have:=I.base.jC b b2 u q;rw [a8 (cj this he)];exact this
 ·obtain ⟨m,this⟩:=I.base.j8 b ag q;exact ⟨m,by rw [a8 (cj this he)];exact this⟩
 ·rw [a8 (Ne.symm fx.loc)];exact I.free
 ·rw [a8 (fx.cell x c q)];exact I.gV x c q
 ·obtain ⟨a,b,c,d,f⟩:=I.pin p ax;exact ⟨a,by rw [a8 (fx.pin p ax)];exact b,c,d,f⟩
 ·by_cases z:b=e
  ·subst z;rw [bA] at q;cases q;exact ok
  ·rw [a8 z] at q;refine (I.a6 b b2 q).ih (λ _ _ _ q=>q) (λ c q=>?_) λ c xs q=>?_
   ·rw [a8 (cj q he)];exact q
   ·rw [a8 (cj q he)];exact q
abbrev kR (X:aP) (pins:List (Addr×Obj)) (W:Value->Shared->Prop):aP :=
 { X with jR:=X.jR++pins,cP:=λ e s1=>wpAny (model X.prog X.w) X.A (noteFrame e X.env) (λ _ s2=>wpAny (model X.prog X.w) X.A (setFlight e none) (λ _ s3=>W e s3) X.cP s2) X.cP s1 }
abbrev kQ (X:aP) (e:Addr):aP:={ X with A:=X.A.mark (some (.ref e)),calm:=false,warm:=false,cP:=λ _ _=>False }
section
variable {X:aP} {pins q6:List (Addr×Obj)} {σ:St} {H:ah} {s:Shared} {W:Value->Shared->Prop} {e:Addr}
theorem aP.Ok.yu (ok:X.Ok):(kR X pins W).Ok :=
 ⟨ok.mod,ok.kind,ok.glob,ok.blt,ok.above,ok.inj,ok.has,ok.mI,ok.hd,ok.frames,ok.ox,ok.qr,ok.bs,ok.h6,ok.mj,ok.oA,ok.hR,ok.jZ⟩
theorem aP.Ok.hW (ok:(kR X pins W).Ok):X.Ok :=
 ⟨ok.mod,ok.kind,ok.glob,ok.blt,ok.above,ok.inj,ok.has,ok.mI,ok.hd,ok.frames,ok.ox,ok.qr,ok.bs,ok.h6,ok.mj,ok.oA,ok.hR,ok.jZ⟩
theorem aP.Ok.yB (ok:X.Ok):(kQ X e).Ok :=
 ⟨ok.mod,ok.kind,ok.glob,ok.blt,ok.above,ok.inj,ok.has,ok.mI,⟨λ h=>(nomatch h),λ h=>(nomatch h)⟩,ok.frames,ok.ox,ok.qr,ok.bs,ok.h6,ok.mj,ok.oA,ok.hR,ok.jZ⟩
theorem Inv.yu (I:Inv X pins σ H s):Inv (kR X pins W) [] σ H s :=
 ⟨I.ok.yu,I.os,I.bare,I.base,I.loc,I.cell,I.free,I.gV,λ p ax=>I.pin p (by rw [List.append_nil] at ax;exact ax),I.a6,I.len⟩
theorem Inv.hW (I:Inv (kR X pins W) q6 σ H s):Inv X pins σ H s :=
 ⟨I.ok.hW,I.os,I.bare,I.base,I.loc,I.cell,I.free,I.gV,λ p ax=>I.pin p (List.mem_append_left _ ax),I.a6,I.len⟩
theorem Inv.yB (I:Inv X pins σ H s):Inv (kQ X e) pins σ H s:=⟨I.ok.yB,I.os,I.bare,I.base,I.loc,I.cell,I.free,I.gV,I.pin,I.a6,I.len⟩
theorem Inv.pZ (ok:X.Ok) (I:Inv (kQ X e) pins σ H s):Inv X pins σ H s:=⟨ok,I.os,I.bare,I.base,I.loc,I.cell,I.free,I.gV,I.pin,I.a6,I.len⟩
theorem eW.hW {b:Addr} (f:eW (kR X pins W) q6 b):eW X pins b:=⟨f.s0,f.loc,f.cell,λ p ax=>f.pin p (List.mem_append_left _ ax)⟩
end
theorem Vy {X:aP} {pins:List (Addr×Obj)} {W:Value->Shared->Prop} {E:dz} (ak:X.ex=[]) (cB:X.stack=X.env::X.outer) (hf:X.env.frame=some X.env.locals)
  (qb : ∀ (σ:St) (H:ah) (s:Shared) (e C T:Addr) (d:Option Addr),Inv X pins σ H s->eW X pins e->H e=none->Rec s.heap e (.ref C) d (.ref T)->Ent s.heap T .none->T≠e->eW X pins T->H T=none->E (.ref C) d H->W (.ref e) s):ql (kR X pins W) E:=by
 intro q6 σ H s e C d head au I fx gw aq bU pq fL;have lS:Inv X pins σ H s:=I.hW;show wpAny (model X.prog X.w) X.A (noteFrame (.ref e) X.env) _ _ s;have gQ:X.A.frames=some (X.env::X.outer):=by rw [<-cB];exact lS.ok.frames
 have ku:s.heap.FunFrames X.base (X.env::X.outer):=by rw [<-cB];exact lS.stack
 refine landed gQ ku hf aq bU λ h' T bJ ky hC bq t1=>?_
 have Bm:jb (e::au) (ff X.stack) s.heap h':=by rw [cB];exact hC
 have aE:Inv X pins σ H { s with heap:=h' }:=lS.nv ak Bm λ b J=>by
  rcases List.mem_cons.mp J with z | z
  ·rw [z];exact ⟨fx.hW,gw⟩
  ·exact ⟨(pq b z).1.hW,(pq b z).2⟩
 exact qb σ H _ e C T d aE fx.hW gw bq t1 ky (eW.of lS ak bJ) (lS.a6.gone bJ) fL
structure Under (K:PySem.W.Frag) (C F:Addr):Prop where
 is:PySem.W.excIn K C iA "ValueError.__new__" = true
 GV:PySem.W.mroIn K C (.ref F)=some true
 ne:C≠F
def Sa (K:PySem.W.Frag) (F:Addr) (i:Nat) (E:dz) (bk cb:dr):dr:=λ D σ H=>bk D σ H /\ ∀ C d H1,E (.ref C) d H1->Under K C F /\ ∀ (e:Addr) (σ1:St),H1 e=none->i < σ1.length ->
 cb { bF:=λ σ2 ar=>D.bF ((σ2.set i (some .bg)).set i none) ar,ji:=D.ji,aY:=λ σ2 ar=>D.aY ((σ2.set i (some .bg)).set i none) ar,cu:=λ σ2 ar=>D.cu ((σ2.set i (some .bg)).set i none) ar } (σ1.set i (some (.ref e))) (upd H1 e (kJ e C d))
theorem TR {X:aP} {E:dz} {x n:Str} {i:Nat} {F:Addr} {body oJ:List Stmt} {fl:Stmt} {bk cb:dr} {np ig pos:Pos} (ak:X.ex=[]) (cB:X.stack=X.env::X.outer) (hf:X.env.frame=some X.env.locals) (wI:m3 X.K X.mg x F) (aI:dy X x)
  (di:X.N.Nodup) (ay:X.N[i]?=some n) (aB:X.env.scope.names.lookup n=some .local)
  (J : ∀ pins W,ql (kR X pins W) E->h4 (kR X pins W) body bk) (az : ∀ e,h4 (kQ X e) (fl::oJ) cb) (hd:(x == ("__debug__" : Str))=false:=by decide) :
  gJ X (.Try body [.ExceptHandler (some (.Name x np)) (some n) (fl::oJ) ig] [] [] pos) (Sa X.K F i E bk cb):=⟨by
 intro pins s σ H D I ⟨af,ai⟩;refine wpAny_Try_except ?_;have qb : ∀ (σ:St) (H:ah) (s:Shared) (e C T:Addr) (d:Option Addr),Inv X pins σ H s->eW X pins e->H e=none->Rec s.heap e (.ref C) d (.ref T)->Ent s.heap T .none->T≠e->eW X pins T->H T=none->E (.ref C) d H ->
   wpAny (model X.prog X.w) X.A (handleBy (.ref e) X.env [.ExceptHandler (some (.Name x np)) (some n) (fl::oJ) ig]) (g5 X pins D) X.cP s:=by
  intro σ H s e C T d I fx gw aq aW ky p_ dT fL;obtain ⟨U,Ba⟩:=ai C d H fL;have hiσ:i < σ.length:=by rw [I.len];exact (List.getElem?_eq_some_iff.mp ay).1
  refine wpAny_handleBy_cons (codeAny_handlers_test (Calls.Name_function_global I.ok.kind aI (Calls.loadGlobal_global (by rw [I.ok.glob];exact I.mod.glob.keeps I.aY) wI.at_ ?_) hd)) (by intro q;cases q);obtain ⟨bm,N,nm,q,bs,hdct,sn,sub,ab,col,dd,k0,k1,k2,k3,k5,mN,eR,acv,qF,abT⟩:=((m3.own (mg:=λ _=>some (.ref C)) (x:=x) ⟨rfl,U.is⟩) I.dF).obj;obtain ⟨xc,Fy,G9,aU,Gg,Ie,Hq,HZ,Gd,HC,lu,FO,b0,b4,FP,FQ,acL,OO,ac2,ac7,NS⟩:=(wI.own I.dF).obj;obtain ⟨bQ,vs,he,uC,AO,O6,PF⟩:=id aq;have jt:bm.contains (.ref F)=true:=by
   have m:=U.GV;unfold PySem.W.mroIn at m;obtain ⟨cd,a,b⟩:=Option.bind_eq_some_iff.mp m;unfold PySem.W.clsIn at a;split at a
   ·rename_i aG;have z:=I.dF _ _ aG;rw [eR] at z;cases z;cases a;split at b
    ·cases b
    ·have dO:(Value.ref C::bm).contains (.ref F)=true:=Option.some.inj b;rw [List.contains_cons] at dO;rcases Bool.or_eq_true_iff.mp dO with y | y
     ·have:=beq_iff_eq.mp y;injection this with this;exact absurd this.symm U.ne
     ·exact y
   ·cases a
  refine abn eR OO he uC (NS.hasType PySem.F.excBase_ValueError.hasBase) jt ?_;refine codeAny_handlers_suite_as ?_;refine land (F:=ff X.stack) aq aW ky (λ b J z=>?_) λ h' hC bq t1=>?_
  ·obtain ⟨_,o,aG,kv⟩:=I.stack.mem J;obtain ⟨rN,BI,bJ,lA,_⟩:=aW;rw [z,bJ] at aG;injection aG with aG;subst aG;exact kv BI lA
  have aE:Inv X pins σ H { s with heap:=h' }:=I.nv ak hC λ b J=>by rw [List.mem_singleton.mp J];exact ⟨p_,dT⟩
  have bS:Inv X pins σ (upd H e (kJ e C d)) { s with heap:=h' }:=aE.known ak fx gw (Rec.ok bq) λ b J z=>by
   obtain ⟨_,o,aG,kv⟩:=aE.stack.mem J;obtain ⟨u5,qX,qz,_,_,mQ,_⟩:=bq;rw [z] at aG;have:(Option.some u5)=some o:=qz.symm.trans aG;injection this with this;subst this;exact kv qX mQ
  refine tb bS di ay (.inl aB) (v:=.ref e) rfl (λ s2 b_=>?_) (.inr aB);refine wpAny_mono ((az e).o pins s2 _ _ _ b_.yB (Ba e σ gw hiσ)) (λ f s3 eb=>?_) λ _ _ z=>z.elim
  have fin : ∀ (σ3:St) (aK:ah) (Z:Flow->Shared->Prop) , Inv X pins σ3 aK s3->(∀ s5,Inv X pins ((σ3.set i (some .bg)).set i none) aK s5->Z f s5) ->
    wpAny (model X.prog X.w) X.A (do bindName X.env n .none;unbindBehindTheSuite X.env n ig) (λ _ s5=>Z f s5) X.cP s3:=by
   intro σ3 aK Z cV zL;have AZ:i < σ3.length:=by rw [cV.len];exact (List.getElem?_eq_some_iff.mp ay).1
   refine wpAny_bind (wpAny_bindName (tb cV di ay (.inl aB) (v:=.bg) rfl (λ s4 je=>?_) (.inr aB)));unfold unbindBehindTheSuite;exact wpAny_onRaise (K0 je di ay aB (List.getElem?_set_self AZ) λ s5 d9=>zL s5 d9)
  cases f with
  | next =>
   obtain ⟨σ3,aK,cV,q⟩:=eb;exact fin σ3 aK (g5 X pins D) (cV.pZ I.ok) λ s5 d9=>⟨_,_,d9,q⟩
  | brk =>
   obtain ⟨σ3,aK,cV,q⟩:=eb;exact fin σ3 aK (g5 X pins D) (cV.pZ I.ok) λ s5 d9=>⟨_,_,d9,q⟩
  | cont =>
   obtain ⟨σ3,aK,cV,q⟩:=eb;exact fin σ3 aK (g5 X pins D) (cV.pZ I.ok) λ s5 d9=>⟨_,_,d9,q⟩
  | ret u =>
   obtain ⟨v,σ3,aK,cV,bR,q⟩:=eb;exact fin σ3 aK (g5 X pins D) (cV.pZ I.ok) λ s5 d9=>⟨v,_,_,d9,bR,q⟩
 have mH:ql (kR X pins λ e s3=>wpAny (model X.prog X.w) X.A (handleBy e X.env [.ExceptHandler (some (.Name x np)) (some n) (fl::oJ) ig]) (g5 X pins D) X.cP s3) E:=Vy ak cB hf qb;refine wpAny_mono ((J pins _ mH).o [] s σ H D I.yu af) (λ f s1 eb=>?_) λ _ _ z=>z
 cases f with
 | next =>
  obtain ⟨σ3,aK,cV,q⟩:=eb;exact wpAny_execs_nil ⟨σ3,aK,cV.hW,q⟩
 | brk =>
  obtain ⟨σ3,aK,cV,q⟩:=eb;exact ⟨σ3,aK,cV.hW,q⟩
 | cont =>
  obtain ⟨σ3,aK,cV,q⟩:=eb;exact ⟨σ3,aK,cV.hW,q⟩
 | ret u =>
  obtain ⟨v,σ3,aK,cV,bR,q⟩:=eb;exact ⟨v,σ3,aK,cV.hW,bR,q⟩⟩
theorem h3.pA {P:Program} {w:World} {K:PySem.W.Frag} {mg:Str->Option Value} {base:Heap} {x qual:Str} {st:Stmt} {f:Addr} {fd:FuncData} {N ag:List Str} {k:Nat} {sp:bX} (F:h3 K x qual st f fd) (S:cq N ag (bO st)) (len : ∀ vs H Q E,sp vs H Q E->vs.length=ag.length)
  (ml : ∀ (ba:Value) (A:Around) (outer:List Env) (s:Shared) (H:ah) (vs:List V) (Q:bz) (E:dz),dV k (A.deeper (envOfC qual (bO st) s.heap.objs.size f ba))->sp vs H Q E ->
   ∃ t,h4 (j6 (i0 P w) P w K mg base N qual (bO st) f ba A outer s H E) (ip st) t/\t { bF:=λ _ H'=>Q .bg H',ji:=Q } (start N vs) H):dU P w K mg base (i0 P w) (k+1) f fd ag sp:=by
 obtain ⟨e1,bK,cF,doc,pm,an,ba,cu,md,rfl,lk,hN⟩:=F.ex;exact Ib lk hN S len λ A outer s H vs Q E aq eb=>let ⟨t,a,b⟩:=ml ba A outer s H vs Q E aq eb;⟨t,a.o,b⟩
end bI
namespace PySem.W
open PySem PySem.Spec PySem.Calls PyProof.Rows
section
variable {prog:Program} {w:World} {A:Around} {E:Value->Shared->Prop} {s:Shared} {K:Frag} {x C:Addr} {nV:Obj} {bK:Option Obj}
theorem aaD {a g:Value} {name:Str} (aj:(clsIn K C).isSome=true) (aw:findIn K (.ref C) name=some (some a)) (aI:specialIn K a "__get__" = some (some g)) (aW:takesIn K a=some true):findObj K C bK name=some (.bind g a):=by
 obtain ⟨cd,aj⟩:=Option.isSome_iff_exists.mp aj;unfold findObj;rw [aj,Option.bind_some,aw,Option.bind_some];simp [aI,aW]
structure kG (K:Frag) (C:Addr):Prop where
 cls:(clsIn K C).isSome=true
 ga:findIn K (.ref C) "__getattribute__" = some (some (.builtin "BaseException.__getattribute__"))
 FL:findIn K (.ref C) "__getattr__" = some none
 at_:findIn K (.ref C) "__class__" = some (some (.builtin "object.__class__"))
 get:specialIn K (.builtin "object.__class__") "__get__" = some (some (.builtin "getset_descriptor.__get__"))
 bw:takesIn K (.builtin "object.__class__")=some true
 b2:mroIn K C (.type "object")=some true
 be:mroIn K C (.type "BaseException")=some true
theorem W7 {bw:Tok} {Q:Fin->Shared->Prop} (X:K.In s.heap) (I:InstAt s.heap x nV C bK) (c:kG K C) (h:Q (.done (.ret (.ref C))) s) :
  wpAny (model prog w) A (Builtin.«object.__getattribute__» ⟨[.ref x,.str "__class__" bw],[]⟩) Q E s:=by
 obtain ⟨bU,g,d,t,os⟩:=s;have oZ:=I.type (M:=model prog w);have hY:=looks_find (M:=model prog w) X I (aaD c.cls c.at_ c.get c.bw);refine wpAny_bind (wpAny_pure (wpAny_bind (wpAny_pure (wpAny_bind (oZ.at (wpAny_bind (hY.at ?_)))))));show wpAny _ _ (holding [Value.builtin "object.__class__"] (call (.builtin "getset_descriptor.__get__") [.builtin "object.__class__", .ref x,.ref C])>>=ret) _ _ _;exact wpAny_bind (wpAny_holding (wpAny_call (class_get X I c.b2 (wpAny_pure h))))
theorem Ki {Iq:Value} {Q:Unit->Shared->Prop} (X:K.In s.heap) (I:InstAt s.heap x nV C bK) (c:kG K C) (h:Q () s):wpAny (model prog w) A (checkBuiltinCall "BaseException.__getattribute__" ⟨[.ref x,Iq],[]⟩) Q E s:=by
 have aB:builtinKind "BaseException.__getattribute__" = some .slot:=by decide +kernel
 have S6:splitId "BaseException.__getattribute__" = some ("BaseException", "__getattribute__"):=by decide +kernel
 have aw:=F.args_bexc_ga (.ref x) Iq;obtain ⟨bU,g,d,t,os⟩:=s;have oZ:=I.type (M:=model prog w);have hY:=looks_mroIn (M:=model prog w) X c.be;simp only [checkBuiltinCall,aB,S6];refine wpAny_bind ?_;unfold isInstance;refine wpAny_bind (oZ.at (hY.at ?_))
 repeat (first | assumption | wp_step)
theorem W6 {Q:Option Value->Shared->Prop} (X:K.In s.heap) (I:InstAt s.heap x nV C bK) (c:kG K C) (h:Q (some (.ref C)) { s with toks:=s.toks+1 }):wpAny (model prog w) A (getAttr? (.ref x) "__class__") Q E s:=by
 obtain ⟨bU,g,d,t,os⟩:=s;have oZ:=I.type (M:=model prog w);have hY:=looks_findIn (M:=model prog w) X c.ga;have bI:=looks_findIn (M:=model prog w) X c.FL;have dh:=PySem.F.attr_ValueError.ga.bind (.ref x);unfold getAttr? getAttrBy? getAttrBy;refine wpAny_bind (wpAny_mkText (wpAny_bind (wpAny_attempt (wpAny_holding (wpAny_bind (oZ.at (wpAny_bind (hY.at ?_))))))));show wpAny _ _ (getAttrByItsOwn _ _ _ _ _ _) _ _ _;unfold getAttrByItsOwn hookBefore;refine wpAny_bind (bI.at (wpAny_bind (wpAny_attempt (wpAny_holding ?_))));show wpAny _ _ (boundAndCalled _ _ _) _ _ _;unfold boundAndCalled
 repeat (any_goals (first | assumption | wp_step))
 refine codeAny_call_builtin PySem.F.attr_ValueError.ga.plain PySem.F.entry_bexc_ga (Ki X I c (W7 X I c ?_));exact handed_on rfl (wpAny_pure h)
def Q8 (x C:Addr) (h:Heap):Prop := ∃ nV bK,InstAt h x nV C bK
theorem V9 (c:kG K C):KitX K (.ref x) (.ref C) (Q8 x C) where
 ty:=λ _ _ _ ⟨_,_,I⟩=>I.type
 it:=λ _ _ X _=>by
  obtain ⟨NY,l7⟩:=Option.isSome_iff_exists.mp c.cls;unfold clsIn at l7;split at l7
  ·rename_i cN d' NX mY aG;intro abD tO lR s' k q;unfold isType loadHead;exact wpAny_bind (wpAny_loadPart (k _ _ (X _ _ aG)) (wpAny_pure q))
  ·cases l7
 ne:=λ h t8 dd its n cA X PC=>by
  obtain ⟨NY,l7⟩:=Option.isSome_iff_exists.mp c.cls;refine Bool.eq_false_iff.mpr λ q=>?_
  have e:C=t8:=Value.ref.inj (beq_iff_eq.mp q);subst e;unfold clsIn at l7;split at l7
  ·rename_i cN d' NX mY aG;have z:=(X _ _ aG).symm.trans PC;cases z
  ·cases l7
 ca:=λ X ⟨_,_,I⟩ k=>W6 X I c k
end
end PySem.W
namespace bI
open PySem PySem.Spec PyProof.Rows p6
def Ra:V->Option Value
 | .ref a=>some (.ref a)
 | .ty T=>some (.type T)
 | _=>none
def RZ (K:PySem.W.Frag):List V->ah->bz->Prop:=λ xs H Q => ∃ e C c wJ b,xs=[.ref e,c]/\H e=some (kJ e C none)/\Ra c=some wJ/\PySem.W.kG K C/\PySem.W.kitOne K (.ref C) wJ=some b/\Q (.aJ b) H
theorem kW {X:aP}:e7 X (.builtin "isinstance") (RZ X.K):=by
 intro pins s σ H xs us Q I r h;obtain ⟨e,C,c,wJ,b,rfl,he,aj,fy,aB,q⟩:=h;obtain ⟨u,cO,rfl,a5,rc⟩:=vals2 r;cases (show u=Value.ref e from a5);have hw:cO=wJ:=by
  cases c with
  | ref a=>cases aj;exact rc
  | ty T=>cases aj;exact rc
  | _=>cases aj
 subst hw;obtain ⟨⟨bQ,vs,af,ai,aF,aX,_⟩,_,_⟩:=(show dW X.prog X.w H s.heap e (kJ e C none) from I.a6 e _ he)
 refine PySem.W.kia_one (PySem.W.V9 fy) I.dF ⟨bQ,none,af,ai,?_,?_⟩ aB (λ z=>?_) λ bw=>⟨.aJ b,H,I.tok _,rfl,q⟩
 ·unfold PySem.W.notCls;rw [aX]
 ·rw [aF];trivial
 ·cases z
structure iK (k:Nat) (A:Around):Prop where
 mC:A.depth+3 * k+5<recursionLimit
 un:A.units+16 * k+200<cLine
theorem dV.u {k:Nat} {A:Around} (r:dV k A):iK k A:=⟨r.mC,r.un⟩
theorem dV.mark {k:Nat} {A:Around} (r:dV k A) (e:Option Value):iK k (A.mark e):=⟨r.mC,r.un⟩
theorem iK.mono {j k:Nat} {A:Around} (r:iK k A) (h:j<=k):iK j A:=⟨by have:=r.mC;omega,by have:=r.un;omega⟩
theorem iK.deeper {k:Nat} {A:Around} (r:iK (k+1) A) (env:Env):iK k (A.deeper env) :=
 ⟨by have:=r.mC;show A.depth+1+3 * k+5<_;omega,by have:=r.un;show A.units+3+16 * k+200<_;omega⟩
theorem iK.depth {k:Nat} {A:Around} (r:iK k A):A.depth<recursionLimit:=by have:=r.mC;omega
structure Ck (P:Program) (w:World) (K:PySem.W.Frag) (mg:Str->Option Value) (base:Heap) (k:Nat) (f:Addr) (fd:FuncData) (ag:List Str) (sp:bX):Prop where
 len : ∀ vs H Q E,sp vs H Q E->vs.length=ag.length
 run : ∀ (A:Around) (outer:List Env) (s:Shared) (H:ah) (args:Args) (us:List Value) (vs:List V) (Q:bz) (E:dz),iK k A->mf P w K mg base A outer s H->BindsTo s fd args (ag.zip us)->Vals vs us->sp vs H Q E ->
  codeAny (model P w) A (.call (.ref f) args) (zu cD outer P w H s Q E) s
abbrev xe (P:Program) (w:World) (K:PySem.W.Frag) (mg:Str->Option Value) (base:Heap) (N:List Str) (qual:Str) (scope:Scope) (f:Addr) (cd:Value) (A:Around) (outer:List Env) (s:Shared) (H:ah) (E:dz):aP :=
 { j6 cD P w K mg base N qual scope f cd A outer s H E with calm:=false,warm:=false,cP:=λ _ _=>False }
theorem Y9 {P:Program} {w:World} {K:PySem.W.Frag} {mg:Str->Option Value} {base:Heap} {N ag:List Str} {qual:Str} {scope:Scope} {f:Addr} {cd:Value} {A:Around} {outer:List Env} {s s1:Shared} {H:ah} {E:dz} {us:List Value} {vs:List V}
  (S:cq N ag scope) (bP:mf P w K mg base A outer s H) (au:vs.length=ag.length) (r:Vals vs us)
  (x:InCallC s s.heap.objs.size (bindL (envOfC qual scope s.heap.objs.size f cd).kindOf (ag.zip us) λ _=>none) (cellsFrom (s.heap.objs.size+1) scope.names []) (bindC (envOfC qual scope s.heap.objs.size f cd).kindOf (ag.zip us) λ _=>none) s1) :
  Inv (xe P w K mg base N qual scope f cd A outer s H E) [] (start N vs) H s1:=by
 have I:Inv (j6 cD P w K mg base N qual scope f cd ({ A with handled:=none }) outer s H E) [] (start N vs) H s1:=Dv (A:={ A with handled:=none }) S rfl ⟨bP.frames,bP.mod,bP.bs,bP.h6,bP.hR,bP.jZ,bP.a6,bP.bare⟩ au r x;have ok:=I.ok;exact ⟨⟨ok.mod,ok.kind,ok.glob,ok.blt,ok.above,ok.inj,ok.has,ok.mI,⟨λ h=>(nomatch h),λ h=>(nomatch h)⟩,ok.frames,ok.ox,ok.qr,ok.bs,ok.h6,ok.mj,ok.oA,ok.hR,ok.jZ⟩,I.os,I.bare,I.base,I.loc,I.cell,I.free,I.gV,I.pin,I.a6,I.len⟩
theorem h3.QA {P:Program} {w:World} {K:PySem.W.Frag} {mg:Str->Option Value} {base:Heap} {x qual:Str} {st:Stmt} {f:Addr} {fd:FuncData} {N ag:List Str} {k:Nat} {sp:bX} (F:h3 K x qual st f fd) (S:cq N ag (bO st)) (len : ∀ vs H Q E,sp vs H Q E->vs.length=ag.length)
  (ml : ∀ (ba:Value) (A:Around) (outer:List Env) (s:Shared) (H:ah) (vs:List V) (Q:bz) (E:dz),iK k (A.deeper (envOfC qual (bO st) s.heap.objs.size f ba))->sp vs H Q E ->
   ∃ t,h4 (xe P w K mg base N qual (bO st) f ba A outer s H E) (ip st) t/\t { bF:=λ _ H'=>Q .bg H',ji:=Q } (start N vs) H):Ck P w K mg base (k+1) f fd ag sp:=by
 obtain ⟨e1,bK,cF,doc,pm,an,ba,cu,md,rfl,lk,hN⟩:=F.ex;refine ⟨len,λ A outer s H args us vs Q E aq bP J r eb=>?_⟩;have au:=len _ _ _ _ eb;have iS:K.In s.heap:=bP.mod.jy.keeps λ b o e=>(bP.bs b o e).1
 have lim:s.heap.NoLimit:=bP.mod.nolimit.keeps λ b o e=>(bP.bs b o e).1
 have vF : ∀ y∈ag.zip us,(bO st).names.lookup y.1=some .local\/((bO st).names.lookup y.1=some .cell/\((cellsFrom (s.heap.objs.size+1) (bO st).names []).lookup y.1).isSome=true):=λ ⟨n,v⟩ aN=>by
  rcases S.par n (List.of_mem_zip aN).1 with q | q
  ·exact .inl q
  ·exact .inr ⟨q,PySem.W.cellsFrom_some _ _ _ (.inl q)⟩
 refine codeAny_call_function aq.depth (iS _ _ lk) rfl S.co S.gen rfl (PySem.W.codeRec_of iS hN) (J _ _ _ _ ?_);refine wpAny_newFunctionEnv_cells S.kind vF λ env he s1 x=>?_
 subst he;refine ⟨lim.keeps x.toInCall.keep,codeAny_func ?_⟩;obtain ⟨t,aW,aS⟩:=ml ba A outer s H vs Q E (aq.deeper _) eb;have I:Inv (xe P w K mg base N qual (bO st) f ba A outer s H E) [] (start N vs) H s1:=Y9 S bP au r x;refine wpAny_mono (aW.o [] s1 (start N vs) H _ I aS) (λ cW s' az=>?_) λ e s' az=>az.elim
 have fin : ∀ {σ':St} {H':ah} {v:V} {u:Value},Inv (xe P w K mg base N qual (bO st) f ba A outer s H E) [] σ' H' s'->RelV v u->Q v H'->tH outer P w H s Q u s' :=
  λ {σ' H' v u} b1 bR q=>⟨v,H',b1.os,b1.bare,b1.base,b1.a6,bR,q⟩
 cases cW with
 | ret u =>
  obtain ⟨v,σ',H',b1,bR,q⟩:=az;exact fin b1 bR q
 | next =>
  obtain ⟨σ',H',b1,q⟩:=az;exact fin (v:=V.bg) (u:=Value.none) b1 rfl q
 | brk =>
  obtain ⟨_,_,_,q⟩:=az;exact False.elim q
 | cont =>
  obtain ⟨_,_,_,q⟩:=az;exact False.elim q
section
variable {X:aP} {k:Nat} {f:Addr} {fd:FuncData} {ag:List Str} {sp:bX} {x:Str} {p pos:Pos} {e:Expr} {ao:List Expr} {t:c3}
theorem WJ (F:Ck X.prog X.w X.K X.mg X.base k f fd ag sp) (aq:iK k X.A) (aI:dy X x) (hm:X.mg x=some (.ref f)) (aB:PySem.W.keepIn X.K (.ref f)=true) (J:Binds X.K fd ag [])
  (aw:eZ X (e::ao) t) (eg:(x == ("__debug__" : Str))=false:=by decide) (cB:noStar e=true:=by rfl) (dp:(backTo pos (starEach ao X.env)).any (·.1)=false:=by rfl) :
  bC X (.Call (.Name x p) (e::ao) [] pos) (pT sp [] iu t):=⟨by
 intro pins s σ H Q I h;refine wpAny_Call_Name_kw (nx I aI hm ?_ eg);refine PySem.W.callWith_K (h₀:=X.base) I.ok.mod.jy aB (bj (aw.o pos pins s σ H _ I h) λ us s1 ⟨vs,H1,aE,r,q⟩=>⟨aE.dF,?_⟩) (ry cB ao X.env) dp;have b5:Vals (vs++[]) (us++[]):=r.append .nil;have au:(us++[]).length=ag.length:=by rw [<-b5.length];exact F.len _ _ _ _ q
 refine wpAny_call (codeAny_mono (F.run X.A X.stack s1 H1 ⟨us,[]⟩ (us++[]) (vs++[]) Q iu aq aE.q0 (J s1 us aE.dF au) b5 q) λ r s' aS=>?_);cases r with
 | error e=>exact False.elim aS
 | ok cW =>
  cases cW with
  | ret u=>exact aE.after aS
  | next=>exact False.elim aS
  | brk=>exact False.elim aS
  | cont=>exact False.elim aS⟩
end
open PySem PySem.Spec PySem.SeqAt PyProof.Rows p6
theorem LN (k:Bool) : ∀ bs:List Bool,(bs.map Value.bool).countP (isBoolOf k)=bs.count k
 | []=>rfl
 | b::bs=>by
  rw [List.map_cons,List.countP_cons,List.count_cons,LN k bs];rfl
theorem JT (k:Bool) (bs:List Bool) (y:Value) (aN:y∈bs.map Value.bool) (A:Around) (s:Shared):EqAt A s y (.bool k) (isBoolOf k y):=by
 obtain ⟨b,_,rfl⟩:=List.mem_map.mp aN;exact EqAt.bool_bool b k
section
variable {X:aP}
def Vd:V->List V->ah->bz->Prop:=λ x vs H Q => ∃ (l:Addr) (bs:List Bool) (k:Bool),x=.ref l/\vs=[.aJ k]/\H l=some (.lst (bs.map V.aJ))/\Q (.int (bs.count k:Nat)) H
theorem XN:n0 X "list.count" Vd:=by
 intro pins s σ H x vs v us Q I a5 bR h;obtain ⟨l,bs,k,rfl,rfl,g6,q⟩:=h;cases a5;obtain ⟨u,rfl,eI⟩:=bR.one;cases (show u=Value.bool k from eI);obtain ⟨z,its,n,r,au,e⟩:=I.iH g6;cases yM r;refine call_meets PySem.F.slot_list_count ⟨_,e,rfl⟩ PySem.F.entry_list_count (PySem.F.args_list_count_2 _ _) (list_countAt l _ n none #[] (.bool k) (isBoolOf k)) ⟨e,λ y aN=>JT k bs y (by simpa using aN) _ _,?_⟩;refine ⟨.int (bs.count k:Nat),H,I.tok _,⟨s.toks,?_⟩,q⟩;rw [show (bs.map Value.bool).toArray.toList=bs.map Value.bool from rfl,LN]
def Ve:V->List V->ah->bz->Prop:=λ x vs H Q => ∃ (l:Addr) (bs:List Bool) (k:Bool) (j:Nat),x=.ref l/\vs=[.aJ k]/\H l=some (.lst (bs.map V.aJ))/\bs[j]?=some k/\(∀ m,m<j->bs[m]?=some (!k))/\bs.length<=1000/\Q (.int (j:Nat)) H
theorem XO:n0 X "list.index" Ve:=by
 intro pins s σ H x vs v us Q I a5 bR h;obtain ⟨l,bs,k,j,rfl,rfl,g6,b3,J,a9,q⟩:=h;cases a5;obtain ⟨u,rfl,eI⟩:=bR.one;cases (show u=Value.bool k from eI);obtain ⟨z,its,n,r,au,e⟩:=I.iH g6;cases yM r;have Gz:j<bs.length:=(List.getElem?_eq_some_iff.mp b3).1;refine call_meets PySem.F.slot_list_index ⟨_,e,rfl⟩ PySem.F.entry_list_index (PySem.F.args_list_index_2 _ _)
  (list_indexAt l _ n none #[] (.bool k) (isBoolOf k) j (by simpa using Gz) (by omega) ?_ ?_) ⟨e,λ y aN=>JT k bs y (by simpa using aN) _ _,⟨.int (j:Nat),H,I.tok _,⟨s.toks,rfl⟩,q⟩⟩
 ·have:bs[j]=k:=by rw [List.getElem?_eq_getElem Gz] at b3;exact Option.some.inj b3
  simp [isBoolOf,this]
 ·intro m hm dE;have ai:=J m dE;have Pj:m<bs.length:=by omega
  have:bs[m] = !k:=by rw [List.getElem?_eq_getElem Pj] at ai;exact Option.some.inj ai
  simp [isBoolOf,this]
end
section
variable {K:PySem.W.Frag} {a b D:Addr} {js:List (Option Nat)} {g:eG} {bh:TE} {σ:St} {H1:ah} {Q:bz}
theorem JS {xs ys:List V} (aD:min xs.length ys.length<=sizeLine) (Pv:Nat->St->ah->List V->Prop) (h0:Pv 0 (pick js σ) (upd H1 D (.lst [])) [])
  (au : ∀ i σ' H' zs,H' D=some (.lst zs)->Pv i σ' H' zs->aR K H' a xs/\aR K H' b ys)
  (az : ∀ i x y p σ' H' zs (R:St->V->ah->Prop),xs[i]?=some x->ys[i]?=some y->H' p=none->H' D=some (.lst zs)->zs.length=i->Pv i σ' H' zs->(∀ σ2 z bc,bc D=some (.lst zs)->Pv (i+1) σ2 (upd bc D (.lst (zs++[z]))) (zs++[z])->R σ2 z bc) ->
   g (.ref p) σ' (upd H' p (.tup [x,y])) λ σ2 aK=>bh σ2 aK λ z bc=>R σ2 z bc)
  (cB : ∀ σ' H' zs,H' D=some (.lst zs)->zs.length=min xs.length ys.length->Pv (min xs.length ys.length) σ' H' zs->Q (.ref D) H'):iI (pg K a b) D js g kc bh σ H1 Q:=by
 refine wg aD Pv h0 (λ i σ' H' zs ay a4 p=>?_) (λ σ' H' zs a4 dO c=>⟨?_,cB σ' H' zs a4 dO c⟩) λ i σ' H' zs x ar R ay a4 a9 p ak k=>?_
 ·obtain ⟨cG,dv⟩:=au i σ' H' zs a4 p;have af:i<xs.length:=by omega
  have ai:i<ys.length:=by omega
  exact ⟨xs,ys,xs[i],ys[i],cG,dv,by simp [af],by simp [ai]⟩
 ·obtain ⟨cG,dv⟩:=au _ σ' H' zs a4 c;exact ⟨xs,ys,cG,dv,by omega⟩
 ·obtain ⟨cG,dv⟩:=au i σ' H' zs a4 p;obtain ⟨q,aS,rfl,e3,hg,rfl,i6⟩:=ak;obtain ⟨ex,du⟩:=i6 xs ys cG dv;exact az i e3 hg q σ' H' zs R ex du aS a4 a9 p k
end
theorem L4 {K:PySem.W.Frag} {a D:Addr} {js:List (Option Nat)} {bh:TE} {σ:St} {H1:ah} {Q:bz} {xs:List V} {o:Option V} {σ0:St} {f:V->V} (ax:pick js σ=o::σ0) (aD:xs.length<=sizeLine) (a4:H1 D=none) (c8:aR K H1 a xs)
  (az : ∀ (x:V) (H':ah) (R:bz),aC H1 H'->x∈xs->R (f x) H'->bh (some x::σ0) H' R) (q:Q (.ref D) (upd H1 D (.lst (xs.map f)))):iI (pf K a) D js (gW 0) kc bh σ H1 Q:=by
 refine yO (xs:=xs) aD (λ i σ' H' ys=>(∃ u,σ'=u::σ0)/\ys=(xs.take i).map f/\H'=upd H1 D (.lst ys)) ⟨⟨o,ax⟩,rfl,rfl⟩ ?_ ?_ ?_
 ·rintro i σ' H' ys _ _ ⟨_,rfl,rfl⟩;exact c8.yL a4
 ·rintro i x σ' H' ys R ak _ _ ⟨⟨u,rfl⟩,rfl,rfl⟩ k;refine az x _ _ (cy.aC.new a4) (List.mem_of_getElem? ak) (k _ _ _ bA ⟨⟨_,rfl⟩,(wq ak).symm,C1⟩)
 ·rintro σ' H' ys _ _ ⟨_,rfl,rfl⟩;rw [List.take_length];exact q
theorem lO {X:aP} {K:PySem.W.Frag} {ao:List Expr} {k:Nat} {pos:Pos} {t:ko} {n:Nat} (dH:X.K=K) (aj:X.warm=true) (h:rZ X ao t) (aD:(assignEach ao X.env).length=n:=by rfl) (cB:(assignEach ao X.env).findIdx? (·.1)=none:=by rfl):k6 X (.Tuple ao k pos) (sC K n t):=by
 subst dH;exact lN aj h aD cB
def R_ (c:TT) (t u:dr):dr:=λ D σ H => ∃ b1:St->ah->Prop,(c σ H λ b H1=>if b=true then t { D with bF:=b1 } σ H1 else u { D with bF:=b1 } σ H1) /\ ∀ σ' H',b1 σ' H'->D.bF σ' H'
theorem nr {X:aP} {c:Expr} {a b:List Stmt} {c_:TT} {t u:dr} {pos:Pos} (aj:kh X c c_) (aw:h4 X a t) (J:h4 X b u):gJ X (.If c a b pos) (R_ c_ t u):=⟨by
 intro pins s σ H D I ⟨b1,af,ai⟩;refine bj ((cM aj aw J).o pins s σ H { D with bF:=b1 } I af) λ f s' az=>?_
 cases f with
 | next=>obtain ⟨σ',H',iR,q⟩:=az;exact ⟨σ',H',iR,ai σ' H' q⟩
 | brk=>exact az
 | cont=>exact az
 | ret u=>exact az⟩
theorem Wn {P:Program} {w:World} {K:PySem.W.Frag} {mg:Str->Option Value} {base:Heap} {cp:hL} {k:Nat} {f:Addr} {fd:FuncData} {ag:List Str}:dU P w K mg base cp k f fd ag (λ _ _ _ _=>False):=⟨λ _ _ _ _ h=>h.elim,λ _ _ _ _ _ _ _ _ _ _ _ _ _ h=>h.elim⟩
end bI
namespace PySem.W
theorem DP {K:Frag} {C:Addr} {b:Value} {r:Bool} (h:mroIn K C b=some r):(clsIn K C).isSome=true:=by
 unfold mroIn at h;obtain ⟨cd,a,_⟩:=Option.bind_eq_some_iff.mp h;rw [a];rfl
theorem yR {K:Frag} {C:Addr}:kitOne K (.ref C) (.ref C)=some true:=by
 unfold kitOne;rw [if_pos (by simp)]
theorem XG {K:Frag} {C D:Addr} (ty:typeIn K (.ref D)=some (.type "type")) (mo:mroIn K D (.type "object")=some true) (m:mroIn K C (.ref D)=some false) (n:C≠D):kitOne K (.ref C) (.ref D)=some false:=by
 unfold kitOne;rw [if_neg (λ z=>n (by have:=beq_iff_eq.mp z;injection this))];unfold kitCls;show (if ((clsIn K D).isSome&&typeIn K (.ref D) == some (.type "type"))=true then subIn K (.ref C) (.ref D) else none)=_;rw [DP mo,ty];exact m
theorem Jo {K:Frag} {C:Addr} (m:mroIn K C (.type "ValueError")=some true):kitOne K (.ref C) (.type "ValueError")=some true:=by
 unfold kitOne;rw [if_neg (λ z=>by cases beq_iff_eq.mp z)];unfold kitCls;show (if kitMeta "ValueError" = true then subIn K (.ref C) (.type "ValueError") else none)=_;rw [if_pos (by decide +kernel)];exact m
end PySem.W
namespace fz
def m4 (p:Nat):Nat->Nat->Nat
 | 0,_=>0
 | f+1,n=>if 2<=p/\1<=n/\n % p=0 then m4 p f (n / p)+1 else 0
theorem Kx (p:Nat) : ∀ f n:Nat,n<=f->m4 p (f+1) n=m4 p f n
 | 0,n,h=>by
  obtain rfl:n=0:=by omega
  exact if_neg (λ z=>by omega)
 | f+1,n,h=>by
  show (if 2<=p/\1<=n/\n % p=0 then m4 p (f+1) (n / p)+1 else 0)=if 2<=p/\1<=n/\n % p=0 then m4 p f (n / p)+1 else 0
  by_cases q:2<=p/\1<=n/\n % p=0
  ·rw [if_pos q,if_pos q,Kx p f (n / p) (by have:=Nat.div_lt_self q.2.1 q.1;omega)]
  ·rw [if_neg q,if_neg q]
theorem CK (p n:Nat) : ∀ k:Nat,m4 p (n+k) n=m4 p n n
 | 0=>rfl
 | k+1=>by rw [show n+(k+1)=(n+k)+1 from rfl,Kx p (n+k) n (by omega)];exact CK p n k
def cnt (p:Nat) (n:Nat):Nat:=m4 p n n
theorem Jf (p n:Nat):cnt p n=if 2<=p/\1<=n/\n % p=0 then cnt p (n / p)+1 else 0:=by
 have e:cnt p n=m4 p (n+1) n:=(CK p n 1).symm;rw [e];show (if 2<=p/\1<=n/\n % p=0 then m4 p n (n / p)+1 else 0)=_;by_cases q:2<=p/\1<=n/\n % p=0
 ·rw [if_pos q,if_pos q];have lt:=Nat.div_lt_self q.2.1 q.1;have:=CK p (n / p) (n - n / p);rw [show n / p+(n - n / p)=n by omega] at this;rw [this];rfl
 ·rw [if_neg q,if_neg q]
theorem yD {p n:Nat} (ax:2<=p) (aD:1<=n) (h:n % p=0):cnt p n=cnt p (n / p)+1:=by
 rw [Jf p n,if_pos ⟨ax,aD,h⟩]
theorem sT {p n:Nat} (h:n % p≠0):cnt p n=0:=by
 rw [Jf,if_neg λ z=>h z.2.2]
def kO:List Nat->Nat->List Nat
 | [],_=>[]
 | p::ag,n=>cnt p n::kO ag (strip p n)
theorem LP : ∀ (ag:List Nat) (n:Nat),(kO ag n).length=ag.length
 | [],_=>rfl
 | p::ag,n=>by simp only [kO,List.length_cons,LP ag]
theorem K8 : ∀ (ag:List Nat) (i p n:Nat),ag[i]?=some p->kO (ag.take (i+1)) n=kO (ag.take i) n++[cnt p (gY (ag.take i) n)]
 | [],_,_,_,h=>by cases h
 | q::ag,0,p,n,h=>by
  have z:q=p:=Option.some.inj h;subst z;rfl
 | q::ag,i+1,p,n,h=>by
  show cnt q n::kO (ag.take (i+1)) (strip q n)=cnt q n::(kO (ag.take i) (strip q n)++[cnt p (gY (ag.take i) (strip q n))]);rw [K8 ag i p (strip q n) h]
theorem C3 {p:Nat} (ax:2<=p) : ∀ n:Nat,1<=n->n=p ^ cnt p n * strip p n:=by
 intro n
 induction n using Nat.strongRecOn with
 | _ n c5 =>
  intro aD;by_cases h:n % p=0
  ·have af:=tm aD h;have e:=c5 (n / p) (Nat.div_lt_self aD ax) af;rw [yD ax aD h,ti ax aD h,Nat.pow_succ];have aQ:n=p * (n / p):=(Nat.mul_div_cancel' (Nat.dvd_of_mod_eq_zero h)).symm
   calc n=p * (n / p):=aQ
    _=p * (p ^ cnt p (n / p) * strip p (n / p)):=by rw [<-e]
    _=p ^ cnt p (n / p) * p * strip p (n / p):=by rw [<-Nat.mul_assoc,Nat.mul_comm p]
  ·rw [sT h,rt h,Nat.pow_zero,Nat.one_mul]
theorem IH {p:Nat} (ax:2<=p) : ∀ (e r:Nat),1<=r->r % p≠0->cnt p (p ^ e * r)=e
 | 0,r,_,h=>by rw [Nat.pow_zero,Nat.one_mul,sT h]
 | e+1,r,aq,h=>by
  have aO:p ^ (e+1) * r=p * (p ^ e * r):=by rw [Nat.pow_succ,Nat.mul_comm (p ^ e) p,Nat.mul_assoc]
  have ig:1<=p ^ e * r:=Nat.mul_pos (Nat.pow_pos (by omega)) aq;rw [aO,yD ax (Nat.mul_pos (by omega) ig) (Nat.mul_mod_right p _),Nat.mul_div_cancel_left _ (by omega),IH ax e r aq h]
theorem Xl {p q:Nat} (ax:2<=p) (aS:2<=q) (c:Nat.Coprime p q) {n:Nat} (aD:1<=n):cnt p (strip q n)=cnt p n:=by
 have aO:=C3 ax n aD;have aQ:=C3 aS n aD;have az:=wd aS n aD;have aq:=wd ax n aD;have uR:=Yn ax n aD;have MW:Nat.Coprime (p ^ cnt p n) (q ^ cnt q n):=Nat.Coprime.pow _ _ c;have hd:p ^ cnt p n∣strip q n:=by
  have:p ^ cnt p n∣q ^ cnt q n * strip q n:=by rw [<-aQ];exact ⟨strip p n,aO⟩
  exact MW.dvd_of_dvd_mul_left this
 obtain ⟨r,i5⟩:=hd;have eT:1<=r:=by
  rcases Nat.eq_zero_or_pos r with z | z
  ·rw [z,Nat.mul_zero] at i5;omega
  ·exact z
 have Pr:r % p≠0:=λ z=>by
  obtain ⟨t,aW⟩:=Nat.dvd_of_mod_eq_zero z;have el:n=p ^ cnt p n * (p * (t * q ^ cnt q n)):=by
   calc n=q ^ cnt q n * strip q n:=aQ
    _=q ^ cnt q n * (p ^ cnt p n * (p * t)):=by rw [i5,aW]
    _=p ^ cnt p n * (p * (t * q ^ cnt q n)):=by
     rw [Nat.mul_comm (q ^ cnt q n),Nat.mul_assoc,Nat.mul_assoc,Nat.mul_comm t]
  have mD:p ^ cnt p n * strip p n=p ^ cnt p n * (p * (t * q ^ cnt q n)):=by rw [<-aO];exact el
  have o6:=Nat.eq_of_mul_eq_mul_left (Nat.pow_pos (by omega)) mD;rw [o6,Nat.mul_mod_right] at uR;exact uR rfl
 rw [i5,IH ax _ r eT Pr]
theorem KI : ∀ (ag:List Nat),(∀ p∈ag,2<=p)->ag.Pairwise Nat.Coprime -> ∀ n,1<=n->kO ag n=ag.map λ p=>cnt p n
 | [],_,_,_,_=>rfl
 | p::ag,h,aj,n,aD=>by
  have ax:=h p List.mem_cons_self;rw [List.pairwise_cons] at aj;show cnt p n::kO ag (strip p n)=cnt p n::ag.map λ q=>cnt q n
  rw [KI ag (λ q aS=>h q (List.mem_cons_of_mem _ aS)) aj.2 (strip p n) (wd ax n aD)];congr 1;refine List.map_congr_left λ q aS=>?_
  exact Xl (h q (List.mem_cons_of_mem _ aS)) ax (aj.1 q aS).symm aD
def fU (n:Nat):List Nat:=dk.map λ p=>cnt p n
theorem Lz {n:Nat} (aD:1<=n):fU n=kO dk n:=(KI dk kS y8 n aD).symm
def chg (n d:Nat):List Int:=List.zipWith (λ a b:Nat=>(a:Int) - (b:Int)) (fU n) (fU d)
theorem DO (n d:Nat):(chg n d).length=10:=by simp [chg,fU,dk]
def eF (c p:List Int):Bool:=(c.zip p).all λ x=>decide (0<=x.2+x.1)
def c7:List (List Int)->List Int->Option Nat
 | [],_=>none
 | c::r,p=>if eF c p=true then some 0 else (c7 r p).map (· + 1)
def cv (p c:List Int) (m:Int):List Int:=List.zipWith (λ a b=>a+m * b) p c
def nn (p:List Int):Bool:=p.all λ x=>decide (0<=x)
theorem Zm {p c:List Int} {m:Int} (ax:p.length=10) (aj:c.length=10):(cv p c m).length=10:=by simp [cv,ax,aj]
def w6 (rows:List (List Int)):Prop := ∀ c∈rows,c.length=10
theorem pY : ∀ {rows:List (List Int)} {p:List Int} {i:Nat},c7 rows p=some i -> ∃ c,rows[i]?=some c/\eF c p=true/\i<rows.length
 | [],_,_,h=>by cases h
 | c::r,p,i,h=>by
  unfold c7 at h;by_cases aj:eF c p=true
  ·rw [if_pos aj] at h;cases h;exact ⟨c,rfl,aj,by simp⟩
  ·rw [if_neg aj] at h;cases e:c7 r p with
   | none=>rw [e] at h;cases h
   | some j =>
    rw [e] at h;have b3:j+1=i:=Option.some.inj h;subst b3;obtain ⟨cN,af,ai,aF⟩:=pY e;exact ⟨cN,by simpa using af,ai,by simp;omega⟩
theorem yF : ∀ (rows:List (List Int)) (p:List Int) (i:Nat),(∀ j,j<i -> ∀ c,rows[j]?=some c->eF c p=false)->(∀ c,rows[i]?=some c->eF c p=true)->i<rows.length->c7 rows p=some i
 | [],_,_,_,_,h=>by simp at h
 | c::r,p,0,_,h,_=>by
  unfold c7;rw [if_pos (h c rfl)]
 | c::r,p,i+1,h,h',au=>by
  have h0:=h 0 (by omega) c rfl;unfold c7;rw [h0,if_neg (by decide),yF r p i (λ j b3 cN e=>h (j+1) (by omega) cN (by simpa using e)) (λ cN e=>h' cN (by simpa using e)) (by simpa using au)];rfl
theorem Dt : ∀ (rows:List (List Int)) (p:List Int),(∀ (j:Nat) c,rows[j]?=some c->eF c p=false)->c7 rows p=none
 | [],_,_=>rfl
 | c::r,p,h=>by
  unfold c7;rw [h 0 c rfl,if_neg (by decide),Dt r p λ j cN e=>h (j+1) cN (by simpa using e)];rfl
def gk (rows:List (List Int)) (p:List Int):Option (List Int):=(c7 rows p).map λ i=>cv p (rows.getD i []) 1
def goN (rows:List (List Int)):Nat->List Int->Option (List Int)
 | 0,p=>some p
 | k+1,p=>(goN rows k p).bind (gk rows)
theorem ni {p:List Int}:nn p=true ↔ ∀ x∈p,0<=x:=by simp [nn]
theorem wa {c p:List Int}:eF c p=true ↔ ∀ (i:Nat) (a b:Int),c[i]?=some a->p[i]?=some b->0<=b+a:=by
 unfold eF;rw [List.all_eq_true];constructor
 ·intro h i a b af ai;have a9:(c.zip p)[i]?=some (a,b):=by rw [List.getElem?_zip_eq_some];exact ⟨af,ai⟩
  exact of_decide_eq_true (h _ (List.mem_of_getElem? a9))
 ·intro h x ak;obtain ⟨i,ay⟩:=List.getElem?_of_mem ak;obtain ⟨a,b⟩:=x;rw [List.getElem?_zip_eq_some] at ay;exact decide_eq_true (h i a b ay.1 ay.2)
theorem Uv {c p:List Int} (h:eF c p=true):nn (cv p c 1)=true:=by
 rw [ni];intro x ak;obtain ⟨i,ay⟩:=List.getElem?_of_mem ak;unfold cv at ay;rw [List.getElem?_zipWith_eq_some] at ay;obtain ⟨b,a,af,ai,rfl⟩:=ay;have:=wa.mp h i a b ai af;omega
theorem CO {rows:List (List Int)} {i:Nat} {c:List Int} (h:rows[i]?=some c):rows.getD i []=c:=by
 rw [List.getD_eq_getElem?_getD,h];rfl
theorem CG {rows:List (List Int)} {p:List Int} {i:Nat} {c:List Int} (h:c7 rows p=some i) (aj:rows[i]?=some c):gk rows p=some (cv p c 1):=by
 unfold gk;rw [h,<-CO aj];rfl
theorem WV {rows:List (List Int)} {p:List Int} (h:c7 rows p=none):gk rows p=none:=by
 unfold gk;rw [h];rfl
theorem Kf {rows:List (List Int)} {p q:List Int} (h:gk rows p=some q) : ∃ i c,c7 rows p=some i/\rows[i]?=some c/\eF c p=true/\q=cv p c 1:=by
 unfold gk at h;cases e:c7 rows p with
 | none=>rw [e] at h;cases h
 | some i =>
  rw [e] at h;obtain ⟨c,af,ai,_⟩:=pY e;have aF:cv p (rows.getD i []) 1=q:=Option.some.inj h;rw [CO af] at aF;exact ⟨i,c,rfl,af,ai,aF.symm⟩
theorem T5 {rows:List (List Int)} {p q:List Int} (aq:w6 rows) (ax:p.length=10) (h:gk rows p=some q):q.length=10/\nn q=true:=by
 obtain ⟨i,c,_,ai,aF,rfl⟩:=Kf h;exact ⟨Zm ax (aq c (List.mem_of_getElem? ai)),Uv aF⟩
theorem sO {rows:List (List Int)} (aq:w6 rows) {p:List Int} (ax:p.length=10) (aD:nn p=true) : ∀ {k:Nat} {q:List Int},goN rows k p=some q->q.length=10/\nn q=true
 | 0,q,h=>by cases h;exact ⟨ax,aD⟩
 | k+1,q,h=>by
  obtain ⟨r,af,ai⟩:=Option.bind_eq_some_iff.mp h;exact T5 aq (sO aq ax aD af).1 ai
def iF (rows:List (List Int)):Nat->List Int->List Nat
 | 0,_=>[]
 | k+1,p=>match c7 rows p with
  | none=>[]
  | some i=>i::iF rows k (cv p (rows.getD i []) 1)
theorem Dm {rows:List (List Int)} {p:List Int} (h:c7 rows p=none) : ∀ k,iF rows k p=[]
 | 0=>rfl
 | k+1=>by simp only [iF,h]
theorem Dn {rows:List (List Int)} {p c:List Int} {i:Nat} (h:c7 rows p=some i) (aj:rows[i]?=some c) (k:Nat):iF rows (k+1) p=i::iF rows k (cv p c 1):=by
 simp only [iF,h];rw [CO aj]
theorem JF (rows:List (List Int)) : ∀ (k:Nat) (p:List Int),(iF rows k p).length<=k
 | 0,_=>Nat.le_refl _
 | k+1,p=>by
  cases h:c7 rows p with
  | none=>rw [Dm h];simp
  | some i =>
   obtain ⟨c,aj,_,_⟩:=pY h;rw [Dn h aj];have:=JF rows k (cv p c 1);simp;omega
theorem KJ (rows:List (List Int)) : ∀ (k:Nat) (p:List Int),goN rows (k+1) p=(gk rows p).bind (goN rows k)
 | 0,p=>by
  show gk rows p=(gk rows p).bind λ q=>some q
  cases gk rows p<;>rfl
 | k+1,p=>by
  show (goN rows (k+1) p).bind (gk rows)=(gk rows p).bind λ q=>(goN rows k q).bind (gk rows)
  rw [KJ rows k p];cases gk rows p<;>rfl
theorem I3 (rows:List (List Int)) : ∀ (k:Nat) (p:List Int),∃ q,goN rows (iF rows k p).length p=some q
 | 0,p=>⟨p,rfl⟩
 | k+1,p=>by
  cases h:c7 rows p with
  | none=>exact ⟨p,by rw [Dm h];rfl⟩
  | some i =>
   obtain ⟨c,aj,_,_⟩:=pY h;obtain ⟨q,aS⟩:=I3 rows k (cv p c 1);refine ⟨q,?_⟩;rw [Dn h aj,List.length_cons,KJ,CG h aj];exact aS
theorem VN {i j p:Nat} (h:oR i j=true) (ax:p∈dk):cnt p i=0\/cnt p j=0:=by
 have:=Lx.mp h p ax;by_cases af:p∣i
 ·refine .inr (sT λ z=>this ⟨af,Nat.dvd_of_mod_eq_zero z⟩)
 ·exact .inl (sT λ z=>af (Nat.dvd_of_mod_eq_zero z))
def ey (l:List Nat):List Int:=l.map λ n:Nat=>(n:Int)
theorem YJ {i j:Nat} {p:List Int} (h:oR i j=true) (aD:nn p=true):nn (List.zipWith (λ x y:Int=>x - y) p (ey (fU j)))=eF (chg i j) p:=by
 have e : ∀ (k:Nat) (a b:Int),(chg i j)[k]?=some a->p[k]?=some b -> ∃ c:Int,(ey (fU j))[k]?=some c/\(0<=b - c ↔ 0<=b+a):=by
  intro k a b af ai;unfold chg at af;rw [List.getElem?_zipWith_eq_some] at af;obtain ⟨x,y,ak,aN,rfl⟩:=af;refine ⟨(y:Int),by unfold ey;rw [List.getElem?_map,aN];rfl,?_⟩;unfold fU at ak aN;rw [List.getElem?_map] at ak aN;cases ax:dk[k]? with
  | none=>rw [ax] at ak;cases ak
  | some q =>
   rw [ax] at ak aN;have ex:cnt q i=x:=Option.some.inj ak;have du:cnt q j=y:=Option.some.inj aN;have fl:=ni.mp aD b (List.mem_of_getElem? ai);rcases VN h (List.mem_of_getElem? ax) with z | z
   ·rw [z] at ex;omega
   ·rw [z] at du;omega
 rw [Bool.eq_iff_iff,ni,wa];constructor
 ·intro h k a b af ai;obtain ⟨c,aj,iff⟩:=e k a b af ai;refine iff.mp (h _ ?_);have:(List.zipWith (λ x y:Int=>x - y) p (ey (fU j)))[k]?=some (b - c):=by rw [List.getElem?_zipWith_eq_some];exact ⟨b,c,ai,aj,rfl⟩
  exact List.mem_of_getElem? this
 ·intro h x ak;obtain ⟨k,aB⟩:=List.getElem?_of_mem ak;rw [List.getElem?_zipWith_eq_some] at aB;obtain ⟨b,c,J,aj,rfl⟩:=aB;have Ru:k<(ey (fU j)).length:=(List.getElem?_eq_some_iff.mp aj).1;have j1:k<(chg i j).length:=by rw [DO];simpa [ey,fU,dk] using Ru
  obtain ⟨cN,n4,iff⟩:=e k _ b (List.getElem?_eq_getElem j1) J;rw [aj] at n4;cases n4;exact iff.mpr (h k _ b (List.getElem?_eq_getElem j1) J)
end fz
namespace bI
open PySem PyProof.Rows
theorem yN:bootBuiltins "sorted" = some (.builtin "sorted"):=by decide +kernel
end bI
namespace cy
open PySem bI fz
abbrev tupI (c:List Int):dG:=.tup (c.map V.int)
theorem _root_.bI.vg.same {H H':ah} {x:V} {c:List Int} (h:vg H x c) (s:aC H H'):vg H' x c:=by
 obtain ⟨a,e,aw⟩:=h;exact ⟨a,e,s _ _ aw⟩
theorem _root_.bI.eX.same {H H':ah} {xs:List V} {cs:List (List Int)} (h:eX H xs cs) (s:aC H H'):eX H' xs cs:=⟨h.1,λ i x e=>by
 obtain ⟨c,aj,r⟩:=h.2 i x e;exact ⟨c,aj,r.same s⟩⟩
theorem _root_.bI.eX.but {H H':ah} {xs:List V} {cs:List (List Int)} {l:Addr} {ys:List V} (h:eX H xs cs) (au:H l=some (.lst ys)) (s:bW l H H'):eX H' xs cs:=⟨h.1,λ i x e=>by
 obtain ⟨c,aj,a,es,aw⟩:=h.2 i x e;exact ⟨c,aj,a,es,s _ _ (cI aw au (by intro z;cases z)) aw⟩⟩
theorem _root_.bI.eX.nil {H:ah}:eX H [] []:=⟨rfl,λ i x e=>by cases e⟩
theorem _root_.bI.eX.app {H:ah} {xs ys:List V} {cs ds:List (List Int)} (h:eX H xs cs) (g:eX H ys ds):eX H (xs++ys) (cs++ds):=by
 refine ⟨by rw [List.length_append,List.length_append,h.1,g.1],λ i x e=>?_⟩;by_cases ay:i<xs.length
 ·rw [List.getElem?_append_left ay] at e;obtain ⟨c,aj,r⟩:=h.2 i x e;exact ⟨c,by rw [List.getElem?_append_left (by rw [<-h.1];exact ay)];exact aj,r⟩
 ·rw [List.getElem?_append_right (by omega)] at e;obtain ⟨c,aj,r⟩:=g.2 _ x e;exact ⟨c,by rw [List.getElem?_append_right (by rw [<-h.1];omega),<-h.1];exact aj,r⟩
theorem _root_.bI.eX.one {H:ah} {x:V} {c:List Int} (h:vg H x c):eX H [x] [c]:=by
 refine ⟨rfl,λ i y e=>?_⟩;cases i with
 | zero=>cases e;exact ⟨c,rfl,h⟩
 | succ i=>cases e
theorem _root_.bI.eX.at {H:ah} {xs:List V} {cs:List (List Int)} {i:Nat} {x:V} (h:eX H xs cs) (e:xs[i]?=some x) : ∃ c a,cs[i]?=some c/\x=.ref a/\H a=some (tupI c):=by
 obtain ⟨c,aj,a,es,aw⟩:=h.2 i x e;exact ⟨c,a,aj,es,aw⟩
theorem _root_.bI.eX.of {H:ah} {xs:List V} {cs:List (List Int)} {i:Nat} {c:List Int} (h:eX H xs cs) (e:cs[i]?=some c) : ∃ x a,xs[i]?=some x/\x=.ref a/\H a=some (tupI c):=by
 have ay:i<cs.length:=(List.getElem?_eq_some_iff.mp e).1;have ak:xs[i]?=some (xs[i]'(by rw [h.1];exact ay)):=List.getElem?_eq_getElem _;obtain ⟨cN,a,aj,es,aw⟩:=h.at ak;rw [e] at aj;cases aj;exact ⟨_,a,ak,es,aw⟩
def kL:Option Nat->V
 | none=>.bg
 | some i=>.int (i:Int)
def gp (H:ah) (xs:List V) (aA:List (Int×Int)):Prop:=xs.length=aA.length /\ ∀ (k:Nat) (x:V),xs[k]?=some x -> ∃ i j c,aA[k]?=some (i,j)/\x=.ref c/\H c=some (.tup [.int i,.int j])/\i_ i j=true
theorem gp.same {H H':ah} {xs:List V} {aA:List (Int×Int)} (h:gp H xs aA) (s:aC H H'):gp H' xs aA:=⟨h.1,λ k x e=>by
 obtain ⟨i,j,c,af,ai,aF,aX⟩:=h.2 k x e;exact ⟨i,j,c,af,ai,s _ _ aF,aX⟩⟩
theorem gp.but {H H':ah} {xs:List V} {aA:List (Int×Int)} {l:Addr} {ys:List V} (h:gp H xs aA) (au:H l=some (.lst ys)) (s:bW l H H'):gp H' xs aA:=⟨h.1,λ k x e=>by
 obtain ⟨i,j,c,af,ai,aF,aX⟩:=h.2 k x e;exact ⟨i,j,c,af,ai,s _ _ (cI aF au (by intro z;cases z)) aF,aX⟩⟩
theorem CN {H:ah} : ∀ {xs:List V},(∀ x∈xs,∃ (c:Addr) (i j:Int),x=.ref c/\H c=some (.tup [.int i,.int j])/\i_ i j=true) -> ∃ aA,gp H xs aA
 | [],_=>⟨[],rfl,λ k x e=>by cases e⟩
 | x::xs,h=>by
  obtain ⟨c,i,j,af,ai,aF⟩:=h x List.mem_cons_self;obtain ⟨aA,f1,f2⟩:=CN λ y aN=>h y (List.mem_cons_of_mem _ aN)
  refine ⟨(i,j)::aA,by simp [f1],λ k y e=>?_⟩;cases k with
  | zero=>cases e;exact ⟨i,j,c,rfl,af,ai,aF⟩
  | succ k=>exact f2 k y (by simpa using e)
def rowsOf (aA:List (Int×Int)):List (List Int):=aA.map λ f=>chg f.1.toNat f.2.toNat
theorem y3 (aA:List (Int×Int)):w6 (rowsOf aA):=λ c aj=>by
 obtain ⟨f,_,rfl⟩:=List.mem_map.mp aj;exact DO _ _
theorem wh (aA:List (Int×Int)):(rowsOf aA).length=aA.length:=List.length_map _
theorem D2 {i j:Int} (h:i_ i j=true):(1<=i/\iq i.toNat=1)/\(1<=j/\iq j.toNat=1):=by
 unfold i_ ij at h;simp only [Bool.and_eq_true,decide_eq_true_eq] at h;exact ⟨⟨h.1.1.1.1,h.1.1.2⟩,⟨h.1.2.1.1,h.1.2.2⟩⟩
theorem L0 {f:Int->Int->Int} {xs ys:List Int} {i:Nat} {x y:Int} (ak:xs[i]?=some x) (aN:ys[i]?=some y):(List.zipWith f xs ys).take (i+1)=(List.zipWith f xs ys).take i++[f x y]:=by
 have a9:(List.zipWith f xs ys)[i]?=some (f x y):=by rw [List.getElem?_zipWith_eq_some];exact ⟨x,y,ak,aN,rfl⟩
 rw [List.take_add_one,a9];rfl
theorem wm {K:PySem.W.Frag} {a b D:Addr} {js:List (Option Nat)} {bh:TE} {σ:St} {H1:ah} {Q:bz} {xs ys:List Int} {σ0:St} {f:Int->Int->Int} (aD:min xs.length ys.length<=sizeLine) (ax : ∃ u v,pick js σ=u::v::σ0) (a4:H1 D=none)
  (aw:H1 a=some (tupI xs)) (J:H1 b=some (tupI ys))
  (az : ∀ (x y:Int) (H':ah) (R:bz),x∈xs->y∈ys->R (.int (f x y)) H'->bh (some (.int x)::some (.int y)::σ0) H' R)
  (q : ∀ H',aC H1 H'->H' D=some (.lst ((List.zipWith f xs ys).map V.int))->Q (.ref D) H'):iI (pg K a b) D js (sC K 2 (pP (gW 0) (pP (gW 1) vh))) kc bh σ H1 Q:=by
 obtain ⟨l1,v0,ax⟩:=ax;refine JS (K:=K) (a:=a) (b:=b) (xs:=xs.map V.int) (ys:=ys.map V.int) (by rw [List.length_map,List.length_map];exact aD) (λ i σ' H' zs=>(∃ u v:Option V,σ'=u::v::σ0)/\aC H1 H'/\zs=((List.zipWith f xs ys).take i).map V.int) ⟨⟨l1,v0,ax⟩,aC.new a4,rfl⟩ (λ i σ' H' zs _ ⟨_,s',_⟩=>⟨aR.of (s' _ _ aw),aR.of (s' _ _ J)⟩) ?_ ?_
 ·rintro i x y p σ' H' zs R ak aN ax c2 hn ⟨⟨u,v,rfl⟩,s',rfl⟩ fb;obtain ⟨x,rfl,dj⟩:=kd ak;obtain ⟨y,rfl,eh⟩:=kd aN;refine ⟨p,_,rfl,aR.of bA,rfl,_,_,rfl,_,_,rfl,rfl,?_⟩;refine az x y _ _ (List.mem_of_getElem? dj) (List.mem_of_getElem? eh) (fb _ _ _ ?_ ⟨⟨_,_,rfl⟩,?_,?_⟩)
  ·rw [a8 (cj c2 ax)];exact c2
  ·intro c o e;rw [a8 (cj e a4),a8 (cj (s' c o e) ax)];exact s' c o e
  ·rw [L0 dj eh,List.map_append];rfl
 ·rintro σ' H' zs c2 hn ⟨_,s',rfl⟩;refine q H' s' ?_;rw [c2,List.length_map,List.length_map,List.take_of_length_le (by rw [List.length_zipWith];exact Nat.le_refl _)]
end cy
namespace bI
open PySem PySem.Spec PyProof.Rows
def xV (a b:Addr):g4 :=
 ⟨λ i H => ∃ xs ys x y,H a=some (.lst xs)/\H b=some (.lst ys)/\xs[i]?=some x/\ys[i]?=some y,
 λ i H v H' => ∃ p,H p=none/\v=.ref p /\ ∃ x y,H'=upd H p (.tup [x,y]) /\ ∀ xs ys,H a=some (.lst xs)->H b=some (.lst ys)->xs[i]?=some x/\ys[i]?=some y,
 λ i H => ∃ xs ys,H a=some (.lst xs)/\H b=some (.lst ys)/\(xs.length<=i\/ys.length<=i)⟩
theorem YE {c:Bool} (cY:c=true) {P:Program} {w:World} {K:PySem.W.Frag} {bb:Expr} (fR:kV bb=true) {z TI bu b0 b4 a b:Addr} (D:ZipApart z TI bu b0 b4 a b) :
  Turn P w K c bb (xV a b) [z,bu,b0,b4,TI] z (λ i h=>IsZip h z TI bu .none/\IsPair h TI (.ref b0) (.ref b4)/\(∃ u v,IsPair h bu u v)/\h.IsListIter b0 a i/\h.IsListIter b4 b i) where
 mem:=List.mem_cons_self
 obj:=λ i h st c aj=>by
  obtain ⟨af,ai,⟨u,v,aF⟩,⟨g9,aX,_,jg⟩,⟨iX,bT,_,eQ⟩⟩:=st;have hQ : ∀ {o:Obj} {vs:Array Value},o.data=.fields vs -> ∀ v,o.data≠.cell v:=λ e v q=>by rw [e] at q;cases q
  have mc : ∀ {o:Obj} {vs:Array Value} {n:Nat},o.data=.seq vs n -> ∀ v,o.data≠.cell v:=λ e v q=>by rw [e] at q;cases q
  simp only [List.mem_cons,List.not_mem_nil,or_false] at aj;rcases aj with rfl | rfl | rfl | rfl | rfl
  ·exact ⟨_,af,hQ rfl⟩
  ·exact ⟨_,aF,mc rfl⟩
  ·exact ⟨_,aX,hQ jg⟩
  ·exact ⟨_,bT,hQ eQ⟩
  ·exact ⟨_,ai,mc rfl⟩
 keep:=λ i h h' st k=>by
  obtain ⟨af,ai,⟨u,v,aF⟩,⟨g9,aX,hG⟩,⟨iX,bT,lY⟩⟩:=st;exact ⟨k _ (by simp) _ af,k _ (by simp) _ ai,⟨u,v,k _ (by simp) _ aF⟩,⟨g9,k _ (by simp) _ aX,hG⟩,⟨iX,k _ (by simp) _ bT,lY⟩⟩
 item:=by
  intro X c4 hw dH iC aj i pins s σ H E I hf st aI;subst c4 hw dH;obtain ⟨af,ai,⟨u,v,aF⟩,aX,bT⟩:=st;obtain ⟨xs,ys,x,y,cG,dv,ak,aN⟩:=aI;obtain ⟨_,its,cc,bR,_,dJ⟩:=I.iH cG;obtain ⟨_,gS,c0,eE,_,fN⟩:=I.iH dv;obtain ⟨hb,n2,oo⟩:=bR.get ak;obtain ⟨hI,qq,qT⟩:=eE.get aN;refine wpAny_pyNext_zip_item D af ai aF aX bT (show s.heap.IsList a its.toArray from ⟨_,dJ,rfl,cc,rfl⟩) (show s.heap.IsList b gS.toArray from ⟨_,fN,rfl,c0,rfl⟩) (x:=hb) (y:=hI) (by simpa using n2) (by simpa using qq) λ g dP dQ eM ek dt _ gc=>?_
  refine ⟨_,rfl,?_⟩;have i8:z<s.heap.objs.size:=Heap.lt_size af;cases bb with
  | Tuple ao fb pp =>
   refine wpAny_letOwnedTupleGo_zip dP λ g' hB cR=>?_
   have new:IsPair g' s.heap.objs.size hb hI:=cR.extBut _ _ (Nat.ne_of_gt i8) dt;have aE:Inv X pins σ (upd H s.heap.objs.size (.tup [x,y])) { s with heap:=g' }:=by
    refine I.we (t':=s.toks) (L:=[z,bu,b0,b4,TI]) (λ c o cL e=>?_) hf (Nat.le_refl _) ⟨by show 2<=sizeLine;decide,[hb,hI],.cons oo (.cons qT .nil),⟨_,new,rfl,⟨0,rfl⟩,rfl⟩⟩;simp only [List.mem_cons,List.not_mem_nil,or_false,not_or] at cL;exact cR.extBut c o cL.1 (gc c o cL.1 cL.2.1 cL.2.2.1 cL.2.2.2.1 e)
   have qu:IsPair g' TI (.ref b0) (.ref b4):=cR.extBut _ _ D.TIz (gc _ _ D.TIz D.TITO D.TIi1 D.TIi2 ai);refine ⟨.ref s.heap.objs.size,_,aE,rfl,⟨_,I.fresh,rfl,x,y,rfl,λ xR kC a7 bV=>?_⟩,⟨hB,qu,⟨_,_,cR.extBut _ _ D.TOz dQ⟩,eM.extBut cR.extBut D.i1z,ek.extBut cR.extBut D.i2z⟩,λ c cY=>?_⟩
   ·rw [cG] at a7;rw [dv] at bV;cases a7;cases bV;exact ⟨ak,aN⟩
   obtain ⟨o,en,_⟩ : ∃ o,s.heap.get? c=some o/\True:=by
    simp only [List.mem_cons,List.not_mem_nil,or_false] at cY;rcases cY with rfl | rfl | rfl | rfl | rfl
    ·exact ⟨_,af,trivial⟩
    ·exact ⟨_,aF,trivial⟩
    ·obtain ⟨g9,fY,_⟩:=aX;exact ⟨_,fY,trivial⟩
    ·obtain ⟨iX,dA,_⟩:=bT;exact ⟨_,dA,trivial⟩
    ·exact ⟨_,ai,trivial⟩
   rw [a8 (Nat.ne_of_lt (Heap.lt_size en))];exact (hf c cY).1
  | _=>exact absurd (show false=true from fR) Bool.false_ne_true
 done:=by
  intro X c4 hw dH iC aj i pins s σ H E I hf st aI;subst c4 hw dH;obtain ⟨af,ai,⟨u,v,aF⟩,aX,bT⟩:=st;obtain ⟨xs,ys,cG,dv,au⟩:=aI;obtain ⟨_,its,cc,bR,aO,dJ⟩:=I.iH cG;obtain ⟨_,gS,c0,eE,aQ,fN⟩:=I.iH dv;refine wpAny_pyNext_zip_end (I.ok.hd.1 (iC.trans cY)) D af ai aF aX bT (show s.heap.IsList a its.toArray from ⟨_,dJ,rfl,cc,rfl⟩) (show s.heap.IsList b gS.toArray from ⟨_,fN,rfl,c0,rfl⟩) ?_ λ g up=>⟨rfl,?_⟩
  ·rcases au with au | au
   ·exact .inl (by simp;omega)
   ·exact .inr (by simp;omega)
  ·refine I.vV (t':=s.toks) (L:=[z,bu,b0,b4,TI]) (λ c o cL e=>?_) hf;simp only [List.mem_cons,List.not_mem_nil,or_false,not_or] at cL;exact up c o cL.1 cL.2.1 cL.2.2.1 cL.2.2.2.1 e
 self:=λ _ _ _ _ _ st h=>wpAny_pyIter_zip st.1 h
section
variable {X:aP} {bb:Expr}
def Sn (aZ:c3):TI:=λ σ H R=>aZ σ H λ vs H1 => ∃ a b xs ys,vs=[.ref a,.ref b]/\H1 a=some (.lst xs)/\H1 b=some (.lst ys)/\R (xV a b) H1
theorem yK {aO aQ:Expr} {aZ:c3} {p pos:Pos} (fR:kV bb=true) (aI:dy X "zip") (hm:X.mg "zip" = none) (aw:eZ X [aO,aQ] aZ) (az:starEach [aO,aQ] X.env=[(false,eval aO X.env),(false,eval aQ X.env)]:=by rfl) (e5:starEach [aQ] X.env=[(false,eval aQ X.env)]:=by rfl)
  (J:bootBuiltins "zip" = some (.type "zip"):=by decide +kernel) (cY:X.calm=true:=by rfl):jL X bb (.Call (.Name "zip" p) [aO,aQ] [] pos) (Sn aZ):=⟨by
 intro pins s σ H R I h;refine Call_ (mr I aI hm J (PyProof.Rows.callWith_type1 (bj (aw.o pos pins s σ H _ I h) λ us s1 ⟨vs,H1,aE,bq,a7⟩=>?_) (by rw [az,e5]) (by rw [e5];rfl)));obtain ⟨a,b,xs,ys,e,cG,dv,q⟩:=a7;subst e;obtain ⟨gi,kl,rfl,lZ,qg⟩:=vals2 bq;cases lZ;cases qg;obtain ⟨_,its,cc,bR,aO,dJ⟩:=aE.iH cG;obtain ⟨_,gS,c0,eE,aQ,fN⟩:=aE.iH dv;have nQ:a<s1.heap.objs.size:=Heap.lt_size dJ;have nR:b<s1.heap.objs.size:=Heap.lt_size fN;refine call_zip_2 (show s1.heap.IsList a its.toArray from ⟨_,dJ,rfl,cc,rfl⟩) (show s1.heap.IsList b gS.toArray from ⟨_,fN,rfl,c0,rfl⟩) λ g fs e4 iZ qi qj _ up=>?_
 refine wpAny_pyIter_zip fs ?_;have bS:Inv X pins σ H1 { s1 with heap:=g }:=aE.kept (t':=s1.toks) up;refine ⟨_,[s1.heap.objs.size+4,s1.heap.objs.size+3,s1.heap.objs.size,s1.heap.objs.size+1,s1.heap.objs.size+2],_,_,H1,rfl,bS,YE cY fR (apart_new nQ nR),⟨fs,e4,⟨_,_,iZ⟩,qi,qj⟩,λ c aj=>?_,q⟩;have big:s1.heap.objs.size<=c:=by
  simp only [List.mem_cons,List.not_mem_nil,or_false] at aj;rcases aj with rfl | rfl | rfl | rfl | rfl
  ·exact Nat.le_add_right _ _
  ·exact Nat.le_add_right _ _
  ·exact Nat.le_refl _
  ·exact Nat.le_add_right _ _
  ·exact Nat.le_add_right _ _
 exact aE.mi big (aE.a6.fresh big)⟩
end
theorem KC {a b D:Addr} {js:List (Option Nat)} {g:eG} {bh:TE} {σ:St} {H1:ah} {Q:bz} {xs ys:List V} (aD:min xs.length ys.length<=sizeLine) (Pv:Nat->St->ah->List V->Prop) (h0:Pv 0 (pick js σ) (upd H1 D (.lst [])) [])
  (au : ∀ i σ' H' zs,H' D=some (.lst zs)->Pv i σ' H' zs->H' a=some (.lst xs)/\H' b=some (.lst ys))
  (az : ∀ i x y p σ' H' zs (R:St->V->ah->Prop),xs[i]?=some x->ys[i]?=some y->H' p=none->H' D=some (.lst zs)->zs.length=i->Pv i σ' H' zs->(∀ σ2 z bc,bc D=some (.lst zs)->Pv (i+1) σ2 (upd bc D (.lst (zs++[z]))) (zs++[z])->R σ2 z bc) ->
   g (.ref p) σ' (upd H' p (.tup [x,y])) λ σ2 aK=>bh σ2 aK λ z bc=>R σ2 z bc)
  (cB : ∀ σ' H' zs,H' D=some (.lst zs)->zs.length=min xs.length ys.length->Pv (min xs.length ys.length) σ' H' zs->Q (.ref D) H'):iI (xV a b) D js g kc bh σ H1 Q:=by
 refine wg aD Pv h0 (λ i σ' H' zs ay a4 p=>?_) (λ σ' H' zs a4 dO c=>⟨?_,cB σ' H' zs a4 dO c⟩) λ i σ' H' zs x ar R ay a4 a9 p ak k=>?_
 ·obtain ⟨cG,dv⟩:=au i σ' H' zs a4 p;have af:i<xs.length:=by omega
  have ai:i<ys.length:=by omega
  exact ⟨xs,ys,xs[i],ys[i],cG,dv,by simp [af],by simp [ai]⟩
 ·obtain ⟨cG,dv⟩:=au _ σ' H' zs a4 c;exact ⟨xs,ys,cG,dv,by omega⟩
 ·obtain ⟨cG,dv⟩:=au i σ' H' zs a4 p;obtain ⟨q,aS,rfl,e3,hg,rfl,i6⟩:=ak;obtain ⟨ex,du⟩:=i6 xs ys cG dv;exact az i e3 hg q σ' H' zs R ex du aS a4 a9 p k
end bI
namespace cy
open PySem bI fz
def uW:V->Bool
 | .str _=>true
 | _=>false
def pK:Option dG->Bool
 | some (.lst _)=>true
 | _=>false
def uV (H:ah):V->Bool
 | .ref a=>pK (H a)
 | _=>false
section
variable {K:PySem.W.Frag} {H:ah} {v:V}
theorem oG (k:d5 H v) : ∃ t,ie K H v t/\PySem.W.kitOne K t (.type "str")=some (uW v):=by
 cases v with
 | bg=>exact ⟨_,.bg,by kernel_rfl⟩
 | aJ b=>exact ⟨_,.aJ b,by kernel_rfl⟩
 | int i=>exact ⟨_,.int i,by kernel_rfl⟩
 | str x=>exact ⟨_,.str x,by kernel_rfl⟩
 | ref a =>
  rcases (show (∃ xs,H a=some (.tup xs))\/(∃ xs,H a=some (.lst xs))\/(∃ kvs,H a=some (.bp kvs)) from k) with ⟨xs,e⟩ | ⟨xs,e⟩ | ⟨kvs,e⟩
  ·exact ⟨_,.tup e,by kernel_rfl⟩
  ·exact ⟨_,.lst e,by kernel_rfl⟩
  ·exact ⟨_,.bp e,by kernel_rfl⟩
 | _=>exact False.elim k
theorem yk (k:d5 H v) : ∃ t,ie K H v t/\PySem.W.kitOne K t (.type "list")=some (uV H v):=by
 cases v with
 | bg=>exact ⟨_,.bg,by kernel_rfl⟩
 | aJ b=>exact ⟨_,.aJ b,by kernel_rfl⟩
 | int i=>exact ⟨_,.int i,by kernel_rfl⟩
 | str x=>exact ⟨_,.str x,by kernel_rfl⟩
 | ref a =>
  rcases (show (∃ xs,H a=some (.tup xs))\/(∃ xs,H a=some (.lst xs))\/(∃ kvs,H a=some (.bp kvs)) from k) with ⟨xs,e⟩ | ⟨xs,e⟩ | ⟨kvs,e⟩
  ·refine ⟨_,.tup e,?_⟩;show _=some (pK (H a));rw [e];kernel_rfl
  ·refine ⟨_,.lst e,?_⟩;show _=some (pK (H a));rw [e];kernel_rfl
  ·refine ⟨_,.bp e,?_⟩;show _=some (pK (H a));rw [e];kernel_rfl
 | _=>exact False.elim k
end
theorem dU.or {P:Program} {w:World} {K:PySem.W.Frag} {mg:Str->Option Value} {base:Heap} {cp:hL} {k:Nat} {f:Addr} {fd:FuncData} {ag:List Str} {sp va:bX} (F:dU P w K mg base cp k f fd ag sp) (Fu:dU P w K mg base cp k f fd ag va) :
  dU P w K mg base cp k f fd ag (λ vs H Q E=>sp vs H Q E\/va vs H Q E) :=
 ⟨λ vs H Q E h=>h.elim (F.len vs H Q E) (Fu.len vs H Q E),λ A outer s H args us vs Q E aq bP J r h=>h.elim (F.run A outer s H args us vs Q E aq bP J r) (Fu.run A outer s H args us vs Q E aq bP J r)⟩
end cy
namespace FE
open PySem PyProof.Rows
section
variable {prog:Program} {w:World} {A:Around} {E:Value->Shared->Prop} {h:Heap} {g:Array GenState} {d:Drawn} {t:Nat} {os:OsState}
variable {nm q:Str} {C N:Addr} {bs bm qo:List Value} {hdct:Bool} {sn:List Str} {sub:List Value} {ab:Bool} {col:Option Bool} {dd:Option Addr} {k0 k1 k2 k3 k5:Option Value} {B newId yv:String}
theorem YH (F:ExcBaseFacts B newId yv qo) (T:OwnTail h qo bm) {mN:Str->Option Value} {rest:List Value} {fI:Addr} {oI:Obj} {Q:PySem.Fin->Shared->Prop}
  (eR:h.get? C=some (excClassObj nm q C N bs bm hdct sn sub ab col dd k0 k1 k2 k3 k5 newId)) (aD:h.Ns N mN) (ay:mN "__init__" = some (.ref fI))
  (uF:h.get? fI=some oI) (uG:oI.cls=.type "function")
  (aS : ∀ h' e,Heap.MadeExcOf h h' e (.ref C) rest ->
   wpAny (model prog w) A (call (.ref fI) (.ref e::rest)) (λ r s'=>r=.none/\Q (.done (.ret (.ref e))) s') E ⟨h',g,d,t,os⟩) (hrest:rest.length<=sizeLine) :
  wpAny (model prog w) A (Builtin.«type.__call__» ⟨.ref C::rest,[]⟩) Q E ⟨h,g,d,t,os⟩:=by
 repeat (first | with_reducible refine wpAny_loadPart_at eR ?_ | with_reducible refine wpAny_madeBy_exc eR ?_ | wp_step)
 refine codeAny_call_builtin_code (Code.quiet_builtin _ F.quiet) (wpAny_check_new_subT F T eR ?_);refine codeAny_exc_new_subT F T eR ?_ hrest;show wpAny _ _ _ _ _ _;have hC₁:=Heap.get?_push_of_some { cls:=.ref C,data:=.fields #[.ref h.objs.size,.none,.none,.none,.bool false,.none] }
  (Heap.get?_push_of_some { cls:=.type "tuple", data:=.seq rest.toArray } eR)
 have hfI₁:=Heap.get?_push_of_some { cls:=.ref C,data:=.fields #[.ref h.objs.size,.none,.none,.none,.bool false,.none] }
  (Heap.get?_push_of_some { cls:=.type "tuple", data:=.seq rest.toArray } uF)
 have hn₁:((h.push { cls:=.type "tuple", data:=.seq rest.toArray }).push { cls:=.ref C,data:=.fields #[.ref h.objs.size,.none,.none,.none,.bool false,.none] }).Ns N mN :=
  let ⟨o,ao,ep,e,r⟩:=aD;⟨o,ao,ep,Heap.get?_push_of_some _ (Heap.get?_push_of_some _ e),r⟩
 have pI:((h.push { cls:=.type "tuple", data:=.seq rest.toArray }).push
   { cls:=.ref C,data:=.fields #[.ref h.objs.size,.none,.none,.none,.bool false,.none] }).get? (h.objs.size+1)=some
   { cls:=.ref C,data:=.fields #[.ref h.objs.size,.none,.none,.none,.bool false,.none] }:=by heap_get
 have AK:(Value.ref C::bm).contains (.ref C)=true:=by simp
 have T₁:=T.keeps (h':=(h.push { cls:=.type "tuple", data:=.seq rest.toArray }).push { cls:=.ref C,data:=.fields #[.ref h.objs.size,.none,.none,.none,.bool false,.none] })
  λ b o e=>Heap.get?_push_of_some _ (Heap.get?_push_of_some _ e)
 unfold isInstance
 repeat (first | with_reducible refine wpAny_loadPart_at pI ?_ | (with_reducible refine wpAny_isSubtype_exc hC₁ ?_;rw [AK]) | wp_step)
 show wpAny _ _ (typeLookup (.ref C) _) _ _ _;refine wpAny_typeLookup_tail hC₁ hn₁ T₁ F.mroIs F.init.lookup ?_;rw [ay];refine wpAny_holding (wpAny_bind ?_);unfold bindSpecial;refine wpAny_bind (wpAny_typeOf (T := "function") ⟨_,hfI₁,uG⟩ ?_);rw [if_pos (by decide)];refine wpAny_pure (wpAny_bind (wpAny_mono (aS _ (h.objs.size+1) ⟨λ b o J=>Heap.get?_push_of_some _ (Heap.get?_push_of_some _ J),Heap.get?_none_of_le (Nat.le_succ _),h.objs.size,pI,Heap.get?_none_of_le (Nat.le_refl _),?_⟩) (λ r s' aq=>?_) λ _ _ x=>x))
 ·exact Heap.get?_push_of_some _ (Heap.get?_push_at rfl rfl)
 ·obtain ⟨rfl,gf⟩:=aq
  wp_walk
  exact gf
theorem call_exc (F:ExcBaseFacts B newId yv qo) (T:OwnTail h qo bm) {mN:Str->Option Value} {rest:List Value} {fI:Addr} {oI:Obj} {Q:Value->Shared->Prop}
  (eR:h.get? C=some (excClassObj nm q C N bs bm hdct sn sub ab col dd k0 k1 k2 k3 k5 newId)) (aD:h.Ns N mN) (ay:mN "__init__" = some (.ref fI))
  (uF:h.get? fI=some oI) (uG:oI.cls=.type "function")
  (aS : ∀ h' e,Heap.MadeExcOf h h' e (.ref C) rest ->
   wpAny (model prog w) (A.under (.builtin "type.__call__" ⟨.ref C::rest,[]⟩)) (call (.ref fI) (.ref e::rest)) (λ r s'=>r=.none/\Q (.ref e) s') E ⟨h',g,d,t,os⟩) (hrest:rest.length<=sizeLine) :
  wpAny (model prog w) A (call (.ref C) rest) Q E ⟨h,g,d,t,os⟩:=by
 have f1:=tc_lookup;have f2:=tc_bind (.ref C);have bJ:(⟨h,g,d,t,os⟩:Shared).TypeIs (.ref C) "type" := ⟨_,eR,rfl⟩
 refine wpAny_call (codeAny_of_tree ?_);show wpAny _ _ (callAny (.ref C) _) _ _ _
 repeat (any_goals (first | assumption | with_reducible refine wpAny_loadPart_at eR ?_ | wp_step))
 refine ⟨rfl,?_⟩;refine codeAny_call_builtin_at (Code.quiet_builtin _ (by decide +kernel)) entry_typeCall (wpAny_check_type_call_sub eR (YH (hrest:=hrest) F T eR aD ay uF uG λ h' e hm=>?_));exact aS h' e hm
end
section
variable {M:Model} {A:Around} {E:Value->Shared->Prop} {env:Env}
variable {nm q:Str} {C N:Addr} {bs bm:List Value} {hdct:Bool} {sn:List Str} {sub:List Value} {ab:Bool} {col:Option Bool} {dd:Option Addr} {k0 k1 k2 k3 k5:Option Value} {newId:String}
theorem EF {s:Shared} {x:Sem Value} {Q:Flow->Shared->Prop} (jE:bm.contains (.type "BaseException")=true) (bU:A.handled=none)
  (h:wpAny M A x (λ v s₁ => ∃ e t aH,v=.ref e/\s₁.heap.get? C=some (excClassObj nm q C N bs bm hdct sn sub ab col dd k0 k1 k2 k3 k5 newId) /\
   s₁.heap.get? e=some { cls:=.ref C,dict:=aH,data:=.fields #[.ref t,.none,.none,.none,.bool false,.none] }/\E (.ref e) s₁) E s) :
  wpAny M A (raiseStmt env (some x) none) Q E s:=by
 have AJ:(Value.ref C::bm).contains (.type "BaseException")=true:=by rw [List.contains_cons,jE,Bool.or_true]
 unfold raiseStmt;refine wpAny_bind (wpAny_mono h (λ v s₁ h₁=>?_) λ _ _ x=>x);obtain ⟨e,t,aH,rfl,eR,he,fL⟩:=h₁;obtain ⟨ax,g,d,bw,os⟩:=s₁
 repeat (first | with_reducible refine wpAny_loadPart_at he ?_ | with_reducible refine wpAny_loadPart_at eR ?_ | (with_reducible refine wpAny_isSubtype_exc eR ?_;rw [AJ]) | wp_step)
 exact wpAny_raiseNew_none bU fL
end
section
variable {prog:Program} {w:World} {A:Around} {E:Value->Shared->Prop} {s:Shared} {env:Env}
variable {nm q:Str} {C N:Addr} {bs bm qo:List Value} {hdct:Bool} {sn:List Str} {sub:List Value} {ab:Bool} {col:Option Bool} {dd:Option Addr} {k0 k1 k2 k3 k5:Option Value} {B newId yv:String}
theorem Zv (F:ExcBaseFacts B newId yv qo) {mN:Str->Option Value} {fI:Addr} {oI:Obj} {x:Str} {np d4 pos:Pos} {args:List Expr} {Q:Flow->Shared->Prop}
  (jE:bm.contains (.type "BaseException")=true) (bU:A.handled=none) (vP:(backTo d4 (starEach args env)).any (·.1)=false) (ay:mN "__init__" = some (.ref fI)) (uG:oI.cls=.type "function")
  (h:wpAny (model prog w) A (eval (.Name x np) env) (λ f s₁=>f=.ref C/\wpAny (model prog w) A (evalArgs (.ref C) true (backTo d4 (starEach args env)) [])
   (λ a s₂=>a.kw=[]/\a.pos.length<=sizeLine/\s₂.heap.get? C=some (excClassObj nm q C N bs bm hdct sn sub ab col dd k0 k1 k2 k3 k5 newId)/\s₂.heap.Ns N mN/\OwnTail s₂.heap qo bm/\s₂.heap.get? fI=some oI /\
    ∀ h' e,Heap.MadeExcOf s₂.heap h' e (.ref C) a.pos->wpAny (model prog w) (A.under (.builtin "type.__call__" ⟨.ref C::a.pos,[]⟩)) (call (.ref fI) (.ref e::a.pos))
     (λ r s'=>r=.none/\s'.heap.get? C=some (excClassObj nm q C N bs bm hdct sn sub ab col dd k0 k1 k2 k3 k5 newId)/\(∃ t aH,s'.heap.get? e=some { cls:=.ref C,dict:=aH,data:=.fields #[.ref t,.none,.none,.none,.bool false,.none] })/\E (.ref e) s') E { s₂ with heap:=h' }) E s₁) E s) :
  wpAny (model prog w) A (exec (.Raise (some (.Call (.Name x np) args [] d4)) none pos) env) Q E s:=by
 rw [arm_exec_Raise]
 first
  | refine wpAny_bind (wpAny_standAt (EF (C:=C) (nm:=nm) (q:=q) (N:=N) (bs:=bs) (bm:=bm) (hdct:=hdct) (sn:=sn) (sub:=sub) (ab:=ab) (col:=col) (dd:=dd) (k0:=k0) (k1:=k1) (k2:=k2) (k3:=k3) (k5:=k5) (newId:=newId) jE bU (wpAny_bind (wpAny_mono (wpAny_Call_ofName (wpAny_mono h (λ f s₁ h₁=>?_) λ _ _ x=>x)) (λ v s₃ h₃=>wpAny_bind (wpAny_standAt (wpAny_pure h₃))) λ _ _ x=>x))))
  | (simp only [evalOpt,Option.map];refine wpAny_bind (wpAny_standAt (EF (C:=C) (nm:=nm) (q:=q) (N:=N) (bs:=bs) (bm:=bm) (hdct:=hdct) (sn:=sn) (sub:=sub) (ab:=ab) (col:=col) (dd:=dd) (k0:=k0) (k1:=k1) (k2:=k2) (k3:=k3) (k5:=k5) (newId:=newId) jE bU (wpAny_bind (wpAny_mono (wpAny_Call_ofName (wpAny_mono h (λ f s₁ h₁=>?_) λ _ _ x=>x)) (λ v s₃ h₃=>wpAny_bind (wpAny_standAt (wpAny_pure h₃))) λ _ _ x=>x)))))
  | (refine wpAny_bind (wpAny_standAt (EF (C:=C) (nm:=nm) (q:=q) (N:=N) (bs:=bs) (bm:=bm) (hdct:=hdct) (sn:=sn) (sub:=sub) (ab:=ab) (col:=col) (dd:=dd) (k0:=k0) (k1:=k1) (k2:=k2) (k3:=k3) (k5:=k5) (newId:=newId) jE bU ?_));refine wpAny_bind (wpAny_mono (wpAny_Call_ofName (wpAny_mono h (λ f s₁ h₁=>?_) λ _ _ x=>x)) (λ v s₃ h₃=>wpAny_bind (wpAny_standAt (wpAny_pure h₃))) λ _ _ x=>x))
 obtain ⟨rfl,h₁⟩:=h₁;unfold callWith;refine wpAny_bind (wpAny_holding (wpAny_mono h₁ (λ a s₂ h₂=>wpAny_bind (wpAny_standAt ?_)) λ _ _ x=>x));obtain ⟨apos,NT⟩:=a;obtain ⟨Pc,hlen,eR,aD,T,uF,h₂⟩:=h₂;obtain rfl:NT=[]:=Pc;obtain ⟨ax,g,d,bw,os⟩:=s₂;simp only [vP];refine wpAny_bind (wpAny_keeperOf_exc eR ?_);refine wpAny_bind (call_exc (hrest:=hlen) F T eR aD ay uF uG λ h' e hm=>wpAny_mono (h₂ h' e hm) (λ r s' aq=>⟨aq.1,?_⟩) λ _ _ z=>z);obtain ⟨_,hB,⟨t,aH,k7⟩,wH⟩:=aq;refine wpAny_bind (wpAny_holding (wpAny_point (wpAny_pure ?_)));exact ⟨e,t,aH,rfl,hB,k7,wH⟩
end
end FE
namespace PySem.W
open PySem PySem.Spec PySem.Calls PyProof.Rows Builtin.ObjectAttr
theorem Vg (self:Value):refuseLoop self "__setattr__" bI.iA=pure ():=by kernel_rfl
section
variable {prog:Program} {w:World} {A:Around} {E:Value->Shared->Prop} {R:Result->Shared->Prop} {s:Shared} {K:Frag} {x C Fr:Addr} {nV:Obj} {bK:Option Obj} {cd:ClassData}
theorem X0 {name:Str} {bw:Tok} {v:Value} {r:Option Value} (X:K.In s.heap) (I:InstAt s.heap x nV C bK) (aj:clsIn K C=some cd) (vo:cd.mro=.ref C::.ref Fr::bI.iA) (uO:mroIn K C (.type "object")=some true) (aW:takerIn K C name=some r)
  (h : ∀ b,wpAny (model prog w) A.in1 (match r with | some a=>setByDescriptor a (.ref x) v | none=>storeInOwnDict (.ref x) (.ref C) (.str name bw) name v b)
   (λ fin s'=>match fin with | .done f=>R (.ok f) s' | .again cN=>cN.quiet=true/\codeAny (model prog w) A cN R s') (λ e s'=>R (.error e) s') s) :
  codeAny (model prog w) A (.call (.builtin "object.__setattr__") ⟨[.ref x,.str name bw,v],[]⟩) R s:=by
 have tP:=PySem.F.store_object;have sub:Looks (model prog w) s.heap (isInstance (.ref x) (.type "object")) true:=I.type.andThen (looks_mroIn X uO);refine codeAny_call_builtin tP.slot.plain tP.entry (@check_slot (model prog w) _ _ s "object.__setattr__" "object" "__setattr__" (.ref x) [.str name bw,v] [] _ tP.kind tP.split sub (tP.args (.ref x) (.str name bw) v) ?_);obtain ⟨attr,aw,aq⟩:=Option.bind_eq_some_iff.mp aW;have hm:Looks (model prog w) s.heap (mroOf (.ref C)) cd.mro:=(looks_clsIn X aj).andThen .now;have kf:Looks (model prog w) s.heap (storeTaker? attr) r:=by
  cases attr with
  | none=>cases aq;exact .now
  | some a =>
   obtain ⟨b,J,rfl⟩:=Option.map_eq_some_iff.mp aq;refine (looks_takesIn X J).andThen ?_;cases b<;>exact .now
 rw [osa_eq,refuse_eq];refine wpAny_bind (wpAny_bind (I.type.here (wpAny_bind (hm.here ?_))));rw [vo,refuseLoop_ref,refuseLoop_ref,Vg];refine wpAny_pure (wpAny_bind (I.type.here (wpAny_bind ((looks_findIn X aw).here (wpAny_bind (kf.here ?_))))));exact h _
theorem Vi {vs:Array Value} {name:Str} {v:Value} {Q:Unit->Shared->Prop} (X:K.In s.heap) (ak:s.heap.get? x=some ⟨.ref C,none,.fields vs,#[]⟩) (aj:clsIn K C=some cd) (vo:cd.mro=.ref C::.ref Fr::bI.iA) (hd:cd.hasDict=true)
  (uO:mroIn K C (.type "object")=some true) (az:findIn K (.ref C) "__setattr__" = some (some (.builtin "object.__setattr__"))) (aW:takerIn K C name=some none)
  (h : ∀ h' aH bw,s.heap.get? aH=none->h'.get? x=some ⟨.ref C,some aH,.fields vs,#[]⟩->h'.Ns1 aH (λ y=>if y=name then some v else none)->(∀ b o,b≠x->s.heap.get? b=some o->h'.get? b=some o)->Q () { s with heap:=h',toks:=bw }) :
  wpAny (model prog w) A (setAttr (.ref x) name v) Q E s:=by
 have I:InstAt s.heap x ⟨.ref C,none,.fields vs,#[]⟩ C none:=⟨ak,rfl,rfl,trivial⟩
 refine set_plain X I az (X0 (s:={ s with toks:=s.toks+1 }) (r:=none) X I aj vo uO aW λ b=>?_);refine wpAny_bind (wpAny_pure (wpAny_bind (wpAny_bind (wpAny_loadPart ak (wpAny_bind (PySem.W.Looks.here (s:={ s with toks:=s.toks+1 }) (PySem.W.looks_clsIn X aj) ?_))))));rw [hd];rw [if_neg (by simp)];show wpAny _ _ (alloc { cls:=.type "dict", data:=.dict #[] }>>=λ d=>update x (λ o=>{ o with dict:=some d })>>=λ _=>dictMade (.ref C) x d) _ _ _;have w3:x<s.heap.objs.size:=Heap.lt_size ak;have GU:(s.heap.push { cls:=.type "dict", data:=.dict #[] }).get? x=some ⟨.ref C,none,.fields vs,#[]⟩:=Heap.get?_push_of_some _ ak;refine wpAny_bind (wpAny_alloc (wpAny_bind (wpAny_update GU ?_)));show wpAny _ _ (pure (some s.heap.objs.size)) _ _ _;refine wpAny_pure ?_;have mU:Heap.SameBut x (s.heap.push { cls:=.type "dict", data:=.dict #[] }) ((s.heap.push { cls:=.type "dict", data:=.dict #[] }).update x λ o=>{ o with dict:=some s.heap.objs.size }):=Heap.SameBut.update _ _ _;have GR:((s.heap.push { cls:=.type "dict", data:=.dict #[] }).update x λ o=>{ o with dict:=some s.heap.objs.size }).get? x=some ⟨.ref C,some s.heap.objs.size,.fields vs,#[]⟩:=Heap.get?_update_self _ GU rfl;generalize ((s.heap.push { cls:=.type "dict", data:=.dict #[] }).update x λ o=>{ o with dict:=some s.heap.objs.size })=af at mU GR ⊢;have pk:af.get? s.heap.objs.size=some { cls:=.type "dict", data:=.dict #[] }:=(mU.2 _ (Nat.ne_of_gt w3)).trans (Heap.get?_push_size _ rfl);have cc:af.Ns1 s.heap.objs.size (λ _=>none):=Heap.Ns1.of_empty ⟨_,#[],_,pk,rfl,(λ e he=>absurd he (by simp)),λ _=>rfl⟩;show wpAny _ _ (storeInDict s.heap.objs.size (.str name s.toks) name v) _ _ _;refine wpAny_bind (wpAny_pure (wpAny_bind ?_));refine wpAny_nsSet1 (s:={ s with heap:=af,toks:=s.toks+1 }) cc λ h' lC e5=>?_
 obtain ⟨Nq,N3,N1,A8,AN,l7⟩:=lC.count (PySem.Within.cons (ns:=[]) name v (λ y aN=>absurd rfl aN));refine wpAny_bind (wpAny_lookBehind A8 (by rw [AN];exact pastItsLine_dict (Nat.le_trans l7 (by show 1<=sizeLine+1;decide))) ?_);refine wpAny_pure (h h' s.heap.objs.size _ (Heap.get?_none_of_le (Nat.le_refl _)) ((e5.2 _ (Nat.ne_of_lt w3)).trans GR) lC λ b o nb e=>?_);have aJ:b<s.heap.objs.size:=Heap.lt_size e;exact (e5.2 _ (Nat.ne_of_lt aJ)).trans ((mU.2 _ nb).trans (Heap.get?_push_of_some _ e))
theorem Um {name:Str} {expr:Bool} {v:Value} {Q:Value->Shared->Prop} (X:K.In s.heap) (I:InstAt s.heap x nV C bK) (c:kG K C) (hf:findObj K C bK name=some (.value v)) (bU:handedIn v=true) (h:Q v { s with toks:=s.toks+1 }) :
  wpAny (model prog w) A (getAttr (.ref x) name expr) Q E s:=by
 obtain ⟨acw,g,d,t,os⟩:=s;have oZ:=I.type (M:=model prog w);have hY:=looks_findIn (M:=model prog w) X c.ga;have bI:=looks_findIn (M:=model prog w) X c.FL;have kf:=looks_find (M:=model prog w) X I hf;have dh:=PySem.F.attr_ValueError.ga.bind (.ref x);unfold getAttr getAttrBy;refine wpAny_bind (wpAny_mkText (wpAny_holding (wpAny_bind (oZ.at (wpAny_bind (hY.at ?_))))));show wpAny _ _ (getAttrByItsOwn _ _ _ _ _ _) _ _ _;unfold getAttrByItsOwn hookBefore;refine wpAny_bind (bI.at (wpAny_bind (wpAny_attempt (wpAny_holding ?_))));have aO:callGetattribute (.ref x) (.str name t) (.builtin "BaseException.__getattribute__") expr=boundAndCalled (.builtin "BaseException.__getattribute__") (.ref x) (.str name t):=by
  unfold callGetattribute;cases expr<;>rfl
 show wpAny _ _ (callGetattribute (.ref x) (.str name t) (.builtin "BaseException.__getattribute__") expr) _ _ _;rw [aO];unfold boundAndCalled
 repeat (any_goals (first | assumption | wp_step))
 refine codeAny_call_builtin PySem.F.attr_ValueError.ga.plain PySem.F.entry_bexc_ga (Ki X I c ?_);refine wpAny_bind (wpAny_pure (wpAny_bind (wpAny_pure (wpAny_bind (oZ.at (wpAny_bind (kf.at ?_)))))));refine wpAny_pure ?_;show wpAny _ _ (handedOut v) _ _ _;rw [handedOut_of bU];exact wpAny_pure h
end
end PySem.W
namespace bI
open PySem PySem.Spec PyProof.Rows p6
structure nH (K:PySem.W.Frag) (mg:Str->Option Value) (x:Str) (C Fr fI:Addr):Prop where
 at_:mg x=some (.ref C)
 b2 : ∃ nm q N bs sn sub ab col dd k0 k1 k2 k3 k5,K.lookup C=some (excClassObj nm q C N bs (.ref Fr::iA) true sn sub ab col dd k0 k1 k2 k3 k5 "ValueError.__new__")/\PySem.W.nsOkIn K N=true/\PySem.W.nsIn K N "__init__" = some (some (.ref fI))
 fr:PySem.W.excIn K Fr iA "ValueError.__new__" = true
 fy:PySem.W.kG K C
 rP:PySem.W.findIn K (.ref C) "__setattr__" = some (some (.builtin "object.__setattr__"))
 fn : ∃ oI,K.lookup fI=some oI/\oI.cls=.type "function"
theorem nH.cls {K:PySem.W.Frag} {mg:Str->Option Value} {x:Str} {C Fr fI:Addr} (c:nH K mg x C Fr fI) : ∃ cd,PySem.W.clsIn K C=some cd/\cd.mro=.ref C::.ref Fr::iA/\cd.hasDict=true:=by
 obtain ⟨nm,q,N,bs,sn,sub,ab,col,dd,k0,k1,k2,k3,k5,h,_⟩:=c.b2;have e:PySem.W.clsIn K C=(match K.lookup C with | some ⟨_,_,.cls cd,_⟩=>some cd | _=>none):=rfl;rw [h] at e;exact ⟨_,e,rfl,rfl⟩
theorem nH.hd {K:PySem.W.Frag} {mg:Str->Option Value} {x:Str} {C Fr fI:Addr} (c:nH K mg x C Fr fI):PySem.W.hasDictIn K C=true:=by
 obtain ⟨cd,af,_,aF⟩:=c.cls;unfold PySem.W.hasDictIn;rw [af];exact aF
theorem nH.tail {K:PySem.W.Frag} {mg:Str->Option Value} {x:Str} {C Fr fI:Addr} {h:Heap} (c:nH K mg x C Fr fI) (X:K.In h):OwnTail h iA (.ref Fr::iA):=by
 obtain ⟨ck,N,nm,q,bs,hdct,sn,sub,ab,col,dd,k0,k1,k2,k3,k5,mN,eR,di,qF,T⟩:=(m3.own (mg:=λ _=>some (.ref Fr)) (x:=x) ⟨rfl,c.fr⟩ X).obj;exact .own eR di qF .base
theorem Zn {K:PySem.W.Frag} {h:Heap} {N:Addr} {mg:Str->Option Value} {n:Str} {v:Value} (X:K.In h) (G:h.Ns N mg) (e:PySem.W.nsIn K N n=some (some v)):mg n=some v:=by
 obtain ⟨o,ao,ep,aG,hd,_,hf⟩:=G;unfold PySem.W.nsIn at e;split at e
 ·rename_i c d lx b6 cA q;have:=X _ _ q;rw [aG] at this;cases this;cases hd;split at e
  ·rename_i y he;rw [<-hf];unfold nsFind findBy;rw [<-Array.find?_toList,he];exact Option.some.inj e
  ·split at e<;>cases e
 ·cases e
def kI (e C:Addr) (d:Option Addr) (t:Addr):dG:=.ext λ h=>h.get? e=some { cls:=.ref C,dict:=d,data:=.fields #[.ref t,.none,.none,.none,.bool false,.none] }
theorem Jk {P:Program} {w:World} {H:ah} {h:Heap} {e C t:Addr} {d:Option Addr} (he:h.get? e=some { cls:=.ref C,dict:=d,data:=.fields #[.ref t,.none,.none,.none,.bool false,.none] }):dW P w H h e (kI e C d t) :=
 ⟨he,⟨_,he⟩,λ af ai a k=>k _ a⟩
theorem Inv.forget {X:aP} {pins:List (Addr×Obj)} {σ:St} {H H':ah} {s:Shared} {e:Addr} (I:Inv X pins σ H s) (fF : ∀ b,b≠e->H' b=H b) (h0:H' e=none) (ak:(∀ xs,H e≠some (.tup xs))/\(∀ o u,H e≠some (.fB o u))/\(∀ ag,H e≠some (.oy ag)) /\ ∀ b,H e≠some (.own b)):Inv X pins σ H' s:=by
 have le : ∀ b,H b=none->H' b=none:=λ b n=>by
  by_cases z:b=e
  ·rw [z];exact h0
  ·rw [fF b z];exact n
 refine ⟨I.ok,I.os,I.bare,⟨I.base.keep,I.base.slot,λ b b2 q n ak=>le b (I.base.free b b2 q n ak),I.base.there,λ b xs q=>?_,λ b b2 u q=>?_,λ b ag q=>?_⟩,I.loc,I.cell,le _ I.free,λ x c q=>le _ (I.gV x c q),λ p ax=>?_,λ b b2 q=>?_,I.len⟩
 ·have:=I.base.j9 b xs q;rw [fF b λ z=>ak.1 xs (z ▸ this)];exact this
 ·have:=I.base.jC b b2 u q;rw [fF b λ z=>ak.2.1 b2 u (z ▸ this)];exact this
 ·obtain ⟨m,this⟩:=I.base.j8 b ag q;exact ⟨m,by rw [fF b λ z=>ak.2.2.1 _ (z ▸ this)];exact this⟩
 ·obtain ⟨a,b,c,d,f⟩:=I.pin p ax;exact ⟨a,le _ b,c,d,f⟩
 ·by_cases z:b=e
  ·rw [z,h0] at q;cases q
  ·rw [fF b z] at q;refine (I.a6 b b2 q).ih (λ _ _ _ q=>q) (λ c q=>?_) λ c xs q=>?_
   ·rw [fF c λ z=>ak.2.2.2 _ (z ▸ q)];exact q
   ·rw [fF c λ z=>ak.1 _ (z ▸ q)];exact q
def CZ (C:Addr) (f:Str):bX:=λ vs H Q _ => ∃ (e t:Addr) (v:V),vs=[.ref e,v]/\H e=some (kI e C none t) /\ ∀ aH,H aH=none->Q .bg (upd (upd H e (kI e C (some aH) t)) aH (.jk [(f,v)]))
def Vh (C:Addr) (f:Str) (E:dz) (aZ:c3):dr:=λ _ σ H=>aZ σ H λ vs H1 => ∃ v,vs=[v] /\ ∀ aH ar,aC H1 ar->ar aH=some (.jk [(f,v)])->E (.ref C) (some aH) ar
theorem Ya {X:aP} {E:dz} {x f:Str} {C Fr fI:Addr} {fb:Nat} {fd:FuncData} {ag:List Str} {a:Expr} {aZ:c3} {np d4 pos:Pos} (k:ql X E) (ak:X.ex=[]) (aj:X.calm=true) (c:nH X.K X.mg x C Fr fI) (F:dU X.prog X.w X.K X.mg X.base cD fb fI fd ag (CZ C f)) (aq:dV (fb+1) X.A) (J:Binds X.K fd ag [])
  (aI:dy X x) (aw:eZ X [a] aZ) (cB:noStar a=true:=by rfl) (dp:(backTo d4 (starEach [] X.env)).any (·.1)=false:=by rfl) (hd:(x == ("__debug__" : Str))=false:=by decide):gJ X (.Raise (some (.Call (.Name x np) [a] [] d4)) none pos) (Vh C f E aZ):=⟨by
 intro pins s σ H D I h;obtain ⟨nm,q,N,bs,sn,sub,ab,col,dd,k0,k1,k2,k3,k5,Gn,HE,xh⟩:=c.b2;obtain ⟨oI,OS,OT⟩:=c.fn;have he:=ry cB [] X.env;have Ph:X.base.nsMap N "__init__" = some (.ref fI):=Zn I.mod.jy (.of_isNs (PySem.W.isNs_of_in I.mod.jy HE)) xh;refine FE.Zv (C:=C) (nm:=nm) (q:=q) (N:=N) (bs:=bs) (bm:=.ref Fr::iA) (hdct:=true) (sn:=sn) (sub:=sub) (ab:=ab) (col:=col) (dd:=dd) (k0:=k0) (k1:=k1) (k2:=k2) (k3:=k3) (k5:=k5)
  PySem.F.excBase_ValueError (mN:=X.base.nsMap N) (fI:=fI) (oI:=oI) (by rfl) (I.ok.hd.1 aj) (by rw [he];show (false||(backTo d4 (starEach [] X.env)).any (·.1))=false;rw [dp];rfl) Ph OT (nx I aI c.at_ ⟨rfl,?_⟩ hd)
 have h7:=aw.o d4 pins s σ H _ I h;rw [he] at h7 ⊢;refine Calls.evalArgs_plain (bj h7 λ us s1 ⟨vs,H1,aE,r,v,ev,fL⟩=>?_);subst ev;obtain ⟨u,rfl,eI⟩:=vals1 r;have di:X.base.Ns N (X.base.nsMap N):=.of_isNs (PySem.W.isNs_of_in I.mod.jy HE);refine ⟨rfl,(by show 1<=sizeLine;decide),aE.dF _ _ Gn,di.keeps aE.aY,c.tail aE.dF,aE.dF _ _ OS,λ h' e hm=>?_⟩;obtain ⟨t,qz,_,_⟩:=hm.there;have bS:Inv X pins σ H1 { s1 with heap:=h' }:=aE.kept (t':=s1.toks) hm.keeps;have fx:eW X pins e:=eW.of aE ak hm.new;have gw:H1 e=none:=aE.a6.gone hm.new;have Qp : ∀ b∈ff X.stack,b≠e:=λ b J z=>by
  obtain ⟨_,o,aG,_⟩:=aE.stack.mem J;rw [z,hm.new] at aG;cases aG
 have b_:Inv X pins σ (upd H1 e (kI e C none t)) { s1 with heap:=h' }:=bS.known ak fx gw (Jk qz) Qp;have b5:Vals [V.ref e,v] [Value.ref e,u]:=.cons rfl (.cons eI .nil);have aS:CZ C f [V.ref e,v] (upd H1 e (kI e C none t)) (λ iz ar=>iz=.bg /\ ∃ aH,upd H1 e (kI e C none t) aH=none/\ar=upd (upd (upd H1 e (kI e C none t)) e (kI e C (some aH) t)) aH (.jk [(f,v)])) iu :=
  ⟨e,t,v,rfl,bA,λ aH hj=>⟨rfl,aH,hj,rfl⟩⟩
 have au:([Value.ref e,u]++[]).length=ag.length:=by
  have aO:=F.len _ _ _ _ aS;rw [<-aO];rfl
 refine wpAny_call (codeAny_mono (F.run _ X.stack _ _ ⟨[Value.ref e,u],[]⟩ [Value.ref e,u] [V.ref e,v] _ iu (aq.make C [u] []) (b_.q0.make C [u] []) (J _ [Value.ref e,u] b_.dF au) b5 aS) λ r s' f3=>?_);cases r with
 | error e=>exact False.elim f3
 | ok cW =>
  cases cW with
  | next=>exact False.elim f3
  | brk=>exact False.elim f3
  | cont=>exact False.elim f3
  | ret ab9 =>
   obtain ⟨iz,H',cV,bR,ev,aH,hj,k8⟩:=b_.after f3;subst ev;have xE:aH≠e:=λ z=>by rw [z,bA] at hj;cases hj
   have Rm:H1 aH=none:=by rw [a8 xE] at hj;exact hj
   have uu:H' e=some (kI e C (some aH) t):=by rw [k8,a8 (Ne.symm xE),bA]
   have oD:s'.heap.get? e=some { cls:=.ref C,dict:=some aH,data:=.fields #[.ref t,.none,.none,.none,.bool false,.none] }:=(cV.a6 e _ uu).1;have je:Inv X pins σ (upd H1 aH (.jk [(f,v)])) s':=by
    refine cV.forget (e:=e) (λ b nb=>?_) ?_ ⟨λ xs z=>?_,λ o u z=>?_,λ ag z=>?_,λ b z=>?_⟩
    ·rw [k8];by_cases z:b=aH
     ·rw [z,bA,bA]
     ·rw [a8 z,a8 z,a8 nb,a8 nb]
    ·rw [a8 (Ne.symm xE)];exact gw
    ·rw [uu] at z;cases z
    ·rw [uu] at z;cases z
    ·rw [uu] at z;cases z
    ·rw [uu] at z;cases z
   refine ⟨bR,cV.dF _ _ Gn,⟨t,some aH,oD⟩,?_⟩;refine k pins σ _ s' e C (some aH) .none [] je fx (by rw [a8 (Ne.symm xE)];exact gw) ⟨_,_,oD,rfl,rfl,rfl,rfl,rfl⟩ (.inl ⟨rfl,rfl⟩) (λ b J=>absurd J (by simp)) (fL aH _ (cy.aC.new Rm) bA)⟩
structure S1 (K:PySem.W.Frag) (C F:Addr):Prop where
 b2 : ∃ nm q N bs bm hdct sn sub ab col dd k0 k1 k2 k3 k5,K.lookup C=some (excClassObj nm q C N bs bm hdct sn sub ab col dd k0 k1 k2 k3 k5 "ValueError.__new__")
 GV:PySem.W.mroIn K C (.ref F)=some true
 ne:C≠F
def SF (K:PySem.W.Frag) (to ix:TE) (f:Str):dr:=λ D σ H=>ix σ H λ y H1=>to σ H1 λ x ar => ∃ (e C Fr t:Addr) (cd:ClassData),x=.ref e/\ar e=some (kI e C none t)/\PySem.W.clsIn K C=some cd/\cd.mro=.ref C::.ref Fr::iA/\cd.hasDict=true /\
 PySem.W.mroIn K C (.type "object")=some true/\PySem.W.findIn K (.ref C) "__setattr__" = some (some (.builtin "object.__setattr__"))/\PySem.W.takerIn K C f=some none /\ ∀ aH,ar aH=none->D.bF σ (upd (upd ar e (kI e C (some aH) t)) aH (.jk [(f,y)]))
theorem Va {X:aP} {o value:Expr} {f:Str} {pos pos':Pos} {aZ ix:TE} (ak:X.ex=[]) (aw:bC X o aZ) (bf:bC X value ix) (az:swapsWith value (some (.Attribute o f pos')) pos.line X.env=pure false):gJ X (.Assign [.Attribute o f pos'] value pos) (SF X.K aZ ix f):=⟨by
 intro pins s σ H D I h;refine plainObj_wpAny_Assign_Attribute (bj (bf.o pins s σ H _ I h) λ u s1 ⟨y,H1,aE,br,q⟩=>bj (aw.o pins s1 σ H1 _ aE q) λ de s2 ⟨x,ar,bS,a5,e,C,Fr,t,cd,ex,he,aj,vo,hd,uO,Pt,aW,bV⟩=>?_) az;subst ex;obtain rfl:de=Value.ref e:=a5;have oD:=(bS.a6 e _ he).1;refine PySem.W.Vi bS.dF oD aj vo hd uO Pt aW λ h' aH bw hj dj aD aB=>?_
 have b_:Inv X pins σ (upd ar e (kI e C (some aH) t)) { s2 with heap:=h',toks:=bw }:=bS.write (by rw [he];trivial) (.inl rfl) aB ⟨_,dj⟩ (Jk dj);have HJ:ar aH=none:=bS.a6.gone hj;have Qn:aH≠e:=λ z=>by rw [z,oD] at hj;cases hj
 have fd:eW X pins aH:=eW.of bS ak hj;have cV:Inv X pins σ (upd (upd ar e (kI e C (some aH) t)) aH (.jk [(f,y)])) { s2 with heap:=h',toks:=bw }:=by
  refine b_.known ak fd (by rw [a8 Qn];exact HJ) ⟨_,aD,λ g=>?_⟩ λ b J z=>?_
  ·by_cases z:g=f
   ·have J:(g == f)=true:=beq_iff_eq.mpr z;simp only [List.lookup,J,if_pos z];exact br
   ·have J:(g == f)=false:=beq_eq_false_iff_ne.mpr z;simp only [List.lookup,J,if_neg z];trivial
  ·obtain ⟨_,o,aG,_⟩:=bS.stack.mem J;rw [z,hj] at aG;cases aG
 exact ⟨σ,_,cV,bV aH HJ⟩⟩
def Iz (K:PySem.W.Frag) (aZ:TE) (f:Str):TE:=λ σ H Q=>aZ σ H λ x H1 => ∃ (e C aH:Addr) (aA:List (Str×V)) (v:V),x=.ref e/\H1 e=some (kJ e C (some aH))/\H1 aH=some (.jk aA)/\PySem.W.kG K C/\PySem.W.hasDictIn K C=true/\PySem.W.findIn K (.ref C) f=some none/\aA.lookup f=some v/\Q v H1
theorem VT {X:aP} {pins:List (Addr×Obj)} {σ:St} {H:ah} {s:Shared} (I:Inv X pins σ H s) {e C aH:Addr} {aA:List (Str×V)} (he:H e=some (kJ e C (some aH))) (hd:H aH=some (.jk aA)) :
  ∃ (bQ:Obj) (dB:Str->Option Value) (bK:Obj),PySem.W.InstAt s.heap e bQ C (some bK)/\(∀ name,PySem.W.lookIn name bK=some (dB name)) /\ ∀ f,hp (aA.lookup f) (dB f):=by
 obtain ⟨⟨bQ,vs,af,ai,aF,aX,_⟩,_,_⟩:=(show dW X.prog X.w H s.heap e (kJ e C (some aH)) from I.a6 e _ he)
 obtain ⟨dB,aD,aq⟩:=(show dW X.prog X.w H s.heap aH (.jk aA) from I.a6 aH _ hd)
 obtain ⟨bK,aG,au⟩:=KR aD;refine ⟨bQ,dB,bK,⟨af,ai,?_,?_⟩,au,aq⟩
 ·unfold PySem.W.notCls;rw [aX]
 ·rw [aF];exact aG
theorem U5 {X:aP} {e:Expr} {f:Str} {pos:Pos} {aZ:TE} (he:bC X e aZ) (J:attributeBase e f X.env (eval e X.env)=eval e X.env):bC X (.Attribute e f pos) (Iz X.K aZ f):=⟨by
 intro pins s σ H Q I h;refine Jc J (bj (he.o pins s σ H _ I h) λ u s1 ⟨x,H1,aE,a5,a,C,aH,aA,v,ex,es,M0,fy,bU,aw,l,q⟩=>?_);subst ex;obtain rfl:u=Value.ref a:=a5;obtain ⟨bQ,dB,bK,b1,au,aq⟩:=VT aE es M0;have GL:=aq f;rw [l] at GL;obtain ⟨jj,Bd,eI⟩:=GL.some_of;exact PySem.W.Um aE.dF b1 fy (PySem.W.findObj_own bU aw rfl (by rw [au,Bd])) (KL eI) ⟨v,H1,aE.tok _,eI,q⟩⟩
theorem J7 {X:aP} {K:PySem.W.Frag} {e:Expr} {f:Str} {pos:Pos} {aZ:TE} (dH:X.K=K) (he:bC X e aZ) (J:attributeBase e f X.env (eval e X.env)=eval e X.env):bC X (.Attribute e f pos) (Iz K aZ f):=by
 subst dH;exact U5 he J
structure sE (P:Program) (w:World) (K:PySem.W.Frag) (mg:Str->Option Value) (base:Heap) (k:Nat) (f:Addr) (fd:FuncData) (ag:List Str) (sp:bX):Prop where
 len : ∀ vs H Q E,sp vs H Q E->vs.length=ag.length
 run : ∀ (A:Around) (outer:List Env) (s:Shared) (H:ah) (args:Args) (us:List Value) (vs:List V) (Q:bz) (E:dz),iK k A->sv A s.heap H (ff outer) []->mf P w K mg base A outer s H->BindsTo s fd args (ag.zip us)->Vals vs us->sp vs H Q E ->
  codeAny (model P w) A (.call (.ref f) args) (zu cD outer P w H s Q E) s
theorem sE.fn {cp:hL} {P:Program} {w:World} {K:PySem.W.Frag} {mg:Str->Option Value} {base:Heap} {k:Nat} {f:Addr} {fd:FuncData} {ag:List Str} {sp:bX} (F:sE P w K mg base k f fd ag sp):dU P w K mg base cp k f fd ag sp :=
 ⟨F.len,λ A outer s H args us vs Q E aq bP J r eb=>codeAny_mono (F.run A outer s H args us vs Q E aq.u (.inl aq.hd) bP J r eb) λ z s' aS=>by
  cases z with
  | error e=>exact False.elim aS
  | ok cW=>cases cW<;>exact aS⟩
abbrev xd (P:Program) (w:World) (K:PySem.W.Frag) (mg:Str->Option Value) (base:Heap) (N:List Str) (qual:Str) (scope:Scope) (f:Addr) (cd:Value) (A:Around) (outer:List Env) (s:Shared) (H:ah) (E:dz):aP :=
 { j6 cD P w K mg base N qual scope f cd A outer s H E with calm:=false,warm:=true,cP:=λ _ _=>False }
theorem Y8 {P:Program} {w:World} {K:PySem.W.Frag} {mg:Str->Option Value} {base:Heap} {N ag:List Str} {qual:Str} {scope:Scope} {f:Addr} {cd:Value} {A:Around} {outer:List Env} {s s1:Shared} {H:ah} {E:dz} {us:List Value} {vs:List V}
  (S:cq N ag scope) (bU:sv A s.heap H (ff outer) []) (bP:mf P w K mg base A outer s H) (au:vs.length=ag.length) (r:Vals vs us)
  (x:InCallC s s.heap.objs.size (bindL (envOfC qual scope s.heap.objs.size f cd).kindOf (ag.zip us) λ _=>none) (cellsFrom (s.heap.objs.size+1) scope.names []) (bindC (envOfC qual scope s.heap.objs.size f cd).kindOf (ag.zip us) λ _=>none) s1) :
  Inv (xd P w K mg base N qual scope f cd A outer s H E) [] (start N vs) H s1:=by
 have I:Inv (j6 cD P w K mg base N qual scope f cd ({ A with handled:=none }) outer s H E) [] (start N vs) H s1:=Dv (A:={ A with handled:=none }) S rfl ⟨bP.frames,bP.mod,bP.bs,bP.h6,bP.hR,bP.jZ,bP.a6,bP.bare⟩ au r x;have ok:=I.ok;exact ⟨⟨ok.mod,ok.kind,ok.glob,ok.blt,ok.above,ok.inj,ok.has,ok.mI,⟨λ h=>(nomatch h),λ _=>bU⟩,ok.frames,ok.ox,ok.qr,ok.bs,ok.h6,ok.mj,ok.oA,ok.hR,ok.jZ⟩,I.os,I.bare,I.base,I.loc,I.cell,I.free,I.gV,I.pin,I.a6,I.len⟩
theorem h3.kz {P:Program} {w:World} {K:PySem.W.Frag} {mg:Str->Option Value} {base:Heap} {x qual:Str} {st:Stmt} {f:Addr} {fd:FuncData} {N ag:List Str} {k:Nat} {sp:bX} (F:h3 K x qual st f fd) (S:cq N ag (bO st)) (len : ∀ vs H Q E,sp vs H Q E->vs.length=ag.length)
  (ml : ∀ (ba:Value) (A:Around) (outer:List Env) (s:Shared) (H:ah) (vs:List V) (Q:bz) (E:dz),iK k (A.deeper (envOfC qual (bO st) s.heap.objs.size f ba))->sp vs H Q E ->
   ∃ t,h4 (xd P w K mg base N qual (bO st) f ba A outer s H E) (ip st) t/\t { bF:=λ _ H'=>Q .bg H',ji:=Q } (start N vs) H):sE P w K mg base (k+1) f fd ag sp:=by
 obtain ⟨e1,bK,cF,doc,pm,an,ba,cu,md,rfl,lk,hN⟩:=F.ex;refine ⟨len,λ A outer s H args us vs Q E aq bU bP J r eb=>?_⟩;have au:=len _ _ _ _ eb;have iS:K.In s.heap:=bP.mod.jy.keeps λ b o e=>(bP.bs b o e).1
 have lim:s.heap.NoLimit:=bP.mod.nolimit.keeps λ b o e=>(bP.bs b o e).1
 have vF : ∀ y∈ag.zip us,(bO st).names.lookup y.1=some .local\/((bO st).names.lookup y.1=some .cell/\((cellsFrom (s.heap.objs.size+1) (bO st).names []).lookup y.1).isSome=true):=λ ⟨n,v⟩ aN=>by
  rcases S.par n (List.of_mem_zip aN).1 with q | q
  ·exact .inl q
  ·exact .inr ⟨q,PySem.W.cellsFrom_some _ _ _ (.inl q)⟩
 refine codeAny_call_function aq.depth (iS _ _ lk) rfl S.co S.gen rfl (PySem.W.codeRec_of iS hN) (J _ _ _ _ ?_);refine wpAny_newFunctionEnv_cells S.kind vF λ env he s1 x=>?_
 subst he;refine ⟨lim.keeps x.toInCall.keep,codeAny_func ?_⟩;obtain ⟨t,aW,aS⟩:=ml ba A outer s H vs Q E (aq.deeper _) eb;have I:Inv (xd P w K mg base N qual (bO st) f ba A outer s H E) [] (start N vs) H s1:=Y8 S bU bP au r x;refine wpAny_mono (aW.o [] s1 (start N vs) H _ I aS) (λ cW s' az=>?_) λ e s' az=>az.elim
 have fin : ∀ {σ':St} {H':ah} {v:V} {u:Value},Inv (xd P w K mg base N qual (bO st) f ba A outer s H E) [] σ' H' s'->RelV v u->Q v H'->tH outer P w H s Q u s' :=
  λ {σ' H' v u} b1 bR q=>⟨v,H',b1.os,b1.bare,b1.base,b1.a6,bR,q⟩
 cases cW with
 | ret u =>
  obtain ⟨v,σ',H',b1,bR,q⟩:=az;exact fin b1 bR q
 | next =>
  obtain ⟨σ',H',b1,q⟩:=az;exact fin (v:=V.bg) (u:=Value.none) b1 rfl q
 | brk =>
  obtain ⟨_,_,_,q⟩:=az;exact False.elim q
 | cont =>
  obtain ⟨_,_,_,q⟩:=az;exact False.elim q
section
variable {X:aP} {k:Nat} {f:Addr} {fd:FuncData} {ag:List Str} {sp:bX} {x:Str} {p pos:Pos} {e:Expr} {ao:List Expr} {t:c3}
theorem jI (F:sE X.prog X.w X.K X.mg X.base k f fd ag sp) (aq:iK k X.A) (hw:X.warm=true) (aI:dy X x) (hm:X.mg x=some (.ref f)) (aB:PySem.W.keepIn X.K (.ref f)=true) (J:Binds X.K fd ag [])
  (aw:eZ X (e::ao) t) (eg:(x == ("__debug__" : Str))=false:=by decide) (cB:noStar e=true:=by rfl) (dp:(backTo pos (starEach ao X.env)).any (·.1)=false:=by rfl) :
  bC X (.Call (.Name x p) (e::ao) [] pos) (pT sp [] iu t):=⟨by
 intro pins s σ H Q I h;refine wpAny_Call_Name_kw (nx I aI hm ?_ eg);refine PySem.W.callWith_K (h₀:=X.base) I.ok.mod.jy aB (bj (aw.o pos pins s σ H _ I h) λ us s1 ⟨vs,H1,aE,r,q⟩=>⟨aE.dF,?_⟩) (ry cB ao X.env) dp;have b5:Vals (vs++[]) (us++[]):=r.append .nil;have au:(us++[]).length=ag.length:=by rw [<-b5.length];exact F.len _ _ _ _ q
 refine wpAny_call (codeAny_mono (F.run X.A X.stack s1 H1 ⟨us,[]⟩ (us++[]) (vs++[]) Q iu aq (aE.AM hw λ b J=>absurd J (by simp)) aE.q0 (J s1 us aE.dF au) b5 q) λ r s' aS=>?_);cases r with
 | error e=>exact False.elim aS
 | ok cW =>
  cases cW with
  | ret u=>exact aE.after aS
  | next=>exact False.elim aS
  | brk=>exact False.elim aS
  | cont=>exact False.elim aS⟩
def T6 (x:Addr) (sp:bX) (t:c3):TE:=λ σ H Q=>t σ H λ vs H1=>(∃ C d,H1 x=some (kJ x C d)) /\ ∀ ar,ar x=none->(∀ b,b≠x->ar b=H1 b)->sp (vs++[]) ar Q iu
theorem WI {y:Addr} (F:sE X.prog X.w X.K X.mg X.base k f fd ag sp) (aq:iK k (kQ X y).A) (ak:X.ex=[]) (aI:dy (kQ X y) x) (hm:X.mg x=some (.ref f)) (aB:PySem.W.keepIn X.K (.ref f)=true) (J:Binds X.K fd ag [])
  (aw:eZ (kQ X y) (e::ao) t) (eg:(x == ("__debug__" : Str))=false:=by decide) (cB:noStar e=true:=by rfl) (dp:(backTo pos (starEach ao X.env)).any (·.1)=false:=by rfl) :
  bC (kQ X y) (.Call (.Name x p) (e::ao) [] pos) (T6 y sp t):=⟨by
 intro pins s σ H Q I h;refine wpAny_Call_Name_kw (nx I aI hm ?_ eg);refine PySem.W.callWith_K (h₀:=X.base) I.ok.mod.jy aB (bj (aw.o pos pins s σ H _ I h) λ us s1 ⟨vs,H1,aE,r,⟨C,d,he⟩,zR⟩=>⟨aE.dF,?_⟩) (ry cB ao X.env) dp;have q:=zR (λ b=>if b=y then none else H1 b) (if_pos rfl) λ b nb=>if_neg nb
 have bS:Inv (kQ X y) pins σ (λ b=>if b=y then none else H1 b) s1:=by
  refine aE.forget (e:=y) (λ b nb=>if_neg nb) (if_pos rfl) ⟨λ xs z=>?_,λ o u z=>?_,λ ag z=>?_,λ b z=>?_⟩
  ·rw [he] at z;cases z
  ·rw [he] at z;cases z
  ·rw [he] at z;cases z
  ·rw [he] at z;cases z
 have b2 : ∃ bQ vs,s1.heap.get? y=some bQ/\bQ.cls=.ref C/\bQ.dict=d/\bQ.data=.fields vs/\vs[2]?=some .none:=(aE.a6 y _ he).1;obtain ⟨bQ,qX,af,_,_,ai,aF⟩:=b2;have Qw:y∉ff X.stack:=λ z=>by
  have:=aE.sZ y z;rw [he] at this;cases this
 have hd:sv (kQ X y).A s1.heap (λ b=>if b=y then none else H1 b) (ff (kQ X y).stack) [] :=
  .inr ⟨y,bQ,qX,rfl,af,if_pos rfl,Qw,by simp,ai,aF⟩
 have b5:Vals (vs++[]) (us++[]):=r.append .nil;have au:(us++[]).length=ag.length:=by rw [<-b5.length];exact F.len _ _ _ _ q
 refine wpAny_call (codeAny_mono (F.run (kQ X y).A X.stack s1 _ ⟨us,[]⟩ (us++[]) (vs++[]) Q iu aq hd bS.q0 (J s1 us aE.dF au) b5 q) λ r s' aS=>?_);cases r with
 | error e=>exact False.elim aS
 | ok cW =>
  cases cW with
  | ret u=>exact bS.after aS
  | next=>exact False.elim aS
  | brk=>exact False.elim aS
  | cont=>exact False.elim aS⟩
end
def xX (X:aP) (E:St->dz):Prop := ∀ (pins:List (Addr×Obj)) (σ:St) (H:ah) (s:Shared) (e C:Addr) (d:Option Addr) (head:Value) (au:List Addr),Inv X pins σ H s->eW X pins e->H e=none ->
 Rec s.heap e (.ref C) d head->vN s.heap e head au->(∀ b∈au,eW X pins b/\H b=none)->E σ (.ref C) d H->X.cP (.ref e) s
theorem W8 {X:aP} {pins:List (Addr×Obj)} {W:Value->Shared->Prop} {E:St->dz} (ak:X.ex=[]) (cB:X.stack=X.env::X.outer) (hf:X.env.frame=some X.env.locals)
  (qb : ∀ (σ:St) (H:ah) (s:Shared) (e C T:Addr) (d:Option Addr),Inv X pins σ H s->eW X pins e->H e=none->Rec s.heap e (.ref C) d (.ref T)->Ent s.heap T .none->T≠e->eW X pins T->H T=none->E σ (.ref C) d H->W (.ref e) s)   : xX (kR X pins W) E:=by
 intro q6 σ H s e C d head au I fx gw aq bU pq fL;have lS:Inv X pins σ H s:=I.hW;show wpAny (model X.prog X.w) X.A (noteFrame (.ref e) X.env) _ _ s;have gQ:X.A.frames=some (X.env::X.outer):=by rw [<-cB];exact lS.ok.frames
 have ku:s.heap.FunFrames X.base (X.env::X.outer):=by rw [<-cB];exact lS.stack
 refine landed gQ ku hf aq bU λ h' T bJ ky hC bq t1=>?_
 have Bm:jb (e::au) (ff X.stack) s.heap h':=by rw [cB];exact hC
 have aE:Inv X pins σ H { s with heap:=h' }:=lS.nv ak Bm λ b J=>by
  rcases List.mem_cons.mp J with z | z
  ·rw [z];exact ⟨fx.hW,gw⟩
  ·exact ⟨(pq b z).1.hW,(pq b z).2⟩
 exact qb σ H _ e C T d aE fx.hW gw bq t1 ky (eW.of lS ak bJ) (lS.a6.gone bJ) fL
def Vr (sp:bX) (E:St->dz) (t:c3):TE:=λ σ H Q=>t σ H λ vs H1=>sp (vs++[]) H1 Q (E σ)
section
variable {X:aP} {k:Nat} {f:Addr} {fd:FuncData} {ag:List Str} {sp:bX} {x:Str} {p pos:Pos} {e:Expr} {ao:List Expr} {t:c3} {E:St->dz}
theorem X7 (F:dU X.prog X.w X.K X.mg X.base (i0 X.prog X.w) k f fd ag sp) (aq:dV k X.A) (ak:X.ex=[]) (gg:xX X E) (aI:dy X x) (hm:X.mg x=some (.ref f)) (aB:PySem.W.keepIn X.K (.ref f)=true) (J:Binds X.K fd ag [])
  (aw:eZ X (e::ao) t) (eg:(x == ("__debug__" : Str))=false:=by decide) (cB:noStar e=true:=by rfl) (dp:(backTo pos (starEach ao X.env)).any (·.1)=false:=by rfl) :
  bC X (.Call (.Name x p) (e::ao) [] pos) (Vr sp E t):=⟨by
 intro pins s σ H Q I h;refine wpAny_Call_Name_kw (nx I aI hm ?_ eg);refine PySem.W.callWith_K (h₀:=X.base) I.ok.mod.jy aB (bj (aw.o pos pins s σ H _ I h) λ us s1 ⟨vs,H1,aE,r,q⟩=>⟨aE.dF,?_⟩) (ry cB ao X.env) dp;have b5:Vals (vs++[]) (us++[]):=r.append .nil;have au:(us++[]).length=ag.length:=by rw [<-b5.length];exact F.len _ _ _ _ q
 refine wpAny_call (codeAny_mono (F.run X.A X.stack s1 H1 ⟨us,[]⟩ (us++[]) (vs++[]) Q (E σ) aq aE.q0 (J s1 us aE.dF au) b5 q) λ r s' aS=>?_);cases r with
 | error ev =>
  obtain ⟨e,T,C,d,H',rfl,aG,O9,u,a6,fx,p_,ky,gw,dT,i5,aW,fL⟩:=aS;exact gg pins σ H' s' e C d (.ref T) [T] (aE.yg aG u a6 O9 λ b J=>absurd J (by simp)) (eW.of aE ak fx) gw i5 (.inr ⟨T,rfl,aW,ky,rfl⟩) (λ b J=>by rw [List.mem_singleton.mp J];exact ⟨eW.of aE ak p_,dT⟩) fL
 | ok cW =>
  cases cW with
  | ret u=>exact aE.after aS
  | next=>exact False.elim aS
  | brk=>exact False.elim aS
  | cont=>exact False.elim aS⟩
end
def I8 (K:PySem.W.Frag) (F:Addr) (U:Addr->Prop):Prop := ∀ C,U C -> ∀ (M:Model) (A:Around) (E:Value->Shared->Prop) (Q:Bool->Shared->Prop) (s:Shared) (e:Addr) (bQ:Obj),K.In s.heap->s.heap.get? e=some bQ->bQ.cls=.ref C->Q true s->wpAny M A (excMatches (.ref e) (.ref F)) Q E s
def SJ (U:Addr->Prop) (i:Nat) (E:St->dz) (bk:dr) (cb:Addr->dr):dr:=λ D σ H=>bk D σ H /\ ∀ C d H1 (σ1:St),E σ1 (.ref C) d H1->U C /\ ∀ (e:Addr),H1 e=none->i < σ1.length ->
 cb e { bF:=λ σ2 ar=>D.bF ((σ2.set i (some .bg)).set i none) ar,ji:=D.ji,aY:=λ σ2 ar=>D.aY ((σ2.set i (some .bg)).set i none) ar,cu:=λ σ2 ar=>D.cu ((σ2.set i (some .bg)).set i none) ar } (σ1.set i (some (.ref e))) (upd H1 e (kJ e C d))
theorem Vb {X:aP} {E:St->dz} {x n:Str} {i:Nat} {F:Addr} {U:Addr->Prop} {body oJ:List Stmt} {fl:Stmt} {bk:dr} {cb:Addr->dr} {np ig pos:Pos} (ak:X.ex=[]) (cB:X.stack=X.env::X.outer) (hf:X.env.frame=some X.env.locals) (wI:X.mg x=some (.ref F)) (tW:I8 X.K F U) (aI:dy X x)
  (di:X.N.Nodup) (ay:X.N[i]?=some n) (aB:X.env.scope.names.lookup n=some .local)
  (J : ∀ pins W,xX (kR X pins W) E->h4 (kR X pins W) body bk) (az : ∀ e,h4 (kQ X e) (fl::oJ) (cb e)) (hd:(x == ("__debug__" : Str))=false:=by decide) :
  gJ X (.Try body [.ExceptHandler (some (.Name x np)) (some n) (fl::oJ) ig] [] [] pos) (SJ U i E bk cb):=⟨by
 intro pins s σ H D I ⟨af,ai⟩;refine wpAny_Try_except ?_;have qb : ∀ (σ:St) (H:ah) (s:Shared) (e C T:Addr) (d:Option Addr),Inv X pins σ H s->eW X pins e->H e=none->Rec s.heap e (.ref C) d (.ref T)->Ent s.heap T .none->T≠e->eW X pins T->H T=none->E σ (.ref C) d H ->
   wpAny (model X.prog X.w) X.A (handleBy (.ref e) X.env [.ExceptHandler (some (.Name x np)) (some n) (fl::oJ) ig]) (g5 X pins D) X.cP s:=by
  intro σ H s e C T d I fx gw aq aW ky p_ dT fL;obtain ⟨Nb,Ba⟩:=ai C d H σ fL;have hiσ:i < σ.length:=by rw [I.len];exact (List.getElem?_eq_some_iff.mp ay).1
  refine wpAny_handleBy_cons (codeAny_handlers_test (Calls.Name_function_global I.ok.kind aI (Calls.loadGlobal_global (by rw [I.ok.glob];exact I.mod.glob.keeps I.aY) wI ?_) hd)) (by intro q;cases q);obtain ⟨bQ,vs,he,uC,AO,O6,PF⟩:=id aq;refine tW C Nb _ _ _ _ _ _ _ I.dF he uC ?_;refine codeAny_handlers_suite_as ?_;refine land (F:=ff X.stack) aq aW ky (λ b J z=>?_) λ h' hC bq t1=>?_
  ·obtain ⟨_,o,aG,kv⟩:=I.stack.mem J;obtain ⟨rN,BI,bJ,lA,_⟩:=aW;rw [z,bJ] at aG;injection aG with aG;subst aG;exact kv BI lA
  have aE:Inv X pins σ H { s with heap:=h' }:=I.nv ak hC λ b J=>by rw [List.mem_singleton.mp J];exact ⟨p_,dT⟩
  have bS:Inv X pins σ (upd H e (kJ e C d)) { s with heap:=h' }:=aE.known ak fx gw (Rec.ok bq) λ b J z=>by
   obtain ⟨_,o,aG,kv⟩:=aE.stack.mem J;obtain ⟨u5,qX,qz,_,_,mQ,_⟩:=bq;rw [z] at aG;have:(Option.some u5)=some o:=qz.symm.trans aG;injection this with this;subst this;exact kv qX mQ
  refine tb bS di ay (.inl aB) (v:=.ref e) rfl (λ s2 b_=>?_) (.inr aB);refine wpAny_mono ((az e).o pins s2 _ _ _ b_.yB (Ba e gw hiσ)) (λ f s3 eb=>?_) λ _ _ z=>z.elim
  have fin : ∀ (σ3:St) (aK:ah) (Z:Flow->Shared->Prop) , Inv X pins σ3 aK s3->(∀ s5,Inv X pins ((σ3.set i (some .bg)).set i none) aK s5->Z f s5) ->
    wpAny (model X.prog X.w) X.A (do bindName X.env n .none;unbindBehindTheSuite X.env n ig) (λ _ s5=>Z f s5) X.cP s3:=by
   intro σ3 aK Z cV zL;have AZ:i < σ3.length:=by rw [cV.len];exact (List.getElem?_eq_some_iff.mp ay).1
   refine wpAny_bind (wpAny_bindName (tb cV di ay (.inl aB) (v:=.bg) rfl (λ s4 je=>?_) (.inr aB)));unfold unbindBehindTheSuite;exact wpAny_onRaise (K0 je di ay aB (List.getElem?_set_self AZ) λ s5 d9=>zL s5 d9)
  cases f with
  | next =>
   obtain ⟨σ3,aK,cV,q⟩:=eb;exact fin σ3 aK (g5 X pins D) (cV.pZ I.ok) λ s5 d9=>⟨_,_,d9,q⟩
  | brk =>
   obtain ⟨σ3,aK,cV,q⟩:=eb;exact fin σ3 aK (g5 X pins D) (cV.pZ I.ok) λ s5 d9=>⟨_,_,d9,q⟩
  | cont =>
   obtain ⟨σ3,aK,cV,q⟩:=eb;exact fin σ3 aK (g5 X pins D) (cV.pZ I.ok) λ s5 d9=>⟨_,_,d9,q⟩
  | ret u =>
   obtain ⟨v,σ3,aK,cV,bR,q⟩:=eb;exact fin σ3 aK (g5 X pins D) (cV.pZ I.ok) λ s5 d9=>⟨v,_,_,d9,bR,q⟩
 have mH:xX (kR X pins λ e s3=>wpAny (model X.prog X.w) X.A (handleBy e X.env [.ExceptHandler (some (.Name x np)) (some n) (fl::oJ) ig]) (g5 X pins D) X.cP s3) E:=W8 ak cB hf qb;refine wpAny_mono ((J pins _ mH).o [] s σ H D I.yu af) (λ f s1 eb=>?_) λ _ _ z=>z
 cases f with
 | next =>
  obtain ⟨σ3,aK,cV,q⟩:=eb;exact wpAny_execs_nil ⟨σ3,aK,cV.hW,q⟩
 | brk =>
  obtain ⟨σ3,aK,cV,q⟩:=eb;exact ⟨σ3,aK,cV.hW,q⟩
 | cont =>
  obtain ⟨σ3,aK,cV,q⟩:=eb;exact ⟨σ3,aK,cV.hW,q⟩
 | ret u =>
  obtain ⟨v,σ3,aK,cV,bR,q⟩:=eb;exact ⟨v,σ3,aK,cV.hW,bR,q⟩⟩
theorem Zl {K:PySem.W.Frag} {mg:Str->Option Value} {x:Str} {C Fr fI:Addr} (c:nH K mg x C Fr fI):I8 K C (λ D=>D=C):=by
 rintro _ rfl M A E Q s e bQ X he uC aS;obtain ⟨nm,q,N,bs,sn,sub,ab,col,dd,k0,k1,k2,k3,k5,h,_⟩:=c.b2;obtain ⟨bU,g,d,t,os⟩:=s;refine wpAny_excMatches_sub_self (X _ _ h) he uC ?_ aS;rw [List.contains_cons,show iA.contains (.type "BaseException")=true by decide +kernel,Bool.or_true]
open PySem PySem.Spec PySem.Calls PyProof.Rows
def Rd (n:Nat) (t:ko):eG:=λ v σ H Q => ∃ a xs,v=.ref a/\H a=some (.lst xs)/\xs.length=n/\t xs σ H Q
theorem IX {X:aP} {ao:List Expr} {k:Nat} {pos:Pos} {t:ko} {n:Nat} (aj:X.calm=true) (h:rZ X ao t)
  (aD:(assignEach ao X.env).length=n:=by rfl) (cB:(assignEach ao X.env).findIdx? (·.1)=none:=by rfl):k6 X (.Tuple ao k pos) (Rd n t):=⟨by
 intro pins s σ H v u Q I r hw;obtain ⟨a,xs,aO,aS,au,hw⟩:=hw;subst aO;cases r;obtain ⟨its,bR,p,a9⟩:=I.list (a3.of aS);rw [assign_Tuple];refine wpAny_bind (wpAny_standAt ?_);unfold unpack;have hsz:(assignEach ao X.env).length=its.toArray.size:=by simp [aD,<-au,bR.length]
 rw [hsz,cB];refine wpAny_bind (wpAny_holding (PySem.W.kun_itemsOf (I.ok.hd.1 aj) p.isList λ h' ak=>?_));have aE:Inv X pins σ H { s with heap:=h' }:=I.kept (t':=s.toks) λ b o e=>ak b o (Nat.ne_of_lt (Heap.lt_size e)) e
 exact h.o pins _ σ H xs _ Q aE (by simpa using bR) hw⟩
theorem CJ {α : Type} {xs:List α} {x : α} {n:Nat} (aD:xs.length=n+1) (h:xs[n]?=some x):gA xs (-1)=some x:=by
 have e:xs=xs.take n++[x]:=by
  have af:xs.take (n+1)=xs:=List.take_of_length_le (by omega);rw [List.take_add_one,h] at af;exact af.symm
 rw [e];exact JQ _ _
end bI
namespace fz
theorem JX {rows:List (List Int)} {p r:List Int} {n:Nat} (h:goN rows n p=some r) (hf:c7 rows r=none) : ∀ j,goN rows (n+1+j) p=none
 | 0=>by
  show (goN rows n p).bind (gk rows)=none;rw [h];exact WV hf
 | j+1=>by
  show (goN rows (n+1+j) p).bind (gk rows)=none;rw [JX h hf j];rfl
theorem Y6 {rows:List (List Int)} {p r q:List Int} {n m:Nat} (h:goN rows n p=some r) (hf:c7 rows r=none) (hm:goN rows m p=some q):m<=n:=by
 by_cases z:m<=n
 ·exact z
 ·obtain ⟨j,b3⟩ : ∃ j,m=n+1+j:=⟨m - n - 1,by omega⟩
  rw [b3,JX h hf j] at hm;cases hm
def Cm (rows:List (List Int)) (m:Nat) (ag:List Int) (rws:List (List Int)):Prop:=rws.length=(iF rows m ag).length+1/\(∀ i,i<rws.length->rws[i]?=goN rows i ag)/\((iF rows m ag).length=m \/ ∃ cur,goN rows (iF rows m ag).length ag=some cur/\c7 rows cur=none)
theorem vX (l:List Nat):(ey l).length=l.length:=by unfold ey;rw [List.length_map]
end fz
namespace wG
open PySem PyProof.Rows rG
section
variable {prog:Program} {w:World} {A:Around} {E:Value->Shared->Prop} {s:Shared}
theorem v8 {z TI bu b0 b4 t1 aT:Addr} {k:Nat} {xs ys:Array Value} {x y a b:Value} {Q:Value->Shared->Prop} (D:ZipApart z TI bu b0 b4 t1 aT)
  (c1:IsZip s.heap z TI bu .none) (gj:IsPair s.heap TI (.ref b0) (.ref b4)) (hK:IsPair s.heap bu a b)
  (eA:s.heap.IsTupleIter b0 t1 k) (fM:s.heap.IsListIter b4 aT k) (cQ:s.heap.IsTuple t1 xs) (e0:s.heap.IsList aT ys) (ex:xs[k]?=some x) (du:ys[k]?=some y)
  (q : ∀ g,IsZip g z TI bu (rawInt s.heap.objs.size)->IsPair g bu x y->g.IsTupleIter b0 t1 (k+1)->g.IsListIter b4 aT (k+1)->IsPair g s.heap.objs.size x y ->
   (∀ c o,c≠z->c≠bu->c≠b0->c≠b4->s.heap.get? c=some o->g.get? c=some o)->Q (.ref s.heap.objs.size) { s with heap:=g }) :
  wpAny (model prog w) A (Builtin.«zip.__next__» ⟨[.ref z],[]⟩) (λ fin s' => ∃ v,fin=.done (.ret v)/\Q v s') E s:=by
 show wpAny _ _ (field (.ref z) 2>>=_) _ _ _;refine wpAny_bind (wpAny_field c1 rfl (x:=.bool false) rfl ?_);show wpAny _ _ (field (.ref z) 3>>=_) _ _ _;refine wpAny_bind (wpAny_field c1 rfl (x:=.ref TI) rfl (wpAny_bind (wpAny_seqItems gj rfl ?_)));show wpAny _ _ (Builtin.SmallTypes.ownedTupleIsFree (.ref z)>>=_) _ _ _;refine wpAny_bind ?_;unfold Builtin.SmallTypes.ownedTupleIsFree;refine wpAny_bind (wpAny_field c1 rfl (x:=.none) rfl (wpAny_pure ?_));simp only [if_true];refine wpAny_bind (wpAny_rule (wpAny_bind (wpAny_field c1 rfl (x:=.ref bu) rfl (wpAny_bind (wpAny_setField_rec c1 (by simp) λ g1 fS s1=>?_)))));replace fS:IsZip g1 z TI bu .ellipsis:=fS;refine wpAny_bind ?_;simp only [List.zipIdx_cons,List.zipIdx_nil,List.forIn_cons,List.forIn_nil];refine wpAny_bind (wpAny_bind (wpAny_onRaise ?_));show wpAny _ _ (Builtin.SmallTypes.nextOf (.ref b0)>>=_) _ _ _;refine wpAny_bind (pull (eA.extBut s1.extBut D.i1z) (cQ.extBut s1.extBut D.l1z) ex λ g2 qM s2=>wpAny_pure ?_);have jB:IsPair g2 bu a b:=s2.extBut _ _ D.TOi1 (s1.extBut _ _ D.TOz hK);refine wpAny_bind (wpAny_seqItems jB rfl (wpAny_bind (wpAny_updateSeq_pair jB λ g3 kD s3=>?_)));replace kD:IsPair g3 bu x b:=kD;refine wpAny_bind (wpAny_letGo (wpAny_pure (wpAny_bind (wpAny_bind (wpAny_onRaise ?_)))));show wpAny _ _ (Builtin.SmallTypes.nextOf (.ref b4)>>=_) _ _ _;have od:=((fM.extBut s1.extBut D.i2z).extBut s2.extBut D.i12.symm).extBut s3.extBut D.TOi2.symm;have og:=((e0.extBut s1.extBut D.l2z).extBut s2.extBut D.l2i1).extBut s3.extBut D.l2TO;refine wpAny_bind (wpAny_nextOf_list_item od og du λ fY vr s4=>wpAny_pure ?_);have pG:IsPair fY bu x b:=s4.extBut _ _ D.TOi2 kD;refine wpAny_bind (wpAny_seqItems pG rfl (wpAny_bind (wpAny_updateSeq_pair pG λ dA kE s5=>?_)));replace kE:IsPair dA bu x y:=kE;refine wpAny_bind (wpAny_letGo (wpAny_pure (wpAny_pure (wpAny_bind (wpAny_seqItems kE rfl (wpAny_bind (wpAny_newTuple ?_)))))));have jU:dA.objs.size=s.heap.objs.size:=by rw [s5.1,s4.1,s3.1,s2.1,s1.1]
 have vf:IsZip dA z TI bu .ellipsis:=s5.extBut _ _ D.TOz.symm (s4.extBut _ _ D.i2z.symm (s3.extBut _ _ D.TOz.symm (s2.extBut _ _ D.i1z.symm fS)));have BN : ∀ c o,c≠z->c≠bu->c≠b0->c≠b4->s.heap.get? c=some o->dA.get? c=some o:=λ c o cc c0 ee eB aU =>
  s5.extBut _ _ c0 (s4.extBut _ _ eB (s3.extBut _ _ c0 (s2.extBut _ _ ee (s1.extBut _ _ cc aU))))
 have Bk:dA.IsTupleIter b0 t1 (k+1):=((qM.extBut s3.extBut D.TOi1.symm).extBut s4.extBut D.i12).extBut s5.extBut D.TOi1.symm;have Bl:dA.IsListIter b4 aT (k+1):=vr.extBut s5.extBut D.TOi2.symm;have i8:z<dA.objs.size:=Heap.lt_size vf;show wpAny _ _ (Builtin.SmallTypes.ownedTupleHandOut (.ref z) (.ref dA.objs.size)>>=_) _ _ _;refine wpAny_bind ?_;unfold Builtin.SmallTypes.ownedTupleHandOut;have BP:IsZip (dA.push { cls:=.type "tuple", data:=.seq #[x,y] }) z TI bu .ellipsis:=Heap.get?_push_of_some _ vf;refine wpAny_bind (wpAny_setField_rec BP (by simp) λ fJ m1 cC=>?_);replace m1:IsZip fJ z TI bu (rawInt dA.objs.size):=m1;refine wpAny_setField_rec m1 (by simp) λ nM me cH=>?_
 replace me:IsZip nM z TI bu (rawInt dA.objs.size):=me;have oz : ∀ c o,c≠z->dA.get? c=some o->nM.get? c=some o:=λ c o cc aU=>cH.extBut _ _ cc (cC.extBut _ _ cc (Heap.get?_push_of_some _ aU))
 have vv:IsPair nM dA.objs.size x y:=cH.extBut _ _ (Nat.ne_of_gt i8) (cC.extBut _ _ (Nat.ne_of_gt i8) (Heap.get?_push_size _ rfl));rw [jU] at me vv;refine wpAny_pure ⟨_,rfl,?_⟩;show Q (.ref dA.objs.size) _;rw [jU];refine q nM me (oz _ _ D.TOz kE) ?_ ?_ vv λ c o cc c0 ee eB aU=>oz c o cc (BN c o cc c0 ee eB aU)
 ·obtain ⟨o,e,r⟩:=Bk;exact ⟨o,oz _ _ D.i1z e,r⟩
 ·obtain ⟨o,e,r⟩:=Bl;exact ⟨o,oz _ _ D.i2z e,r⟩
theorem v9 {z TI bu b0 b4 t1 aT:Addr} {k:Nat} {xs ys:Array Value} {a b:Value} {Q:Fin->Shared->Prop} (hd:A.handled=none) (D:ZipApart z TI bu b0 b4 t1 aT)
  (c1:IsZip s.heap z TI bu .none) (gj:IsPair s.heap TI (.ref b0) (.ref b4)) (hK:IsPair s.heap bu a b)
  (eA:s.heap.IsTupleIter b0 t1 k) (fM:s.heap.IsListIter b4 aT k) (cQ:s.heap.IsTuple t1 xs) (e0:s.heap.IsList aT ys) (nK:xs[k]?=none\/ys[k]?=none)
  (q : ∀ g e,(∀ c o,c≠z->c≠bu->c≠b0->c≠b4->s.heap.get? c=some o->g.get? c=some o)->(∃ o,g.get? e=some o/\o.cls=.type "StopIteration")->E (.ref e) { s with heap:=g }) :
  wpAny (model prog w) A (Builtin.«zip.__next__» ⟨[.ref z],[]⟩) Q E s:=by
 show wpAny _ _ (field (.ref z) 2>>=_) _ _ _;refine wpAny_bind (wpAny_field c1 rfl (x:=.bool false) rfl ?_);show wpAny _ _ (field (.ref z) 3>>=_) _ _ _;refine wpAny_bind (wpAny_field c1 rfl (x:=.ref TI) rfl (wpAny_bind (wpAny_seqItems gj rfl ?_)));show wpAny _ _ (Builtin.SmallTypes.ownedTupleIsFree (.ref z)>>=_) _ _ _;refine wpAny_bind ?_;unfold Builtin.SmallTypes.ownedTupleIsFree;refine wpAny_bind (wpAny_field c1 rfl (x:=.none) rfl (wpAny_pure ?_));simp only [if_true];refine wpAny_bind (wpAny_rule (wpAny_bind (wpAny_field c1 rfl (x:=.ref bu) rfl (wpAny_bind (wpAny_setField_rec c1 (by simp) λ g1 fS s1=>?_)))));replace fS:IsZip g1 z TI bu .ellipsis:=fS;refine wpAny_bind ?_;simp only [List.zipIdx_cons,List.zipIdx_nil,List.forIn_cons,List.forIn_nil];refine wpAny_bind (wpAny_bind (wpAny_onRaise ?_));show wpAny _ _ (Builtin.SmallTypes.nextOf (.ref b0)>>=_) _ _ _;cases ex:xs[k]? with
 | none =>
  refine wpAny_bind (yU (.inl hd) (eA.extBut s1.extBut D.i1z) (cQ.extBut s1.extBut D.l1z) ex λ g2 e s2 ⟨bQ,fQ,coe⟩=>?_);have pH:IsZip g2 z TI bu .ellipsis:=s2 _ _ D.i1z.symm fS;have oj:e≠z:=λ y=>by
   subst y;rw [pH] at fQ;cases fQ;simp at coe
  exact wpAny_setField_rec pH (by simp) λ g3 _ s3=>q g3 e (λ c o cc _ ee _ y=>s3.extBut _ _ cc (s2 _ _ ee (s1.extBut _ _ cc y))) ⟨bQ,s3.extBut _ _ oj fQ,coe⟩
 | some x =>
  have du:ys[k]?=none:=nK.resolve_left (by rw [ex];exact λ y=>nomatch y);refine wpAny_bind (pull (eA.extBut s1.extBut D.i1z) (cQ.extBut s1.extBut D.l1z) ex λ g2 qM s2=>wpAny_pure ?_);have jB:IsPair g2 bu a b:=s2.extBut _ _ D.TOi1 (s1.extBut _ _ D.TOz hK);refine wpAny_bind (wpAny_seqItems jB rfl (wpAny_bind (wpAny_updateSeq_pair jB λ g3 kD s3=>?_)));refine wpAny_bind (wpAny_letGo (wpAny_pure (wpAny_bind (wpAny_bind (wpAny_onRaise ?_)))));show wpAny _ _ (Builtin.SmallTypes.nextOf (.ref b4)>>=_) _ _ _;have od:=((fM.extBut s1.extBut D.i2z).extBut s2.extBut D.i12.symm).extBut s3.extBut D.TOi2.symm;have og:=((e0.extBut s1.extBut D.l2z).extBut s2.extBut D.l2i1).extBut s3.extBut D.l2TO;refine wpAny_bind (wpAny_nextOf_list_end hd od og du λ fY e s4 ⟨bQ,fQ,coe⟩=>?_);have ve:IsZip fY z TI bu .ellipsis:=s4 _ _ D.i2z.symm (s3.extBut _ _ D.TOz.symm (s2.extBut _ _ D.i1z.symm fS));have oj:e≠z:=λ y=>by
   subst y;rw [ve] at fQ;cases fQ;simp at coe
  exact wpAny_setField_rec ve (by simp) λ dA _ s5=>q dA e (λ c o cc c0 ee eB y=>s5.extBut _ _ cc (s4 _ _ eB (s3.extBut _ _ c0 (s2.extBut _ _ ee (s1.extBut _ _ cc y))))) ⟨bQ,s5.extBut _ _ oj fQ,coe⟩
theorem next_item {z TI bu b0 b4 t1 aT:Addr} {k:Nat} {xs ys:Array Value} {x y a b:Value} {Q:Option Value->Shared->Prop} (D:ZipApart z TI bu b0 b4 t1 aT)
  (c1:IsZip s.heap z TI bu .none) (gj:IsPair s.heap TI (.ref b0) (.ref b4)) (hK:IsPair s.heap bu a b)
  (eA:s.heap.IsTupleIter b0 t1 k) (fM:s.heap.IsListIter b4 aT k) (cQ:s.heap.IsTuple t1 xs) (e0:s.heap.IsList aT ys) (ex:xs[k]?=some x) (du:ys[k]?=some y)
  (q : ∀ g,IsZip g z TI bu (rawInt s.heap.objs.size)->IsPair g bu x y->g.IsTupleIter b0 t1 (k+1)->g.IsListIter b4 aT (k+1)->IsPair g s.heap.objs.size x y ->
   (∀ c o,c≠z->c≠bu->c≠b0->c≠b4->s.heap.get? c=some o->g.get? c=some o)->Q (some (.ref s.heap.objs.size)) { s with heap:=g }):wpAny (model prog w) A (pyNext (.ref z)) Q E s:=by
 have ty:s.TypeIs (.ref z) "zip" := ⟨_,c1,rfl⟩
 unfold pyNext;refine wpAny_bind (wpAny_attempt (wpAny_callSpecial?_slot (name:=Str.ofString "__next__") ty F.slot_zip_next (wpAny_call_entry F.slot_zip_next ty F.entry_zip_next ?_ (F.args_zip_next_1 _))));exact v8 D c1 gj hK eA fM cQ e0 ex du λ g dP dQ eM ek dt gc=>wpAny_pure (q g dP dQ eM ek dt gc)
theorem wc {z TI bu b0 b4 t1 aT:Addr} {k:Nat} {xs ys:Array Value} {a b:Value} {Q:Option Value->Shared->Prop} (hd:A.handled=none) (D:ZipApart z TI bu b0 b4 t1 aT)
  (c1:IsZip s.heap z TI bu .none) (gj:IsPair s.heap TI (.ref b0) (.ref b4)) (hK:IsPair s.heap bu a b)
  (eA:s.heap.IsTupleIter b0 t1 k) (fM:s.heap.IsListIter b4 aT k) (cQ:s.heap.IsTuple t1 xs) (e0:s.heap.IsList aT ys) (nK:xs[k]?=none\/ys[k]?=none)
  (q : ∀ g,(∀ c o,c≠z->c≠bu->c≠b0->c≠b4->s.heap.get? c=some o->g.get? c=some o)->Q none { s with heap:=g }):wpAny (model prog w) A (pyNext (.ref z)) Q E s:=by
 have ty:s.TypeIs (.ref z) "zip" := ⟨_,c1,rfl⟩
 unfold pyNext;refine wpAny_bind (wpAny_attempt (wpAny_callSpecial?_slot (name:=Str.ofString "__next__") ty F.slot_zip_next (wpAny_call_entry F.slot_zip_next ty F.entry_zip_next ?_ (F.args_zip_next_1 _))));refine v9 hd D c1 gj hK eA fM cQ e0 nK λ g e up ⟨bQ,fQ,coe⟩=>?_
 exact wpAny_bind (wpAny_isInstance (T := "StopIteration") (b:=true) ⟨bQ,fQ,coe⟩ isSubtype_stop (wpAny_pure (q _ up)))
end
abbrev mb (h:Heap) (t1:Addr):Heap:=h.push { cls:=.type "tuple_iterator", data:=.fields #[.ref t1,.int 0 0] }
abbrev oh (h:Heap) (t1 aT:Addr):Heap:=(mb h t1).push { cls:=.type "list_iterator", data:=.fields #[.ref aT,.int 0 0] }
abbrev j3 (h:Heap) (t1 aT:Addr):Heap:=(oh h t1 aT).push { cls:=.type "tuple", data:=.seq #[.ref h.objs.size,.ref (mb h t1).objs.size] }
abbrev j4 (h:Heap) (t1 aT:Addr):Heap:=(j3 h t1 aT).push { cls:=.type "tuple", data:=.seq #[.none,.none] }
abbrev h_ (h:Heap) (t1 aT:Addr):Heap:=(j4 h t1 aT).push { cls:=.type "zip", data:=.fields #[.none,.bool false,.bool false,.ref (oh h t1 aT).objs.size,.ref (j3 h t1 aT).objs.size] }
theorem wb (t1 aT:Addr) (xs ys:Array Value):Meets (Builtin.«zip.__new__» ⟨[.type "zip", .ref t1,.ref aT],[]⟩) (λ _ R s=>s.heap.IsTuple t1 xs/\s.heap.IsList aT ys/\R (.ok (.ret (.ref (j4 s.heap t1 aT).objs.size))) { s with heap:=h_ s.heap t1 aT }) :=
 .of_wp λ prog w A R s h=>by
  obtain ⟨bU,nO,dd,tt,nU⟩:=s;obtain ⟨a1,a2,h⟩:=h;have sub:=sub_zip;have dP:Heap.IsTuple (Shared.heap ⟨bU,nO,dd,tt,nU⟩) t1 xs:=a1;have dQ:Heap.IsList (Shared.heap ⟨mb bU t1,nO,dd,tt,nU⟩) aT ys:=Heap.IsList.push a2 _
  wp_walk using wpAny_pyIter_tuple dP,wpAny_pyIter_list dQ
  exact ⟨_,rfl,h⟩
section
variable {prog:Program} {w:World} {A:Around} {E:Value->Shared->Prop} {s:Shared}
theorem make {t1 aT:Addr} {xs ys:Array Value} {Q:Value->Shared->Prop} (a1:s.heap.IsTuple t1 xs) (a2:s.heap.IsList aT ys)
  (q : ∀ g,IsZip g (s.heap.objs.size+4) (s.heap.objs.size+2) (s.heap.objs.size+3) .none->IsPair g (s.heap.objs.size+2) (.ref s.heap.objs.size) (.ref (s.heap.objs.size+1))->IsPair g (s.heap.objs.size+3) .none .none ->
   g.IsTupleIter s.heap.objs.size t1 0->g.IsListIter (s.heap.objs.size+1) aT 0->(∀ c o,s.heap.get? c=some o->g.get? c=some o)->Q (.ref (s.heap.objs.size+4)) { s with heap:=g }) :
  wpAny (model prog w) A (call (.type "zip") [.ref t1,.ref aT]) Q E s:=by
 refine callType_new F.called_zip (by decide) (F.typeCall_zip_2 _ _) (F.newCall_zip_2 _ _) (λ obj=>F.args_object_init_3 obj _ _) F.entry_zip_new (wb t1 aT xs ys) ⟨a1,a2,?_⟩;have cc:(mb s.heap t1).objs.size=s.heap.objs.size+1:=Heap.size_push ..;have c0:(oh s.heap t1 aT).objs.size=s.heap.objs.size+2:=by rw [Heap.size_push,cc]
 have ee:(j3 s.heap t1 aT).objs.size=s.heap.objs.size+3:=by rw [Heap.size_push,c0]
 have eB:(j4 s.heap t1 aT).objs.size=s.heap.objs.size+4:=by rw [Heap.size_push,ee]
 have lp:(h_ s.heap t1 aT).get? (j4 s.heap t1 aT).objs.size=some _:=Heap.get?_push_size _ rfl;have nW:(h_ s.heap t1 aT).get? (j3 s.heap t1 aT).objs.size=some _:=Heap.get?_push_of_some _ (Heap.get?_push_size _ rfl);have jQ:(h_ s.heap t1 aT).get? (oh s.heap t1 aT).objs.size=some _:=Heap.get?_push_of_some _ (Heap.get?_push_of_some _ (Heap.get?_push_size _ rfl));have gh:(h_ s.heap t1 aT).get? (mb s.heap t1).objs.size=some _:=Heap.get?_push_of_some _ (Heap.get?_push_of_some _ (Heap.get?_push_of_some _ (Heap.get?_push_size _ rfl)));have e2:(h_ s.heap t1 aT).get? s.heap.objs.size=some _:=Heap.get?_push_of_some _ (Heap.get?_push_of_some _ (Heap.get?_push_of_some _ (Heap.get?_push_of_some _ (Heap.get?_push_size _ rfl))));show _/\_;rw [c0,ee,eB] at lp;rw [cc,c0] at jQ;rw [ee] at nW;rw [cc] at gh;rw [eB];exact ⟨⟨_,lp,rfl⟩,q _ lp jQ nW ⟨_,e2,rfl,rfl⟩ ⟨_,gh,rfl,rfl⟩ λ c o y=>Heap.get?_push_of_some _ (Heap.get?_push_of_some _ (Heap.get?_push_of_some _ (Heap.get?_push_of_some _ (Heap.get?_push_of_some _ y))))⟩
end
end wG
namespace bI
open PySem PySem.Spec PyProof.Rows
def Itm (K:PySem.W.Frag) (a b:Addr):g4 :=
 ⟨λ i H => ∃ xs ys x y,aR K H a xs/\a3 K H b ys/\xs[i]?=some x/\ys[i]?=some y,
 λ i H v H' => ∃ p,H p=none/\v=.ref p /\ ∃ x y,H'=upd H p (.tup [x,y]) /\ ∀ xs ys,aR K H a xs->a3 K H b ys->xs[i]?=some x/\ys[i]?=some y,
 λ i H => ∃ xs ys,aR K H a xs/\a3 K H b ys/\(xs.length<=i\/ys.length<=i)⟩
theorem YF {c:Bool} (cY:c=true) {P:Program} {w:World} {K:PySem.W.Frag} {bb:Expr} (fR:kV bb=true) {z TI bu b0 b4 a b:Addr} (D:ZipApart z TI bu b0 b4 a b) :
  Turn P w K c bb (Itm K a b) [z,bu,b0,b4,TI] z (λ i h=>IsZip h z TI bu .none/\IsPair h TI (.ref b0) (.ref b4)/\(∃ u v,IsPair h bu u v)/\h.IsTupleIter b0 a i/\h.IsListIter b4 b i) where
 mem:=List.mem_cons_self
 obj:=λ i h st c aj=>by
  obtain ⟨af,ai,⟨u,v,aF⟩,⟨g9,aX,_,jg⟩,⟨iX,bT,_,eQ⟩⟩:=st;have hQ : ∀ {o:Obj} {vs:Array Value},o.data=.fields vs -> ∀ v,o.data≠.cell v:=λ e v q=>by rw [e] at q;cases q
  have mc : ∀ {o:Obj} {vs:Array Value} {n:Nat},o.data=.seq vs n -> ∀ v,o.data≠.cell v:=λ e v q=>by rw [e] at q;cases q
  simp only [List.mem_cons,List.not_mem_nil,or_false] at aj;rcases aj with rfl | rfl | rfl | rfl | rfl
  ·exact ⟨_,af,hQ rfl⟩
  ·exact ⟨_,aF,mc rfl⟩
  ·exact ⟨_,aX,hQ jg⟩
  ·exact ⟨_,bT,hQ eQ⟩
  ·exact ⟨_,ai,mc rfl⟩
 keep:=λ i h h' st k=>by
  obtain ⟨af,ai,⟨u,v,aF⟩,⟨g9,aX,hG⟩,⟨iX,bT,lY⟩⟩:=st;exact ⟨k _ (by simp) _ af,k _ (by simp) _ ai,⟨u,v,k _ (by simp) _ aF⟩,⟨g9,k _ (by simp) _ aX,hG⟩,⟨iX,k _ (by simp) _ bT,lY⟩⟩
 item:=by
  intro X c4 hw dH iC aj i pins s σ H E I hf st aI;subst c4 hw dH;obtain ⟨af,ai,⟨u,v,aF⟩,aX,bT⟩:=st;obtain ⟨xs,ys,x,y,cG,dv,ak,aN⟩:=aI;obtain ⟨its,bR,dJ,_⟩:=I.tuple cG;obtain ⟨gS,eE,u6,_⟩:=I.list dv;have fN:=u6.isList;obtain ⟨hb,n2,oo⟩:=bR.get ak;obtain ⟨hI,qq,qT⟩:=eE.get aN;refine wG.next_item D af ai aF aX bT (show s.heap.IsTuple a its.toArray from dJ) (show s.heap.IsList b gS.toArray from fN) (x:=hb) (y:=hI) (by simpa using n2) (by simpa using qq) λ g dP dQ eM ek dt gc=>?_
  refine ⟨_,rfl,?_⟩;have i8:z<s.heap.objs.size:=Heap.lt_size af;cases bb with
  | Tuple ao fb pp =>
   refine wpAny_letOwnedTupleGo_zip dP λ g' hB cR=>?_
   have new:IsPair g' s.heap.objs.size hb hI:=cR.extBut _ _ (Nat.ne_of_gt i8) dt;have aE:Inv X pins σ (upd H s.heap.objs.size (.tup [x,y])) { s with heap:=g' }:=by
    refine I.we (t':=s.toks) (L:=[z,bu,b0,b4,TI]) (λ c o cL e=>?_) hf (Nat.le_refl _) ⟨by show 2<=sizeLine;decide,[hb,hI],.cons oo (.cons qT .nil),⟨_,new,rfl,⟨0,rfl⟩,rfl⟩⟩;simp only [List.mem_cons,List.not_mem_nil,or_false,not_or] at cL;exact cR.extBut c o cL.1 (gc c o cL.1 cL.2.1 cL.2.2.1 cL.2.2.2.1 e)
   have qu:IsPair g' TI (.ref b0) (.ref b4):=cR.extBut _ _ D.TIz (gc _ _ D.TIz D.TITO D.TIi1 D.TIi2 ai);refine ⟨.ref s.heap.objs.size,_,aE,rfl,⟨_,I.fresh,rfl,x,y,rfl,λ xR kC a7 bV=>⟨by rw [I.ru a7 cG];exact ak,by rw [I.JZ bV dv];exact aN⟩⟩,⟨hB,qu,⟨_,_,cR.extBut _ _ D.TOz dQ⟩,eM.extBut cR.extBut D.i1z,ek.extBut cR.extBut D.i2z⟩,λ c cY=>?_⟩;obtain ⟨o,en,_⟩ : ∃ o,s.heap.get? c=some o/\True:=by
    simp only [List.mem_cons,List.not_mem_nil,or_false] at cY;rcases cY with rfl | rfl | rfl | rfl | rfl
    ·exact ⟨_,af,trivial⟩
    ·exact ⟨_,aF,trivial⟩
    ·obtain ⟨g9,fY,_⟩:=aX;exact ⟨_,fY,trivial⟩
    ·obtain ⟨iX,dA,_⟩:=bT;exact ⟨_,dA,trivial⟩
    ·exact ⟨_,ai,trivial⟩
   rw [a8 (Nat.ne_of_lt (Heap.lt_size en))];exact (hf c cY).1
  | _=>exact absurd (show false=true from fR) Bool.false_ne_true
 done:=by
  intro X c4 hw dH iC aj i pins s σ H E I hf st aI;subst c4 hw dH;obtain ⟨af,ai,⟨u,v,aF⟩,aX,bT⟩:=st;obtain ⟨xs,ys,cG,dv,au⟩:=aI;obtain ⟨its,bR,dJ,_⟩:=I.tuple cG;obtain ⟨gS,eE,u6,_⟩:=I.list dv;have fN:=u6.isList;have aO:=bR.length;have aQ:=eE.length;refine wG.wc (I.ok.hd.1 (iC.trans cY)) D af ai aF aX bT (show s.heap.IsTuple a its.toArray from dJ) (show s.heap.IsList b gS.toArray from fN) ?_ λ g up=>⟨rfl,?_⟩
  ·rcases au with au | au
   ·exact .inl (by simp;omega)
   ·exact .inr (by simp;omega)
  ·refine I.vV (t':=s.toks) (L:=[z,bu,b0,b4,TI]) (λ c o cL e=>?_) hf;simp only [List.mem_cons,List.not_mem_nil,or_false,not_or] at cL;exact up c o cL.1 cL.2.1 cL.2.2.1 cL.2.2.2.1 e
 self:=λ _ _ _ _ _ st h=>wpAny_pyIter_zip st.1 h
section
variable {X:aP} {bb:Expr}
def Ip (K:PySem.W.Frag) (aZ:c3):TI:=λ σ H R=>aZ σ H λ vs H1 => ∃ a b,vs=[.ref a,.ref b]/\(∃ xs,aR K H1 a xs)/\(∃ ys,a3 K H1 b ys)/\R (Itm K a b) H1
theorem UQ {aO aQ:Expr} {aZ:c3} {p pos:Pos} (fR:kV bb=true) (aI:dy X "zip") (hm:X.mg "zip" = none) (aw:hA X [aO,aQ] aZ) (az:starEach [aO,aQ] X.env=[(false,eval aO X.env),(false,eval aQ X.env)]:=by rfl) (e5:starEach [aQ] X.env=[(false,eval aQ X.env)]:=by rfl)
  (J:bootBuiltins "zip" = some (.type "zip"):=by decide +kernel) (cY:X.calm=true:=by rfl):k4 X bb (.Call (.Name "zip" p) [aO,aQ] [] pos) (Ip X.K aZ):=by
 intro pins s σ H R I h;refine Call_ (mr I aI hm J (PyProof.Rows.callWith_type1 (bj (aw pos pins s σ H _ I h) λ us s1 ⟨vs,H1,aE,bq,a7⟩=>?_) (by rw [az,e5]) (by rw [e5];rfl)));obtain ⟨a,b,e,⟨xs,cG⟩,⟨ys,dv⟩,q⟩:=a7;subst e;obtain ⟨gi,kl,rfl,lZ,qg⟩:=vals2 bq;cases lZ;cases qg;obtain ⟨its,bR,dJ,_⟩:=aE.tuple cG;obtain ⟨gS,eE,u6,_⟩:=aE.list dv;have fN:=u6.isList;have nQ:a<s1.heap.objs.size:=by obtain ⟨o,e,_⟩:=dJ;exact Heap.lt_size e
 have nR:b<s1.heap.objs.size:=by obtain ⟨o,e,_⟩:=fN;exact Heap.lt_size e
 refine wG.make (show s1.heap.IsTuple a its.toArray from dJ) (show s1.heap.IsList b gS.toArray from fN) λ g fs e4 iZ qi qj up=>?_
 refine wpAny_pyIter_zip fs ?_;have bS:Inv X pins σ H1 { s1 with heap:=g }:=aE.kept (t':=s1.toks) up;refine ⟨_,[s1.heap.objs.size+4,s1.heap.objs.size+3,s1.heap.objs.size,s1.heap.objs.size+1,s1.heap.objs.size+2],_,_,H1,rfl,bS,YF cY fR (apart_new nQ nR),⟨fs,e4,⟨_,_,iZ⟩,qi,qj⟩,λ c aj=>?_,q⟩;have big:s1.heap.objs.size<=c:=by
  simp only [List.mem_cons,List.not_mem_nil,or_false] at aj;rcases aj with rfl | rfl | rfl | rfl | rfl
  ·exact Nat.le_add_right _ _
  ·exact Nat.le_add_right _ _
  ·exact Nat.le_refl _
  ·exact Nat.le_add_right _ _
  ·exact Nat.le_add_right _ _
 exact aE.mi big (aE.a6.fresh big)
end
theorem VW {K:PySem.W.Frag} {a b:Addr} {xs ys:List V} {g:eG} {bk:dr} {D:Ends} {σ:St} {H:ah} (Pv:Nat->St->ah->Prop) (h0:Pv 0 σ H) (au : ∀ i σ H,i<=min xs.length ys.length->Pv i σ H->aR K H a xs/\a3 K H b ys)
  (az : ∀ i x y p σ H,xs[i]?=some x->ys[i]?=some y->H p=none->Pv i σ H->g (.ref p) σ (upd H p (.tup [x,y])) λ σ2 ar=>bk { D with bF:=Pv (i+1),cu:=Pv (i+1),aY:=D.bF } σ2 ar) (hd : ∀ σ H,Pv (min xs.length ys.length) σ H->D.bF σ H) :
  ∃ W:Nat->Nat->St->ah->Prop,(∃ m,W 0 m σ H) /\ ∀ i m σ H,W i m σ H ->
   ((Itm K a b).stop i H/\D.bF σ H)\/((Itm K a b).go i H /\ ∃ N:St->ah->Prop,(∀ σ' H',N σ' H' -> ∃ cJ,cJ<m/\W (i+1) cJ σ' H') /\ ∀ x H',(Itm K a b).j5 i H x H'->g x σ H' λ σ2 ar=>bk { D with bF:=N,cu:=N,aY:=D.bF } σ2 ar):=by
 refine ⟨λ i m σ H=>m=min xs.length ys.length - i/\i<=min xs.length ys.length/\Pv i σ H,⟨_,rfl,Nat.zero_le _,h0⟩,?_⟩;rintro i m σ H ⟨rfl,ay,p⟩;obtain ⟨cG,dv⟩:=au i σ H ay p;by_cases dE:i<min xs.length ys.length
 ·have af:i<xs.length:=by omega
  have ai:i<ys.length:=by omega
  refine .inr ⟨⟨xs,ys,xs[i],ys[i],cG,dv,by simp [af],by simp [ai]⟩,Pv (i+1),λ σ' H' hD=>⟨min xs.length ys.length - (i+1),by omega,rfl,dE,hD⟩,λ v H' jl=>?_⟩;obtain ⟨q,aS,rfl,x,y,rfl,i6⟩:=jl;obtain ⟨ex,du⟩:=i6 xs ys cG dv;exact az i x y q σ H ex du aS p
 ·have e:i=min xs.length ys.length:=by omega
  refine .inl ⟨⟨xs,ys,cG,dv,by omega⟩,hd σ H (e ▸ p)⟩
theorem U9 {X:aP} {bb:Expr} {aO aQ:Expr} {aZ:c3} {p pos:Pos} (fR:kV bb=true) (aI:dy X "zip") (hm:X.mg "zip" = none) (aw:eZ X [aO,aQ] aZ) (az:starEach [aO,aQ] X.env=[(false,eval aO X.env),(false,eval aQ X.env)]:=by rfl) (e5:starEach [aQ] X.env=[(false,eval aQ X.env)]:=by rfl)
  (J:bootBuiltins "zip" = some (.type "zip"):=by decide +kernel) (cY:X.calm=true:=by rfl):jL X bb (.Call (.Name "zip" p) [aO,aQ] [] pos) (Ip X.K aZ):=⟨UQ fR aI hm aw.o az e5 J cY⟩
open PySem PySem.Spec PyProof.Rows cy
section
variable {X:aP}
def It:V->V->ah->bz->Prop:=λ x y H Q => ∃ p xs i v,x=.ref p/\y=.int i/\H p=some (.lst xs)/\0<=i/\xs[i.toNat]?=some v/\Q v H
theorem VY:HA X It:=by
 intro pins s σ H x y de dY Q I a5 br h;obtain ⟨p,xs,i,z,rfl,rfl,aS,h0,he,q⟩:=h;cases a5;obtain ⟨t,rfl⟩:=br;obtain ⟨its,r,pl,a9⟩:=I.list (a3.of aS);obtain ⟨w,o7,eE⟩:=r.get he;have au:=r.length;have aD:=sP;have ay:i.toNat<xs.length:=(List.getElem?_eq_some_iff.mp he).1;exact wpAny_getItem_list pl.isList h0 (by omega) (by simpa using o7) ⟨z,H,I,eE,q⟩
theorem U_ {o i e:Expr} {to gy bh:TE} {ye pos:Pos} (aG:bC X o to) (ay:bC X i gy) (he:bC X e bh)
  (aw : ∀ de dY new,augStore i de dY new=(do holding [new,de,dY] (setItem de dY new);release [new,de,dY] [];pure .next):=by intros;rfl):gJ X (.AugAssign (.Subscript o i ye) .Add e pos) (Iw to gy bh It (GW λ i j=>i+j) Iu):=⟨UU aG.o ay.o VY he.o S7 set_list aw⟩
end
end bI
namespace fz
abbrev i7 (x y:Int):Int:=x - y
abbrev ia (x y:Int):Int:=if y<x then y else x
theorem Cn : ∀ (s t:List Int),(List.zipWith i7 s (List.zipWith ia s t)).map Int.toNat=ups (List.zipWith i7 s t)
 | [],_=>rfl
 | _::_,[]=>rfl
 | x::s,y::t=>by
  show (x - ia x y).toNat::(List.zipWith i7 s (List.zipWith ia s t)).map Int.toNat=(x - y).toNat::ups (List.zipWith i7 s t);rw [Cn s t];congr 1;unfold ia;split<;>omega
theorem Co : ∀ (s t:List Int),(List.zipWith i7 t (List.zipWith ia s t)).map Int.toNat=downs (List.zipWith i7 s t)
 | [],[]=>rfl
 | [],_::_=>rfl
 | _::_,[]=>rfl
 | x::s,y::t=>by
  show (y - ia x y).toNat::(List.zipWith i7 t (List.zipWith ia s t)).map Int.toNat=(-(x - y)).toNat::downs (List.zipWith i7 s t);rw [Co s t];congr 1;unfold ia;split<;>omega
theorem JH : ∀ (s t:List Int),(∀ e∈t,0<=e)->(ups (List.zipWith i7 s t)).sum<=(ups s).sum
 | [],_,_=>by simp [ups]
 | _::_,[],_=>by simp [ups]
 | x::s,y::t,h=>by
  have af:=h y List.mem_cons_self;have ai:=JH s t λ e he=>h e (List.mem_cons_of_mem _ he)
  show ((x - y).toNat::ups (List.zipWith i7 s t)).sum<=(x.toNat::ups s).sum;rw [List.sum_cons,List.sum_cons];omega
theorem KG : ∀ (s t:List Int),(∀ e∈s,0<=e)->(downs (List.zipWith i7 s t)).sum<=(ups t).sum
 | [],_,_=>by simp [downs]
 | _::_,[],_=>by simp [downs]
 | x::s,y::t,h=>by
  have af:=h x List.mem_cons_self;have ai:=KG s t λ e he=>h e (List.mem_cons_of_mem _ he)
  show ((-(x - y)).toNat::downs (List.zipWith i7 s t)).sum<=(y.toNat::ups t).sum;rw [List.sum_cons,List.sum_cons];omega
theorem Jr : ∀ {l:List Nat} {x:Nat},x∈l->x<=l.sum
 | [],_,h=>by cases h
 | y::r,x,h=>by
  rw [List.sum_cons];rcases List.mem_cons.mp h with z | z
  ·omega
  ·have:=Jr z;omega
theorem S4 {s t:List Int} {e:Int} (h:e∈List.zipWith i7 s (List.zipWith ia s t)):0<=e:=by
 obtain ⟨k,aB⟩:=List.getElem?_of_mem h;rw [List.getElem?_zipWith_eq_some] at aB;obtain ⟨x,m,ak,hm,rfl⟩:=aB;rw [List.getElem?_zipWith_eq_some] at hm;obtain ⟨e3,y,dj,aN,rfl⟩:=hm;rw [ak] at dj;cases dj;show 0<=x - ia x y;unfold ia;split<;>omega
theorem S5 {s t:List Int} {e:Int} (h:e∈List.zipWith i7 t (List.zipWith ia s t)):0<=e:=by
 obtain ⟨k,aB⟩:=List.getElem?_of_mem h;rw [List.getElem?_zipWith_eq_some] at aB;obtain ⟨y,m,aN,hm,rfl⟩:=aB;rw [List.getElem?_zipWith_eq_some] at hm;obtain ⟨x,hg,ak,eh,rfl⟩:=hm;rw [aN] at eh;cases eh;show 0<=y - ia x y;unfold ia;split<;>omega
theorem IE {l:List Int} {n:Nat} (h0 : ∀ e∈l,0<=e) (h:(l.map Int.toNat).sum<=n) (aD:n<=1000) : ∀ e∈l,0<=e/\e<2 ^ 62:=λ e he=>by
 have:=Jr (List.mem_map_of_mem (f:=Int.toNat) he);have:=h0 e he;omega
end fz
namespace cy
open PySem bI fz
theorem EA {K:PySem.W.Frag} {a b D:Addr} {js:List (Option Nat)} {bh:TE} {σ:St} {H1:ah} {Q:bz} {xs ys:List Int} {σ0:St} {f:Int->Int->Int} (aD:min xs.length ys.length<=sizeLine) (ax : ∃ u v,pick js σ=u::v::σ0) (a4:H1 D=none)
  (aw:H1 a=some (.lst (xs.map V.int))) (J:H1 b=some (.lst (ys.map V.int)))
  (az : ∀ (x y:Int) (H':ah) (R:bz),x∈xs->y∈ys->R (.int (f x y)) H'->bh (some (.int x)::some (.int y)::σ0) H' R)
  (q : ∀ H',aC H1 H'->H' D=some (.lst ((List.zipWith f xs ys).map V.int))->Q (.ref D) H'):iI (xV a b) D js (sC K 2 (pP (gW 0) (pP (gW 1) vh))) kc bh σ H1 Q:=by
 obtain ⟨l1,v0,ax⟩:=ax;refine KC (a:=a) (b:=b) (xs:=xs.map V.int) (ys:=ys.map V.int) (by rw [List.length_map,List.length_map];exact aD) (λ i σ' H' zs=>(∃ u v:Option V,σ'=u::v::σ0)/\aC H1 H'/\zs=((List.zipWith f xs ys).take i).map V.int) ⟨⟨l1,v0,ax⟩,aC.new a4,rfl⟩ (λ i σ' H' zs _ ⟨_,s',_⟩=>⟨s' _ _ aw,s' _ _ J⟩) ?_ ?_
 ·rintro i x y p σ' H' zs R ak aN ax c2 hn ⟨⟨u,v,rfl⟩,s',rfl⟩ fb;obtain ⟨x,rfl,dj⟩:=kd ak;obtain ⟨y,rfl,eh⟩:=kd aN;refine ⟨p,_,rfl,aR.of bA,rfl,_,_,rfl,_,_,rfl,rfl,?_⟩;refine az x y _ _ (List.mem_of_getElem? dj) (List.mem_of_getElem? eh) (fb _ _ _ ?_ ⟨⟨_,_,rfl⟩,?_,?_⟩)
  ·rw [a8 (cj c2 ax)];exact c2
  ·intro c o e;rw [a8 (cj e a4),a8 (cj (s' c o e) ax)];exact s' c o e
  ·rw [L0 dj eh,List.map_append];rfl
 ·rintro σ' H' zs c2 hn ⟨_,s',rfl⟩;refine q H' s' ?_;rw [c2,List.length_map,List.length_map,List.take_of_length_le (by rw [List.length_zipWith];exact Nat.le_refl _)]
def Hy (a l:Addr) (H H':ah):Prop := ∀ c o,c≠a->c≠l->H c=some o->H' c=some o
end cy
namespace bI
open PySem PySem.Spec PyProof.Rows
theorem UX {X:aP} {elt bb iter:Expr} {cs:List Expr} {scope:Scope} {d4 pos pos':Pos} {cl:List (Str×Addr)} {N:List Str} {js:List (Option Nat)} {fq:TI} {g:eG} {c_:TT} {bh:TE} {dY:Nat} {x0:Str}
  (AD:X.N.Nodup) (AY:X.N[dY]?=some x0) (Bh:Loc X.env.scope x0)
  (C:sN X scope cl N js) (aj:X.warm=true) (ay:k4 X bb iter fq)
  (aI : ∀ bo pins s H,nF (e8 X scope cl N bo pins s H λ _ _=>False) bb g)
  (aW : ∀ bo pins s H,ue (e8 X scope cl N bo pins s H λ _ _=>False) cs c_)
  (he : ∀ bo pins s H,b9 (e8 X scope cl N bo pins s H λ _ _=>False) elt bh)
  (Bb:swapsWith (.ListComp elt [⟨bb,iter,cs,0⟩] scope d4) (some (.Name x0 pos')) pos.line X.env=pure true)
  (az : ∀ x,foldedSetIterable iter X.env x=pure x:=by intro _;rfl) (qB:X.fn x0=true\/X.env.scope.names.lookup x0=some .local:=by first | exact .inl rfl | exact .inr rfl | assumption):jK X (.Assign [.Name x0 pos'] (.ListComp elt [⟨bb,iter,cs,0⟩] scope d4) pos) (pM (yq js fq g c_ bh) (gW dY)):=by
 intro pins s σ H rB I h;rw [exec_Assign_Name_used _ _ _ _ Bb];refine wpAny_bind (wpAny_standAt (wpAny_bind ?_));show wpAny _ X.A (do let _ ← comprehension (.ListComp elt [⟨bb,iter,cs,0⟩] scope d4) scope X.env _ (newList []) false (eval iter X.env) (some (assign (.Name x0 pos') X.env))) _ _ s;refine wpAny_bind (wpAny_mono (wpAny_comprehension_free (use:=some (assign (.Name x0 pos') X.env)) (Q:=λ _ s'=>g5 X pins rB .next s') rfl az C.sA C.kind C.names (bj (ay pins s σ H _ I h) λ NM s1 af=>bj af λ xB s2 ai=>?_)) (λ _ s' aS=>wpAny_pure (wpAny_pure aS)) λ _ _ e=>e);obtain ⟨it,bo,gN,b1,ar,e,bS,T,ov,f2,ai⟩:=ai;subst e;obtain ⟨W,⟨m0,h2⟩,turn⟩:=ai s2.heap.objs.size bS.fresh;refine wpAny_newObj_type (wpAny_newFunctionEnv C.IP (by intro y aN;simp at aN) (λ aX qR qU=>?_) C.kind);have b_:Inv X pins σ (upd ar s2.heap.objs.size (.lst [])) { s2 with heap:=s2.heap.push { cls:=.type "list", data:=.seq ([]:List Value).toArray } }:=bS.x8 (t':=s2.toks) (its:=[]) .nil (Nat.zero_le _);dsimp only at qR qU ⊢;generalize el:({ s2 with heap:=s2.heap.push { cls:=.type "list", data:=.seq ([]:List Value).toArray } }:Shared)=s3 at b_;have qp:s2.heap.push { cls:=.type "list", data:=.seq ([]:List Value).toArray }=s3.heap:=by rw [<-el]
 have NZ:s2.gens=s3.gens:=by rw [<-el]
 have N0:s2.os=s3.os:=by rw [<-el]
 rw [qp] at qR qU ⊢;generalize k8:upd ar s2.heap.objs.size (.lst [])=aK at b_ h2;have a4:s2.heap.objs.size<s3.heap.objs.size:=by rw [<-qp,Heap.size_push];exact Nat.lt_succ_self _
 have vc : ∀ b o,s2.heap.get? b=some o->s3.heap.get? b=some o:=λ b o q=>by rw [<-qp];exact Heap.get?_push_of_some _ q
 have kB : ∀ b o,s3.heap.get? b=some o->aX.get? b=some o:=λ b o q=>qU.extBut b o (Nat.ne_of_lt (Heap.lt_size q)) (Heap.get?_push_of_some _ q)
 have um : ∀ b∈bo,b<s3.heap.objs.size:=λ b J=>by
  obtain ⟨o,en,_⟩:=T.obj 0 _ ov b J;exact Heap.lt_size (vc b o en)
 have fst : ∀ b∈bo,b∉ff X.stack:=λ b J z=>by
  rcases List.mem_cons.mp (b_.oO b z) with q | q
  ·exact (f2 b J).2.1 q
  ·exact (f2 b J).2.2.1 q
 have BC:(e8 X scope cl N bo pins s3 aK λ _ _=>False).Ok:=by
  refine ⟨I.ok.mod,C.kind,I.ok.glob,I.ok.blt,Nat.le_refl _,λ x y c a7 bV=>I.ok.inj x y c (C.sub _ _ a7) (C.sub _ _ bV),C.has,λ x c z=>absurd z Bool.false_ne_true,⟨I.ok.hd.1,λ hw=>b_.AM hw λ b J=>(f2 b J).2.2.2.1⟩,I.ok.frames,.inl rfl,λ b J=>⟨Nat.ne_of_lt (um b J),λ x c q=>(f2 b J).2.2.2.2.1 x c (C.sub _ _ q)⟩,
   b_.bs,Nat.le_trans I.ok.h6 b_.jU,λ b o q J=>?_,fst,b_.stack,b_.sZ⟩
  rcases (f2 b J).2.2.2.1 with z | z
  ·exact I.ok.mj b o q z
  ·exact absurd (Nat.lt_of_lt_of_le (Heap.lt_size q) (Nat.le_trans I.ok.h6 z)) (Nat.lt_irrefl _)
 have cV:Inv (e8 X scope cl N bo pins s3 aK λ _ _=>False) [] (pick js σ) aK { s3 with heap:=aX,toks:=s3.toks+([]:List (Str×Value)).length }:=by
  refine ⟨BC,rfl,b_.bare,fk.kept kB,⟨_,qR,λ i x v a7 bV ea=>?_⟩,λ x c q=>?_,b_.a6.fresh (Nat.le_refl _),λ x c q=>b_.gV x c (C.sub _ _ q),λ p ax=>?_,b_.a6.kept kB,?_⟩
  ·obtain ⟨j,k1,k2⟩:=J5 bV;obtain ⟨fs,e4,iZ⟩:=C.seen i j x a7 k1;obtain ⟨m,aD,au⟩:=b_.loc;obtain ⟨u,eI,lk⟩:=au j x v fs k2 (.inr (.inl e4));refine ⟨u,eI,.inr ⟨iZ,?_⟩⟩;rcases lk with ⟨k,_⟩ | ⟨_,c,dX,e1,mR,qy⟩
   ·have fa:X.env.scope.names.lookup x=some .local:=k;rw [e4] at fa;cases fa
   ·obtain ⟨cN,uj⟩:=C.has x iZ;have:=C.sub _ _ uj;rw [dX] at this;cases this;exact ⟨c,uj,e1,kB _ _ mR,qy⟩
  ·obtain ⟨v,e1,mR,qy⟩:=b_.cell x c (C.sub _ _ q);exact ⟨v,e1,kB _ _ mR,qy⟩
  ·have mS:p∈X.jR++pins:=by simpa using ax
   obtain ⟨a7,bV,ea,jS,nX⟩:=b_.pin p mS;refine ⟨kB _ _ a7,bV,Nat.ne_of_lt (Heap.lt_size a7),λ z=>?_,nX⟩;rcases List.mem_cons.mp (b_.oO _ z) with q | q
   ·exact ea q
   ·exact jS q
  ·show (pick js σ).length=N.length;unfold pick;rw [List.length_map,C.len]
 have stat : ∀ {H':ah},(∀ b∈bo,H' b=none) -> ∀ b∈bo,mh (e8 X scope cl N bo pins s3 aK λ _ _=>False) [] H' b:=λ aD b J =>
  ⟨aD b J,Nat.ne_of_lt (um b J),fst b J,.inl J,λ x c q=>(f2 b J).2.2.2.2.1 x c (C.sub _ _ q),λ p ax=>(f2 b J).2.2.2.2.2 p (by simpa using ax)⟩
 have vb:gN 0 aX:=T.keep 0 _ _ ov λ b J o q=>kB b o (vc b o q)
 have bF : ∀ e s',(e8 X scope cl N bo pins s3 aK λ _ _=>False).cP e s'->False:=λ _ _ z=>z
 have loop:codeAny (model X.prog X.w) X.A (.compLoop (.ListComp elt [⟨bb,iter,cs,0⟩] scope d4) 0 (.ref it) (.ref s2.heap.objs.size) (compEnvC scope cl s3.heap.objs.size X.env))
   (compPost (model X.prog X.w) X.A X.cP (some (assign (.Name x0 pos') X.env)) (λ _ s'=>g5 X pins rB .next s') (.ref s2.heap.objs.size) s3.heap.objs.size) { s3 with heap:=aX,toks:=s3.toks+([]:List (Str×Value)).length }:=by
  refine Jp (λ n s' => ∃ i σ' H' ys,Inv (e8 X scope cl N bo pins s3 aK λ _ _=>False) [] σ' H' s'/\gN i s'.heap/\(∀ b∈bo,H' b=none)/\W i n σ' H' ys) ?_ m0 ⟨0,_,aK,[],cV,vb,λ b J=>?_,h2⟩
  ·rintro n s5 ⟨i,σ5,bt,ys,je,ow,qs,z_⟩;obtain ⟨OQ,way⟩:=turn i n σ5 bt ys z_;rcases way with ⟨stop,qf⟩ | ⟨go,a9,tM,di,step⟩
   ·refine j7 bF (bj (T.done (e8 X scope cl N bo pins s3 aK λ _ _=>False) rfl rfl rfl rfl aj i [] s5 σ5 bt _ je (stat qs) ow stop) λ r bL ⟨aq,d9⟩=>?_);subst aq;obtain ⟨m,aD,_⟩:=d9.loc;have M6:mh X pins bt s3.heap.objs.size:=b_.mi (Nat.le_refl _) d9.free;have iv:Inv X pins σ bt bL:=?_
    ·refine wpAny_assign_Name (KY (v:=.ref s2.heap.objs.size) iv AD AY Bh rfl (λ cH tJ Pu=>?_) qB);obtain ⟨MT,QO,fK⟩:=Pu;obtain ⟨f0,f1,acs,dh,f4,d_⟩:=M6;have qd:s3.heap.objs.size≠MT:=by
      rcases fK with z | z
      ·rw [z];exact f1
      ·exact (f4 _ _ z).symm
     refine ⟨m,aD.sameBut QO qd,λ h' cR=>⟨_,bt,?_,qf⟩⟩;exact tJ.turned (t':=cH.toks) (λ b o J e=>(cR.2 b J).trans e) f0 f1 dh f4 d_
    have low : ∀ b o,s3.heap.get? b=some o->b≠s3.heap.objs.size:=λ b o q=>Nat.ne_of_lt (Heap.lt_size q)
    have same : ∀ b,b≠s3.heap.objs.size->bL.heap.get? b=bL.heap.get? b:=λ b J=>rfl
    have B:=d9.base;refine b_.yg (s':=bL) (H':=bt) (ch:=bo) d9.os ⟨λ b o q gL af ai=>?_,λ b o q gL af ai=>?_,B.free,λ b o q ai=>?_,B.j9,B.jC,B.j8⟩ (λ a o q=>?_) d9.bare (λ b J=>⟨(f2 b J).2.2.2.1,(f2 b J).2.1,(f2 b J).2.2.2.2.1,(f2 b J).2.2.2.2.2⟩)
    ·exact (same b (low b o q)).trans (B.keep b o q gL af ai)
    ·obtain ⟨cA,z⟩:=B.slot b o q gL af ai;exact ⟨cA,(same b (low b o q)).trans z⟩
    ·obtain ⟨eH,z⟩:=B.there b o q ai;exact ⟨eH,(same b (low b o q)).trans z⟩
    ·have qd : ∀ c u,bt c=some u->c≠s3.heap.objs.size:=λ c u z y=>by
      have:=d9.free;rw [y] at z;rw [show bt s3.heap.objs.size=none from this] at z;cases z
     refine (d9.a6 a o q).ih (λ c u n4 z=>(same c ?_).trans z) (λ _ z=>z) λ _ _ z=>z
     rcases n4 with dR | dR
     ·rw [dR];exact qd a o q
     ·exact qd c _ dR
   ·refine j7 bF (bj (T.item (e8 X scope cl N bo pins s3 aK λ _ _=>False) rfl rfl rfl rfl aj i [] s5 σ5 bt _ je (stat qs) ow go) λ r bL ⟨u,aq,dn⟩=>?_);subst aq;refine j7 bF (bj dn λ _ cC ⟨x,cT,iv,rO,Ag,qV,Aw⟩=>?_);have Ai:=iv.pinned (stat Aw) (T.obj _ _ qV);refine j7 bF (bj (aI bo pins s3 aK _ cC σ5 cT x u _ Ai rO (step x cT Ag)) λ _ cH ⟨σ8,e9,tJ,zS⟩=>?_);refine j7 bF (bj (aW bo pins s3 aK _ cH σ8 e9 _ tJ zS) λ k eC ⟨fX,tK,nY⟩=>?_);have fin : ∀ {s':Shared} {σ':St} {H':ah} {kC:List V},Inv (e8 X scope cl N bo pins s3 aK λ _ _=>False) ([]++sQ bo cC.heap) σ' H' s'->tM σ' H' kC ->
      ∃ cJ,cJ<n /\ ∃ i σ' H' ys,Inv (e8 X scope cl N bo pins s3 aK λ _ _=>False) [] σ' H' s'/\gN i s'.heap/\(∀ b∈bo,H' b=none)/\W i cJ σ' H' ys:=λ {s' σ' H' kC} p4 zP=>by
     obtain ⟨cJ,hm,wv⟩:=di σ' H' kC zP;refine ⟨cJ,hm,i+1,σ',H',kC,p4.v5,T.keep _ _ _ qV λ b J o q=>(p4.pin (b,o) (List.mem_append_right _ (List.mem_append_right _ (tq J q)))).1,λ b J=>?_,wv⟩;obtain ⟨o,q,_⟩:=T.obj _ _ qV b J;exact (p4.pin (b,o) (List.mem_append_right _ (List.mem_append_right _ (tq J q)))).2.1
    cases k with
    | false =>
     rw [if_neg Bool.false_ne_true] at nY ⊢;exact fin tK nY.2
    | true =>
     rw [if_pos rfl] at nY ⊢;refine j7 bF (bj (he bo pins s3 aK _ eC σ8 fX _ tK nY) λ y gM ⟨jl,ke,zw,zV,AB,zT⟩=>?_);refine j7 bF (bj (y2 _ gM σ8 ke (.ref s2.heap.objs.size) [jl] _ [y] (λ _ kY=>tM σ8 kY (ys++[jl])) zw rfl (.cons zV .nil) ⟨_,ys,jl,rfl,rfl,AB,a9,zT⟩) λ _ sB ⟨_,kY,zx,_,zU⟩=>?_);exact fin zx zU
  ·rw [<-k8,a8]
   ·exact (f2 b J).1
   ·obtain ⟨o,en,_⟩:=T.obj 0 _ ov b J;exact Nat.ne_of_lt (Heap.lt_size en)
 have goal:codeAny (model X.prog X.w) X.A (.compStart (.ListComp elt [⟨bb,iter,cs,0⟩] scope d4) 0 (.ref it) (.ref s2.heap.objs.size) (compEnvC scope cl s3.heap.objs.size X.env))
   (compPost (model X.prog X.w) X.A X.cP (some (assign (.Name x0 pos') X.env)) (λ _ s'=>g5 X pins rB .next s') (.ref s2.heap.objs.size) s3.heap.objs.size) { s3 with heap:=aX,toks:=s3.toks+([]:List (Str×Value)).length } :=
  codeAny_compStart_list loop (T.self _ 0 _ _ _ vb loop)
 subst el;exact goal
theorem CU {X:aP} {elt bb iter:Expr} {cs:List Expr} {scope:Scope} {d4 pos pos':Pos} {cl:List (Str×Addr)} {N:List Str} {js:List (Option Nat)} {fq:TI} {g:eG} {c_:TT} {bh:TE} {i:Nat} {x0:Str}
  (AD:X.N.Nodup) (AY:X.N[i]?=some x0) (Bh:Loc X.env.scope x0)
  (C:sN X scope cl N js) (aj:X.warm=true) (ay:jL X bb iter fq)
  (aI : ∀ bo pins s H,k6 (e8 X scope cl N bo pins s H λ _ _=>False) bb g)
  (aW : ∀ bo pins s H,w5 (e8 X scope cl N bo pins s H λ _ _=>False) cs c_)
  (he : ∀ bo pins s H,bC (e8 X scope cl N bo pins s H λ _ _=>False) elt bh)
  (Bb:swapsWith (.ListComp elt [⟨bb,iter,cs,0⟩] scope d4) (some (.Name x0 pos')) pos.line X.env=pure true:=by rfl)
  (az : ∀ x,foldedSetIterable iter X.env x=pure x:=by intro _;rfl) (qB:X.fn x0=true\/X.env.scope.names.lookup x0=some .local:=by first | exact .inl rfl | exact .inr rfl | assumption):gJ X (.Assign [.Name x0 pos'] (.ListComp elt [⟨bb,iter,cs,0⟩] scope d4) pos) (pM (yq js fq g c_ bh) (gW i)) :=
 ⟨UX AD AY Bh C aj ay.o (λ a b c d=>(aI a b c d).o) (λ a b c d=>(aW a b c d).o) (λ a b c d=>(he a b c d).o) Bb az qB⟩
end bI
namespace tQ
open PySem PyProof.Rows rG
abbrev f5 (h:Heap) (T:Addr) (a b c:Value):Prop:=h.get? T=some { cls:=.type "tuple", data:=.seq #[a,b,c] }
theorem eU {n k m:Nat} (h:k≠m):n+k≠n+m:=by omega
theorem nT {n k:Nat} (h:0<k):n≠n+k:=by omega
theorem rL {n k:Nat} (h:0<k):n+k≠n:=by omega
theorem ck {t n k:Nat} (h:t<n):t≠n+k:=by omega
section
variable {prog:Program} {w:World} {A:Around} {E:Value->Shared->Prop} {s:Shared}
theorem Cj {T:Addr} {a b c x:Value} {k:Nat} {Q:Unit->Shared->Prop} (bJ:f5 s.heap T a b c)
  (h : ∀ h',h'.get? T=some { cls:=.type "tuple", data:=.seq ((#[a,b,c]:Array Value).setIfInBounds k x) }->Heap.SameBut T s.heap h'->Q () { s with heap:=h' }) :
  wpAny (model prog w) A (updateSeq T (·.setIfInBounds k x)) Q E s:=by
 refine wpAny_updateSeq bJ rfl (h _ ?_ (Heap.SameBut.update ..));rw [Heap.get?_update_self _ bJ rfl];simp [Obj.mapSeq]
theorem v8 {n t1 aT t3:Addr} {k:Nat} {xs ys zs:Array Value} {x y v a b c:Value} {Q:Value->Shared->Prop} (hY:t1<n) (bI:aT<n) (kf:t3<n)
  (c1:IsZip s.heap (n+5) (n+3) (n+4) .none) (gj:f5 s.heap (n+3) (.ref n) (.ref (n+1)) (.ref (n+2))) (hK:f5 s.heap (n+4) a b c)
  (eA:s.heap.IsTupleIter n t1 k) (fM:s.heap.IsTupleIter (n+1) aT k) (zM:s.heap.IsTupleIter (n+2) t3 k) (cQ:s.heap.IsTuple t1 xs) (e0:s.heap.IsTuple aT ys) (lh:s.heap.IsTuple t3 zs) (ex:xs[k]?=some x) (du:ys[k]?=some y) (p8:zs[k]?=some v)
  (q : ∀ g,IsZip g (n+5) (n+3) (n+4) (rawInt s.heap.objs.size)->f5 g (n+4) x y v->g.IsTupleIter n t1 (k+1)->g.IsTupleIter (n+1) aT (k+1)->g.IsTupleIter (n+2) t3 (k+1)->f5 g s.heap.objs.size x y v ->
   (∀ c o,c≠n+5->c≠n+4->c≠n->c≠n+1->c≠n+2->s.heap.get? c=some o->g.get? c=some o)->Q (.ref s.heap.objs.size) { s with heap:=g }) :
  wpAny (model prog w) A (Builtin.«zip.__next__» ⟨[.ref (n+5)],[]⟩) (λ fin s' => ∃ v,fin=.done (.ret v)/\Q v s') E s:=by
 show wpAny _ _ (field (.ref (n+5)) 2>>=_) _ _ _;refine wpAny_bind (wpAny_field c1 rfl (x:=.bool false) rfl ?_);show wpAny _ _ (field (.ref (n+5)) 3>>=_) _ _ _;refine wpAny_bind (wpAny_field c1 rfl (x:=.ref (n+3)) rfl (wpAny_bind (wpAny_seqItems gj rfl ?_)));show wpAny _ _ (Builtin.SmallTypes.ownedTupleIsFree (.ref (n+5))>>=_) _ _ _;refine wpAny_bind ?_;unfold Builtin.SmallTypes.ownedTupleIsFree;refine wpAny_bind (wpAny_field c1 rfl (x:=.none) rfl (wpAny_pure ?_));simp only [if_true];refine wpAny_bind (wpAny_rule (wpAny_bind (wpAny_field c1 rfl (x:=.ref (n+4)) rfl (wpAny_bind (wpAny_setField_rec c1 (by simp) λ g1 fS s1=>?_)))));replace fS:IsZip g1 (n+5) (n+3) (n+4) .ellipsis:=fS;refine wpAny_bind ?_;simp only [List.zipIdx_cons,List.zipIdx_nil,List.forIn_cons,List.forIn_nil];refine wpAny_bind (wpAny_bind (wpAny_onRaise ?_));show wpAny _ _ (Builtin.SmallTypes.nextOf (.ref n)>>=_) _ _ _;refine wpAny_bind (pull (eA.extBut s1.extBut (nT (by decide))) (cQ.extBut s1.extBut (ck hY)) ex λ g2 qM s2=>wpAny_pure ?_);have jB:f5 g2 (n+4) a b c:=s2.extBut _ _ (rL (by decide)) (s1.extBut _ _ (eU (by decide)) hK);refine wpAny_bind (wpAny_seqItems jB rfl (wpAny_bind (Cj jB λ g3 kD s3=>?_)));replace kD:f5 g3 (n+4) x b c:=kD;refine wpAny_bind (wpAny_letGo (wpAny_pure (wpAny_bind (wpAny_bind (wpAny_onRaise ?_)))));show wpAny _ _ (Builtin.SmallTypes.nextOf (.ref (n+1))>>=_) _ _ _;have od:=((fM.extBut s1.extBut (eU (by decide))).extBut s2.extBut (rL (by decide))).extBut s3.extBut (eU (by decide));have og:=((e0.extBut s1.extBut (ck bI)).extBut s2.extBut (Nat.ne_of_lt bI)).extBut s3.extBut (ck bI);refine wpAny_bind (pull od og du λ fY vr s4=>wpAny_pure ?_);have pG:f5 fY (n+4) x b c:=s4.extBut _ _ (eU (by decide)) kD;refine wpAny_bind (wpAny_seqItems pG rfl (wpAny_bind (Cj pG λ dA kE s5=>?_)));replace kE:f5 dA (n+4) x y c:=kE;refine wpAny_bind (wpAny_letGo (wpAny_pure (wpAny_bind (wpAny_bind (wpAny_onRaise ?_)))));show wpAny _ _ (Builtin.SmallTypes.nextOf (.ref (n+2))>>=_) _ _ _;have PQ:=((((zM.extBut s1.extBut (eU (by decide))).extBut s2.extBut (rL (by decide))).extBut s3.extBut (eU (by decide))).extBut s4.extBut (eU (by decide))).extBut s5.extBut (eU (by decide));have Qb:=((((lh.extBut s1.extBut (ck kf)).extBut s2.extBut (Nat.ne_of_lt kf)).extBut s3.extBut (ck kf)).extBut s4.extBut (ck kf)).extBut s5.extBut (ck kf);refine wpAny_bind (pull PQ Qb p8 λ zJ RH bL=>wpAny_pure ?_);have Hx:f5 zJ (n+4) x y c:=bL.extBut _ _ (eU (by decide)) kE;refine wpAny_bind (wpAny_seqItems Hx rfl (wpAny_bind (Cj Hx λ fJ xS cC=>?_)));replace xS:f5 fJ (n+4) x y v:=xS;refine wpAny_bind (wpAny_letGo (wpAny_pure (wpAny_pure (wpAny_bind (wpAny_seqItems xS rfl (wpAny_bind (wpAny_newTuple ?_)))))));have jU:fJ.objs.size=s.heap.objs.size:=by rw [cC.1,bL.1,s5.1,s4.1,s3.1,s2.1,s1.1]
 have m1:IsZip fJ (n+5) (n+3) (n+4) .ellipsis:=cC.extBut _ _ (eU (by decide)) (bL.extBut _ _ (eU (by decide)) (s5.extBut _ _ (eU (by decide)) (s4.extBut _ _ (eU (by decide)) (s3.extBut _ _ (eU (by decide)) (s2.extBut _ _ (rL (by decide)) fS)))));have QZ : ∀ c o,c≠n+5->c≠n+4->c≠n->c≠n+1->c≠n+2->s.heap.get? c=some o->fJ.get? c=some o:=λ c o o6 mD bP aO aQ aU =>
  cC.extBut _ _ mD (bL.extBut _ _ aQ (s5.extBut _ _ mD (s4.extBut _ _ aO (s3.extBut _ _ mD (s2.extBut _ _ bP (s1.extBut _ _ o6 aU))))))
 have P2:fJ.IsTupleIter n t1 (k+1):=((((qM.extBut s3.extBut (nT (by decide))).extBut s4.extBut (nT (by decide))).extBut s5.extBut (nT (by decide))).extBut bL.extBut (nT (by decide))).extBut cC.extBut (nT (by decide));have P4:fJ.IsTupleIter (n+1) aT (k+1):=((vr.extBut s5.extBut (eU (by decide))).extBut bL.extBut (eU (by decide))).extBut cC.extBut (eU (by decide));have P5:fJ.IsTupleIter (n+2) t3 (k+1):=RH.extBut cC.extBut (eU (by decide));have i8:n+5<fJ.objs.size:=Heap.lt_size m1;show wpAny _ _ (Builtin.SmallTypes.ownedTupleHandOut (.ref (n+5)) (.ref fJ.objs.size)>>=_) _ _ _;refine wpAny_bind ?_;unfold Builtin.SmallTypes.ownedTupleHandOut;have me:IsZip (fJ.push { cls:=.type "tuple", data:=.seq #[x,y,v] }) (n+5) (n+3) (n+4) .ellipsis:=Heap.get?_push_of_some _ m1;refine wpAny_bind (wpAny_setField_rec me (by simp) λ M8 BQ eC=>?_);replace BQ:IsZip M8 (n+5) (n+3) (n+4) (rawInt fJ.objs.size):=BQ;refine wpAny_setField_rec BQ (by simp) λ wM xT gM=>?_
 replace xT:IsZip wM (n+5) (n+3) (n+4) (rawInt fJ.objs.size):=xT;have vd : ∀ c o,c≠n+5->fJ.get? c=some o->wM.get? c=some o:=λ c o cc aU=>gM.extBut _ _ cc (eC.extBut _ _ cc (Heap.get?_push_of_some _ aU))
 have HR:f5 wM fJ.objs.size x y v:=gM.extBut _ _ (Nat.ne_of_gt i8) (eC.extBut _ _ (Nat.ne_of_gt i8) (Heap.get?_push_size _ rfl));rw [jU] at xT HR;refine wpAny_pure ⟨_,rfl,?_⟩;show Q (.ref fJ.objs.size) _;rw [jU];refine q wM xT (vd _ _ (eU (by decide)) xS) ?_ ?_ ?_ HR λ c o o6 mD bP aO aQ aU=>vd c o o6 (QZ c o o6 mD bP aO aQ aU)
 ·obtain ⟨o,e,r⟩:=P2;exact ⟨o,vd _ _ (nT (by decide)) e,r⟩
 ·obtain ⟨o,e,r⟩:=P4;exact ⟨o,vd _ _ (eU (by decide)) e,r⟩
 ·obtain ⟨o,e,r⟩:=P5;exact ⟨o,vd _ _ (eU (by decide)) e,r⟩
theorem v9 {n t1:Addr} {k:Nat} {xs:Array Value} {a b c:Value} {Q:Fin->Shared->Prop} (hd:gH.In A s.heap) (hY:t1<n)
  (c1:IsZip s.heap (n+5) (n+3) (n+4) .none) (gj:f5 s.heap (n+3) (.ref n) (.ref (n+1)) (.ref (n+2)))
  (eA:s.heap.IsTupleIter n t1 k) (cQ:s.heap.IsTuple t1 xs) (ex:xs[k]?=none)
  (q : ∀ g e,(∀ c o,c≠n+5->c≠n+4->c≠n->c≠n+1->c≠n+2->s.heap.get? c=some o->g.get? c=some o)->(∃ o,g.get? e=some o/\o.cls=.type "StopIteration")->E (.ref e) { s with heap:=g }) :
  wpAny (model prog w) A (Builtin.«zip.__next__» ⟨[.ref (n+5)],[]⟩) Q E s:=by
 show wpAny _ _ (field (.ref (n+5)) 2>>=_) _ _ _;refine wpAny_bind (wpAny_field c1 rfl (x:=.bool false) rfl ?_);show wpAny _ _ (field (.ref (n+5)) 3>>=_) _ _ _;refine wpAny_bind (wpAny_field c1 rfl (x:=.ref (n+3)) rfl (wpAny_bind (wpAny_seqItems gj rfl ?_)));show wpAny _ _ (Builtin.SmallTypes.ownedTupleIsFree (.ref (n+5))>>=_) _ _ _;refine wpAny_bind ?_;unfold Builtin.SmallTypes.ownedTupleIsFree;refine wpAny_bind (wpAny_field c1 rfl (x:=.none) rfl (wpAny_pure ?_));simp only [if_true];refine wpAny_bind (wpAny_rule (wpAny_bind (wpAny_field c1 rfl (x:=.ref (n+4)) rfl (wpAny_bind (wpAny_setField_rec c1 (by simp) λ g1 fS s1=>?_)))));replace fS:IsZip g1 (n+5) (n+3) (n+4) .ellipsis:=fS;refine wpAny_bind ?_;simp only [List.zipIdx_cons,List.zipIdx_nil,List.forIn_cons,List.forIn_nil];refine wpAny_bind (wpAny_bind (wpAny_onRaise ?_));show wpAny _ _ (Builtin.SmallTypes.nextOf (.ref n)>>=_) _ _ _;have pk:gH.In A g1:=hd.but c1 (λ vs e=>by injection e with e;subst e;exact λ z=>nomatch z) s1.extBut;refine wpAny_bind (yU pk (eA.extBut s1.extBut (nT (by decide))) (cQ.extBut s1.extBut (ck hY)) ex λ g2 e s2 ⟨bQ,fQ,coe⟩=>?_);have pH:IsZip g2 (n+5) (n+3) (n+4) .ellipsis:=s2 _ _ (rL (by decide)) fS;have oj:e≠n+5:=λ y=>by
  subst y;rw [pH] at fQ;cases fQ;simp at coe
 exact wpAny_setField_rec pH (by simp) λ g3 _ s3=>q g3 e (λ c o cc _ ee _ _ y=>s3.extBut _ _ cc (s2 _ _ ee (s1.extBut _ _ cc y))) ⟨bQ,s3.extBut _ _ oj fQ,coe⟩
theorem next_item {n t1 aT t3:Addr} {k:Nat} {xs ys zs:Array Value} {x y v a b c:Value} {Q:Option Value->Shared->Prop} (hY:t1<n) (bI:aT<n) (kf:t3<n)
  (c1:IsZip s.heap (n+5) (n+3) (n+4) .none) (gj:f5 s.heap (n+3) (.ref n) (.ref (n+1)) (.ref (n+2))) (hK:f5 s.heap (n+4) a b c)
  (eA:s.heap.IsTupleIter n t1 k) (fM:s.heap.IsTupleIter (n+1) aT k) (zM:s.heap.IsTupleIter (n+2) t3 k) (cQ:s.heap.IsTuple t1 xs) (e0:s.heap.IsTuple aT ys) (lh:s.heap.IsTuple t3 zs) (ex:xs[k]?=some x) (du:ys[k]?=some y) (p8:zs[k]?=some v)
  (q : ∀ g,IsZip g (n+5) (n+3) (n+4) (rawInt s.heap.objs.size)->f5 g (n+4) x y v->g.IsTupleIter n t1 (k+1)->g.IsTupleIter (n+1) aT (k+1)->g.IsTupleIter (n+2) t3 (k+1)->f5 g s.heap.objs.size x y v ->
   (∀ c o,c≠n+5->c≠n+4->c≠n->c≠n+1->c≠n+2->s.heap.get? c=some o->g.get? c=some o)->Q (some (.ref s.heap.objs.size)) { s with heap:=g }):wpAny (model prog w) A (pyNext (.ref (n+5))) Q E s:=by
 have ty:s.TypeIs (.ref (n+5)) "zip" := ⟨_,c1,rfl⟩
 unfold pyNext;refine wpAny_bind (wpAny_attempt (wpAny_callSpecial?_slot (name:=Str.ofString "__next__") ty F.slot_zip_next (wpAny_call_entry F.slot_zip_next ty F.entry_zip_next ?_ (F.args_zip_next_1 _))));exact v8 hY bI kf c1 gj hK eA fM zM cQ e0 lh ex du p8 λ g dP dQ eM ek dt gc fH=>wpAny_pure (q g dP dQ eM ek dt gc fH)
theorem wc {n t1:Addr} {k:Nat} {xs:Array Value} {a b c:Value} {Q:Option Value->Shared->Prop} (hd:gH.In A s.heap) (hY:t1<n)
  (c1:IsZip s.heap (n+5) (n+3) (n+4) .none) (gj:f5 s.heap (n+3) (.ref n) (.ref (n+1)) (.ref (n+2)))
  (eA:s.heap.IsTupleIter n t1 k) (cQ:s.heap.IsTuple t1 xs) (ex:xs[k]?=none)
  (q : ∀ g,(∀ c o,c≠n+5->c≠n+4->c≠n->c≠n+1->c≠n+2->s.heap.get? c=some o->g.get? c=some o)->Q none { s with heap:=g }):wpAny (model prog w) A (pyNext (.ref (n+5))) Q E s:=by
 have ty:s.TypeIs (.ref (n+5)) "zip" := ⟨_,c1,rfl⟩
 unfold pyNext;refine wpAny_bind (wpAny_attempt (wpAny_callSpecial?_slot (name:=Str.ofString "__next__") ty F.slot_zip_next (wpAny_call_entry F.slot_zip_next ty F.entry_zip_next ?_ (F.args_zip_next_1 _))));refine v9 (a:=a) (b:=b) (c:=c) hd hY c1 gj eA cQ ex λ g e up ⟨bQ,fQ,coe⟩=>?_
 exact wpAny_bind (wpAny_isInstance (T := "StopIteration") (b:=true) ⟨bQ,fQ,coe⟩ isSubtype_stop (wpAny_pure (q _ up)))
end
theorem aba (a b c:Value):checkTypeCall "zip" ⟨[a,b,c],[]⟩=pure ():=by kernel_rfl
theorem aaG (a b c:Value):checkBuiltinCall "zip.__new__" ⟨[.type "zip", a,b,c],[]⟩=pure ():=by kernel_rfl
theorem abz (a b c d:Value):argsOk "object.__init__" ⟨[a,b,c,d],[]⟩:=by
 unfold argsOk;rw [signature?_of (id := "object.__init__") (n:=['_','_','t','i','n','i','_','_']) (o:=['t','c','e','j','b','o']) (by kernel_rfl) F.owner_object];kernel_rfl
abbrev iD (h:Heap) (t:Addr):Heap:=h.push { cls:=.type "tuple_iterator", data:=.fields #[.ref t,.int 0 0] }
abbrev j3 (h:Heap) (t1 aT t3:Addr):Heap:=iD (iD (iD h t1) aT) t3
abbrev j4 (h:Heap) (t1 aT t3:Addr):Heap:=(j3 h t1 aT t3).push { cls:=.type "tuple", data:=.seq #[.ref h.objs.size,.ref (iD h t1).objs.size,.ref (iD (iD h t1) aT).objs.size] }
abbrev h_ (h:Heap) (t1 aT t3:Addr):Heap:=(j4 h t1 aT t3).push { cls:=.type "tuple", data:=.seq #[.none,.none,.none] }
abbrev qQ (h:Heap) (t1 aT t3:Addr):Heap:=(h_ h t1 aT t3).push { cls:=.type "zip", data:=.fields #[.none,.bool false,.bool false,.ref (j3 h t1 aT t3).objs.size,.ref (j4 h t1 aT t3).objs.size] }
theorem wb (t1 aT t3:Addr) (xs ys zs:Array Value):Meets (Builtin.«zip.__new__» ⟨[.type "zip", .ref t1,.ref aT,.ref t3],[]⟩) (λ _ R s=>s.heap.IsTuple t1 xs/\s.heap.IsTuple aT ys/\s.heap.IsTuple t3 zs/\R (.ok (.ret (.ref (h_ s.heap t1 aT t3).objs.size))) { s with heap:=qQ s.heap t1 aT t3 }) :=
 .of_wp λ prog w A R s h=>by
  obtain ⟨bU,nO,dd,tt,nU⟩:=s;obtain ⟨a1,a2,zB,h⟩:=h;have sub:=sub_zip;have dP:Heap.IsTuple (Shared.heap ⟨bU,nO,dd,tt,nU⟩) t1 xs:=a1;have dQ:Heap.IsTuple (Shared.heap ⟨iD bU t1,nO,dd,tt,nU⟩) aT ys:=Heap.IsTuple.push a2 _;have eM:Heap.IsTuple (Shared.heap ⟨iD (iD bU t1) aT,nO,dd,tt,nU⟩) t3 zs:=Heap.IsTuple.push (Heap.IsTuple.push zB _) _
  wp_walk using wpAny_pyIter_tuple dP,wpAny_pyIter_tuple dQ,wpAny_pyIter_tuple eM
  exact ⟨_,rfl,h⟩
section
variable {prog:Program} {w:World} {A:Around} {E:Value->Shared->Prop} {s:Shared}
theorem make {t1 aT t3:Addr} {xs ys zs:Array Value} {Q:Value->Shared->Prop} (a1:s.heap.IsTuple t1 xs) (a2:s.heap.IsTuple aT ys) (zB:s.heap.IsTuple t3 zs)
  (q : ∀ g,IsZip g (s.heap.objs.size+5) (s.heap.objs.size+3) (s.heap.objs.size+4) .none->f5 g (s.heap.objs.size+3) (.ref s.heap.objs.size) (.ref (s.heap.objs.size+1)) (.ref (s.heap.objs.size+2))->f5 g (s.heap.objs.size+4) .none .none .none ->
   g.IsTupleIter s.heap.objs.size t1 0->g.IsTupleIter (s.heap.objs.size+1) aT 0->g.IsTupleIter (s.heap.objs.size+2) t3 0->(∀ c o,s.heap.get? c=some o->g.get? c=some o)->Q (.ref (s.heap.objs.size+5)) { s with heap:=g }) :
  wpAny (model prog w) A (call (.type "zip") [.ref t1,.ref aT,.ref t3]) Q E s:=by
 refine callType_new F.called_zip (by decide) (aba _ _ _) (aaG _ _ _) (λ obj=>abz obj _ _ _) F.entry_zip_new (wb t1 aT t3 xs ys zs) ⟨a1,a2,zB,?_⟩;have cc:(iD s.heap t1).objs.size=s.heap.objs.size+1:=Heap.size_push ..;have c0:(iD (iD s.heap t1) aT).objs.size=s.heap.objs.size+2:=by rw [Heap.size_push,cc]
 have ee:(j3 s.heap t1 aT t3).objs.size=s.heap.objs.size+3:=by rw [Heap.size_push,c0]
 have eB:(j4 s.heap t1 aT t3).objs.size=s.heap.objs.size+4:=by rw [Heap.size_push,ee]
 have g8:(h_ s.heap t1 aT t3).objs.size=s.heap.objs.size+5:=by rw [Heap.size_push,eB]
 have zQ:(qQ s.heap t1 aT t3).get? (h_ s.heap t1 aT t3).objs.size=some _:=Heap.get?_push_size _ rfl;have lp:(qQ s.heap t1 aT t3).get? (j4 s.heap t1 aT t3).objs.size=some _:=Heap.get?_push_of_some _ (Heap.get?_push_size _ rfl);have nW:(qQ s.heap t1 aT t3).get? (j3 s.heap t1 aT t3).objs.size=some _:=Heap.get?_push_of_some _ (Heap.get?_push_of_some _ (Heap.get?_push_size _ rfl));have jQ:(qQ s.heap t1 aT t3).get? (iD (iD s.heap t1) aT).objs.size=some _:=Heap.get?_push_of_some _ (Heap.get?_push_of_some _ (Heap.get?_push_of_some _ (Heap.get?_push_size _ rfl)));have gh:(qQ s.heap t1 aT t3).get? (iD s.heap t1).objs.size=some _:=Heap.get?_push_of_some _ (Heap.get?_push_of_some _ (Heap.get?_push_of_some _ (Heap.get?_push_of_some _ (Heap.get?_push_size _ rfl))));have e2:(qQ s.heap t1 aT t3).get? s.heap.objs.size=some _:=Heap.get?_push_of_some _ (Heap.get?_push_of_some _ (Heap.get?_push_of_some _ (Heap.get?_push_of_some _ (Heap.get?_push_of_some _ (Heap.get?_push_size _ rfl)))));show _/\_;rw [ee,eB,g8] at zQ;rw [cc,c0,ee] at nW;rw [eB] at lp;rw [c0] at jQ;rw [cc] at gh;rw [g8];exact ⟨⟨_,zQ,rfl⟩,q _ zQ nW lp ⟨_,e2,rfl,rfl⟩ ⟨_,gh,rfl,rfl⟩ ⟨_,jQ,rfl,rfl⟩ λ c o y=>Heap.get?_push_of_some _ (Heap.get?_push_of_some _ (Heap.get?_push_of_some _ (Heap.get?_push_of_some _ (Heap.get?_push_of_some _ (Heap.get?_push_of_some _ y)))))⟩
end
end tQ
namespace bI
open PySem PySem.Spec PyProof.Rows tQ
def ua (K:PySem.W.Frag) (a b c:Addr):g4 :=
 ⟨λ i H => ∃ xs ys zs x y v,aR K H a xs/\aR K H b ys/\aR K H c zs/\xs[i]?=some x/\ys[i]?=some y/\zs[i]?=some v,
 λ i H w H' => ∃ p,H p=none/\w=.ref p /\ ∃ x y v,H'=upd H p (.tup [x,y,v]) /\ ∀ xs ys zs,aR K H a xs->aR K H b ys->aR K H c zs->xs[i]?=some x/\ys[i]?=some y/\zs[i]?=some v,
 λ i H => ∃ xs,aR K H a xs/\xs.length<=i⟩
theorem YD {tT:Bool} {P:Program} {w:World} {K:PySem.W.Frag} {bb:Expr} (fR:kV bb=true) {n a b c:Addr} (hY:a<n) (bI:b<n) (kf:c<n) :
  Turn P w K tT bb (ua K a b c) [n+5,n+4,n,n+1,n+2,n+3] (n+5) (λ i h=>IsZip h (n+5) (n+3) (n+4) .none/\f5 h (n+3) (.ref n) (.ref (n+1)) (.ref (n+2))/\(∃ u v w,f5 h (n+4) u v w)/\h.IsTupleIter n a i/\h.IsTupleIter (n+1) b i/\h.IsTupleIter (n+2) c i) where
 mem:=List.mem_cons_self
 obj:=λ i h st cN aj=>by
  obtain ⟨af,ai,⟨u,v,cO,aF⟩,⟨g9,aX,_,jg⟩,⟨iX,bT,_,eQ⟩,⟨wX,dn,_,tU⟩⟩:=st;have hQ : ∀ {o:Obj} {vs:Array Value},o.data=.fields vs -> ∀ v,o.data≠.cell v:=λ e v q=>by rw [e] at q;cases q
  have mc : ∀ {o:Obj} {vs:Array Value} {n:Nat},o.data=.seq vs n -> ∀ v,o.data≠.cell v:=λ e v q=>by rw [e] at q;cases q
  simp only [List.mem_cons,List.not_mem_nil,or_false] at aj;rcases aj with rfl | rfl | rfl | rfl | rfl | rfl
  ·exact ⟨_,af,hQ rfl⟩
  ·exact ⟨_,aF,mc rfl⟩
  ·exact ⟨_,aX,hQ jg⟩
  ·exact ⟨_,bT,hQ eQ⟩
  ·exact ⟨_,dn,hQ tU⟩
  ·exact ⟨_,ai,mc rfl⟩
 keep:=λ i h h' st k=>by
  obtain ⟨af,ai,⟨u,v,cO,aF⟩,⟨g9,aX,hG⟩,⟨iX,bT,lY⟩,⟨wX,dn,Nw⟩⟩:=st;exact ⟨k _ (by simp) _ af,k _ (by simp) _ ai,⟨u,v,cO,k _ (by simp) _ aF⟩,⟨g9,k _ (by simp) _ aX,hG⟩,⟨iX,k _ (by simp) _ bT,lY⟩,⟨wX,k _ (by simp) _ dn,Nw⟩⟩
 item:=by
  intro X c4 hw dH iC aj i pins s σ H E I hf st aI;subst c4 hw dH;obtain ⟨af,ai,⟨u,v,cO,aF⟩,aX,bT,dn⟩:=st;obtain ⟨xs,ys,zs,x,y,z,cG,dv,qe,ak,aN,a9⟩:=aI;obtain ⟨its,bR,dJ,_⟩:=I.tuple cG;obtain ⟨gS,eE,fN,_⟩:=I.tuple dv;obtain ⟨Bn,Hg,pc,_⟩:=I.tuple qe;obtain ⟨hb,n2,oo⟩:=bR.get ak;obtain ⟨hI,qq,qT⟩:=eE.get aN;obtain ⟨z5,N4,QM⟩:=Hg.get a9;refine tQ.next_item hY bI kf af ai aF aX bT dn (show s.heap.IsTuple a its.toArray from dJ) (show s.heap.IsTuple b gS.toArray from fN) (show s.heap.IsTuple c Bn.toArray from pc) (x:=hb) (y:=hI) (v:=z5) (by simpa using n2) (by simpa using qq) (by simpa using N4) λ g dP dQ eM ek dt gc fH=>?_
  refine ⟨_,rfl,?_⟩;have i8:n+5<s.heap.objs.size:=Heap.lt_size af;cases bb with
  | Tuple ao fb pp =>
   refine wpAny_letOwnedTupleGo_zip dP λ g' hB cR=>?_
   have new:f5 g' s.heap.objs.size hb hI z5:=cR.extBut _ _ (Nat.ne_of_gt i8) gc;have aE:Inv X pins σ (upd H s.heap.objs.size (.tup [x,y,z])) { s with heap:=g' }:=by
    refine I.we (t':=s.toks) (L:=[n+5,n+4,n,n+1,n+2,n+3]) (λ c o cL e=>?_) hf (Nat.le_refl _) ⟨by show 3<=sizeLine;decide,[hb,hI,z5],.cons oo (.cons qT (.cons QM .nil)),⟨_,new,rfl,⟨0,rfl⟩,rfl⟩⟩;simp only [List.mem_cons,List.not_mem_nil,or_false,not_or] at cL;exact cR.extBut c o cL.1 (fH c o cL.1 cL.2.1 cL.2.2.1 cL.2.2.2.1 cL.2.2.2.2.1 e)
   have qu:f5 g' (n+3) (.ref n) (.ref (n+1)) (.ref (n+2)):=cR.extBut _ _ (eU (by decide)) (fH _ _ (eU (by decide)) (eU (by decide)) (rL (by decide)) (eU (by decide)) (eU (by decide)) ai);refine ⟨.ref s.heap.objs.size,_,aE,rfl,⟨_,I.fresh,rfl,x,y,z,rfl,λ xR kC ac0 a7 bV ea=>⟨by rw [I.ru a7 cG];exact ak,by rw [I.ru bV dv];exact aN,by rw [I.ru ea qe];exact a9⟩⟩,⟨hB,qu,⟨_,_,_,cR.extBut _ _ (eU (by decide)) dQ⟩,eM.extBut cR.extBut (nT (by decide)),ek.extBut cR.extBut (eU (by decide)),dt.extBut cR.extBut (eU (by decide))⟩,λ c cY=>?_⟩;obtain ⟨o,en,_⟩ : ∃ o,s.heap.get? c=some o/\True:=by
    simp only [List.mem_cons,List.not_mem_nil,or_false] at cY;rcases cY with rfl | rfl | rfl | rfl | rfl | rfl
    ·exact ⟨_,af,trivial⟩
    ·exact ⟨_,aF,trivial⟩
    ·obtain ⟨g9,fY,_⟩:=aX;exact ⟨_,fY,trivial⟩
    ·obtain ⟨iX,dA,_⟩:=bT;exact ⟨_,dA,trivial⟩
    ·obtain ⟨wX,zJ,_⟩:=dn;exact ⟨_,zJ,trivial⟩
    ·exact ⟨_,ai,trivial⟩
   rw [a8 (Nat.ne_of_lt (Heap.lt_size en))];exact (hf c cY).1
  | _=>exact absurd (show false=true from fR) Bool.false_ne_true
 done:=by
  intro X c4 hw dH iC aj i pins s σ H E I hf st aI;subst c4 hw dH;obtain ⟨af,ai,⟨u,v,cO,aF⟩,aX,bT,dn⟩:=st;obtain ⟨xs,cG,au⟩:=aI;obtain ⟨its,bR,dJ,_⟩:=I.tuple cG;have aO:=bR.length;refine tQ.wc (a:=.none) (b:=.none) (c:=.none) (I.jt aj) hY af ai aX (show s.heap.IsTuple a its.toArray from dJ) (by simp;omega) λ g up=>⟨rfl,?_⟩
  refine I.vV (t':=s.toks) (L:=[n+5,n+4,n,n+1,n+2,n+3]) (λ c o cL e=>?_) hf;simp only [List.mem_cons,List.not_mem_nil,or_false,not_or] at cL;exact up c o cL.1 cL.2.1 cL.2.2.1 cL.2.2.2.1 cL.2.2.2.2.1 e
 self:=λ _ _ _ _ _ st h=>wpAny_pyIter_zip st.1 h
section
variable {X:aP} {bb:Expr}
theorem vals3 {x y z:V} {us:List Value} (h:Vals [x,y,z] us) : ∃ u v w,us=[u,v,w]/\RelV x u/\RelV y v/\RelV z w:=by
 cases h with
 | cons af h =>
  cases h with
  | cons ai h =>
   cases h with
   | cons aF h =>
    cases h;exact ⟨_,_,_,rfl,af,ai,aF⟩
def Sm (K:PySem.W.Frag) (aZ:c3):TI:=λ σ H R=>aZ σ H λ vs H1 => ∃ a b c,vs=[.ref a,.ref b,.ref c]/\(∃ xs,aR K H1 a xs)/\(∃ ys,aR K H1 b ys)/\(∃ zs,aR K H1 c zs)/\R (ua K a b c) H1
theorem U8 {aO aQ el:Expr} {aZ:c3} {p pos:Pos} (fR:kV bb=true) (aI:dy X "zip") (hm:X.mg "zip" = none) (aw:eZ X [aO,aQ,el] aZ) (az:starEach [aO,aQ,el] X.env=[(false,eval aO X.env),(false,eval aQ X.env),(false,eval el X.env)]:=by rfl) (e5:starEach [aQ,el] X.env=[(false,eval aQ X.env),(false,eval el X.env)]:=by rfl)
  (J:bootBuiltins "zip" = some (.type "zip"):=by decide +kernel):jL X bb (.Call (.Name "zip" p) [aO,aQ,el] [] pos) (Sm X.K aZ):=⟨by
 intro pins s σ H R I h;refine Call_ (mr I aI hm J (PyProof.Rows.callWith_type1 (bj (aw.o pos pins s σ H _ I h) λ us s1 ⟨vs,H1,aE,bq,a7⟩=>?_) (by rw [az,e5]) (by rw [e5];rfl)));obtain ⟨a,b,c,e,⟨xs,cG⟩,⟨ys,dv⟩,⟨zs,qe⟩,q⟩:=a7;subst e;obtain ⟨gi,kl,iy,rfl,lZ,qg,rc⟩:=vals3 bq;cases lZ;cases qg;cases rc;obtain ⟨its,bR,dJ,_⟩:=aE.tuple cG;obtain ⟨gS,eE,fN,_⟩:=aE.tuple dv;obtain ⟨Bn,Hg,pc,_⟩:=aE.tuple qe;have nQ:a<s1.heap.objs.size:=by obtain ⟨o,e,_⟩:=dJ;exact Heap.lt_size e
 have nR:b<s1.heap.objs.size:=by obtain ⟨o,e,_⟩:=fN;exact Heap.lt_size e
 have lc:c<s1.heap.objs.size:=by obtain ⟨o,e,_⟩:=pc;exact Heap.lt_size e
 refine tQ.make (show s1.heap.IsTuple a its.toArray from dJ) (show s1.heap.IsTuple b gS.toArray from fN) (show s1.heap.IsTuple c Bn.toArray from pc) λ g fs e4 iZ qi qj NQ up=>?_
 refine wpAny_pyIter_zip fs ?_;have bS:Inv X pins σ H1 { s1 with heap:=g }:=aE.kept (t':=s1.toks) up;refine ⟨_,[s1.heap.objs.size+5,s1.heap.objs.size+4,s1.heap.objs.size,s1.heap.objs.size+1,s1.heap.objs.size+2,s1.heap.objs.size+3],_,_,H1,rfl,bS,YD fR nQ nR lc,⟨fs,e4,⟨_,_,_,iZ⟩,qi,qj,NQ⟩,λ c aj=>?_,q⟩;have big:s1.heap.objs.size<=c:=by
  simp only [List.mem_cons,List.not_mem_nil,or_false] at aj;rcases aj with rfl | rfl | rfl | rfl | rfl | rfl
  ·exact Nat.le_add_right _ _
  ·exact Nat.le_add_right _ _
  ·exact Nat.le_refl _
  ·exact Nat.le_add_right _ _
  ·exact Nat.le_add_right _ _
  ·exact Nat.le_add_right _ _
 exact aE.mi big (aE.a6.fresh big)⟩
end
theorem VV {K:PySem.W.Frag} {a b c:Addr} {xs ys zs:List V} {g:eG} {bk:dr} {D:Ends} {σ:St} {H:ah} (i6:xs.length=ys.length) (acC:xs.length=zs.length) (Pv:Nat->St->ah->Prop) (h0:Pv 0 σ H) (au : ∀ i σ H,i<=xs.length->Pv i σ H->aR K H a xs/\aR K H b ys/\aR K H c zs)
  (az : ∀ i x y z p σ H,xs[i]?=some x->ys[i]?=some y->zs[i]?=some z->H p=none->Pv i σ H->g (.ref p) σ (upd H p (.tup [x,y,z])) λ σ2 ar=>bk { D with bF:=Pv (i+1),cu:=Pv (i+1),aY:=D.bF } σ2 ar) (hd : ∀ σ H,Pv xs.length σ H->D.bF σ H) :
  ∃ W:Nat->Nat->St->ah->Prop,(∃ m,W 0 m σ H) /\ ∀ i m σ H,W i m σ H ->
   ((ua K a b c).stop i H/\D.bF σ H)\/((ua K a b c).go i H /\ ∃ N:St->ah->Prop,(∀ σ' H',N σ' H' -> ∃ cJ,cJ<m/\W (i+1) cJ σ' H') /\ ∀ x H',(ua K a b c).j5 i H x H'->g x σ H' λ σ2 ar=>bk { D with bF:=N,cu:=N,aY:=D.bF } σ2 ar):=by
 refine ⟨λ i m σ H=>m=xs.length - i/\i<=xs.length/\Pv i σ H,⟨_,rfl,Nat.zero_le _,h0⟩,?_⟩;rintro i m σ H ⟨rfl,ay,p⟩;obtain ⟨cG,dv,qe⟩:=au i σ H ay p;by_cases dE:i<xs.length
 ·have ai:i<ys.length:=by omega
  have aF:i<zs.length:=by omega
  refine .inr ⟨⟨xs,ys,zs,xs[i],ys[i],zs[i],cG,dv,qe,by simp [dE],by simp [ai],by simp [aF]⟩,Pv (i+1),λ σ' H' hD=>⟨xs.length - (i+1),by omega,rfl,dE,hD⟩,λ v H' jl=>?_⟩;obtain ⟨q,aS,rfl,x,y,z,rfl,i6⟩:=jl;obtain ⟨ex,du,p8⟩:=i6 xs ys zs cG dv qe;exact az i x y z q σ H ex du p8 aS p
 ·have e:i=xs.length:=by omega
  refine .inl ⟨⟨xs,cG,by omega⟩,hd σ H (e ▸ p)⟩
end bI
namespace Hz
open PySem PyProof.Rows
section
variable {prog:Program} {w:World} {A:Around} {R:Result->Shared->Prop} {I:Addr} {bo wr:List Addr} {n:Nat} {P:Nat->Value->Prop} {St:Nat->Heap->Prop}
theorem more (W:Walks prog w A.in1 I bo wr n P St) (dc:Nat->Nat->Bool) (vk:CmpOf prog w A.in1 .Lt P dc) (S:Addr) (l6:S∉bo) (kw:List (Str×Value)) :
  ∀ (k j:Nat) (s:Shared) (nZ:Value) (c:Nat),n - (j+1)=k->j+1<=n->St (j+1) s.heap->P (argBest dc j) nZ ->
  s.heap.get? S=some { cls:=.type "list", dict:=none,data:=.seq #[nZ,nZ] c,slots:=#[] } ->
  (∀ v h' bw,P (argBest dc (n - 1)) v->(∀ b o,b∉wr->b≠S->s.heap.get? b=some o->h'.get? b=some o)->R (.ok (.ret v)) { s with heap:=h',toks:=bw }) ->
  codeAny (model prog w) A (.builtin "min.loop" ⟨[.ref I,.none,.ref S],kw⟩) R s:=by
 have ux:S∉wr:=λ h=>l6 (W.sub _ h)
 have sH:(toString "min" ++ toString ".loop" : String) = "min.loop" := by decide
 intro k
 induction k with
 | zero =>
  intro j s nZ c aB b3 cB xi c8 fo;have jt:j+1=n:=by omega
  refine codeAny_builtin F.entry_min_loop ?_;rw [Around.under_plainId F.plain_min_loop _];show wpAny _ A.in1 (seqItems? (.ref S)>>=_) _ _ s;refine wpAny_bind (wpAny_seqItems c8 rfl ?_);show wpAny _ A.in1 (tryCatch (pyNext (.ref I)) _>>=_) _ _ s;refine wpAny_bind (wpAny_tryCatch (W.done s _ _ (jt ▸ cB) λ h' bw j1=>?_));have ly:=j1 S _ ux c8;show wpAny _ A.in1 (updateSeq S (λ _=>#[])>>=_) _ _ _;refine wpAny_bind ?_;refine wpAny_updateSeq ly rfl (wpAny_bind (wpAny_letGo (wpAny_pure ?_)));refine fo nZ _ bw (by rw [<-jt];exact xi) λ b o i2 mM e=>(Heap.get?_update_other _ _ (Ne.symm mM)).trans (j1 b o i2 e)
 | succ k c5 =>
  intro j s nZ c aB b3 cB xi c8 fo;have dE:j+1<n:=by omega
  refine codeAny_builtin F.entry_min_loop ?_;rw [Around.under_plainId F.plain_min_loop _];show wpAny _ A.in1 (seqItems? (.ref S)>>=_) _ _ s;refine wpAny_bind (wpAny_seqItems c8 rfl ?_);show wpAny _ A.in1 (tryCatch (pyNext (.ref I)) _>>=_) _ _ s;refine wpAny_bind (wpAny_tryCatch (W.item (j+1) s _ _ dE cB λ v h' bw c4 x6 j1=>?_));have ly:=j1 S _ ux c8;show wpAny _ A.in1 (tryCatch (holding [v,v] (richCompare .Lt v nZ>>=_)) _>>=_) _ _ _;refine wpAny_bind (wpAny_tryCatch (wpAny_holding (wpAny_bind (vk (j+1) (argBest dc j) v nZ _ _ _ c4 xi ?_))));refine wpAny_bind (wpAny_holding (wpAny_truthy_bool ?_));refine wpAny_bind (wpAny_letGo (wpAny_pure ?_));cases J:dc (j+1) (argBest dc j) with
  | true =>
   simp only [if_true];refine wpAny_bind ?_;refine wpAny_updateSeq ly rfl (wpAny_bind (wpAny_letGo ?_));rw [sH];refine wpAny_pure ⟨plainId_quiet F.plain_min_loop _,c5 (j+1) _ v _ (by omega) dE (W.frame _ _ _ x6 λ b AI o e=>?_) (by simp only [argBest,J,if_true];exact c4) (Heap.get?_update_self _ ly rfl)
    λ iz uo vz mK vl=>?_⟩
   ·exact (Heap.get?_update_other _ _ (λ h:S=b=>l6 (by rw [h];exact AI))).trans e
   ·exact fo iz uo vz mK λ b o i2 mM e=>vl b o i2 mM ((Heap.get?_update_other _ _ (Ne.symm mM)).trans (j1 b o i2 e))
  | false =>
   simp only [Bool.false_eq_true,if_false];refine wpAny_bind (wpAny_letGo ?_);rw [sH];refine wpAny_pure ⟨plainId_quiet F.plain_min_loop _,c5 (j+1) _ nZ c (by omega) dE x6 (by simp only [argBest,J,Bool.false_eq_true,if_false];exact xi) ly λ iz uo vz mK vl=>?_⟩;exact fo iz uo vz mK λ b o i2 mM e=>vl b o i2 mM (j1 b o i2 e)
theorem first (W:Walks prog w A.in1 I bo wr n P St) (dc:Nat->Nat->Bool) (vk:CmpOf prog w A.in1 .Lt P dc) (S:Addr) (l6:S∉bo) (kw:List (Str×Value)) (aD:0<n) {s:Shared} {c:Nat} (cB:St 0 s.heap)
  (c8:s.heap.get? S=some { cls:=.type "list", dict:=none,data:=.seq #[] c,slots:=#[] })
  (fo : ∀ v h' bw,P (argBest dc (n - 1)) v->(∀ b o,b∉wr->b≠S->s.heap.get? b=some o->h'.get? b=some o)->R (.ok (.ret v)) { s with heap:=h',toks:=bw }) :
  codeAny (model prog w) A (.builtin "min.loop" ⟨[.ref I,.none,.ref S],kw⟩) R s:=by
 have ux:S∉wr:=λ h=>l6 (W.sub _ h)
 have sH:(toString "min" ++ toString ".loop" : String) = "min.loop" := by decide
 refine codeAny_builtin F.entry_min_loop ?_;rw [Around.under_plainId F.plain_min_loop _];show wpAny _ A.in1 (seqItems? (.ref S)>>=_) _ _ s;refine wpAny_bind (wpAny_seqItems c8 rfl ?_);show wpAny _ A.in1 (tryCatch (pyNext (.ref I)) _>>=_) _ _ s;refine wpAny_bind (wpAny_tryCatch (W.item 0 s _ _ aD cB λ v h' bw c4 x6 j1=>?_));have ly:=j1 S _ ux c8;show wpAny _ A.in1 (updateSeq S (λ _=>#[v,v])>>=_) _ _ _;refine wpAny_bind ?_;refine wpAny_updateSeq ly rfl ?_;rw [sH];refine wpAny_pure ⟨plainId_quiet F.plain_min_loop _,more W dc vk S l6 kw _ 0 _ v _ rfl aD (W.frame _ _ _ x6 λ b AI o e=>?_) c4 (Heap.get?_update_self _ ly rfl) λ iz uo vz mK vl=>?_⟩
 ·exact (Heap.get?_update_other _ _ (λ h:S=b=>l6 (by rw [h];exact AI))).trans e
 ·exact fo iz uo vz mK λ b o i2 mM e=>vl b o i2 mM ((Heap.get?_update_other _ _ (Ne.symm mM)).trans (j1 b o i2 e))
theorem empty (W:Walks prog w A.in1 I bo wr n P St) (S:Addr) (l6:S∉bo) (d:Value) (aD:n=0) {s:Shared} {c:Nat} (cB:St 0 s.heap)
  (c8:s.heap.get? S=some { cls:=.type "list", dict:=none,data:=.seq #[] c,slots:=#[] })
  (fo : ∀ h' bw,(∀ b o,b∉wr->b≠S->s.heap.get? b=some o->h'.get? b=some o)->R (.ok (.ret d)) { s with heap:=h',toks:=bw }) :
  codeAny (model prog w) A (.builtin "min.loop" ⟨[.ref I,.none,.ref S],[("default", d)]⟩) R s:=by
 have ux:S∉wr:=λ h=>l6 (W.sub _ h)
 subst aD;refine codeAny_builtin F.entry_min_loop ?_;rw [Around.under_plainId F.plain_min_loop _];show wpAny _ A.in1 (seqItems? (.ref S)>>=_) _ _ s;refine wpAny_bind (wpAny_seqItems c8 rfl ?_);show wpAny _ A.in1 (tryCatch (pyNext (.ref I)) _>>=_) _ _ s;refine wpAny_bind (wpAny_tryCatch (W.done s _ _ cB λ h' bw j1=>?_));refine wpAny_bind (wpAny_rule (wpAny_pure ?_));exact fo h' bw λ b o i2 mM e=>j1 b o i2 e
end
section
variable {prog:Program} {w:World} {A:Around} {E:Value->Shared->Prop} {s:Shared}
theorem Ug {id:String} {b:Builtin} {args:List Value} {kw:List (Str×Value)} {Q:Value->Shared->Prop} (aB:builtinKind id=none) (ax:plainId id=true)
  (J:entryFor table id=some b) (aw:argsOk id ⟨args,kw⟩)
  (aj:wpAny (model prog w) A.in1 (b ⟨args,kw⟩) (λ fin s'=>match fin with
   | .done f=>(match (Except.ok f:Result) with | .ok (.ret v)=>Q v s' | .ok _=>False | .error e=>E e s')
   | .again cN=>cN.quiet=true/\codeAny (model prog w) A cN (λ r s'=>match r with | .ok (.ret v)=>Q v s' | .ok _=>False | .error e=>E e s') s') E s) :
  wpAny (model prog w) A (call (.builtin id) args kw) Q E s:=by
 refine wpAny_call (codeAny_call_builtin ax J ?_);simp only [checkBuiltinCall,aB];cases RD:Manifest.signature? id with
 | none=>exact wpAny_pure aj
 | some sig =>
  simp only [argsOk,RD] at aw;have ai:Bind.checkArgs id sig ⟨args,kw⟩=pure ():=aw;exact wpAny_of_eq ai aj
theorem YX (a d:Value):argsOk "min" ⟨[a],[("default", d)]⟩:=by unfold argsOk;kernel_rfl
theorem VL (d:Value):Builtin.Builtins.bindParams "min" ["key", "default"] 0 ⟨[],[("default", d)]⟩=pure [none,some d]:=by kernel_rfl
theorem Kv {x d:Value} {Q:Value->Shared->Prop}
  (h:wpAny (model prog w) A.in1 (pyIter x) (λ it s₂ => ∃ I bo wr n P St dc,it=.ref I/\Walks prog w A.in1 I bo wr n P St/\St 0 s₂.heap/\(∀ b∈bo,b<s₂.heap.objs.size)/\CmpOf prog w A.in1 .Lt P dc /\
   (0<n -> ∀ v h' bw,P (argBest dc (n - 1)) v->(∀ b o,b∉wr->s₂.heap.get? b=some o->h'.get? b=some o)->Q v { s₂ with heap:=h',toks:=bw }) /\
   (n=0 -> ∀ h' bw,(∀ b o,b∉wr->s₂.heap.get? b=some o->h'.get? b=some o)->Q d { s₂ with heap:=h',toks:=bw })) E s) :
  wpAny (model prog w) A (call (.builtin "min") [x] [("default", d)]) Q E s:=by
 have sH:(toString "min" ++ toString ".loop" : String) = "min.loop" := by decide
 refine Ug F.kind_min F.plain_min F.entry_min (YX _ _) ?_;show wpAny _ A.in1 (Builtin.Builtins.bindParams "min" ["key", "default"] 0 ⟨[],[("default", d)]⟩>>=_) _ _ s;refine wpAny_bind (wpAny_of_eq (VL d) ?_);refine wpAny_bind (wpAny_pure ?_);refine wpAny_bind (wpAny_mono h (λ it s₂ h₂=>?_) λ _ _ e=>e);obtain ⟨I,bo,wr,n,P,St,dc,rfl,W,cB,r8,vk,gf,OU⟩:=h₂;refine wpAny_bind (wpAny_newObj_type ?_);have l6:s₂.heap.objs.size∉bo:=λ hm=>Nat.lt_irrefl _ (r8 _ hm)
 rw [sH];by_cases aD:0<n
 ·refine wpAny_pure ⟨plainId_quiet F.plain_min_loop _,first W dc vk s₂.heap.objs.size l6 _ aD (W.frame _ _ _ cB λ b _ o e=>Heap.get?_push_of_some _ e) (Heap.get?_push_size _ rfl) λ v h' bw c4 aB=>?_⟩;exact gf aD v h' bw c4 λ b o i2 e=>aB b o i2 (Nat.ne_of_lt (Heap.lt_size e)) (Heap.get?_push_of_some _ e)
 ·refine wpAny_pure ⟨plainId_quiet F.plain_min_loop _,empty W s₂.heap.objs.size l6 d (by omega) (W.frame _ _ _ cB λ b _ o e=>Heap.get?_push_of_some _ e) (Heap.get?_push_size _ rfl) λ h' bw aB=>?_⟩;exact OU (by omega) h' bw λ b o i2 e=>aB b o i2 (Nat.ne_of_lt (Heap.lt_size e)) (Heap.get?_push_of_some _ e)
theorem min_list {l:Addr} {xs:Array (Int×Tok)} {d:Value} {Q:Value->Shared->Prop} (bU:gH.In A s.heap) (au:s.heap.IsList l (intItems xs))
  (h:0<xs.size -> ∀ v h' bw,(intItems xs)[argBest (λ i j=>decide (numAt xs i<numAt xs j)) (xs.size - 1)]?=some v->(∀ b o,s.heap.get? b=some o->h'.get? b=some o)->Q v { s with heap:=h',toks:=bw })
  (h0:xs.size=0 -> ∀ h' bw,(∀ b o,s.heap.get? b=some o->h'.get? b=some o)->Q d { s with heap:=h',toks:=bw }) :
  wpAny (model prog w) A (call (.builtin "min") [.ref l] [("default", d)]) Q E s:=by
 rcases bU with bU | ⟨x,nV,vs,af,ai,aF,aX⟩
 rotate_left
 ·have lt:=Heap.lt_size ai;refine Kv (iter_intList au λ s₂ e st r8 A2=>?_);subst e;refine ⟨_,_,_,_,_,_,_,rfl,gH.YI (A:=A.in1) af aF aX _ l A2 (Nat.ne_of_lt lt) (intItems xs),⟨st.1,st.2,Heap.get?_push_of_some _ ai⟩,λ b J=>?_,CmpOf.ints_lt (numAt xs) (λ _ _=>intItems_at),λ aD v h' bw c4 aB=>?_,λ aD h' bw aB=>?_⟩
  ·simp only [List.mem_cons,List.not_mem_nil,or_false] at J;rcases J with J | J | J
   ·exact r8 b (by rw [J];exact List.mem_cons_self ..)
   ·exact r8 b (by rw [J];exact List.mem_cons_of_mem _ (List.mem_cons_self ..))
   ·rw [J];show x<(s.heap.push _).objs.size;rw [Heap.size_push];exact Nat.lt_succ_of_lt lt
  ·exact h (by simpa [intItems] using aD) v h' bw (by simpa [intItems] using c4) (old_kept aB)
  ·exact h0 (by simpa [intItems] using aD) h' bw (old_kept aB)
 refine Kv (iter_intList au λ s₂ e st r8 A2=>?_);subst e;refine ⟨_,_,_,_,_,_,_,rfl,Walks.list (A:=A.in1) bU _ l A2 (intItems xs),st,r8,CmpOf.ints_lt (numAt xs) (λ _ _=>intItems_at),λ aD v h' bw c4 aB=>?_,λ aD h' bw aB=>?_⟩
 ·exact h (by simpa [intItems] using aD) v h' bw (by simpa [intItems] using c4) (old_kept aB)
 ·exact h0 (by simpa [intItems] using aD) h' bw (old_kept aB)
end
end Hz
namespace bI
open PySem PySem.Spec PyProof.Rows
section
variable {X:aP}
def SI (K:PySem.W.Frag) (aZ:c3):TE:=λ σ H Q=>aZ σ H λ xs H1 => ∃ (p:Addr) (ns:List Int),xs=[.ref p]/\a3 K H1 p (ns.map V.int)/\(ns=[]->Q .bg H1) /\ ∀ M,M∈ns->(∀ a,a∈ns->M<=a)->Q (.int M) H1
theorem Jw {e:Expr} {aZ:c3} {p pos RJ RQ:Pos} {j} (aj:X.warm=true) (aI:dy X "min") (hm:X.mg "min" = none) (J:bootBuiltins "min" = some (.builtin "min")) (aw:eZ X [e] aZ) (af:starEach [e] X.env=[(false,eval e X.env)]:=by rfl) :
  bC X (.Call (.Name "min" p) [e] [⟨some "default", .Constant .none j RQ,RJ⟩] pos) (SI X.K aZ):=⟨by
 intro pins s σ H Q I h;refine wpAny_Call_Name_kw (mr I aI hm J ?_ (by decide) (by decide));have aO:backTo pos (starEach [e] X.env)=(false,eval e X.env)::backTo pos (starEach [] X.env):=by rw [af];rfl
 refine callWith_kw (e:=e) (rest:=[]) ?_ aO (by rw [af];rfl) rfl rfl;refine bj (aw.o pos pins s σ H _ I h) λ us s1 ⟨vs,H1,aE,bq,a7⟩=>?_
 obtain ⟨l,ns,rfl,aS,zR,bV⟩:=a7;obtain ⟨u,rfl,a5⟩:=vals1 bq;cases a5;refine kws_cons (bj (IT pins s1 σ H1 (λ x ar=>x=.bg/\ar=H1) aE ⟨rfl,rfl⟩) λ v s2 ⟨x,ar,bS,b5,ex,k8⟩=>kws_nil ?_);subst ex;subst k8;cases b5;obtain ⟨its,bB,pl,a9⟩:=bS.list aS;have au:=pl.isList;have ay:=intsAre_of bB;obtain ⟨xs,e⟩:=ay.allInts.items;have i4:ns=xs.toList.map (·.1):=by rw [<-ay.numsOf,<-nums_intItems,<-e]
 rw [e] at au;refine Hz.min_list (d:=.none) (bS.jt aj) au (λ hsz v h' bw bf aB=>?_) (λ hsz h' bw aB=>?_)
 ·obtain ⟨t,rfl⟩:=intItems_at bf;obtain ⟨af,ai⟩:=argBest_lt (numAt xs) (xs.size - 1);refine ⟨.int _,_,bS.kept aB,⟨_,rfl⟩,bV _ ?_ λ a aw=>?_⟩
  ·rw [i4,numAt_eq];exact getD_mem (by rw [List.length_map,Array.length_toList];omega)
  ·rw [i4] at aw;obtain ⟨j,b3,rfl⟩:=mem_getD aw;rw [List.length_map,Array.length_toList] at b3;rw [<-numAt_eq];exact ai j (by omega)
 ·refine ⟨.bg,_,bS.kept aB,rfl,zR ?_⟩;rw [i4];have:xs.toList=[]:=List.eq_nil_of_length_eq_zero (by rw [Array.length_toList];exact hsz);rw [this];rfl⟩
end
end bI
namespace cy
open PySem bI fz
def yl (t:Int->Int->Bool) (f:Int->Int->Int) (xs ys:List Int):List Int:=((xs.zip ys).filter λ p=>t p.1 p.2).map λ p=>f p.1 p.2
theorem Zb {t:Int->Int->Bool} {f:Int->Int->Int} {l:List (Int×Int)} {i:Nat} {p:Int×Int} (h:l[i]?=some p):((l.take (i+1)).filter λ p=>t p.1 p.2).map (λ p=>f p.1 p.2)=((l.take i).filter λ p=>t p.1 p.2).map (λ p=>f p.1 p.2)++(if t p.1 p.2=true then [f p.1 p.2] else []):=by
 rw [List.take_add_one,h];simp only [Option.toList_some,List.filter_append,List.map_append];congr 1;by_cases z:t p.1 p.2=true
 ·simp [z]
 ·simp [z]
theorem ZN {K:PySem.W.Frag} {a b D:Addr} {js:List (Option Nat)} {c_:TT} {bh:TE} {σ:St} {H1:ah} {Q:bz} {xs ys:List Int} {σ0:St} {t:Int->Int->Bool} {f:Int->Int->Int} (aD:min xs.length ys.length<=sizeLine) (ax : ∃ u v,pick js σ=u::v::σ0) (a4:H1 D=none)
  (aw:H1 a=some (tupI xs)) (J:H1 b=some (tupI ys))
  (aW : ∀ (x y:Int) (H':ah) (R:Bool->ah->Prop),x∈xs->y∈ys->R (t x y) H'->c_ (some (.int x)::some (.int y)::σ0) H' R)
  (az : ∀ (x y:Int) (H':ah) (R:bz),x∈xs->y∈ys->t x y=true->R (.int (f x y)) H'->bh (some (.int x)::some (.int y)::σ0) H' R)
  (q : ∀ H',aC H1 H'->H' D=some (.lst ((yl t f xs ys).map V.int))->Q (.ref D) H'):iI (pg K a b) D js (sC K 2 (pP (gW 0) (pP (gW 1) vh))) c_ bh σ H1 Q:=by
 obtain ⟨l1,v0,ax⟩:=ax;have hn:(xs.zip ys).length=min xs.length ys.length:=List.length_zip;refine C4 (n:=min xs.length ys.length) aD (λ i σ' H' zs=>(∃ u v:Option V,σ'=u::v::σ0)/\aC H1 H'/\H' D=some (.lst zs)/\zs.length<=i/\zs=((((xs.zip ys).take i).filter λ p=>t p.1 p.2).map λ p=>f p.1 p.2).map V.int) ⟨⟨l1,v0,ax⟩,aC.new a4,bA,Nat.le_refl _,rfl⟩ (λ i σ' H' zs _ ⟨_,_,aF,aX,_⟩=>⟨aF,aX⟩) (λ i σ' H' zs ay ⟨_,s',_⟩=>?_) (λ σ' H' zs ⟨_,s',aF,_,e⟩=>⟨?_,?_⟩) ?_
 ·refine ⟨_,_,.int xs[i],.int ys[i],aR.of (s' _ _ aw),aR.of (s' _ _ J),?_,?_⟩
  ·rw [List.getElem?_map,List.getElem?_eq_getElem (by omega)];rfl
  ·rw [List.getElem?_map,List.getElem?_eq_getElem (by omega)];rfl
 ·exact ⟨_,_,aR.of (s' _ _ aw),aR.of (s' _ _ J),by rw [List.length_map,List.length_map];omega⟩
 ·refine q H' s' ?_;rw [aF,e,<-hn,List.take_length];rfl
 ·rintro i σ' H' zs v ar ay ⟨⟨u,v,rfl⟩,s',aF,aX,e⟩ ⟨p,mS,rfl,x,y,rfl,i6⟩;obtain ⟨ak,aN⟩:=i6 _ _ (aR.of (s' _ _ aw)) (aR.of (s' _ _ J));obtain ⟨x,rfl,dj⟩:=kd ak;obtain ⟨y,rfl,eh⟩:=kd aN;have a9:(xs.zip ys)[i]?=some (x,y):=by rw [List.getElem?_zip_eq_some];exact ⟨dj,eh⟩
  have uS:=Zb (t:=t) (f:=f) a9;refine ⟨p,_,rfl,aR.of bA,rfl,_,_,rfl,_,_,rfl,rfl,?_⟩;have n3:(upd H' p (.tup [.int x,.int y])) D=some (.lst zs):=by rw [a8 (cj aF mS)];exact aF
  have s2:aC H1 (upd H' p (.tup [.int x,.int y])):=aC.more s' mS;refine aW x y _ _ (List.mem_of_getElem? dj) (List.mem_of_getElem? eh) ?_;cases kr:t x y with
  | true =>
   refine az x y _ _ (List.mem_of_getElem? dj) (List.mem_of_getElem? eh) kr ⟨n3,⟨_,_,rfl⟩,?_,bA,?_,?_⟩
   ·intro c o cU;rw [a8 (cj cU a4)];exact s2 c o cU
   ·rw [List.length_append];show zs.length+1<=i+1;omega
   ·rw [uS,e];simp [kr]
  | false =>
   refine ⟨n3,⟨_,_,rfl⟩,s2,n3,by omega,?_⟩;rw [uS,e];simp [kr]
theorem Z8 {K:PySem.W.Frag} {a D:Addr} {js:List (Option Nat)} {c_:TT} {bh:TE} {σ:St} {H1:ah} {Q:bz} {xs:List V} {σ0:St} {t:V->Bool} (aD:xs.length<=sizeLine) (ax : ∃ u,pick js σ=u::σ0) (a4:H1 D=none)
  (aw:H1 a=some (.lst xs))
  (aW : ∀ (x:V) (H':ah) (R:Bool->ah->Prop),aC H1 H'->x∈xs->R (t x) H'->c_ (some x::σ0) H' R)
  (az : ∀ (x:V) (H':ah) (R:bz),aC H1 H'->x∈xs->t x=true->R x H'->bh (some x::σ0) H' R)
  (q : ∀ H',aC H1 H'->H' D=some (.lst (xs.filter t))->Q (.ref D) H'):iI (rX K a) D js (gW 0) c_ bh σ H1 Q:=by
 obtain ⟨l1,ax⟩:=ax;refine C4 (n:=xs.length) aD (λ i σ' H' zs=>(∃ u:Option V,σ'=u::σ0)/\aC H1 H'/\H' D=some (.lst zs)/\zs.length<=i/\zs=(xs.take i).filter t) ⟨⟨l1,ax⟩,aC.new a4,bA,Nat.le_refl _,rfl⟩ (λ i σ' H' zs _ ⟨_,_,aF,aX,_⟩=>⟨aF,aX⟩) (λ i σ' H' zs ay ⟨_,s',_⟩=>⟨_,xs[i],a3.of (s' _ _ aw),List.getElem?_eq_getElem ay⟩) (λ σ' H' zs ⟨_,s',aF,_,e⟩=>⟨⟨_,a3.of (s' _ _ aw),Nat.le_refl _⟩,?_⟩) ?_
 ·refine q H' s' ?_;rw [aF,e,List.take_length]
 ·rintro i σ' H' zs x ar ay ⟨⟨u,rfl⟩,s',aF,aX,e⟩ ⟨rfl,ak⟩;have dj:=ak _ (a3.of (s' _ _ aw));have uS:(xs.take (i+1)).filter t=(xs.take i).filter t++(if t x=true then [x] else []):=by
   rw [List.take_add_one,dj];simp only [Option.toList_some,List.filter_append];congr 1;by_cases z:t x=true
   ·simp [z]
   ·simp [z]
  refine aW x _ _ s' (List.mem_of_getElem? dj) ?_;cases kr:t x with
  | true =>
   refine az x _ _ s' (List.mem_of_getElem? dj) kr ⟨aF,⟨_,rfl⟩,?_,bA,?_,?_⟩
   ·intro c o cU;rw [a8 (cj cU a4)];exact s' c o cU
   ·rw [List.length_append];show zs.length+1<=i+1;omega
   ·rw [uS,e];simp [kr]
  | false =>
   refine ⟨aF,⟨_,rfl⟩,s',aF,by omega,?_⟩;rw [uS,e];simp [kr]
end cy
namespace fz
theorem IG {p n:Nat} (ax:2<=p) (aD:1<=n) (J:n<=1000000000000):cnt p n<40:=by
 have e:=C3 ax n aD;have af:p ^ cnt p n<=n:=by
  have az:=wd ax n aD
  calc p ^ cnt p n<=p ^ cnt p n * strip p n:=Nat.le_mul_of_pos_right _ az
   _=n:=e.symm
 have ai:2 ^ cnt p n<=p ^ cnt p n:=Nat.pow_le_pow_left ax _;have aF:2 ^ cnt p n<2 ^ 40:=by
  have:(1000000000000:Nat)<2 ^ 40:=by decide
  omega
 exact (Nat.pow_lt_pow_iff_right (by decide)).mp aF
def FA (rows:List (List Int)):Prop := ∀ c∈rows,∀ x∈c,-40<x/\x<40
theorem S3 {i j:Nat} (ay:1<=i) (b3:1<=j) (bi:i<=1000000000000) (MU:j<=1000000000000) {x:Int} (h:x∈chg i j) : -40<x/\x<40:=by
 obtain ⟨k,aB⟩:=List.getElem?_of_mem h;unfold chg at aB;rw [List.getElem?_zipWith_eq_some] at aB;obtain ⟨a,b,aw,J,rfl⟩:=aB;have hm:=List.mem_of_getElem? aw;have l8:=List.mem_of_getElem? J;unfold fU at hm l8;obtain ⟨p,ax,rfl⟩:=List.mem_map.mp hm;obtain ⟨hD,mS,rfl⟩:=List.mem_map.mp l8;have:=IG (kS p ax) ay bi;have:=IG (kS hD mS) b3 MU;omega
theorem Us {p c:List Int} {t:Int} {i:Nat} {v:Int} (h:(cv p c t)[i]?=some v) : ∃ x y,p[i]?=some x/\c[i]?=some y/\v=x+t * y:=by
 unfold cv at h;rw [List.getElem?_zipWith_eq_some] at h;obtain ⟨x,y,ak,aN,rfl⟩:=h;exact ⟨x,y,ak,aN,rfl⟩
theorem Tf {p c:List Int} {t:Int} {i:Nat} {x y:Int} (ak:p[i]?=some x) (aN:c[i]?=some y):(cv p c t)[i]?=some (x+t * y):=by
 unfold cv;rw [List.getElem?_zipWith_eq_some];exact ⟨x,y,ak,aN,rfl⟩
theorem yP {p c a:List Int} {t:Int}:eF a (cv p c t)=true ↔ ∀ (i:Nat) (x y z:Int),p[i]?=some x->c[i]?=some y->a[i]?=some z->0<=x+t * y+z:=by
 rw [wa];constructor
 ·intro h i x y z ak aN a9;exact h i z _ a9 (Tf ak aN)
 ·intro h i z v a9 bf;obtain ⟨x,y,ak,aN,rfl⟩:=Us bf;exact h i x y z ak aN a9
theorem Z_ {p c a:List Int} {t:Int} (h:eF a (cv p c t)=false) : ∃ (i:Nat) (x y z:Int),p[i]?=some x/\c[i]?=some y/\a[i]?=some z/\x+t * y+z<0:=by
 by_cases z : ∃ (i:Nat) (x y z:Int),p[i]?=some x/\c[i]?=some y/\a[i]?=some z/\x+t * y+z<0
 ·exact z
 ·exfalso;have:eF a (cv p c t)=true:=yP.mpr λ i x y w ak aN hw=>by
   by_cases q:0<=x+t * y+w
   ·exact q
   ·exact absurd ⟨i,x,y,w,ak,aN,hw,by omega⟩ z
  rw [h] at this;cases this
theorem zd {p c a:List Int} {t:Int} {i:Nat} {x y z:Int} (ak:p[i]?=some x) (aN:c[i]?=some y) (a9:a[i]?=some z) (h:x+t * y+z<0):eF a (cv p c t)=false:=by
 rw [Bool.eq_false_iff];intro w;have:=yP.mp w i x y z ak aN a9;omega
def vB (p c:List Int):Option Nat->Prop
 | none => ∀ t:Nat,eF c (cv p c t)=true
 | some m=>(∀ t:Nat,t<m->eF c (cv p c t)=true)/\eF c (cv p c m)=false /\ ∃ x∈p,(m:Int)<=x
def qY (p c a:List Int):Option Nat->Prop
 | none => ∀ t:Nat,eF a (cv p c t)=false
 | some m=>(∀ t:Nat,t<m->eF a (cv p c t)=false)/\eF a (cv p c m)=true/\m<=1000
theorem Dy {t:Int->Int->Bool} {f:Int->Int->Int} {xs ys:List Int} {M:Int}:M∈cy.yl t f xs ys ↔ ∃ (i:Nat) (x y:Int),xs[i]?=some x/\ys[i]?=some y/\t x y=true/\M=f x y:=by
 unfold cy.yl;rw [List.mem_map];constructor
 ·rintro ⟨⟨x,y⟩,h,rfl⟩;obtain ⟨af,ai⟩:=List.mem_filter.mp h;obtain ⟨i,ay⟩:=List.getElem?_of_mem af;rw [List.getElem?_zip_eq_some] at ay;exact ⟨i,x,y,ay.1,ay.2,ai,rfl⟩
 ·rintro ⟨i,x,y,af,ai,aF,rfl⟩;refine ⟨(x,y),List.mem_filter.mpr ⟨?_,aF⟩,rfl⟩;exact List.mem_of_getElem? (i:=i) (by rw [List.getElem?_zip_eq_some];exact ⟨af,ai⟩)
abbrev vI (p c:List Int):List Int:=cy.yl (λ _ y=>decide (y<0)) (λ x y=>x / (-y)) p c
theorem XH {p c:List Int} (aD:nn p=true) (h:vI p c=[]):vB p c none:=λ t=>yP.mpr λ i x y z ak aN a9=>by
 rw [aN] at a9;cases a9;have x0:=ni.mp aD x (List.mem_of_getElem? ak);by_cases Ae:y<0
 ·have:x / (-y)∈vI p c:=Dy.mpr ⟨i,x,y,ak,aN,decide_eq_true Ae,rfl⟩;rw [h] at this;cases this
 ·have:=Int.mul_nonneg (Int.natCast_nonneg t) (show 0<=y by omega);omega
theorem XI {p c:List Int} (aD:nn p=true) {M:Int} (h:M∈vI p c) (hm : ∀ a∈vI p c,M<=a):0<=M/\vB p c (some M.toNat):=by
 obtain ⟨i,x,y,ak,aN,aW,rfl⟩:=Dy.mp h;have Ae:y<0:=of_decide_eq_true aW;have x0:=ni.mp aD x (List.mem_of_getElem? ak);have tL:0<=x / (-y):=Int.ediv_nonneg x0 (by omega);refine ⟨tL,λ t uT=>yP.mpr λ j e3 hg z dj eh a9=>?_,?_,x,List.mem_of_getElem? ak,?_⟩
 ·rw [eh] at a9;cases a9;have acX:=ni.mp aD e3 (List.mem_of_getElem? dj);by_cases Q4:hg<0
  ·have af:=hm (e3 / (-hg)) (Dy.mpr ⟨j,e3,hg,dj,eh,decide_eq_true Q4,rfl⟩);have ai:((t:Int)+1)<=e3 / (-hg):=by omega
   have aF:=(Int.le_ediv_iff_mul_le (show 0 < -hg by omega)).mp ai;rw [Int.mul_neg,Int.add_mul,Int.one_mul] at aF;omega
  ·have:=Int.mul_nonneg (Int.natCast_nonneg t) (show 0<=hg by omega);omega
 ·refine zd ak aN aN ?_;have aF : ¬ (x / (-y)+1)<=x / (-y):=by omega
  rw [Int.le_ediv_iff_mul_le (show 0 < -y by omega),Int.mul_neg,Int.add_mul,Int.one_mul] at aF;have e:((x / (-y)).toNat:Int)=x / (-y):=Int.toNat_of_nonneg tL;rw [e];omega
 ·rw [Int.toNat_of_nonneg tL];exact Int.ediv_le_self _ x0
def ic (p c a:List Int) (i:Nat) (m:Int):Prop:=0<=m/\m<=1000/\(∀ j,j<i -> ∀ x y z:Int,p[j]?=some x->c[j]?=some y->a[j]?=some z->0 < -z - x->0<y /\ -z - x<=m * y)/\(m=0 \/ ∃ (j:Nat) (x y z:Int),p[j]?=some x/\c[j]?=some y/\a[j]?=some z/\0<y/\(m - 1) * y < -z - x)
theorem ic.start {p c a:List Int}:ic p c a 0 0:=⟨Int.le_refl _,by decide,λ j h=>absurd h (by omega),.inl rfl⟩
theorem ic.skip {p c a:List Int} {i:Nat} {m x y z:Int} (h:ic p c a i m) (ak:p[i]?=some x) (a9:a[i]?=some z) (au : ¬ 0 < -z - x):ic p c a (i+1) m:=by
 obtain ⟨af,ai,aF,aX⟩:=h;refine ⟨af,ai,λ j b3 e3 hg dR dj eh hO i3=>?_,aX⟩;by_cases e:j=i
 ·subst e;rw [ak] at dj;rw [a9] at hO;cases dj;cases hO;exact absurd i3 au
 ·exact aF j (by omega) e3 hg dR dj eh hO i3
theorem ic.never {p c a:List Int} {i:Nat} {x y z:Int} (ak:p[i]?=some x) (aN:c[i]?=some y) (a9:a[i]?=some z) (au:0 < -z - x) (oc:y<=0):qY p c a none:=λ t=>zd ak aN a9 (by
 have:=Int.mul_nonneg (Int.natCast_nonneg t) (show 0 <= -y by omega);rw [Int.mul_neg] at this;omega)
theorem Uj {l y:Int} (au:0<l) (aN:0<y):l<=(l+y - 1) / y * y/\((l+y - 1) / y - 1) * y<l/\(l+y - 1) / y<=l/\0<=(l+y - 1) / y:=by
 have af:=Int.lt_ediv_add_one_mul_self (l+y - 1) aN;have ai:=Int.ediv_mul_le (l+y - 1) (show y≠0 by omega);rw [Int.add_mul,Int.one_mul] at af;refine ⟨by omega,by rw [Int.sub_mul,Int.one_mul];omega,?_,Int.ediv_nonneg (by omega) (by omega)⟩;refine Int.ediv_le_of_le_mul aN ?_;have:=Int.mul_nonneg (show 0<=l - 1 by omega) (show 0<=y - 1 by omega);rw [Int.sub_mul,Int.mul_sub,Int.one_mul,Int.mul_one] at this;omega
theorem ic.more {p c a:List Int} {i:Nat} {m x y z:Int} (h:ic p c a i m) (ak:p[i]?=some x) (aN:c[i]?=some y) (a9:a[i]?=some z) (au:0 < -z - x) (i3 : -z - x<=1000) (oc:0<y):ic p c a (i+1) (if (-z - x+y - 1) / y > m then (-z - x+y - 1) / y else m):=by
 obtain ⟨af,ai,aF,aX⟩:=h;obtain ⟨hB,k7,wH,zD⟩:=Uj au oc;by_cases r9:(-z - x+y - 1) / y > m
 ·rw [if_pos r9];refine ⟨zD,by omega,λ j b3 e3 hg dR dj eh hO i3=>?_,.inr ⟨i,x,y,z,ak,aN,a9,oc,k7⟩⟩;by_cases e:j=i
  ·subst e;rw [ak] at dj;rw [aN] at eh;rw [a9] at hO;cases dj;cases eh;cases hO;exact ⟨oc,hB⟩
  ·obtain ⟨k1,k2⟩:=aF j (by omega) e3 hg dR dj eh hO i3;have:=Int.mul_le_mul_of_nonneg_right (show m<=(-z - x+y - 1) / y by omega) (show 0<=hg by omega);exact ⟨k1,by omega⟩
 ·rw [if_neg r9];refine ⟨af,ai,λ j b3 e3 hg dR dj eh hO i3=>?_,aX⟩;by_cases e:j=i
  ·subst e;rw [ak] at dj;rw [aN] at eh;rw [a9] at hO;cases dj;cases eh;cases hO;have:=Int.mul_le_mul_of_nonneg_right (show (-z - x+y - 1) / y<=m by omega) (show 0<=y by omega);exact ⟨oc,by omega⟩
  ·exact aF j (by omega) e3 hg dR dj eh hO i3
theorem ic.less {p c a:List Int} {i:Nat} {m:Int} (h:ic p c a i m) {t:Nat} (aW:(t:Int)<m):eF a (cv p c t)=false:=by
 obtain ⟨af,ai,aF,aX⟩:=h;rcases aX with z | ⟨j,x,y,z,ak,aN,a9,oc,hm⟩
 ·omega
 ·refine zd ak aN a9 ?_;have:=Int.mul_le_mul_of_nonneg_right (show (t:Int)<=m - 1 by omega) (show 0<=y by omega);omega
theorem ic.yes {p c a:List Int} {i:Nat} {m:Int} (h:ic p c a i m) (hf:eF a (cv p c m)=true):qY p c a (some m.toNat):=by
 have af:=h.1;have ai:=h.2.1;refine ⟨λ t aW=>h.less (by omega),by rw [Int.toNat_of_nonneg af];exact hf,by omega⟩
theorem ic.no {p c a:List Int} {m:Int} (ax:p.length=10) (h:ic p c a 10 m) (hf:eF a (cv p c m)=false):qY p c a none:=λ t=>by
 by_cases aW:(t:Int)<m
 ·exact h.less aW
 ·obtain ⟨i,x,y,z,ak,aN,a9,dE⟩:=Z_ hf;obtain ⟨af,ai,aF,aX⟩:=h;refine zd ak aN a9 ?_;have ay:i<10:=by
   have:=(List.getElem?_eq_some_iff.mp ak).1;omega
  by_cases au:0 < -z - x
  ·obtain ⟨k1,k2⟩:=aF i ay x y z ak aN a9 au;omega
  ·have Ae:y<0:=by
    by_cases q:y<0
    ·exact q
    ·have:=Int.mul_nonneg af (show 0<=y by omega);omega
   have:=Int.mul_le_mul_of_nonneg_right (show m<=(t:Int) by omega) (show 0 <= -y by omega);rw [Int.mul_neg,Int.mul_neg] at this;omega
def Am (rows:List (List Int)) (p c:List Int) (k:Nat):Option Nat->Prop
 | none => ∀ t:Nat,c7 rows (cv p c t)=some k
 | some T=>(∀ t:Nat,t<T->c7 rows (cv p c t)=some k)/\c7 rows (cv p c T)≠some k
theorem K9 : ∀ {rows:List (List Int)} {p:List Int} {i:Nat},c7 rows p=some i -> ∀ j,j<i -> ∀ a,rows[j]?=some a->eF a p=false
 | [],_,_,h=>by cases h
 | c::r,p,i,h=>by
  unfold c7 at h;by_cases aj:eF c p=true
  ·rw [if_pos aj] at h;cases h;intro j b3;omega
  ·rw [if_neg aj] at h;cases e:c7 r p with
   | none=>rw [e] at h;cases h
   | some lb =>
    rw [e] at h;have ay:lb+1=i:=Option.some.inj h;subst ay;intro j b3 a aw;cases j with
    | zero=>cases aw;exact Bool.eq_false_iff.mpr aj
    | succ j=>exact K9 e j (by omega) a (by simpa using aw)
theorem yG {rows:List (List Int)} {q c:List Int} {k:Nat} (aB:rows[k]?=some c):c7 rows q=some k ↔ eF c q=true /\ ∀ j,j<k -> ∀ a,rows[j]?=some a->eF a q=false:=by
 constructor
 ·intro h;obtain ⟨cN,af,ai,_⟩:=pY h;rw [aB] at af;cases af;exact ⟨ai,K9 h⟩
 ·rintro ⟨af,ai⟩;exact yF rows q k ai (λ cN e=>by rw [aB] at e;cases e;exact af) (List.getElem?_eq_some_iff.mp aB).1
theorem Vp {rows:List (List Int)} {p c:List Int} {k:Nat} {o:Option Nat} {os:List (Option Nat)} (aB:rows[k]?=some c) (L:vB p c o) (F : ∀ j,j<k -> ∀ a,rows[j]?=some a -> ∃ q,os[j]?=some q/\qY p c a q) (h:(o::os).filterMap id=[]):Am rows p c k none:=λ t=>by
 have no : ∀ q∈o::os,q=none:=λ q aS=>by
  cases q with
  | none=>rfl
  | some T =>
   have:T∈(o::os).filterMap id:=List.mem_filterMap.mpr ⟨some T,aS,rfl⟩;rw [h] at this;cases this
 refine (yG aB).mpr ⟨?_,λ j b3 a aw=>?_⟩
 ·have:=no o List.mem_cons_self;subst this;exact L t
 ·obtain ⟨q,aS,f⟩:=F j b3 a aw;have:=no q (List.mem_cons_of_mem _ (List.mem_of_getElem? aS));subst this;exact f t
theorem Vq {rows:List (List Int)} {p c:List Int} {k:Nat} {o:Option Nat} {os:List (Option Nat)} (aB:rows[k]?=some c) (aG:os.length=k) (L:vB p c o) (F : ∀ j,j<k -> ∀ a,rows[j]?=some a -> ∃ q,os[j]?=some q/\qY p c a q) {T:Nat} (h:T∈(o::os).filterMap id) (hm : ∀ a∈(o::os).filterMap id,T<=a):Am rows p c k (some T)/\((∃ x∈p,(T:Int)<=x)\/T<=1000):=by
 have at_ : ∀ q jM,q∈o::os->q=some jM->T<=jM:=λ q jM aS e=>hm jM (List.mem_filterMap.mpr ⟨q,aS,by rw [e];rfl⟩)
 obtain ⟨q,aS,e⟩:=List.mem_filterMap.mp h;have eq:q=some T:=e;subst eq;have n8:=(List.getElem?_eq_some_iff.mp aB).1;have first : ∀ t:Nat,t<T->c7 rows (cv p c t)=some k:=λ t aW=>by
  refine (yG aB).mpr ⟨?_,λ j b3 a aw=>?_⟩
  ·cases o with
   | none=>exact L t
   | some m=>exact L.1 t (by have:=at_ _ m List.mem_cons_self rfl;omega)
  ·obtain ⟨aU,f3,f⟩:=F j b3 a aw;cases aU with
   | none=>exact f t
   | some m=>exact f.1 t (by have:=at_ _ m (List.mem_cons_of_mem _ (List.mem_of_getElem? f3)) rfl;omega)
 rcases List.mem_cons.mp aS with z | z
 ·subst z;exact ⟨⟨first,λ y=>by have:=((yG aB).mp y).1;rw [L.2.1] at this;cases this⟩,.inl L.2.2⟩
 ·obtain ⟨j,b3⟩:=List.getElem?_of_mem z;have xn:j<k:=by
   have:=(List.getElem?_eq_some_iff.mp b3).1;omega
  obtain ⟨aU,f3,f⟩:=F j xn _ (List.getElem?_eq_getElem (by omega));rw [b3] at f3;cases f3;exact ⟨⟨first,λ y=>by have:=((yG aB).mp y).2 j xn _ (List.getElem?_eq_getElem (by omega));rw [f.2.1] at this;cases this⟩,.inr f.2.2⟩
theorem Ur {p c:List Int} (s t:Int) (ax:p.length=10) (aj:c.length=10):cv (cv p c s) c t=cv p c (s+t):=by
 refine List.ext_getElem (by simp [cv,ax,aj]) λ i af ai=>?_
 simp only [cv,List.getElem_zipWith];rw [Int.add_mul];omega
theorem C7 {p c:List Int} (ax:p.length=10) (aj:c.length=10):cv p c 0=p:=by
 refine List.ext_getElem (by simp [cv,ax,aj]) λ i af ai=>?_
 simp only [cv,List.getElem_zipWith];omega
end fz
namespace bI
open PySem PySem.Spec PyProof.Rows
open PySem
theorem Ir {P:Program} {w:World} {X:aP}:Passes (i0 P w) X iu:=λ _ _ _ _ _ _ _ ⟨_,_,_,_,_,_,_,_,_,_,_,_,_,_,_,_,_,fL⟩=>fL.elim
end bI
namespace fz
theorem Jm (rows:List (List Int)) (a:Nat) (p:List Int) : ∀ b,goN rows (a+b) p=(goN rows a p).bind (goN rows b)
 | 0=>by
  show goN rows a p=(goN rows a p).bind λ q=>some q
  cases goN rows a p<;>rfl
 | b+1=>by
  show (goN rows (a+b) p).bind (gk rows)=(goN rows a p).bind λ q=>(goN rows b q).bind (gk rows)
  rw [Jm rows a p b];cases goN rows a p<;>rfl
theorem IK {rows:List (List Int)} {p c:List Int} {k:Nat} (aB:rows[k]?=some c) (ax:p.length=10) (aj:c.length=10) : ∀ (s:Nat),(∀ t:Nat,t<s->c7 rows (cv p c t)=some k)->goN rows s p=some (cv p c s)
 | 0,_=>by
  show some p=_;rw [show ((0:Nat):Int)=0 from rfl,C7 ax aj]
 | s+1,h=>by
  show (goN rows s p).bind (gk rows)=_;rw [IK aB ax aj s λ t aW=>h t (by omega)];show gk rows (cv p c s)=_;rw [CG (h s (by omega)) aB,Ur _ _ ax aj];rfl
theorem JV {rows:List (List Int)} {p q c:List Int} {k a s:Nat} (h:goN rows a p=some q) (aB:rows[k]?=some c) (ax:q.length=10) (aj:c.length=10) (az : ∀ t:Nat,t<s->c7 rows (cv q c t)=some k):goN rows (a+s) p=some (cv q c s):=by
 rw [Jm,h];exact IK aB ax aj s az
end fz
namespace bI
open PySem PySem.Spec PyProof.Rows
theorem KV {α β : Type} {F : α -> β -> Prop} : ∀ {l₁:List α} {l₂:List β},Paired F l₁ l₂ -> ∀ {i:Nat} {a : α},l₁[i]?=some a -> ∃ b,l₂[i]?=some b/\F a b
 | _,_,.nil,_,_,h=>by cases h
 | _,_,.cons r t,0,_,h=>by cases h;exact ⟨_,rfl,r⟩
 | _,_,.cons r t,i+1,_,h=>by
  obtain ⟨b,af,ai⟩:=KV t (by simpa using h);exact ⟨b,by simpa using af,ai⟩
theorem Ky {b1:g4} {n:Nat} {D:Addr} {js:List (Option Nat)} {g:eG} {c_:TT} {bh:TE} {σ:St} {H1:ah} {Q:bz} (aD:n<=sizeLine) (Pv:Nat->St->ah->List V->Prop) (h0:Pv 0 (pick js σ) (upd H1 D (.lst [])) [])
  (ax : ∀ i σ' H' ys,i<=n->Pv i σ' H' ys->H' D=some (.lst ys)/\ys.length<=i) (ks : ∀ i σ' H' ys,i<n->Pv i σ' H' ys->b1.go i H') (cB : ∀ σ' H' ys,Pv n σ' H' ys->b1.stop n H'/\Q (.ref D) H')
  (az : ∀ i σ' H' ys x ar,i<n->Pv i σ' H' ys->b1.j5 i H' x ar->g x σ' ar λ σ2 aK=>c_ σ2 aK λ k bt =>
   if k=true then bh σ2 bt λ y bc=>bc D=some (.lst ys)/\Pv (i+1) σ2 (upd bc D (.lst (ys++[y]))) (ys++[y]) else bt D=some (.lst ys)/\Pv (i+1) σ2 bt ys):iI b1 D js g c_ bh σ H1 Q:=C4 aD Pv h0 ax ks cB az
open PySem PySem.Spec PySem.SeqAt PyProof.Rows
section
variable {X:aP}
theorem Uq {prog:Program} {w:World} {A:Around} {E:Value->Shared->Prop} {s:Shared} {l:Addr} {vs:List Value} {ns:List Int} {Q:Value->Shared->Prop} (bU:A.handled=none)
  (au:s.heap.IsTuple l vs.toArray) (ay:IntsAre vs ns) (fF:0<ns.length)
  (h : ∀ h' M (t:Tok) bw,(∀ b o,s.heap.get? b=some o->h'.get? b=some o)->M∈ns->(∀ a,a∈ns->a<=M)->Q (.int M t) { s with heap:=h',toks:=bw }) :
  wpAny (model prog w) A (call (.builtin "max") [.ref l]) Q E s:=by
 obtain ⟨xs,e⟩:=ay.allInts.items;have i4:ns=xs.toList.map (·.1):=by rw [<-ay.numsOf,<-nums_intItems,<-e]
 have hsz:0<xs.size:=by
  have aF:=fF;rw [i4,List.length_map,Array.length_toList] at aF;exact aF
 rw [e] at au;have dE:l<s.heap.objs.size:=by obtain ⟨_,e,_⟩:=au;exact Heap.lt_size e
 refine call_max_walk (wpAny_pyIter_tuple au ?_);refine ⟨_,_,_,_,_,_,_,rfl,Walks.tuple (A:=A.in1) bU _ l (Nat.ne_of_lt dE) (intItems xs),⟨⟨_,Heap.get?_push_size _ rfl,rfl,rfl⟩,au.push _⟩,λ c aj=>?_,by simpa [intItems] using hsz,CmpOf.ints_gt (numAt xs) (λ _ _=>intItems_at),λ v h' bw c4 aB=>?_⟩
 ·show c<(s.heap.push _).objs.size;rw [Heap.size_push];rcases List.mem_cons.mp aj with rfl | aj
  ·exact Nat.lt_succ_self _
  ·rcases List.mem_cons.mp aj with rfl | aj
   ·exact Nat.lt_succ_of_lt dE
   ·cases aj
 ·have bf:(intItems xs)[argBest (λ i j=>decide (numAt xs i > numAt xs j)) (xs.size - 1)]?=some v:=by simpa [intItems] using c4
  obtain ⟨t,rfl⟩:=intItems_at bf;obtain ⟨af,ai⟩:=argBest_gt (numAt xs) (xs.size - 1);refine h _ _ t bw (λ b o ed=>aB b o (λ hm=>?_) (Heap.get?_push_of_some _ ed)) ?_ λ a aw=>?_
  ·rcases List.mem_cons.mp hm with aO | hm
   ·exact absurd (aO ▸ Heap.lt_size ed) (Nat.lt_irrefl _)
   ·cases hm
  ·rw [i4,numAt_eq];exact getD_mem (by rw [List.length_map,Array.length_toList];omega)
  ·rw [i4] at aw;obtain ⟨j,b3,rfl⟩:=mem_getD aw;rw [List.length_map,Array.length_toList] at b3;rw [<-numAt_eq];exact ai j (by omega)
theorem Xj (aj:X.calm=true):e7 X (.builtin "max") (λ xs H Q => ∃ (p:Addr) (ns:List Int),xs=[.ref p]/\aR X.K H p (ns.map V.int)/\ns≠[] /\ ∀ M,M∈ns->(∀ a,a∈ns->a<=M)->Q (.int M) H):=by
 intro pins s σ H xs us Q I r h;obtain ⟨p,ns,rfl,aS,fF,q⟩:=h;obtain ⟨u,rfl,a5⟩:=vals1 r;cases a5;obtain ⟨its,bB,pl,a9⟩:=I.tuple aS;refine Uq (I.ok.hd.1 aj) pl (intsAre_of bB) (by cases ns with | nil=>exact absurd rfl fF | cons=>simp) λ h' M t bw k g7 kk=>?_
 exact ⟨.int M,H,I.kept k,⟨_,rfl⟩,q M g7 kk⟩
end
end bI
namespace cy
open PySem bI fz
theorem MD {t:Nat->Bool} (i:Nat):(List.range (i+1)).filter t=(List.range i).filter t++(if t i=true then [i] else []):=by
 rw [List.range_succ,List.filter_append];congr 1;by_cases z:t i=true
 ·simp [z]
 ·simp [z]
end cy
namespace bI
open PySem PySem.Spec PyProof.Rows
def Aj (x:Str):g4:=⟨λ i _=>i<x.cps.size,λ i H y H'=>H'=H /\ ∃ c,x.cps[i]?=some c/\y=.str ⟨#[c]⟩,λ i _=>x.cps.size<=i⟩
theorem WY {c:Bool} (cY:c=true) {P:Program} {w:World} {K:PySem.W.Frag} {bb:Expr} (x:Str) (t:Tok) (it:Addr):Turn P w K c bb (Aj x) [it] it (λ i h=>h.IsStrIter it "str_ascii_iterator" x t i) where
 mem:=by simp
 obj:=λ i h st b J=>by
  have e:b=it:=by simpa using J
  subst e;obtain ⟨o,e,c,d⟩:=st;exact ⟨o,e,λ v z=>by rw [d] at z;cases z⟩
 keep:=λ i h h' st k=>by
  obtain ⟨o,e,c,d⟩:=st;exact ⟨o,k it (by simp) o e,c,d⟩
 item:=by
  intro X c4 hw dH iC aj i pins s σ H E I hf st aI;subst c4 hw dH;have ay:i<x.cps.size:=aI;have ak:x.cps[i]?=some x.cps[i]:=Array.getElem?_eq_getElem ay;obtain ⟨f0,f1,f2,dh,f4,d_⟩:=hf it (by simp);refine wpAny_pyNext_ascii_item st ak λ h' ib cR=>?_
  have aE:Inv X pins σ H { s with heap:=h',toks:=s.toks+1 }:=I.turned (λ b o J e=>(cR.2 b (by simpa using J)).trans e) f0 f1 dh f4 d_;obtain ⟨o,e,c,d⟩:=id ib;exact ⟨_,rfl,vE (s:={ s with heap:=h',toks:=s.toks+1 }) e c d (by decide) ⟨.str ⟨#[x.cps[i]]⟩,H,aE,⟨_,rfl⟩,⟨rfl,_,ak,rfl⟩,ib,λ b J=>(hf b J).1⟩⟩
 done:=by
  intro X c4 hw dH iC aj i pins s σ H E I hf st aI;subst c4 hw dH;have ay:x.cps.size<=i:=aI;obtain ⟨f0,f1,f2,dh,f4,d_⟩:=hf it (by simp);exact wpAny_pyNext_ascii_end (I.ok.hd.1 (iC.trans cY)) st (Array.getElem?_eq_none ay) λ h' ed=>⟨rfl,I.turned (t':=s.toks) (λ b o J e=>ed b o J e) f0 f1 dh f4 d_⟩
 self:=λ _ _ _ _ _ st h=>wpAny_pyIter_striter_ascii st h
section
variable {X:aP} {bb:Expr}
def HM (ck:TE):TI:=λ σ H R=>ck σ H λ v H1 => ∃ x:Str,v=.str x/\x.cps.all (· < 128)=true/\R (Aj x) H1
theorem TB {l:Expr} {ck:TE} (au:b9 X l ck) (cY:X.calm=true:=by rfl):k4 X bb l (HM ck):=by
 intro pins s σ H R I h;refine bj (au pins s σ H _ I h) λ v s1 ⟨y,H1,aE,bq,a7⟩=>?_
 obtain ⟨x,e,aw,q⟩:=a7;subst e;obtain ⟨t,rfl⟩:=(show ∃ t,v=Value.str x t from bq)
 refine wpAny_pyIter_ascii aw ?_;refine ⟨s1.heap.objs.size,[s1.heap.objs.size],_,_,H1,rfl,aE.kept (t':=s1.toks) λ b o e=>Heap.get?_push_of_some _ e,WY cY x t _,⟨_,Heap.get?_push_size _ rfl,rfl,rfl⟩,λ b J=>?_,q⟩;have e:b=s1.heap.objs.size:=by simpa using J
 subst e;exact aE.mi (Nat.le_refl _) (aE.a6.fresh (Nat.le_refl _))
theorem IY {l:Expr} {ck:TE} (au:bC X l ck) (cY:X.calm=true:=by rfl):jL X bb l (HM ck):=⟨TB au.o cY⟩
end
end bI
namespace cy
open PySem bI fz
theorem KA {D:Addr} {js:List (Option Nat)} {c_:TT} {bh:TE} {σ:St} {H1:ah} {Q:bz} {x:Str} {σ0:St} {t:Nat->Bool} {f:Nat->V} (aD:x.cps.size<=sizeLine) (ax : ∃ u,pick js σ=u::σ0) (a4:H1 D=none)
  (aW : ∀ (i c:Nat) (H':ah) (R:Bool->ah->Prop),aC H1 H'->x.cps[i]?=some c->(∀ ar,aC H' ar->R (t i) ar)->c_ (some (.str ⟨#[c]⟩)::σ0) H' R)
  (az : ∀ (i c:Nat) (H':ah) (R:bz),aC H1 H'->x.cps[i]?=some c->t i=true->(∀ ar,aC H' ar->R (f i) ar)->bh (some (.str ⟨#[c]⟩)::σ0) H' R)
  (q : ∀ H',aC H1 H'->H' D=some (.lst (((List.range x.cps.size).filter t).map f))->Q (.ref D) H'):iI (Aj x) D js (gW 0) c_ bh σ H1 Q:=by
 obtain ⟨l1,ax⟩:=ax;refine Ky (n:=x.cps.size) aD (λ i σ' H' zs=>(∃ u:Option V,σ'=u::σ0)/\aC H1 H'/\H' D=some (.lst zs)/\zs.length<=i/\zs=((List.range i).filter t).map f) ⟨⟨l1,ax⟩,aC.new a4,bA,Nat.le_refl _,rfl⟩ (λ i σ' H' zs _ ⟨_,_,aF,aX,_⟩=>⟨aF,aX⟩) (λ i σ' H' zs ay _=>ay) (λ σ' H' zs ⟨_,s',aF,_,e⟩=>⟨Nat.le_refl _,?_⟩) ?_
 ·refine q H' s' ?_;rw [aF,e]
 ·rintro i σ' H' zs v ar ay ⟨⟨u,rfl⟩,s',aF,aX,e⟩ ⟨rfl,c,aj,rfl⟩;refine aW i c _ _ s' aj λ aK s3=>?_
  cases kr:t i with
  | true =>
   refine az i c _ _ (s'.trans s3) aj kr λ bc s4=>⟨s4 _ _ (s3 _ _ aF),⟨_,rfl⟩,?_,bA,?_,?_⟩
   ·intro c o cU;rw [a8 (cj cU a4)];exact s4 _ _ (s3 _ _ (s' c o cU))
   ·rw [List.length_append];show zs.length+1<=i+1;omega
   ·rw [MD,e];simp [kr]
  | false =>
   refine ⟨s3 _ _ aF,⟨_,rfl⟩,s'.trans s3,s3 _ _ aF,by omega,?_⟩;rw [MD,e];simp [kr]
end cy
namespace bI
open PySem PySem.Spec PyProof.Rows cy
section
variable {X:aP} {cp:hL} {k:Nat} {f C:Addr} {fd:FuncData} {ag:List Str} {sp:bX} {eD:List V} {ds:List Value} {E:dz} {x m cW:Str} {p pos apos pos':Pos} {e o value:Expr} {ao:List Expr} {aZ ix:TE} {t:c3}
theorem lM (he:bC X e aZ) (J:attributeBase e cW X.env (eval e X.env)=eval e X.env):bC X (.Attribute e cW pos) (H3 X.K aZ cW):=⟨Tq he.o J⟩
theorem CD (aw:bC X o aZ) (bf:bC X value ix) (az:swapsWith value (some (.Attribute o cW pos')) pos.line X.env=pure false):gJ X (.Assign [.Attribute o cW pos'] value pos) (HX X.K aZ ix cW):=⟨TJ aw.o bf.o az⟩
theorem ka {pl:Sem Bool} (he:bC X o aZ) (c:jm X.K C) (hm:Meth X.K C m f) (F:dU X.prog X.w X.K X.mg X.base cp k f fd ag sp) (aq:dV k X.A) (J:Binds X.K fd ag ds) (hd:Vals eD ds) (ak:Passes cp X E) (aw:eZ X (e::ao) t)
  (cB:starEach (e::ao) X.env=(false,eval e X.env)::starEach ao X.env:=by rfl) (dp:(backTo pos (starEach ao X.env)).any (·.1)=false:=by rfl)
  (aW:eval (.Call (.Attribute o m apos) (e::ao) [] pos) X.env=(do
   let de ← eval o X.env
   standAt apos.atName
   let (f,first) ← holding [de] (getMethod de m pl)
   callWith pos f first (backTo pos (starEach (e::ao) X.env)) (backToKw pos (keywordEach [] X.env))):=by rfl) :
  bC X (.Call (.Attribute o m apos) (e::ao) [] pos) (yt C m sp eD E aZ t):=⟨UL (pl:=pl) he.o c hm F aq J hd ak aw.o cB dp aW⟩
theorem Dc {pl:Sem Bool} (he:bC X o aZ) (c:jm X.K C) (hm:Meth X.K C m f) (F:dU X.prog X.w X.K X.mg X.base cp k f fd ag sp) (aq:dV k X.A) (J:Binds X.K fd ag ds) (hd:Vals eD ds) (ak:Passes cp X E)
  (aW:eval (.Call (.Attribute o m apos) [] [] pos) X.env=(do
   let de ← eval o X.env
   standAt apos.atName
   let (f,first) ← holding [de] (getMethod de m pl)
   callWith pos f first (backTo pos (starEach [] X.env)) (backToKw pos (keywordEach [] X.env))):=by rfl) :
  bC X (.Call (.Attribute o m apos) [] [] pos) (yt C m sp eD E aZ m8):=⟨Wv (pl:=pl) he.o c hm F aq J hd ak aW⟩
theorem U6 (M:wC X.K C f) (F:dU X.prog X.w X.K X.mg X.base cp k f fd ag sp) (aq:dV (k+1) X.A) (aI:dy X x) (hm:X.mg x=some (.ref C)) (J:Binds X.K fd ag ds) (hd:Vals eD ds) (ak:Passes cp X E)
  (aw:eZ X (e::ao) t) (eg:(x == ("__debug__" : Str))=false:=by decide) (he:starEach (e::ao) X.env=(false,eval e X.env)::starEach ao X.env:=by rfl) (dp:(backTo pos (starEach ao X.env)).any (·.1)=false:=by rfl) :
  bC X (.Call (.Name x p) (e::ao) [] pos) (Cx C sp eD E t):=⟨UK M F aq aI hm J hd ak aw.o eg he dp⟩
end
abbrev cz (x:Str):Key:=Sum.inr x
section
variable {X:aP}
theorem Lc (bD:X.A.units+1<cLine):dD X (compareOp .NotIn) (λ y x H Q => ∃ (n:Str) (d:Addr) (kvs:List (Key×V)),y=.str n/\x=.ref d/\H d=some (.bp kvs)/\Q (.aJ (!(dZ kvs (cz n)).isSome)) H):=by
 intro pins s σ H y x u v Q I br a5 h;obtain ⟨n,d,kvs,rfl,rfl,hd,q⟩:=h;cases a5;exact Jg bD I (m2.k (k:=cz n) hd) br λ s3 b_=>⟨.aJ _,H,b_,rfl,q⟩
def T7 (hH ty:TE):TE:=λ σ H Q=>hH σ H λ x H1=>ty σ H1 λ y ar => ∃ (d:Addr) (n:Str) (kvs:List (Key×V)) (v:V),x=.ref d/\y=.str n/\ar d=some (.bp kvs)/\dZ kvs (cz n)=some v/\Q v ar
theorem WK {o i:Expr} {hH ty:TE} {pos:Pos} (bD:X.A.units+1<cLine) (aG:bC X o hH) (ay:bC X i ty) (az:BS i):bC X (.Subscript o i pos) (T7 hH ty):=⟨by
 intro pins s σ H Q I h;refine JC PySem.F.slot_dict_getitem.lookup az (bj (aG.o pins s σ H _ I h) λ u s1 ⟨x,H1,aE,a5,a7⟩=>bj (ay.o pins s1 σ H1 _ aE a7) λ dY s2 ⟨y,ar,bS,br,bV⟩=>?_);obtain ⟨d,n,kvs,v,rfl,rfl,hd,bf,q⟩:=bV;obtain rfl:u=Value.ref d:=a5;have g:m2 ar d (.str n) (some v):=by rw [<-bf];exact m2.k (k:=cz n) hd
 exact ⟨Lp bS g,KD bD bS g br λ cO s3 b_ eE=>⟨v,ar,b_,eE,q⟩⟩⟩
def TZ (hH ty ix:TE):dr:=λ D σ H=>ix σ H λ v H1=>hH σ H1 λ x ar=>ty σ ar λ y aK => ∃ (d:Addr) (n:Str) (kvs:List (Key×V)),x=.ref d/\y=.str n/\aK d=some (.bp kvs)/\kvs.length<sizeLine /\ ∀ bc,cy.bW d aK bc->bc d=some (.bp (putK kvs (cz n) v))->D.bF σ bc
theorem Dd {o i value:Expr} {hH ty ix:TE} {pos pos':Pos} (bD:X.A.units+1<cLine) (aG:bC X o hH) (ay:bC X i ty) (bf:bC X value ix) (az:swapsWith value (some (.Subscript o i pos')) pos.line X.env=pure false) :
  gJ X (.Assign [.Subscript o i pos'] value pos) (TZ hH ty ix):=⟨by
 intro pins s σ H D I h;refine wpAny_Assign_Subscript (bj (bf.o pins s σ H _ I h) λ r s1 ⟨v,H1,aE,bR,a7⟩=>bj (aG.o pins s1 σ H1 _ aE a7) λ u s2 ⟨x,ar,bS,a5,bV⟩=>bj (ay.o pins s2 σ ar _ bS bV) λ dY s3 ⟨y,aK,b_,br,ea⟩=>?_) az;obtain ⟨d,n,kvs,rfl,rfl,hd,au,q⟩:=ea;obtain rfl:u=Value.ref d:=a5;exact Xq bD b_ (xU.k (k:=cz n) hd au) br bR λ s4 cV=>⟨σ,_,cV,q _ cy.bW.upd bA⟩⟩
def TX:V->List V->ah->bz->Prop:=λ x vs H Q => ∃ (d:Addr) (n:Str) (kvs:List (Key×V)) (v:V),x=.ref d/\vs=[.str n]/\H d=some (.bp kvs)/\dZ kvs (cz n)=some v /\ ∀ H',cy.bW d H H'->H' d=some (.bp (oF kvs (cz n)))->Q v H'
theorem J1:rY X "dict.pop" TX:=by
 intro pins s σ H x vs v us Q I a5 bR h;obtain ⟨d,n,kvs,y,rfl,rfl,hd,bf,q⟩:=h;cases a5;obtain ⟨u,rfl,eI⟩:=bR.one;exact Sf I hd (k:=cz n) eI bf (.inl rfl) λ cO s' iR eE=>⟨y,_,iR,eE,q _ cy.bW.upd bA⟩
def TV:V->List V->ah->bz->Prop:=λ x vs H Q => ∃ (d:Addr) (n:Str) (kvs:List (Key×V)),x=.ref d/\vs=[.str n]/\H d=some (.bp kvs)/\Q ((dZ kvs (cz n)).getD .bg) H
theorem Wc:rY X "dict.get" TV:=by
 intro pins s σ H x vs v us Q I a5 bR h;obtain ⟨d,n,kvs,rfl,rfl,hd,q⟩:=h;cases a5;obtain ⟨u,rfl,eI⟩:=bR.one;obtain ⟨t,rfl⟩:=(show ∃ t,u=Value.str n t from eI)
 obtain ⟨_,hm,xs,rel,dd⟩:=vD I.a6 hd;refine call_meetsIn PySem.F.slot_dict_get dd.typeIs PySem.F.entry_dict_get (PySem.F.args_dict_get_2 _ _) (meets_dict_get (gZ X.prog X.w) d (Lw X.prog X.w n t) hm) ⟨_,dd.mapOf,?_⟩;exact ⟨(dZ kvs (cz n)).getD .bg,H,I.tok _,(rel.val (cz n)).getD (show RelV V.bg Value.none from rfl),q⟩
theorem Xi:e7 X (.builtin "len") (λ xs H Q => ∃ (d:Addr) (kvs:List (Key×V)),xs=[V.ref d]/\H d=some (.bp kvs)/\Q (.int kvs.length) H):=by
 intro pins s σ H xs us Q I r h;obtain ⟨d,kvs,rfl,hd,q⟩:=h;obtain ⟨u,rfl,a5⟩:=vals1 r;cases a5;exact Ia I (.inl hd) λ t s' iR=>⟨.int _,H,iR,⟨t,rfl⟩,q⟩
end
end bI
namespace cy
open PySem bI fz
theorem K6 {K:PySem.W.Frag} {a D:Addr} {js:List (Option Nat)} {bh:TE} {σ:St} {H1:ah} {Q:bz} {xs:List V} {σ0:St} (aD:xs.length<=sizeLine) (ax : ∃ u,pick js σ=u::σ0) (a4:H1 D=none)
  (aw:H1 a=some (.lst xs)) (p5:Nat->ah->List V->Prop) (h0:p5 0 (upd H1 D (.lst [])) [])
  (aB : ∀ i H' ar zs ys,H' D=some (.lst ys)->p5 i H' zs->bW D H' ar->p5 i ar zs)
  (az : ∀ (i:Nat) (x:V) (H':ah) (zs:List V) (R:bz),aC H1 H'->xs[i]?=some x->H' D=some (.lst zs)->zs.length=i->p5 i H' zs->(∀ z bc,aC H' bc->p5 (i+1) bc (zs++[z])->R z bc)->bh (some x::σ0) H' R)
  (q : ∀ H' zs,aC H1 H'->H' D=some (.lst zs)->zs.length=xs.length->p5 xs.length H' zs->Q (.ref D) H'):iI (rX K a) D js (gW 0) kc bh σ H1 Q:=by
 obtain ⟨l1,ax⟩:=ax;refine Ky (n:=xs.length) aD (λ i σ' H' zs=>(∃ u:Option V,σ'=u::σ0)/\aC H1 H'/\H' D=some (.lst zs)/\zs.length=i/\p5 i H' zs) ⟨⟨l1,ax⟩,aC.new a4,bA,rfl,h0⟩ (λ i σ' H' zs _ ⟨_,_,aF,aX,_⟩=>⟨aF,Nat.le_of_eq aX⟩) (λ i σ' H' zs ay ⟨_,s',_⟩=>⟨_,xs[i],a3.of (s' _ _ aw),List.getElem?_eq_getElem ay⟩) (λ σ' H' zs ⟨_,s',aF,aX,e⟩=>⟨⟨_,a3.of (s' _ _ aw),Nat.le_refl _⟩,q H' zs s' aF aX e⟩) ?_;rintro i σ' H' zs x ar ay ⟨⟨u,rfl⟩,s',aF,aX,e⟩ ⟨rfl,ak⟩;have dj:=ak _ (a3.of (s' _ _ aw));refine az i x _ zs _ s' dj aF aX e λ z bc s4 hG=>⟨s4 _ _ aF,⟨_,rfl⟩,?_,bA,by rw [List.length_append,aX];rfl,aB _ _ _ _ _ (s4 _ _ aF) hG bW.upd⟩
 intro c o cU;rw [a8 (cj cU a4)];exact s4 _ _ (s' c o cU)
end cy
namespace fz
open PySem PySem.NumText
abbrev t7 (c:Nat):Str:=⟨#[c]⟩
abbrev e6 (x:Str):List Nat:=x.cps.toList
end fz
namespace bI
open PySem PySem.Spec PyProof.Rows cy
section
variable {X:aP}
theorem IQ:dD X (compareOp .LtE) (λ x y H Q => ∃ i j:Str,x=.str i/\y=.str j/\Q (.aJ (!decide (fz.e6 j<fz.e6 i))) H):=by
 intro pins s σ H x y v u Q I a5 br h;obtain ⟨i,j,rfl,rfl,q⟩:=h;obtain ⟨t,rfl⟩:=(show ∃ t,v=Value.str i t from a5)
 obtain ⟨t',rfl⟩:=(show ∃ t,u=Value.str j t from br)
 exact P.le_str ⟨.aJ _,H,I,rfl,q⟩
end
end bI
namespace fz
open PySem PySem.NumText
instance (x:List Nat):Decidable (AllDigits x):=by unfold AllDigits;infer_instance
def t_ (x:Str):Prop := ∀ c∈e6 x,c<128
theorem t_.all {x:Str} (h:t_ x):x.cps.all (· < 128)=true:=by
 rw [Array.all_eq_true'];intro c aj;exact decide_eq_true (h c (Array.mem_toList_iff.mpr aj))
open cy
end fz
namespace Al
open PySem PySem.W PyProof.Rows bI
section
variable {prog:Program} {w:World} {A:Around} {E:Value->Shared->Prop} {s:Shared}
theorem take_all {T:String} {r d:Addr} {n:Nat} {P:Nat->Value->Prop} {Fz:Heap->Prop} {R:List Value->Shared->Prop} (K:KdlSrc prog w T r d n P Fz) (bU:A.handled=none) (a6:Fz s.heap) (aD:n<=sizeLine)
  (h : ∀ (g:Heap) (bw:Nat) (acc:Array Value),(∀ b o,s.heap.get? b=some o->g.get? b=some o)->s.heap.objs.size<g.objs.size->ItemsOf P acc n->R acc.toList { s with heap:=g,toks:=bw }) :
  wpAny (model prog w) A (collect (.ref r)) R E s:=by
 have lt:=K.there _ a6;have RL:(s.heap.push (seqObj "list" #[] 0)).get? s.heap.objs.size=some (seqObj "list" #[] 0):=Heap.get?_push_size _ rfl;have key:=kdl_extend (A:=A) (s:={ s with heap:=s.heap.push (seqObj "list" #[] 0) })
  (R:=λ (z:Result) (s':Shared) => ∃ (g:Heap) (bw:Nat) (acc:Array Value) (c:Nat),z=.ok (.ret (.ref s.heap.objs.size))/\s'={ s with heap:=g,toks:=bw }/\(∀ b o,s.heap.get? b=some o->g.get? b=some o)/\g.get? s.heap.objs.size=some { cls:=.type "list", dict:=none,data:=.seq acc c,slots:=#[] }/\ItemsOf P acc n)
  K bU (K.keep _ _ a6 λ b _ o e=>Heap.get?_push_of_some _ e) s.heap.objs.size (Nat.ne_of_gt lt.1) (Nat.ne_of_gt lt.2) (.ref s.heap.objs.size) 0 RL
  (λ g bw acc c aB c8 oB=>⟨g,bw,acc,c,rfl,rfl,λ b o e=>aB b o (Nat.ne_of_lt (Heap.lt_size e)) (Heap.get?_push_of_some _ e),c8,oB⟩) aD
 unfold collect;refine wpAny_bind (wpAny_runValue (codeAny_builtin entry_proto_collect' (show wpAny _ _ (do again (.builtin "list.__iadd__" ⟨[<-newList [],.ref r],[]⟩)) _ _ s from ?_)));refine wpAny_bind (wpAny_newList (wpAny_pure ⟨Code.quiet_builtin _ (by decide +kernel),codeAny_builtin entry_list_iadd' (show wpAny _ _ (Builtin.List.listExtendWith (.ref s.heap.objs.size) (.ref r) (.ref s.heap.objs.size)) _ _ { s with heap:=s.heap.push (seqObj "list" #[] 0) } from ?_)⟩));refine wpAny_mono key (λ z s' x=>?_) λ e s' x=>?_
 ·cases z with
  | again c =>
   refine ⟨x.1,codeAny_mono x.2 λ _ _ ⟨g,bw,acc,cN,aO,aQ,aB,c8,oB⟩=>?_⟩;subst aO aQ;exact (show wpAny _ A (load s.heap.objs.size>>=_) _ _ _ from wpAny_bind (wpAny_load c8 (wpAny_pure (h g bw acc aB (Heap.lt_size c8) oB))))
  | done v =>
   obtain ⟨g,bw,acc,cN,aO,aQ,aB,c8,oB⟩:=x;subst aQ;cases aO;exact (show wpAny _ A (load s.heap.objs.size>>=_) _ _ _ from wpAny_bind (wpAny_load c8 (wpAny_pure (h g bw acc aB (Heap.lt_size c8) oB))))
 ·obtain ⟨_,_,_,_,aO,_⟩:=x;cases aO
theorem LB {d:Addr} {vs:List (Key×Value)} {ns:List Str} {R:Value->Shared->Prop} (bU:A.handled=none) (lo:(d == sysModules)=false) (dd:s.heap.DictOf (gZ prog w) d vs) (aB:vs.map (·.1)=ns.map cz) (kp:ns.length<64)
  (k : ∀ (h':Heap) (bw:Nat) (p:Addr) (out:Array Value) (e:Nat) (ms:List Str),(∀ b b2,s.heap.get? b=some b2->h'.get? b=some b2)->s.heap.objs.size<=p->StrsAre out.toList ms->ms.Perm ns->sortedS ms=true->h'.get? p=some (seqObj "list" out e)->R (.ref p) { s with heap:=h',toks:=bw }) :
  wpAny (model prog w) A (call (.builtin "sorted") [.ref d]) R E s:=by
 obtain ⟨ep,kq⟩:=dd.dictAt;have au:vs.length=ns.length:=by
  have:=congrArg List.length aB;simpa using this
 refine Calls.call_function_entry kind_sorted plain_sorted entry_sorted (args_sorted1 _) (show wpAny _ _ (Builtin.«sorted» _) _ _ s from ?_);unfold Builtin.«sorted»;refine wpAny_bind (m:=checkCount "sorted" 1 1 _) (wpAny_pure (wpAny_bind (take_all (A:=A.in1) (kdl_dict (knd:=gZ prog w) (kvs:=vs) (ep:=ep) lo) bU kq (by rw [au,sizeLine_eq];omega) λ af t1 acc k1 Qd oB=>wpAny_bind (wpAny_newList ?_ ?_))))
 ·have al:acc.toList.length=ns.length:=by rw [Array.length_toList,oB.1,au]
  have at' : ∀ (j:Nat) (v:Value),acc.toList[j]?=some v -> ∃ x t,ns[j]?=some x/\v=.str x t:=λ j v bf=>by
   obtain ⟨key,x,ak,ay⟩:=oB.2 j v (by rw [<-Array.getElem?_toList];exact bf);have ai:(ns.map cz)[j]?=some key:=by rw [<-aB,List.getElem?_map,ak];rfl
   rw [List.getElem?_map] at ai;obtain ⟨y,aN,e⟩:=Option.map_eq_some_iff.mp ai;subst e;rcases mz (show pR (cz y) v=true from ay) with ⟨i,t,e,_⟩ | ⟨z,t,e,rfl⟩
   ·cases e
   ·cases e;exact ⟨y,t,aN,rfl⟩
  have c8:StrsAre acc.toList ns:=by
   have af:=strsAre_map acc.toList λ v bf=>by
    obtain ⟨j,b3⟩:=List.getElem?_of_mem bf;obtain ⟨x,t,_,e⟩:=at' j v b3;exact ⟨x,t,e⟩
   have e:acc.toList.map strOf=ns:=by
    apply List.ext_getElem?;intro j;rw [List.getElem?_map];cases b3:acc.toList[j]? with
    | some v =>
     obtain ⟨x,t,ak,rfl⟩:=at' j v b3;rw [ak];rfl
    | none =>
     have:=List.getElem?_eq_none_iff.mp b3;rw [List.getElem?_eq_none (by omega)];rfl
   rw [e] at af;exact af
  have N8:acc.toList.length<64:=by omega
  have An:(af.push (seqObj "list" acc.toList.toArray 0)).get? af.objs.size=some (seqObj "list" acc.toList.toArray 0):=Heap.get?_push_size _ rfl;refine wpAny_bind (wpAny_holding (wpAny_call_entry slot_list_sort ⟨_,An,rfl⟩ entry_list_sort (list_sort_treeK strKind_oneLt An c8.keysOf (λ v₁ v₂ rest e=>keyKind_strs (by rw [<-e];exact c8)) N8 λ ib ax az=>⟨_,rfl,wpAny_pure ⟨_,rfl,?_⟩⟩) (args_list_sort _)));obtain ⟨ms,g7,kk,Nk⟩:=sorted_out_str c8 ax az;obtain ⟨e,he⟩:=sortedHeap_at (out:=(arrOf ib).map (·.2)) An;exact k _ t1 af.objs.size _ e ms (λ dO b2 y=>(sortedHeap_old (Nat.ne_of_lt (Heap.lt_size (k1 dO b2 y))) (by rw [Heap.size_push];exact Nat.lt_succ_of_lt (Heap.lt_size (k1 dO b2 y)))).trans (Heap.get?_push_of_some _ (k1 dO b2 y))) (Nat.le_of_lt Qd) g7 kk Nk he
 ·rw [Array.length_toList,oB.1,au,sizeLine_eq];omega
end
end Al
namespace bI
open PySem PySem.Spec PyProof.Rows
section
variable {X:aP}
theorem D1 : ∀ {vs:List Value} {ns:List Str},StrsAre vs ns->Vals (ns.map V.str) vs
 | _,_,.nil=>.nil
 | _,_,.cons y t h=>.cons ⟨t,rfl⟩ (D1 h)
theorem aaC (aj:X.calm=true):e7 X (.builtin "sorted") (λ xs H Q => ∃ (d:Addr) (kvs:List (Key×V)) (ns:List Str),xs=[V.ref d]/\H d=some (.bp kvs)/\kvs.map (·.1)=ns.map cz/\ns.length<64 /\ ∀ ms:List Str,ms.Perm ns->sortedS ms=true->kF (.lst (ms.map V.str)) H Q):=by
 intro pins s σ H xs us Q I r h;obtain ⟨d,kvs,ns,rfl,hd,aB,kp,q⟩:=h;obtain ⟨u,rfl,a5⟩:=vals1 r;cases a5;obtain ⟨_,lo,vs,rel,dd⟩:=vD I.a6 hd;refine Al.LB (I.ok.hd.1 aj) lo dd (by rw [<-rel.keys];exact aB) kp λ aF BH dJ out e ms old ge aG pm rQ Ao=>?_
 refine ⟨.ref dJ,_,I.laid (a:=dJ) (t':=BH) old ge (show dW X.prog X.w _ _ _ (.lst (ms.map V.str)) from ⟨?_,out.toList,e,D1 aG,?_⟩),rfl,(q ms pm rQ).at _ (I.a6.fresh ge)⟩
 ·rw [List.length_map,pm.length_eq,sizeLine_eq];omega
 ·exact Ao
end
open PySem PySem.Spec PyProof.Rows cy
section
variable {X:aP}
theorem YY:e7 X (.type "dict") (λ xs H Q => ∃ (d:Addr) (kvs:List (Key×V)),xs=[V.ref d]/\dx H d (.bp kvs)/\kF (.bp kvs) H Q):=by
 intro pins s σ H xs us Q I r h;obtain ⟨d,kvs,rfl,hd,q⟩:=h;obtain ⟨u,rfl,a5⟩:=vals1 r;cases a5;obtain ⟨z,lo,vs,rel,dd⟩:=q3 I.a6 hd;refine kt_call_dict lo dd (by rw [<-rel.length];exact z) λ h' lu cR=>?_
 have old : ∀ b o,s.heap.get? b=some o->h'.get? b=some o:=λ b o y=>cR.extBut _ _ (Nat.ne_of_lt (Heap.lt_size y)) (Heap.get?_push_of_some _ y)
 have big:(s.heap.objs.size == sysModules)=false:=by
  have:=I.big;rw [beq_eq_false_iff_ne];exact Nat.ne_of_gt this
 exact ⟨.ref s.heap.objs.size,_,I.laid (a:=s.heap.objs.size) (t':=s.toks) old (Nat.le_refl _) (Cz z big rel lu),rfl,q.at _ (I.a6.fresh (Nat.le_refl _))⟩
theorem Lb (bD:X.A.units+1<cLine):dD X (compareOp .NotIn) (λ y x H Q => ∃ (n:Str) (d:Addr) (kvs:List (Key×V)),y=.str n/\x=.ref d/\dx H d (.bp kvs)/\Q (.aJ (!(dZ kvs (cz n)).isSome)) H):=by
 intro pins s σ H y x u v Q I br a5 h;obtain ⟨n,d,kvs,rfl,rfl,hd,q⟩:=h;cases a5;exact Jg bD I (show m2 H d (.str n) _ from .inl ⟨kvs,cz n,hd,rfl,rfl⟩) br λ s3 b_=>⟨.aJ _,H,b_,rfl,q⟩
def Vs (hH ty:TE):TE:=λ σ H Q=>hH σ H λ x H1=>ty σ H1 λ y ar => ∃ (d:Addr) (n:Str) (kvs:List (Key×V)) (v:V),x=.ref d/\y=.str n/\dx ar d (.bp kvs)/\dZ kvs (cz n)=some v/\Q v ar
theorem DC {o i:Expr} {hH ty:TE} {pos:Pos} (bD:X.A.units+1<cLine) (aG:bC X o hH) (ay:bC X i ty) (az:BS i):bC X (.Subscript o i pos) (Vs hH ty):=⟨by
 intro pins s σ H Q I h;refine JC PySem.F.slot_dict_getitem.lookup az (bj (aG.o pins s σ H _ I h) λ u s1 ⟨x,H1,aE,a5,a7⟩=>bj (ay.o pins s1 σ H1 _ aE a7) λ dY s2 ⟨y,ar,bS,br,bV⟩=>?_);obtain ⟨d,n,kvs,v,rfl,rfl,hd,bf,q⟩:=bV;obtain rfl:u=Value.ref d:=a5;have g:m2 ar d (.str n) (some v):=.inl ⟨kvs,cz n,hd,rfl,bf.symm⟩;exact ⟨Lp bS g,KD bD bS g br λ cO s3 b_ eE=>⟨v,ar,b_,eE,q⟩⟩⟩
theorem DN:e7 X (.builtin "len") (λ xs H Q => ∃ (d:Addr) (kvs:List (Key×V)),xs=[V.ref d]/\dx H d (.bp kvs)/\Q (.int kvs.length) H):=by
 intro pins s σ H xs us Q I r h;obtain ⟨d,kvs,rfl,hd,q⟩:=h;obtain ⟨u,rfl,a5⟩:=vals1 r;cases a5;exact Ia I hd λ t s' iR=>⟨.int _,H,iR,⟨t,rfl⟩,q⟩
theorem Et (aj:X.calm=true):e7 X (.builtin "sorted") (λ xs H Q => ∃ (d:Addr) (kvs:List (Key×V)) (ns:List Str),xs=[V.ref d]/\dx H d (.bp kvs)/\kvs.map (·.1)=ns.map cz/\ns.length<64 /\ ∀ ms:List Str,ms.Perm ns->sortedS ms=true->kF (.lst (ms.map V.str)) H Q):=by
 intro pins s σ H xs us Q I r h;obtain ⟨d,kvs,ns,rfl,hd,aB,kp,q⟩:=h;obtain ⟨u,rfl,a5⟩:=vals1 r;cases a5;obtain ⟨_,lo,vs,rel,dd⟩:=q3 I.a6 hd;refine Al.LB (I.ok.hd.1 aj) lo dd (by rw [<-rel.keys];exact aB) kp λ aF BH dJ out e ms old ge aG pm rQ Ao=>?_
 refine ⟨.ref dJ,_,I.laid (a:=dJ) (t':=BH) old ge (show dW X.prog X.w _ _ _ (.lst (ms.map V.str)) from ⟨?_,out.toList,e,D1 aG,?_⟩),rfl,(q ms pm rQ).at _ (I.a6.fresh ge)⟩
 ·rw [List.length_map,pm.length_eq,sizeLine_eq];omega
 ·exact Ao
end
theorem Inv.T4 {X:aP} {pins:List (Addr×Obj)} {σ:St} {H:ah} {s:Shared} {d:Addr} {bK:Obj} {kvs:List (Key×V)} (I:Inv X pins σ H s) (hd:H d=some (.bp kvs)) (aG:s.heap.get? d=some bK):Inv X pins σ (upd H d (.fB bK (.bp kvs))) s:=by
 have up : ∀ {b:Addr} {o:dG},H b=some o->o≠.bp kvs->upd H d (.fB bK (.bp kvs)) b=some o:=λ {b o} e n=>by rw [a8 (cI e hd n)];exact e
 have un : ∀ {b:Addr},H b=none->upd H d (.fB bK (.bp kvs)) b=none:=λ {b} e=>by rw [a8 (λ z=>by rw [z,hd] at e;cases e)];exact e
 refine I.step (g':=s.gens) (d':=s.drawn) (ch:=[]) (λ _ z=>nomatch z) (λ b o _ _ _ e _=>e) (λ b o _ _ _ e _=>⟨o.slots,e⟩) (λ b o _ e n=>un n) (λ b o _ e=>⟨o,e⟩) (λ b xs e=>up e (by intro z;cases z)) (λ b o u e=>up e (by intro z;cases z)) (λ b ag e=>⟨#[],by rw [up e (by intro z;cases z)];simp⟩) (λ m hm=>hm) (λ b u e=>?_) I.bare;by_cases z:b=d
 ·subst z;rw [bA] at e;cases e;exact ⟨aG,(I.a6 b _ hd).ih (λ c v _ q=>q) (λ c q=>up q (by intro z;cases z)) λ c ys q=>up q (by intro z;cases z)⟩
 ·rw [a8 z] at e;exact (I.a6 b u e).ih (λ c v _ q=>q) (λ c q=>up q (by intro z;cases z)) λ c ys q=>up q (by intro z;cases z)
def rW (bK:Obj) (d:Addr):g4 :=
 ⟨λ i H => ∃ kvs:List (Key×V),H d=some (.fB bK (.bp kvs))/\i<kvs.length,λ i H x H'=>H'=H /\ ∀ kvs:List (Key×V),H d=some (.fB bK (.bp kvs)) -> ∃ k v,kvs[i]?=some (k,v)/\x=cF k,λ i H => ∃ kvs:List (Key×V),H d=some (.fB bK (.bp kvs))/\kvs.length<=i⟩
theorem Inv.keysAt {X:aP} {pins:List (Addr×Obj)} {σ:St} {H:ah} {s:Shared} {d:Addr} {bK:Obj} {kvs:List (Key×V)} (I:Inv X pins σ H s) (hd:H d=some (.fB bK (.bp kvs))) :
  s.heap.get? d=some bK /\ ∃ vs,fw kvs vs/\s.heap.DictOf (gZ X.prog X.w) d vs:=by
 obtain ⟨aG,_,_,vs,rel,dd⟩:=(show dW X.prog X.w H s.heap d (.fB bK (.bp kvs)) from I.a6 d _ hd)
 exact ⟨aG,vs,rel,dd⟩
def Q7 (bK:Obj) (d j:Addr) (i:Nat) (h:Heap):Prop := ∃ ao ep,bK.data=.dict ao ep/\h.IsKeyIter j d i ao.size ep
theorem Ds {P:Program} {w:World} {h:Heap} {d:Addr} {bK:Obj} {vs:List (Key×Value)} {ao:Array DictEntry} {ep:Nat} (aG:h.get? d=some bK) (he:bK.data=.dict ao ep) (dd:h.DictOf (gZ P w) d vs):h.DictAt (gZ P w) d vs ep/\ao.size=vs.length:=by
 obtain ⟨o,lx,xf,af,ai,aF,aX,bT,dn⟩:=dd;rw [aG] at af;cases af;rw [he] at aF;cases aF;exact ⟨⟨bK,ao,aG,ai,he,aX,bT,dn⟩,by rw [<-bT.length,Array.length_toList]⟩
theorem YB {c:Bool} (cY:c=true) {P:Program} {w:World} {K:PySem.W.Frag} {bb:Expr} {j d:Addr} {bK:Obj}:Turn P w K c bb (rW bK d) [j] j (λ i h=>Q7 bK d j i h) where
 mem:=List.mem_cons_self
 obj:=λ i h st c aj=>by
  obtain ⟨ao,ep,_,o,af,ai,aF⟩:=st;rw [List.mem_singleton] at aj;subst aj;exact ⟨o,af,λ v q=>by rw [aF] at q;cases q⟩
 keep:=λ i h h' st k=>by
  obtain ⟨ao,ep,h0,o,af,ai⟩:=st;exact ⟨ao,ep,h0,o,k _ (by simp) _ af,ai⟩
 item:=by
  intro X c4 hw dH iC aj i pins s σ H E I hf st aI;subst c4 hw dH;obtain ⟨ao,ep,h0,af⟩:=st;obtain ⟨kvs,hd,ay⟩:=aI;obtain ⟨aG,vs,rel,dd⟩:=I.keysAt hd;obtain ⟨kq,hsz⟩:=Ds aG h0 dd;rw [hsz] at af;obtain ⟨⟨fa,iz⟩,g1,g2⟩:=KV rel (show kvs[i]?=some (kvs[i].1,kvs[i].2) from List.getElem?_eq_getElem ay);obtain ⟨f0,f1,f2,dh,f4,d_⟩:=hf j (by simp);have M3:kvs[i].1=fa:=g2.1;refine wpAny_pyNext_dict_item af kq g1 λ key h' B2 ib cR=>⟨key,rfl,?_⟩
  have aE:Inv X pins σ H { s with heap:=h' }:=I.turned (t':=s.toks) (λ b o J e=>(cR.2 b J).trans e) f0 f1 dh f4 d_;obtain ⟨o,e,cN,d'⟩:=id ib;refine vE (s:={ s with heap:=h' }) e cN d' (by decide) ⟨cF kvs[i].1,H,aE,?_,⟨rfl,λ ac_ hd2=>?_⟩,⟨ao,ep,h0,by rw [hsz];exact ib⟩,λ b J=>(hf b J).1⟩
  ·rw [M3];rcases mz (show pR fa key=true from B2) with ⟨n,t,rfl,rfl⟩ | ⟨x,t,rfl,rfl⟩
   ·exact ⟨t,rfl⟩
   ·exact ⟨t,rfl⟩
  ·rw [hd] at hd2;cases hd2;exact ⟨_,_,List.getElem?_eq_getElem ay,rfl⟩
 done:=by
  intro X c4 hw dH iC aj i pins s σ H E I hf st aI;subst c4 hw dH;obtain ⟨ao,ep,h0,af⟩:=st;obtain ⟨kvs,hd,ay⟩:=aI;obtain ⟨aG,vs,rel,dd⟩:=I.keysAt hd;obtain ⟨kq,hsz⟩:=Ds aG h0 dd;rw [hsz] at af;obtain ⟨f0,f1,f2,dh,f4,d_⟩:=hf j (by simp);exact wpAny_pyNext_dict_end (I.ok.hd.1 (iC.trans cY)) af kq (List.getElem?_eq_none (by rw [<-rel.length];exact ay)) λ h' ed=>⟨rfl,I.turned (t':=s.toks) (λ b o J e=>ed b o J e) f0 f1 dh f4 d_⟩
 self:=λ A i s Q E st h=>by
  obtain ⟨ao,ep,h0,af⟩:=st;have ty:=af.typeIs (s:=s);refine wpAny_pyIter_slot ty F.slot_dict_keyiterator_iter (wpAny_call_entry F.slot_dict_keyiterator_iter ty F.entry_dict_keyiterator_iter ?_ (F.args_dict_keyiterator_iter_1 _));exact wpAny_pure ⟨_,rfl, "dict_keyiterator", _,ty,F.slot_dict_keyiterator_next.lookup,h⟩
section
variable {X:aP} {bb:Expr}
def Sl (hH:TE):TI:=λ σ H R=>hH σ H λ x H1 => ∃ d kvs,x=.ref d/\dx H1 d (.bp kvs) /\ ∀ bK ar,(∀ c,c≠d->ar c=H1 c)->ar d=some (.fB bK (.bp kvs))->R (rW bK d) ar
theorem U7 {o:Expr} {hH:TE} (aG:bC X o hH) (cY:X.calm=true:=by rfl):jL X bb o (Sl hH):=⟨by
 intro pins s σ H R I h;refine bj (aG.o pins s σ H _ I h) λ u s1 ⟨x,H1,aE,a5,d,kvs,ex,GK,q⟩=>?_
 subst ex;cases a5;have key : ∀ bK:Obj,s1.heap.get? d=some bK->(∃ vs,s1.heap.DictOf (gZ X.prog X.w) d vs)->(d == sysModules)=false -> ∀ ar,(∀ h',(∀ b o,s1.heap.get? b=some o->h'.get? b=some o)->Inv X pins σ ar { s1 with heap:=h' })->ar s1.heap.objs.size=none->R (rW bK d) ar->wpAny (model X.prog X.w) X.A (pyIter (.ref d)) (Ak X pins σ bb R) X.cP s1:=by
  intro bK aG ⟨vs,dd⟩ lo ar bS f2 r;obtain ⟨o,ao,ep,af,ai,aF,aX⟩:=id dd;rw [aG] at af;cases af;obtain ⟨kq,hsz⟩:=Ds aG aF dd;refine wpAny_pyIter_dict lo kq ?_;refine ⟨s1.heap.objs.size,[s1.heap.objs.size],_,_,ar,rfl,bS _ λ b o e=>Heap.get?_push_of_some _ e,YB cY,⟨ao,ep,aF,_,Heap.get?_push_size _ rfl,rfl,by rw [hsz];rfl⟩,λ b J=>?_,r⟩;rw [List.mem_singleton.mp J];exact aE.mi (Nat.le_refl _) f2
 rcases GK with hd | ⟨bK,hd⟩
 ·obtain ⟨_,lo,vs,rel,dd⟩:=vD aE.a6 hd;obtain ⟨bK,ao,ep,af,ai⟩:=id dd;have fr:H1 s1.heap.objs.size=none:=aE.a6.fresh (Nat.le_refl _);exact key bK af ⟨vs,dd⟩ lo _ (λ h' k=>((aE.kept (t':=s1.toks) k).T4 hd (k _ _ af))) (by rw [a8 (λ z=>by rw [z,hd] at fr;cases fr)];exact fr) (q bK _ (λ c ef=>a8 ef) bA)
 ·obtain ⟨aG,_,lo,vs,rel,dd⟩:=(show dW X.prog X.w H1 s1.heap d (.fB bK (.bp kvs)) from aE.a6 d _ hd)
  exact key bK aG ⟨vs,dd⟩ lo _ (λ h' k=>aE.kept (t':=s1.toks) k) (aE.a6.fresh (Nat.le_refl _)) (q bK H1 (λ _ _=>rfl) hd)⟩
theorem VU {bK:Obj} {d:Addr} {bl:List (Key×V)} {g:eG} {bk:dr} {D:Ends} {σ:St} {H:ah} (Pv:Nat->St->ah->Prop) (h0:Pv 0 σ H) (au : ∀ i σ H,i<=bl.length->Pv i σ H->H d=some (.fB bK (.bp bl)))
  (az : ∀ i k v σ H,bl[i]?=some (k,v)->Pv i σ H->g (cF k) σ H λ σ2 ar=>bk { D with bF:=Pv (i+1),cu:=Pv (i+1),aY:=D.bF } σ2 ar) (hd : ∀ σ H,Pv bl.length σ H->D.bF σ H) :
  ∃ W:Nat->Nat->St->ah->Prop,(∃ m,W 0 m σ H) /\ ∀ i m σ H,W i m σ H ->
   ((rW bK d).stop i H/\D.bF σ H)\/((rW bK d).go i H /\ ∃ N:St->ah->Prop,(∀ σ' H',N σ' H' -> ∃ cJ,cJ<m/\W (i+1) cJ σ' H') /\ ∀ x H',(rW bK d).j5 i H x H'->g x σ H' λ σ2 ar=>bk { D with bF:=N,cu:=N,aY:=D.bF } σ2 ar):=by
 refine ⟨λ i m σ H=>m=bl.length - i/\i<=bl.length/\Pv i σ H,⟨bl.length,by simp,Nat.zero_le _,h0⟩,?_⟩;rintro i m σ H ⟨rfl,ay,p⟩;have q:=au i σ H ay p;by_cases dE:i<bl.length
 ·refine .inr ⟨⟨bl,q,dE⟩,Pv (i+1),λ σ' H' hD=>⟨bl.length - (i+1),by omega,rfl,dE,hD⟩,λ x H' y=>?_⟩;obtain ⟨e,y⟩:=y;subst e;obtain ⟨k,v,af,rfl⟩:=y bl q;exact az i k v σ _ af p
 ·have e:i=bl.length:=by omega
  subst e;exact .inl ⟨⟨bl,q,Nat.le_refl _⟩,hd σ H p⟩
end
end bI
namespace fz
section
variable {α β : Type} [DecidableEq α]
def d6 (b:List (α × β)) (x : α):Option β := (b.find? λ p=>decide (p.1=x)).map (·.2)
def hq (b:List (α × β)) (x : α) (e : β):List (α × β):=if (b.any λ p=>decide (p.1=x))=true then b.map (λ p=>if p.1=x then (p.1,e) else p) else b++[(x,e)]
def hs (b:List (α × β)) (x : α):List (α × β):=b.filter λ p=>decide (p.1≠x)
abbrev ei (b:List (α × β)):List α := b.map (·.1)
theorem tp {p : α × β} {b:List (α × β)} {x : α}:d6 (p::b) x=if p.1=x then some p.2 else d6 b x:=by
 unfold d6;rw [List.find?_cons];by_cases h:p.1=x
 ·rw [decide_eq_true h,if_pos h];rfl
 ·rw [decide_eq_false h,if_neg h]
theorem y4 {b:List (α × β)} {x : α}:d6 b x=none ↔ x∉ei b:=by
 induction b with
 | nil=>exact ⟨λ _ h=>by simp at h,λ _=>rfl⟩
 | cons p b c5 =>
  rw [tp];by_cases h:p.1=x
  ·rw [if_pos h];simp [h]
  ·rw [if_neg h,c5];simp only [ei,List.map_cons,List.mem_cons,not_or];exact ⟨λ z=>⟨λ e=>h e.symm,z⟩,λ z=>z.2⟩
theorem tf {b:List (α × β)} {x : α} {e : β} (h:d6 b x=some e):(x,e)∈b:=by
 induction b with
 | nil=>cases h
 | cons p b c5 =>
  rw [tp] at h;by_cases ax:p.1=x
  ·rw [if_pos ax] at h;cases h;rw [<-ax];exact List.mem_cons_self
  ·rw [if_neg ax] at h;exact List.mem_cons_of_mem _ (c5 h)
theorem yS {b:List (α × β)} (cX:(ei b).Nodup) {x : α} {e : β} (h:(x,e)∈b):d6 b x=some e:=by
 induction b with
 | nil=>cases h
 | cons p b c5 =>
  rw [tp];have mW:=List.nodup_cons.mp cX;rcases List.mem_cons.mp h with z | z
  ·subst z;rw [if_pos rfl]
  ·rw [if_neg (λ cU=>mW.1 (show p.1∈_ by rw [cU];exact List.mem_map_of_mem (f:=(·.1)) z))];exact c5 mW.2 z
theorem any_keys {b:List (α × β)} {x : α}:(b.any λ p=>decide (p.1=x))=true ↔ x∈ei b:=by
 rw [List.any_eq_true];constructor
 ·rintro ⟨p,ax,e⟩;rw [<-of_decide_eq_true e];exact List.mem_map_of_mem (f:=(·.1)) ax
 ·intro h;obtain ⟨p,ax,e⟩:=List.mem_map.mp h;exact ⟨p,ax,decide_eq_true e⟩
theorem sX {b:List (α × β)} {x : α} {e : β} (h:x∈ei b):hq b x e=b.map (λ p=>if p.1=x then (p.1,e) else p):=if_pos (any_keys.mpr h)
theorem rl {b:List (α × β)} {x : α} {e : β} (h:x∉ei b):hq b x e=b++[(x,e)]:=if_neg λ z=>h (any_keys.mp z)
theorem keys_map {b:List (α × β)} {x : α} {e : β}:ei (b.map (λ p=>if p.1=x then (p.1,e) else p))=ei b:=by
 show List.map _ (List.map _ b)=_;rw [List.map_map];refine List.map_congr_left λ p _=>?_
 show (if p.1=x then (p.1,e) else p).1=p.1;split<;>rfl
theorem Ld {b:List (α × β)} (cX:(ei b).Nodup) (x : α) (e : β):(ei (hq b x e)).Nodup:=by
 by_cases h:x∈ei b
 ·rw [sX h,keys_map];exact cX
 ·rw [rl h];show (List.map _ (b++[(x,e)])).Nodup;rw [List.map_append,List.nodup_append];refine ⟨cX,by simp,λ a aw c aj z=>?_⟩;have:c=x:=by simpa using aj
  subst z;rw [this] at aw;exact h aw
theorem ZO {b:List (α × β)} (cX:(ei b).Nodup) (x : α):(ei (hs b x)).Nodup:=cX.sublist (List.filter_sublist.map _)
theorem KH {b:List (α × β)} {x : α} (h:x∉ei b):hs b x=b:=List.filter_eq_self.mpr λ p ax=>decide_eq_true λ z=>h (by rw [<-z];exact List.mem_map_of_mem (f:=(·.1)) ax)
theorem y5 {b c:List (α × β)} (h:b.Perm c) (cX:(ei b).Nodup) (x : α):d6 b x=d6 c x:=by
 have mW:(ei c).Nodup:=(h.map _).nodup_iff.mp cX;cases e:d6 b x with
 | none =>
  have:=y4.mp e;exact (y4.mpr λ z=>this ((h.map (·.1)).mem_iff.mpr z)).symm
 | some v=>exact (yS mW (h.mem_iff.mp (tf e))).symm
theorem DB {b c:List (α × β)} (h:b.Perm c) (x : α) (e : β):(hq b x e).Perm (hq c x e):=by
 by_cases ak:x∈ei b
 ·rw [sX ak,sX ((h.map (·.1)).mem_iff.mp ak)];exact h.map _
 ·rw [rl ak,rl λ z=>ak ((h.map (·.1)).mem_iff.mpr z)];exact h.append_right _
theorem K7 {b c:List (α × β)} (h:b.Perm c) (x : α):(hs b x).Perm (hs c x):=h.filter _
theorem WD {b:List (α × β)} (cX:(ei b).Nodup) {x : α} {e bP : β} (h:d6 b x=some bP):hq (hq b x e) x bP=b:=by
 have ak:x∈ei b:=List.mem_map_of_mem (f:=(·.1)) (tf h);rw [sX ak,sX (by rw [keys_map];exact ak),List.map_map]
 conv=>rhs;rw [<-List.map_id b]
 refine List.map_congr_left λ p ax=>?_
 by_cases uP:p.1=x
 ·have af:=yS cX (show (x,p.2)∈b by rw [<-uP];exact ax);rw [h] at af;cases af;show (if (if p.1=x then (p.1,e) else p).1=x then ((if p.1=x then (p.1,e) else p).1,p.2) else (if p.1=x then (p.1,e) else p))=p;rw [if_pos (show p.1=x from uP),if_pos (show (p.1,e).1=x from uP)]
 ·show (if (if p.1=x then (p.1,e) else p).1=x then ((if p.1=x then (p.1,e) else p).1,bP) else (if p.1=x then (p.1,e) else p))=p;rw [if_neg uP,if_neg uP]
theorem WE {b:List (α × β)} {x : α} {e : β} (h:d6 b x=none):hs (hq b x e) x=b:=by
 have ak:=y4.mp h;rw [rl ak];unfold hs;rw [List.filter_append,List.filter_cons_of_neg (by simp),List.filter_nil,List.append_nil];exact KH ak
theorem Xt {b:List (α × β)} (cX:(ei b).Nodup) {x : α} {bP : β} (h:d6 b x=some bP):(hq (hs b x) x bP).Perm b:=by
 have ak:x∉ei (hs b x):=λ z=>by
  obtain ⟨p,ax,e⟩:=List.mem_map.mp z;have:=(List.mem_filter.mp ax).2;exact absurd e (of_decide_eq_true this)
 rw [rl ak]
 induction b with
 | nil=>cases h
 | cons p b c5 =>
  have mW:=List.nodup_cons.mp cX;rw [tp] at h;by_cases ax:p.1=x
  ·rw [if_pos ax] at h;cases h;have aG:x∉ei b:=by rw [<-ax];exact mW.1
   have aO:hs (p::b) x=b:=by
    unfold hs;rw [List.filter_cons_of_neg (by simp [ax])];exact KH aG
   rw [aO];have aQ:(x,p.2)=p:=by rw [<-ax]
   rw [aQ];exact List.perm_append_singleton _ _
  ·rw [if_neg ax] at h;have aO:hs (p::b) x=p::hs b x:=by
    unfold hs;rw [List.filter_cons_of_pos (by exact decide_eq_true ax)]
   rw [aO];exact (c5 mW.2 h (λ z=>by
    obtain ⟨q,aS,e⟩:=List.mem_map.mp z;exact absurd e (of_decide_eq_true (List.mem_filter.mp aS).2))).cons p
end
open PySem PySem.Spec PyProof.Rows
theorem Vk {x y:Str} (h:e6 x=e6 y):x=y:=by
 cases x;cases y;congr 1;exact Array.toList_inj.mp h
theorem DU : ∀ (l:List Str) (p:Str),risingS p l=true -> ∀ y∈l,e6 p<=e6 y
 | [],_,_,_,h=>by cases h
 | x::r,p,h,y,aN=>by
  have h':(!ltCps x.cps.toList p.cps.toList&&risingS x r)=true:=h;rw [Bool.and_eq_true,Bool.not_eq_true',ltCps_eq,decide_eq_false_iff_not] at h';have af:e6 p<=e6 x:=h'.1;rcases List.mem_cons.mp aN with z | z
  ·rw [z];exact af
  ·exact List.le_trans af (DU r x h'.2 y z)
theorem LC {x:Str} {r:List Str} (h:sortedS (x::r)=true):sortedS r=true:=by
 cases r with
 | nil=>rfl
 | cons y r =>
  have h':(!ltCps y.cps.toList x.cps.toList&&risingS y r)=true:=h;exact (Bool.and_eq_true_iff.mp h').2
theorem D0 : ∀ {a b:List Str},sortedS a=true->sortedS b=true->a.Perm b->a=b
 | [],b,_,_,h=>(List.Perm.nil_eq h)
 | x::r,[],_,_,h=>by have:=h.length_eq;simp at this
 | x::r,y::s,aw,J,h=>by
  have e:x=y:=by
   apply Vk;have af:e6 x<=e6 y:=by
    rcases List.mem_cons.mp (h.mem_iff.mpr (List.mem_cons_self:y∈y::s)) with z | z
    ·rw [z];exact List.le_refl _
    ·exact DU r x aw y z
   have ai:e6 y<=e6 x:=by
    rcases List.mem_cons.mp (h.mem_iff.mp (List.mem_cons_self:x∈x::r)) with z | z
    ·rw [z];exact List.le_refl _
    ·exact DU s y J x z
   exact List.le_antisymm af ai
  subst e;rw [D0 (LC aw) (LC J) h.cons_inv]
section
variable {α β : Type} [DecidableEq α]
def q8 (b:List (α × β)) (x : α):Option β -> List (α × β)
 | none=>hs b x
 | some e=>hq b x e
theorem Lj {b c:List (α × β)} (h:b.Perm c) (x : α) : ∀ w:Option β,(q8 b x w).Perm (q8 c x w)
 | none=>K7 h x
 | some e=>DB h x e
theorem JG {b c:List (α × β)} (cX:(ei b).Nodup) {x : α} {e : β} (h:c.Perm (hq b x e)):(q8 c x (d6 b x)).Perm b:=by
 refine (Lj h x _).trans ?_;cases au:d6 b x with
 | none =>
  show (hs (hq b x e) x).Perm b;rw [WE au]
 | some bP =>
  show (hq (hq b x e) x bP).Perm b;rw [WD cX au]
theorem W2 {b c:List (α × β)} (cX:(ei b).Nodup) {x : α} {bP : β} (au:d6 b x=some bP) (h:c.Perm (hs b x)):(q8 c x (d6 b x)).Perm b:=by
 rw [au];exact (Lj h x _).trans (Xt cX au)
end
end fz
namespace cy
open PySem bI
structure tI (K:PySem.W.Frag) (R:Addr->Prop) (m q:Str) (st:Stmt) (ag:List Str) where
 f:Addr
 fd:FuncData
 fn:h3 K m q st f fd
 at_:R f
 bd:Binds K fd ag []
abbrev dC (K:PySem.W.Frag) (mg:Str->Option Value) (x:Str) (st:Stmt) (ag:List Str):=tI K (λ f=>mg x=some (.ref f)) x x st ag
abbrev l4 (K:PySem.W.Frag) (C:Addr) (m q:Str) (st:Stmt) (ag:List Str):=tI K (Meth K C m) m q st ag
abbrev Ga (K:PySem.W.Frag) (C:Addr) (q:Str) (st:Stmt) (ag:List Str):=tI K (wC K C) "__init__" q st ag
abbrev c6 (P:Program) (w:World) (mg:Str->Option Value) (base:Heap) (cp:hL) (k:Nat) {K:PySem.W.Frag} {R:Addr->Prop} {m q:Str} {st:Stmt} {ag:List Str} (D:tI K R m q st ag) (sp:bX):Prop:=dU P w K mg base cp k D.f D.fd ag sp
abbrev kn (P:Program) (w:World) (mg:Str->Option Value) (base:Heap) (k:Nat) {K:PySem.W.Frag} {R:Addr->Prop} {m q:Str} {st:Stmt} {ag:List Str} (D:tI K R m q st ag) (sp:bX):Prop:=sE P w K mg base k D.f D.fd ag sp
theorem cZ {N P:List Str} {sc:Scope} (h:cq N P sc:=by exact ⟨rfl,rfl,rfl,by decide +kernel,rfl,by decide +kernel,by decide +kernel⟩):cq N P sc:=h
section
variable {K:PySem.W.Frag} {mg:Str->Option Value} {h:Heap} {x m q p e2 gh jQ nW:Str} {st:Stmt} {ag:List Str} {C F D f:Addr}
def oY (x q:Str) (st:Stmt) (ag:List Str):Prop := ∀ (cF doc pm:Value) (an:Option Addr) (ba cu:Value) (us:List Value),us.length=ag.length->bindArgs (PySem.W.fnOf x q (kT st) (ip st) (bO st) .none cF doc pm an ba cu) ⟨us,[]⟩=pure (ag.zip us)
theorem len0 {us:List Value} (h:us.length=0):us=[]:=List.length_eq_zero_iff.mp h
theorem m6 {us:List Value} {n:Nat} (h:us.length=n+1) : ∃ u vs,us=u::vs/\vs.length=n:=by
 cases us with
 | nil=>cases h
 | cons u vs=>exact ⟨u,vs,rfl,Nat.succ.inj h⟩
theorem NU (h : ∀ (cF doc pm:Value) (an:Option Addr) (ba cu:Value),bindArgs (PySem.W.fnOf x q (kT st) (ip st) (bO st) .none cF doc pm an ba cu) ⟨[],[]⟩=pure []:=by intros;rfl):oY x q st []:=λ cF doc pm an ba cu us au=>by
 rw [len0 au];exact h cF doc pm an ba cu
theorem hh (h : ∀ (cF doc pm:Value) (an:Option Addr) (ba cu u:Value),bindArgs (PySem.W.fnOf x q (kT st) (ip st) (bO st) .none cF doc pm an ba cu) ⟨[u],[]⟩=pure [(p,u)]:=by intros;rfl):oY x q st [p]:=λ cF doc pm an ba cu us au=>by
 obtain ⟨h2,v0,rfl,h0⟩:=m6 au;rw [len0 h0];exact h cF doc pm an ba cu h2
theorem h5 (h : ∀ (cF doc pm:Value) (an:Option Addr) (ba cu u gi:Value),bindArgs (PySem.W.fnOf x q (kT st) (ip st) (bO st) .none cF doc pm an ba cu) ⟨[u,gi],[]⟩=pure [(p,u),(e2,gi)]:=by intros;rfl):oY x q st [p,e2]:=λ cF doc pm an ba cu us au=>by
 obtain ⟨h2,v0,rfl,h0⟩:=m6 au;obtain ⟨hJ,v1,rfl,af⟩:=m6 h0;rw [len0 af];exact h cF doc pm an ba cu h2 hJ
theorem jn (h : ∀ (cF doc pm:Value) (an:Option Addr) (ba cu u gi kl:Value),bindArgs (PySem.W.fnOf x q (kT st) (ip st) (bO st) .none cF doc pm an ba cu) ⟨[u,gi,kl],[]⟩=pure [(p,u),(e2,gi),(gh,kl)]:=by intros;rfl):oY x q st [p,e2,gh]:=λ cF doc pm an ba cu us au=>by
 obtain ⟨h2,v0,rfl,h0⟩:=m6 au;obtain ⟨hJ,v1,rfl,af⟩:=m6 h0;obtain ⟨gz,v2,rfl,ai⟩:=m6 af;rw [len0 ai];exact h cF doc pm an ba cu h2 hJ gz
theorem NV (h : ∀ (cF doc pm:Value) (an:Option Addr) (ba cu u gi kl iy:Value),bindArgs (PySem.W.fnOf x q (kT st) (ip st) (bO st) .none cF doc pm an ba cu) ⟨[u,gi,kl,iy],[]⟩=pure [(p,u),(e2,gi),(gh,kl),(jQ,iy)]:=by intros;rfl):oY x q st [p,e2,gh,jQ]:=λ cF doc pm an ba cu us au=>by
 obtain ⟨h2,v0,rfl,h0⟩:=m6 au;obtain ⟨hJ,v1,rfl,af⟩:=m6 h0;obtain ⟨gz,v2,rfl,ai⟩:=m6 af;obtain ⟨lq,ab_,rfl,aF⟩:=m6 ai;rw [len0 aF];exact h cF doc pm an ba cu h2 hJ gz lq
def dm (K:PySem.W.Frag) (x:Str) (st:Stmt):Prop := ∃ f fd,PySem.W.nsIn K mainGlobals x=some (some (.ref f))/\h3 K x x st f fd
theorem dm.mk {e1:Value} {bK an:Option Addr} {cA:Array (Option Value)} {cF doc pm cd cu:Value} (a:PySem.W.nsIn K mainGlobals x=some (some (.ref f))) (l:K.lookup f=some ⟨e1,bK,.func (PySem.W.fnOf x x (kT st) (ip st) (bO st) .none cF doc pm an cd cu),cA⟩)
  (c:PySem.W.codeIn K cd x=true) (k:PySem.W.keepIn K (.ref f)=true):dm K x st:=⟨f,_,a,CB l c k⟩
noncomputable def dm.dd (g:dm K x st) (X:K.In h) (G:h.Ns mainGlobals mg) (b:oY x x st ag):dC K mg x st ag :=
 Classical.choice (let ⟨f,fd,a,F⟩:=g;⟨⟨f,fd,F,PySem.W.mg_of X G a,F.binds b⟩⟩)
def hz (K:PySem.W.Frag) (C:Addr) (m q:Str) (st:Stmt):Prop := ∃ f fd,PySem.W.findIn K (.ref C) m=some (some (.ref f))/\h3 K m q st f fd/\PySem.W.isFn K (.ref f)=true
theorem hz.mk {e1:Value} {bK an:Option Addr} {cA:Array (Option Value)} {cF doc pm cd cu:Value} (a:PySem.W.findIn K (.ref C) m=some (some (.ref f))) (l:K.lookup f=some ⟨e1,bK,.func (PySem.W.fnOf m q (kT st) (ip st) (bO st) .none cF doc pm an cd cu),cA⟩)
  (c:PySem.W.codeIn K cd q=true) (k:PySem.W.keepIn K (.ref f)=true) (i:PySem.W.isFn K (.ref f)=true):hz K C m q st:=⟨f,_,a,CB l c k,i⟩
noncomputable def hz.ll (g:hz K C m q st) (b:oY m q st ag):l4 K C m q st ag :=
 Classical.choice (let ⟨f,fd,a,F,i⟩:=g;⟨⟨f,fd,F,⟨a,i,F.a_⟩,F.binds b⟩⟩)
noncomputable def hz.Nm (g:hz K C "__init__" q st) (c:PySem.W.makesIn K C=true) (k:PySem.W.keepIn K (.ref C)=true) (b:oY "__init__" q st ag):Ga K C q st ag :=
 Classical.choice (let ⟨f,fd,a,F,i⟩:=g;⟨⟨f,fd,F,⟨c,a,i,k⟩,F.binds b⟩⟩)
structure mB (K:PySem.W.Frag) (C F:Addr):Prop where
 e:PySem.W.excIn K C iA "ValueError.__new__" = true
 u:PySem.W.mroIn K C (.ref F)=some true
 ne:C≠F
 iY:PySem.W.findIn K (.ref C) "__getattribute__" = some (some (.builtin "BaseException.__getattribute__"))
 Ac:PySem.W.findIn K (.ref C) "__getattr__" = some none
 Ad:PySem.W.findIn K (.ref C) "__class__" = some (some (.builtin "object.__class__"))
 Af:PySem.W.specialIn K (.builtin "object.__class__") "__get__" = some (some (.builtin "getset_descriptor.__get__"))
 NN:PySem.W.takesIn K (.builtin "object.__class__")=some true
 w2:PySem.W.mroIn K C (.type "object")=some true
 NK:PySem.W.mroIn K C (.type "BaseException")=some true
 v:PySem.W.mroIn K C (.type "ValueError")=some true
theorem mB.un (a:mB K C F):Under K C F:=⟨a.e,a.u,a.ne⟩
theorem mB.fy (a:mB K C F):PySem.W.kG K C:=⟨PySem.W.DP a.w2,a.iY,a.Ac,a.Ad,a.Af,a.NN,a.w2,a.NK⟩
theorem mB.z9 (a:mB K C F):PySem.W.kitOne K (.ref C) (.type "ValueError")=some true:=PySem.W.Jo a.v
structure dw (K:PySem.W.Frag) (C D:Addr):Prop where
 m:PySem.W.mroIn K C (.ref D)=some false
 n:C≠D
 ty:PySem.W.typeIn K (.ref D)=some (.type "type")
 mo:PySem.W.mroIn K D (.type "object")=some true
theorem dw.k (a:dw K C D):PySem.W.kitOne K (.ref C) (.ref D)=some false:=PySem.W.XG a.ty a.mo a.m a.n
def KF (K:PySem.W.Frag) (C D:Addr) (b:Bool):Prop:=PySem.W.kitOne K (.ref C) (.ref D)=some b
end
end cy
namespace bI
open PySem PySem.Spec PyProof.Rows
section
variable {X:aP} {cp:hL} {k fa:Nat} {R:Addr->Prop} {m q:Str} {st:Stmt} {ag:List Str} {sp:bX} {E:dz} {x:Str} {p pos:Pos} {e:Expr} {ao:List Expr} {t:c3}
theorem b7 {D:cy.dC X.K X.mg x st ag} (F:dU X.prog X.w X.K X.mg X.base cp k D.f D.fd ag sp) (aq:dV fa X.A) (ak:Passes cp X E) (aw:eZ X (e::ao) t) (aI:dy X x:=by rfl) (aB:k<=fa:=by decide) (eg:(x == ("__debug__" : Str))=false:=by decide) (he:starEach (e::ao) X.env=(false,eval e X.env)::starEach ao X.env:=by rfl) (dp:(backTo pos (starEach ao X.env)).any (·.1)=false:=by rfl):bC X (.Call (.Name x p) (e::ao) [] pos) (pT sp [] E t) :=
 U4 F (aq.mono aB) aI D.at_ D.fn.a_ D.bd .nil ak aw eg he dp
theorem CC {D:cy.dC X.K X.mg x st ag} (F:dU X.prog X.w X.K X.mg X.base cp k D.f D.fd ag sp) (aq:dV fa X.A) (ak:Passes cp X E) (aI:dy X x:=by rfl) (aB:k<=fa:=by decide) (eg:(x == ("__debug__" : Str))=false:=by decide):bC X (.Call (.Name x p) [] [] pos) (pT sp [] E m8) :=
 WG F (aq.mono aB) aI D.at_ D.fn.a_ D.bd .nil ak eg
theorem bN {P:List Str} {sc:Scope} {x:Str} {e:Expr} {bh:TE} {pos pos':Pos} (i:Nat) (S:cq X.N P sc) (he:bC X e bh) (ay:X.N[i]?=some x:=by rfl) (ak:Loc X.env.scope x:=by exact Or.inl rfl) (az:swapsWith e (some (.Name x pos')) pos.line X.env=pure false:=by rfl) (hf:X.fn x=true\/X.env.scope.names.lookup x=some .local:=by first | exact .inl rfl | exact .inr rfl | assumption):gJ X (.Assign [.Name x pos'] e pos) (pM bh (gW i)) :=
 yx S.cX ay ak he az hf
theorem dM {P:List Str} {sc:Scope} {x:Str} {pos:Pos} (i:Nat) (S:cq X.N P sc) (ay:X.N[i]?=some x:=by rfl) (ak:Loc X.env.scope x:=by exact Or.inl rfl) (hf:X.fn x=true\/X.env.scope.names.lookup x=some .local:=by first | exact .inl rfl | exact .inr rfl | assumption):k6 X (.Name x pos) (gW i) :=
 kb S.cX ay ak hf
theorem bG {r:List V->ah->bz->Prop} {id:String} (aj:e7 X (.builtin id) r) (hm:X.mg x=none) (bf:bootBuiltins x=some (.builtin id)) (aw:eZ X (e::ao) t) (aI:dy X x:=by rfl) (aD:x ≠ "__name__" := by decide) (eg:(x == ("__debug__" : Str))=false:=by decide) (he:starEach (e::ao) X.env=(false,eval e X.env)::starEach ao X.env:=by rfl) (dp:(backTo pos (starEach ao X.env)).any (·.1)=false:=by rfl):bC X (.Call (.Name x p) (e::ao) [] pos) (sm r t) :=
 WH aj aI hm bf aw aD eg he dp
theorem iM {r:List V->ah->bz->Prop} {T:String} (aj:e7 X (.type T) r) (hm:X.mg x=none) (bf:bootBuiltins x=some (.type T)) (aw:eZ X (e::ao) t) (aI:dy X x:=by rfl) (aD:x ≠ "__name__" := by decide) (eg:(x == ("__debug__" : Str))=false:=by decide) (he:starEach (e::ao) X.env=(false,eval e X.env)::starEach ao X.env:=by rfl) (dp:(backTo pos (starEach ao X.env)).any (·.1)=false:=by rfl):bC X (.Call (.Name x p) (e::ao) [] pos) (sm r t) :=
 X8 aj aI hm bf aw aD eg he dp
theorem fC {x:Str} {pos:Pos} (di:decide X.N.Nodup=true:=by kernel_rfl) (ay:X.N[0]?=some x:=by rfl) (ak:Loc X.env.scope x:=by exact Or.inl rfl) (hf:X.fn x=true\/X.env.scope.names.lookup x=some .local:=by exact Or.inr rfl):k6 X (.Name x pos) (gW 0) :=
 kb (of_decide_eq_true di) ay ak hf
theorem fA {sc:Scope} {cl:List (Str×Addr)} {N o2 P:List Str} {js:List (Option Nat)} {jA:Scope} (_:cq o2 P jA) (B6 : ∀ p∈cl,X.env.cells.lookup p.1=some p.2) (aG:X.env.scope=jA:=by exact rfl) (sA:closureFor sc X.env=pure cl:=by exact rfl) (aB:cl.map (·.1)=B7 sc:=by exact rfl) (ug:CL sc jA N o2 js=true:=by decide +kernel) (di:X.N=o2:=by exact rfl):sN X sc cl N js :=
 Xn aG sA aB B6 ug di
end
theorem cg {n:Nat} (h:Nat.ble n 16777216=true:=by rfl):n<=sizeLine:=by rw [sizeLine_eq];exact Nat.le_of_ble_eq_true h
open PySem PySem.Spec PyProof.Rows PyProof.Rows.KTD cy
end bI
namespace cy
open PySem bI fz p6
def top (i:Nat):Stmt:=PySem.Challenge.pw_wholefract_k91_benches_and_deeds.main.body.getD i (.Pass ⟨0,0,0,0⟩)
abbrev DW:Stmt:=top 18
abbrev D8:Stmt:=top 19
abbrev Ec:Stmt:=top 20
abbrev D7:Stmt:=top 21
abbrev E8:Stmt:=top 22
abbrev Eo:Stmt:=top 23
abbrev Ey:Stmt:=top 24
abbrev DF:Stmt:=top 25
abbrev En:Stmt:=top 28
abbrev Fp:Stmt:=top 29
abbrev CE:Stmt:=top 30
abbrev DV:Stmt:=top 31
abbrev CX:Stmt:=top 32
abbrev EX:Stmt:=top 33
abbrev EW:Stmt:=top 34
abbrev EK:Stmt:=top 35
abbrev CF:Stmt:=top 36
abbrev DE:Stmt:=top 43
abbrev DD:Stmt:=top 44
abbrev D9:Stmt:=top 46
abbrev CV:Stmt:=top 47
abbrev Dh:Stmt:=top 48
abbrev DG:Stmt:=top 49
abbrev DX:Stmt:=top 50
abbrev DY:Stmt:=top 51
abbrev Ea:Stmt:=top 52
abbrev Er:Stmt:=top 53
abbrev Eb:Stmt:=top 54
abbrev E6:Stmt:=top 55
abbrev Df:Stmt:=top 56
abbrev De:Stmt:=top 57
abbrev DH:Stmt:=top 58
abbrev DI:Stmt:=top 59
abbrev Dg:Stmt:=top 60
abbrev Ep:Stmt:=top 61
abbrev CW:Stmt:=top 62
abbrev E7:Stmt:=top 63
abbrev EJ:Stmt:=top 64
abbrev Ez:Stmt:=top 65
abbrev D_:Stmt:=top 66
abbrev EI:Stmt:=top 67
abbrev EH:Stmt:=top 68
abbrev EV:Stmt:=top 69
abbrev Cw:Stmt:=top 70
def lI (s:Stmt) (j:Nat):Stmt:=match s with | .ClassDef _ _ _ b _ _ _ _ _ _ _=>b.getD j (.Pass ⟨0,0,0,0⟩) | s=>s
abbrev tE:Stmt:=lI (top 2) 0
theorem aa9:cq ["self", "steps"] ["self", "steps"] (bO tE):=cZ
abbrev El:Stmt:=lI (top 42) 0
abbrev D5:Stmt:=lI (top 42) 1
abbrev D6:Stmt:=lI (top 42) 2
abbrev Ei:Stmt:=lI (top 42) 3
abbrev Em:Stmt:=lI (top 42) 4
abbrev Ex:Stmt:=lI (top 42) 5
abbrev EG:Stmt:=lI (top 42) 6
abbrev Ej:Stmt:=lI (top 42) 7
abbrev EU:Stmt:=lI (top 42) 8
abbrev Eh:Stmt:=lI (top 42) 9
abbrev Ek:Stmt:=lI (top 42) 10
theorem ZY:cq ["thing"] ["thing"] (bO DW):=cZ
theorem LV:cq ["thing"] ["thing"] (bO D8):=cZ
theorem LX:cq ["number"] ["number"] (bO Ec):=cZ
theorem wk:cq ["prime", "number", "times", "rest"] ["prime", "number"] (bO D7):=cZ
theorem zo:cq ["number", "rest", "prime"] ["number"] (bO E8):=cZ
theorem Mb:cq ["thing"] ["thing"] (bO Eo):=cZ
theorem zk:cq ["thing", "top", "bottom"] ["thing"] (bO Ey):=cZ
theorem Zw:cq ["thing"] ["thing"] (bO DF):=cZ
theorem Ma:cq ["program"] ["program"] (bO En):=cZ
theorem zp:cq ["fraction", "tops", "bottoms"] ["fraction"] (bO Fp):=cZ
theorem CY:cq ["changes", "powers", "change", "power"] ["changes", "powers"] (bO CE):=cZ
theorem Ed:cq ["rows", "powers", "number", "changes"] ["rows", "powers"] (bO DV):=cZ
theorem J_:cq ["powers", "changes", "many"] ["powers", "changes", "many"] (bO CX):=cZ
theorem wy:cq ["rows", "powers", "number", "used", "ends"] ["rows", "powers", "number"] (bO EX):=cZ
theorem Mw:cq ["powers", "used"] ["powers", "used"] (bO EW):=cZ
theorem rA:cq ["powers", "used", "ahead", "many", "power", "change", "change_ahead", "lacking"] ["powers", "used", "ahead"] (bO EK):=cZ
theorem gF:cq ["program", "powers", "many", "rows", "reached", "done", "stretches", "number", "steps"] ["program", "powers", "many"] (bO CF):=cZ
theorem Lf:cq ["thing"] ["thing"] (bO DE):=cZ
theorem Le:cq ["program", "powers", "many", "rest"] ["program", "powers", "many"] (bO DD):=cZ
theorem aan:cq ["script", "k"] ["script", "k"] (bO D9):=cZ
theorem ta:cq ["cell", "number", "j", "more"] ["cell"] (bO CV):=cZ
theorem KW:cq ["pot", "far", "found"] ["pot", "far"] (bO Dh):=cZ
theorem DZ:cq ["pot", "wide", "found", "k"] ["pot", "wide"] (bO DG):=cZ
theorem LA:cq ["pot", "wide"] ["pot"] (bO DX):=cZ
theorem ZZ:cq [] [] (bO DY):=cZ
theorem lP:cq ["line", "found", "prime", "often", "turn"] ["line"] (bO Ea):=cZ
theorem nC:cq ["pot", "places", "found", "turn", "place", "top", "bottom"] ["pot", "places"] (bO Er):=cZ
theorem LW:cq ["pot", "places", "most"] ["pot", "places", "most"] (bO Eb):=cZ
theorem kX:cq ["pot", "places", "most", "found", "some", "k", "sides", "turn", "line", "lap", "less", "top"] ["pot", "places", "most"] (bO E6):=cZ
theorem DJ:cq ["pot", "places", "most", "found", "place"] ["pot", "places", "most"] (bO Df):=cZ
theorem tg:cq ["number", "found", "prime", "often"] ["number"] (bO De):=cZ
theorem tr:cq ["program", "found", "top", "bottom", "want"] ["program"] (bO DH):=cZ
theorem Zx:cq ["found"] ["found"] (bO DI):=cZ
theorem th:cq ["found", "due"] ["found", "due"] (bO Dg):=cZ
theorem wo:cq ["table", "line", "number", "want", "more"] ["table", "line"] (bO Ep):=cZ
theorem J9:cq ["table", "line", "number", "often"] ["table", "line", "number", "often"] (bO CW):=cZ
theorem wz:cq ["table", "line", "many", "rows", "used", "number"] ["table", "line", "many"] (bO E7):=cZ
theorem Mp:cq ["thing"] ["thing"] (bO EJ):=cZ
theorem lQ:cq ["table", "rows", "deed", "way", "name", "thing", "right", "later", "line", "steps", "some", "used"] ["table", "rows", "deed"] (bO Ez):=cZ
theorem tB:cq ["e", "some", "words"] ["e"] (bO D_):=cZ
theorem wx:cq ["bench", "deed", "way", "name", "thing", "e"] ["bench", "deed"] (bO EI):=cZ
theorem nE:cq ["pot", "places", "rows", "way", "odd", "name", "some", "line"] ["pot", "places", "rows"] (bO EH):=cZ
theorem E9:cq ["bench", "rows", "names", "name"] ["bench", "rows"] (bO EV):=cZ
theorem il:cq ["script", "pot", "places", "programs", "tables", "benches", "kept", "k", "which", "deed", "due", "later", "turn"] ["script"] (bO Cw):=cZ
theorem aaU:cq ["self", "program"] ["self", "program"] (bO El):=cZ
theorem aam:cq ["self", "name", "powers"] ["self", "name", "powers"] (bO D5):=cZ
theorem Es:cq ["self", "name", "many", "begin", "end"] ["self", "name", "many"] (bO D6):=cZ
theorem aaR:cq ["self", "name"] ["self", "name"] (bO Ei):=cZ
theorem L_:cq ["self", "deed"] ["self"] (bO Em):=cZ
theorem aa8:cq ["self"] ["self"] (bO Ex):=cZ
theorem abj:cq ["self", "name"] ["self", "name"] (bO EG):=cZ
theorem aaS:cq ["self", "name"] ["self", "name"] (bO Ej):=cZ
theorem abr:cq ["self", "name"] ["self", "name"] (bO EU):=cZ
theorem aaQ:cq ["self", "name", "what"] ["self", "name", "what"] (bO Eh):=cZ
theorem aaT:cq ["self", "name", "what"] ["self", "name", "what"] (bO Ek):=cZ
set_option genInjectivity false in
set_option genSizeOfSpec false in
structure bE (K:W.Frag) (mg:Str->Option Value) where
 tl:dC K mg "is_whole" DW ["thing"]
 Ll:dC K mg "is_powers" D8 ["thing"]
 p1:dC K mg "powers_of" Ec ["number"]
 wj:dC K mg "how_often" D7 ["prime", "number"]
 tG:dC K mg "without_primes" E8 ["number"]
 LI:dC K mg "is_program" Eo ["thing"]
 L1:dC K mg "is_fraction" Ey ["thing"]
 Kl:dC K mg "is_term" DF ["thing"]
 tA:dC K mg "changes_of" En ["program"]
 wA:dC K mg "fraction_changes" Fp ["fraction"]
 pU:dC K mg "fits" CE ["changes", "powers"]
 tk:dC K mg "first_of" DV ["rows", "powers"]
 oP:dC K mg "moved" CX ["powers", "changes", "many"]
 tF:dC K mg "stretch_steps" EX ["rows", "powers", "number"]
 wu:dC K mg "steps_to_lack" EW ["powers", "used"]
 wt:dC K mg "steps_to_fit" EK ["powers", "used", "ahead"]
 ng:dC K mg "leap" CF ["program", "powers", "many"]
 Kk:dC K mg "is_name" DE ["thing"]
 Kj:dC K mg "gone_on" DD ["program", "powers", "many"]
 Lm:dC K mg "_law_cell_at" D9 ["script", "k"]
 I6:dC K mg "_law_pot" CV ["cell"]
 C2:dC K mg "_law_take" Dh ["pot", "far"]
 Km:dC K mg "_law_order" DG ["pot", "wide"]
 K3:dC K mg "_law_places" DX ["pot"]
 K4:dC K mg "_law_primes" DY []
 zc:dC K mg "_law_product" Ea ["line"]
 LK:dC K mg "_law_fraction" Er ["pot", "places"]
 Ln:dC K mg "_law_program" Eb ["pot", "places", "most"]
 Mq:dC K mg "_law_calm_program" E6 ["pot", "places", "most"]
 JK:dC K mg "_law_line" Df ["pot", "places", "most"]
 JJ:dC K mg "_law_exps" De ["number"]
 Kn:dC K mg "_law_table" DH ["program"]
 Ko:dC K mg "_law_whole" DI ["found"]
 oS:dC K mg "_law_same" Dg ["found", "due"]
 LJ:dC K mg "_law_first_of" Ep ["table", "line"]
 I7:dC K mg "_law_put" CW ["table", "line", "number", "often"]
 Mr:dC K mg "_law_gone_through" E7 ["table", "line", "many"]
 Mf:dC K mg "_law_line_right" EJ ["thing"]
 L2:dC K mg "_law_bench_due" Ez ["table", "rows", "deed"]
 tu:dC K mg "_law_kind_of" D_ ["e"]
 Me:dC K mg "_law_bench_told" EI ["bench", "deed"]
 Md:dC K mg "_law_bench_deed" EH ["pot", "places", "rows"]
 Mk:dC K mg "_law_bench_right" EV ["bench", "rows"]
 oW:Addr
 adh:mg "FractError" = some (.ref oW)
 eY:Addr
 V2:mg "AtRest" = some (.ref eY)
 ri:Addr
 V5:mg "NoText" = some (.ref ri)
 rv:Addr
 Y_:mg "NoNumber" = some (.ref rv)
 rr:Addr
 XA:mg "TooMany" = some (.ref rr)
 rp:Addr
 Xy:mg "NoOrder" = some (.ref rp)
 rx:Addr
 ZQ:mg "NoProgram" = some (.ref rx)
 rj:Addr
 V6:mg "Shared" = some (.ref rj)
 fE:Addr
 Za:mg "NoPowers" = some (.ref fE)
 rq:Addr
 Xz:mg "NoTrail" = some (.ref rq)
 eP:Addr
 V4:mg "NoName" = some (.ref eP)
 fD:Addr
 V3:mg "NoDeed" = some (.ref fD)
 rd:Addr
 Up:mg "NoRow" = some (.ref rd)
 f6:Addr
 Uo:mg "Bench" = some (.ref f6)
 Z5:m3 K mg "FractError" oW
 YQ:m3 K mg "NoPowers" fE
 JL:m3 K mg "NoName" eP
 VC:m3 K mg "NoDeed" fD
 VE:Under K eP oW
 VI:W.kG K eP
 VG:W.kitOne K (.ref eP) (.type "ValueError")=some true
 EP:KF K eP eY false
 ES:KF K eP ri false
 Fc:KF K eP rv false
 E4:KF K eP rr false
 E2:KF K eP rp false
 Fl:KF K eP rx false
 ET:KF K eP rj false
 Fd:KF K eP fE false
 E3:KF K eP rq false
 abi:KF K eP eP true
 ER:KF K eP fD false
 EE:KF K eP rd false
 YR:Under K fE oW
 YT:W.kG K fE
 YS:W.kitOne K (.ref fE) (.type "ValueError")=some true
 Fe:KF K fE eY false
 Fh:KF K fE ri false
 Fq:KF K fE rv false
 Fo:KF K fE rr false
 Fm:KF K fE rp false
 Fs:KF K fE rx false
 Fi:KF K fE rj false
 abA:KF K fE fE true
 Fn:KF K fE rq false
 Fg:KF K fE eP false
 Ff:KF K fE fD false
 E5:KF K fE rd false
 VD:Under K fD oW
 VH:W.kG K fD
 VF:W.kitOne K (.ref fD) (.type "ValueError")=some true
 EL:KF K fD eY false
 EN:KF K fD ri false
 E_:KF K fD rv false
 E1:KF K fD rr false
 EZ:KF K fD rp false
 Fj:KF K fD rx false
 EO:KF K fD rj false
 Fb:KF K fD fE false
 E0:KF K fD rq false
 EM:KF K fD eP false
 abh:KF K fD fD true
 ED:KF K fD rd false
 Eu:Addr
 EB:FuncData
 nz:nH K mg "AtRest" eY oW Eu
 vW:h3 K "__init__" "AtRest.__init__" tE Eu EB
 VB:Binds K EB ["self", "steps"] []
 adg:S1 K eY oW
 Dq:W.findIn K (.ref eY) "steps" = some none
 adf:W.kitOne K (.ref eY) (.type "ValueError")=some true
 adi:KF K eY eY true
 Mn:KF K eY ri false
 MB:KF K eY rv false
 Mv:KF K eY rr false
 Mt:KF K eY rp false
 MG:KF K eY rx false
 Mo:KF K eY rj false
 MC:KF K eY fE false
 Mu:KF K eY rq false
 Mm:KF K eY eP false
 Ml:KF K eY fD false
 Mi:KF K eY rd false
 eO:jm K f6
 zi:oL K f6 "deeds"
 oV:oL K f6 "held"
 Mj:oL K f6 "program"
 zg:Ga K f6 "Bench.__init__" El ["self", "program"]
 za:l4 K f6 "put" "Bench.put" D5 ["self", "name", "powers"]
 zb:l4 K f6 "run" "Bench.run" D6 ["self", "name", "many"]
 ze:l4 K f6 "drop" "Bench.drop" Ei ["self", "name"]
 zh:l4 K f6 "undo" "Bench.undo" Em ["self"]
 tC:l4 K f6 "names" "Bench.names" Ex ["self"]
 zj:l4 K f6 "powers" "Bench.powers" EG ["self", "name"]
 zf:l4 K f6 "gone" "Bench.gone" Ej ["self", "name"]
 nD:l4 K f6 "held_by" "Bench.held_by" EU ["self", "name"]
 p2:l4 K f6 "done" "Bench.done" Eh ["self", "name", "what"]
 tx:l4 K f6 "hold" "Bench.hold" Ek ["self", "name", "what"]
 fi:mg "len" = none
 dg:mg "isinstance" = none
 sJ:mg "int" = none
 pW:mg "bool" = none
 gv:mg "tuple" = none
 q_:mg "list" = none
 kU:mg "range" = none
 sL:mg "max" = none
 vJ:mg "min" = none
 oH:mg "all" = none
 ja:mg "zip" = none
 nd:mg "str" = none
 yT:mg "sorted" = none
 Lv:mg "enumerate" = none
 Te:mg "dict" = none
 aag:mg "ValueError" = none
 nA:Addr
 s6:mg "PRIMES" = some (.ref nA)
 ro : ∀ H,aR K H nA [.int 2,.int 3,.int 5,.int 7,.int 11,.int 13,.int 17,.int 19,.int 23,.int 29]
 EY : ∃ t,mg "MOST_FRACTIONS" = some (.int 16 t)
 D3 : ∃ t,mg "MOST_TERM" = some (.int 1000000000000 t)
 zl : ∃ t,mg "MOST_STRETCHES" = some (.int 2000 t)
 Eg : ∃ t,mg "MOST_POWER" = some (.int 1000000 t)
 Du : ∃ t,mg "LETTERS" = some (.str "abcdefghijklmnopqrstuvwxyz" t)
 EC : ∃ t,mg "MOST_LETTERS" = some (.int 8 t)
 Ef : ∃ t,mg "MOST_NAMES" = some (.int 12 t)
section
variable {P:Program} {w:World} {K:PySem.W.Frag} {mg:Str->Option Value} {base:Heap}
def Ym:bX:=λ vs H Q _ => ∃ (a:Addr) (n jq:Int),vs=[.ref a,.int jq]/\H a=some (.lst [.int n])/\0<jq/\jq<1073741824/\Q (.int (n % jq)) (upd H a (.lst [.int (n / jq)]))
theorem oU (T:bE K mg):c6 P w mg base cD 1 T.C2 Ym:=by
 refine T.C2.fn.ec KW (λ vs H Q E h=>?_) (λ ba A outer s H vs Q E aq h=>?_)
 ·obtain ⟨a,n,jq,rfl,_⟩:=h;rfl
 ·obtain ⟨a,n,jq,rfl,aw,h0,af,q⟩:=h;refine ⟨_,(aM (bN 2 KW (b8 oM (cS d7 (aa 0) aL (λ _ _=>rfl)) (aa 1)))
   (aM (nq (b8 sW (cS d7 (aa 0) aL (λ _ _=>rfl)) (aa 1)) (vU (aa 0) aL set_list))
   (aV (bH (aa 2))))),?_⟩
  refine ⟨_,rfl,a,_,_,_,rfl,rfl,a3.of aw,rfl,_,rfl,_,_,rfl,rfl,h0,?_⟩;refine ⟨_,rfl,a,_,_,_,rfl,rfl,a3.of aw,rfl,_,rfl,_,_,rfl,rfl,⟨h0,af⟩,_,rfl,a,_,_,0,rfl,rfl,aw,rfl,?_⟩;exact ⟨_,rfl,q⟩
def aar (K:PySem.W.Frag):bX:=λ vs H Q _ => ∃ (a:Addr) (ns:List Int) (k:Int),vs=[.ref a,.int k]/\a3 K H a (ns.map V.int)/\0<=k /\ ∀ c:Int,Q (.int c) H
theorem LS (T:bE K mg):c6 P w mg base cD 1 T.Lm (aar K):=by
 refine T.Lm.fn.ec aan (λ vs H Q E h=>?_) (λ ba A outer s H vs Q E aq h=>?_)
 ·obtain ⟨a,ns,k,rfl,_⟩:=h;rfl
 ·obtain ⟨a,ns,k,rfl,c8,h0,q⟩:=h;refine ⟨_,(aM (cM (cn lJ (aa 1) (bG gG T.fi fh (ae (aa 0) av)) (bZ _))
    (aV (bH (cS d7 (aa 0) (aa 1) (λ _ _=>rfl))))
    ct)
   (aV (bH aL))),?_⟩
  refine ⟨_,rfl,_,rfl,a,_,rfl,.inl c8,_,_,rfl,rfl,_,rfl,?_⟩;refine eu (λ dE=>?_) (λ _=>q 0);have Rw:k<((ns.map V.int).length:Int):=by simpa using dE
  rw [List.length_map] at Rw;have aB:k.toNat<ns.length:=by omega
  have e:(ns.map V.int)[k.toNat]?=some (V.int ns[k.toNat]):=by rw [List.getElem?_map,List.getElem?_eq_getElem aB];rfl
  exact ⟨_,rfl,_,rfl,a,_,_,_,rfl,rfl,c8,lL h0 e,q _⟩
def WR:bX:=λ vs H Q _ => ∃ c:Int,vs=[.int c] /\ ∀ (n:Int) (p:Addr),H p=none->Q (.ref p) (upd H p (.lst [.int n]))
theorem J3 (T:bE K mg):c6 P w mg base cD 1 T.I6 WR:=by
 refine T.I6.fn.ec ta (λ vs H Q E h=>?_) (λ ba A outer s H vs Q E aq h=>?_)
 ·obtain ⟨c,rfl,_⟩:=h;rfl
 ·obtain ⟨c,rfl,q⟩:=h;refine ⟨_,(aM (cM (cn Ct (aa 0) (b8 vS aL aL) (bZ _))
    (aV (bH (vT (ae (b8 jH (aa 0) (b8 vS aL aL)) av))))
    ct)
   (aM (bN 1 ta aL)
   (aM (gD PassesOwn.never rfl (my rfl T.kU (ae aL av)) (dM 2 ta)
    (aM (bN 3 ta (b8 oM (b8 oN (b8 fG (b8 fG (b8 oM (aa 0) aL) (b8 oN aL (aa 2))) aL) aL) aL))
   (aM (bN 3 ta (b8 oM (b8 fG (b8 fG (b8 oN (aa 3) (aa 3)) (b8 oN aL (aa 2))) aL) aL))
   (aV (bN 1 ta (b8 fG (b8 oN (aa 1) aL) (aa 3)))))))
   (aV (bH (vT (ae (aa 1) av))))))),?_⟩
  refine ⟨_,rfl,_,_,rfl,rfl,⟨by decide,by decide,by decide⟩,_,_,rfl,rfl,_,rfl,?_⟩;refine eu (λ _=>?_) (λ _=>?_)
  ·refine ⟨_,rfl,_,_,rfl,rfl,⟨by decide,by decide,by decide⟩,_,_,rfl,rfl,cg,λ p ax=>?_⟩;exact q _ p ax
  ·refine ⟨64,rfl,by decide,by decide,mx (n:=64) (λ i σ ar => ∃ (n:Int) (u v:Option V),σ=[some (.int c),some (.int n),u,v]/\ar=H) ⟨0,none,none,rfl,rfl⟩ ?_ ?_⟩
   ·rintro i σ ar ay ⟨n,u,v,rfl,rfl⟩;refine ⟨_,rfl,_,_,rfl,rfl,(by show (0:Int)<2147483629;decide),_,rfl,_,_,rfl,rfl,.inl ⟨by decide,by decide⟩,_,_,rfl,rfl,_,_,rfl,rfl,_,_,rfl,rfl,.inr ⟨by decide,by decide⟩,_,_,rfl,rfl,(by show (0:Int)<2147483647;decide),?_⟩;refine ⟨_,rfl,_,rfl,_,_,rfl,rfl,.inl ?_,_,rfl,_,_,rfl,rfl,.inl ⟨by decide,by decide⟩,_,_,rfl,rfl,_,_,rfl,rfl,_,_,rfl,rfl,(by show (0:Int)<2147483587;decide),?_⟩
    ·have af:=Int.emod_nonneg ((c % 2147483629+7919 * (0+(i:Int))+1) * 48271) (show (2147483647:Int)≠0 by decide);have ai:=Int.emod_lt_of_pos ((c % 2147483629+7919 * (0+(i:Int))+1) * 48271) (show (0:Int)<2147483647 by decide);exact ⟨by omega,by omega⟩
    refine ⟨_,rfl,_,_,rfl,rfl,.inr ⟨by decide,by decide⟩,_,rfl,_,_,rfl,rfl,?_⟩;exact ⟨_,_,_,rfl,rfl⟩
   ·rintro σ ar ⟨n,u,v,rfl,rfl⟩;exact ⟨_,rfl,cg,λ p ax=>q n p ax⟩
def ZD:bX:=λ vs H Q _ => ∃ (a:Addr) (n l2:Int),vs=[.ref a,.int l2]/\H a=some (.lst [.int n])/\0<=l2/\l2<=100 /\
 ∀ (p:Addr) (H':ah) (b6:Int) (ns:List Int),H p=none->bW a H H'->H' a=some (.lst [.int b6])->H' p=some (.tup (ns.map V.int))->ns.length=l2.toNat->(∀ m∈ns,0<=m/\m<l2)->Q (.ref p) H'
theorem Zq (T:bE K mg):c6 P w mg base cD 2 T.Km ZD:=by
 refine T.Km.fn.ec DZ (λ vs H Q E h=>?_) (λ ba A outer s H vs Q E aq h=>?_)
 ·obtain ⟨a,n,l2,rfl,_⟩:=h;rfl
 ·obtain ⟨a,n,l2,rfl,aw,h0,af,q⟩:=h;refine ⟨_,(aM (bN 2 DZ (vT av))
   (aM (gD PassesOwn.never rfl (my rfl T.kU (ae (aa 1) av)) (dM 3 DZ)
    (aV (hV (jG PySem.F.plainAttrs_list PySem.F.slot_list_insert PySem.F.type_list_insert XP (aa 2) (ae (b7 (oU T) aq bM (ae (aa 0) (ae (b8 fG (aa 3) aL) av))) (ae (aa 3) av))))))
   (aV (bH (iM tD T.gv gu (ae (aa 2) av)))))),?_⟩
  refine ⟨cg,λ l au=>?_⟩;have hP:a≠l:=cj aw au;refine ⟨_,rfl,l2,rfl,by omega,by omega,mx (n:=l2.toNat) (λ i σ ar => ∃ (b6:Int) (ns:List Int) (u:Option V),σ=[some (.ref a),some (.int l2),some (.ref l),u]/\bW a H ar/\ar a=some (.lst [.int b6])/\ar l=some (.lst (ns.map V.int))/\ns.length=i /\ ∀ m∈ns,0<=m/\m<l2)
   ⟨n,[],none,rfl,λ b o _ e=>by rw [a8 (cj e au)];exact e,by rw [a8 hP];exact aw,bA,rfl,λ m hm=>absurd hm (by simp)⟩ ?_ ?_⟩
  ·rintro i σ ar ay ⟨b6,ns,u,rfl,dc,ft,fg,aD,hm⟩;refine ⟨_,rfl,.inl ⟨rfl,_,a3.of fg⟩,_,rfl,_,rfl,_,_,rfl,rfl,a,b6,_,rfl,ft,by omega,by omega,_,rfl,l,_,_,_,rfl,rfl,by rw [a8 hP.symm];exact fg,?_,?_,?_,?_⟩
   ·exact Int.emod_nonneg _ (by omega)
   ·have:=Int.emod_lt_of_pos b6 (show (0:Int)<0+(i:Int)+1 by omega);omega
   ·rw [List.length_map,aD,sizeLine_eq];omega
   ·refine ⟨b6 / (0+(i:Int)+1),ns.take (min (b6 % (0+(i:Int)+1)).toNat (ns.map V.int).length)++(0+(i:Int))::ns.drop (min (b6 % (0+(i:Int)+1)).toNat (ns.map V.int).length),_,rfl,?_,?_,?_,?_,?_⟩
    ·intro b o nb e;rw [a8 (cj e au),a8 nb];exact dc b o nb e
    ·rw [a8 hP,bA]
    ·rw [bA,List.map_append,List.map_cons,List.map_take,List.map_drop]
    ·rw [List.length_append,List.length_cons,List.length_take,List.length_drop,List.length_map,aD];omega
    ·intro m l8;rcases List.mem_append.mp l8 with z | z
     ·exact hm m (List.mem_of_mem_take z)
     ·rcases List.mem_cons.mp z with z | z
      ·rw [z];omega
      ·exact hm m (List.mem_of_mem_drop z)
  ·rintro σ ar ⟨b6,ns,u,rfl,dc,ft,fg,aD,hm⟩;refine ⟨_,rfl,l,_,rfl,.inl ⟨a3.of fg,λ p ax=>?_⟩⟩;have u4:p≠a:=λ z=>by rw [z,ft] at ax;cases ax
   refine q p _ b6 ns (dc.free ax u4) (dc.new ax) ?_ bA aD hm;rw [a8 u4.symm];exact ft
def Z2:bX:=λ vs H Q _ => ∃ (a:Addr) (n:Int),vs=[.ref a]/\H a=some (.lst [.int n]) /\
 ∀ (p:Addr) (H':ah) (b6:Int) (ns:List Int),bW a H H'->H' a=some (.lst [.int b6])->H' p=some (.tup (ns.map V.int))->1<=ns.length->ns.length<=5->(∀ m∈ns,0<=m/\m<10)->Q (.ref p) H'
theorem ZX (T:bE K mg):c6 P w mg base cD 3 T.K3 Z2:=by
 refine T.K3.fn.ec LA (λ vs H Q E h=>?_) (λ ba A outer s H vs Q E aq h=>?_)
 ·obtain ⟨a,n,rfl,_⟩:=h;rfl
 ·obtain ⟨a,n,rfl,aw,q⟩:=h;refine ⟨_,(aM (bN 1 LA (b8 fG aL (b7 (oU T) aq bM (ae (aa 0) (ae aL av)))))
   (aM (cM (cn eJ (b7 (oU T) aq bM (ae (aa 0) (ae aL av))) aL (bZ _))
    (aV (bH (iM (abm rfl) T.gv gu (ae (iM YZ T.kU Ue (ae (aa 1) av)) av))))
    ct)
   (aV (bH (rn JB (b7 (Zq T) aq bM (ae (aa 0) (ae aL av))) rf (rg (aa 1))))))),?_⟩
  refine ⟨_,rfl,a,n,5,rfl,aw,by decide,by decide,_,_,rfl,rfl,?_⟩;refine ⟨_,rfl,a,_,2,rfl,bA,by decide,by decide,rfl,_,rfl,?_⟩;have nL:=Int.emod_nonneg n (show (5:Int)≠0 by decide);have g1:=Int.emod_lt_of_pos n (show (0:Int)<5 by decide);refine eu (λ _=>?_) (λ _=>?_)
  ·refine ⟨_,rfl,_,rfl,λ p ax=>⟨p,_,rfl,bA,by omega,by omega,λ l au=>?_⟩⟩;have u4:p≠a:=λ z=>by rw [z,bA] at ax;cases ax
   have Bu:l≠a:=λ z=>by rw [z,a8 u4.symm,bA] at au;cases au
   refine q l _ (n / 5 / 2) ((List.range (1+n % 5).toNat).map λ i=>((i:Nat):Int)) (((bW.upd.set).new ax).new au) ?_ ?_ ?_ ?_ ?_
   ·rw [a8 Bu.symm,a8 u4.symm,bA]
   ·rw [bA,List.map_map];rfl
   ·rw [List.length_map,List.length_range];omega
   ·rw [List.length_map,List.length_range];omega
   ·intro m hm;obtain ⟨i,ay,rfl⟩:=List.mem_map.mp hm;have:=List.mem_range.mp ay;omega
  ·refine ⟨_,rfl,a,_,10,rfl,bA,by decide,by decide,λ p H' b6 ns ax dc h7 mS hlen hm=>?_⟩;have vm:ns.length=10:=hlen;refine ⟨_,rfl,_,rfl,.inl ⟨p,_,rfl,aR.of mS,?_,λ l au=>?_⟩⟩
   ·rintro ⟨_,h⟩;rw [IZ (by omega),List.length_map] at h;omega
   have Bu:l≠a:=λ z=>by rw [z,h7] at au;cases au
   have dP:bW a H (upd (upd H a (.lst [.int (n / 5)])) a (.lst [.int (n / 5 / 2)])):=bW.upd.set;have dQ:bW a H H':=dP.trans dc;refine q l _ b6 (ns.take (1+n % 5).toNat) (dQ.new au) ?_ ?_ ?_ ?_ ?_
   ·rw [a8 Bu.symm];exact h7
   ·rw [bA,C5 (by omega),List.map_take]
   ·rw [List.length_take];omega
   ·rw [List.length_take];omega
   ·intro m l8;exact hm m (List.mem_of_mem_take l8)
def f7:List V:=[.int 2,.int 3,.int 5,.int 7,.int 11,.int 13,.int 17,.int 19,.int 23,.int 29]
def Z3:bX:=λ vs H Q _=>vs=[] /\ ∀ p,H p=none->Q (.ref p) (upd H p (.tup f7))
theorem D4 (T:bE K mg):c6 P w mg base cD 1 T.K4 Z3:=by
 refine T.K4.fn.ec ZZ (λ vs H Q E h=>?_) (λ ba A outer s H vs Q E aq h=>?_)
 ·obtain ⟨rfl,_⟩:=h;rfl
 ·obtain ⟨rfl,q⟩:=h;refine ⟨_,(aV (bH (IW (ae aL (ae aL (ae aL (ae aL (ae aL (ae aL (ae aL (ae aL (ae aL (ae aL av))))))))))))),?_⟩;exact ⟨cg,λ p ax=>q p ax⟩
theorem tw {i:Nat} {x:V} (h:f7[i]?=some x) : ∃ p:Nat,x=.int (p:Int)/\dk[i]?=some p/\p<30:=by
 match i,h with
 | 0,h=>cases h;exact ⟨2,rfl,rfl,by decide⟩
 | 1,h=>cases h;exact ⟨3,rfl,rfl,by decide⟩
 | 2,h=>cases h;exact ⟨5,rfl,rfl,by decide⟩
 | 3,h=>cases h;exact ⟨7,rfl,rfl,by decide⟩
 | 4,h=>cases h;exact ⟨11,rfl,rfl,by decide⟩
 | 5,h=>cases h;exact ⟨13,rfl,rfl,by decide⟩
 | 6,h=>cases h;exact ⟨17,rfl,rfl,by decide⟩
 | 7,h=>cases h;exact ⟨19,rfl,rfl,by decide⟩
 | 8,h=>cases h;exact ⟨23,rfl,rfl,by decide⟩
 | 9,h=>cases h;exact ⟨29,rfl,rfl,by decide⟩
 | (k+10),h=>cases h
theorem DT : ∀ (ag ao:List Nat) (i p e:Nat),ag[i]?=some p->ao[i]?=some e->iL (ag.take (i+1)) (ao.take (i+1))=iL (ag.take i) (ao.take i) * p ^ e
 | [],_,_,_,_,h,_=>by cases h
 | _,[],_,_,_,_,h=>by cases h
 | hE::ag,bP::ao,0,p,e,h,h'=>by
  have z:hE=p:=Option.some.inj h;have dR:bP=e:=Option.some.inj h';subst z;subst dR;show hE ^ bP * 1=1 * hE ^ bP;omega
 | hE::ag,bP::ao,i+1,p,e,h,h'=>by
  show hE ^ bP * iL (ag.take (i+1)) (ao.take (i+1))=hE ^ bP * iL (ag.take i) (ao.take i) * p ^ e;rw [DT ag ao i p e h h',Nat.mul_assoc]
def aat (K:PySem.W.Frag):bX:=λ vs H Q _ => ∃ (b:Addr) (ao:List Int),vs=[.ref b]/\aR K H b (ao.map V.int)/\ao.length=10/\(∀ e∈ao,0<=e/\e<2 ^ 62) /\ ∀ H',aC H H'->Q (.int (prod (ao.map Int.toNat):Nat)) H'
theorem LU (T:bE K mg):c6 P w mg base cD 2 T.zc (aat K):=by
 refine T.zc.fn.ec lP (λ vs H Q E h=>?_) (λ ba A outer s H vs Q E aq h=>?_)
 ·obtain ⟨b,ao,rfl,_⟩:=h;rfl
 ·obtain ⟨b,ao,rfl,J,he,hm,q⟩:=h;refine ⟨_,(aM (bN 1 lP aL)
   (aM (gD PassesOwn.never rfl (nk rfl rfl T.ja (ae (CC (D4 T) aq bM) (ae (aa 0) av))) (lN rfl (da (dM 2 lP) (da (dM 3 lP) fV)))
    (aV (gD PassesOwn.never rfl (my rfl T.kU (ae (aa 3) av)) (dM 4 lP)
    (aV (bN 1 lP (b8 oN (aa 1) (aa 2)))))))
   (aV (bH (aa 1))))),?_⟩
  refine ⟨rfl,λ t aW=>⟨_,rfl,t,b,rfl,⟨_,aR.of bA⟩,⟨_,aC.tup (aC.new aW) J⟩,?_⟩⟩;have dp:f7.length=10:=rfl;have AR:(ao.map V.int).length=10:=by rw [List.length_map];exact he
  refine Jl (xs:=f7) (ys:=ao.map V.int) (λ i σ ar=>(∃ u v x:Option V,σ=[some (.ref b),some (.int (iL (dk.take i) ((ao.map Int.toNat).take i):Nat)),u,v,x])/\aC (upd H t (.tup f7)) ar) ⟨⟨none,none,none,rfl⟩,aC.refl _⟩ ?_ ?_ ?_
  ·rintro i σ ar ay ⟨_,s2⟩;exact ⟨aR.of (s2 _ _ bA),aC.tup s2 (aC.tup (aC.new aW) J)⟩
  ·rintro i x y z σ ar ak aN a9 ⟨⟨u,v,e3,rfl⟩,s2⟩;obtain ⟨p,rfl,ax,q1⟩:=tw ak;obtain ⟨e,rfl,n6⟩:=kd aN;obtain ⟨bP,aO⟩:=hm e (List.mem_of_getElem? n6);refine ⟨z,_,rfl,aR.of bA,rfl,_,_,rfl,_,_,rfl,rfl,?_⟩;refine ⟨_,rfl,e,rfl,by omega,aO,mx (n:=e.toNat) (λ j σ aK=>(∃ x:Option V,σ=[some (.ref b),some (.int ((iL (dk.take i) ((ao.map Int.toNat).take i) * p ^ j:Nat):Int)),some (.int p),some (.int e),x])/\aC (upd H t (.tup f7)) aK) ⟨⟨e3,by rw [Nat.pow_zero,Nat.mul_one];rfl⟩,aC.more s2 a9⟩ ?_ ?_⟩
   ·rintro j σ aK b3 ⟨⟨iY,rfl⟩,s3⟩;refine ⟨_,rfl,_,rfl,_,_,rfl,rfl,.inr ⟨by omega,by omega⟩,⟨some (.int (0+(j:Int))),?_⟩,s3⟩;rw [Nat.pow_succ,<-Nat.mul_assoc,Int.natCast_mul _ p];rfl
   ·rintro σ aK ⟨⟨iY,rfl⟩,s3⟩;refine ⟨⟨some (.int p),some (.int e),iY,?_⟩,s3⟩;have BX:(ao.map Int.toNat)[i]?=some e.toNat:=by rw [List.getElem?_map,n6];rfl
    rw [DT dk (ao.map Int.toNat) i p e.toNat ax BX]
  ·rintro σ ar ⟨⟨u,v,x,rfl⟩,s2⟩;have aQ:min f7.length (ao.map V.int).length=10:=by rw [dp,AR];rfl
   refine ⟨_,rfl,?_⟩;rw [aQ];have fs:dk.take 10=dk:=rfl;have e4:(ao.map Int.toNat).take 10=ao.map Int.toNat:=List.take_of_length_le (by rw [List.length_map,he];exact Nat.le_refl _);rw [fs,e4];exact q ar ((aC.new aW).trans s2)
def F8 (a b l:Addr) (H:ah) (gd cd:Nat) (σ:St) (ar:ah):Prop := ∃ (b6:Int) (xs:List Int) (u v t1 aT:Option V),σ=[some (.ref a),some (.ref b),some (.ref l),u,v,t1,aT]/\bW a H ar/\ar a=some (.lst [.int b6])/\ar l=some (.lst (xs.map V.int))/\xs.length=10/\(ups xs).sum<=gd/\(downs xs).sum<=cd
def oi:V->V
 | .int j=>.int (if j > 0 then j else 0)
 | v=>v
def sg:V->V
 | .int j=>.int (if 0 - j > 0 then 0 - j else 0)
 | v=>v
theorem Ut (xs:List Int):(xs.map V.int).map oi=(xs.map λ x=>if x > 0 then x else 0).map V.int:=by rw [List.map_map,List.map_map];rfl
theorem Uu (xs:List Int):(xs.map V.int).map sg=(xs.map λ x=>if 0 - x > 0 then 0 - x else 0).map V.int:=by rw [List.map_map,List.map_map];rfl
theorem T9 (xs:List Int):(xs.map λ x=>if x > 0 then x else 0).map Int.toNat=ups xs:=by
 rw [List.map_map];refine List.map_congr_left λ x _=>?_
 show (if x > 0 then x else 0).toNat=x.toNat;split<;>omega
theorem VP (xs:List Int):(xs.map λ x=>if 0 - x > 0 then 0 - x else 0).map Int.toNat=downs xs:=by
 rw [List.map_map];refine List.map_congr_left λ x _=>?_
 show (if 0 - x > 0 then 0 - x else 0).toNat=(-x).toNat;split<;>omega
theorem DQ : ∀ {l:List Nat} {x:Nat},x∈l->x<=l.sum
 | [],_,h=>by cases h
 | y::r,x,h=>by
  rw [List.sum_cons];rcases List.mem_cons.mp h with z | z
  ·omega
  ·have:=DQ z;omega
def aaY:bX:=λ vs H Q _ => ∃ (a b:Addr) (n:Int) (ns:List Int),vs=[.ref a,.ref b]/\H a=some (.lst [.int n])/\H b=some (.tup (ns.map V.int))/\1<=ns.length/\ns.length<=10/\(∀ m∈ns,0<=m/\m<10) /\
 ∀ (p:Addr) (H':ah) (b6 i j:Int),bW a H H'->H' a=some (.lst [.int b6])->H' p=some (.tup [.int i,.int j])->i_ i j=true->Q (.ref p) H'
theorem aaP (T:bE K mg):c6 P w mg base cD 3 T.LK aaY:=by
 refine T.LK.fn.ec nC (λ vs H Q E h=>?_) (λ ba A outer s H vs Q E aq h=>?_)
 ·obtain ⟨a,b,n,ns,rfl,_⟩:=h;rfl
 ·obtain ⟨a,b,n,ns,rfl,aw,J,r_,lC,hm,q⟩:=h;refine ⟨_,(aM (bN 2 nC (b8 IS (vT (ae aL av)) aL))
   (aM (gD PassesOwn.never rfl (my rfl T.kU (ae (b7 (oU T) aq bM (ae (aa 0) (ae aL av))) av)) (dM 3 nC)
    (aM (bN 4 nC (cS hv (aa 1) (b7 (oU T) aq bM (ae (aa 0) (ae (bG gG T.fi fh (ae (aa 1) av)) av))) (λ _ _=>rfl)))
   (aV (nq (b8 fG (cS d7 (aa 2) (aa 4) (λ _ _=>rfl)) aL) (vU (aa 2) (aa 4) set_list)))))
   (aM (gD PassesOwn.never rfl (my rfl T.kU (ae (b7 (oU T) aq bM (ae (aa 0) (ae aL av))) av)) (dM 3 nC)
    (aM (bN 4 nC (cS hv (aa 1) (b7 (oU T) aq bM (ae (aa 0) (ae (bG gG T.fi fh (ae (aa 1) av)) av))) (λ _ _=>rfl)))
   (aV (nq (b8 jH (cS d7 (aa 2) (aa 4) (λ _ _=>rfl)) aL) (vU (aa 2) (aa 4) set_list)))))
   (aM (bN 5 nC (iM tD T.gv gu (ae (f9 (fA nC (N:=["one"]) (js:=[none]) (List.forall_mem_nil _)) rfl (sY (aa 2)) (λ _ _ _ _=>fC) (λ _ _ _ _=>fW)
     (λ _ _ _ _=>(bG (v_ rfl) T.sL sG (ae aL (ae (aa 0) av))))) av)))
   (aM (bN 6 nC (iM tD T.gv gu (ae (f9 (fA nC (N:=["one"]) (js:=[none]) (List.forall_mem_nil _)) rfl (sY (aa 2)) (λ _ _ _ _=>fC) (λ _ _ _ _=>fW)
     (λ _ _ _ _=>(bG (v_ rfl) T.sL sG (ae aL (ae (b8 jH aL (aa 0)) av))))) av)))
   (aV (bH (IW (ae (b7 (LU T) aq bM (ae (aa 5) av)) (ae (b7 (LU T) aq bM (ae (aa 6) av)) av)))))))))),?_⟩
  refine ⟨cg,λ fc ku=>⟨fc,10,_,rfl,rfl,bA,by decide,by decide,by decide,λ l au=>?_⟩⟩;have jz:b≠a:=cI J aw nofun;have G0:a≠fc:=cj aw ku;have hP:a≠l:=cj (by rw [a8 G0];exact aw) au;have dP:bW a H (upd (upd H fc (.lst [.int 0])) l (.lst (List.replicate (10:Int).toNat [V.int 0]).flatten)):=((bW.refl a H).new ku).new au;have uK:H l=none:=by
   have:=au;unfold upd at this;split at this
   ·cases this
   ·exact this
  have turn : ∀ (ar:ah) (b6:Int),bW a H ar->ar a=some (.lst [.int b6]) -> ∃ m:Int,0<=m/\m<10/\0<=b6 % ((ns.map V.int).length:Int)/\(ns.map V.int)[(b6 % ((ns.map V.int).length:Int)).toNat]?=some (.int m):=by
   intro ar b6 _ _;have Qa:((ns.map V.int).length:Int)=(ns.length:Int):=by rw [List.length_map]
   rw [Qa];have nL:=Int.emod_nonneg b6 (show (ns.length:Int)≠0 by omega);have g1:=Int.emod_lt_of_pos b6 (show (0:Int)<ns.length by omega);have aB:(b6 % (ns.length:Int)).toNat<ns.length:=by omega
   obtain ⟨m0,g7⟩:=hm _ (List.getElem_mem aB);exact ⟨ns[(b6 % (ns.length:Int)).toNat],m0,g7,nL,by rw [List.getElem?_map,List.getElem?_eq_getElem aB];rfl⟩
  have ada:((ns.map V.int).length:Int)=(ns.length:Int):=by rw [List.length_map]
  have acH:=Int.emod_nonneg n (show (4:Int)≠0 by decide);have acI:=Int.emod_lt_of_pos n (show (0:Int)<4 by decide);refine ⟨_,rfl,a,n,4,rfl,(by rw [a8 hP,a8 G0];exact aw),by decide,by decide,_,rfl,by omega,by omega,mx (n:=(n % 4).toNat) (λ i σ ar=>F8 a b l H i 0 σ ar) ?_ ?_ ?_⟩
  ·exact ⟨n / 4,List.replicate 10 0,none,none,none,none,rfl,dP.set,bA,by rw [a8 hP.symm,bA];rfl,rfl,by decide,by decide⟩
  ·rintro i σ ar ay ⟨b6,xs,u,v,t1,aT,rfl,dc,ft,fg,ak,bD,hd⟩;obtain ⟨m,m0,g7,nL,pI⟩:=turn ar b6 dc ft;have jr:ar b=some (.tup (ns.map V.int)):=dc b _ jz J;refine ⟨_,rfl,_,rfl,_,rfl,b,_,rfl,.inr (aR.of jr),a,b6,_,rfl,ft,by omega,by omega,b,_,_,_,rfl,rfl,aR.of (by rw [a8 jz];exact jr),lL nL pI,?_⟩;have lB:(upd ar a (.lst [.int (b6 / ((ns.map V.int).length:Int))])) l=some (.lst (xs.map V.int)):=by rw [a8 hP.symm];exact fg
   have uM:m.toNat<xs.length:=by omega
   have jx:xs[m.toNat]?=some xs[m.toNat]:=List.getElem?_eq_getElem uM;have Bi:(xs.map V.int)[m.toNat]?=some (.int xs[m.toNat]):=by rw [List.getElem?_map,jx];rfl
   refine ⟨_,rfl,_,rfl,l,_,_,_,rfl,rfl,a3.of lB,lL m0 Bi,_,_,rfl,rfl,_,rfl,_,rfl,l,_,_,_,rfl,rfl,lB,vQ m0 (by rw [List.length_map,ak];omega),?_⟩;refine ⟨b6 / ((ns.map V.int).length:Int),xs.set m.toNat (xs[m.toNat]+1),_,_,t1,aT,rfl,?_,?_,?_,?_,?_,?_⟩
   ·intro c o ef e;rw [a8 (cj e uK),a8 ef];exact dc c o ef e
   ·rw [a8 hP,bA]
   ·rw [bA,List.map_set]
   ·rw [List.length_set];exact ak
   ·exact Nat.le_trans (I5 jx) (by omega)
   ·exact Nat.le_trans (VQ jx) hd
  rintro σ ar ⟨b6,xs,u,v,t1,aT,rfl,dc,ft,fg,ak,bD,hd⟩;have acJ:=Int.emod_nonneg b6 (show (4:Int)≠0 by decide);have acK:=Int.emod_lt_of_pos b6 (show (0:Int)<4 by decide);refine ⟨_,rfl,a,b6,4,rfl,ft,by decide,by decide,_,rfl,by omega,by omega,mx (n:=(b6 % 4).toNat) (λ i σ ar=>F8 a b l H 3 i σ ar) ?_ ?_ ?_⟩
  ·exact ⟨b6 / 4,xs,u,v,t1,aT,rfl,dc.set,bA,by rw [a8 hP.symm];exact fg,ak,by omega,hd⟩
  ·clear bD hd ak fg ft dc;rintro i σ ar ay ⟨b6,xs,u,v,t1,aT,rfl,dc,ft,fg,ak,bD,hd⟩;obtain ⟨m,m0,g7,nL,pI⟩:=turn ar b6 dc ft;have jr:ar b=some (.tup (ns.map V.int)):=dc b _ jz J;refine ⟨_,rfl,_,rfl,_,rfl,b,_,rfl,.inr (aR.of jr),a,b6,_,rfl,ft,by omega,by omega,b,_,_,_,rfl,rfl,aR.of (by rw [a8 jz];exact jr),lL nL pI,?_⟩;have lB:(upd ar a (.lst [.int (b6 / ((ns.map V.int).length:Int))])) l=some (.lst (xs.map V.int)):=by rw [a8 hP.symm];exact fg
   have uM:m.toNat<xs.length:=by omega
   have jx:xs[m.toNat]?=some xs[m.toNat]:=List.getElem?_eq_getElem uM;have Bi:(xs.map V.int)[m.toNat]?=some (.int xs[m.toNat]):=by rw [List.getElem?_map,jx];rfl
   refine ⟨_,rfl,_,rfl,l,_,_,_,rfl,rfl,a3.of lB,lL m0 Bi,_,_,rfl,rfl,_,rfl,_,rfl,l,_,_,_,rfl,rfl,lB,vQ m0 (by rw [List.length_map,ak];omega),?_⟩;refine ⟨b6 / ((ns.map V.int).length:Int),xs.set m.toNat (xs[m.toNat] - 1),_,_,t1,aT,rfl,?_,?_,?_,?_,?_,?_⟩
   ·intro c o ef e;rw [a8 (cj e uK),a8 ef];exact dc c o ef e
   ·rw [a8 hP,bA]
   ·rw [bA,List.map_set]
   ·rw [List.length_set];exact ak
   ·exact Nat.le_trans (W3 jx) bD
   ·exact Nat.le_trans (Y2 jx) (by omega)
  clear bD hd ak fg ft dc;rintro σ ar ⟨b6,xs,u,v,t1,aT,rfl,dc,ft,fg,ak,bD,hd⟩;have qx:(downs xs).sum<=3:=by omega
  refine ⟨_,rfl,l,rfl,⟨_,a3.of fg⟩,λ D a4=>L3 (xs:=xs.map V.int) (f:=oi) rfl (by rw [List.length_map,ak];decide) a4 (a3.of fg) ?_ ⟨D,_,rfl,.inl ⟨a3.of bA,λ t aW=>?_⟩⟩⟩
  ·intro x H' R jx r;obtain ⟨j,_,rfl⟩:=List.mem_map.mp jx;exact ⟨_,rfl,_,_,rfl,r⟩
  have qC:(upd (upd ar D (.lst ((xs.map V.int).map oi))) t (.tup ((xs.map V.int).map oi))) l=some (.lst (xs.map V.int)):=(aC.more (aC.new a4) aW) _ _ fg;refine ⟨_,rfl,l,rfl,⟨_,a3.of qC⟩,λ p3 c2=>L3 (xs:=xs.map V.int) (f:=sg) rfl (by rw [List.length_map,ak];decide) c2 (a3.of qC) ?_ ⟨p3,_,rfl,.inl ⟨a3.of bA,λ t' uT=>?_⟩⟩⟩
  ·intro x H' R jx r;obtain ⟨j,_,rfl⟩:=List.mem_map.mp jx;exact ⟨_,rfl,_,_,rfl,rfl,_,_,rfl,r⟩
  have s4:aC ar (upd (upd (upd (upd ar D (.lst ((xs.map V.int).map oi))) t (.tup ((xs.map V.int).map oi))) p3 (.lst ((xs.map V.int).map sg))) t' (.tup ((xs.map V.int).map sg))):=aC.more (aC.more (aC.more (aC.new a4) aW) c2) uT;have PA:(upd (upd (upd (upd ar D (.lst ((xs.map V.int).map oi))) t (.tup ((xs.map V.int).map oi))) p3 (.lst ((xs.map V.int).map sg))) t' (.tup ((xs.map V.int).map sg))) t=some (.tup ((xs.map V.int).map oi)):=(aC.more (aC.new c2) uT) _ _ bA;refine ⟨_,rfl,t,xs.map λ x=>if x > 0 then x else 0,rfl,?_,by rw [List.length_map];exact ak,?_,λ bt s5=>⟨_,rfl,t',xs.map λ x=>if 0 - x > 0 then 0 - x else 0,rfl,?_,by rw [List.length_map];exact ak,?_,λ cE bL=>⟨cg,λ p ax=>?_⟩⟩⟩
  ·rw [<-Ut];exact aR.of PA
  ·intro e he;obtain ⟨x,jx,rfl⟩:=List.mem_map.mp he;have:=DQ (List.mem_map_of_mem (f:=Int.toNat) jx);have aF:(xs.map Int.toNat).sum<=3:=bD;split<;>omega
  ·rw [<-Uu];exact aR.of (s5 _ _ bA)
  ·intro e he;obtain ⟨x,jx,rfl⟩:=List.mem_map.mp he;have:=DQ (List.mem_map_of_mem (f:=λ x:Int=>(-x).toNat) jx);have aF:(xs.map λ x:Int=>(-x).toNat).sum<=3:=qx;split<;>omega
  ·have Hm:aC ar cE:=(s4.trans s5).trans bL;refine q p _ b6 _ _ ((dc.trans (bW.of Hm)).new ax) ?_ bA ?_
   ·exact (aC.new ax) _ _ (Hm _ _ ft)
   ·rw [T9,VP];exact Lq bD qx
def lK (H:ah) (x:V):Prop := ∃ (c:Addr) (i j:Int),x=.ref c/\H c=some (.tup [.int i,.int j])/\i_ i j=true
theorem lK.ih {H H':ah} {x:V} (a:Addr) (n:Int) (h:lK H x) (aw:H a=some (.lst [.int n])) (dc:bW a H H'):lK H' x:=by
 obtain ⟨c,i,j,rfl,aj,f⟩:=h;exact ⟨c,i,j,rfl,dc c _ (cI aj aw nofun) aj,f⟩
def LY:bX:=λ vs H Q _ => ∃ (a b:Addr) (n most:Int) (ns:List Int),vs=[.ref a,.ref b,.int most]/\H a=some (.lst [.int n])/\H b=some (.tup (ns.map V.int))/\1<=ns.length/\ns.length<=10/\(∀ m∈ns,0<=m/\m<10)/\1<=most/\most<=16 /\
 ∀ (p:Addr) (H':ah) (b6:Int) (xs:List V),bW a H H'->H' a=some (.lst [.int b6])->H' p=some (.tup xs)->1<=xs.length->(xs.length:Int)<=most->(∀ x∈xs,lK H' x)->Q (.ref p) H'
theorem aal (T:bE K mg):c6 P w mg base cD 4 T.Ln LY:=by
 refine T.Ln.fn.ec LW (λ vs H Q E h=>?_) (λ ba A outer s H vs Q E aq h=>?_)
 ·obtain ⟨a,b,n,most,ns,rfl,_⟩:=h;rfl
 ·obtain ⟨a,b,n,most,ns,rfl,aw,J,r_,lC,hm,k1,k2,q⟩:=h;refine ⟨_,(aV (bH (iM tD T.gv gu (ae (f9 (fA LW (N:=["k", "pot", "places"]) (js:=[none,some 0,some 1]) (List.forall_mem_cons.mpr ⟨rfl,(List.forall_mem_cons.mpr ⟨rfl,(List.forall_mem_nil _)⟩)⟩)) rfl (my rfl T.kU (ae (b8 fG aL (b7 (oU T) aq bM (ae (aa 0) (ae (aa 2) av)))) av)) (λ _ _ _ _=>fC) (λ _ _ _ _=>fW)
     (λ _ _ _ _=>(b7 (aaP T) aq bM (ae (aa 1) (ae (aa 2) av))))) av)))),?_⟩
  have jz:b≠a:=cI J aw nofun;have nL:=Int.emod_nonneg n (show most≠0 by omega);have g1:=Int.emod_lt_of_pos n (show 0<most by omega);refine ⟨_,rfl,_,rfl,a,n,most,rfl,aw,by omega,by omega,_,_,rfl,rfl,_,rfl,by omega,by omega,λ D a4=>?_⟩;have xD:D≠a:=λ z=>by rw [z,bA] at a4;cases a4
  have OR:H D=none:=by rw [a8 xD] at a4;exact a4
  refine Y1 (n:=(1+n % most).toNat) (by rw [sizeLine_eq];omega) (λ i σ' H' ys=>(∃ (u:Option V) (b6:Int),σ'=[u,some (.ref a),some (.ref b)]/\H' a=some (.lst [.int b6]))/\bW a H H' /\ ∀ y∈ys,lK H' y) ⟨⟨none,n / most,rfl,by rw [a8 xD.symm,bA]⟩,(bW.upd).new a4,λ y aN=>absurd aN (by simp)⟩ ?_ ?_
  ·rintro i σ' H' ys R ay c2 h9 ⟨⟨u,b6,rfl,h7⟩,dc,aN⟩ k;have kr:=dc b _ jz J;refine ⟨_,rfl,_,rfl,a,b,b6,ns,rfl,h7,kr,r_,lC,hm,λ p bc eB FN Nc Ar lz qH f4=>?_⟩;have uq:bc D=some (.lst ys):=Ar D _ xD c2;have a_ : ∀ c o,c≠D->bc c=some o->(upd bc D (.lst (ys++[V.ref p]))) c=some o:=λ c o ef e=>by rw [a8 ef];exact e
   have Qu:p≠D:=cI qH uq nofun;refine k _ _ _ uq ⟨⟨_,eB,rfl,a_ _ _ xD.symm lz⟩,?_,?_⟩
   ·intro c o ef e;exact a_ c o (cj e OR) (Ar c o ef (dc c o ef e))
   ·intro y PN;rcases List.mem_append.mp PN with z | z
    ·obtain ⟨c,lb,ki,rfl,aj,f⟩:=lK.ih a b6 (aN y z) h7 Ar;exact ⟨c,lb,ki,rfl,a_ _ _ (cI aj uq nofun) aj,f⟩
    ·rw [List.mem_singleton] at z;subst z;exact ⟨p,FN,Nc,rfl,a_ _ _ Qu qH,f4⟩
  ·rintro σ' H' ys c2 h9 ⟨⟨u,b6,rfl,h7⟩,dc,aN⟩;refine ⟨D,_,rfl,.inl ⟨a3.of c2,λ p ax=>?_⟩⟩;refine q p _ b6 ys (dc.new ax) ((aC.new ax) _ _ h7) bA (by rw [h9];omega) (by rw [h9];omega) λ x ak=>?_
   obtain ⟨c,lb,ki,rfl,aj,f⟩:=aN x ak;exact ⟨c,lb,ki,rfl,(aC.new ax) _ _ aj,f⟩
def ZG:bX:=λ vs H Q _ => ∃ (a:Addr) (n jq:Int),vs=[.ref a,.int jq]/\H a=some (.lst [.int n])/\0<jq/\jq<1073741824 /\
 ∀ (r b6:Int) (H':ah),0<=r->r<jq->bW a H H'->H' a=some (.lst [.int b6])->Q (.int r) H'
theorem g0 (T:bE K mg):c6 P w mg base cD 1 T.C2 ZG :=
 (oU T).imp λ vs H Q E ⟨a,n,jq,e,aw,h0,af,q⟩=>⟨a,n,jq,e,aw,h0,af,q _ (n / jq) _ (Int.emod_nonneg n (by omega)) (Int.emod_lt_of_pos n h0) bW.upd bA⟩
def Yl:bX:=λ vs H Q _ => ∃ (a b:Addr) (n most:Int) (ns:List Int),vs=[.ref a,.ref b,.int most]/\H a=some (.lst [.int n])/\H b=some (.tup (ns.map V.int))/\ns.length<=10/\(∀ m∈ns,0<=m/\m<10)/\0<=most/\most<=1000000 /\
 ∀ (p:Addr) (H':ah) (b6:Int) (ao:List Int),bW a H H'->H' a=some (.lst [.int b6])->H' p=some (.tup (ao.map V.int))->ao.length=10->(∀ e∈ao,0<=e/\e<=most)->Q (.ref p) H'
theorem mem_set {α : Type} {xs:List α} {i:Nat} {v x : α} (h:x∈xs.set i v):x=v\/x∈xs:=(List.mem_or_eq_of_mem_set h).elim .inr .inl
theorem XY (T:bE K mg):c6 P w mg base cD 2 T.JK Yl:=by
 refine T.JK.fn.ec DJ (λ vs H Q E h=>?_) (λ ba A outer s H vs Q E aq h=>?_)
 ·obtain ⟨a,b,n,most,ns,rfl,_⟩:=h;rfl
 ·obtain ⟨a,b,n,most,ns,rfl,aw,J,aD,hm,m0,g7,q⟩:=h;refine ⟨_,(aM (bN 3 DJ (b8 J4 (eL (ae aL av)) aL))
   (aM (gD PassesOwn.never rfl (nj (aa 1)) (dM 4 DJ)
    (aV (nq (b7 (g0 T) aq bM (ae (aa 0) (ae (b8 fG (aa 2) aL) av))) (vU (aa 3) (aa 4) set_list))))
   (aM (cM (cn eJ (b7 (g0 T) aq bM (ae (aa 0) (ae aL av))) aL (bZ _))
    (aV (nq (b7 (g0 T) aq bM (ae (aa 0) (ae (b8 fG (aa 2) aL) av))) (vU (aa 3) (b7 (g0 T) aq bM (ae (aa 0) (ae aL av))) set_list)))
    ct)
   (aV (bH (iM rz T.gv gu (ae (aa 3) av))))))),?_⟩
  have jz:b≠a:=cI J aw nofun;refine ⟨cg,λ fc H1 f1 s1 ku=>⟨fc,10,_,rfl,rfl,ku,by decide,by decide,by decide,λ l ar f2 s2 au=>?_⟩⟩;have hP:a≠l:=cj (s1 _ _ aw) f2;have uK:H l=none:=s1.free f2;refine ⟨_,rfl,b,rfl,⟨_,aR.of (s2 _ _ (s1 _ _ J))⟩,yE (xs:=ns.map V.int) (λ i σ aK => ∃ (b6:Int) (ao:List Int) (u:Option V),σ=[some (.ref a),some (.ref b),some (.int most),some (.ref l),u]/\bW a H aK/\aK a=some (.lst [.int b6])/\aK l=some (.lst (ao.map V.int))/\ao.length=10 /\ ∀ e∈ao,0<=e/\e<=most)
   ⟨n,List.replicate 10 0,none,rfl,bW.of (s1.trans s2),s2 _ _ (s1 _ _ aw),au,rfl,λ e he=>by rw [(List.mem_replicate.mp he).2];omega⟩ (λ i σ aK _ ⟨_,_,_,_,dc,_⟩=>aR.of (dc _ _ jz J)) ?_ ?_⟩
  ·rintro i x σ aK ak ⟨b6,ao,u,rfl,dc,r6,lB,he,n7⟩;obtain ⟨m,rfl,Pk⟩:=kd ak;obtain ⟨k0,k1⟩:=hm m (List.mem_of_getElem? Pk);refine ⟨_,rfl,_,rfl,_,_,rfl,rfl,a,b6,_,rfl,r6,by omega,by omega,λ r c0 bc c9 bq ek lz=>?_⟩;refine ⟨_,rfl,_,rfl,l,_,_,_,rfl,rfl,ek _ _ hP.symm lB,vQ k0 (by rw [List.length_map,he];omega),⟨c0,ao.set m.toNat r,_,rfl,?_,?_,?_,?_,?_⟩⟩
   ·intro c o ef e;rw [a8 (cj e uK)];exact ek c o ef (dc c o ef e)
   ·rw [a8 hP];exact lz
   ·rw [bA,List.map_set]
   ·rw [List.length_set];exact he
   ·intro e A5;rcases mem_set A5 with z | z
    ·rw [z];omega
    ·exact n7 e z
  rintro σ aK ⟨b6,ao,u,rfl,dc,r6,lB,he,n7⟩;have fin : ∀ (bt:ah) (g8:Int) (lx:List Int),bW a H bt->bt a=some (.lst [.int g8])->bt l=some (.lst (lx.map V.int))->lx.length=10->(∀ e∈lx,0<=e/\e<=most) -> ∀ p H',bt p=none->aC bt H'->H' p=some (.tup (lx.map V.int))->Q (.ref p) H' :=
   λ bt g8 lx NW mL GA AQ Ro p H' bo sp ax=>q p H' g8 lx (NW.trans (bW.of sp)) (sp _ _ mL) ax AQ Ro
  refine ⟨_,rfl,a,b6,6,rfl,r6,by decide,by decide,λ r c0 bc c9 bq ek lz=>⟨rfl,_,rfl,eu (λ _=>?_) (λ _=>?_)⟩⟩
  ·refine ⟨_,rfl,_,rfl,_,_,rfl,rfl,a,c0,_,rfl,lz,by omega,by omega,λ hF ee bt BE acU dt mL=>?_⟩;refine ⟨_,rfl,_,rfl,a,ee,10,rfl,mL,by decide,by decide,λ hG eB cE QG acV gc O2=>?_⟩;have Pd:cE l=some (.lst (ao.map V.int)):=gc _ _ hP.symm (dt _ _ hP.symm (ek _ _ hP.symm lB));refine ⟨l,_,_,_,rfl,rfl,Pd,vQ QG (by rw [List.length_map,he];omega),?_⟩;refine ⟨_,rfl,l,_,rfl,a3.of bA,?_⟩;rw [<-List.map_set];refine fin _ eB (ao.set hG.toNat hF) ?_ ?_ ?_ ?_ ?_
   ·intro c o ef e;rw [a8 (cj e uK)];exact gc c o ef (dt c o ef (ek c o ef (dc c o ef e)))
   ·rw [a8 hP];exact O2
   ·rw [bA]
   ·rw [List.length_set];exact he
   ·intro e A5;rcases mem_set A5 with z | z
    ·rw [z];omega
    ·exact n7 e z
  ·have qC:bc l=some (.lst (ao.map V.int)):=ek _ _ hP.symm lB;exact ⟨_,rfl,l,_,rfl,a3.of qC,fin bc c0 ao (dc.trans ek) lz qC he n7⟩
def Dl:bX:=λ vs H Q _ => ∃ v,vs=[v]/\d5 H v/\Q (.aJ (sf v)) H
theorem LR (T:bE K mg):kn P w mg base 1 T.tl Dl:=by
 refine T.tl.fn.kz ZY (λ vs H Q E h=>?_) (λ ba A outer s H vs Q E aq h=>?_)
 ·obtain ⟨v,rfl,_⟩:=h;rfl
 ·obtain ⟨v,rfl,k,q⟩:=h;refine ⟨_,(aV (bH (iN (bG d8 T.dg df (ae (aa 0) (ae (d0 (by rfl) T.sJ sF) av))) (ik (IV (bG d8 T.dg df (ae (aa 0) (ae (d0 (by rfl) T.pW pV) av)))))))),?_⟩;obtain ⟨t,ty,e⟩:=vG (K:=K) k;obtain ⟨t',BJ,cU⟩:=sI (K:=K) k;rw [<-IL] at q;refine ⟨v,rfl,v, "int", t,_,rfl,ty,e,_,rfl,?_⟩;cases ay:xA v with
  | false =>
   rw [ay] at q;exact bx q
  | true =>
   rw [ay] at q;exact cm ⟨v,rfl,v, "bool", t',_,rfl,BJ,cU,_,rfl,q⟩
theorem Ly (T:bE K mg):c6 P w mg base cD 1 T.tl Dl:=(LR T).fn
def natAt (σ:St) (i:Nat):Nat:=match σ[i]? with
 | some (some (.int r))=>r.toNat
 | _=>0
theorem sV {i j:Int} (h:decide (V.int i=V.int j)=true):i=j:=by
 have:=of_decide_eq_true h;injection this
theorem CP {i j:Int} (h : ¬ decide (V.int i=V.int j)=true):i≠j:=λ z=>h (decide_eq_true (by rw [z]))
theorem LH : ∀ (ag:List Nat) (i p n:Nat),ag[i]?=some p->gY (ag.take (i+1)) n=strip p (gY (ag.take i) n):=by
 intro ag i p n h;unfold gY;rw [List.take_add_one,h,List.foldl_append];rfl
def ME:bX:=λ vs H Q _ => ∃ m:Int,vs=[.int m]/\1<=m/\Q (.int (iq m.toNat:Nat)) H
theorem MF (T:bE K mg):kn P w mg base 1 T.tG ME:=by
 refine T.tG.fn.kz zo (λ vs H Q E h=>?_) (λ ba A outer s H vs Q E aq h=>?_)
 ·obtain ⟨m,rfl,_⟩:=h;rfl
 ·obtain ⟨m,rfl,hm,q⟩:=h;refine ⟨_,(aM (bN 1 zo (aa 0))
   (aM (gD PassesOwn.never rfl (nj (jc (v:=.ref T.nA) (by rfl) T.s6 rfl)) (dM 2 zo)
    (aV (s_ PassesOwn.never (cn eJ (b8 oM (aa 1) (aa 2)) aL (bZ _))
    (aV (bN 1 zo (b8 sW (aa 1) (aa 2)))))))
   (aV (bH (aa 1))))),?_⟩
  refine ⟨_,rfl,T.nA,rfl,⟨f7,T.ro H⟩,yE (xs:=f7) (λ i σ ar=>(∃ u:Option V,σ=[some (.int m),some (.int (gY (dk.take i) m.toNat:Nat)),u])/\ar=H) ⟨⟨none,?_⟩,rfl⟩ (λ i σ ar _ _=>T.ro ar) ?_ ?_⟩
  ·show [some (V.int m),some (V.int m),none]=_;rw [show gY (dk.take 0) m.toNat=m.toNat from rfl,Int.toNat_of_nonneg (by omega)]
  ·rintro i x σ ar ak ⟨⟨u,rfl⟩,rfl⟩;obtain ⟨p,rfl,ax,q1⟩:=tw ak;have hk:2<=p:=kS p (List.mem_of_getElem? ax);have ig:1<=gY (dk.take i) m.toNat:=y9 _ (λ r aq=>kS r (List.mem_of_mem_take aq)) _ (by omega);refine tj (λ σ aK => ∃ r:Nat,σ=[some (.int m),some (.int (r:Int)),some (.int (p:Int))]/\1<=r/\strip p r=strip p (gY (dk.take i) m.toNat)/\aK=ar) (λ σ _=>natAt σ 1) ⟨_,rfl,ig,rfl,rfl⟩ ?_;rintro σ aK ⟨r,rfl,eT,l_,rfl⟩;refine ⟨_,rfl,_,rfl,_,_,rfl,rfl,(by show (0:Int)<p;omega),rfl,_,rfl,eu (λ h=>?_) (λ h=>?_)⟩
   ·have h0:(r:Int) % (p:Int)=0:=sV h;have i1:r % p=0:=by omega
    refine sq ⟨_,rfl,_,rfl,_,_,rfl,rfl,⟨by omega,by omega⟩,?_⟩;refine ⟨⟨r / p,?_,tm eT i1,by rw [<-ti hk eT i1];exact l_,rfl⟩,?_⟩
    ·rw [Int.natCast_ediv];rfl
    ·show ((r:Int) / (p:Int)).toNat<((r:Int)).toNat;rw [<-Int.natCast_ediv,Int.toNat_natCast,Int.toNat_natCast];exact Nat.div_lt_self eT hk
   ·have h0 : ¬ (r:Int) % (p:Int)=0:=CP h;have i1:r % p≠0:=by omega
    refine ⟨⟨some (.int (p:Int)),?_⟩,rfl⟩;rw [LH dk i p _ ax,<-l_,rt i1]
  ·rintro σ ar ⟨⟨u,rfl⟩,rfl⟩;exact ⟨_,rfl,q⟩
theorem abx (T:bE K mg):c6 P w mg base cD 1 T.tG ME:=(MF T).fn
def aap:bX:=λ vs H Q _ => ∃ (p:Nat) (m:Int),vs=[.int (p:Int),.int m]/\2<=p/\p<30/\1<=m/\Q (.int (cnt p m.toNat:Nat)) H
theorem aaH (T:bE K mg):kn P w mg base 1 T.wj aap:=by
 refine T.wj.fn.kz wk (λ vs H Q E h=>?_) (λ ba A outer s H vs Q E aq h=>?_)
 ·obtain ⟨p,m,rfl,_⟩:=h;rfl
 ·obtain ⟨p,m,rfl,hk,q1,hm,q⟩:=h;refine ⟨_,(aM (bN 2 wk aL)
   (aM (bN 3 wk (aa 1))
   (aM (s_ PassesOwn.never (cn eJ (b8 oM (aa 3) (aa 0)) aL (bZ _))
    (aM (bN 3 wk (b8 sW (aa 3) (aa 0)))
   (aV (bN 2 wk (b8 fG (aa 2) aL)))))
   (aV (bH (aa 2)))))),?_⟩
  refine ⟨_,rfl,?_⟩;refine tj (λ σ aK => ∃ o r:Nat,σ=[some (.int (p:Int)),some (.int m),some (.int (o:Int)),some (.int (r:Int))]/\1<=r/\o+cnt p r=cnt p m.toNat/\aK=H) (λ σ _=>natAt σ 3) ⟨0,m.toNat,by rw [Int.toNat_of_nonneg (by omega)];rfl,by omega,Nat.zero_add _,rfl⟩ ?_;rintro σ aK ⟨o,r,rfl,eT,sb,rfl⟩;refine ⟨_,rfl,_,rfl,_,_,rfl,rfl,(by show (0:Int)<p;omega),rfl,_,rfl,eu (λ h=>?_) (λ h=>?_)⟩
  ·have h0:(r:Int) % (p:Int)=0:=sV h;have i1:r % p=0:=by omega
   refine sq ⟨_,rfl,_,rfl,_,_,rfl,rfl,⟨by omega,by omega⟩,_,rfl,_,_,rfl,rfl,?_⟩;refine ⟨⟨o+1,r / p,?_,tm eT i1,by rw [yD hk eT i1] at sb;omega,rfl⟩,?_⟩
   ·rw [Int.natCast_ediv,Int.natCast_add];rfl
   ·show ((r:Int) / (p:Int)).toNat<((r:Int)).toNat;rw [<-Int.natCast_ediv,Int.toNat_natCast,Int.toNat_natCast];exact Nat.div_lt_self eT hk
  ·have h0 : ¬ (r:Int) % (p:Int)=0:=CP h;have i1:r % p≠0:=by omega
   rw [sT i1,Nat.add_zero] at sb;subst sb;exact ⟨_,rfl,q⟩
theorem y7 (T:bE K mg):c6 P w mg base cD 1 T.Ko Dl:=by
 refine T.Ko.fn.ec Zx (λ vs H Q E h=>?_) (λ ba A outer s H vs Q E aq h=>?_)
 ·obtain ⟨v,rfl,_⟩:=h;rfl
 ·obtain ⟨v,rfl,k,q⟩:=h;refine ⟨_,(aV (bH (iN (bG d8 T.dg df (ae (aa 0) (ae (d0 (by rfl) T.sJ sF) av))) (ik (IV (bG d8 T.dg df (ae (aa 0) (ae (d0 (by rfl) T.pW pV) av)))))))),?_⟩;obtain ⟨t,ty,e⟩:=vG (K:=K) k;obtain ⟨t',BJ,cU⟩:=sI (K:=K) k;rw [<-IL] at q;refine ⟨v,rfl,v, "int", t,_,rfl,ty,e,_,rfl,?_⟩;cases ay:xA v with
  | false =>
   rw [ay] at q;exact bx q
  | true =>
   rw [ay] at q;exact cm ⟨v,rfl,v, "bool", t',_,rfl,BJ,cU,_,rfl,q⟩
def vK (ao:List Nat):List V:=ao.map λ e=>V.int ((e:Nat):Int)
def Yk:bX:=λ vs H Q _ => ∃ m:Int,vs=[.int m]/\1<=m/\(iq m.toNat≠1 -> ∀ H',aC H H'->Q .bg H') /\
 (iq m.toNat=1 -> ∀ p H',aC H H'->H p=none->H' p=some (.tup (vK (kO dk m.toNat)))->Q (.ref p) H')
theorem KS (T:bE K mg):c6 P w mg base cD 2 T.JJ Yk:=by
 refine T.JJ.fn.ec tg (λ vs H Q E h=>?_) (λ ba A outer s H vs Q E aq h=>?_)
 ·obtain ⟨m,rfl,_⟩:=h;rfl
 ·obtain ⟨m,rfl,hm,a7,bV⟩:=h;refine ⟨_,(aM (bN 1 tg (vT av))
   (aM (gD PassesOwn.never rfl (nj (CC (D4 T) aq bM)) (dM 2 tg)
    (aM (bN 3 tg aL)
   (aM (s_ PassesOwn.never (cn eJ (b8 oM (aa 0) (aa 2)) aL (bZ _))
    (aM (bN 0 tg (b8 sW (aa 0) (aa 2)))
   (aV (bN 3 tg (b8 fG (aa 3) aL)))))
   (aV (hV (jG PySem.F.plainAttrs_list PySem.F.slot_list_append PySem.F.type_list_append y2 (aa 1) (ae (aa 3) av)))))))
   (aM (cM (cn mn (aa 0) aL (bZ _))
    (aV (bH fj))
    ct)
   (aV (bH (iM tD T.gv gu (ae (aa 1) av))))))),?_⟩
  refine ⟨cg,λ l au=>⟨rfl,λ t aW=>⟨t,rfl,⟨_,aR.of bA⟩,?_⟩⟩⟩;have s0:aC H (upd (upd H l (.lst [])) t (.tup f7)):=aC.more (aC.new au) aW;have Hd:t≠l:=λ z=>by rw [z,bA] at aW;cases aW
  refine yE (xs:=f7) (λ i σ ar=>(∃ u v:Option V,σ=[some (.int (gY (dk.take i) m.toNat:Nat)),some (.ref l),u,v])/\aC H ar/\ar t=some (.tup f7)/\ar l=some (.lst (vK (kO (dk.take i) m.toNat)))) ⟨⟨none,none,?_⟩,s0,bA,by rw [a8 Hd.symm,bA];rfl⟩ (λ i σ ar _ ⟨_,_,a,_⟩=>aR.of a) ?_ ?_
  ·show [some (V.int m),some (V.ref l),none,none]=_;rw [show gY (dk.take 0) m.toNat=m.toNat from rfl,Int.toNat_of_nonneg (by omega)]
  ·rintro i x σ ar ak ⟨⟨u,v,rfl⟩,s2,lD,fg⟩;obtain ⟨p,rfl,ax,q1⟩:=tw ak;have hk:2<=p:=kS p (List.mem_of_getElem? ax);have ig:1<=gY (dk.take i) m.toNat:=y9 _ (λ r aq=>kS r (List.mem_of_mem_take aq)) _ (by omega);refine tj (λ σ aK => ∃ r o:Nat,σ=[some (.int (r:Int)),some (.ref l),some (.int (p:Int)),some (.int (o:Int))]/\1<=r/\strip p r=strip p (gY (dk.take i) m.toNat)/\o+cnt p r=cnt p (gY (dk.take i) m.toNat)/\aK=ar) (λ σ _=>natAt σ 0) ⟨_,0,rfl,ig,rfl,Nat.zero_add _,rfl⟩ ?_;rintro σ aK ⟨r,o,rfl,eT,l_,sb,rfl⟩;refine ⟨_,rfl,_,rfl,_,_,rfl,rfl,(by show (0:Int)<p;omega),rfl,_,rfl,eu (λ h=>?_) (λ h=>?_)⟩
   ·have h0:(r:Int) % (p:Int)=0:=sV h;have i1:r % p=0:=by omega
    refine sq ⟨_,rfl,_,rfl,_,_,rfl,rfl,⟨by omega,by omega⟩,_,rfl,_,_,rfl,rfl,?_⟩;refine ⟨⟨r / p,o+1,?_,tm eT i1,by rw [<-ti hk eT i1];exact l_,by rw [yD hk eT i1] at sb;omega,rfl⟩,?_⟩
    ·rw [Int.natCast_ediv,Int.natCast_add];rfl
    ·show ((r:Int) / (p:Int)).toNat<((r:Int)).toNat;rw [<-Int.natCast_ediv,Int.toNat_natCast,Int.toNat_natCast];exact Nat.div_lt_self eT hk
   ·have h0 : ¬ (r:Int) % (p:Int)=0:=CP h;have i1:r % p≠0:=by omega
    have hlen:(vK (kO (dk.take i) m.toNat)).length<sizeLine:=by
     show (List.map _ _).length<_;rw [List.length_map,LP,List.length_take,sizeLine_eq];show min i 10<_;omega
    refine ⟨_,rfl,.inl ⟨rfl,_,a3.of fg⟩,_,rfl,l,_,_,rfl,rfl,fg,hlen,⟨⟨some (.int (p:Int)),some (.int (o:Int)),?_⟩,?_,?_,?_⟩⟩
    ·rw [LH dk i p _ ax,<-l_,rt i1]
    ·intro b b2 ed;rw [a8 (cj ed au)];exact s2 _ _ ed
    ·rw [a8 Hd];exact lD
    ·rw [bA,K8 dk i p _ ax,<-sb,sT i1,Nat.add_zero];show _=some (dG.lst (List.map _ (_++[o])));rw [List.map_append];rfl
  ·rintro σ ar ⟨⟨u,v,rfl⟩,s2,lD,fg⟩;have e:gY (dk.take f7.length) m.toNat=iq m.toNat:=rfl;have ig:1<=iq m.toNat:=aav (by omega);rw [e];refine ⟨_,rfl,_,_,rfl,rfl,_,rfl,eu (λ h=>?_) (λ h=>?_)⟩
   ·have af:(1:Int)<(iq m.toNat:Nat):=of_decide_eq_true h;exact a7 (by omega) ar s2
   ·have af : ¬ (1:Int)<(iq m.toNat:Nat):=λ z=>h (decide_eq_true z)
    refine ⟨_,rfl,l,_,rfl,.inl ⟨a3.of fg,λ p ax=>bV (by omega) p _ (aC.more s2 ax) (s2.free ax) bA⟩⟩
def aau:bX:=λ vs H Q _ => ∃ i:Int,vs=[.int i]/\1<=i/\iq i.toNat=1 /\ ∀ p H',aC H H'->H' p=some (tupI (ey (fU i.toNat)))->Q (.ref p) H'
theorem L6 (T:bE K mg):kn P w mg base 2 T.p1 aau:=by
 refine T.p1.fn.kz LX (λ vs H Q E h=>?_) (λ ba A outer s H vs Q E aq h=>?_)
 ·obtain ⟨i,rfl,_⟩:=h;rfl
 ·obtain ⟨i,rfl,af,a9,q⟩:=h;refine ⟨_,(aM (cM (ez.pt (gr (gs (ej (jI (LR T) (aq.mono (by decide)) rfl rfl T.tl.at_ T.tl.fn.a_ T.tl.bd (ae (aa 0) av)))) (gr (cn lJ (aa 0) aL (bZ _)) (hT (cn jF (jI (MF T) (aq.mono (by decide)) rfl rfl T.tG.at_ T.tG.fn.a_ T.tG.bd (ae (aa 0) av)) aL (bZ _))))))
    (aV s9)
    ct)
   (aV (bH (iM rz T.gv gu (ae (f9 (fA LX (N:=["prime", "number"]) (js:=[none,some 0]) (List.forall_mem_cons.mpr ⟨rfl,(List.forall_mem_nil _)⟩)) rfl (nj (jc (v:=.ref T.nA) (by rfl) T.s6 rfl)) (λ _ _ _ _=>fC) (λ _ _ _ _=>fW)
     (λ _ _ _ _=>(jI (aaH T) (aq.mono (by decide)) rfl rfl T.wj.at_ T.wj.fn.a_ T.wj.bd (ae (aa 0) (ae (aa 1) av))))) av))))),?_⟩
  refine ⟨_,rfl,_,rfl,trivial,_,rfl,bx ?_⟩;refine ⟨_,rfl,_,_,rfl,rfl,_,rfl,?_⟩;rw [decide_eq_false (show ¬ i<1 by omega)];refine bx ⟨_,rfl,i,rfl,af,rfl,_,rfl,?_⟩;rw [a9];refine bx ?_;refine ⟨T.nA,rfl,⟨f7,T.ro H⟩,λ D a4=>LM (xs:=f7) (f:=λ v=>match v with | .int p=>V.int (cnt p.toNat i.toNat:Nat) | v=>v) rfl (by decide) a4 (T.ro H) ?_ ?_⟩
  ·intro x H' R ak r;obtain ⟨z,a9⟩:=List.getElem?_of_mem ak;obtain ⟨p,rfl,ax,q1⟩:=tw a9;have hk:2<=p:=kS p (List.mem_of_getElem? ax);refine ⟨_,rfl,_,rfl,p,i,rfl,hk,q1,by omega,?_⟩;have b5:R (V.int (cnt ((p:Int).toNat) i.toNat:Nat)) H':=r;rw [Int.toNat_natCast] at b5;exact b5
  ·refine ⟨D,_,rfl,a3.of bA,λ p H' bo sp ax=>q p H' ((aC.new a4).trans sp) ?_⟩;rw [ax];rfl
theorem JI (n d:Nat):List.zipWith (λ x y:Int=>x - y) (ey (fU n)) (ey (fU d))=chg n d:=by
 unfold ey chg;rw [List.zipWith_map]
def abB:bX:=λ vs H Q _ => ∃ (b:Addr) (i j:Int),vs=[.ref b]/\H b=some (.tup [.int i,.int j])/\i_ i j=true /\ ∀ p H',aC H H'->H' p=some (tupI (chg i.toNat j.toNat))->Q (.ref p) H'
theorem abC (T:bE K mg):kn P w mg base 3 T.wA abB:=by
 refine T.wA.fn.kz zp (λ vs H Q E h=>?_) (λ ba A outer s H vs Q E aq h=>?_)
 ·obtain ⟨b,i,j,rfl,_⟩:=h;rfl
 ·obtain ⟨b,i,j,rfl,J,hf,q⟩:=h;refine ⟨_,(aM (bN 1 zp (jI (L6 T) (aq.mono (by decide)) rfl rfl T.p1.at_ T.p1.fn.a_ T.p1.bd (ae (cS hv (aa 0) aL (λ _ _=>rfl)) av)))
   (aM (bN 2 zp (jI (L6 T) (aq.mono (by decide)) rfl rfl T.p1.at_ T.p1.fn.a_ T.p1.bd (ae (cS hv (aa 0) aL (λ _ _=>rfl)) av)))
   (aV (bH (iM rz T.gv gu (ae (f9 (fA zp (N:=["top", "bottom"]) (js:=[none,none]) (List.forall_mem_nil _)) rfl (nk rfl rfl T.ja (ae (aa 1) (ae (aa 2) av))) (λ _ _ _ _=>(lO (K:=K) (n:=2) rfl rfl (da fC (da (kb (i:=1) (show List.Nodup (["top", "bottom"]:List Str) from by decide +kernel) rfl (Or.inl rfl) (Or.inr rfl)) fV)))) (λ _ _ _ _=>fW)
     (λ _ _ _ _=>(b8 jH (aa 0) (aa 1)))) av)))))),?_⟩
  obtain ⟨⟨eA,fM⟩,⟨b0,b4⟩⟩:=D2 hf;refine ⟨_,rfl,b,_,_,_,rfl,rfl,aR.of J,rfl,i,rfl,eA,fM,λ e2 H1 s1 n_=>?_⟩;refine ⟨_,rfl,b,_,_,_,rfl,rfl,aR.of (s1 _ _ J),rfl,j,rfl,b0,b4,λ gh ar s2 hk=>?_⟩;refine ⟨_,rfl,_,rfl,e2,gh,rfl,⟨_,aR.of (s2 _ _ n_)⟩,⟨_,aR.of hk⟩,λ D a4=>?_⟩;refine wm (f:=λ x y=>x - y) (σ0:=[]) (xs:=ey (fU i.toNat)) (ys:=ey (fU j.toNat)) (by simp [ey,fU,dk];decide) ⟨_,_,rfl⟩ a4 (s2 _ _ n_) hk (λ x y H' R _ _ r=>⟨_,rfl,_,rfl,_,_,rfl,rfl,r⟩) λ aK s3 aF=>?_
  refine ⟨D,_,rfl,a3.of aF,λ p bc bo s4 ax=>q p bc (((s1.trans s2).trans s3).trans s4) ?_⟩;rw [ax,JI]
def Mc:bX:=λ vs H Q _ => ∃ (b:Addr) (xs:List V) (aA:List (Int×Int)),vs=[.ref b]/\H b=some (.tup xs)/\gp H xs aA/\xs.length<=1000 /\
 ∀ l H' ys,H l=none->aC H H'->H' l=some (.lst ys)->eX H' ys (rowsOf aA)->Q (.ref l) H'
theorem Mg (T:bE K mg):kn P w mg base 4 T.tA Mc:=by
 refine T.tA.fn.kz Ma (λ vs H Q E h=>?_) (λ ba A outer s H vs Q E aq h=>?_)
 ·obtain ⟨b,xs,aA,rfl,_⟩:=h;rfl
 ·obtain ⟨b,xs,aA,rfl,J,hf,au,q⟩:=h;refine ⟨_,(aV (bH (f9 (fA Ma (N:=["fraction"]) (js:=[none]) (List.forall_mem_nil _)) rfl (nj (aa 0)) (λ _ _ _ _=>fC) (λ _ _ _ _=>fW)
     (λ _ _ _ _=>(jI (abC T) (aq.mono (by decide)) rfl rfl T.wA.at_ T.wA.fn.a_ T.wA.bd (ae (aa 0) av)))))),?_⟩
  refine ⟨_,rfl,b,rfl,⟨_,aR.of J⟩,λ D a4=>?_⟩;refine yO (xs:=xs) (by rw [sizeLine_eq];omega) (λ i σ' H' ys=>(∃ u:Option V,σ'=[u])/\aC H H'/\eX H' ys ((rowsOf aA).take i)) ⟨⟨_,rfl⟩,aC.new a4,eX.nil⟩ (λ i σ' H' ys _ _ ⟨_,s',_⟩=>aR.of (s' _ _ J)) ?_ ?_
  ·rintro i x σ' H' ys R ak c2 h9 ⟨⟨u,rfl⟩,s',i5⟩ fb;obtain ⟨a,d,c,f1,rfl,aj,f4⟩:=hf.2 i x ak;refine ⟨_,rfl,c,a,d,rfl,s' _ _ aj,f4,λ p ar s2 ax=>?_⟩;refine fb _ _ _ (s2 _ _ c2) ⟨⟨_,rfl⟩,?_,?_⟩
   ·intro e o en;rw [a8 (cj en a4)];exact s2 _ _ (s' _ _ en)
   ·have aO:(rowsOf aA)[i]?=some (chg a.toNat d.toNat):=by unfold rowsOf;rw [List.getElem?_map,f1];rfl
    rw [List.take_add_one,aO];exact eX.but ((i5.same s2).app (eX.one ⟨p,rfl,ax⟩)) (s2 _ _ c2) bW.upd
  ·rintro σ' H' ys c2 h9 ⟨_,s',i5⟩;rw [List.take_of_length_le (by rw [wh,<-hf.1];exact Nat.le_refl _)] at i5;exact q D H' ys a4 s' c2 i5
theorem aaN (T:bE K mg):c6 P w mg base cD 4 T.tA Mc:=(Mg T).fn
def Vn:bX:=λ vs H Q _ => ∃ (a b:Addr) (cs ag:List Int),vs=[.ref a,.ref b]/\H a=some (tupI cs)/\H b=some (tupI ag) /\ ∀ H',aC H H'->Q (.aJ (eF cs ag)) H'
theorem Uk {cs ag:List Int} {i:Nat} {a b:Int} (af:cs[i]?=some a) (ai:ag[i]?=some b) (h:b+a<0):eF cs ag=false:=by
 rw [Bool.eq_false_iff];intro z;have:=wa.mp z i a b af ai;omega
theorem J2 (T:bE K mg):kn P w mg base 1 T.pU Vn:=by
 refine T.pU.fn.kz CY (λ vs H Q E h=>?_) (λ ba A outer s H vs Q E aq h=>?_)
 ·obtain ⟨a,b,cs,ag,rfl,_⟩:=h;rfl
 ·obtain ⟨a,b,cs,ag,rfl,aw,J,q⟩:=h;refine ⟨_,(aM (gD PassesOwn.never rfl (nk rfl rfl T.ja (ae (aa 0) (ae (aa 1) av))) (lN rfl (da (dM 2 CY) (da (dM 3 CY) fV)))
    (aV (cM (cn lJ (b8 fG (aa 3) (aa 2)) aL (bZ _))
    (aV (bH gX))
    ct)))
   (aV (bH gX))),?_⟩
  refine ⟨_,rfl,_,rfl,a,b,rfl,⟨_,aR.of aw⟩,⟨_,aR.of J⟩,?_⟩;refine Jl (xs:=cs.map V.int) (ys:=ag.map V.int) (λ i σ ar=>(∃ u v:Option V,σ=[some (.ref a),some (.ref b),u,v])/\aC H ar /\ ∀ j,j<i -> ∀ x y,cs[j]?=some x->ag[j]?=some y->0<=y+x) ⟨⟨none,none,rfl⟩,aC.refl H,λ j b3=>by omega⟩ (λ i σ ar _ ⟨_,s2,_⟩=>⟨aR.of (s2 _ _ aw),aR.of (s2 _ _ J)⟩) ?_ ?_
  ·rintro i x y p σ ar ak aN ax ⟨⟨u,v,rfl⟩,s2,fT⟩;obtain ⟨x,rfl,dj⟩:=kd ak;obtain ⟨y,rfl,eh⟩:=kd aN;refine ⟨p,_,rfl,aR.of bA,rfl,_,_,rfl,_,_,rfl,rfl,?_⟩;refine ⟨_,rfl,_,rfl,_,_,rfl,rfl,_,_,rfl,rfl,_,rfl,eu (λ h=>?_) (λ h=>?_)⟩
   ·have h0:y+x<0:=of_decide_eq_true h;have aU:=q _ (aC.more (o:=.tup [.int x,.int y]) s2 ax);rw [Uk dj eh h0] at aU;exact aU
   ·have h0 : ¬ y+x<0:=λ z=>h (decide_eq_true z)
    refine ⟨⟨_,_,rfl⟩,aC.more s2 ax,λ j b3 e3 hg aO aQ=>?_⟩;by_cases uJ:j=i
    ·subst uJ;rw [dj] at aO;rw [eh] at aQ;cases aO;cases aQ;omega
    ·exact fT j (by omega) e3 hg aO aQ
  ·rintro σ ar ⟨⟨u,v,rfl⟩,s2,fT⟩;have aU:=q ar s2;rw [wa.mpr λ j x y aO aQ=>fT j ?_ x y aO aQ] at aU
   ·exact aU
   ·have af:=(List.getElem?_eq_some_iff.mp aO).1;have ai:=(List.getElem?_eq_some_iff.mp aQ).1;rw [List.length_map,List.length_map];omega
def LD:bX:=λ vs H Q _ => ∃ (l b:Addr) (ys:List V) (rows:List (List Int)) (ag:List Int),vs=[.ref l,.ref b]/\H l=some (.lst ys)/\eX H ys rows/\H b=some (tupI ag) /\ ∀ H',aC H H'->Q (kL (c7 rows ag)) H'
theorem LQ (T:bE K mg):kn P w mg base 2 T.tk LD:=by
 refine T.tk.fn.kz Ed (λ vs H Q E h=>?_) (λ ba A outer s H vs Q E aq h=>?_)
 ·obtain ⟨l,b,ys,rows,ag,rfl,_⟩:=h;rfl
 ·obtain ⟨l,b,ys,rows,ag,rfl,au,l_,J,q⟩:=h;refine ⟨_,(aM (gD PassesOwn.never rfl (Jx rfl rfl T.Lv (ae (aa 0) av)) (lN rfl (da (dM 2 Ed) (da (dM 3 Ed) fV)))
    (aV (cM (ej (jI (J2 T) (aq.mono (by decide)) rfl rfl T.pU.at_ T.pU.fn.a_ T.pU.bd (ae (aa 3) (ae (aa 1) av))))
    (aV (bH (aa 2)))
    ct)))
   (aV (bH fj))),?_⟩
  refine ⟨_,rfl,l,ys,rfl,au,?_⟩;refine JU (xs:=ys) (λ i σ ar=>(∃ u v:Option V,σ=[some (.ref l),some (.ref b),u,v])/\aC H ar /\ ∀ j,j<i -> ∀ c,rows[j]?=some c->eF c ag=false) ⟨⟨none,none,rfl⟩,aC.refl H,λ j b3=>by omega⟩ (λ i σ ar _ ⟨_,s2,_⟩=>s2 _ _ au) ?_ ?_
  ·rintro i x p σ ar ak ax ⟨⟨u,v,rfl⟩,s2,fT⟩;obtain ⟨c,a,aj,rfl,aw⟩:=l_.at ak;have s3:=aC.more (o:=.tup [.int (i:Int),.ref a]) s2 ax;refine ⟨p,_,rfl,aR.of bA,rfl,_,_,rfl,_,_,rfl,rfl,?_⟩;refine ⟨_,rfl,_,rfl,a,b,c,ag,rfl,s3 _ _ aw,s3 _ _ J,λ bc s4=>⟨_,rfl,eu (λ h=>?_) (λ h=>?_)⟩⟩
   ·have aU:=q bc (s3.trans s4);rw [yF rows ag i fT (λ cN e=>by rw [aj] at e;cases e;exact h) (List.getElem?_eq_some_iff.mp aj).1] at aU;exact ⟨_,rfl,aU⟩
   ·refine ⟨⟨_,_,rfl⟩,s3.trans s4,λ j b3 cN e=>?_⟩;by_cases uJ:j=i
    ·subst uJ;rw [aj] at e;cases e;cases z:eF c ag with
     | true=>exact absurd z h
     | false=>rfl
    ·exact fT j (by omega) cN e
  ·rintro σ ar ⟨⟨u,v,rfl⟩,s2,fT⟩;have aU:=q ar s2;rw [Dt rows ag λ j c e=>fT j (by rw [l_.1];exact (List.getElem?_eq_some_iff.mp e).1) c e] at aU;exact aU
theorem ZW (T:bE K mg):c6 P w mg base cD 2 T.tk LD:=(LQ T).fn
def Kb:bX:=λ vs H Q _ => ∃ (a b:Addr) (ag cs:List Int) (m:Int),vs=[.ref a,.ref b,.int m]/\H a=some (tupI ag)/\H b=some (tupI cs)/\(-(2 ^ 64)<m/\m<2 ^ 64)/\ag.length<=1000 /\ ∀ p H',aC H H'->H' p=some (tupI (cv ag cs m))->Q (.ref p) H'
theorem Dz (T:bE K mg):kn P w mg base 1 T.oP Kb:=by
 refine T.oP.fn.kz J_ (λ vs H Q E h=>?_) (λ ba A outer s H vs Q E aq h=>?_)
 ·obtain ⟨a,b,ag,cs,m,rfl,_⟩:=h;rfl
 ·obtain ⟨a,b,ag,cs,m,rfl,aw,J,hm,au,q⟩:=h;refine ⟨_,(aV (bH (iM rz T.gv gu (ae (f9 (fA J_ (N:=["power", "change", "many"]) (js:=[none,none,some 2]) (List.forall_mem_cons.mpr ⟨rfl,(List.forall_mem_nil _)⟩)) rfl (nk rfl rfl T.ja (ae (aa 0) (ae (aa 1) av))) (λ _ _ _ _=>(lO (K:=K) (n:=2) rfl rfl (da fC (da (kb (i:=1) (show List.Nodup (["power", "change", "many"]:List Str) from by decide +kernel) rfl (Or.inl rfl) (Or.inr rfl)) fV)))) (λ _ _ _ _=>fW)
     (λ _ _ _ _=>(b8 fG (aa 0) (b8 oN (aa 2) (aa 1))))) av)))),?_⟩
  refine ⟨_,rfl,_,rfl,a,b,rfl,⟨_,aR.of aw⟩,⟨_,aR.of J⟩,λ D a4=>?_⟩;refine wm (f:=λ x y=>x+m * y) (σ0:=[some (.int m)]) (xs:=ag) (ys:=cs) (by rw [sizeLine_eq];omega) ⟨_,_,rfl⟩ a4 aw J (λ x y H' R _ _ r=>⟨_,rfl,_,rfl,_,rfl,_,_,rfl,rfl,.inl hm,_,_,rfl,rfl,r⟩) λ aK s3 aF=>?_
  exact ⟨D,_,rfl,a3.of aF,λ p bc bo s4 ax=>q p bc (s3.trans s4) ax⟩
theorem Wm (T:bE K mg):c6 P w mg base cD 1 T.oP Kb:=(Dz T).fn
def abt:bX:=λ vs H Q _ => ∃ (a b:Addr) (ag cs:List Int),vs=[.ref a,.ref b]/\H a=some (tupI ag)/\H b=some (tupI cs)/\ag.length=10/\cs.length=10/\nn ag=true/\(∀ x∈cs,-40<x/\x<40) /\ ∀ H' o,aC H H'->vB ag cs o->Q (kL o) H'
theorem abv (T:bE K mg):kn P w mg base 1 T.wu abt:=by
 refine T.wu.fn.kz Mw (λ vs H Q E h=>?_) (λ ba A outer s H vs Q E aq h=>?_)
 ·obtain ⟨a,b,ag,cs,rfl,_⟩:=h;rfl
 ·obtain ⟨a,b,ag,cs,rfl,aw,J,eV,jD,gB,AL,q⟩:=h;refine ⟨_,(aV (bH (Jw rfl (by rfl) T.vJ vC (ae (f9 (fA Mw (N:=["power", "change"]) (js:=[none,none]) (List.forall_mem_nil _)) rfl (nk rfl rfl T.ja (ae (aa 0) (ae (aa 1) av))) (λ _ _ _ _=>(lO (K:=K) (n:=2) rfl rfl (da fC (da (kb (i:=1) (show List.Nodup (["power", "change"]:List Str) from by decide +kernel) rfl (Or.inl rfl) (Or.inr rfl)) fV)))) (λ _ _ _ _=>(Jy (cn lJ (aa 1) aL (bZ _))))
     (λ _ _ _ _=>(b8 sW (aa 0) (nf nu (aa 1))))) av)))),?_⟩
  refine ⟨_,rfl,_,rfl,a,b,rfl,⟨_,aR.of aw⟩,⟨_,aR.of J⟩,λ D a4=>?_⟩;refine ZN (K:=K) (t:=λ _ y=>decide (y<0)) (f:=λ x y=>x / (-y)) (σ0:=[]) (xs:=ag) (ys:=cs) (by rw [eV,jD,sizeLine_eq];decide) ⟨_,_,rfl⟩ a4 aw J (λ x y H' R _ _ r=>⟨_,rfl,_,_,rfl,rfl,_,rfl,r⟩) (λ x y H' R _ aN aW r=>?_) λ H1 s1 af=>?_
  ·have af:y<0:=of_decide_eq_true aW;have ai:=AL y aN;exact ⟨_,rfl,_,rfl,_,rfl,_,_,rfl,rfl,⟨by omega,by omega⟩,r⟩
  ·refine ⟨D,vI ag cs,rfl,a3.of af,λ e=>q H1 none s1 (XH gB e),λ M g7 kk=>?_⟩;obtain ⟨tL,L⟩:=XI gB g7 kk;have:=q H1 _ s1 L;rw [show kL (some M.toNat)=V.int M by show V.int (M.toNat:Int)=_;rw [Int.toNat_of_nonneg tL]] at this;exact this
def abl:bX:=λ vs H Q _ => ∃ (a b c:Addr) (ag cs ds:List Int),vs=[.ref a,.ref b,.ref c]/\H a=some (tupI ag)/\H b=some (tupI cs)/\H c=some (tupI ds)/\ag.length=10/\cs.length=10/\ds.length=10/\nn ag=true/\(∀ x∈cs,-40<x/\x<40)/\(∀ x∈ds,-40<x/\x<40) /\ ∀ H' o,aC H H'->qY ag cs ds o->Q (kL o) H'
theorem abp (T:bE K mg):kn P w mg base 2 T.wt abl:=by
 refine T.wt.fn.kz rA (λ vs H Q E h=>?_) (λ ba A outer s H vs Q E aq h=>?_)
 ·obtain ⟨a,b,c,ag,cs,ds,rfl,_⟩:=h;rfl
 ·obtain ⟨a,b,c,ag,cs,ds,rfl,aw,J,aj,eV,jD,Rk,gB,AL,eg,q⟩:=h;refine ⟨_,(aM (bN 3 rA aL)
   (aM (gD PassesOwn.never rfl (U8 rfl rfl T.ja (ae (aa 0) (ae (aa 1) (ae (aa 2) av)))) (lN rfl (da (dM 4 rA) (da (dM 5 rA) (da (dM 6 rA) fV))))
    (aM (bN 7 rA (b8 jH (nf nu (aa 6)) (aa 4)))
   (aV (cM (cn mn (aa 7) aL (bZ _))
    (aM (cM (cn vL (aa 5) aL (bZ _))
    (aV (bH fj))
    ct)
   (aV (bN 3 rA (bG (v_ rfl) T.sL sG (ae (aa 3) (ae (b8 sW (b8 jH (b8 fG (aa 7) (aa 5)) aL) (aa 5)) av))))))
    ct))))
   (aM (cM (ej (jI (J2 T) (aq.mono (by decide)) rfl rfl T.pU.at_ T.pU.fn.a_ T.pU.bd (ae (aa 2) (ae (jI (Dz T) (aq.mono (by decide)) rfl rfl T.oP.at_ T.oP.fn.a_ T.oP.bd (ae (aa 0) (ae (aa 1) (ae (aa 3) av)))) av))))
    (aV (bH (aa 3)))
    ct)
   (aV (bH fj))))),?_⟩
  refine ⟨_,rfl,_,rfl,_,rfl,a,b,c,rfl,⟨_,aR.of aw⟩,⟨_,aR.of J⟩,⟨_,aR.of aj⟩,?_⟩;refine VV (K:=K) (xs:=ag.map V.int) (ys:=cs.map V.int) (zs:=ds.map V.int) (by rw [List.length_map,List.length_map,eV,jD]) (by rw [List.length_map,List.length_map,eV,Rk]) (λ i σ ar => ∃ (m:Int) (gi kl iy z3:Option V),σ=[some (.ref a),some (.ref b),some (.ref c),some (.int m),gi,kl,iy,z3]/\aC H ar/\ic ag cs ds i m) ⟨0,none,none,none,none,rfl,aC.refl H,ic.start⟩ (λ i σ ar _ ⟨_,_,_,_,_,_,s2,_⟩=>⟨aR.of (s2 _ _ aw),aR.of (s2 _ _ J),aR.of (s2 _ _ aj)⟩) ?_ ?_
  ·rintro i x y z p σ ar ak aN a9 ax ⟨m,gi,kl,iy,z3,rfl,s2,o8⟩;obtain ⟨x,rfl,dj⟩:=kd ak;obtain ⟨y,rfl,eh⟩:=kd aN;obtain ⟨z,rfl,hO⟩:=kd a9;have s3:aC H (upd ar p (.tup [.int x,.int y,.int z])):=aC.more s2 ax;have acd:=eg z (List.mem_of_getElem? hO);have acb:=AL y (List.mem_of_getElem? eh);have x0:=ni.mp gB x (List.mem_of_getElem? dj);refine ⟨p,_,rfl,aR.of bA,rfl,_,_,rfl,_,_,rfl,_,_,rfl,rfl,?_⟩;refine ⟨_,rfl,_,rfl,_,rfl,_,_,rfl,rfl,?_⟩;refine ⟨_,rfl,_,_,rfl,rfl,_,rfl,eu (λ h=>?_) (λ h=>?_)⟩
   ·have au:0 < -z - x:=of_decide_eq_true h;refine ⟨_,rfl,_,_,rfl,rfl,_,rfl,eu (λ h'=>?_) (λ h'=>?_)⟩
    ·exact q _ none s3 (ic.never dj eh hO au (of_decide_eq_true h'))
    ·have oc:0<y:=by
      have : ¬ y<=0:=λ w=>h' (decide_eq_true w)
      omega
     exact ⟨_,rfl,_,rfl,_,rfl,_,_,rfl,rfl,_,_,rfl,rfl,_,rfl,_,_,rfl,rfl,⟨oc,by omega⟩,_,_,rfl,_,_,_,_,_,rfl,s3,o8.more dj eh hO au (by omega) oc⟩
   ·exact ⟨m,_,_,_,_,rfl,s3,o8.skip (y:=y) dj hO λ w=>h (decide_eq_true w)⟩
  ·rintro σ ar ⟨m,gi,kl,iy,z3,rfl,s2,o8⟩;rw [List.length_map,eV] at o8;have h0:=o8.1;have af:=o8.2.1;refine ⟨_,rfl,_,rfl,_,rfl,_,rfl,a,b,ag,cs,m,rfl,s2 _ _ aw,s2 _ _ J,⟨by omega,by omega⟩,by omega,λ r aK s3 aF=>?_⟩;refine ⟨c,r,ds,cv ag cs m,rfl,s3 _ _ (s2 _ _ aj),aF,λ bc s4=>?_⟩;have u7:=(s2.trans s3).trans s4;refine ⟨_,rfl,eu (λ h=>?_) (λ h=>?_)⟩
   ·have:=q bc _ u7 (o8.yes h);rw [show kL (some m.toNat)=V.int m by show V.int (m.toNat:Int)=_;rw [Int.toNat_of_nonneg h0]] at this;exact ⟨_,rfl,this⟩
   ·exact q bc none u7 (o8.no eV (Bool.eq_false_iff.mpr h))
theorem DS : ∀ (os:List (Option Nat)),(os.map kL).filter (λ v => !decide (v=V.bg))=((os.filterMap id).map λ n:Nat=>(n:Int)).map V.int
 | []=>rfl
 | none::os=>by
  show (os.map kL).filter _=_;rw [DS os];rfl
 | some n::os=>by
  show V.int (n:Int)::(os.map kL).filter _=_;rw [DS os];rfl
def My:bX:=λ vs H Q _ => ∃ (l a:Addr) (ys:List V) (rows:List (List Int)) (ag c:List Int) (k:Nat),vs=[.ref l,.ref a,.int (k:Int)]/\H l=some (.lst ys)/\eX H ys rows/\ys.length<=1000/\H a=some (tupI ag)/\ag.length=10/\nn ag=true/\w6 rows/\FA rows/\rows[k]?=some c /\
 ∀ H' o,aC H H'->Am rows ag c k o->(∀ T,o=some T->(∃ x∈ag,(T:Int)<=x)\/T<=1000)->Q (kL o) H'
theorem Mz (T:bE K mg):kn P w mg base 3 T.tF My:=by
 refine T.tF.fn.kz wy (λ vs H Q E h=>?_) (λ ba A outer s H vs Q E aq h=>?_)
 ·obtain ⟨l,a,ys,rows,ag,c,k,rfl,_⟩:=h;rfl
 ·obtain ⟨l,a,ys,rows,ag,c,k,rfl,au,fo,h9,aw,eV,gB,R,B,aB,q⟩:=h;refine ⟨_,(aM (yx (i:=3) wy.cX rfl (Or.inr rfl) (cS d7 (aa 0) (aa 2) (λ _ _=>rfl)))
   (aM (bN 4 wy (b8 vY (eL (ae (jI (abv T) (aq.mono (by decide)) rfl rfl T.wu.at_ T.wu.fn.a_ T.wu.bd (ae (aa 1) (ae (aa 3) av))) av)) (f9 (fA wy (N:=["ahead", "powers", "used"]) (js:=[none,some 1,some 3]) (List.forall_mem_cons.mpr ⟨rfl,(List.forall_mem_cons.mpr ⟨rfl,(List.forall_mem_nil _)⟩)⟩)) rfl (sY (rn Vl (aa 0) rf (rg (aa 2)))) (λ _ _ _ _=>fC) (λ _ _ _ _=>fW)
     (λ _ _ _ _=>(jI (abp T) (aq.mono (by decide)) rfl rfl T.wt.at_ T.wt.fn.a_ T.wt.bd (ae (aa 1) (ae (aa 2) (ae (aa 0) av))))))))
   (aV (bH (Jw rfl (by rfl) T.vJ vC (ae (f9 (fA wy (N:=["end"]) (js:=[none]) (List.forall_mem_nil _)) rfl (sY (aa 4)) (λ _ _ _ _=>fC) (λ _ _ _ _=>(Jy (cn Ju (aa 0) fj (bZ _))))
     (λ _ _ _ _=>(aa 0))) av)))))),?_⟩
  obtain ⟨x,e,ak,rfl,he⟩:=fo.of aB;have cY:=List.mem_of_getElem? aB;have n8:=(List.getElem?_eq_some_iff.mp aB).1;refine ⟨_,rfl,_,rfl,l,_,_,_,rfl,rfl,a3.of au,lL (Int.natCast_nonneg k) (by rw [Int.toNat_natCast];exact ak),?_⟩;refine ⟨_,rfl,_,rfl,a,e,ag,c,rfl,aw,he,eV,R c cY,gB,B c cY,λ H1 o s1 eN=>?_⟩;refine ⟨cg,λ cQ ar f2 s2 gR=>?_⟩;have ot:=s1.trans s2;refine ⟨_,rfl,_,rfl,_,rfl,l,ys,rfl,a3.of (ot _ _ au),λ d hd=>?_⟩;rw [C5 (Int.natCast_nonneg k),Int.toNat_natCast];have s3:aC ar (upd ar d (.lst (ys.take k))):=aC.new hd;have oa:(ys.take k).length=k:=by rw [List.length_take,fo.1];omega
  refine ⟨d,rfl,⟨_,a3.of bA⟩,λ D a4=>?_⟩;refine Kz (K:=K) (xs:=ys.take k) (by rw [oa,sizeLine_eq,<-fo.1] at *;omega) (λ i σ' H' zs=>(∃ u:Option V,σ'=[u,some (.ref a),some (.ref e)])/\aC (upd ar d (.lst (ys.take k))) H' /\ ∃ os:List (Option Nat),zs=os.map kL/\os.length=i /\ ∀ j,j<i -> ∀ r,rows[j]?=some r -> ∃ z,os[j]?=some z/\qY ag c r z) ⟨⟨_,rfl⟩,aC.new a4,[],rfl,rfl,λ j b3=>absurd b3 (by omega)⟩ (λ i σ' H' zs _ _ ⟨_,s',_⟩=>a3.of (s' _ _ bA)) ?_ ?_
  ·rintro j x σ' H' zs FC dj c2 hn ⟨⟨u,rfl⟩,s',os,rfl,l9,la⟩ fb;have xn:j<k:=by
    have:=(List.getElem?_eq_some_iff.mp dj).1;omega
   have i6:ys[j]?=some x:=by rw [List.getElem?_take_of_lt xn] at dj;exact dj
   obtain ⟨r,lZ,eT,rfl,Pq⟩:=fo.at i6;have uR:=List.mem_of_getElem? eT;have zX:aC H H':=(ot.trans s3).trans s';refine ⟨_,rfl,_,rfl,_,rfl,a,e,lZ,ag,c,r,rfl,zX _ _ aw,zX _ _ he,zX _ _ Pq,eV,R c cY,R r uR,gB,B c cY,B r uR,λ bc z s4 a9=>?_⟩;refine fb _ _ _ (s4 _ _ c2) ⟨⟨_,rfl⟩,?_,os++[z],?_,?_,?_⟩
   ·intro k7 iW aQ;rw [a8 (cj aQ a4)];exact s4 _ _ (s' k7 iW aQ)
   ·rw [List.map_append];rfl
   ·rw [List.length_append,l9];rfl
   ·intro i ay bB i5;by_cases O_:i<j
    ·obtain ⟨dR,af,ai⟩:=la i O_ bB i5;exact ⟨dR,by rw [List.getElem?_append_left (by omega)];exact af,ai⟩
    ·have:i=j:=by omega
     subst this;rw [eT] at i5;cases i5;exact ⟨z,by rw [<-l9,List.getElem?_concat_length],a9⟩
  ·rintro σ' bc zs uq hn ⟨_,s4,os,rfl,l9,la⟩;rw [oa] at l9 la;have u7:=s3.trans s4;refine ⟨cQ,D,_,_,rfl,rfl,u7 _ _ gR,uq,?_,λ et bt d_ s5 bT=>?_⟩
   ·rw [List.length_map,l9,sizeLine_eq];show 1+k<=_;have:=fo.1;omega
   have si:aC H bt:=(ot.trans u7).trans s5;refine ⟨_,rfl,et,rfl,⟨_,a3.of bT⟩,λ hX n3=>?_⟩;refine Z8 (K:=K) (t:=λ v => !decide (v=V.bg)) (σ0:=[]) (xs:=(o::os).map kL) ?_ ⟨_,rfl⟩ n3 bT (λ x H' FC _ _ r=>⟨_,rfl,rfl,_,rfl,r⟩) (λ x H' FC _ _ _ r=>⟨_,rfl,r⟩) λ cE bL dn=>?_
   ·rw [List.length_map,List.length_cons,l9,sizeLine_eq];have:=fo.1;omega
   rw [DS] at dn;refine ⟨hX,_,rfl,a3.of dn,λ nK=>?_,λ M g7 kk=>?_⟩
   ·exact q cE none (si.trans bL) (Vp aB eN la (List.map_eq_nil_iff.mp nK)) (λ T z=>by cases z)
   ·obtain ⟨n,aD,rfl⟩:=List.mem_map.mp g7;obtain ⟨af,ai⟩:=Vq aB l9 eN la aD λ b J=>by
     have:=kk (b:Int) (List.mem_map_of_mem J);omega
    exact q cE (some n) (si.trans bL) af (λ T z=>by cases z;exact ai)
theorem abq (T:bE K mg):c6 P w mg base cD 3 T.tF My:=(Mz T).fn
theorem JE {i:Int} (h:ij i=true):i<=1000000000000:=by
 unfold ij at h;simp only [Bool.and_eq_true,decide_eq_true_eq] at h;exact h.1.2
theorem VX {i j:Int} (h:i_ i j=true):i<=1000000000000/\j<=1000000000000:=by
 unfold i_ at h;simp only [Bool.and_eq_true] at h;exact ⟨JE h.1.1,JE h.1.2⟩
theorem Jz {H:ah} {xs:List V} {aA:List (Int×Int)} (hf:gp H xs aA):FA (rowsOf aA):=λ c aj x ak=>by
 obtain ⟨⟨i,j⟩,hm,rfl⟩:=List.mem_map.mp aj;obtain ⟨k,aB⟩:=List.getElem?_of_mem hm;have n8:k<xs.length:=by rw [hf.1];exact (List.getElem?_eq_some_iff.mp aB).1
 obtain ⟨lb,ki,a,af,_,_,f⟩:=hf.2 k _ (List.getElem?_eq_getElem n8);rw [aB] at af;cases af;obtain ⟨⟨eA,_⟩,⟨b0,_⟩⟩:=D2 f;obtain ⟨ab5,ab6⟩:=VX f;exact S3 (by omega) (by omega) (by omega) (by omega) ak
def intOf:Option (Option V)->Nat
 | some (some (V.int i))=>i.toNat
 | _=>0
def HB (σ:St):Nat:=intOf σ[5]?
def WT:bX:=λ vs H Q _ => ∃ (b a:Addr) (xs:List V) (aA:List (Int×Int)) (ag jT:List Int) (m:Int),vs=[.ref b,.ref a,.int m]/\H b=some (.tup xs)/\gp H xs aA/\xs.length<=1000/\H a=some (tupI ag)/\ag.length=10/\nn ag=true/\0<=m/\m<=2000/\goN (rowsOf aA) m.toNat ag=some jT /\
 ∀ aU H',aC H H'->H' aU=some (tupI jT)->Q (.ref aU) H'
theorem Wj (T:bE K mg):kn P w mg base 5 T.ng WT:=by
 refine T.ng.fn.kz gF (λ vs H Q E h=>?_) (λ ba A outer s H vs Q E aq h=>?_)
 ·obtain ⟨b,a,xs,aA,ag,jT,m,rfl,_⟩:=h;rfl
 ·obtain ⟨b,a,xs,aA,ag,jT,m,rfl,J,hf,au,aw,eV,gB,m0,qc,ks,q⟩:=h;refine ⟨_,(aM (bN 3 gF (jI (Mg T) (aq.mono (by decide)) rfl rfl T.tA.at_ T.tA.fn.a_ T.tA.bd (ae (aa 0) av)))
   (aM (bN 4 gF (aa 1))
   (aM (bN 5 gF aL)
   (aM (bN 6 gF aL)
   (aM (s_ PassesOwn.never (cn lJ (aa 5) (aa 2) (bZ _))
    (aM (bN 7 gF (jI (LQ T) (aq.mono (by decide)) rfl rfl T.tk.at_ T.tk.fn.a_ T.tk.bd (ae (aa 3) (ae (aa 4) av))))
   (aM (cM (cn mv (aa 7) fj (bZ _))
    (aV s9)
    ct)
   (aM (cM (cn eJ (aa 6) (rm (by rfl) T.zl) (bZ _))
    (aV s9)
    ct)
   (aM (bN 8 gF (jI (Mz T) (aq.mono (by decide)) rfl rfl T.tF.at_ T.tF.fn.a_ T.tF.bd (ae (aa 3) (ae (aa 4) (ae (aa 7) av)))))
   (aM (nr (ez.pt (gr (cn mv (aa 8) fj (bZ _)) (hT (cn mn (aa 8) (b8 jH (aa 2) (aa 5)) (bZ _)))))
    (aV (bN 8 gF (b8 jH (aa 2) (aa 5))))
    ct)
   (aM (bN 4 gF (jI (Dz T) (aq.mono (by decide)) rfl rfl T.oP.at_ T.oP.fn.a_ T.oP.bd (ae (aa 4) (ae (cS d7 (aa 3) (aa 7) (λ _ _=>rfl)) (ae (aa 8) av)))))
   (aM (bN 5 gF (b8 fG (aa 5) (aa 8)))
   (aV (bN 6 gF (b8 fG (aa 6) aL)))))))))))
   (aV (bH (aa 4)))))))),?_⟩
  refine ⟨_,rfl,b,xs,aA,rfl,J,hf,au,λ l H1 ys cW s1 gR eT=>?_⟩;have R:=y3 aA;have B:=Jz hf;have h9:ys.length<=1000:=by rw [eT.1,wh,<-hf.1];exact au
  refine ⟨_,rfl,?_⟩;refine tj (λ σ aK => ∃ (gd:Addr) (cur:List Int) (d st:Nat) (u v:Option V),σ=[some (.ref b),some (.ref a),some (.int m),some (.ref l),some (.ref gd),some (.int (d:Int)),some (.int (st:Int)),u,v]/\aC H1 aK/\aK gd=some (tupI cur)/\goN (rowsOf aA) d ag=some cur/\(d:Int)<=m/\st<=d)
   (λ σ _=>m.toNat - HB σ) ⟨a,ag,0,0,none,none,rfl,aC.refl H1,s1 _ _ aw,rfl,m0,Nat.le_refl _⟩ ?_
  rintro σ aK ⟨gd,cur,d,st,u,v,rfl,s3,n5,aI,O5,Px⟩;have jD:=sO R eV gB aI;refine ⟨_,rfl,_,rfl,_,_,rfl,rfl,_,rfl,eu (λ h=>?_) (λ h=>?_)⟩
  ·have h0:(d:Int)<m:=of_decide_eq_true h;refine sq ⟨_,rfl,_,rfl,l,gd,ys,rowsOf aA,cur,rfl,s3 _ _ gR,eT.same s3,n5,λ bc s4=>?_⟩;cases kK:c7 (rowsOf aA) cur with
   | none =>
    have:=Y6 aI kK ks;omega
   | some k =>
    obtain ⟨c,aj,_,aB⟩:=pY kK;obtain ⟨x,e,ak,rfl,he⟩:=(eT.same s3).of aj;have mO:=R c (List.mem_of_getElem? aj);refine ⟨_,rfl,rfl,_,rfl,bx ⟨_,rfl,rfl,_,rfl,?_⟩⟩;rw [decide_eq_false (show ¬ V.int (st:Int)=V.int 2000 from λ z=>by injection z with z;omega)];refine bx ?_;refine ⟨_,rfl,_,rfl,_,rfl,l,gd,ys,rowsOf aA,cur,c,k,rfl,s4 _ _ (s3 _ _ gR),(eT.same s3).same s4,h9,s4 _ _ n5,jD.1,jD.2,R,B,aj,λ bt o s5 c8 bJ=>?_⟩;have ou:=s4.trans s5;have qB:c7 (rowsOf aA) (cv cur c (0:Nat))=some k:=by rw [show ((0:Nat):Int)=0 from rfl,C7 jD.1 mO];exact kK
    refine ⟨λ σ' H' => ∃ fe:Nat,σ'=[some (.ref b),some (.ref a),some (.int m),some (.ref l),some (.ref gd),some (.int (d:Int)),some (.int (st:Int)),some (.int (k:Int)),some (.int (fe:Int))]/\bt=H'/\1<=fe/\(d:Int)+fe<=m /\ ∀ t:Nat,t<fe->c7 (rowsOf aA) (cv cur c t)=some k,?_,?_⟩
    ·have all : ∀ (σ':St),σ'=[some (.ref b),some (.ref a),some (.int m),some (.ref l),some (.ref gd),some (.int (d:Int)),some (.int (st:Int)),some (.int (k:Int)),some (.int (m - (d:Int)))]->(∀ t:Nat,(t:Int)<m - d->c7 (rowsOf aA) (cv cur c t)=some k) -> ∃ fe:Nat,σ'=[some (.ref b),some (.ref a),some (.int m),some (.ref l),some (.ref gd),some (.int (d:Int)),some (.int (st:Int)),some (.int (k:Int)),some (.int (fe:Int))]/\bt=bt/\1<=fe/\(d:Int)+fe<=m /\ ∀ t:Nat,t<fe->c7 (rowsOf aA) (cv cur c t)=some k:=λ σ' eσ fT=>by
      refine ⟨(m - d).toNat,?_,rfl,by omega,by omega,λ t aW=>fT t (by omega)⟩;rw [eσ,Int.toNat_of_nonneg (by omega)]
     cases o with
     | none =>
      exact ⟨_,rfl,rfl,_,rfl,cm (cm ⟨_,rfl,_,rfl,_,_,rfl,rfl,all _ rfl λ t _=>c8 t⟩)⟩
     | some jM =>
      refine ⟨_,rfl,rfl,_,rfl,bx ⟨_,rfl,_,rfl,_,rfl,_,_,rfl,rfl,_,_,rfl,rfl,_,rfl,eu (λ h'=>?_) (λ h'=>?_)⟩⟩
      ·have r9:(jM:Int) > m - d:=of_decide_eq_true h';exact ⟨_,rfl,_,rfl,_,_,rfl,rfl,all _ rfl λ t aW=>c8.1 t (by omega)⟩
      ·have r9 : ¬ (jM:Int) > m - d:=λ z=>h' (decide_eq_true z)
       refine ⟨jM,rfl,rfl,?_,by omega,c8.1⟩;by_cases z:jM=0
       ·subst z;exact absurd qB c8.2
       ·omega
    rintro σ' H' ⟨fe,rfl,rfl,mU,e5,fT⟩;refine ⟨_,rfl,_,rfl,_,rfl,l,_,_,_,rfl,rfl,a3.of (ou _ _ (s3 _ _ gR)),lL (Int.natCast_nonneg k) (by rw [Int.toNat_natCast];exact ak),_,rfl,gd,e,cur,c,(fe:Int),rfl,ou _ _ n5,ou _ _ he,⟨by omega,by omega⟩,by omega,λ p cE bL hl=>?_⟩;refine ⟨_,rfl,_,rfl,_,_,rfl,rfl,_,rfl,_,_,rfl,rfl,⟨p,cv cur c fe,d+fe,st+1,_,_,rfl,(s3.trans ou).trans bL,hl,JV aI aj jD.1 mO fT,by omega,by omega⟩,?_⟩;show m.toNat - ((d:Int)+(fe:Int)).toNat<m.toNat - ((d:Int)).toNat;omega
  ·have h0 : ¬ (d:Int)<m:=λ z=>h (decide_eq_true z)
   have e:d=m.toNat:=by omega
   subst e;rw [ks] at aI;cases aI;exact ⟨_,rfl,q gd aK (s1.trans s3) n5⟩
theorem aa5 (T:bE K mg):dU P w K mg base cD 1 T.Eu T.EB ["self", "steps"] (CZ T.eY "steps"):=by
 refine T.vW.ec aa9 (λ vs H Q E h=>?_) (λ ba A outer s H vs Q E aq h=>?_)
 ·obtain ⟨e,t,v,rfl,_⟩:=h;rfl
 ·obtain ⟨e,t,v,rfl,he,q⟩:=h;refine ⟨_,(aV (Va rfl (aa 0) (aa 1) rfl)),?_⟩;obtain ⟨cd,hB,k7,wH⟩:=T.nz.cls;refine ⟨_,rfl,_,rfl,e,T.eY,T.oW,t,cd,rfl,he,hB,k7,wH,T.nz.fy.b2,T.nz.rP,?_,λ aH hj=>q aH hj⟩;show PySem.W.takerIn K T.eY "steps" = some none;unfold PySem.W.takerIn;rw [T.Dq];rfl
def WU (C:Addr):bX:=λ vs H Q E => ∃ (b a:Addr) (xs:List V) (aA:List (Int×Int)) (ag:List Int) (m:Int),vs=[.ref b,.ref a,.int m]/\H b=some (.tup xs)/\gp H xs aA/\xs.length<=1000/\H a=some (tupI ag)/\ag.length=10/\nn ag=true/\0<=m/\m<=2000 /\
 (∀ r,goN (rowsOf aA) m.toNat ag=some r -> ∀ aU H',aC H H'->H' aU=some (tupI r)->Q (.ref aU) H') /\
 (∀ (n:Nat) r,n<m.toNat->goN (rowsOf aA) n ag=some r->c7 (rowsOf aA) r=none -> ∀ aH H',aC H H'->H' aH=some (.jk [("steps", .int (n:Int))])->E (.ref C) (some aH) H')
theorem Wl (T:bE K mg):c6 P w mg base (i0 P w) 5 T.ng (WU T.eY):=by
 refine T.ng.fn.pA gF (λ vs H Q E h=>?_) (λ ba A outer s H vs Q E aq h=>?_)
 ·obtain ⟨b,a,xs,aA,ag,m,rfl,_⟩:=h;rfl
 ·obtain ⟨b,a,xs,aA,ag,m,rfl,J,hf,au,aw,eV,gB,m0,qc,a7,bV⟩:=h;refine ⟨_,(aM (bN 3 gF (b7 (aaN T) aq bM (ae (aa 0) av)))
   (aM (bN 4 gF (aa 1))
   (aM (bN 5 gF aL)
   (aM (bN 6 gF aL)
   (aM (s_ PassesOwn.leaving (cn lJ (aa 5) (aa 2) (bZ _))
    (aM (bN 7 gF (b7 (ZW T) aq bM (ae (aa 3) (ae (aa 4) av))))
   (aM (cM (cn mv (aa 7) fj (bZ _))
    (aV (Ya sS rfl rfl T.nz (aa5 T) (aq.mono (by decide)) T.VB (by rfl) (ae (aa 5) av)))
    ct)
   (aM (cM (cn eJ (aa 6) (rm (by rfl) T.zl) (bZ _))
    (aV s9)
    ct)
   (aM (bN 8 gF (b7 (abq T) aq bM (ae (aa 3) (ae (aa 4) (ae (aa 7) av)))))
   (aM (nr (ez.pt (gr (cn mv (aa 8) fj (bZ _)) (hT (cn mn (aa 8) (b8 jH (aa 2) (aa 5)) (bZ _)))))
    (aV (bN 8 gF (b8 jH (aa 2) (aa 5))))
    ct)
   (aM (bN 4 gF (b7 (Wm T) aq bM (ae (aa 4) (ae (cS d7 (aa 3) (aa 7) (λ _ _=>rfl)) (ae (aa 8) av)))))
   (aM (bN 5 gF (b8 fG (aa 5) (aa 8)))
   (aV (bN 6 gF (b8 fG (aa 6) aL)))))))))))
   (aV (bH (aa 4)))))))),?_⟩
  refine ⟨_,rfl,b,xs,aA,rfl,J,hf,au,λ l H1 ys cW s1 gR eT=>?_⟩;have R:=y3 aA;have B:=Jz hf;have h9:ys.length<=1000:=by rw [eT.1,wh,<-hf.1];exact au
  refine ⟨_,rfl,?_⟩;refine tj (λ σ aK => ∃ (gd:Addr) (cur:List Int) (d st:Nat) (u v:Option V),σ=[some (.ref b),some (.ref a),some (.int m),some (.ref l),some (.ref gd),some (.int (d:Int)),some (.int (st:Int)),u,v]/\aC H1 aK/\aK gd=some (tupI cur)/\goN (rowsOf aA) d ag=some cur/\(d:Int)<=m/\st<=d)
   (λ σ _=>m.toNat - HB σ) ⟨a,ag,0,0,none,none,rfl,aC.refl H1,s1 _ _ aw,rfl,m0,Nat.le_refl _⟩ ?_
  rintro σ aK ⟨gd,cur,d,st,u,v,rfl,s3,n5,aI,O5,Px⟩;have jD:=sO R eV gB aI;refine ⟨_,rfl,_,rfl,_,_,rfl,rfl,_,rfl,eu (λ h=>?_) (λ h=>?_)⟩
  ·have h0:(d:Int)<m:=of_decide_eq_true h;refine sq ⟨_,rfl,_,rfl,l,gd,ys,rowsOf aA,cur,rfl,s3 _ _ gR,eT.same s3,n5,λ bc s4=>?_⟩;cases kK:c7 (rowsOf aA) cur with
   | none =>
    refine ⟨_,rfl,rfl,_,rfl,cm ⟨_,rfl,_,rfl,λ aH bt s5 hj=>?_⟩⟩;exact bV d cur (by omega) aI kK aH bt (((s1.trans s3).trans s4).trans s5) hj
   | some k =>
    obtain ⟨c,aj,_,aB⟩:=pY kK;obtain ⟨x,e,ak,rfl,he⟩:=(eT.same s3).of aj;have mO:=R c (List.mem_of_getElem? aj);refine ⟨_,rfl,rfl,_,rfl,bx ⟨_,rfl,rfl,_,rfl,?_⟩⟩;rw [decide_eq_false (show ¬ V.int (st:Int)=V.int 2000 from λ z=>by injection z with z;omega)];refine bx ?_;refine ⟨_,rfl,_,rfl,_,rfl,l,gd,ys,rowsOf aA,cur,c,k,rfl,s4 _ _ (s3 _ _ gR),(eT.same s3).same s4,h9,s4 _ _ n5,jD.1,jD.2,R,B,aj,λ bt o s5 c8 bJ=>?_⟩;have ou:=s4.trans s5;have qB:c7 (rowsOf aA) (cv cur c (0:Nat))=some k:=by rw [show ((0:Nat):Int)=0 from rfl,C7 jD.1 mO];exact kK
    refine ⟨λ σ' H' => ∃ fe:Nat,σ'=[some (.ref b),some (.ref a),some (.int m),some (.ref l),some (.ref gd),some (.int (d:Int)),some (.int (st:Int)),some (.int (k:Int)),some (.int (fe:Int))]/\bt=H'/\1<=fe/\(d:Int)+fe<=m /\ ∀ t:Nat,t<fe->c7 (rowsOf aA) (cv cur c t)=some k,?_,?_⟩
    ·have all : ∀ (σ':St),σ'=[some (.ref b),some (.ref a),some (.int m),some (.ref l),some (.ref gd),some (.int (d:Int)),some (.int (st:Int)),some (.int (k:Int)),some (.int (m - (d:Int)))]->(∀ t:Nat,(t:Int)<m - d->c7 (rowsOf aA) (cv cur c t)=some k) -> ∃ fe:Nat,σ'=[some (.ref b),some (.ref a),some (.int m),some (.ref l),some (.ref gd),some (.int (d:Int)),some (.int (st:Int)),some (.int (k:Int)),some (.int (fe:Int))]/\bt=bt/\1<=fe/\(d:Int)+fe<=m /\ ∀ t:Nat,t<fe->c7 (rowsOf aA) (cv cur c t)=some k:=λ σ' eσ fT=>by
      refine ⟨(m - d).toNat,?_,rfl,by omega,by omega,λ t aW=>fT t (by omega)⟩;rw [eσ,Int.toNat_of_nonneg (by omega)]
     cases o with
     | none =>
      exact ⟨_,rfl,rfl,_,rfl,cm (cm ⟨_,rfl,_,rfl,_,_,rfl,rfl,all _ rfl λ t _=>c8 t⟩)⟩
     | some jM =>
      refine ⟨_,rfl,rfl,_,rfl,bx ⟨_,rfl,_,rfl,_,rfl,_,_,rfl,rfl,_,_,rfl,rfl,_,rfl,eu (λ h'=>?_) (λ h'=>?_)⟩⟩
      ·have r9:(jM:Int) > m - d:=of_decide_eq_true h';exact ⟨_,rfl,_,rfl,_,_,rfl,rfl,all _ rfl λ t aW=>c8.1 t (by omega)⟩
      ·have r9 : ¬ (jM:Int) > m - d:=λ z=>h' (decide_eq_true z)
       refine ⟨jM,rfl,rfl,?_,by omega,c8.1⟩;by_cases z:jM=0
       ·subst z;exact absurd qB c8.2
       ·omega
    rintro σ' H' ⟨fe,rfl,rfl,mU,e5,fT⟩;refine ⟨_,rfl,_,rfl,_,rfl,l,_,_,_,rfl,rfl,a3.of (ou _ _ (s3 _ _ gR)),lL (Int.natCast_nonneg k) (by rw [Int.toNat_natCast];exact ak),_,rfl,gd,e,cur,c,(fe:Int),rfl,ou _ _ n5,ou _ _ he,⟨by omega,by omega⟩,by omega,λ p cE bL hl=>?_⟩;refine ⟨_,rfl,_,rfl,_,_,rfl,rfl,_,rfl,_,_,rfl,rfl,⟨p,cv cur c fe,d+fe,st+1,_,_,rfl,(s3.trans ou).trans bL,hl,JV aI aj jD.1 mO fT,by omega,by omega⟩,?_⟩;show m.toNat - ((d:Int)+(fe:Int)).toNat<m.toNat - ((d:Int)).toNat;omega
  ·have h0 : ¬ (d:Int)<m:=λ z=>h (decide_eq_true z)
   have e:d=m.toNat:=by omega
   subst e;exact ⟨_,rfl,a7 cur aI gd aK (s1.trans s3) n5⟩
def SR (T:bE K mg) (H:ah) (b a:Addr) (aA:List (Int×Int)) (ag:List Int) (m:Int):St->dz:=λ σ zv d H1=>σ=[some (.ref b),some (.ref a),some (.int m),none]/\zv=.ref T.eY /\ ∃ (aH:Addr) (n:Nat) (r:List Int),d=some aH/\H1 aH=some (.jk [("steps", .int (n:Int))])/\aC H H1/\n<m.toNat/\goN (rowsOf aA) n ag=some r/\c7 (rowsOf aA) r=none
def Zz:bX:=λ vs H Q _ => ∃ (b a:Addr) (xs:List V) (aA:List (Int×Int)) (ag:List Int) (m:Int),vs=[.ref b,.ref a,.int m]/\H b=some (.tup xs)/\gp H xs aA/\xs.length<=1000/\H a=some (tupI ag)/\ag.length=10/\nn ag=true/\0<=m/\m<=2000 /\
 ∀ (k:Nat) r t aU H',k<=m.toNat->goN (rowsOf aA) k ag=some r->(k=m.toNat\/c7 (rowsOf aA) r=none)->aC H H'->H' t=some (.tup [.int (k:Int),.ref aU])->H' aU=some (tupI r)->Q (.ref t) H'
theorem Zo (T:bE K mg):c6 P w mg base cD 7 T.Kj Zz:=by
 refine T.Kj.fn.ec Le (λ vs H Q E h=>?_) (λ ba A outer s H vs Q E aq h=>?_)
 ·obtain ⟨b,a,xs,aA,ag,m,rfl,_⟩:=h;rfl
 ·obtain ⟨b,a,xs,aA,ag,m,rfl,J,hf,au,aw,eV,gB,m0,qc,q⟩:=h;refine ⟨_,(aV (Vb (E:=(SR T H b a aA ag m)) (i:=3) rfl rfl rfl T.nz.at_ (Zl T.nz) (by rfl) Le.cX rfl rfl (λ _ _ mH=>(aV (bH (hx (ae (bG (v_ rfl) T.sL sG (ae (aa 2) (ae aL av))) (ae (X7 (Wl T) (aq.mono (by decide)) rfl mH rfl T.ng.at_ T.ng.fn.a_ T.ng.bd (ae (aa 0) (ae (aa 1) (ae (aa 2) av)))) av))))))
    (λ _=>(aV (bH (hx (ae (J7 (K:=K) rfl (aa 3) (by rfl)) (ae (WI (Wj T) ((aq.mark _).mono (by decide)) rfl rfl T.ng.at_ T.ng.fn.a_ T.ng.bd (ae (aa 0) (ae (aa 1) (ae (J7 (K:=K) rfl (aa 3) (by rfl)) av)))) av)))))))),?_⟩
  refine ⟨⟨_,rfl,_,_,rfl,_,rfl,_,rfl,_,rfl,b,a,xs,aA,ag,m,rfl,J,hf,au,aw,eV,gB,m0,qc,λ r aI aU H1 s1 f3=>?_,λ n r aD aI AS aH H' s' hj=>⟨rfl,rfl,aH,n,r,rfl,hj,s',aD,aI,AS⟩⟩,?_⟩
  ·refine ⟨cg,λ t ar f2 s2 aW=>?_⟩;refine q m.toNat r t aU ar (Nat.le_refl _) aI (.inl rfl) (s1.trans s2) ?_ (s2 _ _ f3);rw [aW];show some (dG.tup [V.int (if (0:Int) > m then 0 else m),_])=_;rw [if_neg (by omega),Int.toNat_of_nonneg m0]
  ·rintro C d H1 σ1 ⟨rfl,eR,aH,n,r,rfl,hj,s1,aD,aI,AS⟩;cases eR;refine ⟨rfl,λ e he hσ=>?_⟩;have s2:aC H1 (upd H1 e (kJ e T.eY (some aH))):=aC.new he;have hd2:=s2 _ _ hj;have fx:H e=none:=s1.free he;refine ⟨_,rfl,e,T.eY,aH,_,_,rfl,bA,hd2,T.nz.fy,T.nz.hd,T.Dq,rfl,_,rfl,_,rfl,_,rfl,e,T.eY,aH,_,_,rfl,bA,hd2,T.nz.fy,T.nz.hd,T.Dq,rfl,⟨_,_,bA⟩,λ ar ai k2=>?_⟩;have ho:aC H ar:=λ c o dX=>by
    have ef:c≠e:=λ z=>by rw [z,fx] at dX;cases dX
    rw [k2 c ef,a8 ef];exact s1 _ _ dX
   refine ⟨b,a,xs,aA,ag,r,(n:Int),rfl,ho _ _ J,hf.same ho,au,ho _ _ aw,eV,gB,by omega,by omega,by rw [Int.toNat_natCast];exact aI,λ aU aK s3 f3=>?_⟩;refine ⟨cg,λ t bc f4 s4 aW=>?_⟩;exact q n r t aU bc (by omega) aI (.inr AS) ((ho.trans s3).trans s4) aW (s4 _ _ f3)
def aaZ:bX:=λ vs H Q _ => ∃ (b:Addr) (ao:List Int),vs=[.ref b]/\H b=some (.lst (ao.map V.int))/\ao.length=10/\(∀ e∈ao,0<=e/\e<2 ^ 62) /\ ∀ H',aC H H'->Q (.int (prod (ao.map Int.toNat):Nat)) H'
theorem L9 (T:bE K mg):c6 P w mg base cD 2 T.zc aaZ:=by
 refine T.zc.fn.ec lP (λ vs H Q E h=>?_) (λ ba A outer s H vs Q E aq h=>?_)
 ·obtain ⟨b,ao,rfl,_⟩:=h;rfl
 ·obtain ⟨b,ao,rfl,J,he,hm,q⟩:=h;refine ⟨_,(aM (bN 1 lP aL)
   (aM (gD PassesOwn.never rfl (U9 rfl rfl T.ja (ae (CC (D4 T) aq bM) (ae (aa 0) av))) (lN rfl (da (dM 2 lP) (da (dM 3 lP) fV)))
    (aV (gD PassesOwn.never rfl (my rfl T.kU (ae (aa 3) av)) (dM 4 lP)
    (aV (bN 1 lP (b8 oN (aa 1) (aa 2)))))))
   (aV (bH (aa 1))))),?_⟩
  refine ⟨rfl,λ t aW=>⟨_,rfl,t,b,rfl,⟨_,aR.of bA⟩,⟨_,a3.of ((aC.new aW) _ _ J)⟩,?_⟩⟩;have dp:f7.length=10:=rfl;have AR:(ao.map V.int).length=10:=by rw [List.length_map];exact he
  refine VW (xs:=f7) (ys:=ao.map V.int) (λ i σ ar=>(∃ u v x:Option V,σ=[some (.ref b),some (.int (iL (dk.take i) ((ao.map Int.toNat).take i):Nat)),u,v,x])/\aC (upd H t (.tup f7)) ar) ⟨⟨none,none,none,rfl⟩,aC.refl _⟩ ?_ ?_ ?_
  ·rintro i σ ar ay ⟨_,s2⟩;exact ⟨aR.of (s2 _ _ bA),a3.of (s2 _ _ ((aC.new aW) _ _ J))⟩
  ·rintro i x y z σ ar ak aN a9 ⟨⟨u,v,e3,rfl⟩,s2⟩;obtain ⟨p,rfl,ax,q1⟩:=tw ak;obtain ⟨e,rfl,n6⟩:=kd aN;obtain ⟨bP,aO⟩:=hm e (List.mem_of_getElem? n6);refine ⟨z,_,rfl,aR.of bA,rfl,_,_,rfl,_,_,rfl,rfl,?_⟩;refine ⟨_,rfl,e,rfl,by omega,aO,mx (n:=e.toNat) (λ j σ aK=>(∃ x:Option V,σ=[some (.ref b),some (.int ((iL (dk.take i) ((ao.map Int.toNat).take i) * p ^ j:Nat):Int)),some (.int p),some (.int e),x])/\aC (upd H t (.tup f7)) aK) ⟨⟨e3,by rw [Nat.pow_zero,Nat.mul_one];rfl⟩,aC.more s2 a9⟩ ?_ ?_⟩
   ·rintro j σ aK b3 ⟨⟨iY,rfl⟩,s3⟩;refine ⟨_,rfl,_,rfl,_,_,rfl,rfl,.inr ⟨by omega,by omega⟩,⟨some (.int (0+(j:Int))),?_⟩,s3⟩;rw [Nat.pow_succ,<-Nat.mul_assoc,Int.natCast_mul _ p];rfl
   ·rintro σ aK ⟨⟨iY,rfl⟩,s3⟩;refine ⟨⟨some (.int p),some (.int e),iY,?_⟩,s3⟩;have BX:(ao.map Int.toNat)[i]?=some e.toNat:=by rw [List.getElem?_map,n6];rfl
    rw [DT dk (ao.map Int.toNat) i p e.toNat ax BX]
  ·rintro σ ar ⟨⟨u,v,x,rfl⟩,s2⟩;have aQ:min f7.length (ao.map V.int).length=10:=by rw [dp,AR];rfl
   refine ⟨_,rfl,?_⟩;rw [aQ];have fs:dk.take 10=dk:=rfl;have e4:(ao.map Int.toNat).take 10=ao.map Int.toNat:=List.take_of_length_le (by rw [List.length_map,he];exact Nat.le_refl _);rw [fs,e4];exact q ar ((aC.new aW).trans s2)
def Sd (H:ah) (z:V):Prop := ∃ (l:Addr) (s:List Int),z=.ref l/\H l=some (.lst (s.map V.int))/\s.length=10/\(∀ e∈s,0<=e)/\(ups s).sum<=2
theorem MA (T:bE K mg):c6 P w mg base cD 5 T.Mq LY:=by
 refine T.Mq.fn.ec kX (λ vs H Q E h=>?_) (λ ba A outer s H vs Q E aq h=>?_)
 ·obtain ⟨a,b,n,most,ns,rfl,_⟩:=h;rfl
 ·obtain ⟨a,b,n,most,ns,rfl,aw,J,r_,lC,hm,k1,k2,q⟩:=h;refine ⟨_,(aM (bN 3 kX (b7 (aal T) aq bM (ae (aa 0) (ae (aa 1) (ae (aa 2) av)))))
   (aM (cM (cn eJ (b7 (g0 T) aq bM (ae (aa 0) (ae aL av))) aL (bZ _))
    (aV (bH (aa 3)))
    ct)
   (aM (bN 4 kX (eL av))
   (aM (gD PassesOwn.never rfl (my rfl T.kU (ae (b8 fG aL (b7 (g0 T) aq bM (ae (aa 0) (ae (aa 2) av)))) av)) (dM 5 kX)
    (aM (bN 6 kX (eL av))
   (aM (gD PassesOwn.never rfl (my rfl T.kU (ae aL av)) (dM 7 kX)
    (aM (bN 8 kX (b8 J4 (eL (ae aL av)) aL))
   (aM (gD PassesOwn.never rfl (my rfl T.kU (ae (b8 fG aL (b7 (g0 T) aq bM (ae (aa 0) (ae aL av)))) av)) (dM 9 kX)
    (aV (U_ (aa 8) (cS hv (aa 1) (b7 (g0 T) aq bM (ae (aa 0) (ae (bG gG T.fi fh (ae (aa 1) av)) av))) (λ _ _=>rfl)) aL)))
   (aV (hV (jG PySem.F.plainAttrs_list PySem.F.slot_list_append PySem.F.type_list_append p0 (aa 6) (ae (aa 8) av)))))))
   (aM (CU (i:=10) kX.cX rfl (Or.inl rfl) (fA kX (N:=["one", "other"]) (js:=[none,none]) (List.forall_mem_nil _)) rfl (yK rfl rfl T.ja (ae (cS d7 (aa 6) aL (λ _ _=>rfl)) (ae (cS d7 (aa 6) aL (λ _ _=>rfl)) av))) (λ _ _ _ _=>(lO (K:=K) (n:=2) rfl rfl (da fC (da (kb (i:=1) (show List.Nodup (["one", "other"]:List Str) from by decide +kernel) rfl (Or.inl rfl) (Or.inr rfl)) fV)))) (λ _ _ _ _=>fW)
     (λ _ _ _ _=>(bG (Ku rfl) T.vJ vC (ae (aa 0) (ae (aa 1) av)))))
   (aM (bN 11 kX (b7 (L9 T) aq bM (ae (f9 (fA kX (N:=["one", "other"]) (js:=[none,none]) (List.forall_mem_nil _)) rfl (yK rfl rfl T.ja (ae (cS d7 (aa 6) aL (λ _ _=>rfl)) (ae (aa 10) av))) (λ _ _ _ _=>(lO (K:=K) (n:=2) rfl rfl (da fC (da (kb (i:=1) (show List.Nodup (["one", "other"]:List Str) from by decide +kernel) rfl (Or.inl rfl) (Or.inr rfl)) fV)))) (λ _ _ _ _=>fW)
     (λ _ _ _ _=>(b8 jH (aa 0) (aa 1)))) av)))
   (aV (hV (jG PySem.F.plainAttrs_list PySem.F.slot_list_append PySem.F.type_list_append p0 (aa 4) (ae (hx (ae (aa 11) (ae (b7 (L9 T) aq bM (ae (f9 (fA kX (N:=["one", "other"]) (js:=[none,none]) (List.forall_mem_nil _)) rfl (yK rfl rfl T.ja (ae (cS d7 (aa 6) aL (λ _ _=>rfl)) (ae (aa 10) av))) (λ _ _ _ _=>(lO (K:=K) (n:=2) rfl rfl (da fC (da (kb (i:=1) (show List.Nodup (["one", "other"]:List Str) from by decide +kernel) rfl (Or.inl rfl) (Or.inr rfl)) fV)))) (λ _ _ _ _=>fW)
     (λ _ _ _ _=>(b8 jH (aa 0) (aa 1)))) av)) av))) av)))))))))
   (aV (bH (iM rz T.gv gu (ae (aa 4) av)))))))),?_⟩
  have jz:b≠a:=cI J aw nofun;refine ⟨_,rfl,_,rfl,_,rfl,a,b,n,most,ns,rfl,aw,J,r_,lC,hm,k1,k2,λ p H1 cc xs dP uA n_ hc w3 gQ=>?_⟩;refine ⟨_,rfl,a,cc,3,rfl,uA,by decide,by decide,λ r c0 ar c9 zW dQ ft=>⟨rfl,_,rfl,eu (λ h=>?_) (λ h=>?_)⟩⟩
  ·exact ⟨_,rfl,q p ar c0 xs (dP.trans dQ) ft (dQ _ _ (cI n_ uA nofun) n_) hc w3 λ x ak=>lK.ih a cc (gQ x ak) uA dQ⟩
  refine ⟨cg,λ g_ aK dh s3 RE=>?_⟩;have eM:bW a H aK:=(dP.trans dQ).trans (bW.of s3);have N_:H g_=none:=(dP.trans dQ).Sh ft dh;have x9:g_≠a:=λ z=>by rw [z,ft] at dh;cases dh
  refine ⟨_,rfl,_,rfl,a,c0,most,rfl,s3 _ _ ft,by omega,by omega,λ bB eB bc acR acW ek lz=>⟨_,_,rfl,rfl,_,rfl,by omega,by omega,?_⟩⟩;refine mx (n:=(1+bB).toNat) (λ i σ bt => ∃ (g8:Int) (ys:List V) (z4 rS rT u8 rU pE pF:Option V),σ=[some (.ref a),some (.ref b),some (.int most),some (.ref p),some (.ref g_),z4,rS,rT,u8,rU,pE,pF]/\bW a H bt/\bt a=some (.lst [.int g8])/\bt g_=some (.lst ys)/\ys.length=i /\ ∀ y∈ys,lK bt y)
   ⟨eB,[],none,none,none,none,none,none,none,rfl,eM.trans ek,lz,ek _ _ x9 RE,rfl,λ y aN=>absurd aN (by simp)⟩ ?_ ?_
  ·rintro i σ bt ay ⟨g8,ys,z4,rS,rT,u8,rU,pE,pF,rfl,dt,mL,vq,h9,AV⟩;refine ⟨cg,λ gx cE hZ bL x5=>?_⟩;have Cc:gx≠a:=λ z=>by rw [z,mL] at hZ;cases hZ
   have RR:g_≠gx:=λ z=>by rw [<-z,vq] at hZ;cases hZ
   refine ⟨2,rfl,by decide,by decide,mx (n:=2) (λ j σ cT => ∃ (jh:Int) (zs:List V) (z6 z7 z8:Option V),σ=[some (.ref a),some (.ref b),some (.int most),some (.ref p),some (.ref g_),some (.int (0+(i:Int))),some (.ref gx),z6,z7,z8,pE,pF]/\Hy a gx cE cT/\cT a=some (.lst [.int jh])/\cT gx=some (.lst zs)/\zs.length=j /\ ∀ z∈zs,Sd cT z)
    ⟨g8,[],_,_,_,rfl,λ c o _ _ e=>e,bL _ _ mL,x5,rfl,λ y aN=>absurd aN (by simp)⟩ ?_ ?_⟩
   ·rintro j σ cT b3 ⟨jh,zs,z6,z7,z8,rfl,fH,uB,pJ,hn,xy⟩;refine ⟨cg,λ fc e9 f8 cH fK=>⟨fc,10,_,rfl,rfl,fK,by decide,by decide,by decide,λ ln fX tV eC k_=>?_⟩⟩;have xJ:=cH.trans eC;have uk:cT ln=none:=cH.free tV;have Ca:ln≠a:=λ z=>by rw [z,uB] at uk;cases uk
    have HS:ln≠gx:=λ z=>by rw [z,pJ] at uk;cases uk
    refine ⟨_,rfl,a,jh,2,rfl,xJ _ _ uB,by decide,by decide,λ b5 Qh Ah acS acT xa Rf=>⟨_,_,rfl,rfl,_,rfl,by omega,by omega,?_⟩⟩;have Cp:Ah ln=some (.lst ((List.replicate 10 (0:Int)).map V.int)):=xa _ _ Ca k_;have HF:Ah b=some (.tup (ns.map V.int)):=by
     refine xa _ _ jz (xJ _ _ (fH _ _ jz ?_ (bL _ _ (dt _ _ jz J))));exact λ z=>by rw [<-z] at x5;rw [bL _ _ (dt _ _ jz J)] at x5;cases x5
    refine mx (n:=(1+b5).toNat) (λ t σ rV => ∃ (uX:Int) (ao:List Int) (Ab:Option V),σ=[some (.ref a),some (.ref b),some (.int most),some (.ref p),some (.ref g_),some (.int (0+(i:Int))),some (.ref gx),some (.int (0+(j:Int))),some (.ref ln),Ab,pE,pF]/\Hy a ln Ah rV/\rV a=some (.lst [.int uX])/\rV ln=some (.lst (ao.map V.int))/\ao.length=10/\(∀ e∈ao,0<=e)/\(ups ao).sum<=t)
     ⟨Qh,List.replicate 10 0,_,rfl,λ c o _ _ e=>e,Rf,Cp,rfl,by decide,by decide⟩ ?_ ?_
    ·rintro t σ rV aW ⟨uX,ao,Ab,rfl,uf,BW,Cq,n7,j0,Gy⟩;have Qm:b≠ln:=λ z=>by rw [<-z,HF] at Cp;cases Cp
     have HG:=uf _ _ jz Qm HF;refine ⟨_,rfl,_,rfl,_,rfl,_,rfl,b,_,rfl,.inr (aR.of HG),a,uX,_,rfl,BW,by rw [List.length_map];omega,by rw [List.length_map];omega,λ hF Qi F9 BE QF qn Rg=>?_⟩;rw [List.length_map] at QF;have xv:hF.toNat<ns.length:=by omega
     obtain ⟨He,acQ⟩:=hm _ (List.getElem_mem xv);have vi:=qn _ _ jz HG;have Ii:=qn _ _ Ca Cq;have jw:(ns[hF.toNat]).toNat<ao.length:=by omega
     have pI:(ao.map V.int)[(ns[hF.toNat]).toNat]?=some (.int ao[(ns[hF.toNat]).toNat]):=by rw [List.getElem?_map,List.getElem?_eq_getElem jw];rfl
     refine ⟨b,_,_,.int ns[hF.toNat],rfl,rfl,aR.of vi,lL BE (by rw [List.getElem?_map,List.getElem?_eq_getElem xv];rfl),?_⟩;refine ⟨ln,_,_,_,rfl,rfl,Ii,He,pI,_,_,rfl,rfl,ln,_,_,_,rfl,rfl,Ii,vQ He (by rw [List.length_map];omega),?_⟩;refine ⟨Qi,ao.set (ns[hF.toNat]).toNat (ao[(ns[hF.toNat]).toNat]+1),_,rfl,?_,?_,?_,?_,?_,?_⟩
     ·intro c o na nl e;rw [a8 nl];exact qn _ _ na (uf _ _ na nl e)
     ·rw [a8 Ca.symm];exact Rg
     ·rw [bA,List.map_set]
     ·rw [List.length_set];exact n7
     ·intro e he;rcases List.mem_or_eq_of_mem_set he with z | z
      ·exact j0 e z
      ·have:=j0 _ (List.getElem_mem jw);omega
     ·have:=I5 (List.getElem?_eq_getElem jw);omega
    ·rintro σ rV ⟨uX,ao,Ab,rfl,uf,BW,Cq,n7,j0,Gy⟩;have Ij:rV gx=some (.lst zs):=uf _ _ Cc HS.symm (xa _ _ Cc (xJ _ _ pJ));refine ⟨_,rfl,.inl ⟨rfl,_,a3.of Ij⟩,_,rfl,gx,_,_,rfl,rfl,Ij,by rw [sizeLine_eq];omega,λ F9 qn l5=>?_⟩;have keep : ∀ c o,c≠a->c≠gx->cT c=some o->F9 c=some o:=λ c o na cX e =>
      qn _ _ cX (uf _ _ na (λ z=>by rw [z,uk] at e;cases e) (xa _ _ na (xJ _ _ e)))
     refine ⟨uX,zs++[.ref ln],_,_,_,rfl,λ c o na cX e=>keep c o na cX (fH c o na cX e),qn _ _ Cc.symm BW,l5,by rw [List.length_append,hn];rfl,λ z a9=>?_⟩;rcases List.mem_append.mp a9 with dR | dR
     ·obtain ⟨l,s',rfl,au,r⟩:=xy z dR;refine ⟨l,s',rfl,keep l _ ?_ ?_ au,r⟩
      ·intro y;rw [y,uB] at au;have ph:=r.1;have:(s'.map V.int).length=1:=by injection au with z;injection z with z;rw [<-z];rfl
       rw [List.length_map] at this;omega
      ·intro y;rw [y,pJ] at au;have ph:=r.1;have:(s'.map V.int).length=zs.length:=by injection au with z;injection z with z;rw [<-z]
       rw [List.length_map,hn] at this;omega
     ·rw [List.mem_singleton] at dR;subst dR;exact ⟨ln,ao,rfl,qn _ _ HS Cq,n7,j0,by omega⟩
   ·rintro σ cT ⟨jh,zs,z6,z7,z8,rfl,fH,uB,pJ,hn,xy⟩
    match zs,hn with
    | [NP,fs],_ =>
     obtain ⟨fc,t0,rfl,ku,ya,QT,QU⟩:=xy NP (by simp);obtain ⟨cQ,t1,rfl,gR,yb,QV,QW⟩:=xy fs (by simp);have xq:(List.zipWith ia t0 t1).length=10:=by rw [List.length_zipWith,ya,yb];rfl
     refine ⟨_,rfl,gx,_,_,_,rfl,rfl,a3.of pJ,rfl,_,rfl,gx,_,_,_,rfl,rfl,a3.of pJ,rfl,fc,cQ,_,_,rfl,ku,gR,λ D a4=>?_⟩;refine EA (K:=K) (f:=ia) (σ0:=[]) (xs:=t0) (ys:=t1) (by rw [ya,yb,sizeLine_eq];decide) ⟨_,_,rfl⟩ a4 ku gR (λ x y H' R _ _ r=>⟨_,rfl,_,rfl,_,_,rfl,r⟩) λ e9 cH fK=>?_
     refine ⟨_,rfl,gx,_,_,_,rfl,rfl,a3.of (cH _ _ pJ),rfl,_,rfl,fc,D,_,_,rfl,cH _ _ ku,fK,λ hX n3=>?_⟩;refine EA (K:=K) (f:=i7) (σ0:=[]) (xs:=t0) (ys:=List.zipWith ia t0 t1) (by rw [ya,xq,sizeLine_eq];decide) ⟨_,_,rfl⟩ n3 (cH _ _ ku) fK (λ x y H' R _ _ r=>⟨_,rfl,_,rfl,_,_,rfl,rfl,r⟩) λ fX eC k_=>?_
     have NC:=Nat.le_trans (JH t0 t1 QV) QU;have QQ:=Nat.le_trans (KG t0 t1 QT) QW;refine ⟨hX,_,rfl,k_,by rw [List.length_zipWith,ya,xq];rfl,IE (λ e he=>S4 he) (by rw [Cn];exact NC) (by decide),λ ke gM=>?_⟩;have u_:=(cH.trans eC).trans gM;have ade:g_≠a:=x9;have B5:cT g_=some (.lst ys):=fH _ _ x9 RR (bL _ _ vq);refine ⟨_,rfl,.inl ⟨rfl,_,a3.of (u_ _ _ B5)⟩,_,rfl,_,rfl,gx,_,_,_,rfl,rfl,a3.of (u_ _ _ pJ),rfl,_,rfl,cQ,D,_,_,rfl,u_ _ _ gR,gM _ _ (eC _ _ fK),λ MM OP=>?_⟩;refine EA (K:=K) (f:=i7) (σ0:=[]) (xs:=t1) (ys:=List.zipWith ia t0 t1) (by rw [yb,xq,sizeLine_eq];decide) ⟨_,_,rfl⟩ OP (u_ _ _ gR) (gM _ _ (eC _ _ fK)) (λ x y H' R _ _ r=>⟨_,rfl,_,rfl,_,_,rfl,rfl,r⟩) λ kY sB qa=>?_
     refine ⟨MM,_,rfl,qa,by rw [List.length_zipWith,yb,xq];rfl,IE (λ e he=>S5 he) (by rw [Co];exact QQ) (by decide),λ abR NA=>?_⟩;have QN:=(u_.trans sB).trans NA;refine ⟨cg,λ t8 abS abX NB c2=>?_⟩;have xK:=QN.trans NB;refine ⟨g_,ys,_,rfl,rfl,xK _ _ B5,by rw [sizeLine_eq];omega,λ MR zC fL=>?_⟩;rw [Cn,Co] at c2;have keep : ∀ c o,c≠a->c≠g_->bt c=some o->MR c=some o:=λ c o na nm e =>
      zC _ _ nm (xK _ _ (fH _ _ na (λ z=>by rw [z,hZ] at e;cases e) (bL _ _ e)))
     refine ⟨jh,ys++[.ref t8],_,_,_,_,_,_,_,rfl,λ c o na e=>keep c o na (λ z=>by rw [z,N_] at e;cases e) (dt c o na e),zC _ _ x9.symm (xK _ _ uB),fL,by rw [List.length_append,h9];rfl,λ y aN=>?_⟩;rcases List.mem_append.mp aN with dR | dR
     ·obtain ⟨c,lb,ki,rfl,aj,f⟩:=AV y dR;exact ⟨c,lb,ki,rfl,keep _ _ (cI aj mL nofun) (cI aj vq nofun) aj,f⟩
     ·rw [List.mem_singleton] at dR;subst dR;exact ⟨t8,_,_,rfl,zC _ _ (cI c2 (xK _ _ B5) nofun) c2,Lq (by omega) (by omega)⟩
  ·rintro σ bt ⟨g8,ys,z4,rS,rT,u8,rU,pE,pF,rfl,dt,mL,vq,h9,AV⟩;refine ⟨_,rfl,g_,ys,rfl,a3.of vq,λ hD cE hZ bL dn=>?_⟩;refine q hD cE g8 ys (dt.trans (bW.of bL)) (bL _ _ mL) dn (by rw [h9];omega) (by rw [h9];omega) λ x ak=>?_
   obtain ⟨c,lb,ki,rfl,aj,f⟩:=AV x ak;exact ⟨c,lb,ki,rfl,bL _ _ aj,f⟩
end
theorem Z6:bootBuiltins "ValueError" = some (.type "ValueError"):=by decide +kernel
section
variable {P:Program} {w:World} {K:PySem.W.Frag} {mg:Str->Option Value} {base:Heap}
theorem XT {p:List Int} {M:Int} (af:M∈p) (ai : ∀ a∈p,M<=a):nn p=decide (0<=M):=by
 by_cases h:0<=M
 ·rw [decide_eq_true h,ni];intro x ak;have:=ai x ak;omega
 ·rw [decide_eq_false h,Bool.eq_false_iff];intro z;exact h (ni.mp z M af)
def gn (H:ah) (cb:List V) (aA:List (Int×Int)):Prop:=cb.length=aA.length /\ ∀ (k:Nat) (x:V),cb[k]?=some x -> ∃ i j e u m,aA[k]?=some (i,j)/\x=.ref e/\H e=some (.tup [.ref u,.ref m])/\H u=some (tupI (ey (fU j.toNat)))/\H m=some (tupI (chg i.toNat j.toNat))/\i_ i j=true
theorem gn.same {H H':ah} {xs:List V} {aA:List (Int×Int)} (h:gn H xs aA) (s:aC H H'):gn H' xs aA:=⟨h.1,λ k x e=>by
 obtain ⟨i,j,c,u,m,af,ai,aF,aX,bT,dn⟩:=h.2 k x e;exact ⟨i,j,c,u,m,af,ai,s _ _ aF,s _ _ aX,s _ _ bT,dn⟩⟩
theorem gn.but {H H':ah} {xs:List V} {aA:List (Int×Int)} {l:Addr} {ys:List V} (h:gn H xs aA) (au:H l=some (.lst ys)) (s:bW l H H'):gn H' xs aA:=⟨h.1,λ k x e=>by
 obtain ⟨i,j,c,u,m,af,ai,aF,aX,bT,dn⟩:=h.2 k x e;have n : ∀ {b:Addr} {zs:List V},H b=some (.tup zs)->b≠l:=λ J=>cI J au nofun
 exact ⟨i,j,c,u,m,af,ai,s _ _ (n aF) aF,s _ _ (n aX) aX,s _ _ (n bT) bT,dn⟩⟩
theorem Js (l:List Nat):vK l=(ey l).map V.int:=by
 unfold vK ey;rw [List.map_map];rfl
def ZF:bX:=λ vs H Q _ => ∃ (b:Addr) (xs:List V) (aA:List (Int×Int)),vs=[.ref b]/\H b=some (.tup xs)/\gp H xs aA/\xs.length<=1000 /\
 ∀ l H' cb,H l=none->aC H H'->H' l=some (.lst cb)->gn H' cb aA->Q (.ref l) H'
theorem Zt (T:bE K mg):c6 P w mg base cD 4 T.Kn ZF:=by
 refine T.Kn.fn.ec tr (λ vs H Q E h=>?_) (λ ba A outer s H vs Q E aq h=>?_)
 ·obtain ⟨b,xs,aA,rfl,_⟩:=h;rfl
 ·obtain ⟨b,xs,aA,rfl,J,hf,au,q⟩:=h;refine ⟨_,(aM (bN 1 tr (eL av))
   (aM (gD PassesOwn.never rfl (nj (aa 0)) (lN rfl (da (dM 2 tr) (da (dM 3 tr) fV)))
    (aM (bN 4 tr (b7 (KS T) aq bM (ae (aa 3) av)))
   (aV (hV (jG PySem.F.plainAttrs_list PySem.F.slot_list_append PySem.F.type_list_append p0 (aa 1) (ae (hx (ae (aa 4) (ae (iM rz T.gv gu (ae (f9 (fA tr (N:=["one", "other"]) (js:=[none,none]) (List.forall_mem_nil _)) rfl (nk rfl rfl T.ja (ae (b7 (KS T) aq bM (ae (aa 2) av)) (ae (aa 4) av))) (λ _ _ _ _=>(lO (K:=K) (n:=2) rfl rfl (da fC (da (kb (i:=1) (show List.Nodup (["one", "other"]:List Str) from by decide +kernel) rfl (Or.inl rfl) (Or.inr rfl)) fV)))) (λ _ _ _ _=>fW)
     (λ _ _ _ _=>(b8 jH (aa 0) (aa 1)))) av)) av))) av))))))
   (aV (bH (aa 1))))),?_⟩
  refine ⟨cg,λ t H1 f1 s1 xw=>?_⟩;refine ⟨_,rfl,b,rfl,⟨_,aR.of (s1 _ _ J)⟩,yE (xs:=xs) (λ i σ ar=>(∃ u v x:Option V,σ=[some (.ref b),some (.ref t),u,v,x])/\aC H ar /\ ∃ cb,ar t=some (.lst cb)/\gn ar cb (aA.take i)) ⟨⟨none,none,none,rfl⟩,s1,[],xw,⟨rfl,λ k x e=>by cases e⟩⟩ (λ i σ ar _ ⟨_,s2,_⟩=>aR.of (s2 _ _ J)) ?_ ?_⟩
  ·rintro k x σ ar ak ⟨⟨u,v,e3,rfl⟩,s2,cb,lD,r5⟩;obtain ⟨i,j,c,Gi,rfl,aj,f4⟩:=hf.2 k x ak;obtain ⟨⟨eA,fM⟩,⟨b0,b4⟩⟩:=D2 f4;refine ⟨c,_,rfl,aR.of (s2 _ _ aj),rfl,_,_,rfl,_,_,rfl,rfl,?_⟩;refine ⟨_,rfl,j,rfl,b0,λ z=>absurd b4 z,λ _ hJ aK s3 dh se=>?_⟩;rw [<-Lz (by omega),Js] at se;refine ⟨_,rfl,.inl ⟨rfl,_,a3.of (s3 _ _ lD)⟩,_,rfl,_,rfl,i,rfl,eA,λ z=>absurd fM z,λ _ gz bc s4 acu px=>?_⟩;rw [<-Lz (by omega),Js] at px;refine ⟨_,rfl,gz,hJ,rfl,⟨_,aR.of px⟩,⟨_,aR.of (s4 _ _ se)⟩,λ D a4=>?_⟩;refine wm (f:=λ x y=>x - y) (σ0:=[]) (xs:=ey (fU i.toNat)) (ys:=ey (fU j.toNat)) (by simp [ey,fU,dk];decide) ⟨_,_,rfl⟩ a4 px (s4 _ _ se) (λ x y H' R _ _ r=>⟨_,rfl,_,rfl,_,_,rfl,rfl,r⟩) λ bt s5 bT=>?_
   refine ⟨D,_,rfl,a3.of bT,λ m cE hZ bL A4=>?_⟩;rw [JI] at A4;refine ⟨cg,λ e cT p9 cC Gx=>?_⟩;have u9:=(((s3.trans s4).trans s5).trans bL).trans cC;have GO:cT hJ=some (tupI (ey (fU j.toNat))):=cC _ _ (bL _ _ (s5 _ _ (s4 _ _ se)));refine ⟨t,cb,.ref e,rfl,rfl,u9 _ _ lD,?_,λ e9 nJ fK=>?_⟩
   ·rw [r5.1,List.length_take,sizeLine_eq];have:=hf.1;omega
   have n : ∀ {b:Addr} {zs:List V},cT b=some (.tup zs)->b≠t:=λ J=>cI J (u9 _ _ lD) nofun
   refine ⟨⟨_,_,_,rfl⟩,?_,_,fK,?_⟩
   ·intro d o en;exact nJ d o (λ z=>by rw [z,f1] at en;cases en) (u9 _ _ (s2 _ _ en))
   ·have uy:=(r5.same u9).but (u9 _ _ lD) nJ;have oa:aA.take (k+1)=aA.take k++[(i,j)]:=by rw [List.take_add_one,Gi];rfl
    have n8:cb.length=k:=by
     rw [r5.1,List.length_take];have:=(List.getElem?_eq_some_iff.mp Gi).1;omega
    refine ⟨by rw [oa,List.length_append,List.length_append,uy.1];rfl,λ fa y du=>?_⟩;by_cases aB:fa<cb.length
    ·rw [List.getElem?_append_left aB] at du;obtain ⟨lb,ki,cN,jj,cJ,g1,g2⟩:=uy.2 fa y du;exact ⟨lb,ki,cN,jj,cJ,by rw [oa,List.getElem?_append_left (by rw [<-uy.1];exact aB)];exact g1,g2⟩
    ·rw [List.getElem?_append_right (by omega)] at du;have A0:fa - cb.length=0:=by
      have:=(List.getElem?_eq_some_iff.mp du).1;simp at this;omega
     rw [A0] at du;have N5:y=.ref e:=by simpa using du.symm
     refine ⟨i,j,e,hJ,m,?_,N5,nJ _ _ (n Gx) Gx,nJ _ _ (n GO) GO,nJ _ _ (n (cC _ _ A4)) (cC _ _ A4),f4⟩;rw [oa,List.getElem?_append_right (by rw [<-uy.1];omega),<-uy.1,A0];rfl
  ·rintro σ ar ⟨⟨u,v,e3,rfl⟩,s2,cb,lD,r5⟩;rw [hf.1,List.take_length] at r5;exact ⟨_,rfl,q t ar cb f1 s2 lD r5⟩
theorem ZP {i j:Int} (h:i_ i j=true):oR i.toNat j.toNat=true:=by
 unfold i_ at h;simp only [Bool.and_eq_true] at h;exact h.2
def aaX:bX:=λ vs H Q _ => ∃ (l b:Addr) (cb:List V) (aA:List (Int×Int)) (ag:List Int),vs=[.ref l,.ref b]/\H l=some (.lst cb)/\gn H cb aA/\H b=some (tupI ag)/\ag.length=10/\nn ag=true /\ ∀ H',aC H H'->Q (kL (c7 (rowsOf aA) ag)) H'
theorem L8 (T:bE K mg):c6 P w mg base cD 1 T.LJ aaX:=by
 refine T.LJ.fn.ec wo (λ vs H Q E h=>?_) (λ ba A outer s H vs Q E aq h=>?_)
 ·obtain ⟨l,b,cb,aA,ag,rfl,_⟩:=h;rfl
 ·obtain ⟨l,b,cb,aA,ag,rfl,au,bJ,J,eV,gB,q⟩:=h;refine ⟨_,(aM (gD PassesOwn.never rfl (Jx rfl rfl T.Lv (ae (aa 0) av)) (lN rfl (da (dM 2 wo) (da (lN rfl (da (dM 3 wo) (da (dM 4 wo) fV))) fV)))
    (aV (cM (cn Ct (bG (Xk rfl) T.vJ vC (ae (f9 (fA wo (N:=["one", "other"]) (js:=[none,none]) (List.forall_mem_nil _)) rfl (nk rfl rfl T.ja (ae (aa 1) (ae (aa 3) av))) (λ _ _ _ _=>(lO (K:=K) (n:=2) rfl rfl (da fC (da (kb (i:=1) (show List.Nodup (["one", "other"]:List Str) from by decide +kernel) rfl (Or.inl rfl) (Or.inr rfl)) fV)))) (λ _ _ _ _=>fW)
     (λ _ _ _ _=>(b8 jH (aa 0) (aa 1)))) av)) aL (bZ _))
    (aV (bH (aa 2)))
    ct)))
   (aV (bH fj))),?_⟩
  refine ⟨_,rfl,l,cb,rfl,au,?_⟩;refine JU (xs:=cb) (λ i σ ar=>(∃ u v x:Option V,σ=[some (.ref l),some (.ref b),u,v,x])/\aC H ar /\ ∀ j,j<i -> ∀ c,(rowsOf aA)[j]?=some c->eF c ag=false) ⟨⟨none,none,none,rfl⟩,aC.refl H,λ j b3=>by omega⟩ (λ i σ ar _ ⟨_,s2,_⟩=>s2 _ _ au) ?_ ?_
  ·rintro k x p σ ar ak ax ⟨⟨u,v,e3,rfl⟩,s2,fT⟩;obtain ⟨i,j,e,gi,m,f1,rfl,he,Be,hm,f4⟩:=bJ.2 k x ak;have s3:=aC.more (o:=.tup [.int (k:Int),.ref e]) s2 ax;refine ⟨p,_,rfl,aR.of bA,rfl,_,_,rfl,_,_,rfl,e,_,rfl,aR.of (s3 _ _ he),rfl,_,_,rfl,_,_,rfl,rfl,rfl,?_⟩;refine ⟨_,rfl,_,rfl,b,gi,rfl,⟨_,aR.of (s3 _ _ J)⟩,⟨_,aR.of (s3 _ _ Be)⟩,λ D a4=>?_⟩;refine wm (f:=λ x y=>x - y) (σ0:=[]) (xs:=ag) (ys:=ey (fU j.toNat)) (by rw [eV];simp [ey,fU,dk];decide) ⟨_,_,rfl⟩ a4 (s3 _ _ J) (s3 _ _ Be) (λ x y H' R _ _ r=>⟨_,rfl,_,rfl,_,_,rfl,rfl,r⟩) λ bt s5 bT=>?_
   have aj:(rowsOf aA)[k]?=some (chg i.toNat j.toNat):=by unfold rowsOf;rw [List.getElem?_map,f1];rfl
   refine ⟨D,_,rfl,a3.of bT,λ z=>?_,λ M g7 kk=>⟨_,_,rfl,rfl,_,rfl,?_⟩⟩
   ·have:=congrArg List.length z;rw [List.length_zipWith,eV] at this;simp [ey,fU,dk] at this
   have MY:=XT g7 kk;rw [<-MY,YJ (ZP f4) gB];refine eu (λ h=>?_) (λ h=>?_)
   ·have aU:=q bt (s3.trans s5);rw [yF (rowsOf aA) ag k fT (λ cN cU=>by rw [aj] at cU;cases cU;exact h) (List.getElem?_eq_some_iff.mp aj).1] at aU;exact ⟨_,rfl,aU⟩
   ·refine ⟨⟨_,_,_,rfl⟩,s3.trans s5,λ ki b3 cN cU=>?_⟩;by_cases uJ:ki=k
    ·subst uJ;rw [aj] at cU;cases cU;cases z:eF (chg i.toNat j.toNat) ag with
     | true=>exact absurd z h
     | false=>rfl
    ·exact fT ki (by omega) cN cU
  ·rintro σ ar ⟨⟨u,v,e3,rfl⟩,s2,fT⟩;have aU:=q ar s2;rw [Dt (rowsOf aA) ag λ j c e=>fT j (by rw [bJ.1,<-wh];exact (List.getElem?_eq_some_iff.mp e).1) c e] at aU;exact aU
def WS:bX:=λ vs H Q _ => ∃ (l b:Addr) (cb:List V) (aA:List (Int×Int)) (ag c:List Int) (k:Nat) (m:Int),vs=[.ref l,.ref b,.int (k:Int),.int m]/\H l=some (.lst cb)/\gn H cb aA/\H b=some (tupI ag)/\ag.length=10/\(rowsOf aA)[k]?=some c/\(-(2 ^ 64)<m/\m<2 ^ 64) /\ ∀ p H',aC H H'->H' p=some (tupI (cv ag c m))->Q (.ref p) H'
theorem Wk (T:bE K mg):c6 P w mg base cD 1 T.I7 WS:=by
 refine T.I7.fn.ec J9 (λ vs H Q E h=>?_) (λ ba A outer s H vs Q E aq h=>?_)
 ·obtain ⟨l,b,cb,aA,ag,c,k,m,rfl,_⟩:=h;rfl
 ·obtain ⟨l,b,cb,aA,ag,c,k,m,rfl,au,bJ,J,eV,aj,hm,q⟩:=h;refine ⟨_,(aV (bH (iM rz T.gv gu (ae (f9 (fA J9 (N:=["one", "other", "often"]) (js:=[none,none,some 3]) (List.forall_mem_cons.mpr ⟨rfl,(List.forall_mem_nil _)⟩)) rfl (nk rfl rfl T.ja (ae (aa 1) (ae (cS hv (cS d7 (aa 0) (aa 2) (λ _ _=>rfl)) aL (λ _ _=>rfl)) av))) (λ _ _ _ _=>(lO (K:=K) (n:=2) rfl rfl (da fC (da (kb (i:=1) (show List.Nodup (["one", "other", "often"]:List Str) from by decide +kernel) rfl (Or.inl rfl) (Or.inr rfl)) fV)))) (λ _ _ _ _=>fW)
     (λ _ _ _ _=>(b8 fG (aa 0) (b8 oN (aa 2) (aa 1))))) av)))),?_⟩
  have aB:k<cb.length:=by rw [bJ.1,<-wh];exact (List.getElem?_eq_some_iff.mp aj).1
  obtain ⟨i,j,e,gi,cJ,f1,ex,he,Be,l8,f4⟩:=bJ.2 k _ (List.getElem?_eq_getElem aB);have mO:c=chg i.toNat j.toNat:=by
   unfold rowsOf at aj;rw [List.getElem?_map,f1] at aj;exact (Option.some.inj aj).symm
  refine ⟨_,rfl,_,rfl,_,rfl,l,_,_,_,rfl,rfl,a3.of au,lL (Int.natCast_nonneg k) (by rw [Int.toNat_natCast,List.getElem?_eq_getElem aB,ex]),e,_,_,_,rfl,rfl,aR.of he,rfl,b,cJ,rfl,⟨_,aR.of J⟩,⟨_,aR.of l8⟩,λ D a4=>?_⟩;refine wm (f:=λ x y=>x+m * y) (σ0:=[some (.int m)]) (xs:=ag) (ys:=chg i.toNat j.toNat) (by rw [eV,DO];decide) ⟨_,_,rfl⟩ a4 J l8 (λ x y H' R _ _ r=>⟨_,rfl,_,rfl,_,rfl,_,_,rfl,rfl,.inl hm,_,_,rfl,rfl,r⟩) λ aK s3 aF=>?_
  refine ⟨D,_,rfl,a3.of aF,λ p bc bo s4 ax=>q p bc (s3.trans s4) ?_⟩;rw [ax,mO];rfl
def sM:V->Bool
 | .bg=>true
 | .aJ _=>true
 | .int _=>true
 | .str _=>true
 | _=>false
theorem y1 {H:ah} {v:V} (h:sM v=true):d5 H v:=by
 cases v<;>first | trivial | cases h
def Kc:bX:=λ vs H Q _ => ∃ found r2,vs=[found,r2]/\d5 H found/\sM r2=true/\Q (.aJ (decide (found=r2))) H
theorem Wo (T:bE K mg):c6 P w mg base cD 2 T.oS (λ _ _ _ _=>False):=Wn
theorem DR (T:bE K mg):c6 P w mg base cD 3 T.oS Kc:=by
 refine T.oS.fn.ec th (λ vs H Q E h=>?_) (λ ba A outer s H vs Q E aq h=>?_)
 ·obtain ⟨found,r2,rfl,_⟩:=h;rfl
 ·obtain ⟨found,r2,rfl,h1,gx,q⟩:=h;refine ⟨_,(aM (cM (cn mv (aa 1) fj (bZ _))
    (aV (bH (gE mv (aa 0) fj (bZ _))))
    ct)
   (aM (cM (ej (bG d8 T.dg df (ae (aa 1) (ae (d0 (by rfl) T.pW pV) av))))
    (aV (bH (iN (bG d8 T.dg df (ae (aa 0) (ae (d0 (by rfl) T.pW pV) av))) (ik (gE eJ (aa 0) (aa 1) (bZ _))))))
    ct)
   (aM (cM (ej (bG d8 T.dg df (ae (aa 1) (ae (d0 (by rfl) T.sJ sF) av))))
    (aV (bH (iN (b7 (y7 T) aq bM (ae (aa 0) av)) (ik (gE eJ (aa 0) (aa 1) (bZ _))))))
    ct)
   (aM (cM (ej (bG d8 T.dg df (ae (aa 1) (ae (d0 (by rfl) T.nd nc) av))))
    (aV (bH (iN (bG d8 T.dg df (ae (aa 0) (ae (d0 (by rfl) T.nd nc) av))) (ik (gE eJ (aa 0) (aa 1) (bZ _))))))
    ct)
   (aM (cM (ez.pt (gr (cn jF (bG d8 T.dg df (ae (aa 1) (ae (d0 (by rfl) T.gv gu) av))) (bG d8 T.dg df (ae (aa 0) (ae (d0 (by rfl) T.gv gu) av))) (bZ _)) (hT (cn jF (bG d8 T.dg df (ae (aa 1) (ae (d0 (by rfl) T.q_ q9) av))) (bG d8 T.dg df (ae (aa 0) (ae (d0 (by rfl) T.q_ q9) av))) (bZ _)))))
    (aV (bH gX))
    ct)
   (aV (bH (iN (gE eJ (bG gG T.fi fh (ae (aa 0) av)) (bG gG T.fi fh (ae (aa 1) av)) (bZ _)) (ik (bG (oT rfl) T.oH oE (ae (f9 (fA th (N:=["one", "other"]) (js:=[none,none]) (List.forall_mem_nil _)) rfl (nk rfl rfl T.ja (ae (aa 0) (ae (aa 1) av))) (λ _ _ _ _=>(lO (K:=K) (n:=2) rfl rfl (da fC (da (kb (i:=1) (show List.Nodup (["one", "other"]:List Str) from by decide +kernel) rfl (Or.inl rfl) (Or.inr rfl)) fV)))) (λ _ _ _ _=>fW)
     (λ _ _ _ _=>(b7 (Wo T) aq bM (ae (aa 0) (ae (aa 1) av))))) av))))))))))),?_⟩
  refine ⟨_,rfl,rfl,_,rfl,?_⟩;obtain ⟨bk,qW,ed⟩:=sI (K:=K) (H:=H) (y1 (H:=H) gx);obtain ⟨gy,so,mE⟩:=vG (K:=K) (H:=H) (y1 (H:=H) gx);obtain ⟨cb,tys,ao⟩:=oG (K:=K) (H:=H) (y1 (H:=H) gx);obtain ⟨rJ,Oa,N6⟩:=sI (K:=K) h1;obtain ⟨aA,Ob,N7⟩:=oG (K:=K) h1;cases r2 with
  | bg=>exact cm ⟨_,rfl,rfl,q⟩
  | aJ b =>
   refine bx ⟨_,rfl,_, "bool", bk,_,rfl,qW,ed,_,rfl,cm ?_⟩;refine ⟨_,rfl,_, "bool", rJ,_,rfl,Oa,N6,_,rfl,?_⟩;cases found with
   | aJ c=>exact cm ⟨_,rfl,_,rfl,rfl,q⟩
   | bg=>exact bx q
   | int i=>exact bx q
   | str x=>exact bx q
   | ref a=>exact bx q
   | iB _=>exact False.elim h1
   | hi _=>exact False.elim h1
   | ty _=>exact False.elim h1
  | int i =>
   refine bx ⟨_,rfl,_, "bool", bk,_,rfl,qW,ed,_,rfl,bx ?_⟩;refine ⟨_,rfl,_, "int", gy,_,rfl,so,mE,_,rfl,cm ?_⟩;refine ⟨_,rfl,found,rfl,h1,_,rfl,?_⟩;cases found with
   | int j=>exact cm ⟨_,rfl,_,rfl,rfl,q⟩
   | bg=>exact bx q
   | aJ i=>exact bx q
   | str x=>exact bx q
   | ref a=>exact bx q
   | iB _=>exact False.elim h1
   | hi _=>exact False.elim h1
   | ty _=>exact False.elim h1
  | str x =>
   refine bx ⟨_,rfl,_, "bool", bk,_,rfl,qW,ed,_,rfl,bx ?_⟩;refine ⟨_,rfl,_, "int", gy,_,rfl,so,mE,_,rfl,bx ?_⟩;refine ⟨_,rfl,_, "str", cb,_,rfl,tys,ao,_,rfl,cm ?_⟩;refine ⟨_,rfl,_, "str", aA,_,rfl,Ob,N7,_,rfl,?_⟩;cases found with
   | str y=>exact cm ⟨_,rfl,_,rfl,rfl,q⟩
   | bg=>exact bx q
   | aJ i=>exact bx q
   | int x=>exact bx q
   | ref a=>exact bx q
   | iB _=>exact False.elim h1
   | hi _=>exact False.elim h1
   | ty _=>exact False.elim h1
  | _=>cases gx
def yo:List V->List V->Bool
 | [],[]=>true
 | x::xs,y::ys=>decide (x=y)&&yo xs ys
 | _,_=>false
theorem Di : ∀ xs ys:List V,yo xs ys=decide (xs=ys)
 | [],[]=>rfl
 | [],_::_=>rfl
 | _::_,[]=>rfl
 | x::xs,y::ys=>by
  show (decide (x=y)&&yo xs ys)=_;rw [Di xs ys];by_cases af:x=y
  ·by_cases ai:xs=ys
   ·rw [af,ai];simp
   ·rw [decide_eq_false ai,Bool.and_false,decide_eq_false];intro z;injection z with _ z;exact ai z
  ·rw [decide_eq_false af,Bool.false_and,decide_eq_false];intro z;injection z with z _;exact af z
theorem I_ : ∀ (xs ys:List V),xs.length=ys.length->((xs.zip ys).map λ p=>decide (p.1=p.2)).all id=decide (xs=ys)
 | [],[],_=>rfl
 | [],_::_,h=>by cases h
 | _::_,[],h=>by cases h
 | x::xs,y::ys,h=>by
  rw [<-Di];show (decide (x=y)&&((xs.zip ys).map λ p=>decide (p.1=p.2)).all id)=(decide (x=y)&&yo xs ys);rw [I_ xs ys (by simpa using h),Di]
def Kd:bX:=λ vs H Q _ => ∃ (found:V) (b:Addr) (ys:List V),vs=[found,.ref b]/\dK H found/\H b=some (.tup ys)/\ys.length<=1000/\(∀ y∈ys,sM y=true) /\ ∀ H',aC H H'->Q (.aJ (decide (er H found=some ys))) H'
theorem Zr (T:bE K mg):c6 P w mg base cD 4 T.oS Kd:=by
 refine T.oS.fn.ec th (λ vs H Q E h=>?_) (λ ba A outer s H vs Q E aq h=>?_)
 ·obtain ⟨found,b,ys,rfl,_⟩:=h;rfl
 ·obtain ⟨found,b,ys,rfl,⟨h1,P9⟩,J,h9,PO,q⟩:=h;refine ⟨_,(aM (cM (cn mv (aa 1) fj (bZ _))
    (aV (bH (gE mv (aa 0) fj (bZ _))))
    ct)
   (aM (cM (ej (bG d8 T.dg df (ae (aa 1) (ae (d0 (by rfl) T.pW pV) av))))
    (aV (bH (iN (bG d8 T.dg df (ae (aa 0) (ae (d0 (by rfl) T.pW pV) av))) (ik (gE eJ (aa 0) (aa 1) (bZ _))))))
    ct)
   (aM (cM (ej (bG d8 T.dg df (ae (aa 1) (ae (d0 (by rfl) T.sJ sF) av))))
    (aV (bH (iN (b7 (y7 T) aq bM (ae (aa 0) av)) (ik (gE eJ (aa 0) (aa 1) (bZ _))))))
    ct)
   (aM (cM (ej (bG d8 T.dg df (ae (aa 1) (ae (d0 (by rfl) T.nd nc) av))))
    (aV (bH (iN (bG d8 T.dg df (ae (aa 0) (ae (d0 (by rfl) T.nd nc) av))) (ik (gE eJ (aa 0) (aa 1) (bZ _))))))
    ct)
   (aM (cM (ez.pt (gr (cn jF (bG d8 T.dg df (ae (aa 1) (ae (d0 (by rfl) T.gv gu) av))) (bG d8 T.dg df (ae (aa 0) (ae (d0 (by rfl) T.gv gu) av))) (bZ _)) (hT (cn jF (bG d8 T.dg df (ae (aa 1) (ae (d0 (by rfl) T.q_ q9) av))) (bG d8 T.dg df (ae (aa 0) (ae (d0 (by rfl) T.q_ q9) av))) (bZ _)))))
    (aV (bH gX))
    ct)
   (aV (bH (iN (gE eJ (bG gG T.fi fh (ae (aa 0) av)) (bG gG T.fi fh (ae (aa 1) av)) (bZ _)) (ik (bG (oT rfl) T.oH oE (ae (f9 (fA th (N:=["one", "other"]) (js:=[none,none]) (List.forall_mem_nil _)) rfl (nk rfl rfl T.ja (ae (aa 0) (ae (aa 1) av))) (λ _ _ _ _=>(lO (K:=K) (n:=2) rfl rfl (da fC (da (kb (i:=1) (show List.Nodup (["one", "other"]:List Str) from by decide +kernel) rfl (Or.inl rfl) (Or.inr rfl)) fV)))) (λ _ _ _ _=>fW)
     (λ _ _ _ _=>(b7 (DR T) aq bM (ae (aa 0) (ae (aa 1) av))))) av))))))))))),?_⟩
  have kj:d5 H (.ref b):=yQ J;obtain ⟨bk,qW,ed⟩:=sI (K:=K) kj;obtain ⟨gy,so,mE⟩:=vG (K:=K) kj;obtain ⟨cb,tys,ao⟩:=oG (K:=K) kj;obtain ⟨tt,BM,zG⟩:=pQ (K:=K) kj;obtain ⟨ck,BL,k9⟩:=yk (K:=K) kj;obtain ⟨zI,Ay,Av⟩:=pQ (K:=K) h1;obtain ⟨cW,Ax,Au⟩:=yk (K:=K) h1;have MZ:er H (.ref b)=some ys:=oQ J;have zF:uV H (.ref b)=false:=by show pK (H b)=false;rw [J];rfl
  refine ⟨_,rfl,rfl,_,rfl,bx ?_⟩;refine ⟨_,rfl,_, "bool", bk,_,rfl,qW,ed,_,rfl,bx ?_⟩;refine ⟨_,rfl,_, "int", gy,_,rfl,so,mE,_,rfl,bx ?_⟩;refine ⟨_,rfl,_, "str", cb,_,rfl,tys,ao,_,rfl,bx ?_⟩;refine ⟨_,rfl,_, "tuple", tt,_,rfl,BM,zG,_,rfl,_, "tuple", zI,_,rfl,Ay,Av,rfl,_,rfl,?_⟩;rw [MZ];cases bJ:er H found with
  | none =>
   refine cm (cm ?_);have aU:=q H (aC.refl H);rw [bJ] at aU;exact aU
  | some xs =>
   obtain ⟨a,rfl,aw⟩:=rk bJ;obtain ⟨PM,PL⟩:=P9 xs bJ;have zH:uV H (.ref a)=false:=by show pK (H a)=false;rw [aw];rfl
   refine bx ⟨_,rfl,_, "list", ck,_,rfl,BL,k9,_,rfl,_, "list", cW,_,rfl,Ax,Au,rfl,_,rfl,?_⟩;rw [zF,zH];refine bx ?_;refine ⟨_,rfl,a,xs,rfl,.inr (aR.of aw),_,rfl,b,ys,rfl,.inr (aR.of J),rfl,_,rfl,?_⟩;by_cases hle:xs.length=ys.length
   ·rw [show decide (V.int ((xs.length:Nat):Int)=V.int ((ys.length:Nat):Int))=true by rw [hle];simp];refine cm ?_;refine ⟨_,rfl,_,rfl,a,b,rfl,⟨_,aR.of aw⟩,⟨_,aR.of J⟩,λ D a4=>?_⟩;refine JS (K:=K) (a:=a) (b:=b) (xs:=xs) (ys:=ys) (by rw [sizeLine_eq];omega) (λ i σ' H' zs=>(∃ u v:Option V,σ'=[u,v])/\aC H H'/\zs=(((xs.zip ys).take i).map λ p=>decide (p.1=p.2)).map V.aJ) ⟨⟨_,_,rfl⟩,aC.new a4,rfl⟩ (λ i σ' H' zs _ ⟨_,s',_⟩=>⟨aR.of (s' _ _ aw),aR.of (s' _ _ J)⟩) ?_ ?_
    ·rintro i x y p σ' H' zs R ak aN ax c2 hn ⟨⟨u,v,rfl⟩,s',rfl⟩ fb;refine ⟨p,_,rfl,aR.of bA,rfl,_,_,rfl,_,_,rfl,rfl,?_⟩;have sp:aC H (upd H' p (.tup [x,y])):=aC.more s' ax;refine ⟨_,rfl,_,rfl,x,y,rfl,aC.kind sp (PL x (List.mem_of_getElem? ak)),PO y (List.mem_of_getElem? aN),?_⟩;refine fb _ _ _ ?_ ⟨⟨_,_,rfl⟩,?_,?_⟩
     ·rw [a8 (cj c2 ax)];exact c2
     ·intro c o e;rw [a8 (cj e a4)];exact sp c o e
     ·have a9:(xs.zip ys)[i]?=some (x,y):=by
       rw [List.getElem?_zip_eq_some];exact ⟨ak,aN⟩
      rw [wq a9,List.map_append];rfl
    ·rintro σ' H' zs c2 hn ⟨_,s',rfl⟩;refine ⟨D,_,rfl,a3.of c2,?_⟩;have aO:(xs.zip ys).take (min xs.length ys.length)=xs.zip ys:=List.take_of_length_le (by rw [List.length_zip];exact Nat.le_refl _);rw [aO,I_ xs ys hle];have aU:=q H' s';rw [bJ] at aU;have aQ:decide (some xs=some ys)=decide (xs=ys):=by
      by_cases z:xs=ys
      ·rw [z];simp
      ·rw [decide_eq_false z,decide_eq_false];intro y;injection y with y;exact z y
     rw [aQ] at aU;exact aU
   ·rw [show decide (V.int ((xs.length:Nat):Int)=V.int ((ys.length:Nat):Int))=false from decide_eq_false (λ z=>hle (by injection z with z;omega))];refine bx ?_;have aU:=q H (aC.refl H);rw [bJ,decide_eq_false (λ z=>hle (by injection z with z;rw [z]))] at aU;exact aU
def KX:bX:=λ vs H Q E=>Kc vs H Q E\/Kd vs H Q E
theorem KU (T:bE K mg):c6 P w mg base cD 4 T.oS KX:=dU.or ((DR T).mono (by decide)) (Zr T)
def y0:List Str:=["rest", "deed", "name", "number", "order", "powers", "program", "row", "text", "trail", "shared", "many"]
structure vO (T:bE K mg) (C:Addr) (i:Nat):Prop where
 fy:PySem.W.kG K C
 NG:PySem.W.kitOne K (.ref C) (.type "ValueError")=some true
 k0:PySem.W.kitOne K (.ref C) (.ref T.eY)=some (i == 0)
 k1:PySem.W.kitOne K (.ref C) (.ref T.fD)=some (i == 1)
 k2:PySem.W.kitOne K (.ref C) (.ref T.eP)=some (i == 2)
 k3:PySem.W.kitOne K (.ref C) (.ref T.rv)=some (i == 3)
 mF:PySem.W.kitOne K (.ref C) (.ref T.rp)=some (i == 4)
 k5:PySem.W.kitOne K (.ref C) (.ref T.fE)=some (i == 5)
 zN:PySem.W.kitOne K (.ref C) (.ref T.rx)=some (i == 6)
 lg:PySem.W.kitOne K (.ref C) (.ref T.rd)=some (i == 7)
 Nd:PySem.W.kitOne K (.ref C) (.ref T.ri)=some (i == 8)
 Nf:PySem.W.kitOne K (.ref C) (.ref T.rq)=some (i == 9)
 P6:PySem.W.kitOne K (.ref C) (.ref T.rj)=some (i == 10)
 P7:PySem.W.kitOne K (.ref C) (.ref T.rr)=some (i == 11)
abbrev rb (i:Nat):List Bool:=[i == 0,i == 1,i == 2,i == 3,i == 4,i == 5,i == 6,i == 7,i == 8,i == 9,i == 10,i == 11]
theorem aax : ∀ i,i<12->(rb i).count true=1:=by decide
theorem YG : ∀ i,i<12->(rb i)[i]?=some true:=by decide
theorem aaw : ∀ i,i<12 -> ∀ m,m<i->(rb i)[m]?=some (!true):=by decide
def aas (T:bE K mg):bX:=λ vs H Q _ => ∃ (e C:Addr) (i:Nat) (x:Str),vs=[.ref e]/\H e=some (kJ e C none)/\vO T C i/\i<12/\y0[i]?=some x /\ ∀ H',aC H H'->Q (.str x) H'
theorem aaI (T:bE K mg):Ck P w K mg base 1 T.tu.f T.tu.fd ["e"] (aas T):=by
 refine T.tu.fn.QA tB (λ vs H Q E h=>?_) (λ ba A outer s H vs Q E aq h=>?_)
 ·obtain ⟨e,C,i,x,rfl,_⟩:=h;rfl
 ·obtain ⟨e,C,i,x,rfl,he,k,ay,ak,q⟩:=h;refine ⟨_,(aM (bN 1 tB (eL (ae (bG kW T.dg df (ae (aa 0) (ae (jc (v:=.ref T.eY) (by rfl) T.V2 rfl) av))) (ae (bG kW T.dg df (ae (aa 0) (ae (jc (v:=.ref T.fD) (by rfl) T.V3 rfl) av))) (ae (bG kW T.dg df (ae (aa 0) (ae (jc (v:=.ref T.eP) (by rfl) T.V4 rfl) av))) (ae (bG kW T.dg df (ae (aa 0) (ae (jc (v:=.ref T.rv) (by rfl) T.Y_ rfl) av))) av))))))
   (aM (bN 1 tB (b8 vY (aa 1) (eL (ae (bG kW T.dg df (ae (aa 0) (ae (jc (v:=.ref T.rp) (by rfl) T.Xy rfl) av))) (ae (bG kW T.dg df (ae (aa 0) (ae (jc (v:=.ref T.fE) (by rfl) T.Za rfl) av))) (ae (bG kW T.dg df (ae (aa 0) (ae (jc (v:=.ref T.rx) (by rfl) T.ZQ rfl) av))) (ae (bG kW T.dg df (ae (aa 0) (ae (jc (v:=.ref T.rd) (by rfl) T.Up rfl) av))) av)))))))
   (aM (bN 1 tB (b8 vY (aa 1) (eL (ae (bG kW T.dg df (ae (aa 0) (ae (jc (v:=.ref T.ri) (by rfl) T.V5 rfl) av))) (ae (bG kW T.dg df (ae (aa 0) (ae (jc (v:=.ref T.rq) (by rfl) T.Xz rfl) av))) (ae (bG kW T.dg df (ae (aa 0) (ae (jc (v:=.ref T.rj) (by rfl) T.V6 rfl) av))) (ae (bG kW T.dg df (ae (aa 0) (ae (jc (v:=.ref T.rr) (by rfl) T.XA rfl) av))) av)))))))
   (aM (cM (ez.pt (gr (cn jF (jG PySem.F.plainAttrs_list PySem.F.slot_list_count PySem.F.type_list_count XN (aa 1) (ae gX av)) aL (bZ _)) (hT (gs (ej (bG kW T.dg df (ae (aa 0) (ae (d0 (by rfl) T.aag Z6) av))))))))
    (aV (bH dq))
    ct)
   (aM (bN 2 tB (eL (ae dq (ae dq (ae dq (ae dq (ae dq (ae dq (ae dq (ae dq av))))))))))
   (aM (bN 2 tB (b8 vY (aa 2) (eL (ae dq (ae dq (ae dq (ae dq av)))))))
   (aV (bH (cS d7 (aa 2) (jG PySem.F.plainAttrs_list PySem.F.slot_list_index PySem.F.type_list_index XO (aa 1) (ae gX av)) (λ _ _=>rfl)))))))))),?_⟩
  have fy:=k.fy;refine ⟨_,rfl,e,C,_,_,_,rfl,he,rfl,fy,k.k0,_,rfl,e,C,_,_,_,rfl,he,rfl,fy,k.k1,_,rfl,e,C,_,_,_,rfl,he,rfl,fy,k.k2,_,rfl,e,C,_,_,_,rfl,he,rfl,fy,k.k3,cg,λ cQ H1 f1 s1 gR=>?_⟩;have pn:=s1 _ _ he;refine ⟨_,rfl,_,rfl,e,C,_,_,_,rfl,pn,rfl,fy,k.mF,_,rfl,e,C,_,_,_,rfl,pn,rfl,fy,k.k5,_,rfl,e,C,_,_,_,rfl,pn,rfl,fy,k.zN,_,rfl,e,C,_,_,_,rfl,pn,rfl,fy,k.lg,cg,λ e0 ar f2 s2 fg=>⟨cQ,e0,_,_,rfl,rfl,s2 _ _ gR,fg,cg,λ lh aK dh s3 lB=>?_⟩⟩;have qA:=s3 _ _ (s2 _ _ pn);refine ⟨_,rfl,_,rfl,e,C,_,_,_,rfl,qA,rfl,fy,k.Nd,_,rfl,e,C,_,_,_,rfl,qA,rfl,fy,k.Nf,_,rfl,e,C,_,_,_,rfl,qA,rfl,fy,k.P6,_,rfl,e,C,_,_,_,rfl,qA,rfl,fy,k.P7,cg,λ nP bc f4 s4 qC=>⟨lh,nP,_,_,rfl,rfl,s4 _ _ lB,qC,cg,λ tY bt d_ s5 GA=>?_⟩⟩;have AQ:=s5 _ _ (s4 _ _ qA);have au:bt tY=some (.lst ((rb i).map V.aJ)):=GA;refine ⟨_,rfl,.inl ⟨rfl,_,a3.of au⟩,tY,rb i,true,rfl,rfl,au,rfl,_,rfl,So (by rw [aax i ay];rfl) ?_⟩;refine ⟨_,rfl,e,C,_,_,_,rfl,AQ,rfl,fy,k.NG,_,rfl,bx ?_⟩;refine ⟨cg,λ hJ cE hZ bL Bg=>?_⟩;refine ⟨_,rfl,cg,λ gz cT p9 cC sd=>⟨hJ,gz,_,_,rfl,rfl,cC _ _ Bg,sd,cg,λ lq e9 f8 cH se=>?_⟩⟩;have xp:e9 tY=some (.lst ((rb i).map V.aJ)):=cH _ _ (cC _ _ (bL _ _ au));have hw:e9 lq=some (.lst (y0.map V.str)):=se;have kq:(y0.map V.str)[i]?=some (.str x):=by rw [List.getElem?_map,ak];rfl
  exact ⟨_,rfl,_,rfl,.inl ⟨rfl,_,a3.of xp⟩,tY,rb i,true,i,rfl,rfl,xp,YG i ay,aaw i ay,(by show 12<=1000;decide),lq,_,_,_,rfl,rfl,a3.of hw,Jb kq,q e9 (((((((s1.trans s2).trans s3).trans s4).trans s5).trans bL).trans cC).trans cH)⟩
theorem XF (T:bE K mg):vO T T.eP 2:=⟨T.VI,T.VG,T.EP,T.ER,T.abi,T.Fc,T.E2,T.Fd,T.Fl,T.EE,T.ES,T.E3,T.ET,T.E4⟩
theorem ZR (T:bE K mg):vO T T.fE 5:=⟨T.YT,T.YS,T.Fe,T.Ff,T.Fg,T.Fq,T.Fm,T.abA,T.Fs,T.E5,T.Fh,T.Fn,T.Fi,T.Fo⟩
theorem XE (T:bE K mg):vO T T.fD 1:=⟨T.VH,T.VF,T.EL,T.abh,T.EM,T.E_,T.EZ,T.Fb,T.Fj,T.ED,T.EN,T.E0,T.EO,T.E1⟩
end
def kP (c:Nat):Bool:=decide (97<=c/\c<=122)
theorem lets (c:Nat):decide (c∈(("abcdefghijklmnopqrstuvwxyz" : String):Str).cps.toList)=kP c:=by
 have e:(("abcdefghijklmnopqrstuvwxyz" : String):Str).cps.toList=List.range' 97 26:=by decide +kernel
 rw [e];unfold kP;exact decide_eq_decide.mpr (List.mem_range'_1.trans ⟨λ h=>⟨h.1,by omega⟩,λ h=>⟨h.1,by omega⟩⟩)
theorem JA (x:Str) (t:Nat->Bool):(((List.range x.cps.size).map λ i=>t (x.cps.getD i 0)).all id)=(e6 x).all t:=by
 have e:e6 x=(List.range x.cps.size).map λ i=>x.cps.getD i 0:=by
  apply List.ext_getElem?;intro i;rcases Nat.lt_or_ge i x.cps.size with h | h
  ·rw [List.getElem?_map,List.getElem?_range h];simp [e6,h]
  ·rw [List.getElem?_eq_none (by show x.cps.toList.length<=i;rw [Array.length_toList];exact h),List.getElem?_eq_none (by rw [List.length_map,List.length_range];exact h)]
 rw [e,List.all_map,List.all_map];rfl
section
variable {P:Program} {w:World} {K:PySem.W.Frag} {mg:Str->Option Value} {base:Heap}
def oK:V->Bool
 | .int i=>ij i
 | _=>false
def ZA:bX:=λ vs H Q _ => ∃ v,vs=[v]/\d5 H v/\Q (.aJ (oK v)) H
theorem La (T:bE K mg):c6 P w mg base cD 2 T.Kl ZA:=by
 refine T.Kl.fn.ec Zw (λ vs H Q E h=>?_) (λ ba A outer s H vs Q E aq h=>?_)
 ·obtain ⟨v,rfl,_⟩:=h;rfl
 ·obtain ⟨v,rfl,k,q⟩:=h;refine ⟨_,(aM (cM (ez.pt (gr (gs (ej (b7 (Ly T) aq bM (ae (aa 0) av)))) (gr (cn lJ (aa 0) aL (bZ _)) (hT (cn mn (aa 0) (rm (by rfl) T.D3) (bZ _))))))
    (aV (bH gX))
    ct)
   (aV (bH (gE eJ (b7 (abx T) aq bM (ae (aa 0) av)) aL (bZ _))))),?_⟩
  refine ⟨_,rfl,v,rfl,k,_,rfl,?_⟩;cases hw:sf v with
  | false =>
   refine cm (cm ?_);have e:oK v=false:=by cases v<;>first | rfl | cases hw
   rw [e] at q;exact q
  | true =>
   obtain ⟨i,rfl⟩:=CR hw;refine bx ⟨_,rfl,_,_,rfl,rfl,_,rfl,eu (λ h=>?_) (λ h=>⟨_,rfl,_,_,rfl,rfl,_,rfl,eu (λ h'=>?_) (λ h'=>?_)⟩)⟩
   ·have af:i<1:=of_decide_eq_true h;have e:oK (.int i)=false:=by
     show (decide (1<=i)&&decide (i<=1000000000000)&&decide (iq i.toNat=1))=false;rw [decide_eq_false (by omega : ¬ 1<=i)];rfl
    rw [e] at q;exact cm q
   ·have af:1000000000000<i:=of_decide_eq_true h';have e:oK (.int i)=false:=by
     show (decide (1<=i)&&decide (i<=1000000000000)&&decide (iq i.toNat=1))=false;rw [decide_eq_false (by omega : ¬ i<=1000000000000),Bool.and_false];rfl
    rw [e] at q;exact q
   ·have af : ¬ i<1:=λ z=>h (decide_eq_true z)
    have ai : ¬ 1000000000000<i:=λ z=>h' (decide_eq_true z)
    refine ⟨_,rfl,i,rfl,by omega,rfl,?_⟩;have e:oK (.int i)=decide (V.int (iq i.toNat:Nat)=V.int 1):=by
     show (decide (1<=i)&&decide (i<=1000000000000)&&decide (iq i.toNat=1))=_;rw [decide_eq_true (by omega:1<=i),decide_eq_true (by omega:i<=1000000000000),Bool.and_self,Bool.true_and];by_cases z:iq i.toNat=1
     ·rw [z];rfl
     ·rw [decide_eq_false z,decide_eq_false];intro y;injection y with y;omega
    rw [e] at q;exact q
def hS (H:ah) (v:V):Bool:=match er H v with
 | some [.int i,.int j]=>i_ i j
 | _=>false
theorem YW (i j:Nat):((f7.map λ v=>match v with | .int p=>V.aJ ((!decide (V.int ((i:Int) % p)=V.int 0)) || !decide (V.int ((j:Int) % p)=V.int 0)) | v=>v))=(dk.map λ p=>(i % p != 0||j % p != 0)).map V.aJ:=by
 have e : ∀ (a p:Nat),(!decide (V.int ((a:Int) % (p:Int))=V.int 0))=(a % p != 0):=by
  intro a p;by_cases z:a % p=0
  ·have:(a:Int) % (p:Int)=0:=by omega
   rw [this,z];rfl
  ·have:(a:Int) % (p:Int)≠0:=by omega
   rw [decide_eq_false (λ y=>this (by injection y))];have:(a % p != 0)=true:=by simpa using z
   rw [this];rfl
 have aQ:f7=dk.map λ p=>V.int ((p:Nat):Int):=rfl
 rw [aQ,List.map_map,List.map_map];refine List.map_congr_left λ p _=>?_
 show V.aJ ((!decide (V.int ((i:Int) % (p:Int))=V.int 0)) || !decide (V.int ((j:Int) % (p:Int))=V.int 0))=V.aJ (i % p != 0||j % p != 0);rw [e,e]
def aa_:bX:=λ vs H Q _ => ∃ v,vs=[v]/\dK H v /\ ∀ H',aC H H'->Q (.aJ (hS H v)) H'
theorem aa6 (T:bE K mg):c6 P w mg base cD 3 T.L1 aa_:=by
 refine T.L1.fn.ec zk (λ vs H Q E h=>?_) (λ ba A outer s H vs Q E aq h=>?_)
 ·obtain ⟨v,rfl,_⟩:=h;rfl
 ·obtain ⟨v,rfl,⟨k,a_⟩,q⟩:=h;refine ⟨_,(aM (cM (ez.pt (gr (gs (ej (bG d8 T.dg df (ae (aa 0) (ae (d0 (by rfl) T.gv gu) av))))) (hT (cn jF (bG gG T.fi fh (ae (aa 0) av)) aL (bZ _)))))
    (aV (bH gX))
    ct)
   (aM (yx (i:=1) zk.cX rfl (Or.inr rfl) (cS hv (aa 0) aL (λ _ _=>rfl)))
   (aM (yx (i:=2) zk.cX rfl (Or.inr rfl) (cS hv (aa 0) aL (λ _ _=>rfl)))
   (aM (cM (ez.pt (gr (gs (ej (b7 (La T) aq bM (ae (aa 1) av)))) (hT (gs (ej (b7 (La T) aq bM (ae (aa 2) av)))))))
    (aV (bH gX))
    ct)
   (aV (bH (bG (oT rfl) T.oH oE (ae (f9 (fA zk (N:=["prime", "top", "bottom"]) (js:=[none,some 1,some 2]) (List.forall_mem_cons.mpr ⟨rfl,(List.forall_mem_cons.mpr ⟨rfl,(List.forall_mem_nil _)⟩)⟩)) rfl (nj (jc (v:=.ref T.nA) (by rfl) T.s6 rfl)) (λ _ _ _ _=>fC) (λ _ _ _ _=>fW)
     (λ _ _ _ _=>(SE (gE jF (b8 oM (aa 1) (aa 0)) aL (bZ _)) (ik (gE jF (b8 oM (aa 2) (aa 0)) aL (bZ _)))))) av)))))))),?_⟩
  obtain ⟨t,ty,e⟩:=pQ (K:=K) k;refine ⟨_,rfl,v, "tuple", t,_,rfl,ty,e,_,rfl,?_⟩;cases bJ:er H v with
  | none =>
   refine cm (cm ?_);have aU:=q H (aC.refl H);rw [show hS H v=false by unfold hS;rw [bJ]] at aU;exact aU
  | some xs =>
   obtain ⟨a,rfl,aw⟩:=rk bJ;obtain ⟨au,aB⟩:=a_ xs bJ;refine bx ⟨_,rfl,a,xs,rfl,.inr (aR.of aw),rfl,_,rfl,eu (λ h=>?_) (λ h=>?_)⟩
   ·have aU:=q H (aC.refl H);have aQ:xs.length≠2:=λ z=>by
     rw [z] at h;exact absurd h (by decide)
    rw [show hS H (.ref a)=false by
     unfold hS;rw [bJ];split
     ·rename_i i j z;cases z;exact absurd rfl aQ
     ·rfl] at aU
    exact aU
   ·have aQ:xs.length=2:=by
     have h':decide (V.int (xs.length:Int)=V.int 2)=true:=by
      cases z:decide (V.int (xs.length:Int)=V.int 2) with
      | true=>rfl
      | false=>rw [z] at h;exact absurd rfl h
     have:=sV h';omega
    match xs,aQ,bJ,aw,aB with
    | [x,y],_,bJ,aw,aB =>
     have gg:d5 H x:=aB x (by simp);have Nh:d5 H y:=aB y (by simp);refine ⟨_,rfl,a,_,_,x,rfl,rfl,aR.of aw,rfl,?_⟩;refine ⟨_,rfl,a,_,_,y,rfl,rfl,aR.of aw,rfl,?_⟩;have FK : ∀ {b:Bool},oK x=false\/oK y=false->hS H (.ref a)=false:=by
      intro _ z;unfold hS;rw [bJ];split
      ·rename_i i j e4;cases e4;show (ij i&&ij j&&oR i.toNat j.toNat)=false;rcases z with z | z
       ·rw [show ij i=false from z];rfl
       ·rw [show ij j=false from z,Bool.and_false];rfl
      ·rfl
     refine ⟨_,rfl,x,rfl,gg,_,rfl,?_⟩;cases z2:oK x with
     | false =>
      refine cm (cm ?_);have aU:=q H (aC.refl H);rw [FK (b:=true) (.inl z2)] at aU;exact aU
     | true =>
      refine bx ⟨_,rfl,y,rfl,Nh,_,rfl,?_⟩;cases aT:oK y with
      | false =>
       refine cm ?_;have aU:=q H (aC.refl H);rw [FK (b:=true) (.inr aT)] at aU;exact aU
      | true =>
       refine bx ?_;obtain ⟨i,rfl⟩ : ∃ i,x=.int i:=by cases x<;>first | exact ⟨_,rfl⟩ | cases z2
       obtain ⟨j,rfl⟩ : ∃ j,y=.int j:=by cases y<;>first | exact ⟨_,rfl⟩ | cases aT
       have qh:ij i=true:=z2;have kA:ij j=true:=aT;have eA:1<=i:=by
        unfold ij at qh;simp only [Bool.and_eq_true,decide_eq_true_eq] at qh;exact qh.1.1
       have b0:1<=j:=by
        unfold ij at kA;simp only [Bool.and_eq_true,decide_eq_true_eq] at kA;exact kA.1.1
       refine ⟨T.nA,rfl,⟨f7,T.ro H⟩,λ D a4=>LM (xs:=f7) (f:=λ v=>match v with | .int p=>V.aJ ((!decide (V.int ((i.toNat:Int) % p)=V.int 0)) || !decide (V.int ((j.toNat:Int) % p)=V.int 0)) | v=>v) rfl (by decide) a4 (T.ro H) ?_ ?_⟩
       ·intro x H' R ak r;obtain ⟨z,a9⟩:=List.getElem?_of_mem ak;obtain ⟨p,rfl,ax,q1⟩:=tw a9;have hk:2<=p:=kS p (List.mem_of_getElem? ax);have mE:((i.toNat:Nat):Int)=i:=Int.toNat_of_nonneg (by omega);have M1:((j.toNat:Nat):Int)=j:=Int.toNat_of_nonneg (by omega);have bB:R (V.aJ ((!decide (V.int (i % (p:Int))=V.int 0)) || !decide (V.int (j % (p:Int))=V.int 0))) H':=by
         have b5:R (V.aJ ((!decide (V.int ((i.toNat:Int) % (p:Int))=V.int 0)) || !decide (V.int ((j.toNat:Int) % (p:Int))=V.int 0))) H':=r;rw [mE,M1] at b5;exact b5
        refine ⟨_,rfl,_,rfl,_,_,rfl,rfl,(by show (0:Int)<p;omega),rfl,_,rfl,?_⟩;cases z:decide (V.int (i % (p:Int))=V.int 0) with
        | false =>
         rw [z] at bB;exact cm bB
        | true =>
         rw [z] at bB;exact bx ⟨_,rfl,_,rfl,_,_,rfl,rfl,(by show (0:Int)<p;omega),rfl,bB⟩
       ·rw [YW];refine ⟨D,_,rfl,a3.of bA,?_⟩;have el:hS H (.ref a)=(dk.map λ p=>(i.toNat % p != 0||j.toNat % p != 0)).all id:=by
         unfold hS;rw [bJ];show (ij i&&ij j&&oR i.toNat j.toNat)=_;rw [qh,kA,Bool.and_self,Bool.true_and];rw [List.all_map];rfl
        rw [el] at q;exact q _ (aC.new a4)
theorem aC.er {H H':ah} (s:aC H H') {v:V} (k:d5 H v):cy.er H' v=cy.er H v:=(gC.of s).er k
theorem aC.dK {H H':ah} (s:aC H H') {v:V} (k:cy.dK H v):cy.dK H' v:=(gC.of s).dK k
theorem aC.hS {H H':ah} (s:aC H H') {v:V} (k:d5 H v):cy.hS H' v=cy.hS H v:=by
 unfold cy.hS;rw [aC.er s k]
def q7 (H:ah) (v:V):Bool:=match er H v with
 | some xs=>decide (1<=xs.length)&&decide (xs.length<=16)&&xs.all (hS H)
 | none=>false
def aaW:bX:=λ vs H Q _ => ∃ v,vs=[v]/\BO H v /\ ∀ H',aC H H'->Q (.aJ (q7 H v)) H'
theorem aaO (T:bE K mg):c6 P w mg base cD 4 T.LI aaW:=by
 refine T.LI.fn.ec Mb (λ vs H Q E h=>?_) (λ ba A outer s H vs Q E aq h=>?_)
 ·obtain ⟨v,rfl,_⟩:=h;rfl
 ·obtain ⟨v,rfl,⟨k,a_⟩,q⟩:=h;refine ⟨_,(aM (cM (ez.pt (gr (gs (ej (bG d8 T.dg df (ae (aa 0) (ae (d0 (by rfl) T.gv gu) av))))) (gr (cn lJ (bG gG T.fi fh (ae (aa 0) av)) aL (bZ _)) (hT (cn mn (bG gG T.fi fh (ae (aa 0) av)) (rm (by rfl) T.EY) (bZ _))))))
    (aV (bH gX))
    ct)
   (aV (bH (bG (oT rfl) T.oH oE (ae (f9 (fA Mb (N:=["part"]) (js:=[none]) (List.forall_mem_nil _)) rfl (nj (aa 0)) (λ _ _ _ _=>fC) (λ _ _ _ _=>fW)
     (λ _ _ _ _=>(b7 (aa6 T) aq bM (ae (aa 0) av)))) av))))),?_⟩
  obtain ⟨t,ty,e⟩:=pQ (K:=K) k;refine ⟨_,rfl,v, "tuple", t,_,rfl,ty,e,_,rfl,?_⟩;cases bJ:er H v with
  | none =>
   refine cm (cm ?_);have aU:=q H (aC.refl H);rw [show q7 H v=false by unfold q7;rw [bJ]] at aU;exact aU
  | some xs =>
   obtain ⟨a,rfl,aw⟩:=rk bJ;obtain ⟨au,aB⟩:=a_ xs bJ;have o_:q7 H (.ref a)=(decide (1<=xs.length)&&decide (xs.length<=16)&&xs.all (hS H)):=by unfold q7;rw [bJ]
   refine bx ⟨_,rfl,a,xs,rfl,.inr (aR.of aw),_,_,rfl,rfl,_,rfl,eu (λ h=>?_) (λ h=>⟨_,rfl,a,xs,rfl,.inr (aR.of aw),_,_,rfl,rfl,_,rfl,eu (λ h'=>?_) (λ h'=>?_)⟩)⟩
   ·have af:(xs.length:Int)<1:=of_decide_eq_true h;have aU:=q H (aC.refl H);rw [o_,decide_eq_false (by omega : ¬ 1<=xs.length)] at aU;exact cm aU
   ·have af:(16:Int)<xs.length:=of_decide_eq_true h';have aU:=q H (aC.refl H);rw [o_,decide_eq_false (by omega : ¬ xs.length<=16),Bool.and_false] at aU;exact aU
   ·have af : ¬ (xs.length:Int)<1:=λ z=>h (decide_eq_true z)
    have ai : ¬ (16:Int)<xs.length:=λ z=>h' (decide_eq_true z)
    refine ⟨_,rfl,a,rfl,⟨_,aR.of aw⟩,λ D a4=>yO (K:=K) (a:=a) (xs:=xs) (by rw [sizeLine_eq];omega) (λ i σ' H' ys=>(∃ u:Option V,σ'=[u])/\aC H H'/\ys=((xs.take i).map (hS H)).map V.aJ) ⟨⟨_,rfl⟩,aC.new a4,rfl⟩ (λ i σ' H' ys _ _ ⟨_,s',_⟩=>aR.of (s' _ _ aw)) ?_ ?_⟩
    ·rintro i x σ' H' ys R ak c2 h9 ⟨⟨u,rfl⟩,s',rfl⟩ fb;obtain ⟨gg,_⟩:=id (aB x (List.mem_of_getElem? ak));refine ⟨_,rfl,x,rfl,aC.dK s' (aB x (List.mem_of_getElem? ak)),λ bc s4=>fb _ _ _ (s4 _ _ c2) ⟨⟨_,rfl⟩,?_,?_⟩⟩
     ·intro b o ed;rw [a8 (cj ed a4)];exact s4 _ _ (s' _ _ ed)
     ·rw [aC.hS s' gg,wq ak,List.map_append];rfl
    ·rintro σ' H' ys c2 h9 ⟨_,s',rfl⟩;refine ⟨D,_,rfl,a3.of c2,?_⟩;have aU:=q H' s';rw [o_,decide_eq_true (by omega:1<=xs.length),decide_eq_true (by omega:xs.length<=16),Bool.and_self,Bool.true_and] at aU;rw [List.take_length,List.all_map];exact aU
def gU:V->Bool
 | .int i=>decide (0<=i)
 | _=>false
def mq (H:ah) (v:V):Bool:=match er H v with
 | some xs=>decide (xs.length=10)&&xs.all gU
 | none=>false
def aaq:bX:=λ vs H Q _ => ∃ v,vs=[v]/\dK H v /\ ∀ H',aC H H'->Q (.aJ (mq H v)) H'
theorem aak (T:bE K mg):c6 P w mg base cD 2 T.Ll aaq:=by
 refine T.Ll.fn.ec LV (λ vs H Q E h=>?_) (λ ba A outer s H vs Q E aq h=>?_)
 ·obtain ⟨v,rfl,_⟩:=h;rfl
 ·obtain ⟨v,rfl,⟨k,a_⟩,q⟩:=h;refine ⟨_,(aM (cM (ez.pt (gr (gs (ej (bG d8 T.dg df (ae (aa 0) (ae (d0 (by rfl) T.gv gu) av))))) (hT (cn jF (bG gG T.fi fh (ae (aa 0) av)) (bG gG T.fi fh (ae (jc (v:=.ref T.nA) (by rfl) T.s6 rfl) av)) (bZ _)))))
    (aV (bH gX))
    ct)
   (aV (bH (bG (oT rfl) T.oH oE (ae (f9 (fA LV (N:=["part"]) (js:=[none]) (List.forall_mem_nil _)) rfl (nj (aa 0)) (λ _ _ _ _=>fC) (λ _ _ _ _=>fW)
     (λ _ _ _ _=>(iN (b7 (Ly T) aq bM (ae (aa 0) av)) (ik (gE Ct (aa 0) aL (bZ _)))))) av))))),?_⟩
  obtain ⟨t,ty,e⟩:=pQ (K:=K) k;refine ⟨_,rfl,v, "tuple", t,_,rfl,ty,e,_,rfl,?_⟩;cases bJ:er H v with
  | none =>
   refine cm (cm ?_);have aU:=q H (aC.refl H);rw [show mq H v=false by unfold mq;rw [bJ]] at aU;exact aU
  | some xs =>
   obtain ⟨a,rfl,aw⟩:=rk bJ;obtain ⟨au,aB⟩:=a_ xs bJ;have o_:mq H (.ref a)=(decide (xs.length=10)&&xs.all gU):=by unfold mq;rw [bJ]
   refine bx ⟨_,rfl,a,xs,rfl,.inr (aR.of aw),T.nA,_,rfl,.inr (T.ro H),rfl,_,rfl,eu (λ h=>?_) (λ h=>?_)⟩
   ·have aQ:xs.length≠10:=λ z=>by
     rw [z] at h;exact absurd h (by decide)
    have aU:=q H (aC.refl H);rw [o_,decide_eq_false aQ] at aU;exact aU
   ·have aQ:xs.length=10:=by
     have h':decide (V.int (xs.length:Int)=V.int 10)=true:=by
      cases z:decide (V.int (xs.length:Int)=V.int 10) with
      | true=>rfl
      | false=>exact absurd (show (!decide (V.int (xs.length:Int)=V.int 10))=true by rw [z];rfl) h
     have:=sV h';omega
    refine ⟨_,rfl,a,rfl,⟨_,aR.of aw⟩,λ D a4=>L4 (xs:=xs) (f:=λ v=>.aJ (gU v)) rfl (by rw [aQ];decide) a4 (aR.of aw) ?_ ⟨D,xs.map gU,rfl,?_,?_⟩⟩
    ·intro x H' R s' ak r;refine ⟨_,rfl,x,rfl,aC.kind s' (aB x ak),_,rfl,?_⟩;cases hw:sf x with
     | false =>
      refine bx ?_;have el:gU x=false:=by cases x<;>first | rfl | cases hw
      have b5:R (.aJ (gU x)) H':=r;rw [el] at b5;exact b5
     | true =>
      obtain ⟨n,rfl⟩:=CR hw;exact cm ⟨_,rfl,_,_,rfl,rfl,r⟩
    ·rw [List.map_map];exact a3.of bA
    ·have aU:=q _ (aC.new (o:=.lst (xs.map λ v=>V.aJ (gU v))) a4);rw [o_,decide_eq_true aQ,Bool.true_and] at aU;rw [List.all_map];exact aU
def gq:V->Bool
 | .str x=>decide (1<=x.length)&&decide (x.length<=8)&&(e6 x).all kP
 | _=>false
def qk (H:ah) (v:V):Prop:=d5 H v /\ ∀ x,v=.str x->t_ x/\x.length<=1000
theorem qk.same {H H':ah} {v:V} (h:qk H v) (s:aC H H'):qk H' v:=⟨aC.kind s h.1,h.2⟩
def Z1:bX:=λ vs H Q _ => ∃ v,vs=[v]/\qk H v /\ ∀ H',aC H H'->Q (.aJ (gq v)) H'
theorem Zp (T:bE K mg):c6 P w mg base cD 1 T.Kk Z1:=by
 refine T.Kk.fn.ec Lf (λ vs H Q E h=>?_) (λ ba A outer s H vs Q E aq h=>?_)
 ·obtain ⟨x,rfl,_⟩:=h;rfl
 ·obtain ⟨v,rfl,⟨k,ak⟩,q⟩:=h;refine ⟨_,(aM (cM (ez.pt (gr (gs (ej (bG d8 T.dg df (ae (aa 0) (ae (d0 (by rfl) T.nd nc) av))))) (gr (cn lJ (bG Ee T.fi fh (ae (aa 0) av)) aL (bZ _)) (hT (cn mn (bG Ee T.fi fh (ae (aa 0) av)) (rm (by rfl) T.EC) (bZ _))))))
    (aV (bH gX))
    ct)
   (aV (bH (bG (oT rfl) T.oH oE (ae (f9 (fA Lf (N:=["sign"]) (js:=[none]) (List.forall_mem_nil _)) rfl (IY (aa 0)) (λ _ _ _ _=>fC) (λ _ _ _ _=>fW)
     (λ _ _ _ _=>(gE XZ (aa 0) (WL (by rfl) T.Du) (by with_unfolding_all rfl)))) av))))),?_⟩
  obtain ⟨t,ty,e⟩:=oG (K:=K) k;refine ⟨_,rfl,v, "str", t,_,rfl,ty,e,_,rfl,?_⟩;cases az:uW v with
  | false =>
   have aU:=q H (aC.refl H);rw [show gq v=false by cases v<;>first | rfl | cases az] at aU;exact cm (cm aU)
  | true =>
   obtain ⟨x,rfl⟩ : ∃ x,v=.str x:=by cases v<;>first | exact ⟨_,rfl⟩ | cases az
   obtain ⟨aw,au⟩:=ak x rfl;have a9:x.length<=sizeLine:=by rw [sizeLine_eq];omega
   refine bx ⟨_,rfl,_,rfl,a9,_,_,rfl,rfl,_,rfl,eu (λ h=>?_) (λ h=>?_)⟩
   ·have h0:(x.length:Int)<1:=of_decide_eq_true h;have aU:=q H (aC.refl H);rw [show gq (.str x)=false by show (decide _&&decide _&&_)=false;rw [decide_eq_false (by omega : ¬ 1<=x.length)];rfl] at aU;exact cm aU
   have h0 : ¬ (x.length:Int)<1:=λ z=>h (decide_eq_true z)
   refine ⟨_,rfl,_,rfl,a9,_,_,rfl,rfl,_,rfl,eu (λ h'=>?_) (λ h'=>?_)⟩
   ·have af:(x.length:Int) > 8:=of_decide_eq_true h';have aU:=q H (aC.refl H);rw [show gq (.str x)=false by show (decide _&&decide _&&_)=false;rw [decide_eq_false (by omega : ¬ x.length<=8),Bool.and_false];rfl] at aU;exact aU
   have af : ¬ (x.length:Int) > 8:=λ z=>h' (decide_eq_true z)
   refine ⟨_,rfl,_,rfl,aw.all,λ D a4=>KA (x:=x) (σ0:=[]) (t:=λ _=>true) (f:=λ i=>V.aJ (kP (x.cps.getD i 0))) (by show x.length<=_;exact a9) ⟨_,rfl⟩ a4 (λ i c H' R s' aj r=>r H' (aC.refl _)) (λ i c H' R s' aj aW r=>?_) λ H1 s1 pj=>?_⟩
   ·have e:x.cps.getD i 0=c:=by rw [Array.getD_eq_getD_getElem?,aj];rfl
    have bB:=r H' (aC.refl _);rw [e] at bB;refine ⟨_,rfl,_,_,rfl,rfl,?_⟩;rw [show (⟨#[c]⟩:Str)=t7 c from rfl,StrLaws.found_one,lets];exact bB
   ·have e:(((List.range x.cps.size).filter λ _=>true).map λ i=>V.aJ (kP (x.cps.getD i 0)))=((List.range x.cps.size).map λ i=>kP (x.cps.getD i 0)).map V.aJ:=by
     rw [List.filter_eq_self.mpr (λ _ _=>rfl),List.map_map];rfl
    rw [e] at pj;refine ⟨D,_,rfl,a3.of pj,?_⟩;rw [JA];have aU:=q H1 s1;rw [show gq (.str x)=(e6 x).all kP by show (decide _&&decide _&&_)=_;rw [decide_eq_true (by omega:1<=x.length),decide_eq_true (by omega:x.length<=8)];rfl] at aU;exact aU
structure fv (T:bE K mg) (H:ah) (bn pr hd dl:Addr) (kvs:List (Key×V)) (ds:List V):Prop where
 at_ : ∃ aH,H bn=some (.ins T.f6 aH [("program", .ref pr),("held", .ref hd),("deeds", .ref dl)])
 hd:H hd=some (.bp kvs)
 dl:H dl=some (.lst ds)
theorem fv.same {T:bE K mg} {H H':ah} {bn pr hd dl:Addr} {kvs:List (Key×V)} {ds:List V} (b:fv T H bn pr hd dl kvs ds) (s:aC H H'):fv T H' bn pr hd dl kvs ds :=
 ⟨let ⟨aH,h⟩:=b.at_;⟨aH,s _ _ h⟩,s _ _ b.hd,s _ _ b.dl⟩
def yi (kvs:List (Key×V)) (x:Str):V->List (Key×V)
 | .bg=>oF kvs (cz x)
 | w=>putK kvs (cz x) w
def l3 (a b:Addr) (H H':ah):Prop := ∀ c o,c≠a->c≠b->H c=some o->H' c=some o
def Vo (T:bE K mg):bX:=λ vs H Q _ => ∃ (bn pr hd dl:Addr) (kvs:List (Key×V)) (ds:List V) (x:Str) (w:V),vs=[.ref bn,.str x,w]/\fv T H bn pr hd dl kvs ds/\kvs.length<=100/\((w=.bg /\ ∃ v,dZ kvs (cz x)=some v) \/ ∃ t,w=.ref t) /\
 ∀ H',bW hd H H'->H' hd=some (.bp (yi kvs x w))->Q .bg H'
theorem L7 (T:bE K mg):c6 P w mg base cD 1 T.tx (Vo T):=by
 refine T.tx.fn.ec aaT (λ vs H Q E h=>?_) (λ ba A outer s H vs Q E aq h=>?_)
 ·obtain ⟨bn,pr,hd,dl,kvs,ds,x,w,rfl,_⟩:=h;rfl
 ·obtain ⟨bn,pr,hd,dl,kvs,ds,x,w,rfl,B,aB,hw,q⟩:=h;refine ⟨_,(aV (cM (cn mv (aa 2) fj (bZ _))
    (aV (hV (jG PySem.F.plainAttrs_dict PySem.F.slot_dict_pop PySem.F.type_dict_pop J1 (lM (aa 0) (by rfl)) (ae (aa 1) av))))
    (aV (Dd (mm aq) (lM (aa 0) (by rfl)) (aa 1) (aa 2) rfl)))),?_⟩
  obtain ⟨aH,J⟩:=B.at_;rcases hw with ⟨rfl,v,bf⟩ | ⟨t,rfl⟩
  ·refine ⟨_,rfl,rfl,_,rfl,cm ⟨_,rfl,bn,_,aH,_,_,rfl,J,T.eO,T.oV,rfl,?_,_,rfl,hd,x,kvs,v,rfl,rfl,B.hd,bf,λ H' dO h'=>q H' dO h'⟩⟩;exact .inr (.inr (.inl ⟨rfl,.inl ⟨kvs,B.hd⟩⟩))
  ·refine ⟨_,rfl,rfl,_,rfl,bx ⟨_,rfl,_,rfl,bn,_,aH,_,_,rfl,J,T.eO,T.oV,rfl,_,rfl,hd,x,kvs,rfl,rfl,B.hd,by rw [sizeLine_eq];omega,λ H' dO h'=>q H' dO h'⟩⟩
def Vm (T:bE K mg):bX:=λ vs H Q _ => ∃ (bn pr hd dl:Addr) (kvs:List (Key×V)) (ds:List V) (x:Str) (w:V),vs=[.ref bn,.str x,w]/\fv T H bn pr hd dl kvs ds/\kvs.length<=100/\ds.length<=1000/\((w=.bg /\ ∃ v,dZ kvs (cz x)=some v) \/ ∃ t,w=.ref t) /\
 ∀ t H',l3 hd dl H H'->H' t=some (.tup [.str x,(dZ kvs (cz x)).getD .bg])->fv T H' bn pr hd dl (yi kvs x w) (ds++[.ref t])->Q .bg H'
theorem Ew (T:bE K mg):c6 P w mg base cD 2 T.p2 (Vm T):=by
 refine T.p2.fn.ec aaQ (λ vs H Q E h=>?_) (λ ba A outer s H vs Q E aq h=>?_)
 ·obtain ⟨bn,pr,hd,dl,kvs,ds,x,w,rfl,_⟩:=h;rfl
 ·obtain ⟨bn,pr,hd,dl,kvs,ds,x,w,rfl,B,aB,gP,hw,q⟩:=h;refine ⟨_,(aM (hV (jG PySem.F.plainAttrs_list PySem.F.slot_list_append PySem.F.type_list_append p0 (lM (aa 0) (by rfl)) (ae (hx (ae (aa 1) (ae (jG PySem.F.plainAttrs_dict PySem.F.slot_dict_get PySem.F.type_dict_get Wc (lM (aa 0) (by rfl)) (ae (aa 1) av)) av))) av)))
   (aV (hV (ka (aa 0) T.eO T.tx.at_ (L7 T) (aq.mono (by decide)) T.tx.bd .nil bM (ae (aa 1) (ae (aa 2) av)))))),?_⟩
  obtain ⟨aH,J⟩:=B.at_;have u1:hd≠dl:=cI B.hd B.dl nofun;have Bq:bn≠dl:=cI J B.dl nofun;have Bs:bn≠hd:=cI J B.hd nofun;refine ⟨_,rfl,bn,_,aH,_,_,rfl,J,T.eO,T.zi,rfl,.inl ⟨rfl,_,a3.of B.dl⟩,_,rfl,_,rfl,bn,_,aH,_,_,rfl,J,T.eO,T.oV,rfl,.inr (.inr (.inl ⟨rfl,.inl ⟨kvs,B.hd⟩⟩)),_,rfl,hd,x,kvs,rfl,rfl,B.hd,cg,λ t H1 f1 s1 aW=>?_⟩;refine ⟨dl,ds,_,rfl,rfl,s1 _ _ B.dl,by rw [sizeLine_eq];omega,λ ar dQ ai=>?_⟩;have By:t≠dl:=λ z=>by rw [z,B.dl] at f1;cases f1
  have Qx:t≠hd:=λ z=>by rw [z,B.hd] at f1;cases f1
  have hy:fv T ar bn pr hd dl kvs (ds++[.ref t]):=⟨⟨aH,dQ _ _ Bq (s1 _ _ J)⟩,dQ _ _ u1 (s1 _ _ B.hd),ai⟩
  obtain ⟨ui,jr⟩:=hy.at_;refine ⟨_,rfl,bn,ui,_,rfl,jr,rfl,_,rfl,_,rfl,bn,pr,hd,dl,kvs,_,x,w,rfl,hy,aB,hw,λ aK eM aF=>?_⟩;refine q t aK (λ c o cc c0 dX=>eM _ _ cc (dQ _ _ c0 (s1 _ _ dX))) (eM _ _ Qx (dQ _ _ By aW)) ⟨⟨ui,eM _ _ Bs jr⟩,aF,eM _ _ (Ne.symm u1) hy.dl⟩
def lH (kvs:List (Key×V)):V->Option V
 | .str x=>dZ kvs (cz x)
 | _=>none
def Z0 (T:bE K mg):bX:=λ vs H Q E => ∃ (bn pr hd dl:Addr) (kvs:List (Key×V)) (ds:List V) (v:V),vs=[.ref bn,v]/\fv T H bn pr hd dl kvs ds/\d5 H v/\(∀ u,lH kvs v=some u->Q u H)/\(lH kvs v=none->E (.ref T.eP) none H)
theorem zm (T:bE K mg):c6 P w mg base (i0 P w) 1 T.nD (Z0 T):=by
 refine T.nD.fn.pA abr (λ vs H Q E h=>?_) (λ ba A outer s H vs Q E aq h=>?_)
 ·obtain ⟨bn,pr,hd,dl,kvs,ds,v,rfl,_⟩:=h;rfl
 ·obtain ⟨bn,pr,hd,dl,kvs,ds,v,rfl,B,k,q,bV⟩:=h;refine ⟨_,(aM (cM (ez.pt (gr (gs (ej (bG d8 T.dg df (ae (aa 1) (ae (d0 (by rfl) T.nd nc) av))))) (hT (cn (Lc (mm aq)) (aa 1) (lM (aa 0) (by rfl)) (by with_unfolding_all rfl)))))
    (aV (yV sS rfl rfl T.JL (by rfl) (ae dq av)))
    ct)
   (aV (bH (WK (mm aq) (lM (aa 0) (by rfl)) (aa 1) (λ _ _=>rfl))))),?_⟩
  obtain ⟨aH,J⟩:=B.at_;obtain ⟨t,ty,e⟩:=oG (K:=K) k;refine ⟨_,rfl,v, "str", t,_,rfl,ty,e,_,rfl,?_⟩;cases az:uW v with
  | false=>exact cm (cm ⟨cg,bV (by cases v<;>first | rfl | cases az)⟩)
  | true =>
   obtain ⟨x,rfl⟩ : ∃ x,v=.str x:=by cases v<;>first | exact ⟨_,rfl⟩ | cases az
   refine bx ⟨_,rfl,_,rfl,bn,_,aH,_,_,rfl,J,T.eO,T.oV,rfl,x,hd,kvs,rfl,rfl,B.hd,_,rfl,?_⟩;cases bf:dZ kvs (cz x) with
   | none=>exact cm ⟨cg,bV bf⟩
   | some u=>exact bx ⟨_,rfl,bn,_,aH,_,_,rfl,J,T.eO,T.oV,rfl,_,rfl,hd,x,kvs,u,rfl,rfl,B.hd,bf,q u bf⟩
def WQ (T:bE K mg):bX:=λ vs H Q E => ∃ (bn pr hd dl:Addr) (kvs:List (Key×V)) (ds:List V) (v:V),vs=[.ref bn,v]/\fv T H bn pr hd dl kvs ds/\d5 H v/\(lH kvs v=none->E (.ref T.eP) none H) /\ ∀ u,lH kvs v=some u -> ∃ (w:Addr) (a b:V),u=.ref w/\H w=some (.tup [a,b])/\Q a H
theorem abd (T:bE K mg):c6 P w mg base (i0 P w) 2 T.zj (WQ T):=by
 refine T.zj.fn.pA abj (λ vs H Q E h=>?_) (λ ba A outer s H vs Q E aq h=>?_)
 ·obtain ⟨bn,pr,hd,dl,kvs,ds,v,rfl,_⟩:=h;rfl
 ·obtain ⟨bn,pr,hd,dl,kvs,ds,v,rfl,B,k,bV,q⟩:=h;refine ⟨_,(aV (bH (cS hv (ka (aa 0) T.eO T.nD.at_ (zm T) (aq.mono (by decide)) T.nD.bd .nil yn (ae (aa 1) av)) aL (λ _ _=>rfl)))),?_⟩;obtain ⟨aH,J⟩:=B.at_;refine ⟨_,rfl,bn,aH,_,rfl,J,rfl,_,rfl,bn,pr,hd,dl,kvs,ds,v,rfl,B,k,λ u bD=>?_,bV⟩;obtain ⟨w,a,b,rfl,hw,q⟩:=q u bD;exact ⟨w,_,_,_,rfl,rfl,aR.of hw,rfl,q⟩
def Yh (T:bE K mg):bX:=λ vs H Q E => ∃ (bn pr hd dl:Addr) (kvs:List (Key×V)) (ds:List V) (v:V),vs=[.ref bn,v]/\fv T H bn pr hd dl kvs ds/\d5 H v/\(lH kvs v=none->E (.ref T.eP) none H) /\ ∀ u,lH kvs v=some u -> ∃ (w:Addr) (a b:V),u=.ref w/\H w=some (.tup [a,b])/\Q b H
theorem aaK (T:bE K mg):c6 P w mg base (i0 P w) 2 T.zf (Yh T):=by
 refine T.zf.fn.pA aaS (λ vs H Q E h=>?_) (λ ba A outer s H vs Q E aq h=>?_)
 ·obtain ⟨bn,pr,hd,dl,kvs,ds,v,rfl,_⟩:=h;rfl
 ·obtain ⟨bn,pr,hd,dl,kvs,ds,v,rfl,B,k,bV,q⟩:=h;refine ⟨_,(aV (bH (cS hv (ka (aa 0) T.eO T.nD.at_ (zm T) (aq.mono (by decide)) T.nD.bd .nil yn (ae (aa 1) av)) aL (λ _ _=>rfl)))),?_⟩;obtain ⟨aH,J⟩:=B.at_;refine ⟨_,rfl,bn,aH,_,rfl,J,rfl,_,rfl,bn,pr,hd,dl,kvs,ds,v,rfl,B,k,λ u bD=>?_,bV⟩;obtain ⟨w,a,b,rfl,hw,q⟩:=q u bD;exact ⟨w,_,_,_,rfl,rfl,aR.of hw,rfl,q⟩
def Yi (T:bE K mg):bX:=λ vs H Q _ => ∃ (bn pr hd dl:Addr) (kvs:List (Key×V)) (ds:List V) (ns:List Str),vs=[.ref bn]/\fv T H bn pr hd dl kvs ds/\kvs.map (·.1)=ns.map cz/\ns.length<64 /\ ∀ ms:List Str,ms.Perm ns->PyProof.Rows.sortedS ms=true -> ∀ l H',H l=none->aC H H'->H' l=some (.lst (ms.map V.str))->Q (.ref l) H'
theorem Mh (T:bE K mg):c6 P w mg base cD 1 T.tC (Yi T):=by
 refine T.tC.fn.ec aa8 (λ vs H Q E h=>?_) (λ ba A outer s H vs Q E aq h=>?_)
 ·obtain ⟨bn,pr,hd,dl,kvs,ds,ns,rfl,_⟩:=h;rfl
 ·obtain ⟨bn,pr,hd,dl,kvs,ds,ns,rfl,B,aB,kp,q⟩:=h;refine ⟨_,(aV (bH (bG (aaC rfl) T.yT yN (ae (lM (aa 0) (by rfl)) av)))),?_⟩;obtain ⟨aH,J⟩:=B.at_;exact ⟨_,rfl,bn,_,aH,_,_,rfl,J,T.eO,T.oV,rfl,hd,kvs,ns,rfl,B.hd,aB,kp,λ ms pm rQ l H' f s' e=>q ms pm rQ l H' f s' e⟩
def DL (T:bE K mg):bX:=λ vs H Q E => ∃ (bn pr hd dl:Addr) (kvs:List (Key×V)) (ds:List V),vs=[.ref bn]/\fv T H bn pr hd dl kvs ds/\kvs.length<=100/\(ds=[]->E (.ref T.fD) none H) /\
 ∀ jo u,ds=jo++[u] -> ∃ (t:Addr) (x:Str) (w:V),u=.ref t/\H t=some (.tup [.str x,w])/\((w=.bg /\ ∃ v,dZ kvs (cz x)=some v) \/ ∃ a,w=.ref a) /\ ∀ H',l3 hd dl H H'->fv T H' bn pr hd dl (yi kvs x w) jo->Q .bg H'
theorem aaM (T:bE K mg):c6 P w mg base (i0 P w) 2 T.zh (DL T):=by
 refine T.zh.fn.pA L_ (λ vs H Q E h=>?_) (λ ba A outer s H vs Q E aq h=>?_)
 ·obtain ⟨bn,pr,hd,dl,kvs,ds,rfl,_⟩:=h;rfl
 ·obtain ⟨bn,pr,hd,dl,kvs,ds,rfl,B,aB,bV,q⟩:=h;refine ⟨_,(aM (cM (cn eJ (bG gG T.fi fh (ae (lM (aa 0) (by rfl)) av)) aL (bZ _))
    (aV (yV sS rfl rfl T.VC (by rfl) (ae dq av)))
    ct)
   (aM (bN 1 L_ (IU PySem.F.plainAttrs_list PySem.F.slot_list_pop PySem.F.type_list_pop IM (lM (aa 0) (by rfl))))
   (aV (hV (ka (aa 0) T.eO T.tx.at_ (L7 T) (aq.mono (by decide)) T.tx.bd .nil bM (ae (cS hv (aa 1) aL (λ _ _=>rfl)) (ae (cS hv (aa 1) aL (λ _ _=>rfl)) av))))))),?_⟩
  obtain ⟨aH,J⟩:=B.at_;have u1:hd≠dl:=cI B.hd B.dl nofun;have Bq:bn≠dl:=cI J B.dl nofun;have Bs:bn≠hd:=cI J B.hd nofun;refine ⟨_,rfl,bn,_,aH,_,_,rfl,J,T.eO,T.zi,rfl,dl,_,rfl,.inl (a3.of B.dl),rfl,_,rfl,?_⟩;by_cases aD:ds=[]
  ·subst aD;exact cm ⟨cg,bV rfl⟩
  obtain ⟨jo,u,rfl⟩ : ∃ jo u,ds=jo++[u]:=⟨ds.dropLast,ds.getLast aD,(List.dropLast_concat_getLast aD).symm⟩
  obtain ⟨t,x,w,rfl,aW,hw,q⟩:=q jo u rfl;have By:t≠dl:=cI aW B.dl nofun;rw [decide_eq_false (show ¬ V.int ((jo++[V.ref t]).length:Int)=V.int 0 from λ z=>by injection z with z;rw [List.length_append] at z;simp at z;omega)];refine bx ⟨_,rfl,bn,_,aH,_,_,rfl,J,T.eO,T.zi,rfl,.inl ⟨rfl,_,a3.of B.dl⟩,dl,_,.ref t,rfl,rfl,B.dl,by simp,?_⟩;have dQ:bW dl H (upd H dl (.lst (jo++[V.ref t]).dropLast)):=bW.upd;have hy:fv T (upd H dl (.lst (jo++[V.ref t]).dropLast)) bn pr hd dl kvs jo:=⟨⟨aH,dQ _ _ Bq J⟩,dQ _ _ u1 B.hd,by rw [bA,List.dropLast_concat]⟩
  generalize upd H dl (.lst (jo++[V.ref t]).dropLast)=ar at dQ hy;obtain ⟨ui,jr⟩:=hy.at_;have lD:=dQ _ _ By aW;refine ⟨_,rfl,bn,ui,_,rfl,jr,rfl,_,rfl,t,_,_,_,rfl,rfl,aR.of lD,rfl,_,rfl,t,_,_,_,rfl,rfl,aR.of lD,rfl,bn,pr,hd,dl,kvs,_,x,w,rfl,hy,aB,hw,λ aK eM aF=>?_⟩;exact q aK (λ c o cc c0 dX=>eM _ _ cc (dQ _ _ c0 dX)) ⟨⟨ui,eM _ _ Bs jr⟩,aF,eM _ _ (Ne.symm u1) hy.dl⟩
def DK (T:bE K mg):bX:=λ vs H Q E => ∃ (bn pr hd dl:Addr) (kvs:List (Key×V)) (ds:List V) (v:V),vs=[.ref bn,v]/\fv T H bn pr hd dl kvs ds/\kvs.length<=100/\ds.length<=1000/\d5 H v/\(lH kvs v=none->E (.ref T.eP) none H) /\
 ∀ x u,v=.str x->dZ kvs (cz x)=some u -> ∀ t H',l3 hd dl H H'->H' t=some (.tup [.str x,u])->fv T H' bn pr hd dl (oF kvs (cz x)) (ds++[.ref t])->Q .bg H'
theorem aaJ (T:bE K mg):c6 P w mg base (i0 P w) 3 T.ze (DK T):=by
 refine T.ze.fn.pA aaR (λ vs H Q E h=>?_) (λ ba A outer s H vs Q E aq h=>?_)
 ·obtain ⟨bn,pr,hd,dl,kvs,ds,v,rfl,_⟩:=h;rfl
 ·obtain ⟨bn,pr,hd,dl,kvs,ds,v,rfl,B,aB,gP,k,bV,q⟩:=h;refine ⟨_,(aM (hV (ka (aa 0) T.eO T.nD.at_ (zm T) (aq.mono (by decide)) T.nD.bd .nil yn (ae (aa 1) av)))
   (aV (hV (ka (aa 0) T.eO T.p2.at_ (Ew T) (aq.mono (by decide)) T.p2.bd .nil bM (ae (aa 1) (ae fj av)))))),?_⟩
  obtain ⟨aH,J⟩:=B.at_;refine ⟨_,rfl,bn,aH,_,rfl,J,rfl,_,rfl,bn,pr,hd,dl,kvs,ds,v,rfl,B,k,λ u bD=>?_,bV⟩;obtain ⟨x,rfl⟩ : ∃ x,v=.str x:=by cases v<;>first | exact ⟨_,rfl⟩ | cases bD
  have bf:dZ kvs (cz x)=some u:=bD;refine ⟨_,rfl,bn,aH,_,rfl,J,rfl,_,rfl,bn,pr,hd,dl,kvs,ds,x,.bg,rfl,B,aB,gP,.inl ⟨rfl,u,bf⟩,λ t H' fa aW jJ=>?_⟩;rw [bf] at aW;exact q x u rfl bf t H' fa aW jJ
end
def lG:V->Bool
 | .int i=>decide (i<=1000000)
 | _=>false
def ht (H:ah) (v:V):Bool:=match er H v with
 | some xs=>decide (xs.length=10)&&xs.all gU&&xs.all lG
 | none=>false
theorem C9 : ∀ {xs:List V},xs.all gU=true -> ∃ ag:List Int,xs=ag.map V.int /\ ∀ i∈ag,0<=i
 | [],_=>⟨[],rfl,λ _ h=>by cases h⟩
 | x::xs,h=>by
  rw [List.all_cons,Bool.and_eq_true] at h;obtain ⟨ag,rfl,ax⟩:=C9 h.2;obtain ⟨i,rfl,ay⟩ : ∃ i:Int,x=.int i/\0<=i:=by
   cases x with
   | int i=>exact ⟨i,rfl,of_decide_eq_true h.1⟩
   | _=>cases h.1
  exact ⟨i::ag,rfl,λ j b3=>(List.mem_cons.mp b3).elim (λ z=>by rw [z];exact ay) (ax j)⟩
section
variable {P:Program} {w:World} {K:PySem.W.Frag} {mg:Str->Option Value} {base:Heap}
def Dj (T:bE K mg):bX:=λ vs H Q E => ∃ (bn pr hd dl:Addr) (kvs:List (Key×V)) (ds:List V) (v p:V),vs=[.ref bn,v,p]/\fv T H bn pr hd dl kvs ds/\kvs.length<12/\ds.length<=1000/\qk H v/\dK H p /\
 (gq v=false -> ∀ H',aC H H'->E (.ref T.eP) none H')/\(gq v=true->ht H p=false -> ∀ H',aC H H'->E (.ref T.fE) none H') /\
 (∀ x a ag,v=.str x->gq v=true->p=.ref a->H a=some (tupI ag)->ag.length=10->(∀ i∈ag,0<=i/\i<=1000000) -> ∀ t w H',l3 hd dl H H'->H' w=some (.tup [.ref a,.int 0])->H' t=some (.tup [.str x,(dZ kvs (cz x)).getD .bg])->fv T H' bn pr hd dl (putK kvs (cz x) (.ref w)) (ds++[.ref t])->Q .bg H')
theorem aai (T:bE K mg):c6 P w mg base (i0 P w) 3 T.za (Dj T):=by
 refine T.za.fn.pA aam (λ vs H Q E h=>?_) (λ ba A outer s H vs Q E aq h=>?_)
 ·obtain ⟨bn,pr,hd,dl,kvs,ds,v,p,rfl,_⟩:=h;rfl
 ·obtain ⟨bn,pr,hd,dl,kvs,ds,v,p,rfl,B,aB,gP,bf,ax,a7,bV,ea⟩:=h;refine ⟨_,(aM (cM (gs (ej (b7 (Zp T) aq bM (ae (aa 1) av))))
    (aV (yV sS rfl rfl T.JL (by rfl) (ae dq av)))
    ct)
   (aM (cM (ez.pt (gr (gs (ej (b7 (aak T) aq bM (ae (aa 2) av)))) (hT (cn mn (bG (Xj rfl) T.sL sG (ae (aa 2) av)) (rm (by rfl) T.Eg) (bZ _)))))
    (aV (yV sS rfl rfl T.YQ (by rfl) (ae dq av)))
    ct)
   (aM (nr (ez.pt (ra (cn (Lc (mm aq)) (aa 1) (lM (aa 0) (by rfl)) (by with_unfolding_all rfl)) (rh (cn eJ (bG Xi T.fi fh (ae (lM (aa 0) (by rfl)) av)) (rm (by rfl) T.Ef) (bZ _)))))
    (aV s9)
    ct)
   (aV (hV (ka (aa 0) T.eO T.p2.at_ (Ew T) (aq.mono (by decide)) T.p2.bd .nil bM (ae (aa 1) (ae (hx (ae (aa 2) (ae aL av))) av)))))))),?_⟩
  refine ⟨_,rfl,v,rfl,bf,λ H1 s1=>⟨_,rfl,?_⟩⟩;cases aD:gq v with
  | false=>exact cm ⟨cg,a7 aD H1 s1⟩
  | true =>
   obtain ⟨x,rfl⟩ : ∃ x,v=.str x:=by cases v<;>first | exact ⟨_,rfl⟩ | cases aD
   refine bx ⟨_,rfl,p,rfl,aC.dK s1 ax,λ ar s2=>⟨_,rfl,?_⟩⟩;have Po:mq H1 p=mq H p:=by unfold mq;rw [aC.er s1 ax.1]
   rw [Po];cases xu:mq H p with
   | false =>
    refine cm (cm ⟨cg,bV aD ?_ ar (s1.trans s2)⟩);unfold mq at xu;unfold ht;cases bJ:er H p with
    | none=>rfl
    | some xs =>
     rw [bJ] at xu;show (decide (xs.length=10)&&xs.all gU&&xs.all lG)=false;rw [show (decide (xs.length=10)&&xs.all gU)=false from xu];rfl
   | true =>
    have vp:=xu;unfold mq at vp;cases bJ:er H p with
    | none=>rw [bJ] at vp;cases vp
    | some xs =>
     rw [bJ] at vp;obtain ⟨a,rfl,aw⟩:=rk bJ;have l5:=Bool.and_eq_true_iff.mp (show (decide (xs.length=10)&&xs.all gU)=true from vp);have vm:xs.length=10:=of_decide_eq_true l5.1;obtain ⟨ag,rfl,GJ⟩:=C9 l5.2;have eV:ag.length=10:=by rw [List.length_map] at vm;exact vm
     have ho:=s1.trans s2;refine bx ⟨_,rfl,a,ag,rfl,aR.of (ho _ _ aw),(by intro z;rw [z] at eV;cases eV),λ M tW uM=>⟨_,_,rfl,rfl,_,rfl,?_⟩⟩;by_cases HH:M > 1000000
     ·rw [decide_eq_true HH];refine cm ⟨cg,bV aD ?_ ar ho⟩;unfold ht;rw [bJ];show (decide ((ag.map V.int).length=10)&&(ag.map V.int).all gU&&(ag.map V.int).all lG)=false;rw [show (ag.map V.int).all lG=false from ?_,Bool.and_false];rw [Bool.eq_false_iff];intro z;have:=of_decide_eq_true (show decide (M<=1000000)=true from List.all_eq_true.mp z (.int M) (List.mem_map_of_mem tW));omega
     ·rw [decide_eq_false HH];refine bx ?_;have fT : ∀ i∈ag,0<=i/\i<=1000000:=λ i ay=>⟨GJ i ay,by have:=uM i ay;omega⟩
      have hy:=B.same ho;obtain ⟨aH,J⟩:=hy.at_;refine ⟨λ σ' H'=>σ'=[some (.ref bn),some (.str x),some (.ref a)]/\ar=H',?_,?_⟩
      ·refine ⟨_,rfl,_,rfl,bn,_,aH,_,_,rfl,J,T.eO,T.oV,rfl,x,hd,kvs,rfl,rfl,hy.hd,_,rfl,?_⟩;cases az:(dZ kvs (cz x)).isSome with
       | true=>exact bx (bx ⟨rfl,rfl⟩)
       | false =>
        refine cm ⟨_,rfl,bn,_,aH,_,_,rfl,J,T.eO,T.oV,rfl,hd,kvs,rfl,hy.hd,rfl,_,rfl,?_⟩;rw [decide_eq_false (show ¬ V.int (kvs.length:Int)=V.int 12 from λ z=>by injection z with z;omega)];exact bx ⟨rfl,rfl⟩
      ·rintro σ' H' ⟨rfl,rfl⟩;refine ⟨_,rfl,bn,aH,_,rfl,J,rfl,_,rfl,_,rfl,cg,λ w aK dh s3 hw=>?_⟩;refine ⟨bn,pr,hd,dl,kvs,ds,x,.ref w,rfl,hy.same s3,by omega,gP,.inr ⟨w,rfl⟩,λ t bc mF aW MJ=>?_⟩;have Bz:w≠dl:=λ z=>by rw [z,hy.dl] at dh;cases dh
       have BA:w≠hd:=λ z=>by rw [z,hy.hd] at dh;cases dh
       exact ea x a ag rfl aD rfl aw eV fT t w bc (λ c o cc c0 dX=>mF _ _ cc c0 (s3 _ _ (ho _ _ dX))) (mF _ _ BA Bz hw) aW MJ
def Dk (T:bE K mg):bX:=λ vs H Q E => ∃ (bn pr hd dl:Addr) (kvs:List (Key×V)) (ds:List V) (v:V) (m:Int),vs=[.ref bn,v,.int m]/\fv T H bn pr hd dl kvs ds/\kvs.length<=100/\ds.length<=1000/\d5 H v/\0<=m/\m<=2000/\(lH kvs v=none->E (.ref T.eP) none H) /\
 ∀ x u,v=.str x->dZ kvs (cz x)=some u -> ∃ (w a:Addr) (xs:List V) (aA:List (Int×Int)) (ag:List Int) (n:Int),u=.ref w/\H pr=some (.tup xs)/\gp H xs aA/\xs.length<=1000/\H w=some (.tup [.ref a,.int n])/\H a=some (tupI ag)/\ag.length=10/\nn ag=true /\
  ∀ (k:Nat) r aU cO t H',k<=m.toNat->goN (rowsOf aA) k ag=some r->(k=m.toNat\/c7 (rowsOf aA) r=none)->l3 hd dl H H'->H' aU=some (tupI r)->H' cO=some (.tup [.ref aU,.int (n+(k:Int))])->H' t=some (.tup [.str x,.ref w]) ->
   fv T H' bn pr hd dl (putK kvs (cz x) (.ref cO)) (ds++[.ref t])->Q (.int (k:Int)) H'
theorem aaj (T:bE K mg):c6 P w mg base (i0 P w) 8 T.zb (Dk T):=by
 refine T.zb.fn.pA Es (λ vs H Q E h=>?_) (λ ba A outer s H vs Q E aq h=>?_)
 ·obtain ⟨bn,pr,hd,dl,kvs,ds,v,m,rfl,_⟩:=h;rfl
 ·obtain ⟨bn,pr,hd,dl,kvs,ds,v,m,rfl,B,aB,gP,Pb,m0,qc,bV,q⟩:=h;refine ⟨_,(aM (bN 3 Es (ka (aa 0) T.eO T.nD.at_ (zm T) (aq.mono (by decide)) T.nD.bd .nil yn (ae (aa 1) av)))
   (aM (bN 4 Es (b7 (Zo T) aq bM (ae (lM (aa 0) (by rfl)) (ae (cS hv (aa 3) aL (λ _ _=>rfl)) (ae (aa 2) av)))))
   (aM (hV (ka (aa 0) T.eO T.p2.at_ (Ew T) (aq.mono (by decide)) T.p2.bd .nil bM (ae (aa 1) (ae (hx (ae (cS hv (aa 4) aL (λ _ _=>rfl)) (ae (b8 fG (cS hv (aa 3) aL (λ _ _=>rfl)) (cS hv (aa 4) aL (λ _ _=>rfl))) av))) av))))
   (aV (bH (cS hv (aa 4) aL (λ _ _=>rfl))))))),?_⟩
  obtain ⟨aH,J⟩:=B.at_;refine ⟨_,rfl,bn,aH,_,rfl,J,rfl,_,rfl,bn,pr,hd,dl,kvs,ds,v,rfl,B,Pb,λ u bD=>?_,bV⟩;obtain ⟨x,rfl⟩ : ∃ x,v=.str x:=by cases v<;>first | exact ⟨_,rfl⟩ | cases bD
  have bf:dZ kvs (cz x)=some u:=bD;obtain ⟨w,a,xs,aA,ag,n,rfl,sa,hf,au,hw,aw,eV,gB,q⟩:=q x u rfl bf;refine ⟨_,rfl,bn,_,aH,_,_,rfl,J,T.eO,T.Mj,rfl,_,rfl,w,_,_,_,rfl,rfl,aR.of hw,rfl,_,rfl,pr,a,xs,aA,ag,m,rfl,sa,hf,au,aw,eV,gB,m0,qc,λ k r e aU H1 k1 aI A9 s1 he f3=>?_⟩;have zr:=B.same s1;refine ⟨_,rfl,bn,aH,_,rfl,s1 _ _ J,rfl,_,rfl,_,rfl,e,_,_,_,rfl,rfl,aR.of he,rfl,_,rfl,w,_,_,_,rfl,rfl,aR.of (s1 _ _ hw),rfl,_,rfl,e,_,_,_,rfl,rfl,aR.of he,rfl,_,_,rfl,rfl,cg,λ cO ar f2 s2 pw=>?_⟩;have hy:=zr.same s2;refine ⟨bn,pr,hd,dl,kvs,ds,x,.ref cO,rfl,hy,aB,gP,.inr ⟨cO,rfl⟩,λ t aK k3 aW MI=>?_⟩;rw [bf] at aW;have Bz:cO≠dl:=λ z=>by rw [z,zr.dl] at f2;cases f2
  have BA:cO≠hd:=λ z=>by rw [z,zr.hd] at f2;cases f2
  have a_ : ∀ {c:Addr} {xs:List V},ar c=some (.tup xs)->aK c=some (.tup xs):=λ {c xs} aj=>k3 _ _ (cI aj hy.hd nofun) (cI aj hy.dl nofun) aj
  refine ⟨_,rfl,e,_,_,_,rfl,rfl,aR.of (a_ (s2 _ _ he)),rfl,?_⟩;exact q k r aU cO t aK k1 aI A9 (λ c o cc c0 dX=>k3 _ _ cc c0 (s2 _ _ (s1 _ _ dX))) (a_ (s2 _ _ f3)) (k3 _ _ BA Bz pw) aW MI
end
theorem X6 {H:ah} {p:Addr} {xs:List V} (h:H p=some (.tup xs)) (af:1<=xs.length) (ai:xs.length<=16) (hf : ∀ x∈xs,lK H x):q7 H (.ref p)=true:=by
 unfold q7;rw [oQ h];show (decide _&&decide _&&xs.all (hS H))=true;rw [decide_eq_true af,decide_eq_true ai];refine List.all_eq_true.mpr λ x ak=>?_
 obtain ⟨c,i,j,rfl,aj,f⟩:=hf x ak;unfold hS;rw [oQ aj];exact f
theorem W5 {H:ah} {p:Addr} {xs:List V} (h:H p=some (.tup xs)) (ai:xs.length<=16) (hf : ∀ x∈xs,lK H x):BO H (.ref p) :=
 Vx h (by omega) λ x ak=>by
  obtain ⟨c,i,j,rfl,aj,f⟩:=hf x ak;exact ny aj (by simp) (all2 trivial trivial)
section
variable {P:Program} {w:World} {K:PySem.W.Frag} {mg:Str->Option Value} {base:Heap}
def Ka (T:bE K mg):bX:=λ vs H Q _ => ∃ (bn aH pr:Addr) (xs:List V),vs=[.ref bn,.ref pr]/\H bn=some (.ins T.f6 aH [])/\H pr=some (.tup xs)/\1<=xs.length/\xs.length<=16/\(∀ x∈xs,lK H x) /\
 ∀ hd dl H',bW bn H H'->H hd=none->H dl=none->fv T H' bn pr hd dl [] []->Q .bg H'
theorem aaL (T:bE K mg):c6 P w mg base cD 5 T.zg (Ka T):=by
 refine T.zg.fn.ec aaU (λ vs H Q E h=>?_) (λ ba A outer s H vs Q E aq h=>?_)
 ·obtain ⟨bn,aH,pr,xs,rfl,_⟩:=h;rfl
 ·obtain ⟨bn,aH,pr,xs,rfl,J,sa,hc,xQ,gQ,q⟩:=h;refine ⟨_,(aM (cM (gs (ej (b7 (aaO T) aq bM (ae (aa 1) av))))
    (aV s9)
    ct)
   (aM (CD (aa 0) (aa 1) rfl)
   (aM (CD (aa 0) v3 rfl)
   (aV (CD (aa 0) (eL av) rfl))))),?_⟩
  refine ⟨_,rfl,.ref pr,rfl,W5 sa xQ gQ,λ H1 s1=>⟨_,rfl,?_⟩⟩;rw [X6 sa hc xQ gQ];refine bx ⟨_,rfl,_,rfl,bn,_,aH,_,rfl,s1 _ _ J,T.eO,T.Mj,by decide,?_⟩;refine λ hd ar f2 s2 ai=>⟨_,rfl,bn,_,aH,_,rfl,s2 _ _ bA,T.eO,T.oV,(by show (1:Nat)<1000;decide),?_⟩
  refine ⟨cg,λ dl aK dh s3 aF=>⟨_,rfl,bn,_,aH,_,rfl,s3 _ _ bA,T.eO,T.zi,(by show (2:Nat)<1000;decide),?_⟩⟩;have xG:hd≠bn:=λ z=>by rw [z,bA] at f2;cases f2
  have Bt:dl≠bn:=λ z=>by rw [z,bA] at dh;cases dh
  have acN:dl≠hd:=λ z=>by rw [z,a8 xG,ai] at dh;cases dh
  have xg:H hd=none:=s1.free (by rw [a8 xG] at f2;exact f2);have r3:H dl=none:=by
   rw [a8 Bt] at dh;have g:=s2.free dh;rw [a8 Bt] at g;exact s1.free g
  refine q hd dl _ (λ c o ef dX=>?_) xg r3 ⟨⟨aH,bA⟩,?_,?_⟩
  ·rw [a8 ef];refine s3 _ _ ?_;rw [a8 ef];refine s2 _ _ ?_;rw [a8 ef];exact s1 _ _ dX
  ·rw [a8 xG];refine s3 _ _ ?_;rw [a8 xG];exact ai
  ·rw [a8 Bt];exact aF
def Ke:bX:=λ vs H Q _ => ∃ (l d:Addr) (xs:List V),vs=[.ref l,.ref d]/\H l=some (.lst xs)/\H d=some (.lst xs)/\xs.length<=1000/\(∀ x∈xs,sM x=true) /\ ∀ H',aC H H'->Q (.aJ true) H'
theorem Zs (T:bE K mg):c6 P w mg base cD 5 T.oS Ke:=by
 refine T.oS.fn.ec th (λ vs H Q E h=>?_) (λ ba A outer s H vs Q E aq h=>?_)
 ·obtain ⟨l,d,xs,rfl,_⟩:=h;rfl
 ·obtain ⟨l,d,xs,rfl,au,hd,PM,Pw,q⟩:=h;refine ⟨_,(aM (cM (cn mv (aa 1) fj (bZ _))
    (aV (bH (gE mv (aa 0) fj (bZ _))))
    ct)
   (aM (cM (ej (bG d8 T.dg df (ae (aa 1) (ae (d0 (by rfl) T.pW pV) av))))
    (aV (bH (iN (bG d8 T.dg df (ae (aa 0) (ae (d0 (by rfl) T.pW pV) av))) (ik (gE eJ (aa 0) (aa 1) (bZ _))))))
    ct)
   (aM (cM (ej (bG d8 T.dg df (ae (aa 1) (ae (d0 (by rfl) T.sJ sF) av))))
    (aV (bH (iN (b7 (y7 T) aq bM (ae (aa 0) av)) (ik (gE eJ (aa 0) (aa 1) (bZ _))))))
    ct)
   (aM (cM (ej (bG d8 T.dg df (ae (aa 1) (ae (d0 (by rfl) T.nd nc) av))))
    (aV (bH (iN (bG d8 T.dg df (ae (aa 0) (ae (d0 (by rfl) T.nd nc) av))) (ik (gE eJ (aa 0) (aa 1) (bZ _))))))
    ct)
   (aM (cM (ez.pt (gr (cn jF (bG d8 T.dg df (ae (aa 1) (ae (d0 (by rfl) T.gv gu) av))) (bG d8 T.dg df (ae (aa 0) (ae (d0 (by rfl) T.gv gu) av))) (bZ _)) (hT (cn jF (bG d8 T.dg df (ae (aa 1) (ae (d0 (by rfl) T.q_ q9) av))) (bG d8 T.dg df (ae (aa 0) (ae (d0 (by rfl) T.q_ q9) av))) (bZ _)))))
    (aV (bH gX))
    ct)
   (aV (bH (iN (gE eJ (bG gG T.fi fh (ae (aa 0) av)) (bG gG T.fi fh (ae (aa 1) av)) (bZ _)) (ik (bG (oT rfl) T.oH oE (ae (f9 (fA th (N:=["one", "other"]) (js:=[none,none]) (List.forall_mem_nil _)) rfl (yK rfl rfl T.ja (ae (aa 0) (ae (aa 1) av))) (λ _ _ _ _=>(lO (K:=K) (n:=2) rfl rfl (da fC (da (kb (i:=1) (show List.Nodup (["one", "other"]:List Str) from by decide +kernel) rfl (Or.inl rfl) (Or.inr rfl)) fV)))) (λ _ _ _ _=>fW)
     (λ _ _ _ _=>(b7 (DR T) aq bM (ae (aa 0) (ae (aa 1) av))))) av))))))))))),?_⟩
  have kj:d5 H (.ref d):=C6 hd;have h1:d5 H (.ref l):=C6 au;obtain ⟨bk,qW,ed⟩:=sI (K:=K) kj;obtain ⟨gy,so,mE⟩:=vG (K:=K) kj;obtain ⟨cb,tys,ao⟩:=oG (K:=K) kj;obtain ⟨tt,BM,zG⟩:=pQ (K:=K) kj;obtain ⟨ck,BL,k9⟩:=yk (K:=K) kj;obtain ⟨zI,Ay,Av⟩:=pQ (K:=K) h1;obtain ⟨cW,Ax,Au⟩:=yk (K:=K) h1;have zF:uV H (.ref d)=true:=by show pK (H d)=true;rw [hd];rfl
  have zH:uV H (.ref l)=true:=by show pK (H l)=true;rw [au];rfl
  refine ⟨_,rfl,rfl,_,rfl,bx ?_⟩;refine ⟨_,rfl,_, "bool", bk,_,rfl,qW,ed,_,rfl,bx ?_⟩;refine ⟨_,rfl,_, "int", gy,_,rfl,so,mE,_,rfl,bx ?_⟩;refine ⟨_,rfl,_, "str", cb,_,rfl,tys,ao,_,rfl,bx ?_⟩;refine ⟨_,rfl,_, "tuple", tt,_,rfl,BM,zG,_,rfl,_, "tuple", zI,_,rfl,Ay,Av,rfl,_,rfl,?_⟩;rw [CQ hd,CQ au];refine bx ⟨_,rfl,_, "list", ck,_,rfl,BL,k9,_,rfl,_, "list", cW,_,rfl,Ax,Au,rfl,_,rfl,?_⟩;rw [zF,zH];refine bx ?_;refine ⟨_,rfl,l,xs,rfl,.inl (a3.of au),_,rfl,d,xs,rfl,.inl (a3.of hd),rfl,_,rfl,?_⟩;rw [decide_eq_true rfl];refine cm ?_;refine ⟨_,rfl,_,rfl,l,d,xs,xs,rfl,au,hd,λ D a4=>?_⟩;refine KC (xs:=xs) (ys:=xs) (by rw [sizeLine_eq];omega) (λ i σ' H' zs=>(∃ u v:Option V,σ'=[u,v])/\aC H H'/\zs=(List.replicate i true).map V.aJ) ⟨⟨_,_,rfl⟩,aC.new a4,rfl⟩ (λ i σ' H' zs _ ⟨_,s',_⟩=>⟨s' _ _ au,s' _ _ hd⟩) ?_ ?_
  ·rintro i x y p σ' H' zs rC dj eh ax c2 hn ⟨⟨u,v,rfl⟩,s',rfl⟩ fb;rw [dj] at eh;cases eh;have az:=Pw x (List.mem_of_getElem? dj);refine ⟨p,_,rfl,aR.of bA,rfl,_,_,rfl,_,_,rfl,rfl,?_⟩;have sp:aC H (upd H' p (.tup [x,x])):=aC.more s' ax;refine ⟨_,rfl,_,rfl,x,x,rfl,y1 az,az,?_⟩;rw [decide_eq_true rfl];refine fb _ _ _ ?_ ⟨⟨_,_,rfl⟩,?_,?_⟩
   ·rw [a8 (cj c2 ax)];exact c2
   ·intro k7 o e;rw [a8 (cj e a4)];exact sp k7 o e
   ·rw [List.replicate_succ',List.map_append];rfl
  ·rintro σ' H' zs c2 hn ⟨_,s',rfl⟩;refine ⟨D,_,rfl,a3.of c2,?_⟩;rw [show (List.replicate (min xs.length xs.length) true).all id=true by simp];exact q H' s'
def ZE:bX:=λ vs H Q E=>KX vs H Q E\/Ke vs H Q E
theorem y6 (T:bE K mg):c6 P w mg base cD 5 T.oS ZE:=dU.or ((KU T).mono (by decide)) (Zs T)
def ym (H:ah) (a:Addr):Nat:=match H a with
 | some (.lst xs)=>xs.length
 | _=>0
def aby:bX:=λ vs H Q _ => ∃ (l b:Addr) (cb:List V) (aA:List (Int×Int)) (ag:List Int) (m:Int),vs=[.ref l,.ref b,.int m]/\H l=some (.lst cb)/\gn H cb aA/\H b=some (tupI ag)/\ag.length=10/\nn ag=true/\0<=m/\m<=5000 /\
 ∀ aU r u H' rs rws,H aU=none->H r=none->H u=none->aC H H'->H' aU=some (.lst [.ref r,.ref u])->H' r=some (.lst rs)->eX H' rs rws->Cm (rowsOf aA) m.toNat ag rws->H' u=some (.lst ((ey (iF (rowsOf aA) m.toNat ag)).map V.int))->Q (.ref aU) H'
theorem abw (T:bE K mg):c6 P w mg base cD 5 T.Mr aby:=by
 refine T.Mr.fn.ec wz (λ vs H Q E h=>?_) (λ ba A outer s H vs Q E aq h=>?_)
 ·obtain ⟨l,b,cb,aA,ag,m,rfl,_⟩:=h;rfl
 ·obtain ⟨l,b,cb,aA,ag,m,rfl,au,bJ,J,eV,gB,m0,qc,q⟩:=h;refine ⟨_,(aM (bN 3 wz (eL (ae (aa 1) av)))
   (aM (bN 4 wz (eL av))
   (aM (bN 5 wz (b7 (L8 T) aq bM (ae (aa 0) (ae (aa 1) av))))
   (aM (s_ PassesOwn.never (ez.pt (ra (cn lJ (bG gG T.fi fh (ae (aa 4) av)) (aa 2) (bZ _)) (rh (cn Ju (aa 5) fj (bZ _)))))
    (aM (hV (jG PySem.F.plainAttrs_list PySem.F.slot_list_append PySem.F.type_list_append p0 (aa 4) (ae (aa 5) av)))
   (aM (hV (jG PySem.F.plainAttrs_list PySem.F.slot_list_append PySem.F.type_list_append p0 (aa 3) (ae (b7 (Wk T) aq bM (ae (aa 0) (ae (cS d7 (aa 3) (nf nu aL) (λ _ _=>rfl)) (ae (aa 5) (ae aL av))))) av)))
   (aV (bN 5 wz (b7 (L8 T) aq bM (ae (aa 0) (ae (cS d7 (aa 3) (nf nu aL) (λ _ _=>rfl)) av))))))))
   (aV (bH (eL (ae (aa 3) (ae (aa 4) av))))))))),?_⟩
  refine ⟨_,rfl,cg,λ r H1 f1 s1 eT=>?_⟩;refine ⟨cg,λ u ar f2 s2 PD=>?_⟩;have Hc:r≠u:=λ z=>by rw [z,f2] at eT;cases eT
  have ot:=s1.trans s2;have wL:H u=none:=s1.free f2;have R:=y3 aA;refine ⟨_,rfl,_,rfl,l,b,cb,aA,ag,rfl,ot _ _ au,bJ.same ot,ot _ _ J,eV,gB,λ aK s3=>?_⟩;refine tj (λ σ bc => ∃ (ws:List Nat) (rs:List V) (rws:List (List Int)) (cur:List Int),σ=[some (.ref l),some (.ref b),some (.int m),some (.ref r),some (.ref u),some (kL (c7 (rowsOf aA) cur))]/\aC H bc/\bc u=some (.lst ((ey ws).map V.int))/\bc r=some (.lst rs)/\eX bc rs rws/\rws.length=ws.length+1/\(∀ i,i<rws.length->rws[i]?=goN (rowsOf aA) i ag)/\goN (rowsOf aA) ws.length ag=some cur/\ws.length<=m.toNat/\ws++iF (rowsOf aA) (m.toNat - ws.length) cur=iF (rowsOf aA) m.toNat ag)
   (λ _ bc=>m.toNat - ym bc u) ⟨[],[.ref b],[ag],ag,rfl,ot.trans s3,s3 _ _ PD,s3 _ _ (s2 _ _ eT),eX.one ⟨b,rfl,s3 _ _ (ot _ _ J)⟩,rfl,(λ i ay=>by
    have:i=0:=by simpa using ay
    subst this;rfl),rfl,Nat.zero_le _,rfl⟩ ?_
  rintro σ bc ⟨ws,rs,rws,cur,rfl,s4,ob,A_,qv,pv,ks,xZ,xx,qJ⟩;have GB:(((ey ws).map V.int).length:Int)=(ws.length:Int):=by rw [List.length_map,vX]
  have jD:=sO R eV gB xZ;have kq:rws[ws.length]?=some cur:=by rw [ks _ (by omega)];exact xZ
  refine ⟨_,rfl,u,_,rfl,.inl (a3.of ob),_,rfl,_,_,rfl,rfl,_,rfl,eu (λ h=>?_) (λ h=>?_)⟩
  ·have h0:(((ey ws).map V.int).length:Int)<m:=of_decide_eq_true h;rw [GB] at h0;obtain ⟨d,hd⟩ : ∃ d,m.toNat - ws.length=d+1:=⟨m.toNat - ws.length - 1,by omega⟩
   refine ⟨_,rfl,rfl,_,rfl,?_⟩;cases kK:c7 (rowsOf aA) cur with
   | none =>
    refine bx ?_;rw [Dm kK,List.append_nil] at qJ;refine ⟨_,rfl,_,rfl,cg,λ aU bt d_ s5 bT=>?_⟩;rw [<-qJ] at q;refine q aU r u bt rs rws (s4.free d_) f1 wL (s4.trans s5) bT (s5 _ _ A_) (qv.same s5) ?_ (s5 _ _ ob);unfold Cm;rw [<-qJ];exact ⟨pv,ks,.inr ⟨cur,xZ,kK⟩⟩
   | some k =>
    obtain ⟨c,aj,_,aB⟩:=pY kK;obtain ⟨x,e,ak,rfl,he⟩:=qv.of kq;refine cm (sq ⟨_,rfl,.inl ⟨rfl,_,a3.of ob⟩,_,rfl,u,_,_,rfl,rfl,ob,?_,λ bt dt bT=>?_⟩)
    ·rw [List.length_map,vX,sizeLine_eq];omega
    have k5 : ∀ c o,H c=some o->bt c=some o:=λ c o en=>dt c o (λ z=>by rw [z,wL] at en;cases en) (s4 _ _ en)
    have uQ:bt r=some (.lst rs):=dt _ _ Hc A_;have OW:eX bt rs rws:=qv.but ob dt;have Qo:e≠u:=cI he ob nofun;have O0:gn bt cb aA:=(bJ.same s4).but ob dt;have zW:rs.length=ws.length+1:=by rw [qv.1,pv]
    refine ⟨_,rfl,.inl ⟨rfl,_,a3.of uQ⟩,_,rfl,_,rfl,_,rfl,r,_,_,_,rfl,rfl,a3.of uQ,CJ zW ak,_,rfl,l,e,cb,aA,cur,c,k,1,rfl,k5 _ _ au,O0,dt _ _ Qo he,jD.1,aj,⟨by decide,by decide⟩,λ p cE bL hl=>?_⟩;refine ⟨r,rs,_,rfl,rfl,bL _ _ uQ,?_,λ cT fH jO=>?_⟩
    ·rw [zW,sizeLine_eq];omega
    have lg:aC H cT:=λ c o en=>fH c o (λ z=>by rw [z,f1] at en;cases en) (bL _ _ (k5 _ _ en))
    have cB:=CG kK aj;have Qv:p≠r:=cI hl (bL _ _ uQ) nofun;have qI:cT p=some (tupI (cv cur c 1)):=fH _ _ Qv hl;have uw:eX cT (rs++[.ref p]) (rws++[cv cur c 1]):=((OW.same bL).app (eX.one ⟨p,rfl,hl⟩)).but (bL _ _ uQ) fH;have uN:goN (rowsOf aA) (ws.length+1) ag=some (cv cur c 1):=by
     show (goN (rowsOf aA) ws.length ag).bind _=_;rw [xZ];exact cB
    have x3:=sO R eV gB uN;refine ⟨_,rfl,_,rfl,_,rfl,r,_,_,_,rfl,rfl,a3.of jO,JQ _ _,l,p,cb,aA,cv cur c 1,rfl,lg _ _ au,bJ.same lg,qI,x3.1,x3.2,λ e9 cH=>?_⟩;have GP:e9 u=some (.lst ((ey (ws++[k])).map V.int)):=by
     rw [cH _ _ (fH _ _ (λ z=>Hc z.symm) (bL _ _ bT))];unfold ey;rw [List.map_append,List.map_append];rfl
    refine ⟨⟨ws++[k],rs++[.ref p],rws++[cv cur c 1],cv cur c 1,rfl,lg.trans cH,GP,cH _ _ jO,uw.same cH,?_,?_,?_,?_,?_⟩,?_⟩
    ·rw [List.length_append,List.length_append,pv];rfl
    ·intro i ay;by_cases uI:i<rws.length
     ·rw [List.getElem?_append_left uI];exact ks i uI
     ·have:i=ws.length+1:=by
       rw [List.length_append] at ay;have:[cv cur c 1].length=1:=rfl;omega
      subst this;rw [<-pv,List.getElem?_concat_length,pv,uN]
    ·rw [List.length_append];exact uN
    ·rw [List.length_append];show ws.length+1<=_;omega
    ·rw [hd,Dn kK aj] at qJ;rw [List.length_append,show m.toNat - (ws.length + [k].length)=d by show m.toNat - (ws.length+1)=d;omega,List.append_assoc];exact qJ
    ·show m.toNat - ym e9 u<m.toNat - ym bc u;unfold ym;rw [GP,ob];show m.toNat - ((ey (ws++[k])).map V.int).length<m.toNat - ((ey ws).map V.int).length;rw [List.length_map,List.length_map,vX,vX,List.length_append];show m.toNat - (ws.length+1)<m.toNat - ws.length;omega
  ·have h0 : ¬ (((ey ws).map V.int).length:Int)<m:=λ z=>h (decide_eq_true z)
   rw [GB] at h0;have PK:ws.length=m.toNat:=by omega
   rw [show m.toNat - ws.length=0 by omega] at qJ;have HL:ws=iF (rowsOf aA) m.toNat ag:=by rw [<-qJ];show ws=ws++[];rw [List.append_nil]
   refine bx ⟨_,rfl,_,rfl,cg,λ aU bt d_ s5 bT=>?_⟩;rw [<-HL] at q;refine q aU r u bt rs rws (s4.free d_) f1 wL (s4.trans s5) bT (s5 _ _ A_) (qv.same s5) ?_ (s5 _ _ ob);unfold Cm;rw [<-HL];exact ⟨pv,ks,.inl PK⟩
def hu (T:bE K mg) (Q:bz):dz:=λ zv d H1=>d=none /\ ∃ (C:Addr) (i:Nat) (x:Str),zv=.ref C/\vO T C i/\i<12/\y0[i]?=some x/\Under K C T.oW /\ ∀ H',aC H1 H'->Q (.str x) H'
theorem hu.name (T:bE K mg) {Q:bz} {H1:ah} (q : ∀ H',aC H1 H'->Q (.str "name") H'):hu T Q (.ref T.eP) none H1:=⟨rfl,T.eP,2, "name", rfl,XF T,by decide,rfl,T.VE,q⟩
theorem hu.TG (T:bE K mg) {Q:bz} {H1:ah} (q : ∀ H',aC H1 H'->Q (.str "powers") H'):hu T Q (.ref T.fE) none H1:=⟨rfl,T.fE,5, "powers", rfl,ZR T,by decide,rfl,T.YR,q⟩
theorem hu.xY (T:bE K mg) {Q:bz} {H1:ah} (q : ∀ H',aC H1 H'->Q (.str "deed") H'):hu T Q (.ref T.fD) none H1:=⟨rfl,T.fD,1, "deed", rfl,XE T,by decide,rfl,T.VD,q⟩
def ts (T:bE K mg):bX:=λ vs H Q _ => ∃ (bn d2 aH:Addr) (cW:List (Str×V)) (way:Str) (v bY:V),vs=[.ref bn,.ref d2]/\H d2=some (.tup [.str way,v,bY])/\H bn=some (.ins T.f6 aH cW)/\cW.lookup ("put" : Str)=none/\cW.lookup ("run" : Str)=none/\cW.lookup ("drop" : Str)=none/\cW.lookup ("undo" : Str)=none /\
 ((way = "put" /\ Dj T [.ref bn,v,bY] H Q (hu T Q))\/(way = "run" /\ Dk T [.ref bn,v,bY] H Q (hu T Q))\/(way = "drop" /\ DK T [.ref bn,v] H Q (hu T Q))\/(way = "undo" /\ DL T [.ref bn] H Q (hu T Q)))
theorem mw {x y:Str} (h:x≠y):decide (V.str x=V.str y)=false:=decide_eq_false λ z=>by injection z with z;exact h z
theorem abf (T:bE K mg):c6 P w mg base cD 9 T.Me (ts T):=by
 refine T.Me.fn.ec wx (λ vs H Q E h=>?_) (λ ba A outer s H vs Q E aq h=>?_)
 ·obtain ⟨bn,d2,aH,cW,way,v,bY,rfl,_⟩:=h;rfl
 ·obtain ⟨bn,d2,aH,cW,way,v,bY,rfl,h8,J,cQ,e0,lh,nP,h⟩:=h;refine ⟨_,(aM (nq (aa 1) (lN rfl (da (dM 2 wx) (da (dM 3 wx) (da (dM 4 wx) fV)))))
   (aV (TR (E:=(hu T Q)) (i:=5) rfl rfl rfl T.Z5 (by rfl) wx.cX rfl rfl (λ _ _ mH=>(aM (cM (cn eJ (aa 2) dq (bZ _))
    (aV (bH (ka (aa 0) T.eO T.za.at_ (aai T) (aq.mono (by decide)) T.za.bd .nil (vM rfl mH) (ae (aa 3) (ae (aa 4) av)))))
    ct)
   (aM (cM (cn eJ (aa 2) dq (bZ _))
    (aV (bH (ka (aa 0) T.eO T.zb.at_ (aaj T) (aq.mono (by decide)) T.zb.bd .nil (vM rfl mH) (ae (aa 3) (ae (aa 4) av)))))
    ct)
   (aM (cM (cn eJ (aa 2) dq (bZ _))
    (aV (bH (ka (aa 0) T.eO T.ze.at_ (aaJ T) (aq.mono (by decide)) T.ze.bd .nil (vM rfl mH) (ae (aa 3) av))))
    ct)
   (aV (bH (Dc (aa 0) T.eO T.zh.at_ (aaM T) (aq.mono (by decide)) T.zh.bd .nil (vM rfl mH))))))))
    (λ _=>(aV (bH (WJ (aaI T) ((aq.mark _).mono (by decide)) rfl T.tu.at_ T.tu.fn.a_ T.tu.bd (ae (aa 5) av)))))))),?_⟩
  refine ⟨_,rfl,d2,_,rfl,aR.of h8,rfl,_,_,rfl,_,_,rfl,_,_,rfl,rfl,⟨_,rfl,rfl,_,rfl,?_⟩,?_⟩
  ·rcases h with ⟨rfl,h⟩ | ⟨rfl,h⟩ | ⟨rfl,h⟩ | ⟨rfl,h⟩
   ·rw [decide_eq_true rfl];exact cm ⟨_,rfl,bn,aH,cW,rfl,J,cQ,_,rfl,_,rfl,h⟩
   ·rw [mw (show ("run" : Str) ≠ "put" by decide)];refine bx ⟨_,rfl,rfl,_,rfl,?_⟩;rw [decide_eq_true rfl];exact cm ⟨_,rfl,bn,aH,cW,rfl,J,e0,_,rfl,_,rfl,h⟩
   ·rw [mw (show ("drop" : Str) ≠ "put" by decide)];refine bx ⟨_,rfl,rfl,_,rfl,?_⟩;rw [mw (show ("drop" : Str) ≠ "run" by decide)];refine bx ⟨_,rfl,rfl,_,rfl,?_⟩;rw [decide_eq_true rfl];exact cm ⟨_,rfl,bn,aH,cW,rfl,J,lh,_,rfl,h⟩
   ·rw [mw (show ("undo" : Str) ≠ "put" by decide)];refine bx ⟨_,rfl,rfl,_,rfl,?_⟩;rw [mw (show ("undo" : Str) ≠ "run" by decide)];refine bx ⟨_,rfl,rfl,_,rfl,?_⟩;rw [mw (show ("undo" : Str) ≠ "drop" by decide)];exact bx ⟨_,rfl,bn,aH,cW,rfl,J,nP,h⟩
  ·rintro C d H1 ⟨rfl,ML,i,x,eR,Ng,ay,ak,un,q⟩;cases eR;exact ⟨un,λ e σ1 he hσ=>⟨_,List.getElem?_set_self hσ,e,C,i,x,rfl,bA,Ng,ay,ak,λ H' s'=>q H' ((aC.new he).trans s')⟩⟩
end
def jV (H H':ah):Prop := ∀ c xs,H c=some (.tup xs)->H' c=some (.tup xs)
theorem jV.of {H H':ah} (s:aC H H'):jV H H':=λ c xs h=>s _ _ h
theorem gp.dS {H H':ah} {xs:List V} {aA:List (Int×Int)} (h:gp H xs aA) (k:jV H H'):gp H' xs aA:=⟨h.1,λ i x ak=>by
 obtain ⟨a,b,c,af,ai,aF,aX⟩:=h.2 i x ak;exact ⟨a,b,c,af,ai,k _ _ aF,aX⟩⟩
abbrev Ent:=List Int×Int
abbrev dN:=List (Str×Ent)
def lF (H:ah) (u:V) (e:Ent):Prop := ∃ w a:Addr,u=.ref w/\H w=some (.tup [.ref a,.int e.2])/\H a=some (tupI e.1)
theorem lF.dS {H H':ah} {u:V} {e:Ent} (h:lF H u e) (k:jV H H'):lF H' u e:=by
 obtain ⟨w,a,aO,af,ai⟩:=h;exact ⟨w,a,aO,k _ _ af,k _ _ ai⟩
inductive dI (H:ah):List (Key×V)->dN->Prop
 | nil:dI H [] []
 | cons {x:Str} {u:V} {e:Ent} {kvs:List (Key×V)} {aY:dN}:lF H u e->dI H kvs aY->dI H ((cz x,u)::kvs) ((x,e)::aY)
section
variable {H H':ah} {kvs:List (Key×V)} {aY:dN} {x:Str} {u:V} {e:Ent}
theorem vR {x y:Str} (h:cz x=cz y):x=y:=by injection h
theorem dI.dS (k:jV H H') : ∀ {kvs:List (Key×V)} {aY:dN},dI H kvs aY->dI H' kvs aY
 | _,_,.nil=>.nil
 | _,_,.cons h t=>.cons (h.dS k) (t.dS k)
theorem dI.len : ∀ {kvs:List (Key×V)} {aY:dN},dI H kvs aY->kvs.length=aY.length
 | _,_,.nil=>rfl
 | _,_,.cons _ t=>by rw [List.length_cons,List.length_cons,t.len]
theorem dI.keys : ∀ {kvs:List (Key×V)} {aY:dN},dI H kvs aY->kvs.map (·.1)=(ei aY).map cz
 | _,_,.nil=>rfl
 | _,_,.cons _ t=>by rw [List.map_cons,t.keys];rfl
theorem dI.none : ∀ {kvs:List (Key×V)} {aY:dN},dI H kvs aY->d6 aY x=none->dZ kvs (cz x)=none
 | _,_,.nil,_=>rfl
 | _,_,.cons (x:=y) _ t,h=>by
  rw [tp] at h;by_cases aN:y=x
  ·rw [if_pos aN] at h;cases h
  ·rw [if_neg aN] at h;rw [v7 (λ z=>aN (vR z))];exact t.none h
theorem dI.some : ∀ {kvs:List (Key×V)} {aY:dN},dI H kvs aY->d6 aY x=Option.some e -> ∃ u,dZ kvs (cz x)=Option.some u/\lF H u e
 | _,_,.nil,h=>by cases h
 | _,_,.cons (x:=y) (u:=u) bD t,h=>by
  rw [tp] at h;by_cases aN:y=x
  ·rw [if_pos aN] at h;cases h;exact ⟨u,yW (by rw [aN]),bD⟩
  ·rw [if_neg aN] at h;obtain ⟨jj,af,ai⟩:=t.some h;exact ⟨jj,by rw [v7 (λ z=>aN (vR z))];exact af,ai⟩
theorem dI.app : ∀ {kvs:List (Key×V)} {aY:dN},dI H kvs aY->lF H u e->dI H (kvs++[(cz x,u)]) (aY++[(x,e)])
 | _,_,.nil,h=>.cons h .nil
 | _,_,.cons bD t,h=>.cons bD (t.app h)
theorem dI.q2 (bD:lF H u e) : ∀ {kvs:List (Key×V)} {aY:dN},dI H kvs aY->dI H (kvs.map λ d3=>if d3.1=cz x then (d3.1,u) else d3) (aY.map λ p=>if p.1=x then (p.1,e) else p)
 | _,_,.nil=>.nil
 | _,_,.cons (x:=y) h t=>by
  rw [List.map_cons,List.map_cons];by_cases aN:y=x
  ·rw [if_pos (show cz y=cz x by rw [aN]),if_pos aN];exact .cons bD (t.q2 bD)
  ·rw [if_neg (λ z=>aN (vR z)),if_neg aN];exact .cons h (t.q2 bD)
theorem dI.put (d:dI H kvs aY) (bD:lF H u e):dI H (putK kvs (cz x) u) (hq aY x e):=by
 unfold putK hq;have Rh:(kvs.any λ d3=>decide (d3.1=cz x))=(aY.any λ p=>decide (p.1=x)):=by
  induction d with
  | nil=>rfl
  | @cons y _ _ _ _ _ _ c5 =>
   rw [List.any_cons,List.any_cons,c5];have:decide (cz y=cz x)=decide (y=x):=decide_eq_decide.mpr ⟨vR,λ z=>by rw [z]⟩;show (decide (cz y=cz x)||_)=(decide (y=x)||_);rw [this]
 rw [Rh];split
 ·exact d.q2 bD
 ·exact d.app bD
theorem dI.drop : ∀ {kvs:List (Key×V)} {aY:dN},dI H kvs aY->dI H (oF kvs (cz x)) (hs aY x)
 | _,_,.nil=>.nil
 | _,_,.cons (x:=y) h t=>by
  unfold oF hs;by_cases aN:y=x
  ·rw [List.filter_cons_of_neg (by simp [aN]),List.filter_cons_of_neg (by simp [aN])];exact t.drop
  ·rw [List.filter_cons_of_pos (by exact decide_eq_true λ z=>aN (vR z)),List.filter_cons_of_pos (by exact decide_eq_true aN)];exact .cons h t.drop
end
section
variable {P:Program} {w:World} {K:PySem.W.Frag} {mg:Str->Option Value} {base:Heap}
def pS (v:V):Bool:=gU v&&lG v
theorem JP : ∀ xs:List V,(xs.all gU&&xs.all lG)=xs.all pS
 | []=>rfl
 | x::xs=>by
  rw [List.all_cons,List.all_cons,List.all_cons,<-JP xs];unfold pS;cases gU x<;>cases lG x<;>cases xs.all gU<;>cases xs.all lG<;>rfl
theorem Wa {H:ah} {v:V} {xs:List V} (h:er H v=some xs):ht H v=(decide (xs.length=10)&&xs.all pS):=by
 unfold ht;rw [h,<-JP xs,<-Bool.and_assoc]
def abk:bX:=λ vs H Q _ => ∃ v,vs=[v]/\dK H v /\ ∀ H',aC H H'->Q (.aJ (ht H v)) H'
theorem abg (T:bE K mg):c6 P w mg base cD 2 T.Mf abk:=by
 refine T.Mf.fn.ec Mp (λ vs H Q E h=>?_) (λ ba A outer s H vs Q E aq h=>?_)
 ·obtain ⟨v,rfl,_⟩:=h;rfl
 ·obtain ⟨v,rfl,⟨k,a_⟩,q⟩:=h;refine ⟨_,(aM (cM (ez.pt (gr (gs (ej (bG d8 T.dg df (ae (aa 0) (ae (d0 (by rfl) T.gv gu) av))))) (hT (cn jF (bG gG T.fi fh (ae (aa 0) av)) aL (bZ _)))))
    (aV (bH gX))
    ct)
   (aV (bH (bG (oT rfl) T.oH oE (ae (f9 (fA Mp (N:=["one"]) (js:=[none]) (List.forall_mem_nil _)) rfl (nj (aa 0)) (λ _ _ _ _=>fC) (λ _ _ _ _=>fW)
     (λ _ _ _ _=>(iN (b7 (y7 T) aq bM (ae (aa 0) av)) (ik (C_ vL vL aL (aa 0) (b8 vS aL aL)))))) av))))),?_⟩
  obtain ⟨t,ty,e⟩:=pQ (K:=K) k;refine ⟨_,rfl,v, "tuple", t,_,rfl,ty,e,_,rfl,?_⟩;cases bJ:er H v with
  | none =>
   refine cm (cm ?_);have aU:=q H (aC.refl H);rw [show ht H v=false by unfold ht;rw [bJ]] at aU;exact aU
  | some xs =>
   obtain ⟨a,rfl,aw⟩:=rk bJ;obtain ⟨au,aB⟩:=a_ xs bJ;rw [Wa bJ] at q;refine bx ⟨_,rfl,a,xs,rfl,.inr (aR.of aw),rfl,_,rfl,eu (λ h=>?_) (λ h=>?_)⟩
   ·have aQ:xs.length≠10:=λ z=>by
     rw [z] at h;exact absurd h (by decide)
    have aU:=q H (aC.refl H);rw [decide_eq_false aQ] at aU;exact aU
   ·have aQ:xs.length=10:=by
     have h':decide (V.int (xs.length:Int)=V.int 10)=true:=by
      cases z:decide (V.int (xs.length:Int)=V.int 10) with
      | true=>rfl
      | false=>exact absurd (show (!decide (V.int (xs.length:Int)=V.int 10))=true by rw [z];rfl) h
     have:=sV h';omega
    refine ⟨_,rfl,a,rfl,⟨_,aR.of aw⟩,λ D a4=>L4 (xs:=xs) (f:=λ v=>.aJ (pS v)) rfl (by rw [aQ];decide) a4 (aR.of aw) ?_ ⟨D,xs.map pS,rfl,?_,?_⟩⟩
    ·intro x H' R s' ak r;refine ⟨_,rfl,x,rfl,aC.kind s' (aB x ak),_,rfl,?_⟩;cases hw:sf x with
     | false =>
      refine bx ?_;have el:pS x=false:=by cases x<;>first | rfl | cases hw
      have b5:R (.aJ (pS x)) H':=r;rw [el] at b5;exact b5
     | true =>
      obtain ⟨n,rfl⟩:=CR hw;refine cm ⟨_,rfl,_,_,rfl,rfl,_,rfl,?_⟩;by_cases h0:0<=n
      ·rw [decide_eq_true h0];refine cm ⟨_,_,rfl,rfl,⟨by decide,by decide,by decide⟩,_,_,rfl,rfl,?_⟩;have b5:R (.aJ (decide (0<=n)&&decide (n<=1000000))) H':=r;rw [decide_eq_true h0] at b5;exact b5
      ·rw [decide_eq_false h0];have b5:R (.aJ (decide (0<=n)&&decide (n<=1000000))) H':=r;rw [decide_eq_false h0] at b5;exact bx b5
    ·rw [List.map_map];exact a3.of bA
    ·have aU:=q _ (aC.new (o:=.lst (xs.map λ v=>V.aJ (pS v))) a4);rw [decide_eq_true aQ,Bool.true_and] at aU;rw [List.all_map];exact aU
end
theorem S2:bootBuiltins "dict" = some (.type "dict"):=by decide +kernel
section
variable {P:Program} {w:World} {K:PySem.W.Frag} {mg:Str->Option Value} {base:Heap}
theorem Tc (c:Nat):((!decide (e6 (⟨#[c]⟩:Str)<e6 ("a" : Str))) && !decide (e6 ("z" : Str)<e6 (⟨#[c]⟩:Str)))=kP c:=by
 have es:e6 ("a" : Str)=[97]:=by decide +kernel
 have p8:e6 ("z" : Str)=[122]:=by decide +kernel
 rw [es,p8,show e6 (⟨#[c]⟩:Str)=[c] from rfl];unfold kP;have af:([c] < [97]) ↔ c<97:=by rw [List.cons_lt_cons_iff];exact ⟨λ z=>z.elim id λ y=>absurd y.2 (List.not_lt_nil _),.inl⟩
 have ai:([122] < [c]) ↔ 122<c:=by rw [List.cons_lt_cons_iff];exact ⟨λ z=>z.elim id λ y=>absurd y.2 (List.not_lt_nil _),.inl⟩
 rw [decide_eq_decide.mpr af,decide_eq_decide.mpr ai];by_cases a1:c<97
 ·rw [decide_eq_true a1,decide_eq_false (by omega : ¬ (97<=c/\c<=122))];rfl
 ·by_cases a2:122<c
  ·rw [decide_eq_true a2,decide_eq_false (by omega : ¬ (97<=c/\c<=122))];simp
  ·rw [decide_eq_false a1,decide_eq_false a2,decide_eq_true (by omega:97<=c/\c<=122)];rfl
theorem Xf {A B:TE} {σ:St} {H:ah} {R:bz} {b:V} (key : ∀ rC:bz,rC b H->yp A B σ H rC) (rest:R b H):yp A B σ H R:=key R rest
def B8:V->Bool
 | .str x=>decide (1<=x.length)&&decide (x.length<=8)
 | _=>false
def Cr (aY:dN):V->Option Ent
 | .str x=>d6 aY x
 | _=>none
def sy (aY:dN) (H:ah) (way:Str) (v bY:V) (x:Str):Prop:=(x = "name" /\ (gq v=false\/(way ≠ "put" /\ Cr aY v=none)))\/(x = "powers" /\ gq v=true/\way = "put" /\ ht H bY=false)
def pO (aA:List (Int×Int)) (aY:dN) (H:ah) (way:Str) (v bY fm:V) (eS:dN):Prop := ∃ x,v=.str x/\gq v=true /\
 ((way = "drop" /\ fm=.bg/\(∃ e,d6 aY x=some e)/\eS=hs aY x) \/
 (way = "run" /\ ∃ (m:Int) (e:Ent) (k:Nat) (r:List Int),bY=.int m/\d6 aY x=some e/\k<=m.toNat/\goN (rowsOf aA) k e.1=some r/\(k=m.toNat\/c7 (rowsOf aA) r=none)/\fm=.int (k:Int)/\eS=hq aY x (r,e.2+(k:Int))) \/
 (way = "put" /\ ∃ (a:Addr) (ag:List Int),bY=.ref a/\H a=some (tupI ag)/\ht H bY=true/\fm=.bg/\eS=hq aY x (ag,0)))
def Yj:bX:=λ vs H Q _ => ∃ (bk rw d2:Addr) (cb:List V) (aA:List (Int×Int)) (kvs:List (Key×V)) (aY:dN) (way:Str) (v bY:V),vs=[.ref bk,.ref rw,.ref d2]/\H bk=some (.lst cb)/\gn H cb aA/\dx H rw (.bp kvs)/\dI H kvs aY/\aY.length<12/\(∀ p∈aY,p.2.1.length=10/\nn p.2.1=true)/\H d2=some (.tup [.str way,v,bY])/\qk H v /\
 ((way = "put" /\ dK H bY)\/(way = "run" /\ ∃ m:Int,bY=.int m/\0<=m/\m<=2000)\/way = "drop") /\
 (∀ aU x H',sy aY H way v bY x->aC H H'->H' aU=some (.lst [.str x,.ref rw])->Q (.ref aU) H') /\
 (∀ aU fm lt bl eS H',aC H H'->H lt=none->H' aU=some (.lst [fm,.ref lt])->H' lt=some (.bp bl)->dI H' bl eS->pO aA aY H way v bY fm eS->Q (.ref aU) H')
theorem aa7 (T:bE K mg):c6 P w mg base cD 6 T.L2 Yj:=by
 refine T.L2.fn.ec lQ (λ vs H Q E h=>?_) (λ ba A outer s H vs Q E aq h=>?_)
 ·obtain ⟨bk,rw,d2,cb,aA,kvs,aY,way,v,bY,rfl,_⟩:=h;rfl
 ·obtain ⟨bk,cK,d2,cb,aA,kvs,aY,way,v,bY,rfl,Bc,bJ,fo,a4,vi,qE,h8,bf,hw,a7,bV⟩:=h;refine ⟨_,(aM (nq (aa 2) (lN rfl (da (dM 3 lQ) (da (dM 4 lQ) (da (dM 5 lQ) fV)))))
   (aM (bN 6 lQ (iN (bG d8 T.dg df (ae (aa 4) (ae (d0 (by rfl) T.nd nc) av))) (ik (C_ vL vL aL (bG Ee T.fi fh (ae (aa 4) av)) aL))))
   (aM (nr (ej (aa 6))
    (aV (bN 6 lQ (bG (oT rfl) T.oH oE (ae (f9 (fA lQ (N:=["sign"]) (js:=[none]) (List.forall_mem_nil _)) rfl (IY (aa 4)) (λ _ _ _ _=>fC) (λ _ _ _ _=>fW)
     (λ _ _ _ _=>(C_ IQ IQ dq (aa 0) dq))) av))))
    ct)
   (aM (cM (ez.pt (gr (gs (ej (aa 6))) (hT (ez.pt (ra (cn jF (aa 3) dq (bZ _)) (rh (cn (Lb (mm aq)) (aa 4) (aa 1) (by with_unfolding_all rfl))))))))
    (aV (bH (eL (ae dq (ae (aa 1) av)))))
    ct)
   (aM (bN 7 lQ (iM YY T.Te S2 (ae (aa 1) av)))
   (aM (cM (cn eJ (aa 3) dq (bZ _))
    (aM (hV (jG PySem.F.plainAttrs_dict PySem.F.slot_dict_pop PySem.F.type_dict_pop J1 (aa 7) (ae (aa 4) av)))
   (aV (bH (eL (ae fj (ae (aa 7) av))))))
    ct)
   (aM (cM (cn eJ (aa 3) dq (bZ _))
    (aM (nq (DC (mm aq) (aa 1) (aa 4) (λ _ _=>rfl)) (lN rfl (da (dM 8 lQ) (da (dM 9 lQ) fV))))
   (aM (nq (b7 (abw T) aq bM (ae (aa 0) (ae (aa 8) (ae (aa 5) av)))) (IX rfl (da (dM 10 lQ) (da (dM 11 lQ) fV))))
   (aM (Dd (mm aq) (aa 7) (aa 4) (hx (ae (cS d7 (aa 10) (nf nu aL) (λ _ _=>rfl)) (ae (b8 fG (aa 9) (bG gG T.fi fh (ae (aa 11) av))) av))) rfl)
   (aV (bH (eL (ae (bG gG T.fi fh (ae (aa 11) av)) (ae (aa 7) av))))))))
    ct)
   (aM (cM (gs (ej (b7 (abg T) aq bM (ae (aa 5) av))))
    (aV (bH (eL (ae dq (ae (aa 1) av)))))
    ct)
   (aM (nr (ez.pt (ra (cn (Lb (mm aq)) (aa 4) (aa 1) (by with_unfolding_all rfl)) (rh (cn eJ (bG DN T.fi fh (ae (aa 1) av)) aL (bZ _)))))
    (aV (bH (eL (ae dq (ae (aa 1) av)))))
    ct)
   (aM (Dd (mm aq) (aa 7) (aa 4) (hx (ae (aa 5) (ae aL av))) rfl)
   (aV (bH (eL (ae fj (ae (aa 7) av))))))))))))))),?_⟩
  refine ⟨_,rfl,d2,_,rfl,aR.of h8,rfl,_,_,rfl,_,_,rfl,_,_,rfl,rfl,?_⟩;dsimp only [Cf,pM];refine Xf (b:=.aJ (B8 v)) (λ rC r=>?_) ?_
  ·obtain ⟨t,ty,e⟩:=oG (K:=K) bf.1;refine ⟨_,rfl,v, "str", t,_,rfl,ty,e,_,rfl,?_⟩;cases az:uW v with
   | false =>
    rw [show B8 v=false by cases v<;>first | rfl | cases az] at r;exact bx r
   | true =>
    obtain ⟨x,rfl⟩ : ∃ x,v=.str x:=by cases v<;>first | exact ⟨_,rfl⟩ | cases az
    obtain ⟨aw,au⟩:=bf.2 x rfl;have a9:x.length<=sizeLine:=by rw [sizeLine_eq];omega
    refine cm ⟨_,rfl,x,rfl,a9,_,_,rfl,rfl,_,rfl,?_⟩;have bB:rC (.aJ (decide (1<=x.length)&&decide (x.length<=8))) H:=r;by_cases af:1<=x.length
    ·rw [decide_eq_true af,Bool.true_and] at bB;rw [decide_eq_true (show (1:Int)<=(x.length:Int) by omega)];refine cm ⟨_,_,rfl,rfl,?_⟩;show rC (.aJ (decide ((x.length:Int)<=8))) H;rw [show decide ((x.length:Int)<=8)=decide (x.length<=8) from decide_eq_decide.mpr (by omega)];exact bB
    ·rw [decide_eq_false af,Bool.false_and] at bB;rw [decide_eq_false (show ¬ (1:Int)<=(x.length:Int) by omega)];exact bx bB
  refine ⟨λ σ' H'=>σ'=[some (.ref bk),some (.ref cK),some (.ref d2),some (.str way),some v,some bY,some (.aJ (gq v)),none,none,none,none,none]/\aC H H',?_,?_⟩
  ·refine ⟨_,rfl,_,rfl,?_⟩;cases au:B8 v with
   | false =>
    rw [show gq v=false by
     cases v with
     | str x=>show (decide _&&decide _&&_)=false;rw [show (decide (1<=x.length)&&decide (x.length<=8))=false from au];rfl
     | _=>rfl]
    exact bx ⟨rfl,aC.refl _⟩
   | true =>
    obtain ⟨x,rfl⟩ : ∃ x,v=.str x:=by cases v<;>first | exact ⟨_,rfl⟩ | cases au
    obtain ⟨aw,gR⟩:=bf.2 x rfl;have a9:x.length<=sizeLine:=by rw [sizeLine_eq];omega
    refine cm ⟨_,rfl,_,rfl,aw.all,λ D a4=>KA (x:=x) (σ0:=[]) (t:=λ _=>true) (f:=λ i=>V.aJ (kP (x.cps.getD i 0))) (by show x.length<=_;exact a9) ⟨_,rfl⟩ a4 (λ i c H' R s' aj r=>r H' (aC.refl _)) (λ i c H' R s' aj aW r=>?_) λ H1 s1 pj=>?_⟩
    ·have e:x.cps.getD i 0=c:=by rw [Array.getD_eq_getD_getElem?,aj];rfl
     have bB:=r H' (aC.refl _);rw [e] at bB;refine ⟨_,rfl,_,_,rfl,rfl,_,rfl,?_⟩;have low:=Tc c;cases af:(!decide (e6 (⟨#[c]⟩:Str)<e6 ("a" : Str))) with
     | false =>
      rw [af,Bool.false_and] at low;rw [<-low] at bB;exact bx bB
     | true =>
      rw [af,Bool.true_and] at low;rw [<-low] at bB;exact cm ⟨_,_,rfl,rfl,bB⟩
    ·have e:(((List.range x.cps.size).filter λ _=>true).map λ i=>V.aJ (kP (x.cps.getD i 0)))=((List.range x.cps.size).map λ i=>kP (x.cps.getD i 0)).map V.aJ:=by
      rw [List.filter_eq_self.mpr (λ _ _=>rfl),List.map_map];rfl
     rw [e] at pj;refine ⟨D,_,rfl,a3.of pj,?_⟩;rw [JA];have et:gq (.str x)=(e6 x).all kP:=by
      show (decide (1<=x.length)&&decide (x.length<=8)&&_)=_;rw [show (decide (1<=x.length)&&decide (x.length<=8))=true from au];rfl
     rw [et];exact ⟨rfl,s1⟩
  ·rintro σ' H1 ⟨rfl,s1⟩;have uv:dx H1 cK (.bp kvs):=fo.imp (s1 _ _) λ ⟨o,h⟩=>⟨o,s1 _ _ h⟩
   have pj:=a4.dS (jV.of s1);have ac3:kvs.length<12:=by rw [a4.len];exact vi
   refine ⟨_,rfl,_,rfl,?_⟩;cases aD:gq v with
   | false=>exact cm (cm ⟨_,rfl,cg,λ aU ar f2 s2 ai=>a7 aU "name" ar (.inl ⟨rfl,.inl aD⟩) (s1.trans s2) ai⟩)
   | true =>
    obtain ⟨x,rfl⟩ : ∃ x,v=.str x:=by cases v<;>first | exact ⟨_,rfl⟩ | cases aD
    refine bx ⟨_,rfl,rfl,_,rfl,?_⟩;by_cases ax:way = "put"
    ·subst ax;have GQ:dK H bY:=by
      rcases hw with ⟨_,h⟩ | ⟨h,_⟩ | h
      ·exact h
      ·exact absurd h (by decide)
      ·exact absurd h (by decide)
     rw [decide_eq_true rfl];refine bx (bx ⟨_,rfl,cK,kvs,rfl,uv,λ lt ar f2 s2 ai=>?_⟩);have ho:=s1.trans s2;refine ⟨_,rfl,rfl,_,rfl,?_⟩;rw [mw (show ("put" : Str) ≠ "drop" by decide)];refine bx ⟨_,rfl,rfl,_,rfl,?_⟩;rw [mw (show ("put" : Str) ≠ "run" by decide)];refine bx ⟨_,rfl,bY,rfl,aC.dK ho GQ,λ aK s3=>⟨_,rfl,?_⟩⟩;have mX:=ho.trans s3;have k9:ht ar bY=ht H bY:=by unfold ht;rw [aC.er ho GQ.1]
     rw [k9];cases A3:ht H bY with
     | false=>exact cm ⟨_,rfl,cg,λ aU bc f4 s4 aX=>a7 aU "powers" bc (.inr ⟨rfl,aD,rfl,A3⟩) (mX.trans s4) aX⟩
     | true =>
      refine bx ?_;have vn:=A3;unfold ht at vn;cases AG:er H bY with
      | none=>rw [AG] at vn;cases vn
      | some ys =>
       rw [AG] at vn;obtain ⟨a,rfl,aw⟩:=rk AG;have l5:=Bool.and_eq_true_iff.mp (show (decide (ys.length=10)&&ys.all gU&&ys.all lG)=true from vn);obtain ⟨ag,rfl,GJ⟩:=C9 (Bool.and_eq_true_iff.mp l5.1).2;have Gs:dx aK cK (.bp kvs):=fo.imp (mX _ _) λ ⟨o,h⟩=>⟨o,mX _ _ h⟩
       refine ⟨λ σ' H'=>σ'=[some (.ref bk),some (.ref cK),some (.ref d2),some (.str "put"),some (.str x),some (.ref a),some (.aJ true),some (.ref lt),none,none,none,none]/\aK=H',?_,?_⟩
       ·refine ⟨_,rfl,_,rfl,x,cK,kvs,rfl,rfl,Gs,_,rfl,?_⟩;cases az:(dZ kvs (cz x)).isSome with
        | true=>exact bx (bx ⟨rfl,rfl⟩)
        | false =>
         refine cm ⟨_,rfl,cK,kvs,rfl,Gs,rfl,_,rfl,?_⟩;rw [decide_eq_false (show ¬ V.int (kvs.length:Int)=V.int 12 from λ z=>by injection z with z;omega)];exact bx ⟨rfl,rfl⟩
       ·rintro σ' H' ⟨rfl,rfl⟩;refine ⟨_,rfl,cg,λ w bc f4 s4 px=>⟨_,rfl,_,rfl,lt,x,kvs,rfl,rfl,s4 _ _ (s3 _ _ ai),by rw [sizeLine_eq];omega,λ bt dt bT=>?_⟩⟩;refine ⟨_,rfl,cg,λ aU cE hZ bL dn=>?_⟩;have hi:H lt=none:=s1.free f2;have si:aC H bt:=λ c o dX=>dt _ _ (cj dX hi) (s4 _ _ (mX _ _ dX))
        have BB:w≠lt:=λ z=>by rw [z,s3 _ _ ai] at f4;cases f4
        have PJ:=bL _ _ (dt _ _ BB px);have sj:=si.trans bL;exact bV aU .bg lt _ _ cE sj hi dn (bL _ _ bT) ((a4.dS (jV.of sj)).put ⟨w,a,rfl,PJ,sj _ _ aw⟩) ⟨x,rfl,aD,.inr (.inr ⟨rfl,a,ag,rfl,aw,A3,rfl,rfl⟩)⟩
    ·rw [mw ax];refine cm ⟨_,rfl,_,rfl,x,cK,kvs,rfl,rfl,uv,_,rfl,?_⟩;cases n9:d6 aY x with
     | none =>
      rw [pj.none n9];exact cm ⟨_,rfl,cg,λ aU ar f2 s2 ai=>a7 aU "name" ar (.inl ⟨rfl,.inr ⟨ax,n9⟩⟩) (s1.trans s2) ai⟩
     | some e =>
      obtain ⟨u,bD,he⟩:=pj.some n9;rw [bD];refine bx ⟨_,rfl,cK,kvs,rfl,uv,λ lt ar f2 s2 ai=>?_⟩;have ho:=s1.trans s2;have hi:H lt=none:=s1.free f2;refine ⟨_,rfl,rfl,_,rfl,?_⟩;by_cases hd:way = "drop"
      ·subst hd;rw [decide_eq_true rfl];refine cm ⟨_,rfl,.inr (.inr (.inl ⟨rfl,.inl ⟨kvs,ai⟩⟩)),_,rfl,lt,x,kvs,u,rfl,rfl,ai,bD,λ aK eM aF=>?_⟩;refine ⟨_,rfl,cg,λ aU bc f4 s4 aX=>?_⟩;have mX:aC H aK:=λ c o dX=>eM _ _ (cj dX hi) (ho _ _ dX)
       have oq:=mX.trans s4;exact bV aU .bg lt _ _ bc oq hi aX (s4 _ _ aF) (a4.dS (jV.of oq)).drop ⟨x,rfl,aD,.inl ⟨rfl,rfl,⟨e,n9⟩,rfl⟩⟩
      ·rw [mw hd];obtain ⟨rfl,m,rfl,m0,qc⟩:way = "run" /\ ∃ m:Int,bY=.int m/\0<=m/\m<=2000:=by
        rcases hw with ⟨h,_⟩ | h | h
        ·exact absurd h ax
        ·exact h
        ·exact absurd h hd
       refine bx ⟨_,rfl,rfl,_,rfl,?_⟩;rw [decide_eq_true rfl];obtain ⟨w,a,rfl,Bg,uA⟩:=he;have OV:dx ar cK (.bp kvs):=fo.imp (ho _ _) λ ⟨o,h⟩=>⟨o,ho _ _ h⟩
       have ph:=qE (x,e) (tf n9);refine cm ⟨_,rfl,_,rfl,cK,x,kvs,.ref w,rfl,rfl,OV,bD,w,_,rfl,aR.of (s2 _ _ Bg),rfl,_,_,rfl,_,_,rfl,rfl,?_⟩;refine ⟨_,rfl,_,rfl,_,rfl,bk,a,cb,aA,e.1,m,rfl,ho _ _ Bc,bJ.same ho,s2 _ _ uA,ph.1,ph.2,m0,by omega,λ ea hF iy aK rs rws ab1 fr wL s3 Pp xv l_ M_ Bf=>?_⟩;refine ⟨ea,_,rfl,Pp,rfl,_,_,rfl,_,_,rfl,rfl,?_⟩;obtain ⟨g1,g2,g3⟩:=M_;obtain ⟨r,AX⟩:=I3 (rowsOf aA) m.toNat e.1;have n8:=JF (rowsOf aA) m.toNat e.1;generalize aB:(iF (rowsOf aA) m.toNat e.1).length=k at *;have Sj:rws[k]?=some r:=by rw [g2 k (by omega)];exact AX
       obtain ⟨z,dR,a9,rfl,hO⟩:=l_.of Sj;have pv:rs.length=k+1:=by rw [l_.1];exact g1
       have Rb:((ey (iF (rowsOf aA) m.toNat e.1)).map V.int).length=k:=by rw [List.length_map,vX];exact aB
       refine ⟨_,rfl,_,rfl,hF,_,_,_,rfl,rfl,a3.of xv,CJ pv a9,_,rfl,_,rfl,iy,_,rfl,.inl (a3.of Bf),_,_,rfl,rfl,cg,λ w1 bc f4 s4 px=>?_⟩;refine ⟨_,rfl,_,rfl,lt,x,kvs,rfl,rfl,s4 _ _ (s3 _ _ ai),by rw [sizeLine_eq];omega,λ bt dt bT=>?_⟩;have si:aC H bt:=λ c o dX=>dt _ _ (cj dX hi) (s4 _ _ (s3 _ _ (ho _ _ dX)))
       have nul:iy≠lt:=cI Bf (s3 _ _ ai) nofun;have BB:w1≠lt:=λ z=>by rw [z,s3 _ _ ai] at f4;cases f4
       have Qz:dR≠lt:=cI hO (s3 _ _ ai) nofun;refine ⟨_,rfl,iy,_,rfl,.inl (a3.of (dt _ _ nul (s4 _ _ Bf))),_,rfl,cg,λ aU cE hZ bL dn=>?_⟩;have sj:=si.trans bL;rw [Rb] at dn px;refine bV aU (.int (k:Int)) lt _ _ cE sj hi dn (bL _ _ bT) ((a4.dS (jV.of sj)).put (e:=(r,e.2+(k:Int))) ⟨w1,dR,rfl,bL _ _ (dt _ _ BB px),bL _ _ (dt _ _ Qz (s4 _ _ hO))⟩) ⟨x,rfl,aD,.inr (.inl ⟨rfl,m,e,k,r,rfl,n9,n8,AX,?_,rfl,rfl⟩)⟩;rcases g3 with g3 | ⟨cur,hB,k7⟩
       ·exact .inl g3
       ·rw [AX] at hB;cases hB;exact .inr k7
theorem J0 {aY:dN} (cX:(ei aY).Nodup) {i:Nat} {x:Str} {e:Ent} (h:aY[i]?=some (x,e)):d6 aY x=some e:=yS cX (List.mem_of_getElem? h)
theorem dI.at {H:ah} : ∀ {kvs:List (Key×V)} {aY:dN},dI H kvs aY -> ∀ {i:Nat} {k:Key} {v:V},kvs[i]?=Option.some (k,v) -> ∃ x e,k=cz x/\aY[i]?=Option.some (x,e)/\lF H v e
 | _,_,.nil,_,_,_,h=>by cases h
 | _,_,.cons bD t,0,_,_,h=>by cases h;exact ⟨_,_,rfl,rfl,bD⟩
 | _,_,.cons bD t,i+1,_,_,h=>by
  obtain ⟨x,e,af,ai,aF⟩:=t.at (by simpa using h);exact ⟨x,e,af,by simpa using ai,aF⟩
def LF (T:bE K mg):bX:=λ vs H Q _ => ∃ (bn pr hd dl cK:Addr) (kvs bl:List (Key×V)) (aY aJ:dN) (ds:List V),vs=[.ref bn,.ref cK]/\fv T H bn pr hd dl kvs ds/\dI H kvs aY/\dx H cK (.bp bl)/\dI H bl aJ/\aY.Perm aJ/\(ei aY).Nodup/\aY.length<64/\cK≠hd/\(∀ p∈aY,p.2.1.length=10) /\
 ∀ H',(∀ c o,c≠cK->H c=some o->H' c=some o)->dx H' cK (.bp bl)->Q (.aJ true) H'
theorem Ms (T:bE K mg):c6 P w mg base cD 6 T.Mk (LF T):=by
 refine T.Mk.fn.ec E9 (λ vs H Q E h=>?_) (λ ba A outer s H vs Q E aq h=>?_)
 ·obtain ⟨bn,pr,hd,dl,cK,kvs,bl,aY,aJ,ds,rfl,_⟩:=h;rfl
 ·obtain ⟨bn,pr,hd,dl,cK,kvs,bl,aY,aJ,ds,rfl,B,a4,fo,eN,pm,cX,kp,sh,ph,q⟩:=h;refine ⟨_,(aM (bN 2 E9 (Dc (aa 0) T.eO T.tC.at_ (Mh T) (aq.mono (by decide)) T.tC.bd .nil bM))
   (aM (cM (gs (ej (b7 (y6 T) aq bM (ae (aa 2) (ae (bG (Et rfl) T.yT yN (ae (aa 1) av)) av)))))
    (aV (bH gX))
    ct)
   (aM (hV (jG PySem.F.plainAttrs_list PySem.F.slot_list_append PySem.F.type_list_append p0 (aa 2) (ae dq av)))
   (aM (gD PassesOwn.never rfl (U7 (aa 1)) (dM 3 E9)
    (aV (cM (ez.pt (gr (gs (ej (b7 (y6 T) aq bM (ae (ka (aa 0) T.eO T.zj.at_ (abd T) (aq.mono (by decide)) T.zj.bd .nil Ir (ae (aa 3) av)) (ae (cS hv (DC (mm aq) (aa 1) (aa 3) (λ _ _=>rfl)) aL (λ _ _=>rfl)) av))))) (hT (gs (ej (b7 (y6 T) aq bM (ae (ka (aa 0) T.eO T.zf.at_ (aaK T) (aq.mono (by decide)) T.zf.bd .nil Ir (ae (aa 3) av)) (ae (cS hv (DC (mm aq) (aa 1) (aa 3) (λ _ _=>rfl)) aL (λ _ _=>rfl)) av))))))))
    (aV (bH gX))
    ct)))
   (aV (bH (b7 (y6 T) aq bM (ae (Dc (aa 0) T.eO T.tC.at_ (Mh T) (aq.mono (by decide)) T.tC.bd .nil bM) (ae (bG (Et rfl) T.yT yN (ae (aa 1) av)) av))))))))),?_⟩
  obtain ⟨aH,J⟩:=B.at_;refine ⟨_,rfl,bn,aH,_,rfl,J,rfl,bn,pr,hd,dl,kvs,ds,ei aY,rfl,B,a4.keys,by rw [List.length_map];exact kp,λ ms Hf QS cQ H1 f1 s1 gR=>?_⟩;have uv:dx H1 cK (.bp bl):=fo.imp (s1 _ _) λ ⟨o,h⟩=>⟨o,s1 _ _ h⟩
  refine ⟨_,rfl,_,rfl,cK,bl,ei aJ,rfl,uv,eN.keys,by rw [List.length_map,<-pm.length_eq];exact kp,λ Bo RW R7 e0 ar f2 s2 fg=>?_⟩;obtain rfl:Bo=ms:=D0 R7 QS (RW.trans ((pm.map (·.1)).symm.trans Hf.symm));have Qc:Bo.length<64:=by rw [Hf.length_eq,List.length_map];exact kp
  refine .inr ⟨cQ,e0,Bo.map V.str,rfl,s2 _ _ gR,fg,by rw [List.length_map];omega,λ y aN=>?_,λ aK s3=>⟨_,rfl,bx ?_⟩⟩
  ·obtain ⟨z,_,rfl⟩:=List.mem_map.mp aN;rfl
  refine ⟨_,rfl,.inl ⟨rfl,_,a3.of (s3 _ _ (s2 _ _ gR))⟩,cQ,_,_,rfl,rfl,s3 _ _ (s2 _ _ gR),by rw [List.length_map,sizeLine_eq];omega,λ bc ek aX=>?_⟩;have oq:aC H bc:=λ c o dX=>ek _ _ (cj dX f1) (s3 _ _ (s2 _ _ (s1 _ _ dX)))
  have qv:dx bc cK (.bp bl):=fo.imp (oq _ _) λ ⟨o,h⟩=>⟨o,oq _ _ h⟩
  have uY:bn≠cK:=by
   rcases fo with h | ⟨o,h⟩
   ·exact cI J h nofun
   ·exact cI J h nofun
  have G5:dl≠cK:=by
   rcases fo with h | ⟨o,h⟩
   ·exact cI B.dl h nofun
   ·exact cI B.dl h nofun
  have Qy : ∀ {c:Addr} {ys:List V},H c=some (.tup ys)->c≠cK:=λ {c ys} aj=>by
   rcases fo with h | ⟨o,h⟩
   ·exact cI aj h nofun
   ·exact cI aj h nofun
  have hlen:bl.length=aJ.length:=eN.len;refine ⟨_,rfl,cK,bl,rfl,qv,λ bK bt k5 uH=>?_⟩;have GY : ∀ c o,c≠cK->H c=some o->bt c=some o:=λ c o ef dX=>by rw [k5 c ef];exact oq _ _ dX
  refine VU (λ i σ cE=>(∃ u:Option V,σ=[some (.ref bn),some (.ref cK),some (.ref cQ),u])/\aC bt cE) ⟨⟨none,rfl⟩,aC.refl _⟩ (λ i σ cE _ h=>h.2 _ _ uH) ?_ ?_
  ·rintro i k v σ cE aB ⟨⟨u,rfl⟩,bL⟩;obtain ⟨x,e,rfl,xl,w,a,rfl,hw,aw⟩:=eN.at aB;have G3:(ei aJ).Nodup:=(pm.map _).nodup_iff.mp cX;have n9:d6 aY x=some e:=by rw [y5 pm cX x];exact J0 G3 xl
   obtain ⟨jj,Bd,cO,nI,rfl,pw,h7⟩:=a4.some n9;have lE : ∀ c o,c≠cK->H c=some o->cE c=some o:=λ c o ef dX=>bL _ _ (GY c o ef dX)
   have wB:fv T cE bn pr hd dl kvs ds:=⟨⟨aH,lE _ _ uY J⟩,lE _ _ (Ne.symm sh) B.hd,lE _ _ G5 B.dl⟩
   obtain ⟨y,aN,gz,a2,rfl,sd,ft⟩:=eN.some (J0 G3 xl);have OX:dx cE cK (.bp bl):=.inr ⟨bK,bL _ _ uH⟩;have l0 : ∀ {c:Addr} {ys:List V},H c=some (.tup ys)->cE c=some (.tup ys):=λ h=>lE _ _ (Qy h) h
   have bU:lH kvs (.str x)=some (.ref cO):=Bd;have acq:e.1.length=10:=ph (x,e) (tf n9);have sc : ∀ y∈e.1.map V.int,sM y=true:=λ y aN=>by
    obtain ⟨z,_,rfl⟩:=List.mem_map.mp aN;rfl
   refine ⟨_,rfl,bn,aH,_,rfl,lE _ _ uY J,rfl,_,rfl,bn,pr,hd,dl,kvs,ds,.str x,rfl,wB,trivial,(λ h=>by rw [bU] at h;cases h),λ u bD=>?_⟩;rw [bU] at bD;cases bD;refine ⟨cO,_,_,rfl,l0 pw,_,rfl,_,rfl,cK,x,bl,.ref gz,rfl,rfl,OX,aN,gz,_,_,_,rfl,rfl,aR.of (l0 sd),rfl,?_⟩;refine .inl (.inr ⟨.ref nI,a2,e.1.map V.int,rfl,ny (l0 h7) (by rw [List.length_map];omega) (λ y aN=>by obtain ⟨z,_,rfl⟩:=List.mem_map.mp aN;trivial),l0 ft,by rw [List.length_map];omega,sc,λ cT cC=>⟨_,rfl,?_⟩⟩);rw [oQ (l0 h7),decide_eq_true rfl];have MK:=wB.same cC;have rR : ∀ {c:Addr} {ys:List V},H c=some (.tup ys)->cT c=some (.tup ys):=λ h=>cC _ _ (l0 h)
   have uw:dx cT cK (.bp bl):=.inr ⟨bK,cC _ _ (bL _ _ uH)⟩;refine bx ⟨_,rfl,bn,aH,_,rfl,cC _ _ (lE _ _ uY J),rfl,_,rfl,bn,pr,hd,dl,kvs,ds,.str x,rfl,MK,trivial,(λ h=>by rw [bU] at h;cases h),λ u bD=>?_⟩;rw [bU] at bD;cases bD;refine ⟨cO,_,_,rfl,rR pw,_,rfl,_,rfl,cK,x,bl,.ref gz,rfl,rfl,uw,aN,gz,_,_,_,rfl,rfl,aR.of (rR sd),rfl,?_⟩;refine .inl (.inl ⟨_,_,rfl,trivial,rfl,_,rfl,?_⟩);rw [decide_eq_true rfl];exact bx ⟨⟨_,rfl⟩,bL.trans cC⟩
  ·rintro σ cE ⟨⟨u,rfl⟩,bL⟩;have lE : ∀ c o,c≠cK->H c=some o->cE c=some o:=λ c o ef dX=>bL _ _ (GY c o ef dX)
   have wB:fv T cE bn pr hd dl kvs ds:=⟨⟨aH,lE _ _ uY J⟩,lE _ _ (Ne.symm sh) B.hd,lE _ _ G5 B.dl⟩
   refine ⟨_,rfl,bn,aH,_,rfl,lE _ _ uY J,rfl,bn,pr,hd,dl,kvs,ds,ei aY,rfl,wB,a4.keys,by rw [List.length_map];exact kp,λ Qg RX R8 lh cT p9 cC Pe=>?_⟩;have uw:dx cT cK (.bp bl):=.inr ⟨bK,cC _ _ (bL _ _ uH)⟩;refine ⟨_,rfl,cK,bl,ei aJ,rfl,uw,eN.keys,by rw [List.length_map,<-pm.length_eq];exact kp,λ Bp HW R9 nP e9 f8 cH xp=>?_⟩;obtain rfl:Bp=Qg:=D0 R9 R8 (HW.trans ((pm.map (·.1)).symm.trans RX.symm));have adb:Bp.length<64:=by rw [HW.length_eq,List.length_map,<-pm.length_eq];exact kp
   refine .inr ⟨lh,nP,Bp.map V.str,rfl,cH _ _ Pe,xp,by rw [List.length_map];omega,λ y aN=>?_,λ fX eC=>?_⟩
   ·obtain ⟨z,_,rfl⟩:=List.mem_map.mp aN;rfl
   ·exact q fX (λ c o ef dX=>eC _ _ (cH _ _ (cC _ _ (lE c o ef dX)))) (.inr ⟨bK,eC _ _ (cH _ _ (cC _ _ (bL _ _ uH)))⟩)
abbrev six:List Str:=["one", "two", "x", "abcdefgh", "row", "gone"]
def gO (H:ah) (v:V):Prop:=qk H v/\(gq v=true -> ∃ x,x∈six/\v=.str x)
theorem gO.same {H H':ah} {v:V} (h:gO H v) (s:aC H H'):gO H' v:=⟨h.1.same s,h.2⟩
def m_ (H:ah) (way:Str) (v bY:V):Prop:=(way = "put" /\ gO H v/\dK H bY)\/(way = "run" /\ gO H v /\ ∃ m:Int,bY=.int m/\0<=m/\m<=2000)\/(way = "drop" /\ gO H v/\bY=.bg)\/(way = "undo" /\ v=.bg/\bY=.bg)
theorem V8 {H H':ah} {pt:Addr} {zs:List V} {v:V} (h:d5 H v) (b:bW pt H H') (ax:H' pt=some (.lst zs)):d5 H' v:=by
 cases v with
 | ref c =>
  by_cases z:c=pt
  ·rw [z];exact .inr (.inl ⟨_,ax⟩)
  ·rcases (show (∃ xs,H c=some (.tup xs))\/(∃ xs,H c=some (.lst xs))\/(∃ kvs,H c=some (.bp kvs)) from h) with ⟨xs,e⟩ | ⟨xs,e⟩ | ⟨kvs,e⟩
   ·exact .inl ⟨xs,b _ _ z e⟩
   ·exact .inr (.inl ⟨xs,b _ _ z e⟩)
   ·exact .inr (.inr ⟨kvs,b _ _ z e⟩)
 | _=>exact h
theorem gO.but {H H':ah} {pt:Addr} {zs:List V} {v:V} (h:gO H v) (b:bW pt H H') (ax:H' pt=some (.lst zs)):gO H' v:=⟨⟨V8 h.1.1 b ax,h.1.2⟩,h.2⟩
theorem mu {H:ah} {x:Str} (h:(e6 x).all (λ c=>decide (c<128))=true) (au:x.length<=1000) (az:(!gq (.str x)||decide (x∈six))=true):gO H (.str x):=⟨⟨trivial,λ y e=>by
 injection e with e;subst e;exact ⟨λ c aj=>of_decide_eq_true (List.all_eq_true.mp h c aj),au⟩⟩,λ aD=>by
 rw [aD] at az;exact ⟨x,of_decide_eq_true (by simpa using az),rfl⟩⟩
theorem Rc {i:Int} (h0:0<=i) (bT:i<5) {H:ah} : ∃ v,gA [V.str "one", .str "two", .str "x", .str "abcdefgh", .str "row"] i=some v/\gO H v:=by
 have h:i=0\/i=1\/i=2\/i=3\/i=4:=by omega
 rcases h with rfl | rfl | rfl | rfl | rfl
 ·exact ⟨_,rfl,mu (by decide +kernel) (by decide +kernel) (by decide +kernel)⟩
 ·exact ⟨_,rfl,mu (by decide +kernel) (by decide +kernel) (by decide +kernel)⟩
 ·exact ⟨_,rfl,mu (by decide +kernel) (by decide +kernel) (by decide +kernel)⟩
 ·exact ⟨_,rfl,mu (by decide +kernel) (by decide +kernel) (by decide +kernel)⟩
 ·exact ⟨_,rfl,mu (by decide +kernel) (by decide +kernel) (by decide +kernel)⟩
theorem RT {H:ah} {F5 li FG:Addr} {xs ys:List V} {d3:List (Key×V)} (aW:H F5=some (.tup xs)) (au:H li=some (.lst ys)) (hd:H FG=some (.bp d3)) {i:Int} (h0:0<=i) (l5:i<12) :
  ∃ v,gA [V.str "", .str "abcdefghi", .str "One", .str "a b", .str "a1", .bg,.int 7,.ref F5,.ref li,.aJ true,.ref FG,.str "gone"] i=some v/\gO H v:=by
 have h:i=0\/i=1\/i=2\/i=3\/i=4\/i=5\/i=6\/i=7\/i=8\/i=9\/i=10\/i=11:=by omega
 rcases h with rfl | rfl | rfl | rfl | rfl | rfl | rfl | rfl | rfl | rfl | rfl | rfl
 ·exact ⟨_,rfl,mu (by decide +kernel) (by decide +kernel) (by decide +kernel)⟩
 ·exact ⟨_,rfl,mu (by decide +kernel) (by decide +kernel) (by decide +kernel)⟩
 ·exact ⟨_,rfl,mu (by decide +kernel) (by decide +kernel) (by decide +kernel)⟩
 ·exact ⟨_,rfl,mu (by decide +kernel) (by decide +kernel) (by decide +kernel)⟩
 ·exact ⟨_,rfl,mu (by decide +kernel) (by decide +kernel) (by decide +kernel)⟩
 ·exact ⟨_,rfl,⟨trivial,λ x e=>by cases e⟩,λ z=>by cases z⟩
 ·exact ⟨_,rfl,⟨trivial,λ x e=>by cases e⟩,λ z=>by cases z⟩
 ·exact ⟨_,rfl,⟨.inl ⟨_,aW⟩,λ x e=>by cases e⟩,λ z=>by cases z⟩
 ·exact ⟨_,rfl,⟨.inr (.inl ⟨_,au⟩),λ x e=>by cases e⟩,λ z=>by cases z⟩
 ·exact ⟨_,rfl,⟨trivial,λ x e=>by cases e⟩,λ z=>by cases z⟩
 ·exact ⟨_,rfl,⟨.inr (.inr ⟨_,hd⟩),λ x e=>by cases e⟩,λ z=>by cases z⟩
 ·exact ⟨_,rfl,mu (by decide +kernel) (by decide +kernel) (by decide +kernel)⟩
theorem Sp {i:Int} (h0:0<=i) (aX:i<4) : ∃ m:Int,gA [V.int 3,.int 8,.int 8,.int ((10:Int) ^ (6:Int).toNat)] i=some (.int m)/\0<=m/\m<=1000000:=by
 have h:i=0\/i=1\/i=2\/i=3:=by omega
 rcases h with rfl | rfl | rfl | rfl
 ·exact ⟨_,rfl,by decide,by decide⟩
 ·exact ⟨_,rfl,by decide,by decide⟩
 ·exact ⟨_,rfl,by decide,by decide⟩
 ·exact ⟨_,rfl,by decide,by decide⟩
theorem runs {i r:Int} (h0:0<=i) (aX:i<4) (c9:0<=r) (BE:r<30) : ∃ m:Int,gA [V.int 0,.int 1,.int r,.int 200] i=some (.int m)/\0<=m/\m<=2000:=by
 have h:i=0\/i=1\/i=2\/i=3:=by omega
 rcases h with rfl | rfl | rfl | rfl
 ·exact ⟨_,rfl,by omega,by omega⟩
 ·exact ⟨_,rfl,by omega,by omega⟩
 ·exact ⟨_,rfl,by omega,by omega⟩
 ·exact ⟨_,rfl,by omega,by omega⟩
theorem Se {H:ah} {xs:List V} (h : ∀ x∈xs,dK H x) {i:Int} (h0:0<=i) (au:i<xs.length) : ∃ v,gA xs i=some v/\dK H v:=by
 have ay:i.toNat<xs.length:=by omega
 exact ⟨xs[i.toNat],lL h0 (List.getElem?_eq_getElem ay),h _ (List.getElem_mem ay)⟩
def ZC:bX:=λ vs H Q _ => ∃ (pt pl cK:Addr) (n:Int) (ns:List Int) (bl:List (Key×V)) (aJ:dN),vs=[.ref pt,.ref pl,.ref cK]/\H pt=some (.lst [.int n])/\H pl=some (.tup (ns.map V.int))/\ns.length<=10/\(∀ m∈ns,0<=m/\m<10)/\dx H cK (.bp bl)/\dI H bl aJ/\aJ.length<12/\(∀ p∈aJ,(t_ p.1/\p.1.length<=1000)/\p.1∈six) /\
 ∀ d2 way v bY b6 H',bW pt H H'->H' pt=some (.lst [.int b6])->H' d2=some (.tup [.str way,v,bY])->m_ H' way v bY->Q (.ref d2) H'
theorem abe (T:bE K mg):c6 P w mg base cD 4 T.Md ZC:=by
 refine T.Md.fn.ec nE (λ vs H Q E h=>?_) (λ ba A outer s H vs Q E aq h=>?_)
 ·obtain ⟨pt,pl,cK,n,ns,bl,aJ,rfl,_⟩:=h;rfl
 ·obtain ⟨pt,pl,cK,n,ns,bl,aJ,rfl,jw,dp,x3,i4,fo,a4,vi,Ri,q⟩:=h;refine ⟨_,(aM (bN 3 nE (b7 (g0 T) aq bM (ae (aa 0) (ae aL av))))
   (aM (bN 4 nE (gE eJ (b7 (g0 T) aq bM (ae (aa 0) (ae aL av))) aL (bZ _)))
   (aM (bN 5 nE (cS d7 (eL (ae dq (ae dq (ae dq (ae dq (ae dq av)))))) (b7 (g0 T) aq bM (ae (aa 0) (ae aL av))) (λ _ _=>rfl)))
   (aM (nr (ez.pt (ra (cn mn (bG DN T.fi fh (ae (aa 2) av)) aL (bZ _)) (rh (cn mn (b7 (g0 T) aq bM (ae (aa 0) (ae aL av))) aL (bZ _)))))
    (aV (bN 5 nE (cS d7 (bG (Et rfl) T.yT yN (ae (aa 2) av)) (b7 (g0 T) aq bM (ae (aa 0) (ae (bG DN T.fi fh (ae (aa 2) av)) av))) (λ _ _=>rfl))))
    ct)
   (aM (nr (ez.pt (ra (ej (aa 4)) (rh (cn eJ (b7 (g0 T) aq bM (ae (aa 0) (ae aL av))) aL (bZ _)))))
    (aM (bN 6 nE (eL (ae dq (ae dq (ae dq (ae dq (ae dq (ae fj (ae aL (ae (hx (ae dq av)) (ae (eL (ae dq av)) (ae gX (ae v3 (ae dq av))))))))))))))
   (aV (bN 5 nE (cS d7 (aa 6) (b7 (g0 T) aq bM (ae (aa 0) (ae aL av))) (λ _ _=>rfl)))))
    ct)
   (aM (cM (cn lJ (aa 3) aL (bZ _))
    (aM (bN 7 nE (b7 (XY T) aq bM (ae (aa 0) (ae (aa 1) (ae (cS d7 (eL (ae aL (ae aL (ae aL (ae (b8 vS aL aL) av))))) (b7 (g0 T) aq bM (ae (aa 0) (ae aL av))) (λ _ _=>rfl)) av)))))
   (aM (nr (ez.pt (ra (ej (aa 4)) (rh (cn eJ (b7 (g0 T) aq bM (ae (aa 0) (ae aL av))) aL (bZ _)))))
    (aM (bN 6 nE (eL (ae (rn vy (aa 7) rf (rg aL)) (ae (b8 vZ (aa 7) (hx (ae aL av))) (ae (iM aaB T.q_ q9 (ae (aa 7) av)) (ae (b8 vZ (rn vy (aa 7) rf (rg aL)) (hx (ae (b8 fG (b8 vS aL aL) aL) av))) (ae (b8 vZ (rn vy (aa 7) rf (rg aL)) (hx (ae (nf nu aL) av))) (ae fj (ae aL (ae v3 av))))))))))
   (aV (bN 7 nE (cS d7 (b8 vY (aa 6) (eL (ae (b8 vZ (rn vy (aa 7) rf (rg aL)) (hx (ae gX av))) (ae (b8 vZ (rn vy (aa 7) rf (rg aL)) (hx (ae dq av))) av)))) (b7 (g0 T) aq bM (ae (aa 0) (ae aL av))) (λ _ _=>rfl)))))
    ct)
   (aV (bH (hx (ae dq (ae (aa 5) (ae (aa 7) av))))))))
    ct)
   (aM (cM (cn lJ (aa 3) aL (bZ _))
    (aV (bH (hx (ae dq (ae (aa 5) (ae (cS d7 (eL (ae aL (ae aL (ae (b7 (g0 T) aq bM (ae (aa 0) (ae aL av))) (ae aL av))))) (b7 (g0 T) aq bM (ae (aa 0) (ae aL av))) (λ _ _=>rfl)) av))))))
    ct)
   (aV (bH (cS d7 (eL (ae (hx (ae dq (ae (aa 5) (ae fj av)))) (ae (hx (ae dq (ae fj (ae fj av)))) (ae (hx (ae dq (ae fj (ae fj av)))) av)))) (b8 jH (aa 3) aL) (λ _ _=>rfl))))))))))),?_⟩
  refine ⟨_,rfl,pt,n,12,rfl,jw,by decide,by decide,λ pd cc H1 h2 wl dP n_=>?_⟩;refine ⟨_,rfl,pt,cc,6,rfl,n_,by decide,by decide,λ iW c0 ar acO acP dQ hk=>⟨rfl,?_⟩⟩;refine ⟨cg,λ lh aK dh s3 aF=>⟨_,rfl,pt,c0,5,rfl,s3 _ _ hk,by decide,by decide,λ FN eB bc PR PS ek qH=>?_⟩⟩;have Qj:lh≠pt:=λ z=>by rw [z,hk] at dh;cases dh
  obtain ⟨v4,PG,G_⟩:=Rc PR PS (H:=bc);have w_:bW pt H bc:=((dP.trans dQ).trans (bW.of s3)).trans ek;refine ⟨lh,_,_,_,rfl,rfl,a3.of (ek _ _ Qj aF),PG,?_⟩;have Hb:cK≠pt:=by
   rcases fo with h | ⟨o,h⟩
   ·exact cI h jw nofun
   ·exact cI h jw nofun
  have AE : ∀ {H':ah},bW pt H H'->dx H' cK (.bp bl):=λ b=>fo.imp (b _ _ Hb) λ ⟨o,h⟩=>⟨o,b _ _ Hb h⟩
  have n8:bl.length<12:=by rw [a4.len];exact vi
  refine ⟨λ σ' H' => ∃ v b6,σ'=[some (.ref pt),some (.ref pl),some (.ref cK),some (.int pd),some (.aJ (decide (V.int iW=V.int 1))),some v,none,none]/\bW pt H H'/\H' pt=some (.lst [.int b6])/\gO H' v,?_,?_⟩
  ·refine ⟨_,rfl,cK,bl,rfl,AE w_,_,_,rfl,rfl,_,rfl,eu (λ h=>?_) (λ h=>?_)⟩
   ·have A0:(bl.length:Int) > 0:=of_decide_eq_true h;refine ⟨_,rfl,pt,eB,3,rfl,qH,by decide,by decide,λ abU g8 bt aci acj dt ps=>⟨_,_,rfl,rfl,_,rfl,eu (λ bT=>?_) (λ bT=>?_)⟩⟩
    ·have r0:=w_.trans dt;refine ⟨_,rfl,cK,bl,ei aJ,rfl,AE r0,a4.keys,by rw [List.length_map];omega,λ ms pm rQ FR cE hZ bL dn=>?_⟩;have r1:=r0.trans (bW.of bL);refine ⟨_,rfl,_,rfl,cK,bl,rfl,AE r1,pt,g8,(bl.length:Int),rfl,bL _ _ ps,by omega,by omega,λ tX jh cT PT acD fH qI=>?_⟩;have Ql:FR≠pt:=λ z=>by rw [z,ps] at hZ;cases hZ
     have Qc:ms.length=bl.length:=by rw [pm.length_eq,List.length_map,a4.len]
     have ay:tX.toNat<ms.length:=by omega
     have kq:gA (ms.map V.str) tX=some (.str ms[tX.toNat]):=lL PT (by rw [List.getElem?_map,List.getElem?_eq_getElem ay];rfl);have Rx:ms[tX.toNat]∈ei aJ:=pm.mem_iff.mp (List.getElem_mem ay);obtain ⟨p,ax,e⟩:=List.mem_map.mp Rx;have AH:=Ri p ax;rw [show p.1=ms[tX.toNat] from e] at AH;refine ⟨FR,_,_,_,rfl,rfl,a3.of (fH _ _ Ql dn),kq,_,jh,rfl,r1.trans fH,qI,⟨trivial,λ y e=>?_⟩,λ _=>⟨_,AH.2,rfl⟩⟩;injection e with e;subst e;exact AH.1
    ·exact ⟨v4,g8,rfl,w_.trans dt,ps,G_.but dt ps⟩
   ·exact bx ⟨v4,eB,rfl,w_,qH,G_⟩
  rintro σ' bt ⟨F6,g8,rfl,r0,ps,Ha⟩;refine ⟨λ σ' H' => ∃ v b6 rS,σ'=[some (.ref pt),some (.ref pl),some (.ref cK),some (.int pd),some (.aJ (decide (V.int iW=V.int 1))),some v,rS,none]/\bW pt H H'/\H' pt=some (.lst [.int b6])/\gO H' v,?_,?_⟩
  ·refine ⟨_,rfl,_,rfl,?_⟩;cases aG:decide (V.int iW=V.int 1) with
   | false=>exact bx (bx ⟨F6,g8,_,rfl,r0,ps,Ha⟩)
   | true =>
    refine cm ⟨_,rfl,pt,g8,2,rfl,ps,by decide,by decide,λ lU nS cE ack acm gc hl=>⟨rfl,_,rfl,eu (λ dn=>?_) (λ dn=>?_)⟩⟩
    ·refine ⟨cg,λ rR cT p9 cC jO=>⟨cg,λ FT e9 f8 cH fK=>λ abW fX tV eC k_=>⟨cg,λ nQ ke FJ gM lV=>?_⟩⟩⟩;have jv:=gM _ _ (eC _ _ (cH _ _ (cC _ _ hl)));have qm:bW pt H ke:=(r0.trans gc).trans (bW.of (((cC.trans cH).trans eC).trans gM));refine ⟨_,rfl,_,rfl,pt,nS,12,rfl,jv,by decide,by decide,λ ab4 Np kY PY PZ tR Pn=>?_⟩;have mG : ∀ {c:Addr} {G:ah},G c=none->G pt=some (.lst [.int nS])->c≠pt:=λ {c G} f h z=>by rw [z,h] at f;cases f
     have mT:=eC _ _ (cH _ _ (cC _ _ hl));obtain ⟨NF,PH,Qs⟩:=RT (H:=kY) (tR _ _ (mG p9 hl) (gM _ _ (eC _ _ (cH _ _ jO)))) (tR _ _ (mG f8 (cC _ _ hl)) (gM _ _ (eC _ _ fK))) (tR _ _ (mG tV (cH _ _ (cC _ _ hl))) (gM _ _ k_)) PY PZ;refine ⟨nQ,_,_,_,rfl,rfl,a3.of (tR _ _ (mG FJ mT) lV),PH,NF,Np,_,rfl,qm.trans tR,Pn,Qs⟩
    ·exact ⟨F6,nS,_,rfl,r0.trans gc,hl,Ha.but gc hl⟩
  rintro σ' cE ⟨v6,nS,rS,rfl,r1,hl,Bv⟩;have RP:pl≠pt:=cI dp jw nofun;have mG : ∀ {c:Addr} {G:ah} {k:Int},G c=none->G pt=some (.lst [.int k])->c≠pt:=λ {c G k} f h z=>by rw [z,h] at f;cases f
  refine ⟨_,rfl,_,_,rfl,rfl,_,rfl,eu (λ h=>?_) (λ h=>?_)⟩
  ·refine ⟨_,rfl,_,rfl,_,_,rfl,rfl,⟨by decide,by decide,by decide⟩,cg,λ Ni cT p9 cC jO=>⟨_,rfl,pt,nS,4,rfl,cC _ _ hl,by decide,by decide,λ ab2 Nn e9 PU PV nJ GG=>?_⟩⟩;obtain ⟨mo,Pl,Qe,Qf⟩:=Sp PU PV;have Ge:bW pt H e9:=(r1.trans (bW.of cC)).trans nJ;refine ⟨Ni,_,_,_,rfl,rfl,a3.of (nJ _ _ (mG p9 hl) jO),Pl,pt,pl,Nn,mo,ns,rfl,GG,Ge _ _ RP dp,x3,i4,Qe,Qf,λ ln fX wU ao o4 mT qE vm n7=>?_⟩;have Ap:=Ge.trans o4;have Bw:gO fX v6:=((Bv.same cC).but nJ GG).but o4 mT;have Q2:dK fX (.ref ln):=ny qE (by rw [List.length_map];omega) λ y aN=>by obtain ⟨i,_,rfl⟩:=List.mem_map.mp aN;trivial
   refine ⟨λ σ' H' => ∃ bY b6 Hw,σ'=[some (.ref pt),some (.ref pl),some (.ref cK),some (.int pd),some (.aJ (decide (V.int iW=V.int 1))),some v6,Hw,some bY]/\bW pt H H'/\H' pt=some (.lst [.int b6])/\gO H' v6/\dK H' bY,?_,?_⟩
   ·refine ⟨_,rfl,_,rfl,?_⟩;cases aG:decide (V.int iW=V.int 1) with
    | false=>exact bx (bx ⟨_,wU,_,rfl,Ap,mT,Bw,Q2⟩)
    | true =>
     refine cm ⟨_,rfl,pt,wU,2,rfl,mT,by decide,by decide,λ abV wV ke acn aco rH jv=>⟨rfl,_,rfl,eu (λ dn=>?_) (λ dn=>?_)⟩⟩
     ·have RO:ln≠pt:=cI qE mT nofun;have qD:ke ln=some (.tup (ao.map V.int)):=rH _ _ RO qE;have k9:(ao.map V.int).length=10:=by rw [List.length_map];exact vm
      have a9:sizeLine=16777216:=sizeLine_eq;refine ⟨_,rfl,_,rfl,ln,_,rfl,qD,λ e2 Fv s1 af=>?_⟩;refine ⟨_,rfl,cg,λ aT Fw f2 s2 ai=>⟨ln,aT,_,_,rfl,rfl,s2 _ _ (s1 _ _ qD),ai,(by rw [k9];show 10+1<=sizeLine;decide),λ jQ MO s3 aF=>?_⟩⟩;have mX:=(s1.trans s2).trans s3;refine ⟨_,rfl,ln,_,rfl,.inr (aR.of (mX _ _ qD)),λ nP MP f4 s4 aX=>?_⟩;have oq:=mX.trans s4;have tS:kH (ao.map V.int) none (some 9)=(ao.take 9).map V.int:=by rw [C5 (by decide),List.map_take];rfl
      rw [tS] at af;have rI:((ao.take 9).map V.int).length=9:=by rw [List.length_map,List.length_take];omega
      refine ⟨_,rfl,_,rfl,ln,_,rfl,oq _ _ qD,λ lp abE s5 bT=>?_⟩;rw [tS] at bT;refine ⟨_,_,rfl,rfl,⟨by decide,by decide,by decide⟩,_,_,rfl,rfl,cg,λ l0 abF hZ bL dn=>⟨lp,l0,_,_,rfl,rfl,bL _ _ bT,dn,(by rw [rI];show 9+1<=sizeLine;decide),λ FY abG cC jO=>?_⟩⟩;have Hh:=((oq.trans s5).trans bL).trans cC;refine ⟨_,rfl,_,rfl,ln,_,rfl,Hh _ _ qD,λ Nu abH cH fK=>?_⟩;rw [tS] at fK;refine ⟨_,rfl,cg,λ w0 abI tV eC k_=>⟨Nu,w0,_,_,rfl,rfl,eC _ _ fK,k_,(by rw [rI];show 9+1<=sizeLine;decide),λ dJ abJ rP aw=>?_⟩⟩;have Hi:=((Hh.trans cH).trans eC).trans rP;refine λ db abK rJ cR J=>⟨cg,λ lc Gc abY xM aj=>?_⟩
      have Hj:=(Hi.trans cR).trans xM;refine ⟨_,rfl,_,rfl,_,rfl,ln,_,rfl,Hj _ _ qD,λ Nv gb gx mQ=>?_⟩;rw [tS] at mQ;refine ⟨cg,λ bh abL fx zY he=>⟨Nv,bh,_,_,rfl,rfl,zY _ _ mQ,he,(by rw [rI];show 9+1<=sizeLine;decide),λ FZ abM F1 hf=>?_⟩⟩;have Hk:=((Hj.trans gx).trans zY).trans F1;refine ⟨_,rfl,_,rfl,ln,_,rfl,Hk _ _ qD,λ lW abN t7 aI=>?_⟩;rw [tS] at aI;refine ⟨cg,λ bY abO abZ wY bU=>⟨lW,bY,_,_,rfl,rfl,wY _ _ aI,bU,(by rw [rI];show 9+1<=sizeLine;decide),λ pi abP zZ ay=>?_⟩⟩;have Hl:=((Hk.trans t7).trans wY).trans zZ;refine ⟨cg,λ Nj abQ ab0 wZ b3=>?_⟩;have Hn:=(((((gx.trans zY).trans F1).trans t7).trans wY).trans zZ).trans wZ;refine ⟨lc,Nj,_,_,rfl,rfl,Hn _ _ aj,b3,(by show 8+2<=sizeLine;decide),λ lk MQ M7 z0 aB=>?_⟩;have BF:=(Hl.trans wZ).trans z0;have GH:=BF _ _ jv;refine ⟨_,rfl,pt,wV,10,rfl,GH,by decide,by decide,λ im eU kZ P0 P1 bm GI=>?_⟩;have up : ∀ {G:ah} {c:Addr} {ys:List V},aC G MQ->G c=some (.tup ys)->kZ c=some (.tup ys):=λ {G c ys} s h=>bm _ _ (cI (s _ _ h) GH nofun) (s _ _ h)
      have vt : ∀ (l:List Int) (x:V),(∀ G:ah,d5 G x) -> ∀ y∈l.map V.int++[x],d5 kZ y:=λ l x ak y aN=>by
       rcases List.mem_append.mp aN with z | z
       ·obtain ⟨i,_,rfl⟩:=List.mem_map.mp z;trivial
       ·rw [List.mem_singleton.mp z];exact ak kZ
      have wQ : ∀ x:V,((ao.take 9).map V.int++[x]).length<=1000:=λ x=>by rw [List.length_append,rI];show 9+1<=1000;decide
      have Ho:=wZ.trans z0;have QR:=zZ.trans Ho;have zE:=Hn.trans z0;have FF:=(cR.trans xM).trans zE;have lg:=((cH.trans eC).trans rP).trans FF;have mF:=((s5.trans bL).trans cC).trans lg;have k3:=s4.trans mF;have k1:=(s2.trans s3).trans k3;have hJ:dK kZ (.ref e2):=ny (up k1 af) (by rw [rI];decide) λ y aN=>by obtain ⟨i,_,rfl⟩:=List.mem_map.mp aN;trivial
      have lq:dK kZ (.ref jQ):=ny (up k3 aF) (by rw [List.length_append,k9];show 10+1<=1000;decide) (vt ao _ λ _=>trivial);have Qk:nP≠pt:=mG f4 (mX _ _ jv);have w1:dK kZ (.ref nP):=Vv (bm _ _ Qk (mF _ _ aX));have Aa:dK kZ (.ref FY):=ny (up lg jO) (wQ _) (vt _ _ λ _=>trivial);have NI:dK kZ (.ref dJ):=ny (up FF aw) (wQ _) (vt _ _ λ _=>trivial);have G4:db≠pt:=mG rJ (Hi _ _ jv);have NJ:dK kZ (.ref db):=yC (.inr (.inr ⟨_,bm _ _ G4 ((xM.trans zE) _ _ J)⟩)) (S8 (bm _ _ G4 ((xM.trans zE) _ _ J)));have Q0:dK kZ (.ref FZ):=ny (up ((t7.trans wY).trans QR) hf) (wQ _) (vt _ _ λ _=>trivial);have fq:dK kZ (.ref pi):=ny (up Ho ay) (wQ _) (vt _ _ λ _=>trivial);obtain ⟨NH,PI,Q3⟩:=Se (H:=kZ) (xs:=[V.ref e2,V.ref jQ,V.ref nP,V.ref FY,V.ref dJ,V.bg,V.int 6,V.ref db]++[V.ref FZ,V.ref pi]) (λ x ak=>by
       simp only [List.cons_append,List.nil_append,List.mem_cons,List.not_mem_nil,or_false] at ak;rcases ak with rfl | rfl | rfl | rfl | rfl | rfl | rfl | rfl | rfl | rfl
       ·exact hJ
       ·exact lq
       ·exact w1
       ·exact Aa
       ·exact NI
       ·exact Vw
       ·exact Vu _
       ·exact NJ
       ·exact Q0
       ·exact fq) P0 (show im<((10:Nat):Int) from P1)
      exact ⟨lk,_,_,_,rfl,rfl,a3.of (bm _ _ (mG M7 ((Hl.trans wZ) _ _ jv)) aB),PI,NH,eU,_,rfl,((Ap.trans rH).trans (bW.of BF)).trans bm,GI,(((Bw.but rH jv).same BF).but bm GI),Q3⟩
     ·refine ⟨_,wV,_,rfl,Ap.trans rH,jv,Bw.but rH jv,?_⟩;exact ny (rH _ _ (cI qE mT nofun) qE) (by rw [List.length_map];omega) λ y aN=>by obtain ⟨i,_,rfl⟩:=List.mem_map.mp aN;trivial
   ·rintro σ' ke ⟨bY,wV,Hw,rfl,qm,jv,Bx,Q1⟩;refine ⟨_,rfl,_,rfl,cg,λ d2 kY M5 sB qa=>?_⟩;exact q d2 "put" v6 bY wV kY (qm.trans (bW.of sB)) (sB _ _ jv) qa (.inl ⟨rfl,Bx.same sB,aC.dK sB Q1⟩)
  ·refine ⟨_,rfl,_,_,rfl,rfl,_,rfl,eu (λ k_=>?_) (λ k_=>?_)⟩
   ·refine ⟨_,rfl,_,rfl,pt,nS,30,rfl,hl,by decide,by decide,λ rO jh cT QH QI fH qI=>⟨cg,λ FT e9 f8 cH fK=>⟨_,rfl,pt,jh,4,rfl,cH _ _ qI,by decide,by decide,λ ab3 wU fX PW PX o4 mT=>?_⟩⟩⟩;obtain ⟨m,hm,m0,kk⟩:=runs PW PX QH QI;refine ⟨FT,_,_,_,rfl,rfl,a3.of (o4 _ _ (mG f8 qI) fK),hm,cg,λ d2 kY M5 sB qa=>?_⟩;exact q d2 "run" v6 (.int m) wU kY ((((r1.trans fH).trans (bW.of cH)).trans o4).trans (bW.of sB)) (sB _ _ mT) qa (.inr (.inl ⟨rfl,((((Bv.but fH qI).same cH).but o4 mT).same sB),m,rfl,m0,kk⟩))
   ·have acA : ¬ pd<5:=λ z=>h (decide_eq_true z)
    have acB : ¬ pd<9:=λ z=>k_ (decide_eq_true z)
    refine ⟨_,rfl,cg,λ rR cT p9 cC jO=>⟨cg,λ F4 e9 f8 cH fK=>⟨cg,λ w0 fX tV eC ON=>⟨cg,λ zO ke FJ gM lV=>?_⟩⟩⟩⟩;have BG:=((cC.trans cH).trans eC).trans gM;have qm:=r1.trans (bW.of BG);have jv:=BG _ _ hl;have Bx:=Bv.same BG;have aj:pd - 9=0\/pd - 9=1\/pd - 9=2:=by omega
    rcases aj with e | e | e
    ·refine ⟨_,rfl,_,_,rfl,rfl,zO,_,_,.ref rR,rfl,rfl,a3.of lV,by rw [e];rfl,?_⟩;exact q rR "drop" v6 .bg nS ke qm jv (gM _ _ (eC _ _ (cH _ _ jO))) (.inr (.inr (.inl ⟨rfl,Bx,rfl⟩)))
    ·refine ⟨_,rfl,_,_,rfl,rfl,zO,_,_,.ref F4,rfl,rfl,a3.of lV,by rw [e];rfl,?_⟩;exact q F4 "undo" .bg .bg nS ke qm jv (gM _ _ (eC _ _ fK)) (.inr (.inr (.inr ⟨rfl,rfl,rfl⟩)))
    ·refine ⟨_,rfl,_,_,rfl,rfl,zO,_,_,.ref w0,rfl,rfl,a3.of lV,by rw [e];rfl,?_⟩;exact q w0 "undo" .bg .bg nS ke qm jv (gM _ _ ON) (.inr (.inr (.inr ⟨rfl,rfl,rfl⟩)))
end
section
variable {M N:List Addr} {a0 H H1 H':ah} {c:Addr}
theorem dx.one {bl xC:List (Key×V)} (a:dx H c (.bp bl)) (b:dx H c (.bp xC)):bl=xC:=by
 rcases a with a | ⟨u,a⟩<;>rcases b with b | ⟨jj,b⟩<;>rw [a] at b<;>cases b<;>rfl
def cf (M:List Addr) (H H':ah):Prop := ∀ c o,c∉M->H c=some o->H' c=some o \/ ∃ bl,dx H c (.bp bl)/\dx H' c (.bp bl)
theorem cf.same (s:aC H H'):cf M H H':=λ c o _ h=>.inl (s _ _ h)
theorem cf.but {p:Addr} (b:bW p H H'):cf [p] H H':=λ c o n h=>.inl (b _ _ (λ z=>n (by rw [z];exact List.mem_singleton.mpr rfl)) h)
theorem cf.oe {a b:Addr} (k:l3 a b H H'):cf [a,b] H H':=λ c o n h=>.inl (k _ _ (λ z=>n (by rw [z];simp)) (λ z=>n (by rw [z];simp)) h)
theorem cf.mono (k:cf M H H') (s : ∀ c∈M,c∈N):cf N H H':=λ c o n h=>k c o (λ z=>n (s c z)) h
theorem cf.cK {bl:List (Key×V)} (k:cf M H H') (n:c∉M) (h:dx H c (.bp bl)):dx H' c (.bp bl):=by
 have ai:=h;rcases h with h | ⟨u,h⟩
 ·rcases k _ _ n h with h' | ⟨xC,bq,b5⟩
  ·exact .inl h'
  ·rw [dx.one ai bq];exact b5
 ·rcases k _ _ n h with h' | ⟨xC,bq,b5⟩
  ·exact .inr ⟨u,h'⟩
  ·rw [dx.one ai bq];exact b5
theorem cf.trans (k:cf M H H1) (fa:cf M H1 H'):cf M H H':=λ c o n h=>by
 rcases k c o n h with af | ⟨bl,bq,b5⟩
 ·rcases fa c o n af with ai | ⟨bl,bq,b5⟩
  ·exact .inl ai
  ·refine .inr ⟨bl,?_,b5⟩;rcases bq with r | ⟨u,r⟩<;>rw [af] at r<;>cases r
   ·exact .inl h
   ·exact .inr ⟨_,h⟩
 ·exact .inr ⟨bl,bq,fa.cK n b5⟩
theorem cf.at_ (k:cf M H H') (n:c∉M) {o:dG} (h:H c=some o) (cX : ∀ bl,¬ dx H c (.bp bl)):H' c=some o:=(k c o n h).elim id λ ⟨bl,r,_⟩=>absurd r (cX bl)
theorem Jt {xs:List V} (h:H c=some (.lst xs)) (bl:List (Key×V)) : ¬ dx H c (.bp bl):=λ r=>by
 rcases r with r | ⟨u,r⟩<;>rw [h] at r<;>cases r
theorem Uy {xs:List V} (h:H c=some (.tup xs)) (bl:List (Key×V)) : ¬ dx H c (.bp bl):=λ r=>by
 rcases r with r | ⟨u,r⟩<;>rw [h] at r<;>cases r
theorem Ux {C aH:Addr} {cW:List (Str×V)} (h:H c=some (.ins C aH cW)) (bl:List (Key×V)) : ¬ dx H c (.bp bl):=λ r=>by
 rcases r with r | ⟨u,r⟩<;>rw [h] at r<;>cases r
theorem cf.lst (k:cf M H H') (n:c∉M) {xs:List V} (h:H c=some (.lst xs)):H' c=some (.lst xs):=k.at_ n h (Jt h)
theorem cf.F2 {K:PySem.W.Frag} (k:cf M H H') (n:c∉M) {xs:List V} (h:a3 K H c xs):a3 K H' c xs:=by
 rcases h with (h | ⟨u,h⟩) | h
 ·exact .inl (.inl (k.lst n h))
 ·exact .inl (.inr ⟨u,k.at_ n h λ bl r=>by rcases r with r | ⟨u,r⟩<;>rw [h] at r<;>cases r⟩)
 ·exact .inr h
def jW (a0 H:ah) (M:List Addr):Prop := ∀ m∈M,(∃ ys,H m=some (.lst ys))\/((∃ o,a0 m=some o) /\ ∃ bl,H m=some (.bp bl))
theorem jW.tup (m:jW a0 H M) {ys:List V} (h:H c=some (.tup ys)):c∉M:=λ z=>by
 rcases m c z with ⟨ys,e⟩ | ⟨_,bl,e⟩<;>rw [h] at e<;>cases e
theorem jW.ins (m:jW a0 H M) {C aH:Addr} {cW:List (Str×V)} (h:H c=some (.ins C aH cW)):c∉M:=λ z=>by
 rcases m c z with ⟨ys,e⟩ | ⟨_,bl,e⟩<;>rw [h] at e<;>cases e
theorem cf.dS (k:cf M H H') (m:jW a0 H M):jV H H':=λ c ys h=>k.at_ (m.tup h) h (Uy h)
theorem jW.row (m:jW a0 H M) {bl:List (Key×V)} (n:a0 c=none) (h:dx H c (.bp bl)):c∉M:=λ z=>by
 rcases m c z with ⟨ys,e⟩ | ⟨⟨o,e⟩,_⟩
 ·exact Jt e bl h
 ·rw [n] at e;cases e
end
theorem gn.dS {H H':ah} {xs:List V} {aA:List (Int×Int)} (h:gn H xs aA) (k:jV H H'):gn H' xs aA:=⟨h.1,λ i x ak=>by
 obtain ⟨a,b,c,d,e,af,ai,aF,aX,bT,dn⟩:=h.2 i x ak;exact ⟨a,b,c,d,e,af,ai,k _ _ aF,k _ _ aX,k _ _ bT,dn⟩⟩
theorem sub_len {α : Type} [DecidableEq α] : ∀ {l m:List α},l.Nodup->(∀ x∈l,x∈m)->l.length<=m.length
 | [],_,_,_=>Nat.zero_le _
 | x::l,m,cX,h=>by
  have mW:=List.nodup_cons.mp cX;have ak:x∈m:=h x List.mem_cons_self;have:=sub_len (l:=l) (m:=m.erase x) mW.2 λ y aN=>(List.mem_erase_of_ne λ z=>mW.1 (by rw [<-z];exact aN)).mpr (h y (List.mem_cons_of_mem _ aN))
  rw [List.length_erase_of_mem ak] at this;have ax:0<m.length:=List.length_pos_of_mem ak;rw [List.length_cons];omega
def iJ (aY:dN):Prop:=(ei aY).Nodup /\ ∀ p∈aY,p.1∈six/\p.2.1.length=10/\nn p.2.1=true
theorem iJ.nil:iJ []:=⟨List.nodup_nil,λ p h=>by cases h⟩
theorem iJ.perm {b c:dN} (h:iJ b) (p:c.Perm b):iJ c:=⟨(p.map _).nodup_iff.mpr h.1,λ q aS=>h.2 q (p.mem_iff.mp aS)⟩
theorem iJ.small {b:dN} (h:iJ b):b.length<=6:=by
 have:=sub_len (m:=six) h.1 λ x ak=>by
  obtain ⟨p,ax,rfl⟩:=List.mem_map.mp ak;exact (h.2 p ax).1
 rw [List.length_map] at this;exact this
theorem I0 {x:Str} (h:x∈six):(t_ x/\x.length<=1000)/\gq (.str x)=true:=by
 have key : ∀ y∈six,(((e6 y).all λ c=>decide (c<128))&&decide (y.length<=1000)&&gq (.str y))=true:=by decide +kernel
 have:=key x h;rw [Bool.and_eq_true,Bool.and_eq_true] at this;exact ⟨⟨λ c aj=>of_decide_eq_true (List.all_eq_true.mp this.1.1 c aj),of_decide_eq_true this.1.2⟩,this.2⟩
theorem iJ.put {b:dN} (h:iJ b) {x:Str} {e:Ent} (ak:x∈six) (he:e.1.length=10/\nn e.1=true):iJ (hq b x e):=by
 refine ⟨Ld h.1 _ _,λ p ax=>?_⟩;by_cases aB:x∈ei b
 ·rw [sX aB] at ax;obtain ⟨q,aS,rfl⟩:=List.mem_map.mp ax;split
  ·exact ⟨(h.2 q aS).1,he⟩
  ·exact h.2 q aS
 ·rw [rl aB] at ax;rcases List.mem_append.mp ax with z | z
  ·exact h.2 p z
  ·rw [List.mem_singleton.mp z];exact ⟨ak,he⟩
theorem iJ.drop {b:dN} (h:iJ b) (x:Str):iJ (hs b x):=⟨ZO h.1 _,λ p ax=>h.2 p (List.mem_filter.mp ax).1⟩
structure hM where
 r:Addr
 t:Addr
 bl:List (Key×V)
 aY:dN
 x:Str
 w:V
def pN (c9:Addr):List hM->Addr
 | []=>c9
 | l::_=>l.r
def vA:List hM->List (Key×V)
 | []=>[]
 | l::_=>l.bl
def hr:List hM->dN
 | []=>[]
 | l::_=>l.aY
def kM (c9:Addr):List hM->List V
 | []=>[.ref c9]
 | l::ls=>kM c9 ls++[.ref l.r]
def gT:List hM->List V
 | []=>[]
 | l::ls=>gT ls++[.ref l.t]
theorem sR (c9:Addr) : ∀ ls,(kM c9 ls).length=ls.length+1
 | []=>rfl
 | l::ls=>by show (kM c9 ls++[V.ref l.r]).length=_;rw [List.length_append,sR c9 ls];rfl
theorem CA : ∀ ls,(gT ls).length=ls.length
 | []=>rfl
 | l::ls=>by show (gT ls++[V.ref l.t]).length=_;rw [List.length_append,CA ls];rfl
theorem yy (c9:Addr) (ls:List hM):gA (kM c9 ls) (-1)=some (.ref (pN c9 ls)):=by
 refine CJ (n:=ls.length) (sR c9 ls) ?_;cases ls with
 | nil=>rfl
 | cons l ls =>
  show (kM c9 ls++[V.ref l.r])[ls.length+1]?=_;rw [List.getElem?_append_right (by rw [sR];exact Nat.le_refl _),sR];simp [pN]
def sx (H:ah) (w:V):Option Ent->Prop
 | none=>w=.bg
 | some e=>lF H w e
theorem sx.dS {H H':ah} {w:V} (k:jV H H') : ∀ {o:Option Ent},sx H w o->sx H' w o
 | none,h=>h
 | some e,h=>lF.dS h k
theorem dI.hold {H:ah} {kvs:List (Key×V)} {aY:dN} {x:Str} {w:V} (d:dI H kvs aY) {o:Option Ent} (h:sx H w o):dI H (yi kvs x w) (q8 aY x o):=by
 cases o with
 | none =>
  obtain rfl:w=.bg:=h;exact d.drop
 | some e =>
  obtain ⟨a,b,rfl,af,ai⟩:=id (show lF H w e from h);exact d.put h
theorem dI.opt {H:ah} {kvs:List (Key×V)} {aY:dN} {x:Str} (d:dI H kvs aY):sx H ((dZ kvs (cz x)).getD .bg) (d6 aY x):=by
 cases h:d6 aY x with
 | none=>rw [d.none h];rfl
 | some e =>
  obtain ⟨u,bD,he⟩:=d.some h;rw [bD];exact he
structure Sb (a0 H:ah) (l:hM) (b:dN):Prop where
 new:a0 l.r=none
 cK:dx H l.r (.bp l.bl)
 FH:dI H l.bl l.aY
 aW:H l.t=some (.tup [.str l.x,l.w])
 pb:sx H l.w (d6 b l.x)
 un : ∀ c:dN,c.Perm l.aY->(q8 c l.x (d6 b l.x)).Perm b
 nN:iJ l.aY
 az:d6 b l.x=none -> ∃ e,d6 l.aY l.x=some e
def j_ (a0 H:ah):List hM->Prop
 | []=>True
 | l::ls=>Sb a0 H l (hr ls)/\j_ a0 H ls
theorem j_.gg {M:List Addr} {a0 H H':ah} (k:cf M H H') (m:jW a0 H M) : ∀ {ls:List hM},j_ a0 H ls->j_ a0 H' ls
 | [],_=>trivial
 | l::ls,⟨h,t⟩=>⟨⟨h.new,k.cK (m.row h.new h.cK) h.cK,h.FH.dS (k.dS m),k.dS m _ _ h.aW,h.pb.dS (k.dS m),h.un,h.nN,h.az⟩,t.gg k m⟩
theorem j_.good {a0 H:ah} : ∀ {ls:List hM},j_ a0 H ls->iJ (hr ls)
 | [],_=>iJ.nil
 | l::ls,h=>h.1.nN
theorem j_.dict {a0 H:ah} : ∀ {ls:List hM},j_ a0 H ls->dI H (vA ls) (hr ls)
 | [],_=>.nil
 | l::ls,h=>h.1.FH
theorem j_.top {a0 H:ah} {c9:Addr} (aq:dx H c9 (.bp [])) : ∀ {ls:List hM},j_ a0 H ls->dx H (pN c9 ls) (.bp (vA ls))
 | [],_=>aq
 | l::ls,h=>h.1.cK
theorem j_.apart {a0 H:ah} {c9 c:Addr} {o:dG} (aj:a0 c=some o) (aq:c9≠c) : ∀ {ls:List hM},j_ a0 H ls->pN c9 ls≠c
 | [],_=>aq
 | l::ls,h=>λ z=>by
  have:=h.1.new;rw [show l.r=c from z,aj] at this;cases this
theorem JW {rows:List (List Int)} {p:List Int} : ∀ {k j:Nat} {q:List Int},goN rows k p=some q->j<=k -> ∃ r,goN rows j p=some r
 | 0,j,q,h,b3=>by rw [show j=0 by omega];exact ⟨q,h⟩
 | k+1,j,q,h,b3=>by
  by_cases e:j=k+1
  ·rw [e];exact ⟨q,h⟩
  ·obtain ⟨r,af,_⟩:=Option.bind_eq_some_iff.mp h;exact JW af (by omega)
theorem yH {rows:List (List Int)} {p r bB:List Int} {k j:Nat} (af:goN rows k p=some r) (aq:c7 rows r=none) (ai:goN rows j p=some bB):j<=k:=Nat.le_of_not_lt λ z=>by
 obtain ⟨bF,uN⟩:=JW (j:=k+1) ai z;have aF:(goN rows k p).bind (gk rows)=some bF:=uN;rw [af] at aF;obtain ⟨_,_,aO,_⟩:=Kf aF;rw [aq] at aO;cases aO
theorem V0 {rows:List (List Int)} {p r bB:List Int} {k j m:Nat} (aB:k<=m) (b3:j<=m) (af:goN rows k p=some r) (o9:k=m\/c7 rows r=none) (ai:goN rows j p=some bB) (iW:j=m\/c7 rows bB=none):j=k:=by
 rcases o9 with o9 | o9<;>rcases iW with iW | iW
 ·omega
 ·have:=yH ai iW af;omega
 ·have:=yH af o9 ai;omega
 ·have:=yH af o9 ai;have:=yH ai iW af;omega
section
variable {P:Program} {w:World} {K:PySem.W.Frag} {mg:Str->Option Value} {base:Heap}
structure gm where
 bn:Addr
 pr:Addr
 hd:Addr
 dl:Addr
 bk:Addr
 a_:Addr
 c9:Addr
 aH:Addr
 xs:List V
 cb:List V
 aA:List (Int×Int)
structure jd (a0 H:ah) (S:gm) (fp:List V) (kvs:List (Key×V)) (aY:dN) (ls:List hM):Prop where
 hd:H S.hd=some (.bp kvs)
 dl:H S.dl=some (.lst (gT ls))
 a_:H S.a_=some (.lst fp)
 D:dI H kvs aY
 pm:aY.Perm (hr ls)
 c9:dx H S.c9 (.bp [])
 st:j_ a0 H ls
theorem jd.gg {a0 H H':ah} {S:gm} {fp:List V} {kvs:List (Key×V)} {aY:dN} {ls:List hM} {M:List Addr} (d:jd a0 H S fp kvs aY ls) (k:cf M H H') (m:jW a0 H M) (cX : ∀ c∈[S.dl,S.a_,S.c9],c∉M) (hd:H' S.hd=some (.bp kvs)):jd a0 H' S fp kvs aY ls :=
 ⟨hd,k.lst (cX _ (by simp)) d.dl,k.lst (cX _ (by simp)) d.a_,d.D.dS (k.dS m),d.pm,k.cK (cX _ (by simp)) d.c9,d.st.gg k m⟩
def gb (a0 H:ah) (S:gm) (n:Nat):Prop := ∃ kvs aY ls,ls.length<=n/\jd a0 H S (kM S.c9 ls) kvs aY ls
theorem gb.mono {a0 H:ah} {S:gm} {n b6:Nat} (g:gb a0 H S n) (h:n<=b6):gb a0 H S b6:=by
 obtain ⟨kvs,aY,ls,af,ai⟩:=g;exact ⟨kvs,aY,ls,by omega,ai⟩
theorem gb.same {a0 H H':ah} {S:gm} {n:Nat} (g:gb a0 H S n) (s:aC H H'):gb a0 H' S n:=by
 obtain ⟨kvs,aY,ls,af,ai⟩:=g;exact ⟨kvs,aY,ls,af,ai.gg (M:=[]) (cf.same s) (λ _ h=>by cases h) (λ _ _ h=>by cases h) (s _ _ ai.hd)⟩
structure Ev (T:bE K mg) (a0:ah) (S:gm):Prop where
 J:a0 S.bn=some (.ins T.f6 S.aH [("program", .ref S.pr),("held", .ref S.hd),("deeds", .ref S.dl)])
 sa:a0 S.pr=some (.tup S.xs)
 hf:gp a0 S.xs S.aA
 xQ:S.xs.length<=16
 Bc:a0 S.bk=some (.lst S.cb)
 bJ:gn a0 S.cb S.aA
 j2:a0 S.hd=some (.bp [])
 qN:a0 S.dl=some (.lst [])
 qO:a0 S.a_=some (.lst [.ref S.c9])
 uU:a0 S.c9=some (.bp [])
 sh:S.c9≠S.hd
 G2:S.dl≠S.a_
structure zq (S rD:gm):Prop where
 af:S.hd≠rD.hd
 ai:S.hd≠rD.c9
 iT:S.dl≠rD.dl
 o5:S.dl≠rD.a_
 k1:S.a_≠rD.dl
 k2:S.a_≠rD.a_
def ew (S:Bool->gm):List Addr:=[(S false).hd,(S false).dl,(S false).a_,(S true).hd,(S true).dl,(S true).a_]
theorem Jq (S:Bool->gm) (b:Bool) : ∀ c∈[(S b).hd,(S b).dl,(S b).a_],c∈ew S:=λ c aj=>by
 unfold ew;simp only [List.mem_cons,List.not_mem_nil,or_false] at aj ⊢;cases b
 ·rcases aj with h | h | h<;>simp [h]
 ·rcases aj with h | h | h<;>simp [h]
structure d1 (T:bE K mg) (a0:ah) (S:Bool->gm) (a pl ck aJ bl:Addr) (ns ag:List Int):Prop where
 sc : ∀ H',cf (ew S) a0 H'->a3 K H' a (ns.map V.int)
 dp:a0 pl=some (.tup (ag.map V.int))
 QC:ag.length<=10
 pm : ∀ m∈ag,0<=m/\m<10
 PB:a0 ck=some (.lst [.ref (S false).bk,.ref (S true).bk])
 xl:a0 aJ=some (.lst [.ref (S false).bn,.ref (S true).bn])
 n8:a0 bl=some (.lst [.ref (S false).a_,.ref (S true).a_])
 nm : ∀ c∈[ck,aJ,bl,(S false).bk,(S true).bk],c∉ew S
 ev : ∀ b,Ev T a0 (S b)
 ap : ∀ b,zq (S b) (S (!b))
section
variable {T:bE K mg} {a0 H H':ah} {S:Bool->gm} {a pl ck aJ bl:Addr} {ns ag:List Int}
theorem d1.kx (e:d1 T a0 S a pl ck aJ bl ns ag):jW a0 a0 (ew S):=λ m hm=>by
 unfold ew at hm;simp only [List.mem_cons,List.not_mem_nil,or_false] at hm;rcases hm with rfl | rfl | rfl | rfl | rfl | rfl
 ·exact .inr ⟨⟨_,(e.ev false).j2⟩,_,(e.ev false).j2⟩
 ·exact .inl ⟨_,(e.ev false).qN⟩
 ·exact .inl ⟨_,(e.ev false).qO⟩
 ·exact .inr ⟨⟨_,(e.ev true).j2⟩,_,(e.ev true).j2⟩
 ·exact .inl ⟨_,(e.ev true).qN⟩
 ·exact .inl ⟨_,(e.ev true).qO⟩
theorem d1.dS (e:d1 T a0 S a pl ck aJ bl ns ag) (k:cf (ew S) a0 H):jV a0 H:=k.dS e.kx
theorem d1.Gf (e:d1 T a0 S a pl ck aJ bl ns ag) (k:cf (ew S) a0 H) (b:Bool):H (S b).bn=some (.ins T.f6 (S b).aH [("program", .ref (S b).pr),("held", .ref (S b).hd),("deeds", .ref (S b).dl)]) :=
 k.at_ (e.kx.ins (e.ev b).J) (e.ev b).J (Ux (e.ev b).J)
theorem d1.QX (e:d1 T a0 S a pl ck aJ bl ns ag) (k:cf (ew S) a0 H):H ck=some (.lst [.ref (S false).bk,.ref (S true).bk]):=k.lst (e.nm ck (by simp)) e.PB
theorem d1.Aq (e:d1 T a0 S a pl ck aJ bl ns ag) (k:cf (ew S) a0 H):H aJ=some (.lst [.ref (S false).bn,.ref (S true).bn]):=k.lst (e.nm aJ (by simp)) e.xl
theorem d1.qP (e:d1 T a0 S a pl ck aJ bl ns ag) (k:cf (ew S) a0 H):H bl=some (.lst [.ref (S false).a_,.ref (S true).a_]):=k.lst (e.nm bl (by simp)) e.n8
theorem d1.tab (e:d1 T a0 S a pl ck aJ bl ns ag) (k:cf (ew S) a0 H) (b:Bool):H (S b).bk=some (.lst (S b).cb)/\gn H (S b).cb (S b).aA :=
 ⟨k.lst (e.nm _ (by cases b<;>simp)) (e.ev b).Bc,(e.ev b).bJ.dS (e.dS k)⟩
theorem d1.QD (e:d1 T a0 S a pl ck aJ bl ns ag) (k:cf (ew S) a0 H) (b:Bool):H (S b).pr=some (.tup (S b).xs)/\gp H (S b).xs (S b).aA :=
 ⟨e.dS k _ _ (e.ev b).sa,(e.ev b).hf.dS (e.dS k)⟩
theorem d1.bn (e:d1 T a0 S a pl ck aJ bl ns ag) (k:cf (ew S) a0 H) (b:Bool) {fp:List V} {kvs:List (Key×V)} {aY:dN} {ls:List hM} (d:jd a0 H (S b) fp kvs aY ls):fv T H (S b).bn (S b).pr (S b).hd (S b).dl kvs (gT ls) :=
 ⟨⟨_,e.Gf k b⟩,d.hd,d.dl⟩
theorem at2 {α : Type} (x y : α) (b:Bool):gA [x,y] (if b then (1:Int) else 0)=some (if b then y else x):=by cases b<;>rfl
theorem q5 {f:gm->Addr} (b:Bool):(if b then V.ref (f (S true)) else V.ref (f (S false)))=V.ref (f (S b)):=by cases b<;>rfl
theorem d1.other (e:d1 T a0 S a pl ck aJ bl ns ag) {b:Bool} {n:Nat} (g:gb a0 H (S (!b)) n) (k:cf [(S b).hd,(S b).dl,(S b).a_] H H') (m:jW a0 H [(S b).hd,(S b).dl,(S b).a_]) (ak : ∀ o,H (S (!b)).hd=some o->H' (S (!b)).hd=some o):gb a0 H' (S (!b)) n:=by
 obtain ⟨kvs,aY,ls,af,ai⟩:=g;have A:=e.ap b;have lR:=e.ev (!b);have E:=e.ev b;refine ⟨kvs,aY,ls,af,ai.gg k m (λ c aj=>?_) ?_⟩
 ·simp only [List.mem_cons,List.not_mem_nil,or_false] at aj ⊢;rcases aj with rfl | rfl | rfl
  ·rintro (z | z | z)
   ·exact cI lR.qN E.j2 nofun z
   ·exact A.iT z.symm
   ·exact A.k1 z.symm
  ·rintro (z | z | z)
   ·exact cI lR.qO E.j2 nofun z
   ·exact A.o5 z.symm
   ·exact A.k2 z.symm
  ·rintro (z | z | z)
   ·exact A.ai z.symm
   ·exact cI lR.uU E.qN nofun z
   ·exact cI lR.uU E.qO nofun z
 ·exact ak _ ai.hd
end
end
theorem gO.keep {H H':ah} {v:V} (k:gC H H') (h:gO H v):gO H' v:=⟨⟨k.kind h.1.1,h.1.2⟩,h.2⟩
theorem m_.keep {H H':ah} {way:Str} {v bY:V} (k:gC H H') (d:m_ H way v bY):m_ H' way v bY:=by
 rcases d with ⟨af,ai,aF⟩ | ⟨af,ai,aF⟩ | ⟨af,ai,aF⟩ | h
 ·exact .inl ⟨af,ai.keep k,k.dK aF⟩
 ·exact .inr (.inl ⟨af,ai.keep k,aF⟩)
 ·exact .inr (.inr (.inl ⟨af,ai.keep k,aF⟩))
 ·exact .inr (.inr (.inr h))
theorem m_.nm {H:ah} {way:Str} {v bY:V} (d:m_ H way v bY) (h:way ≠ "undo"):gO H v:=by
 rcases d with ⟨_,ai,_⟩ | ⟨_,ai,_⟩ | ⟨_,ai,_⟩ | ⟨af,_⟩
 ·exact ai
 ·exact ai
 ·exact ai
 ·exact absurd af h
theorem XJ {H:ah} {a:Addr} {ag:List Int} (h:H a=some (tupI ag)) (au:ht H (.ref a)=true):ag.length=10/\nn ag=true:=by
 unfold ht at au;rw [oQ h] at au;have l5:=Bool.and_eq_true_iff.mp (show (decide ((ag.map V.int).length=10)&&(ag.map V.int).all gU&&(ag.map V.int).all lG)=true from au);have af:=Bool.and_eq_true_iff.mp l5.1;refine ⟨by have:=of_decide_eq_true af.1;rw [List.length_map] at this;exact this,ni.mpr λ i ay=>?_⟩;exact of_decide_eq_true (List.all_eq_true.mp af.2 (.int i) (List.mem_map_of_mem ay))
theorem Zh {b:dN} (cX:(ei b).Nodup) {x:Str} {e:Ent} (h:d6 b x=none) : ∃ cU,d6 (hq b x e) x=some cU:=by
 have ak:=y4.mp h;refine ⟨e,yS (Ld cX x e) ?_⟩;rw [rl ak];exact List.mem_append_right _ (List.mem_singleton.mpr rfl)
section
variable {P:Program} {w:World} {K:PySem.W.Frag} {mg:Str->Option Value} {base:Heap}
section
variable {T:bE K mg} {a0 H H':ah} {S:Bool->gm} {a pl ck aJ bl:Addr} {ns ag:List Int} {b:Bool} {fp:List V} {kvs:List (Key×V)} {aY:dN} {ls:List hM} {n:Nat} {d2:Addr} {way:Str} {v bY fm:V} {Q:bz} {E:dz}
theorem d1.HP (e:d1 T a0 S a pl ck aJ bl ns ag) (d:jd a0 H (S b) fp kvs aY ls):jW a0 H [(S b).hd,(S b).dl]:=λ m hm=>by
 simp only [List.mem_cons,List.not_mem_nil,or_false] at hm;rcases hm with rfl | rfl
 ·exact .inr ⟨⟨_,(e.ev b).j2⟩,_,d.hd⟩
 ·exact .inl ⟨_,d.dl⟩
theorem d1.xY (e:d1 T a0 S a pl ck aJ bl ns ag) (d:jd a0 H (S b) fp kvs aY ls) (k2:l3 (S b).hd (S b).dl H H') {m5:List (Key×V)} {eS:dN} {mV:List hM} (jJ:fv T H' (S b).bn (S b).pr (S b).hd (S b).dl m5 (gT mV)) (p3:dI H' m5 eS) (BD:eS.Perm (hr mV)) (ib:j_ a0 H' mV):jd a0 H' (S b) fp m5 eS mV:=by
 have E:=e.ev b;refine ⟨jJ.hd,jJ.dl,k2 _ _ (cI d.a_ d.hd nofun) (Ne.symm E.G2) d.a_,p3,BD,?_,ib⟩;refine (cf.oe k2).cK ?_ d.c9;simp only [List.mem_cons,List.not_mem_nil,or_false];rintro (z | z)
 ·exact E.sh z
 ·exact cI E.uU E.qN nofun z
theorem d1.told (e:d1 T a0 S a pl ck aJ bl ns ag) (k:cf (ew S) a0 H) (h8:H d2=some (.tup [.str way,v,bY]))
  (h:(way = "put" /\ Dj T [.ref (S b).bn,v,bY] H Q (hu T Q))\/(way = "run" /\ Dk T [.ref (S b).bn,v,bY] H Q (hu T Q))\/(way = "drop" /\ DK T [.ref (S b).bn,v] H Q (hu T Q))\/(way = "undo" /\ DL T [.ref (S b).bn] H Q (hu T Q))):ts T [.ref (S b).bn,.ref d2] H Q E :=
 ⟨(S b).bn,d2,(S b).aH,_,way,v,bY,rfl,h8,e.Gf k b,by rfl,by rfl,by rfl,by rfl,h⟩
theorem d1.SP (e:d1 T a0 S a pl ck aJ bl ns ag) (k:cf (ew S) a0 H) {lt:Addr} {klt:List (Key×V)} {eS:dN} (d:jd a0 H (S b) (kM (S b).c9 ls++[.ref lt]) kvs aY ls) (aD:ls.length<=n) (r_:n<=900) (h8:H d2=some (.tup [.str way,v,bY])) (hd:m_ H way v bY)
  (new:a0 lt=none) (dE:H lt=some (.bp klt)) (uE:dI H klt eS) (st:pO (S b).aA (hr ls) H way v bY fm eS) (q : ∀ H',l3 (S b).hd (S b).dl H H'->gb a0 H' (S b) (n+1)->Q fm H'):ts T [.ref (S b).bn,.ref d2] H Q E:=by
 obtain ⟨x,rfl,GC,h⟩:=st;have gt:=d.st.good;have iV:=gt.perm d.pm;have B:=e.bn k b d;have A1:kvs.length<=6:=by rw [d.D.len];exact iV.small
 have gP:(gT ls).length<=1000:=by rw [CA];omega
 have k9:d6 aY x=d6 (hr ls) x:=y5 d.pm iV.1 x;have kx:=e.HP d;have GS:way ≠ "undo" -> x∈six:=λ hw=>by
  obtain ⟨y,aN,du⟩:=(hd.nm hw).2 GC;cases du;exact aN
 have key : ∀ {H' t m5 xb},l3 (S b).hd (S b).dl H H'->H' t=some (.tup [.str x,(dZ kvs (cz x)).getD .bg])->fv T H' (S b).bn (S b).pr (S b).hd (S b).dl m5 (gT ls++[.ref t])->dI H' m5 xb->xb.Perm eS->iJ eS->(∀ c:dN,c.Perm eS->(q8 c x (d6 (hr ls) x)).Perm (hr ls))->(d6 (hr ls) x=none -> ∃ e,d6 eS x=some e)->gb a0 H' (S b) (n+1):=by
  intro H' t m5 xb k2 aW jJ p3 BD nN un az;have kt:=(cf.oe k2).dS kx;refine ⟨m5,xb,⟨lt,t,klt,eS,x,(dZ kvs (cz x)).getD .bg⟩::ls,by rw [List.length_cons];omega,e.xY d k2 jJ p3 BD ⟨⟨new,.inl (k2 _ _ ?_ ?_ dE),uE.dS kt,aW,?_,un,nN,az⟩,d.st.gg (cf.oe k2) kx⟩⟩
  ·intro z;rw [show lt=(S b).hd from z,(e.ev b).j2] at new;cases new
  ·exact cI dE d.dl nofun
  ·rw [<-k9];exact (d.D.opt).dS kt
 refine e.told k h8 ?_;rcases h with ⟨rfl,rfl,⟨bP,j0⟩,rfl⟩ | ⟨rfl,m,bP,fa,r,rfl,j0,aB,aI,A9,rfl,rfl⟩ | ⟨rfl,nI,QE,rfl,aw,au,rfl,rfl⟩
 ·obtain ⟨u,bD,Gy⟩:=d.D.some (k9.trans j0);refine .inr (.inr (.inl ⟨rfl,(S b).bn,(S b).pr,(S b).hd,(S b).dl,kvs,gT ls,.str x,rfl,B,by omega,gP,trivial,(λ h=>by rw [show lH kvs (.str x)=some u from bD] at h;cases h),λ e3 jj ex bf t H' k2 aW jJ=>?_⟩));cases ex;refine q H' k2 (key k2 (by rw [bf];exact aW) jJ (d.D.dS ((cf.oe k2).dS kx)).drop (K7 d.pm x) (gt.drop x) (λ c aj=>W2 gt.1 j0 aj) λ h=>by rw [j0] at h;cases h)
 ·obtain ⟨u,bD,cO,nI,rfl,pw,h7⟩:=d.D.some (k9.trans j0);obtain ⟨_,_,m0,g7⟩:True/\True/\0<=m/\m<=2000:=by
   rcases hd with ⟨h,_⟩ | ⟨_,_,cJ,em,h⟩ | ⟨h,_⟩ | ⟨h,_⟩
   ·exact absurd h (by decide)
   ·cases em;exact ⟨trivial,trivial,h⟩
   ·exact absurd h (by decide)
   ·exact absurd h (by decide)
  have ge:=(gt.2 (x,bP) (tf j0)).2;have lW:=e.QD k b;refine .inr (.inl ⟨rfl,(S b).bn,(S b).pr,(S b).hd,(S b).dl,kvs,gT ls,.str x,m,rfl,B,by omega,gP,trivial,m0,g7,(λ h=>by rw [show lH kvs (.str x)=some (.ref cO) from bD] at h;cases h),λ e3 jj ex bf=>?_⟩);cases ex;rw [bD] at bf;cases bf;refine ⟨cO,nI,_,_,bP.1,bP.2,rfl,lW.1,lW.2,by have:=(e.ev b).xQ;omega,pw,h7,ge.1,ge.2,λ P8 bB aU gz t H' Pa AW RB k2 f3 sd aW jJ=>?_⟩;obtain rfl:=V0 aB Pa aI A9 AW RB;rw [aI] at AW;cases AW;have M9:=sO (y3 (S b).aA) ge.1 ge.2 aI;exact q H' k2 (key k2 (by rw [bD];exact aW) jJ ((d.D.dS ((cf.oe k2).dS kx)).put (e:=(r,bP.2+(P8:Int))) ⟨gz,aU,rfl,sd,f3⟩) (DB d.pm x _) (gt.put (GS (by decide)) M9) (λ c aj=>JG gt.1 aj) λ h=>by rw [j0] at h;cases h)
 ·have gl:=XJ aw au;obtain ⟨bf,hw⟩:gO H (.str x)/\dK H (.ref nI):=by
   rcases hd with ⟨_,af,ai⟩ | ⟨h,_⟩ | ⟨h,_⟩ | ⟨h,_⟩
   ·exact ⟨af,ai⟩
   ·exact absurd h (by decide)
   ·exact absurd h (by decide)
   ·exact absurd h (by decide)
  refine .inl ⟨rfl,(S b).bn,(S b).pr,(S b).hd,(S b).dl,kvs,gT ls,.str x,.ref nI,rfl,B,by omega,gP,bf.1,hw,(λ h=>by rw [GC] at h;cases h),(λ _ h=>by rw [au] at h;cases h),λ e3 a2 om ex _ es ft fg jr t cO H' k2 pw aW jJ=>?_⟩;cases ex;cases es;rw [aw] at ft;have N2:om=QE:=by injection ft with z;injection z with z;exact (List.map_inj_right (λ _ _ h=>by injection h)).mp z.symm
  subst N2;have kt:=(cf.oe k2).dS kx;exact q H' k2 (key k2 aW jJ ((d.D.dS kt).put (e:=(om,0)) ⟨cO,nI,rfl,pw,kt _ _ aw⟩) (DB d.pm x _) (gt.put (GS (by decide)) gl) (λ c aj=>JG gt.1 aj) λ h=>Zh gt.1 h)
theorem d1.SO (e:d1 T a0 S a pl ck aJ bl ns ag) (k:cf (ew S) a0 H) (d:jd a0 H (S b) fp kvs aY ls) (aD:ls.length<=n) (r_:n<=900) (h8:H d2=some (.tup [.str way,v,bY])) (hd:m_ H way v bY) (bD:way ≠ "undo") {x:Str} (t6:sy (hr ls) H way v bY x) (q : ∀ H',aC H H'->Q (.str x) H'):ts T [.ref (S b).bn,.ref d2] H Q E:=by
 have gt:=d.st.good;have iV:=gt.perm d.pm;have B:=e.bn k b d;have A1:kvs.length<=6:=by rw [d.D.len];exact iV.small
 have gP:(gT ls).length<=1000:=by rw [CA];omega
 have nm:=hd.nm bD;refine e.told k h8 ?_;have A7 : ∀ {x:Str},gq v=false\/Cr (hr ls) v=none->v=.str x->dZ kvs (cz x)=none:=by
  intro x h ev;subst ev;refine d.D.none ?_;rw [y5 d.pm iV.1 x];rcases h with h | h
  ·cases au:d6 (hr ls) x with
   | none=>rfl
   | some bP =>
    have:=(I0 (gt.2 (x,bP) (tf au)).1).2;rw [h] at this;cases this
  ·exact h
 have Ih:gq v=false\/Cr (hr ls) v=none->lH kvs v=none:=λ h=>by
  cases v with
  | str x=>exact A7 h rfl
  | _=>rfl
 rcases t6 with ⟨rfl,h⟩ | ⟨rfl,af,rfl,aF⟩
 ·rcases hd with ⟨rfl,_,hw⟩ | ⟨rfl,_,m,rfl,m0,g7⟩ | ⟨rfl,_,_⟩ | ⟨z,_⟩
  ·have hf:gq v=false:=h.resolve_right λ z=>z.1 rfl
   exact .inl ⟨rfl,(S b).bn,(S b).pr,(S b).hd,(S b).dl,kvs,gT ls,v,bY,rfl,B,by omega,gP,nm.1,hw,λ _ H1 s1=>hu.name T λ ar s2=>q ar (s1.trans s2),(λ z=>by rw [hf] at z;cases z),λ e3 a2 om ex z=>by rw [hf] at z;cases z⟩
  ·have hf:=Ih (h.imp id And.right);exact .inr (.inl ⟨rfl,(S b).bn,(S b).pr,(S b).hd,(S b).dl,kvs,gT ls,v,m,rfl,B,by omega,gP,nm.1.1,m0,g7,(λ _=>hu.name T λ ar s2=>q ar s2),λ x u ex bf=>by subst ex;rw [show dZ kvs (cz x)=none from hf] at bf;cases bf⟩)
  ·have hf:=Ih (h.imp id And.right);exact .inr (.inr (.inl ⟨rfl,(S b).bn,(S b).pr,(S b).hd,(S b).dl,kvs,gT ls,v,rfl,B,by omega,gP,nm.1.1,(λ _=>hu.name T λ ar s2=>q ar s2),λ x u ex bf=>by subst ex;rw [show dZ kvs (cz x)=none from hf] at bf;cases bf⟩))
  ·exact absurd z bD
 ·have hw:dK H bY:=by
   rcases hd with ⟨_,_,ai⟩ | ⟨h,_⟩ | ⟨h,_⟩ | ⟨h,_⟩
   ·exact ai
   ·exact absurd h (by decide)
   ·exact absurd h (by decide)
   ·exact absurd h (by decide)
  refine .inl ⟨rfl,(S b).bn,(S b).pr,(S b).hd,(S b).dl,kvs,gT ls,v,bY,rfl,B,by omega,gP,nm.1,hw,(λ z=>by rw [af] at z;cases z),λ _ _ H1 s1=>hu.TG T λ ar s2=>q ar (s1.trans s2),λ e3 a2 om ex _ es ft fg jr=>?_⟩;subst es;unfold ht at aF;rw [oQ ft] at aF;exfalso;have Gm:(decide ((om.map V.int).length=10)&&(om.map V.int).all gU&&(om.map V.int).all lG)=false:=aF;rw [decide_eq_true (by rw [List.length_map];exact fg),show (om.map V.int).all gU=true from List.all_eq_true.mpr λ y aN=>by obtain ⟨i,ay,rfl⟩:=List.mem_map.mp aN;exact decide_eq_true (jr i ay).1,show (om.map V.int).all lG=true from List.all_eq_true.mpr λ y aN=>by obtain ⟨i,ay,rfl⟩:=List.mem_map.mp aN;exact decide_eq_true (jr i ay).2] at Gm;cases Gm
theorem d1.SN (e:d1 T a0 S a pl ck aJ bl ns ag) (k:cf (ew S) a0 H) (d:jd a0 H (S b) fp kvs aY []) (h8:H d2=some (.tup [.str "undo", v,bY])) (q : ∀ H',aC H H'->Q (.str "deed") H'):ts T [.ref (S b).bn,.ref d2] H Q E:=by
 have iV:=(d.st.good).perm d.pm;have A1:kvs.length<=6:=by rw [d.D.len];exact iV.small
 refine e.told k h8 (.inr (.inr (.inr ⟨rfl,(S b).bn,(S b).pr,(S b).hd,(S b).dl,kvs,gT [],rfl,e.bn k b d,by omega,λ _=>hu.xY T λ ar s2=>q ar s2,λ jo u eq=>?_⟩)));exact absurd (show ([]:List V)=jo++[u] from eq) (by simp)
theorem d1.SQ (e:d1 T a0 S a pl ck aJ bl ns ag) (k:cf (ew S) a0 H) {l:hM} (d:jd a0 H (S b) (kM (S b).c9 ls) kvs aY (l::ls)) (aD:ls.length<=n) (h8:H d2=some (.tup [.str "undo", v,bY])) (q : ∀ H',l3 (S b).hd (S b).dl H H'->gb a0 H' (S b) n->Q .bg H'):ts T [.ref (S b).bn,.ref d2] H Q E:=by
 have iV:=(d.st.good).perm d.pm;have A1:kvs.length<=6:=by rw [d.D.len];exact iV.small
 obtain ⟨lo,st⟩:=d.st;have kx:=e.HP d;refine e.told k h8 (.inr (.inr (.inr ⟨rfl,(S b).bn,(S b).pr,(S b).hd,(S b).dl,kvs,gT (l::ls),rfl,e.bn k b d,by omega,(λ z=>absurd (show gT ls++[V.ref l.t]=[] from z) (by simp)),λ jo u eq=>?_⟩)));obtain ⟨rfl,M4⟩:=List.append_inj' (show gT ls++[V.ref l.t]=jo++[u] from eq) rfl;obtain rfl:V.ref l.t=u:=by simpa using M4
 refine ⟨l.t,l.x,l.w,rfl,lo.aW,?_,λ H' k2 jJ=>?_⟩
 ·have pb:=lo.pb;cases au:d6 (hr ls) l.x with
  | none =>
   rw [au] at pb;refine .inl ⟨pb,?_⟩;obtain ⟨bP,j0⟩:=lo.az au;obtain ⟨u,bD,_⟩:=d.D.some ((y5 d.pm iV.1 l.x).trans j0);exact ⟨u,bD⟩
  | some bP =>
   rw [au] at pb;obtain ⟨cO,_,o7,_⟩:=pb;exact .inr ⟨cO,o7⟩
 ·have kt:=(cf.oe k2).dS kx;exact q H' k2 ⟨_,_,ls,aD,e.xY d k2 jJ ((d.D.dS kt).hold (lo.pb.dS kt)) (lo.un aY d.pm) (st.gg (cf.oe k2) kx)⟩
theorem d1.fin (e:d1 T a0 S a pl ck aJ bl ns ag) (k:cf (ew S) a0 H) (d:jd a0 H (S b) fp kvs aY ls) (g:gb a0 H (S (!b)) n) {H1 ar:ah} (c:bW (S b).a_ H H1) (k2:l3 (S b).hd (S b).dl H1 ar) (iV:gb a0 ar (S b) n):cf (ew S) a0 ar /\ ∀ dO,gb a0 ar (S dO) n:=by
 have gg:cf [(S b).hd,(S b).dl,(S b).a_] H ar:=((cf.but c).mono (by simp)).trans ((cf.oe k2).mono (by simp));have kx:jW a0 H [(S b).hd,(S b).dl,(S b).a_]:=λ m hm=>by
  simp only [List.mem_cons,List.not_mem_nil,or_false] at hm;rcases hm with rfl | rfl | rfl
  ·exact .inr ⟨⟨_,(e.ev b).j2⟩,_,d.hd⟩
  ·exact .inl ⟨_,d.dl⟩
  ·exact .inl ⟨_,d.a_⟩
 have A:=e.ap b;have lR:=e.ev (!b);have E:=e.ev b;have go:=e.other g gg kx λ o h=>k2 _ _ (λ z=>A.af z.symm) (cI lR.j2 E.qN nofun) (c _ _ (cI lR.j2 E.qO nofun) h)
 refine ⟨k.trans (gg.mono (Jq S b)),λ dO=>?_⟩;by_cases J:dO=b
 ·rw [J];exact iV
 ·rw [show dO = !b by cases b<;>cases dO<;>first | rfl | exact absurd rfl J];exact go
theorem d1.IF (e:d1 T a0 S a pl ck aJ bl ns ag) (k:cf (ew S) a0 H) (g : ∀ b,gb a0 H (S b) n) (d:jd a0 H (S b) fp kvs aY ls) (q : ∀ H',cf (ew S) a0 H'->(∀ b,gb a0 H' (S b) n)->Q (.aJ true) H'):LF T [.ref (S b).bn,.ref (pN (S b).c9 ls)] H Q E:=by
 have gt:=d.st.good;have iV:=gt.perm d.pm;have ji:=d.st.top d.c9;refine ⟨(S b).bn,(S b).pr,(S b).hd,(S b).dl,pN (S b).c9 ls,kvs,vA ls,aY,hr ls,gT ls,rfl,e.bn k b d,d.D,ji,d.st.dict,d.pm,iV.1,by have:=iV.small;omega,d.st.apart (e.ev b).j2 (e.ev b).sh,λ p ax=>(iV.2 p ax).2.1,λ H' a_ QL=>?_⟩;have gg : ∀ {M:List Addr},cf M H H':=λ {M} c o _ h=>by
  by_cases aj:c=pN (S b).c9 ls
  ·rw [aj];exact .inr ⟨_,ji,QL⟩
  ·exact .inl (a_ c o aj h)
 refine q H' (k.trans gg) λ dO=>?_
 obtain ⟨m5,eS,mV,af,ai⟩:=g dO;refine ⟨m5,eS,mV,af,ai.gg (M:=[]) gg (λ _ h=>by cases h) (λ _ _ h=>by cases h) (a_ _ _ (Ne.symm (d.st.apart (e.ev dO).j2 ?_)) ai.hd)⟩;by_cases J:dO=b
 ·rw [J];exact (e.ev b).sh
 ·have A:=e.ap dO;rw [show (!dO)=b by cases b<;>cases dO<;>first | rfl | exact absurd rfl J] at A;exact Ne.symm A.ai
end
theorem pO.keep {aA:List (Int×Int)} {aY eS:dN} {H H':ah} {way:Str} {v bY fm:V} (k:gC H H') (hd:m_ H way v bY) (h:pO aA aY H way v bY fm eS):pO aA aY H' way v bY fm eS:=by
 obtain ⟨x,af,ai,aF⟩:=h;refine ⟨x,af,ai,?_⟩;rcases aF with h | h | ⟨rfl,a,ag,rfl,aw,au,aX⟩
 ·exact .inl h
 ·exact .inr (.inl h)
 ·refine .inr (.inr ⟨rfl,a,ag,rfl,k.tup aw,?_,aX⟩);unfold ht at au ⊢;rw [k.er (yQ aw)];exact au
theorem pO.kind {aA:List (Int×Int)} {aY eS:dN} {H:ah} {way:Str} {v bY fm:V} (h:pO aA aY H way v bY fm eS):fm=.bg \/ ∃ k:Nat,fm=.int (k:Int):=by
 obtain ⟨x,af,ai,aF⟩:=h;rcases aF with ⟨_,h,_⟩ | ⟨_,m,e,k,r,_,_,_,_,_,h,_⟩ | ⟨_,a,ag,_,_,_,h,_⟩
 ·exact .inl h
 ·exact .inr ⟨k,h⟩
 ·exact .inl h
theorem sy.keep {aY:dN} {H H':ah} {way:Str} {v bY:V} {x:Str} (k:gC H H') (hd:m_ H way v bY) (h:sy aY H way v bY x):sy aY H' way v bY x:=by
 rcases h with h | ⟨af,ai,aF,aX⟩
 ·exact .inl h
 ·refine .inr ⟨af,ai,aF,?_⟩;have hw:dK H bY:=by
   rcases hd with ⟨_,_,h⟩ | ⟨h,_⟩ | ⟨h,_⟩ | ⟨h,_⟩
   ·exact h
   ·rw [aF] at h;exact absurd h (by decide)
   ·rw [aF] at h;exact absurd h (by decide)
   ·rw [aF] at h;exact absurd h (by decide)
  unfold ht at aX ⊢;rw [k.er hw.1];exact aX
theorem Ul {H:ah} {xs:List V} {aA:List (Int×Int)} (h:gp H xs aA) : ∀ x∈xs,lK H x:=λ x ak=>by
 obtain ⟨k,aB⟩:=List.getElem?_of_mem ak;obtain ⟨i,j,c,_,e,aj,f⟩:=h.2 k x aB;exact ⟨c,i,j,e,aj,f⟩
theorem a3.g_ {K:PySem.W.Frag} {H H':ah} {a:Addr} {xs:List V} (c8:a3 K H a xs) (s:aC H H'):a3 K H' a xs:=by
 rcases c8 with (h | ⟨u,h⟩) | h
 ·exact .inl (.inl (s _ _ h))
 ·exact .inl (.inr ⟨u,s _ _ h⟩)
 ·exact .inr h
theorem nB {H:ah} {c d:Addr} {o:dG} (h:H c=none) (h':H d=some o):c≠d:=λ z=>by rw [z,h'] at h;cases h
structure lr (T:bE K mg) (D:Addr) (H1 H:ah) (b d p h l:Addr):Prop where
 J:H b=some (.ins T.f6 d [("program", .ref p),("held", .ref h),("deeds", .ref l)])
 hd:H h=some (.bp [])
 dl:H l=some (.lst [])
 tZ:l≠D
 wW:H1 h=none
 nl:H1 l=none
theorem lr.same {T:bE K mg} {D:Addr} {H1 H H':ah} {b d p h l:Addr} (N:lr T D H1 H b d p h l) (s:aC H H'):lr T D H1 H' b d p h l:=⟨s _ _ N.J,s _ _ N.hd,s _ _ N.dl,N.tZ,N.wW,N.nl⟩
theorem lr.but {T:bE K mg} {D:Addr} {H1 H H':ah} {b d p h l:Addr} {ys:List V} (N:lr T D H1 H b d p h l) (a4:H D=some (.lst ys)) (s:bW D H H'):lr T D H1 H' b d p h l:=⟨s _ _ (cI N.J a4 nofun) N.J,s _ _ (cI N.hd a4 nofun) N.hd,s _ _ N.tZ N.dl,N.tZ,N.wW,N.nl⟩
abbrev x7:Nat:=10
def yA (K:PySem.W.Frag):bX:=λ vs H Q _ => ∃ (a:Addr) (ns:List Int),vs=[.ref a]/\a3 K H a (ns.map V.int)/\ns.length<=63 /\ ∀ H',Q (.aJ true) H'
theorem Ti (T:bE K mg) {f:Addr} {fd:FuncData} (F:h3 K "law" "law" Cw f fd):dU P w K mg base cD x7 f fd ["script"] (yA K):=by
 refine F.ec il (λ vs H Q E h=>?_) (λ ba A outer s H vs Q E aq h=>?_)
 ·obtain ⟨a,ns,rfl,_⟩:=h;rfl
 ·obtain ⟨a,ns,rfl,c8,hlen,q⟩:=h;refine ⟨_,(aM (bN 1 il (b7 (J3 T) aq bM (ae (b7 (LS T) aq bM (ae (aa 0) (ae aL av))) av)))
   (aM (bN 2 il (b7 (ZX T) aq bM (ae (aa 1) av)))
   (aM (bN 3 il (eL (ae (b7 (MA T) aq bM (ae (aa 1) (ae (aa 2) (ae aL av)))) (ae (b7 (MA T) aq bM (ae (aa 1) (ae (aa 2) (ae aL av)))) av))))
   (aM (CU (i:=4) il.cX rfl (Or.inl rfl) (fA il (N:=["program"]) (js:=[none]) (List.forall_mem_nil _)) rfl (sY (aa 3)) (λ _ _ _ _=>fC) (λ _ _ _ _=>fW)
     (λ _ _ _ _=>(b7 (Zt T) aq bM (ae (aa 0) av))))
   (aM (CU (i:=5) il.cX rfl (Or.inl rfl) (fA il (N:=["program"]) (js:=[none]) (List.forall_mem_nil _)) rfl (sY (aa 3)) (λ _ _ _ _=>fC) (λ _ _ _ _=>fW)
     (λ _ _ _ _=>(U6 T.zg.at_ (aaL T) (aq.mono (by decide)) rfl T.Uo T.zg.bd .nil bM (ae (aa 0) av))))
   (aM (bN 6 il (eL (ae (eL (ae v3 av)) (ae (eL (ae v3 av)) av))))
   (aM (gD PassesOwn.never rfl (X9 rfl T.kU (ae aL (ae (bG (v_ rfl) T.sL sG (ae aL (ae (bG (Ku rfl) T.vJ vC (ae (bG gG T.fi fh (ae (aa 0) av)) (ae aL av))) av))) av))) (dM 7 il)
    (aM (bN 1 il (b7 (J3 T) aq bM (ae (b7 (LS T) aq bM (ae (aa 0) (ae (aa 7) av))) av)))
   (aM (bN 8 il (iM Xh T.sJ sF (ae (gE eJ (b7 (g0 T) aq bM (ae (aa 1) (ae aL av))) aL (bZ _)) av)))
   (aM (bN 9 il (b7 (abe T) aq bM (ae (aa 1) (ae (aa 2) (ae (cS d7 (cS d7 (aa 6) (aa 8) (λ _ _=>rfl)) (nf nu aL) (λ _ _=>rfl)) av)))))
   (aM (bN 10 il dq)
   (aM (nr (cn jF (cS hv (aa 9) aL (λ _ _=>rfl)) dq (bZ _))
    (aM (nq (b7 (aa7 T) aq bM (ae (cS d7 (aa 4) (aa 8) (λ _ _=>rfl)) (ae (cS d7 (cS d7 (aa 6) (aa 8) (λ _ _=>rfl)) (nf nu aL) (λ _ _=>rfl)) (ae (aa 9) av)))) (IX rfl (da (dM 10 il) (da (dM 11 il) fV))))
   (aV (cM (gs (ej (bG d8 T.dg df (ae (aa 10) (ae (d0 (by rfl) T.nd nc) av)))))
    (aV (hV (jG PySem.F.plainAttrs_list PySem.F.slot_list_append PySem.F.type_list_append p0 (cS d7 (aa 6) (aa 8) (λ _ _=>rfl)) (ae (aa 11) av))))
    ct)))
    (aV (cM (cn mn (bG gG T.fi fh (ae (cS d7 (aa 6) (aa 8) (λ _ _=>rfl)) av)) aL (bZ _))
    (aM (hV (IU PySem.F.plainAttrs_list PySem.F.slot_list_pop PySem.F.type_list_pop IM (cS d7 (aa 6) (aa 8) (λ _ _=>rfl))))
   (aV (bN 10 il fj)))
    ct)))
   (aM (nr (gs (ej (b7 (KU T) aq bM (ae (b7 (abf T) aq bM (ae (cS d7 (aa 5) (aa 8) (λ _ _=>rfl)) (ae (aa 9) av))) (ae (aa 10) av)))))
    (aV (bH gX))
    ct)
   (aV (gD PassesOwn.never rfl (my rfl T.kU (ae aL av)) (dM 12 il)
    (aV (cM (ez.pt (gr (gs (ej (b7 (Ms T) aq bM (ae (cS d7 (aa 5) aL (λ _ _=>rfl)) (ae (cS d7 (cS d7 (aa 6) aL (λ _ _=>rfl)) (nf nu aL) (λ _ _=>rfl)) av))))) (hT (gs (ej (b7 (Ms T) aq bM (ae (cS d7 (aa 5) aL (λ _ _=>rfl)) (ae (cS d7 (cS d7 (aa 6) aL (λ _ _=>rfl)) (nf nu aL) (λ _ _=>rfl)) av))))))))
    (aV (bH gX))
    ct)))))))))))
   (aV (bH gX))))))))),?_⟩
  refine ⟨_,rfl,a,ns,0,rfl,c8,by decide,λ c=>⟨c,rfl,λ n pt jw=>?_⟩⟩;refine ⟨_,rfl,pt,n,rfl,bA,λ pl aK ee ag eM r6 xt cQ tY hm=>?_⟩;have Cb:pl≠pt:=cI xt r6 nofun;refine ⟨_,rfl,_,rfl,pt,pl,ee,8,ag,rfl,r6,xt,cQ,by omega,hm,by decide,by decide,λ hE bc eB sr ek lz GF hc acY Rp=>?_⟩;obtain ⟨qt,Rr⟩:=CN Rp;refine ⟨_,rfl,_,rfl,pt,pl,eB,5,ag,rfl,lz,ek _ _ Cb xt,cQ,by omega,hm,by decide,by decide,λ e2 bt g8 su dt mL n_ Af acZ Rq=>?_⟩;obtain ⟨r4,Rt⟩:=CN Rq;refine ⟨cg,λ lW cE hZ bL dn=>?_⟩;have Qt:hE≠pt:=cI GF lz nofun;have zz:aC H cE:=λ cN o e=>bL _ _ (((eM.trans ek).trans dt) cN o (cj e jw) (by rw [a8 (cj e jw)];exact e))
  have B3:cE hE=some (.tup sr):=bL _ _ (dt _ _ Qt GF);have B4:cE e2=some (.tup su):=bL _ _ n_;have BZ:gp cE sr qt:=(Rr.but lz dt).same bL;have B0:gp cE su r4:=Rt.same bL;have RC:cE pl=some (.tup (ag.map V.int)):=bL _ _ (dt _ _ Cb (ek _ _ Cb xt));refine ⟨_,rfl,lW,rfl,⟨_,a3.of dn⟩,λ D a4=>K6 (K:=K) (a:=lW) (σ0:=[]) (xs:=[.ref hE,.ref e2]) cg ⟨_,rfl⟩ a4 dn
   (λ i H' zs=>(i=0/\zs=[])\/(i=1 /\ ∃ t0 iG,zs=[.ref t0]/\t0≠D/\H' t0=some (.lst iG)/\gn H' iG qt)\/(i=2 /\ ∃ t0 iG t1 mZ,zs=[.ref t0,.ref t1]/\t0≠D/\t1≠D/\H' t0=some (.lst iG)/\gn H' iG qt/\H' t1=some (.lst mZ)/\gn H' mZ r4))
   (.inl ⟨rfl,rfl⟩) (λ i H' ar zs ys c2 aq b=>?_) (λ i x H' zs R s' ak c2 hn aq fb=>?_) λ cT zs cC Gp hn aq=>?_⟩
  ·rcases aq with h | ⟨rfl,t0,iG,rfl,gL,h0,af⟩ | ⟨rfl,t0,iG,t1,mZ,rfl,gL,cc,h0,af,ai,aF⟩
   ·exact .inl h
   ·exact .inr (.inl ⟨rfl,t0,iG,rfl,gL,b _ _ gL h0,af.but c2 b⟩)
   ·exact .inr (.inr ⟨rfl,t0,iG,t1,mZ,rfl,gL,cc,b _ _ gL h0,af.but c2 b,b _ _ cc ai,aF.but c2 b⟩)
  ·rcases aq with ⟨rfl,rfl⟩ | ⟨rfl,t0,iG,rfl,gL,h0,af⟩ | ⟨rfl,_⟩
   ·cases ak;refine ⟨_,rfl,hE,sr,qt,rfl,s' _ _ B3,BZ.same s',by omega,λ l e9 cb f8 cH fK bJ=>fb (.ref l) e9 cH (.inr (.inl ⟨rfl,l,cb,rfl,?_,fK,bJ⟩))⟩;intro z;rw [z,c2] at f8;cases f8
   ·cases ak;refine ⟨_,rfl,e2,su,r4,rfl,s' _ _ B4,B0.same s',by omega,λ l e9 cb f8 cH fK bJ=>fb (.ref l) e9 cH (.inr (.inr ⟨rfl,t0,iG,l,cb,rfl,gL,?_,cH _ _ h0,af.same cH,fK,bJ⟩))⟩;intro z;rw [z,c2] at f8;cases f8
   ·cases ak
  obtain ⟨t0,iG,t1,mZ,rfl,-,-,GN,OY,xw,OZ⟩ : ∃ t0 iG t1 mZ,zs=[.ref t0,.ref t1]/\t0≠D/\t1≠D/\cT t0=some (.lst iG)/\gn cT iG qt/\cT t1=some (.lst mZ)/\gn cT mZ r4:=by
   rcases aq with ⟨h,_⟩ | ⟨h,_⟩ | ⟨_,h⟩
   ·cases h
   ·cases h
   ·exact h
  refine ⟨_,rfl,lW,rfl,⟨_,a3.of (cC _ _ dn)⟩,λ hX n3=>K6 (K:=K) (a:=lW) (σ0:=[]) (xs:=[.ref hE,.ref e2]) cg ⟨_,rfl⟩ n3 (cC _ _ dn)
   (λ i H' zs=>(i=0/\zs=[])\/(i=1 /\ ∃ fl jN h0 fc,zs=[.ref fl]/\lr T hX cT H' fl jN hE h0 fc)\/(i=2 /\ ∃ fl jN h0 fc dP iT af cQ,zs=[.ref fl,.ref dP]/\lr T hX cT H' fl jN hE h0 fc/\lr T hX cT H' dP iT e2 af cQ/\h0≠af/\fc≠cQ))
   (.inl ⟨rfl,rfl⟩) (λ i H' ar zs ys c2 aq b=>?_) (λ i x H' zs R s' ak c2 hn aq fb=>?_) λ e9 zs cH ur hn aq=>?_⟩
  ·rcases aq with h | ⟨rfl,fl,jN,h0,fc,rfl,gI⟩ | ⟨rfl,fl,jN,h0,fc,dP,iT,af,cQ,rfl,gI,jf,gL,cc⟩
   ·exact .inl h
   ·exact .inr (.inl ⟨rfl,fl,jN,h0,fc,rfl,gI.but c2 b⟩)
   ·exact .inr (.inr ⟨rfl,fl,jN,h0,fc,dP,iT,af,cQ,rfl,gI.but c2 b,jf.but c2 b,gL,cc⟩)
  ·have mk : ∀ {p:Addr} {xs:List V} {aA:List (Int×Int)},cE p=some (.tup xs)->gp cE xs aA->1<=xs.length->xs.length<=16->(∀ bn d hd dl fX,aC H' fX->H' hd=none->H' dl=none->lr T hX cT fX bn d p hd dl->R (.ref bn) fX)->Cx T.f6 (Ka T) [] iu (yr (yc 0) m8) [some (.ref p)] H' R:=by
    intro p xs aA ax hf af Az r;refine ⟨_,rfl,λ bn As rJ fd cX=>?_⟩;have o1:aC H' (upd (upd H' As (.own bn)) bn (.ins T.f6 As [])):=λ cN o e=>by
     rw [a8 (cj e rJ),a8 (cj e fd)];exact e
    have sp:aC cE H':=cC.trans s';refine ⟨bn,As,p,xs,rfl,bA,o1 _ _ (sp _ _ ax),af,Az,Ul ((hf.same sp).same o1),λ hd dl fX o4 xg r3 zt=>⟨rfl,?_⟩⟩;have MS:aC H' fX:=λ cN o e=>o4 _ _ (cj e rJ) (o1 _ _ e)
    obtain ⟨aH,J⟩:=zt.at_;exact r bn aH hd dl fX MS (o1.free xg) (o1.free r3) ⟨J,zt.hd,zt.dl,nB (o1.free r3) c2,s'.free (o1.free xg),s'.free (o1.free r3)⟩
   rcases aq with ⟨rfl,rfl⟩ | ⟨rfl,fl,jN,h0,fc,rfl,gI⟩ | ⟨rfl,_⟩
   ·cases ak;exact mk B3 BZ hc (by omega) λ bn d hd dl fX eC f1 f2 N=>fb _ fX eC (.inr (.inl ⟨rfl,bn,d,hd,dl,rfl,N⟩))
   ·cases ak;exact mk B4 B0 Af (by omega) λ bn d hd dl fX eC f1 f2 N=>fb _ fX eC (.inr (.inr ⟨rfl,fl,jN,h0,fc,bn,d,hd,dl,rfl,gI.same eC,N,cj gI.hd f1,cj gI.dl f2⟩))
   ·cases ak
  obtain ⟨fl,jN,h0,fc,dP,iT,af,cQ,rfl,gI,jf,G7,G8⟩ : ∃ fl jN h0 fc dP iT af cQ,zs=[.ref fl,.ref dP]/\lr T hX cT e9 fl jN hE h0 fc/\lr T hX cT e9 dP iT e2 af cQ/\h0≠af/\fc≠cQ:=by
   rcases aq with ⟨h,_⟩ | ⟨h,_⟩ | ⟨_,h⟩
   ·cases h
   ·cases h
   ·exact h
  refine λ c9 Fv f1 s1 aO=>⟨cg,λ k0 Fw f2 s2 aQ=>λ bq MO dh s3 el=>⟨cg,λ k1 MP f4 s4 mD=>⟨cg,λ bl a0 d_ s5 o6=>?_⟩⟩⟩
  have up:aC e9 a0:=(((s1.trans s2).trans s3).trans s4).trans s5;have wR:e9 k0=none/\e9 k1=none:=⟨s1.free f2,s1.free (s2.free (s3.free f4))⟩
  obtain ⟨S,ly⟩ : ∃ S:Bool->gm,S=λ b=>match b with
   | false=>(⟨fl,hE,h0,fc,t0,k0,c9,jN,sr,iG,qt⟩:gm)
   | true=>(⟨dP,e2,af,cQ,t1,k1,bq,iT,su,mZ,r4⟩:gm):=⟨_,rfl⟩
  have nG:S false=⟨fl,hE,h0,fc,t0,k0,c9,jN,sr,iG,qt⟩:=by rw [ly]
  have St:S true=⟨dP,e2,af,cQ,t1,k1,bq,iT,su,mZ,r4⟩:=by rw [ly]
  have em:ew S=[h0,fc,k0,af,cQ,k1]:=by unfold ew;rw [nG,St]
  have FU : ∀ c∈ew S,cT c=none:=λ c aj=>by
   rw [em] at aj;simp only [List.mem_cons,List.not_mem_nil,or_false] at aj;rcases aj with rfl | rfl | rfl | rfl | rfl | rfl
   ·exact gI.wW
   ·exact gI.nl
   ·exact cH.free wR.1
   ·exact jf.wW
   ·exact jf.nl
   ·exact cH.free wR.2
  have sk:aC cE a0:=(cC.trans cH).trans up;have rM : ∀ {c:Addr} {o:dG},cT c=some o->c∉ew S:=λ {c o} h z=>by rw [FU c z] at h;cases h
  have et:d1 T a0 S a pl D hX bl ns ag:=by
   refine ⟨λ H' k=>?_,sk _ _ RC,by omega,hm,?_,?_,?_,?_,?_,?_⟩
   ·have Gu:a3 K a0 a (ns.map V.int):=a3.g_ c8 (zz.trans sk);rcases c8 with (h | ⟨u,h⟩) | h
    ·exact k.F2 (rM (cC _ _ (zz _ _ h))) Gu
    ·exact k.F2 (rM (cC _ _ (zz _ _ h))) Gu
    ·exact .inr h
   ·rw [nG,St];exact up _ _ (cH _ _ Gp)
   ·rw [nG,St];exact up _ _ ur
   ·rw [nG,St];exact o6
   ·rw [nG,St];intro c aj;simp only [List.mem_cons,List.not_mem_nil,or_false] at aj;rcases aj with rfl | rfl | rfl | rfl | rfl
    ·exact rM Gp
    ·rw [em];simp only [List.mem_cons,List.not_mem_nil,or_false];rintro (z | z | z | z | z | z)
     ·exact cI ur gI.hd nofun z
     ·exact gI.tZ z.symm
     ·exact cj ur wR.1 z
     ·exact cI ur jf.hd nofun z
     ·exact jf.tZ z.symm
     ·exact cj ur wR.2 z
    ·rw [em];have fY:=(((s1.trans s2).trans s3).trans s4)
     simp only [List.mem_cons,List.not_mem_nil,or_false];rintro (z | z | z | z | z | z)
     ·exact nB d_ (fY _ _ gI.hd) z
     ·exact nB d_ (fY _ _ gI.dl) z
     ·exact nB d_ (s4 _ _ (s3 _ _ aQ)) z
     ·exact nB d_ (fY _ _ jf.hd) z
     ·exact nB d_ (fY _ _ jf.dl) z
     ·exact nB d_ mD z
    ·exact rM GN
    ·exact rM xw
   ·intro b;cases b
    ·rw [nG];exact ⟨up _ _ gI.J,sk _ _ B3,BZ.same sk,by show sr.length<=16;omega,up _ _ (cH _ _ GN),OY.same (cH.trans up),up _ _ gI.hd,up _ _ gI.dl,s5 _ _ (s4 _ _ (s3 _ _ aQ)),s5 _ _ (s4 _ _ (s3 _ _ (s2 _ _ aO))),nB f1 gI.hd,cj (s1 _ _ gI.dl) f2⟩
    ·rw [St];exact ⟨up _ _ jf.J,sk _ _ B4,B0.same sk,by show su.length<=16;omega,up _ _ (cH _ _ xw),OZ.same (cH.trans up),up _ _ jf.hd,up _ _ jf.dl,s5 _ _ mD,s5 _ _ (s4 _ _ el),nB dh ((s1.trans s2) _ _ jf.hd),cj ((s1.trans s2).trans s3 _ _ jf.dl) f4⟩
   ·have a7:h0≠bq:=cj ((s1.trans s2) _ _ gI.hd) dh;have bV:fc≠k1:=cj (((s1.trans s2).trans s3) _ _ gI.dl) f4;have ea:k0≠cQ:=nB f2 (s1 _ _ jf.dl);have jS:k0≠k1:=cj (s3 _ _ aQ) f4;have nX:af≠c9:=cj jf.hd f1;intro b;cases b
    ·show zq (S false) (S true);rw [nG,St];exact ⟨G7,a7,G8,bV,ea,jS⟩
    ·show zq (S true) (S false);rw [nG,St];exact ⟨G7.symm,nX,G8.symm,ea.symm,bV.symm,jS.symm⟩
  clear ly nG St em FU rM;have nL : ∀ b,gb a0 a0 (S b) 0:=λ b=>⟨[],[],[],Nat.le_refl _,(et.ev b).j2,(et.ev b).qN,(et.ev b).qO,.nil,.refl _,.inl (et.ev b).uU,trivial⟩
  refine ⟨_,rfl,a,_,rfl,.inl (et.sc _ (cf.same (aC.refl _))),_,_,rfl,_,_,rfl,?_⟩;generalize l8:(if (if (41:Int)<((ns.map V.int).length:Int) then (41:Int) else ((ns.map V.int).length:Int)) > 2 then (if (41:Int)<((ns.map V.int).length:Int) then (41:Int) else ((ns.map V.int).length:Int)) else 2)=m;have acy:0<=m/\m<=41:=by
   rw [<-l8];split<;>split<;>omega
  refine ⟨1,m,rfl,⟨by decide,by decide,by omega,by omega⟩,mx (n:=(m - 1).toNat) (λ i σ ar=>(∃ gi iy rT u8 rU pE pF xP:Option V,σ=[some (.ref a),gi,some (.ref pl),iy,some (.ref D),some (.ref hX),some (.ref bl),rT,u8,rU,pE,pF,xP])/\cf (ew S) a0 ar /\ ∀ b,gb a0 ar (S b) i) ⟨⟨_,_,none,none,none,none,none,none,rfl⟩,cf.same (aC.refl _),nL⟩ ?_ ?_⟩
  ·rintro i σ ar ay ⟨⟨gi,iy,rT,u8,rU,pE,pF,xP,rfl⟩,old,nN⟩;refine ⟨_,rfl,_,rfl,a,ns,_,rfl,et.sc _ old,by omega,λ c=>⟨c,rfl,λ n pt jw=>?_⟩⟩;refine ⟨_,rfl,pt,n,4,rfl,bA,by decide,by decide,λ zD eB bc acg ach ek qH=>⟨rfl,.inr ⟨_,rfl,?_⟩⟩⟩;generalize decide (V.int zD=V.int 0)=b;have wF:aC ar bc:=λ cN o e=>ek _ _ (cj e jw) (by rw [a8 (cj e jw)];exact e)
   have HU:=old.trans (cf.same wF);obtain ⟨kvs,aY,ls,Pf,o5⟩:=nN b;have jg:=o5.gg (M:=[]) (cf.same wF) (λ _ h=>by cases h) (λ _ _ h=>by cases h) (wF _ _ o5.hd);have gt:=jg.st.good;refine ⟨_,rfl,_,rfl,_,rfl,_,rfl,bl,_,_,_,rfl,rfl,a3.of (et.qP HU),at2 _ _ b,?_⟩;rw [q5 (f:=gm.a_)];refine ⟨1,rfl,(S b).a_,_,_,_,rfl,rfl,a3.of jg.a_,yy _ _,pt,pl,_,eB,ag,vA ls,hr ls,rfl,qH,et.dS HU _ _ et.dp,et.QC,et.pm,jg.st.top jg.c9,jg.st.dict,by have:=gt.small;omega,λ p ax=>⟨(I0 (gt.2 p ax).1).1,(gt.2 p ax).1⟩,λ d2 way v bY g8 bt dt ps h8 fm=>?_⟩;have rE:aC ar bt:=λ cN o e=>dt _ _ (cj e jw) (wF _ _ e)
   have m7:=old.trans (cf.same rE);have eQ:=o5.gg (M:=[]) (cf.same rE) (λ _ h=>by cases h) (λ _ _ h=>by cases h) (rE _ _ o5.hd);have dA:gb a0 bt (S (!b)) (i+1):=((nN (!b)).same rE).mono (by omega);have acz:i+1<=900:=by omega
   refine ⟨λ σ' H' => ∃ fm sD,σ'=[some (.ref a),some (.ref pt),some (.ref pl),iy,some (.ref D),some (.ref hX),some (.ref bl),some (.int (1+(i:Int))),some (.int (if b then 1 else 0)),some (.ref d2),some fm,sD,xP]/\bW (S b).a_ bt H' /\
    ((∃ x,fm=.str x/\aC bt H'/\((way ≠ "undo" /\ sy (hr ls) bt way v bY x)\/(x = "deed" /\ way = "undo" /\ ls=[]))) \/
      (∃ lt klt eS,way ≠ "undo" /\ H' (S b).a_=some (.lst (kM (S b).c9 ls++[.ref lt]))/\a0 lt=none/\H' lt=some (.bp klt)/\dI H' klt eS/\pO (S b).aA (hr ls) bt way v bY fm eS) \/
      (∃ l mV,way = "undo" /\ ls=l::mV/\fm=.bg/\H' (S b).a_=some (.lst (kM (S b).c9 mV)))),?_,?_⟩
   ·refine ⟨_,rfl,d2,_,_,_,rfl,rfl,aR.of h8,rfl,rfl,_,rfl,?_⟩;by_cases bD:way = "undo"
    ·subst bD;rw [decide_eq_true rfl];refine bx ⟨_,rfl,_,rfl,bl,_,_,_,rfl,rfl,a3.of (et.qP m7),at2 _ _ b,?_⟩;rw [q5 (f:=gm.a_)];refine ⟨(S b).a_,_,rfl,.inl (a3.of eQ.a_),_,_,rfl,rfl,_,rfl,?_⟩;rw [sR];cases ls with
     | nil =>
      refine bx ⟨_,_,rfl,bW.refl _ _,.inl ⟨"deed", rfl,aC.refl _,.inr ⟨rfl,rfl,rfl⟩⟩⟩
     | cons l ls =>
      rw [decide_eq_true (by rw [List.length_cons];omega)];refine cm ⟨_,rfl,_,rfl,bl,_,_,_,rfl,rfl,a3.of (et.qP m7),at2 _ _ b,?_⟩;rw [q5 (f:=gm.a_)];refine ⟨.inl ⟨rfl,_,a3.of eQ.a_⟩,(S b).a_,_,.ref l.r,rfl,rfl,eQ.a_,?_,?_⟩
      ·show (kM (S b).c9 ls++[V.ref l.r])[(kM (S b).c9 ls++[V.ref l.r]).length - 1]?=_;simp
      ·exact ⟨_,_,rfl,bW.upd,.inr (.inr ⟨l,ls,rfl,rfl,rfl,by rw [bA];show some (dG.lst (kM (S b).c9 ls++[V.ref l.r]).dropLast)=_;rw [List.dropLast_concat]⟩)⟩
    ·rw [mw bD];refine cm ⟨_,rfl,_,rfl,D,_,_,_,rfl,rfl,a3.of (et.QX m7),at2 _ _ b,?_⟩;rw [q5 (f:=gm.bk)];refine ⟨_,rfl,_,rfl,bl,_,_,_,rfl,rfl,a3.of (et.qP m7),at2 _ _ b,?_⟩;rw [q5 (f:=gm.a_)];have tab:=et.tab m7 b;have Gl:=eQ.st.good;have hw:(way = "put" /\ dK bt bY)\/(way = "run" /\ ∃ m:Int,bY=.int m/\0<=m/\m<=2000)\/way = "drop" := by
      rcases fm with ⟨af,_,ai⟩ | ⟨af,_,ai⟩ | ⟨af,_⟩ | ⟨af,_⟩
      ·exact .inl ⟨af,ai⟩
      ·exact .inr (.inl ⟨af,ai⟩)
      ·exact .inr (.inr af)
      ·exact absurd af bD
     refine ⟨1,rfl,(S b).a_,_,_,_,rfl,rfl,a3.of eQ.a_,yy _ _,_,rfl,(S b).bk,pN (S b).c9 ls,d2,(S b).cb,(S b).aA,vA ls,hr ls,way,v,bY,rfl,tab.1,tab.2,eQ.st.top eQ.c9,eQ.st.dict,by have:=Gl.small;omega,λ p ax=>(Gl.2 p ax).2,h8,(fm.nm bD).1,hw,λ aU x cE t6 bL dn=>?_,λ aU uh lt klt eS cE bL hZ dn dE uE st=>?_⟩
     ·refine ⟨aU,_,rfl,dn,rfl,_,_,rfl,_,_,rfl,rfl,?_⟩;obtain ⟨t,ty,e⟩:=oG (K:=K) (H:=cE) (v:=.str x) trivial;exact ⟨_,rfl,.str x, "str", t,_,rfl,ty,e,_,rfl,bx ⟨_,_,rfl,bW.of bL,.inl ⟨x,rfl,bL,.inl ⟨bD,t6⟩⟩⟩⟩
     ·refine ⟨aU,_,rfl,dn,rfl,_,_,rfl,_,_,rfl,rfl,?_⟩;have kj:d5 cE uh:=by rcases st.kind with rfl | ⟨k,rfl⟩<;>trivial
      have fp:uW uh=false:=by rcases st.kind with rfl | ⟨k,rfl⟩<;>rfl
      obtain ⟨t,ty,e⟩:=oG (K:=K) kj;refine ⟨_,rfl,uh, "str", t,_,rfl,ty,e,_,rfl,?_⟩;rw [fp];have pL:=m7.trans (cf.same bL);refine cm ⟨_,rfl,_,rfl,bl,_,_,_,rfl,rfl,a3.of (et.qP pL),at2 _ _ b,?_⟩;rw [q5 (f:=gm.a_)];have x2:=bL _ _ eQ.a_;refine ⟨.inl ⟨rfl,_,a3.of x2⟩,_,rfl,(S b).a_,_,_,rfl,rfl,x2,by rw [sR,sizeLine_eq];omega,λ km fH jO=>?_⟩;have Qr:lt≠(S b).a_:=cI dE x2 nofun;have gL:a0 lt=none:=by
       cases h0:a0 lt with
       | none=>rfl
       | some o =>
        have nl:lt∉ew S:=λ z=>by
         have Pg : ∀ c∈ew S,∃ o,bt c=some o:=by
          have db : ∀ dO,∃ o9 iW FV,bt (S dO).hd=some o9/\bt (S dO).dl=some iW/\bt (S dO).a_=some FV:=λ dO=>by
           obtain ⟨_,_,_,_,dd⟩:=(nN dO).same rE;exact ⟨_,_,_,dd.hd,dd.dl,dd.a_⟩
          intro c aj;obtain ⟨o9,iW,FV,a7,bV,ea⟩:=db false;obtain ⟨g9,iX,wX,jS,nX,t4⟩:=db true;unfold ew at aj;simp only [List.mem_cons,List.not_mem_nil,or_false] at aj;rcases aj with rfl | rfl | rfl | rfl | rfl | rfl
          ·exact ⟨_,a7⟩
          ·exact ⟨_,bV⟩
          ·exact ⟨_,ea⟩
          ·exact ⟨_,jS⟩
          ·exact ⟨_,nX⟩
          ·exact ⟨_,t4⟩
         obtain ⟨o,aG⟩:=Pg lt z;rw [hZ] at aG;cases aG
        rcases m7 lt o nl h0 with z | ⟨_,_,z | ⟨_,z⟩⟩<;>rw [hZ] at z<;>cases z
      have P_:jV cE km:=λ c ys h=>fH _ _ (cI h x2 nofun) h
      exact ⟨_,_,rfl,λ c o ef h=>fH _ _ ef (bL _ _ h),.inr (.inl ⟨lt,klt,eS,bD,jO,gL,fH _ _ Qr dE,uE.dS P_,st⟩)⟩
   ·rintro σ' cE ⟨uh,sD,rfl,lU,ll⟩;have pL:cf (ew S) a0 cE:=m7.trans ((cf.but lU).mono λ c aj=>by rw [List.mem_singleton.mp aj];exact Jq S b _ (by simp));have Qq:(S b).hd≠(S b).a_:=cI eQ.hd eQ.a_ nofun;have x1:cE d2=some (.tup [.str way,v,bY]):=lU _ _ (cI h8 eQ.a_ nofun) h8;have HQ:jW a0 bt [(S b).a_]:=λ m hm=>by rw [List.mem_singleton.mp hm];exact .inl ⟨_,eQ.a_⟩
    have tU : ∀ {fp:List V},cE (S b).a_=some (.lst fp)->jd a0 cE (S b) fp kvs aY ls:=λ {fp} aB=>by
     have E:=et.ev b;refine ⟨lU _ _ Qq eQ.hd,lU _ _ E.G2 eQ.dl,aB,eQ.D.dS ((cf.but lU).dS HQ),eQ.pm,(cf.but lU).cK ?_ eQ.c9,eQ.st.gg (cf.but lU) HQ⟩;rw [List.mem_singleton];exact cI E.uU E.qO nofun
    refine ⟨λ σ' H'=>(∃ Cg sD,σ'=[some (.ref a),some (.ref pt),some (.ref pl),iy,some (.ref D),some (.ref hX),some (.ref bl),some (.int (1+(i:Int))),some (.int (if b then 1 else 0)),some (.ref d2),Cg,sD,xP])/\cf (ew S) a0 H' /\ ∀ dO,gb a0 H' (S dO) (i+1),?_,?_⟩
    ·refine ⟨_,rfl,_,rfl,hX,_,_,_,rfl,rfl,a3.of (et.Aq pL),at2 _ _ b,?_⟩;rw [q5 (f:=gm.bn)];refine ⟨_,rfl,?_⟩;rcases ll with ⟨x,rfl,bL,jT⟩ | ⟨lt,klt,eS,bD,xo,gL,dE,uE,st⟩ | ⟨l,mV,rfl,rfl,rfl,xo⟩
     ·have dd:=tU (bL _ _ eQ.a_);have fin : ∀ km,aC cE km->cf (ew S) a0 km /\ ∀ dO,gb a0 km (S dO) (i+1):=λ km sl =>
       ⟨pL.trans (cf.same sl),λ dO=>((nN dO).same (rE.trans (bL.trans sl))).mono (by omega)⟩
      rcases jT with ⟨bD,t6⟩ | ⟨rfl,rfl,rfl⟩
      ·refine et.SO (E:=iu) pL dd (n:=i) (by omega) (by omega) x1 (fm.keep (gC.of bL)) bD (t6.keep (gC.of bL) fm) λ km sl=>⟨_,rfl,.inl ⟨_,_,rfl,trivial,rfl,_,rfl,?_⟩⟩
       rw [decide_eq_true rfl];exact bx ⟨⟨_,_,rfl⟩,fin km sl⟩
      ·refine et.SN (E:=iu) pL dd x1 λ km sl=>⟨_,rfl,.inl ⟨_,_,rfl,trivial,rfl,_,rfl,?_⟩⟩
       rw [decide_eq_true rfl];exact bx ⟨⟨_,_,rfl⟩,fin km sl⟩
     ·have GZ:gC bt cE:=gC.but lU eQ.a_ xo;have QP:sM uh=true:=by rcases st.kind with rfl | ⟨k,rfl⟩<;>rfl
      refine et.SP (E:=iu) pL (tU xo) (n:=i) (by omega) (by omega) x1 (fm.keep GZ) gL dE uE (st.keep GZ fm) λ km lg fJ=>⟨_,rfl,.inl ⟨_,_,rfl,?_,QP,_,rfl,?_⟩⟩
      ·rcases st.kind with rfl | ⟨k,rfl⟩<;>trivial
      rw [decide_eq_true rfl];exact bx ⟨⟨_,_,rfl⟩,et.fin m7 eQ dA lU lg fJ⟩
     ·refine et.SQ (E:=iu) pL (tU xo) (n:=i+1) (by rw [List.length_cons] at Pf;omega) x1 λ km lg fJ=>⟨_,rfl,.inl ⟨_,_,rfl,trivial,rfl,_,rfl,?_⟩⟩
      rw [decide_eq_true rfl];exact bx ⟨⟨_,_,rfl⟩,et.fin m7 eQ dA lU lg fJ⟩
    ·rintro σ' km ⟨⟨Cg,sD,rfl⟩,RU,fJ⟩;refine ⟨2,rfl,by decide,by decide,mx (n:=2) (λ j σ F_=>(∃ Ci,σ=[some (.ref a),some (.ref pt),some (.ref pl),iy,some (.ref D),some (.ref hX),some (.ref bl),some (.int (1+(i:Int))),some (.int (if b then 1 else 0)),some (.ref d2),Cg,sD,Ci])/\cf (ew S) a0 F_ /\ ∀ dO,gb a0 F_ (S dO) (i+1)) ⟨⟨_,rfl⟩,RU,fJ⟩ ?_ ?_⟩
     ·rintro j σ G _ ⟨⟨Ci,rfl⟩,vw,wN⟩;obtain ⟨ac8,ace,acF,ac5,rB⟩:=wN false;refine ⟨_,rfl,hX,_,_,_,rfl,rfl,a3.of (et.Aq vw),(show gA _ _=some (.ref (S false).bn) from rfl),_,rfl,bl,_,_,_,rfl,rfl,a3.of (et.qP vw),(show gA _ _=some (.ref (S false).a_) from rfl),1,rfl,(S false).a_,_,_,_,rfl,rfl,a3.of rB.a_,yy _ _,?_⟩;dsimp only [m8];refine et.IF (b:=false) (E:=iu) vw wN rB λ Fv Cs Gk=>⟨_,rfl,bx ?_⟩
      obtain ⟨ac9,acf,acG,ac6,Ft⟩:=Gk true;refine ⟨_,rfl,hX,_,_,_,rfl,rfl,a3.of (et.Aq Cs),(show gA _ _=some (.ref (S true).bn) from rfl),_,rfl,bl,_,_,_,rfl,rfl,a3.of (et.qP Cs),(show gA _ _=some (.ref (S true).a_) from rfl),1,rfl,(S true).a_,_,_,_,rfl,rfl,a3.of Ft.a_,yy _ _,?_⟩;dsimp only [m8];refine et.IF (b:=true) (E:=iu) Cs Gk Ft λ Fw Sr Oc=>⟨_,rfl,bx ⟨⟨_,rfl⟩,Sr,Oc⟩⟩
     ·rintro σ G ⟨⟨Ci,rfl⟩,vw,wN⟩;exact ⟨⟨_,_,_,_,_,_,_,_,rfl⟩,vw,wN⟩
  ·rintro σ ar ⟨_,_,_⟩;exact q ar
end
theorem all_mk {l:W.OpenLaw} {w:World} {K:W.Frag} {h:Heap} {mg:Str->Option Value} {gK oX fu s7 tn te tc tv s8 iQ td iP iO sU hU yZ vW:Addr} (X:K.In h) (G:h.Ns mainGlobals mg) (O7:mg "law" = some (.ref gK))
  {XS X_:Str} {Xg:List Value} {Yg:List Str} {ZH:List Value} {Xd:Bool} {Y0:Option Bool} {Xs XW Xe:Option Addr} {Zc Zd Ze Zf Zg:Option Value} {Xx Xr X4 Kw Xo:Value} {Yd:Array (Option Value)}
  {Dp:Addr} {Yq Yr Ys Yt Yu Yv Yw Yx Yy Yz:Tok} {Wd:Nat} {VO:Option Addr} {Ye:Array (Option Value)}
  (h0:dm K "is_whole" DW)
  (af:dm K "is_powers" D8)
  (ai:dm K "powers_of" Ec)
  (aF:dm K "how_often" D7)
  (aX:dm K "without_primes" E8)
  (bT:dm K "is_program" Eo)
  (dn:dm K "is_fraction" Ey)
  (jO:dm K "is_term" DF)
  (fK:dm K "changes_of" En)
  (k_:dm K "fraction_changes" Fp)
  (ph:dm K "fits" CE)
  (Od:dm K "first_of" DV)
  (l5:dm K "moved" CX)
  (Oe:dm K "stretch_steps" EX)
  (Of:dm K "steps_to_lack" EW)
  (Og:dm K "steps_to_fit" EK)
  (Az:dm K "leap" CF)
  (Oh:dm K "is_name" DE)
  (Oi:dm K "gone_on" DD)
  (Oj:dm K "_law_cell_at" D9)
  (Ol:dm K "_law_pot" CV)
  (Om:dm K "_law_take" Dh)
  (Oo:dm K "_law_order" DG)
  (Oq:dm K "_law_places" DX)
  (Ot:dm K "_law_primes" DY)
  (Ou:dm K "_law_product" Ea)
  (Ov:dm K "_law_fraction" Er)
  (Ow:dm K "_law_program" Eb)
  (Ox:dm K "_law_calm_program" E6)
  (Oy:dm K "_law_line" Df)
  (Oz:dm K "_law_exps" De)
  (OA:dm K "_law_table" DH)
  (OB:dm K "_law_whole" DI)
  (OC:dm K "_law_same" Dg)
  (OD:dm K "_law_first_of" Ep)
  (OE:dm K "_law_put" CW)
  (OF:dm K "_law_gone_through" E7)
  (OG:dm K "_law_line_right" EJ)
  (OH:dm K "_law_bench_due" Ez)
  (OI:dm K "_law_kind_of" D_)
  (OJ:dm K "_law_bench_told" EI)
  (OK:dm K "_law_bench_deed" EH)
  (OL:dm K "_law_bench_right" EV)
  (OM:dm K "law" Cw)
  (LL:W.nsIn K mainGlobals "FractError" = some (some (.ref oX)))
  (JM:W.nsIn K mainGlobals "AtRest" = some (some (.ref fu)))
  (VJ:W.nsIn K mainGlobals "NoText" = some (some (.ref s7)))
  (YU:W.nsIn K mainGlobals "NoNumber" = some (some (.ref tn)))
  (Xc:W.nsIn K mainGlobals "TooMany" = some (some (.ref te)))
  (Xa:W.nsIn K mainGlobals "NoOrder" = some (some (.ref tc)))
  (ZL:W.nsIn K mainGlobals "NoProgram" = some (some (.ref tv)))
  (VK:W.nsIn K mainGlobals "Shared" = some (some (.ref s8)))
  (K5:W.nsIn K mainGlobals "NoPowers" = some (some (.ref iQ)))
  (Xb:W.nsIn K mainGlobals "NoTrail" = some (some (.ref td)))
  (JO:W.nsIn K mainGlobals "NoName" = some (some (.ref iP)))
  (JN:W.nsIn K mainGlobals "NoDeed" = some (some (.ref iO)))
  (Ud:W.nsIn K mainGlobals "NoRow" = some (some (.ref sU)))
  (Uc:W.nsIn K mainGlobals "Bench" = some (some (.ref hU)))
  (LO:W.excIn K oX iA "ValueError.__new__" = true)
  (yY:mB K iP oX)
  (y_:mB K iQ oX)
  (yX:mB K iO oX)
  (EP:dw K iP fu)
  (ES:dw K iP s7)
  (Fc:dw K iP tn)
  (E4:dw K iP te)
  (E2:dw K iP tc)
  (Fl:dw K iP tv)
  (ET:dw K iP s8)
  (Fd:dw K iP iQ)
  (E3:dw K iP td)
  (ER:dw K iP iO)
  (EE:dw K iP sU)
  (Fe:dw K iQ fu)
  (Fh:dw K iQ s7)
  (Fq:dw K iQ tn)
  (Fo:dw K iQ te)
  (Fm:dw K iQ tc)
  (Fs:dw K iQ tv)
  (Fi:dw K iQ s8)
  (Fn:dw K iQ td)
  (Fg:dw K iQ iP)
  (Ff:dw K iQ iO)
  (E5:dw K iQ sU)
  (EL:dw K iO fu)
  (EN:dw K iO s7)
  (E_:dw K iO tn)
  (E1:dw K iO te)
  (EZ:dw K iO tc)
  (Fj:dw K iO tv)
  (EO:dw K iO s8)
  (Fb:dw K iO iQ)
  (E0:dw K iO td)
  (EM:dw K iO iP)
  (ED:dw K iO sU)
  (Mn:dw K fu s7)
  (MB:dw K fu tn)
  (Mv:dw K fu te)
  (Mt:dw K fu tc)
  (MG:dw K fu tv)
  (Mo:dw K fu s8)
  (MC:dw K fu iQ)
  (Mu:dw K fu td)
  (Mm:dw K fu iP)
  (Ml:dw K fu iO)
  (Mi:dw K fu sU)
  (KO:K.lookup fu=some (excClassObj XS X_ fu vW Xg (.ref oX::iA) true Yg ZH Xd Y0 Xs Zc Zd Ze Zf Zg "ValueError.__new__"))
  (XU:W.nsOkIn K vW=true)
  (XR:W.nsIn K vW "__init__" = some (some (.ref yZ)))
  (KP:K.lookup yZ=some ⟨.type "function", XW,.func (W.fnOf "__init__" "AtRest.__init__" (kT tE) (ip tE) (bO tE) .none Xx Xr X4 Xe Kw Xo),Yd⟩)
  (Xm:W.codeIn K Kw "AtRest.__init__" = true)
  (XD:W.keepIn K (.ref yZ)=true)
  (W0:W.mroIn K fu (.ref oX)=some true)
  (XQ:fu≠oX)
  (YK:W.findIn K (.ref fu) "__getattribute__" = some (some (.builtin "BaseException.__getattribute__")))
  (YL:W.findIn K (.ref fu) "__getattr__" = some none)
  (YM:W.findIn K (.ref fu) "__class__" = some (some (.builtin "object.__class__")))
  (YO:W.specialIn K (.builtin "object.__class__") "__get__" = some (some (.builtin "getset_descriptor.__get__")))
  (YP:W.takesIn K (.builtin "object.__class__")=some true)
  (K2:W.mroIn K fu (.type "object")=some true)
  (YN:W.mroIn K fu (.type "BaseException")=some true)
  (W4:W.mroIn K fu (.type "ValueError")=some true)
  (Yb:W.findIn K (.ref fu) "__setattr__" = some (some (.builtin "object.__setattr__")))
  (Xu:W.findIn K (.ref fu) "steps" = some none)
  (VM:jm K hU)
  (XM:W.makesIn K hU=true)
  (V7:W.keepIn K (.ref hU)=true)
  (aa3:W.findIn K (.ref hU) "deeds" = some none)
  (aaF:W.findIn K (.ref hU) "held" = some none)
  (abo:W.findIn K (.ref hU) "program" = some none)
  (aae:hz K hU "__init__" "Bench.__init__" El)
  (ZS:hz K hU "put" "Bench.put" D5)
  (ZT:hz K hU "run" "Bench.run" D6)
  (aab:hz K hU "drop" "Bench.drop" Ei)
  (aaf:hz K hU "undo" "Bench.undo" Em)
  (aaE:hz K hU "names" "Bench.names" Ex)
  (aa2:hz K hU "powers" "Bench.powers" EG)
  (aac:hz K hU "gone" "Bench.gone" Ej)
  (abc:hz K hU "held_by" "Bench.held_by" EU)
  (aaa:hz K hU "done" "Bench.done" Eh)
  (aad:hz K hU "hold" "Bench.hold" Ek)
  (SV:W.nsIn K mainGlobals "len" = some none)
  (aaA:W.nsIn K mainGlobals "isinstance" = some none)
  (SU:W.nsIn K mainGlobals "int" = some none)
  (T_:W.nsIn K mainGlobals "bool" = some none)
  (VA:W.nsIn K mainGlobals "tuple" = some none)
  (Ub:W.nsIn K mainGlobals "list" = some none)
  (Vz:W.nsIn K mainGlobals "range" = some none)
  (SW:W.nsIn K mainGlobals "max" = some none)
  (SX:W.nsIn K mainGlobals "min" = some none)
  (SS:W.nsIn K mainGlobals "all" = some none)
  (S0:W.nsIn K mainGlobals "zip" = some none)
  (SY:W.nsIn K mainGlobals "str" = some none)
  (W_:W.nsIn K mainGlobals "sorted" = some none)
  (Z4:W.nsIn K mainGlobals "enumerate" = some none)
  (Ua:W.nsIn K mainGlobals "dict" = some none)
  (aaz:W.nsIn K mainGlobals "ValueError" = some none)
  (EY : ∃ t,W.nsIn K mainGlobals "MOST_FRACTIONS" = some (some (.int 16 t)))
  (D3 : ∃ t,W.nsIn K mainGlobals "MOST_TERM" = some (some (.int 1000000000000 t)))
  (zl : ∃ t,W.nsIn K mainGlobals "MOST_STRETCHES" = some (some (.int 2000 t)))
  (Eg : ∃ t,W.nsIn K mainGlobals "MOST_POWER" = some (some (.int 1000000 t)))
  (Du : ∃ t,W.nsIn K mainGlobals "LETTERS" = some (some (.str "abcdefghijklmnopqrstuvwxyz" t)))
  (EC : ∃ t,W.nsIn K mainGlobals "MOST_LETTERS" = some (some (.int 8 t)))
  (Ef : ∃ t,W.nsIn K mainGlobals "MOST_NAMES" = some (some (.int 12 t)))
  (s6:W.nsIn K mainGlobals "PRIMES" = some (some (.ref Dp)))
  (W9:K.lookup Dp=some ⟨.type "tuple", VO,.seq #[.int 2 Yq,.int 3 Yr,.int 5 Ys,.int 7 Yt,.int 11 Yu,.int 13 Yv,.int 17 Yw,.int 19 Yx,.int 23 Yy,.int 29 Yz] Wd,Ye⟩) :
  ∃ fd:FuncData,(∀ (s:Shared) (v:Value),BindsTo s fd ⟨[v],[]⟩ [("script", v)]) /\ ∀ base:Heap,K.In base->base.Ns mainGlobals mg->dU l.prog w K mg base cD x7 gK fd ["script"] (yA K):=by
 obtain ⟨cW,r3,al,F⟩:=OM;have e:=O7.symm.trans (W.mg_of X G al);cases e;have Kp:=CB (st:=tE) KP Xm XD;have T:bE K mg:=⟨h0.dd X G hh,af.dd X G hh,ai.dd X G hh,aF.dd X G h5,aX.dd X G hh,bT.dd X G hh,dn.dd X G hh,jO.dd X G hh,fK.dd X G hh,k_.dd X G hh,ph.dd X G h5,Od.dd X G h5,l5.dd X G jn,Oe.dd X G jn,Of.dd X G h5,Og.dd X G jn,Az.dd X G jn,Oh.dd X G hh,Oi.dd X G jn,Oj.dd X G h5,Ol.dd X G hh,Om.dd X G h5,Oo.dd X G h5,Oq.dd X G hh,Ot.dd X G NU,Ou.dd X G hh,Ov.dd X G h5,Ow.dd X G jn,Ox.dd X G jn,Oy.dd X G jn,Oz.dd X G hh,OA.dd X G hh,OB.dd X G hh,OC.dd X G h5,OD.dd X G h5,OE.dd X G NV,OF.dd X G jn,OG.dd X G hh,OH.dd X G jn,OI.dd X G hh,OJ.dd X G h5,OK.dd X G jn,OL.dd X G h5,oX,W.mg_of X G LL,fu,W.mg_of X G JM,s7,W.mg_of X G VJ,tn,W.mg_of X G YU,te,W.mg_of X G Xc,tc,W.mg_of X G Xa,tv,W.mg_of X G ZL,s8,W.mg_of X G VK,iQ,W.mg_of X G K5,td,W.mg_of X G Xb,iP,W.mg_of X G JO,iO,W.mg_of X G JN,sU,W.mg_of X G Ud,hU,W.mg_of X G Uc,⟨W.mg_of X G LL,LO⟩,⟨W.mg_of X G K5,y_.e⟩,⟨W.mg_of X G JO,yY.e⟩,⟨W.mg_of X G JN,yX.e⟩,yY.un,yY.fy,yY.z9,EP.k,ES.k,Fc.k,E4.k,E2.k,Fl.k,ET.k,Fd.k,E3.k,W.yR,ER.k,EE.k,y_.un,y_.fy,y_.z9,Fe.k,Fh.k,Fq.k,Fo.k,Fm.k,Fs.k,Fi.k,W.yR,Fn.k,Fg.k,Ff.k,E5.k,yX.un,yX.fy,yX.z9,EL.k,EN.k,E_.k,E1.k,EZ.k,Fj.k,EO.k,Fb.k,E0.k,EM.k,W.yR,ED.k,yZ,_,⟨W.mg_of X G JM,⟨_,_,_,_,_,_,_,_,_,_,_,_,_,_,KO,XU,XR⟩,LO,⟨W.DP K2,YK,YL,YM,YO,YP,K2,YN⟩,Yb,⟨_,KP,rfl⟩⟩,Kp,Kp.binds h5,⟨⟨_,_,_,_,_,_,_,_,_,_,_,_,_,_,_,_,KO⟩,W0,XQ⟩,Xu,W.Jo W4,W.yR,Mn.k,MB.k,Mv.k,Mt.k,MG.k,Mo.k,MC.k,Mu.k,Mm.k,Ml.k,Mi.k,VM,aa3,aaF,abo,aae.Nm XM V7 h5,ZS.ll jn,ZT.ll jn,aab.ll h5,aaf.ll hh,aaE.ll hh,aa2.ll h5,aac.ll h5,abc.ll h5,aaa.ll jn,aad.ll jn,W.mg_none_of X G SV,W.mg_none_of X G aaA,W.mg_none_of X G SU,W.mg_none_of X G T_,W.mg_none_of X G VA,W.mg_none_of X G Ub,W.mg_none_of X G Vz,W.mg_none_of X G SW,W.mg_none_of X G SX,W.mg_none_of X G SS,W.mg_none_of X G S0,W.mg_none_of X G SY,W.mg_none_of X G W_,W.mg_none_of X G Z4,W.mg_none_of X G Ua,W.mg_none_of X G aaz,Dp,W.mg_of X G s6,λ H=>.inr ⟨_,_,_,W9,rfl,rfl,cg,(.cons ⟨_,rfl⟩ (.cons ⟨_,rfl⟩ (.cons ⟨_,rfl⟩ (.cons ⟨_,rfl⟩ (.cons ⟨_,rfl⟩ (.cons ⟨_,rfl⟩ (.cons ⟨_,rfl⟩ (.cons ⟨_,rfl⟩ (.cons ⟨_,rfl⟩ (.cons ⟨_,rfl⟩ .nil))))))))))⟩,EY.imp λ _=>W.mg_of X G,D3.imp λ _=>W.mg_of X G,zl.imp λ _=>W.mg_of X G,Eg.imp λ _=>W.mg_of X G,Du.imp λ _=>W.mg_of X G,EC.imp λ _=>W.mg_of X G,Ef.imp λ _=>W.mg_of X G⟩
 have MN:=F;obtain ⟨_,_,_,_,_,_,_,_,_,rfl,_,_⟩:=F.ex;exact ⟨_,λ s v=>.of_eq rfl,λ base _ _=>Ti T MN⟩
theorem walk {l:PySem.W.OpenLaw} {q:Program} {loose:List Str} {rF:(Str->Option Value)->Heap->Prop} {o3:World->Heap->Prop} {d:DefRec} {K:Params->PySem.W.Frag} (aD:l.most=some 63) (uD:d.params.defaults=[])
  (zK : ∀ (w:World) (h:Heap),o3 w h->(K w.params).In h)
  (F : ∀ (w:World) (mg:Str->Option Value) (gK:Addr) (h:Heap),(K w.params).In h->h.Ns mainGlobals mg->mg d.name=some (.ref gK) ->
   ∃ fd:FuncData,(∀ (s:Shared) (u:Value),BindsTo s fd ⟨[u],[]⟩ [("script", u)]) /\ ∀ base:Heap,(K w.params).In base->base.Ns mainGlobals mg->dU l.prog w (K w.params) mg base cD x7 gK fd ["script"] (yA (K w.params))) :
  PySem.W.WalkO q loose rF o3 l.row.toRowW d [] (λ f vs=>PySem.call f vs) :=
 bI.Vt (n:=63) (k:=x7) (x := "script") (cp:=λ _=>cD) (sp:=λ w=>yA (K w.params)) aD (by decide) uD ⟨rfl,by decide,by decide⟩ zK F (λ _ _ a ns au _ c8=>⟨a,ns,rfl,c8,au,λ _=>rfl⟩) λ _ _ _ _ _ z=>z
end cy
open PySem PySem.W PyProof.Rows
namespace PySem.W.Fast
theorem tw1008185781235322248:True:=trivial
theorem tw10205355497350690464:True:=trivial
theorem tw10413909706629537468:True:=trivial
theorem tw10461886310529858777:True:=trivial
theorem tw10479775063983933581:True:=trivial
theorem tw1071733519993959789:True:=trivial
theorem tw1072932297993640844:True:=trivial
theorem tw10816701835472238085:True:=trivial
theorem tw10881921794725588570:True:=trivial
theorem tw10892719699334148304:True:=trivial
theorem tw11072395893372084349:True:=trivial
theorem tw11142028793933754560:True:=trivial
theorem tw11153860176985039671:True:=trivial
theorem tw11350905882991299558:True:=trivial
theorem tw11370609753844617676:True:=trivial
theorem tw11378073557968362903:True:=trivial
theorem tw11444590350023728256:True:=trivial
theorem tw11503896174082674053:True:=trivial
theorem tw1153322442757189954:True:=trivial
theorem tw1156456035204219997:True:=trivial
theorem tw11687299118158155814:True:=trivial
theorem tw1169972198961099617:True:=trivial
theorem tw12100159196463045580:True:=trivial
theorem tw12101581745678408827:True:=trivial
theorem tw12154113669641160058:True:=trivial
theorem tw12218354262293507147:True:=trivial
theorem tw12287717388295222872:True:=trivial
theorem tw12348300992904389031:True:=trivial
theorem tw12496531002258230307:True:=trivial
theorem tw12555099985470467014:True:=trivial
theorem tw12596717262436987479:True:=trivial
theorem tw1271656543769527165:True:=trivial
theorem tw1272660854129844985:True:=trivial
theorem tw12936597843342611083:True:=trivial
theorem tw13107581378453033858:True:=trivial
theorem tw13119221461365425133:True:=trivial
theorem tw13149774372898614437:True:=trivial
theorem tw13177799395421833577:True:=trivial
theorem tw13179357765603503952:True:=trivial
theorem tw13279986565191869852:True:=trivial
theorem tw13374182694771432019:True:=trivial
theorem tw13533639316840888601:True:=trivial
theorem tw13538659790114229761:True:=trivial
theorem tw13614468989493498907:True:=trivial
theorem tw13739341082018558227:True:=trivial
theorem tw13851326643301872429:True:=trivial
theorem tw13865222933890188712:True:=trivial
theorem tw13919125101371772104:True:=trivial
theorem tw13934444428340308180:True:=trivial
theorem tw13972537848438619805:True:=trivial
theorem tw1404085440683185464:True:=trivial
theorem tw14104395210624632584:True:=trivial
theorem tw14161219945444377915:True:=trivial
theorem tw14170601695963921802:True:=trivial
theorem tw14249870505916226639:True:=trivial
theorem tw14447177197481398746:True:=trivial
theorem tw14543206327478290185:True:=trivial
theorem tw14625303975260828593:True:=trivial
theorem tw14666625747385309567:True:=trivial
theorem tw14694083519604788272:True:=trivial
theorem tw14747261505286025612:True:=trivial
theorem tw14825824347182853281:True:=trivial
theorem tw14872050332419530437:True:=trivial
theorem tw1518527621422797697:True:=trivial
theorem tw15289956476322717608:True:=trivial
theorem tw15331029335321749280:True:=trivial
theorem tw15350360459141182047:True:=trivial
theorem tw1543319965061550336:True:=trivial
theorem tw1545821098197473536:True:=trivial
theorem tw15518270674789331569:True:=trivial
theorem tw15626532274294903644:True:=trivial
theorem tw1568072141388567158:True:=trivial
theorem tw15773807072278516921:True:=trivial
theorem tw15853580107379287342:True:=trivial
theorem tw15875361119979268444:True:=trivial
theorem tw15968108421408988812:True:=trivial
theorem tw16126529716734104345:True:=trivial
theorem tw16283719788025602836:True:=trivial
theorem tw16394707007854144159:True:=trivial
theorem tw16677868846835356148:True:=trivial
theorem tw16716150180699173166:True:=trivial
theorem tw16842546036377967358:True:=trivial
theorem tw16859791272423613495:True:=trivial
theorem tw16916147925539926602:True:=trivial
theorem tw16962594867159762250:True:=trivial
theorem tw1698324551591656705:True:=trivial
theorem tw17106716825562755669:True:=trivial
theorem tw17184246592669446572:True:=trivial
theorem tw17509886625772005754:True:=trivial
theorem tw18016521761372557728:True:=trivial
theorem tw18087730014300279122:True:=trivial
theorem tw18186075294832844118:True:=trivial
theorem tw18259915087998003691:True:=trivial
theorem tw18263079223581049100:True:=trivial
theorem tw185826304855688820:True:=trivial
theorem tw1877942881683777351:True:=trivial
theorem tw1940356137948073930:True:=trivial
theorem tw2211786607796237697:True:=trivial
theorem tw2261952168571377999:True:=trivial
theorem tw2597122596221842705:True:=trivial
theorem tw272915404790373255:True:=trivial
theorem tw2795908018932896107:True:=trivial
theorem tw2824287624389621159:True:=trivial
theorem tw2885475456977326498:True:=trivial
theorem tw2980990742928653359:True:=trivial
theorem tw3113649526186883761:True:=trivial
theorem tw3183680445614023257:True:=trivial
theorem tw3195653109832905151:True:=trivial
theorem tw3248832324169165530:True:=trivial
theorem tw3264323850476980462:True:=trivial
theorem tw34381653112052021:True:=trivial
theorem tw3460160441499049964:True:=trivial
theorem tw3468127852701404487:True:=trivial
theorem tw3552478101194705775:True:=trivial
theorem tw3570722258282100189:True:=trivial
theorem tw358505965388866083:True:=trivial
theorem tw3662254640367529062:True:=trivial
theorem tw3783848919511607184:True:=trivial
theorem tw3791548969882164325:True:=trivial
theorem tw3991603742108786476:True:=trivial
theorem tw4096354671884569773:True:=trivial
theorem tw4184982862548206986:True:=trivial
theorem tw4276967463408322118:True:=trivial
theorem tw4550907125028956255:True:=trivial
theorem tw457295676037145172:True:=trivial
theorem tw4597281575328600938:True:=trivial
theorem tw4622560626142542710:True:=trivial
theorem tw4656478236539232977:True:=trivial
theorem tw4807747360780106121:True:=trivial
theorem tw4834898986190443362:True:=trivial
theorem tw4841137456814267147:True:=trivial
theorem tw4971211910649593421:True:=trivial
theorem tw5178355406901030728:True:=trivial
theorem tw5412782438752077016:True:=trivial
theorem tw5476964257346958317:True:=trivial
theorem tw5598654168036526130:True:=trivial
theorem tw5605383463438909500:True:=trivial
theorem tw5709340265379680529:True:=trivial
theorem tw571929461723656971:True:=trivial
theorem tw5727953717944838513:True:=trivial
theorem tw5827472721392957295:True:=trivial
theorem tw586846719277126768:True:=trivial
theorem tw5967105403763113239:True:=trivial
theorem tw6049301326727651306:True:=trivial
theorem tw6170225973785543797:True:=trivial
theorem tw6253379957613539950:True:=trivial
theorem tw6260747331952466106:True:=trivial
theorem tw6277339900733687479:True:=trivial
theorem tw6283665629368331243:True:=trivial
theorem tw6557898534264287932:True:=trivial
theorem tw660265542056227923:True:=trivial
theorem tw6674589368595564257:True:=trivial
theorem tw674677708427054063:True:=trivial
theorem tw6877022203351856045:True:=trivial
theorem tw6880192168658400428:True:=trivial
theorem tw7098904971197453805:True:=trivial
theorem tw7180607146064758564:True:=trivial
theorem tw7298222855481200432:True:=trivial
theorem tw7304903240252729016:True:=trivial
theorem tw7630845253103850092:True:=trivial
theorem tw772631685095020639:True:=trivial
theorem tw7857802566347389592:True:=trivial
theorem tw805080441118485438:True:=trivial
theorem tw8177792842905897355:True:=trivial
theorem tw82318356537448752:True:=trivial
theorem tw8233651042698307462:True:=trivial
theorem tw8424175943819502401:True:=trivial
theorem tw8464912356212864273:True:=trivial
theorem tw8485306737556950600:True:=trivial
theorem tw865455602405265828:True:=trivial
theorem tw8667304568499092186:True:=trivial
theorem tw8767748005335122440:True:=trivial
theorem tw8770720465462925677:True:=trivial
theorem tw8782696402812491548:True:=trivial
theorem tw8784403408447770794:True:=trivial
theorem tw8897683661320065606:True:=trivial
theorem tw8915641581157577648:True:=trivial
theorem tw8926308404241924608:True:=trivial
theorem tw9006157132360147331:True:=trivial
theorem tw9158743817804339536:True:=trivial
theorem tw92915382441987713:True:=trivial
theorem tw9702021926789757857:True:=trivial
theorem tw9841170664559076138:True:=trivial
theorem tw9897905946244558287:True:=trivial
end PySem.W.Fast
set_option maxRecDepth 100000 in
set_option maxHeartbeats 0 in
theorem PySem.Challenge.cw_wholefract_k91_benches_and_deeds_holds : PySem.Challenge.rw_wholefract_k91_benches_and_deeds.Holds := by
 w_on;o_law;k_head;(case hw=>w_witness2)
 k_fill
 refine cy.walk (l:=PySem.Challenge.rw_wholefract_k91_benches_and_deeds) rfl rfl (λ w h Y=>PySem.W.kIn_of Y) ?F
 case F =>
  intro w mg gK h iS G uL;refine' cy.all_mk iS G uL ?_ ?_ ?_ ?_ ?_ ?_ ?_ ?_ ?_ ?_ ?_ ?_ ?_ ?_ ?_ ?_ ?_ ?_ ?_ ?_ ?_ ?_ ?_ ?_ ?_ ?_ ?_ ?_ ?_ ?_ ?_ ?_ ?_ ?_ ?_ ?_ ?_ ?_ ?_ ?_ ?_ ?_ ?_ ?_ ?_ ?_ ?_ ?_ ?_ ?_ ?_ ?_ ?_ ?_ ?_ ?_ ?_ ?_ ?_ ?_ ?_ ?_ ?_ ?_ ?_ ?_ ?_ ?_ ?_ ?_ ?_ ?_ ?_ ?_ ?_ ?_ ?_ ?_ ?_ ?_ ?_ ?_ ?_ ?_ ?_ ?_ ?_ ?_ ?_ ?_ ?_ ?_ ?_ ?_ ?_ ?_ ?_ ?_ ?_ ?_ ?_ ?_ ?_ ?_ ?_ ?_ ?_ ?_ ?_ ?_ ?_ ?_ ?_ ?_ ?_ ?_ ?_ ?_ ?_ ?_ ?_ ?_ ?_ ?_ ?_ ?_ ?_ ?_ ?_ ?_ ?_ ?_ ?_ ?_ ?_ ?_ ?_ ?_ ?_ ?_ ?_ ?_ ?_ ?_ ?_ ?_ ?_ ?_ ?_ ?_ ?_ ?_ ?_ ?_ ?_ ?_ ?_ ?_ ?_ ?_ ?_ ?_ ?_ ?_ ?_ ?_
  all_goals try (show cy.dm _ _ _;exact cy.dm.mk (by k_is) (by k_is) (by k_is) (by k_is))
  iterate 3 (all_goals try k_is)
  all_goals try (show cy.mB _ _ _;exact ⟨by k_exc,by k_is,by decide,by k_is,by k_is,by k_is,by k_is,by k_is,by k_is,by k_is,by k_is⟩)
  all_goals try (show cy.dw _ _ _;exact ⟨by k_is,by decide,by k_is,by k_is⟩)
  all_goals try (show bI.jm _ _;exact ⟨by k_is,by k_is,by k_is,by k_is⟩)
  all_goals try (show cy.hz _ _ _ _ _;exact cy.hz.mk (by k_is) (by k_is) (by k_is) (by k_is) (by k_is))
  all_goals try (show Exists _;exact ⟨_,by k_is⟩)
  all_goals try k_exc
  all_goals try decide
  all_goals try kernel_rfl
  all_goals k_is
