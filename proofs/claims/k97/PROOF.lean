import PyProof.Rows.All
import Wide.All
import PyProof.EqAt
import PyProof.WalkInts
import OpenK.AllK
import Wide.FinOn
import Lean
import PyProof.EqKinds
import PyProof.TupleCall
import PyProof.EnumMake
import PyProof.Draws
import PyProof.Rows.MatchSeqLen
import PyProof.StrLawsTight
import PyProof.StrLawsChain
import KE.IntTextText
import PyProof.JoinWalk
import PyProof.Rows.StrWeight2
import PyProof.StrBlock2
import PyProof.FString
import PyProof.StrLawsOcc
import KE.KIntText
import PyProof.SliceStr2
import PyProof.FString5
import KE.KDictSum
import PyProof.Rows.SortStr
import KE.KDictOf
import PyProof.DictIter
import KE.KTops
import PyProof.ReprRoads
import PySem.Challenge.RW_wholefract_k97_whole_a_desk_and_all
set_option Elab.async false
set_option linter.all false
set_option maxRecDepth 100000
set_option maxHeartbeats 4000000
namespace eO
open PySem PyProof.Rows
noncomputable def In (A:Around) (h:Heap):Prop:=A.handled=none \/ ∃ (e:Addr) (bT:Obj) (vs:Array Value),A.handled=some (.ref e)/\h.get? e=some bT/\bT.data=.fields vs/\vs[2]?=some .none
theorem In.kept {A:Around} {h g:Heap} (a:In A h) (k : ∀ b o,h.get? b=some o->g.get? b=some o):In A g :=
 a.imp id λ ⟨e,bT,vs,af,aq,r⟩=>⟨e,bT,vs,af,k _ _ aq,r⟩
theorem In.but {A:Around} {h g:Heap} {j:Addr} {o:Obj} (a:In A h) (aO:h.get? j=some o) (no : ∀ vs,o.data=.fields vs->vs[2]?≠some .none) (k:Heap.ExtBut j h g):In A g :=
 a.imp id λ ⟨e,bT,vs,af,aq,aF,aU⟩=>⟨e,bT,vs,af,k e bT (λ z=>by subst z;rw [aO] at aq;cases aq;exact no vs aF aU) aq,aF,aU⟩
theorem we {a b:Value} : ∀ vs,Data.fields #[a,b]=Data.fields vs->vs[2]?≠some .none:=λ vs e=>by
 injection e with e;subst e;exact λ z=>nomatch z
theorem wk (t:Addr) : ¬ ((Value.ref t == Value.none)=true):=Bool.false_ne_true
section
variable {prog:Program} {w:World} {A:Around} {E:Value->Shared->Prop} {s:Shared}
theorem Vj {α : Type} {a h:Addr} {o Dy:Obj} {vs aA:Array Value} {Q : α -> Shared->Prop} (bI:A.handled=some (.ref h)) (ne:h≠a)
  (aO:s.heap.get? a=some o) (hd:o.data=.fields vs) (aN:2<vs.size) (N2:s.heap.get? h=some Dy) (NI:Dy.data=.fields aA) (aq:aA[2]?=some .none)
  (q:E (.ref a) { s with heap:=s.heap.update a (Obj.mapFields (·.setIfInBounds 2 (.ref h))) }):wpAny (model prog w) A (raiseNew (.ref a):Sem α) Q E s:=by
 unfold raiseNew;refine wpAny_bind (wpAny_handled ?_);rw [bI];dsimp only;rw [if_pos (by simpa using ne)];refine wpAny_bind (wpAny_holding (runValue_entry (b:=Builtin.«proto.unchain») (entryFor_of_tree (by kernel_rfl)) ?_));unfold Builtin.«proto.unchain»;dsimp only;refine wpAny_bind (wpAny_field N2 NI aq ?_);rw [if_pos (show (Value.none == Value.none)=true from rfl)];refine wpAny_pure ⟨.none,rfl,?_⟩;refine wpAny_bind ?_;unfold updateField;refine wpAny_bind (wpAny_load aO ?_);rw [hd];dsimp only;rw [if_pos aN];refine wpAny_update aO ?_;exact wpAny_throw q
theorem stop {α : Type} {Q : α -> Shared->Prop} (bI:In A s.heap)
  (q : ∀ g e,(∀ b o,s.heap.get? b=some o->g.get? b=some o)->(∃ o,g.get? e=some o/\o.cls=.type "StopIteration")->E (.ref e) { s with heap:=g }) :
  wpAny (model prog w) A ((newExc (.type "StopIteration") []>>=λ x=>raiseNew x):Sem α) Q E s:=by
 refine wpAny_bind ?_;simp only [newExc,newTuple];refine wpAny_bind (wpAny_newObj_type (wpAny_bind (m:=firstArgMember _ _) (wpAny_of_eq (a:=Value.none) (by first | rfl | (simp only [firstArgMember];rfl)) (wpAny_newObj_type ?_ (by size_fits)))) (by size_fits));rcases bI with bI | ⟨e,bT,vs,af,aq,aF,aU⟩
 ·exact wpAny_raiseNew_none bI (q _ _ (λ b o y=>Heap.get?_push_of_some _ (Heap.get?_push_of_some _ y)) ⟨_,Heap.get?_push_size _ rfl,rfl⟩)
 ·have lt:=Heap.lt_size aq;refine Vj af (Nat.ne_of_lt (Nat.lt_of_lt_of_le lt (by rw [Heap.size_push];exact Nat.le_succ _))) (Heap.get?_push_size _ rfl) rfl (by simp;omega) (Heap.get?_push_of_some _ (Heap.get?_push_of_some _ aq)) aF aU ?_;refine q _ _ (λ b o y=>?_) ⟨_,Heap.get?_update_self _ (Heap.get?_push_size _ rfl) (Obj.isFreed_of_fields (Obj.data_mapFields rfl _)),(Obj.cls_mapFields ..).trans rfl⟩;have ru:=Heap.lt_size y;refine (Heap.get?_update_other _ _ ?_).trans (Heap.get?_push_of_some _ (Heap.get?_push_of_some _ y));intro z;rw [Heap.size_push] at z;subst z;exact Nat.lt_irrefl _ (Nat.lt_of_succ_lt ru)
theorem I1 {it l:Addr} {i:Nat} {items:Array Value} {Q:Fin->Shared->Prop} (bI:In A s.heap) (hit:s.heap.IsListIter it l i) (au:s.heap.IsList l items) (ah:items[i]?=none)
  (q : ∀ g e,Heap.ExtBut it s.heap g->(∃ o,g.get? e=some o/\o.cls=.type "StopIteration")->E (.ref e) { s with heap:=g }) :
  wpAny (model prog w) A (Builtin.«list_iterator.__next__» ⟨[.ref it],[]⟩) Q E s:=by
 obtain ⟨o,aO,ao,hd⟩:=id hit;obtain ⟨ol,kB,_,nl,yN⟩:=au;show wpAny _ _ (field (.ref it) 0>>=_) _ _ s;refine wpAny_bind (wpAny_field aO hd (x:=.ref l) rfl ?_);show wpAny _ _ (ite ((Value.ref l == Value.none)=true) _ _) _ _ s;rw [if_neg (wk _)];show wpAny _ _ (field (.ref it) 1>>=_) _ _ s;refine wpAny_bind (wpAny_field aO hd (x:=.int i 0) rfl ?_);show wpAny _ _ (seqItems? (.ref l)>>=_) _ _ s;refine wpAny_bind (wpAny_seqItems kB yN ?_);simp only [Int.toNat_natCast,ah];refine wpAny_bind (wpAny_rule (wpAny_bind (wpAny_setField aO hd (by simp) ?_)));have k:=(Heap.SameBut.update s.heap it (Obj.mapFields (·.setIfInBounds 0 .none))).extBut;exact stop (bI.but aO (by rw [hd];exact we) k) λ g e bZ x=>q g e (λ b o nb y=>bZ b o (k b o nb y)) x
theorem Il {it t:Addr} {i:Nat} {items:Array Value} {Q:Fin->Shared->Prop} (bI:In A s.heap) (hit:s.heap.IsTupleIter it t i) (au:s.heap.IsTuple t items) (ah:items[i]?=none)
  (q : ∀ g e,Heap.ExtBut it s.heap g->(∃ o,g.get? e=some o/\o.cls=.type "StopIteration")->E (.ref e) { s with heap:=g }) :
  wpAny (model prog w) A (Builtin.«tuple_iterator.__next__» ⟨[.ref it],[]⟩) Q E s:=by
 obtain ⟨o,aO,ao,hd⟩:=id hit;obtain ⟨ol,kB,_,nl,yN⟩:=au;show wpAny _ _ (field (.ref it) 0>>=_) _ _ s;refine wpAny_bind (wpAny_field aO hd (x:=.ref t) rfl ?_);show wpAny _ _ (ite ((Value.ref t == Value.none)=true) _ _) _ _ s;rw [if_neg (wk _)];show wpAny _ _ (field (.ref it) 1>>=_) _ _ s;refine wpAny_bind (wpAny_field aO hd (x:=.int i 0) rfl ?_);show wpAny _ _ (seqItems? (.ref t)>>=_) _ _ s;refine wpAny_bind (wpAny_seqItems kB yN ?_);simp only [Int.toNat_natCast,ah];refine wpAny_bind (wpAny_rule (wpAny_bind (wpAny_setField aO hd (by simp) ?_)));have k:=(Heap.SameBut.update s.heap it (Obj.mapFields (·.setIfInBounds 0 .none))).extBut;exact stop (bI.but aO (by rw [hd];exact we) k) λ g e bZ x=>q g e (λ b o nb y=>bZ b o (k b o nb y)) x
theorem H2 {it l:Addr} {i:Nat} {items:Array Value} {Q:Option Value->Shared->Prop} (bI:In A s.heap) (hit:s.heap.IsListIter it l i) (au:s.heap.IsList l items) (ah:items[i]?=none)
  (q : ∀ g,Heap.ExtBut it s.heap g->Q none { s with heap:=g }):wpAny (model prog w) A (pyNext (.ref it)) Q E s:=by
 unfold pyNext;refine wpAny_bind (wpAny_attempt (wpAny_callSpecial?_slot (name:=Str.ofString "__next__") hit.typeIs slot_listiter_next (wpAny_call_entry slot_listiter_next hit.typeIs entry_listiter_next ?_ (args_listiter_next _))));exact I1 (A:=A.in1) bI hit au ah λ g e bZ ⟨o,aO,ao⟩=>wpAny_bind (wpAny_isInstance (T := "StopIteration") (b:=true) ⟨o,aO,ao⟩ isSubtype_stop (wpAny_pure (q g bZ)))
theorem AV {it t:Addr} {i:Nat} {items:Array Value} {Q:Option Value->Shared->Prop} (bI:In A s.heap) (hit:s.heap.IsTupleIter it t i) (au:s.heap.IsTuple t items) (ah:items[i]?=none)
  (q : ∀ g,Heap.ExtBut it s.heap g->Q none { s with heap:=g }):wpAny (model prog w) A (pyNext (.ref it)) Q E s:=by
 unfold pyNext;refine wpAny_bind (wpAny_attempt (wpAny_callSpecial?_slot (name:=Str.ofString "__next__") hit.typeIs F.slot_tuple_iterator_next (wpAny_call_entry F.slot_tuple_iterator_next hit.typeIs F.entry_tuple_iterator_next ?_ (F.args_tuple_iterator_next_1 _))));exact Il (A:=A.in1) bI hit au ah λ g e bZ ⟨o,aO,ao⟩=>wpAny_bind (wpAny_isInstance (T := "StopIteration") (b:=true) ⟨o,aO,ao⟩ isSubtype_stop (wpAny_pure (q g bZ)))
theorem I2 {it l:Addr} {i:Nat} {items:Array Value} {Q:Value->Shared->Prop} (bI:In A s.heap) (hit:s.heap.IsListIter it l i) (au:s.heap.IsList l items) (ah:items[i]?=none)
  (q : ∀ g e,Heap.ExtBut it s.heap g->(∃ o,g.get? e=some o/\o.cls=.type "StopIteration")->E (.ref e) { s with heap:=g }):wpAny (model prog w) A (Builtin.SmallTypes.nextOf (.ref it)) Q E s:=by
 unfold Builtin.SmallTypes.nextOf;exact wpAny_bind (wpAny_callSpecial?_slot (name:=Str.ofString "__next__") hit.typeIs slot_listiter_next (wpAny_call_entry slot_listiter_next hit.typeIs entry_listiter_next (I1 (A:=A.in1) bI hit au ah q) (args_listiter_next _)))
theorem Im {it t:Addr} {i:Nat} {items:Array Value} {Q:Value->Shared->Prop} (bI:In A s.heap) (hit:s.heap.IsTupleIter it t i) (au:s.heap.IsTuple t items) (ah:items[i]?=none)
  (q : ∀ g e,Heap.ExtBut it s.heap g->(∃ o,g.get? e=some o/\o.cls=.type "StopIteration")->E (.ref e) { s with heap:=g }):wpAny (model prog w) A (Builtin.SmallTypes.nextOf (.ref it)) Q E s:=by
 unfold Builtin.SmallTypes.nextOf;exact wpAny_bind (wpAny_callSpecial?_slot (name:=Str.ofString "__next__") hit.typeIs F.slot_tuple_iterator_next (wpAny_call_entry F.slot_tuple_iterator_next hit.typeIs F.entry_tuple_iterator_next (Il (A:=A.in1) bI hit au ah q) (F.args_tuple_iterator_next_1 _)))
theorem UY {e it l:Addr} {i:Nat} {items:Array Value} {old:Value} {Q:Option Value->Shared->Prop} (bI:In A s.heap) (he:IsEnum s.heap e it i old) (hit:s.heap.IsListIter it l i) (au:s.heap.IsList l items) (ah:items[i]?=none)
  (q : ∀ g,Heap.ExtBut it s.heap g->Q none { s with heap:=g }):wpAny (model prog w) A (pyNext (.ref e)) Q E s:=by
 have ty:s.TypeIs (.ref e) "enumerate" := ⟨_,he,rfl⟩
 unfold pyNext;refine wpAny_bind (wpAny_attempt (wpAny_callSpecial?_slot (name:=Str.ofString "__next__") ty F.slot_enumerate_next (wpAny_call_entry F.slot_enumerate_next ty F.entry_enumerate_next ?_ (F.args_enumerate_next_1 _))));show wpAny _ _ (field (.ref e) 2>>=_) _ _ _;refine wpAny_bind (wpAny_field he rfl (x:=.ref it) rfl (wpAny_bind (I2 (A:=A.in1) bI hit au ah λ g x bZ ⟨o,aO,ao⟩=>?_)));exact wpAny_bind (wpAny_isInstance (T := "StopIteration") (b:=true) ⟨o,aO,ao⟩ isSubtype_stop (wpAny_pure (q _ bZ)))
theorem items {t:Addr} {items:Array Value} {Q:List Value->Shared->Prop} (bI:In A s.heap) (aZ:IsTup s.heap t items)
  (q : ∀ g,Heap.ExtBut s.heap.objs.size s.heap g->Q items.toList { s with heap:=g }):wpAny (model prog w) A (unpackItems (.ref t) items.size none) Q E s:=by
 have lt:t≠s.heap.objs.size:=by
  obtain ⟨o,aO,_⟩:=aZ;exact Nat.ne_of_lt (Heap.lt_size aO)
 unfold unpackItems;refine wpAny_bind ?_;unfold notIterableAtAll;refine wpAny_bind (wpAny_specialOf aZ.typeIs slot_tuple_iter.lookup (wpAny_pure ?_));simp only [Bool.false_eq_true,if_false];refine wpAny_bind (wpAny_holding (iter_tuple aZ (wpAny_bind (wpAny_holding (draw_tuple lt items.size 0 _ _ ⟨_,Heap.get?_push_size _ rfl,rfl,rfl⟩ (aZ.push _) (by omega) λ g1 ho s1=>?_)))));rw [show List.take items.size (List.drop 0 items.toList)=items.toList by rw [List.drop_zero];exact List.take_of_length_le (by simp),if_neg (by simp)];have t1:IsTup g1 t items:=(aZ.push _).extBut s1.extBut lt;have bZ : ∀ b o,s.heap.get? b=some o->g1.get? b=some o:=λ b o y=>s1.extBut b o (Nat.ne_of_lt (Heap.lt_size y)) (Heap.get?_push_of_some _ y)
 refine wpAny_bind (wpAny_holding (AV (bI.kept bZ) (show Heap.IsTupleIter g1 s.heap.objs.size t (0+items.size) from ho) (show Heap.IsTuple g1 t items from t1) (by simp) λ g2 aI=>?_));simp only [Option.isSome_none,Bool.false_eq_true,if_false];exact wpAny_pure (q g2 λ b o nb y=>aI b o nb (bZ b o y))
theorem Wb {env:Env} {elts:List Expr} {k} {pos:Pos} {t:Addr} {items:Array Value} {Q:Unit->Shared->Prop} (bI:In A s.heap) (aZ:IsTup s.heap t items)
  (aC:(assignEach elts env).length=items.size) (aA:(assignEach elts env).findIdx? (·.1)=none)
  (h : ∀ g,Heap.ExtBut s.heap.objs.size s.heap g->wpAny (model prog w) A (assignInOrder ((assignEach elts env).map (·.2)) items.toList) Q E { s with heap:=g }) :
  wpAny (model prog w) A (assign (.Tuple elts k pos) env (.ref t)) Q E s:=by
 rw [assign_Tuple];refine wpAny_bind (wpAny_standAt ?_);unfold unpack;rw [aC,aA];exact wpAny_bind (wpAny_holding (eO.items bI aZ h))
end
theorem XP {prog:Program} {w:World} {A:Around} {e:Addr} {bT:Obj} {vs:Array Value} (af:A.handled=some (.ref e)) (aF:bT.data=.fields vs) (aU:vs[2]?=some .none) (I ke:Addr) (c5:ke≠I) (mG:e≠I) (items:Array Value) :
  Walks prog w A I [I,ke,e] [I] items.size (λ i v=>items[i]?=some v) (λ i h=>h.IsListIter I ke i/\h.IsList ke items/\h.get? e=some bT) where
 sub:=λ b aa=>by simp at aa;simp [aa]
 frame:=λ _ _ _ st aB=>⟨st.1.at λ o y=>aB I (by simp) o y,st.2.1.at λ o y=>aB ke (by simp) o y,aB e (by simp) _ st.2.2⟩
 item:=λ i s Q E ax st eQ=>by
  refine wpAny_pyNext_list_item st.1 st.2.1 (x:=items[i]) (by simp [ax]) λ g za dB=>?_
  exact eQ _ g s.toks (by simp [ax]) ⟨za,st.2.1.extBut dB.extBut c5,dB.extBut _ _ mG st.2.2⟩ λ b o aa y=>dB.extBut b o (λ z=>aa (by simp [z])) y
 done:=λ s Q E st eQ=>H2 (.inr ⟨e,bT,vs,af,st.2.2,aF,aU⟩) st.1 st.2.1 (by simp) λ g c7=>eQ g s.toks λ b o aa y=>c7 b o (λ z=>aa (by simp [z])) y
 self:=λ _ _ _ _ st eQ=>wpAny_pyIter_listiter st.1 eQ
theorem YQ {prog:Program} {w:World} {A:Around} {e:Addr} {bT:Obj} {vs:Array Value} (af:A.handled=some (.ref e)) (aF:bT.data=.fields vs) (aU:vs[2]?=some .none) (I ke:Addr) (c5:ke≠I) (mG:e≠I) (items:Array Value) :
  Walks prog w A I [I,ke,e] [I] items.size (λ i v=>items[i]?=some v) (λ i h=>h.IsTupleIter I ke i/\h.IsTuple ke items/\h.get? e=some bT) where
 sub:=λ b aa=>by simp at aa;simp [aa]
 frame:=λ _ _ _ st aB=>⟨st.1.at λ o y=>aB I (by simp) o y,st.2.1.at λ o y=>aB ke (by simp) o y,aB e (by simp) _ st.2.2⟩
 item:=λ i s Q E ax st eQ=>by
  refine wpAny_pyNext_tuple_item st.1 st.2.1 (x:=items[i]) (by simp [ax]) λ g za dB=>?_
  exact eQ _ g s.toks (by simp [ax]) ⟨za,st.2.1.extBut dB.extBut c5,dB.extBut _ _ mG st.2.2⟩ λ b o aa y=>dB.extBut b o (λ z=>aa (by simp [z])) y
 done:=λ s Q E st eQ=>AV (.inr ⟨e,bT,vs,af,st.2.2,aF,aU⟩) st.1 st.2.1 (by simp) λ g c7=>eQ g s.toks λ b o aa y=>c7 b o (λ z=>aa (by simp [z])) y
 self:=λ _ _ _ _ st eQ=>wpAny_pyIter_tupleiter st.1 eQ
section
variable {prog:Program} {w:World} {A:Around} {E:Value->Shared->Prop} {s:Shared}
theorem max2 {a b:Int} {t u:Tok} {Q:Value->Shared->Prop} (bI:In A s.heap)
  (h : ∀ g tk,(∀ c o,s.heap.get? c=some o->g.get? c=some o)->Q (if b > a then .int b u else .int a t) { s with heap:=g,toks:=tk }) :
  wpAny (model prog w) A (call (.builtin "max") [.int a t,.int b u]) Q E s:=by
 rcases bI with bI | ⟨e,bT,vs,af,aq,aF,aU⟩
 ·exact max_two_ints bI h
 have cz:(s.heap.push { cls:=.type "tuple", data:=.seq #[.int a t,.int b u] }).IsTuple s.heap.objs.size (intItems #[(a,t),(b,u)]):=⟨_,Heap.get?_push_size _ rfl,rfl,0,by simp [intItems]⟩
 have lt:=Heap.lt_size aq;have hsz:(s.heap.push { cls:=.type "tuple", data:=.seq #[.int a t,.int b u] }).objs.size=s.heap.objs.size+1:=Heap.size_push ..;refine call_max_two (wpAny_pyIter_tuple cz ⟨_,[_,s.heap.objs.size,e],[_],_,_,_,_,rfl,YQ (A:=A.in1) af aF aU _ s.heap.objs.size (by rw [hsz];exact Nat.ne_of_lt (Nat.lt_succ_self _)) (by rw [hsz];exact Nat.ne_of_lt (Nat.lt_succ_of_lt lt)) (intItems #[(a,t),(b,u)]),
  ⟨⟨_,Heap.get?_push_size _ rfl,rfl,rfl⟩,cz.push _,Heap.get?_push_of_some _ (Heap.get?_push_of_some _ aq)⟩,λ c ao=>?_,by simp [intItems],CmpOf.ints_gt (numAt #[(a,t),(b,u)]) (λ _ _=>intItems_at),λ v g tk c0 aB=>?_⟩)
 ·have fu:((s.heap.push { cls:=.type "tuple", data:=.seq #[.int a t,.int b u] }).push { cls:=.type "tuple_iterator", data:=.fields #[.ref s.heap.objs.size,.int 0 0] }).objs.size=s.heap.objs.size+2:=by rw [Heap.size_push,hsz]
  show c<((s.heap.push _).push _).objs.size;rw [fu];simp only [List.mem_cons,List.not_mem_nil,or_false,hsz] at ao;rcases ao with ao | ao | ao
  ·rw [ao];exact Nat.lt_succ_self _
  ·rw [ao];exact Nat.lt_succ_of_lt (Nat.lt_succ_self _)
  ·rw [ao];exact Nat.lt_succ_of_lt (Nat.lt_succ_of_lt lt)
 ·have hold : ∀ c o,s.heap.get? c=some o->g.get? c=some o:=λ c o y=>aB c o (λ hm=>by
   have aE:=List.mem_singleton.mp hm;have:=Heap.lt_size y;rw [aE,hsz] at this;exact Nat.lt_irrefl _ (Nat.lt_of_succ_lt this)) (Heap.get?_push_of_some _ (Heap.get?_push_of_some _ y))
  have lq:(intItems #[(a,t),(b,u)])[argBest (λ i j=>decide (numAt #[(a,t),(b,u)] i > numAt #[(a,t),(b,u)] j)) 1]?=some v:=by
   have Qf:(intItems #[(a,t),(b,u)]).size - 1=1:=by simp [intItems]
   rw [<-Qf];exact c0
  have a7:v=if b > a then Value.int b u else Value.int a t:=by
   by_cases uR:b > a
   ·rw [show argBest (λ i j=>decide (numAt #[(a,t),(b,u)] i > numAt #[(a,t),(b,u)] j)) 1=1 by simp [argBest,numAt,uR]] at lq;simpa [intItems,uR] using lq.symm
   ·rw [show argBest (λ i j=>decide (numAt #[(a,t),(b,u)] i > numAt #[(a,t),(b,u)] j)) 1=0 by simp [argBest,numAt,uR]] at lq;simpa [intItems,uR] using lq.symm
  rw [a7];exact h g tk hold
end
end eO
namespace bC
open PySem PySem.Spec PyProof.Rows
noncomputable abbrev Key:=Sum Int Str
noncomputable def pg:Key->Value->Bool
 | .inl k,v=>Value.isInt k v
 | .inr x,v=>Value.isStrOf x v
noncomputable def Qo (w:World):Key->Int
 | .inl k=>hashInt k
 | .inr x=>hashStr w x
theorem l5 : ∀ {k:Key} {v:Value},pg k v=true->(∃ i t,k=Sum.inl i/\v=Value.int i t)\/(∃ x t,k=Sum.inr x/\v=Value.str x t)
 | .inl i,v,h=>by
  obtain ⟨t,e⟩:=Value.isInt_shape (k:=i) (v:=v) h;exact .inl ⟨i,t,rfl,e⟩
 | .inr x,v,h=>by
  obtain ⟨t,e⟩:=Value.isStrOf_shape (x:=x) (v:=v) h;exact .inr ⟨x,t,rfl,e⟩
theorem WQ (i:Int) (t:Tok):pg (.inl i) (.int i t)=true:=by simp [pg,Value.isInt]
theorem WR (x:Str) (t:Tok):pg (.inr x) (.str x t)=true:=by simp [pg,Value.isStrOf]
theorem RM (a b:Int):decide ((Sum.inl a:Key)=Sum.inl b)=(a == b):=by
 by_cases e:a=b
 ·subst e;simp
 ·have h : ¬ (Sum.inl a:Key)=Sum.inl b:=λ q=>e (Sum.inl.inj q)
  rw [decide_eq_false h];exact (beq_eq_false_iff_ne.mpr e).symm
theorem RP (a b:Str):decide ((Sum.inr a:Key)=Sum.inr b)=decide (a=b):=by
 by_cases e:a=b
 ·subst e;simp
 ·have h : ¬ (Sum.inr a:Key)=Sum.inr b:=λ q=>e (Sum.inr.inj q)
  rw [decide_eq_false h,decide_eq_false e]
theorem RN (a:Int) (b:Str):decide ((Sum.inl a:Key)=Sum.inr b)=false:=decide_eq_false (λ q=>nomatch q)
theorem RO (a:Str) (b:Int):decide ((Sum.inr a:Key)=Sum.inl b)=false:=decide_eq_false (λ q=>nomatch q)
noncomputable def g6 (prog:Program) (w:World):PySem.KeyKind prog w Key where
 is:=pg
 hash:=Qo w
 inj:=λ v a b av aa=>by
  rcases l5 av with ⟨i,t,rfl,rfl⟩ | ⟨x,t,rfl,rfl⟩
  ·rcases l5 aa with ⟨j,u,rfl,e⟩ | ⟨y,u,rfl,e⟩
   ·injection e with aE _;rw [aE]
   ·exact nomatch e
  ·rcases l5 aa with ⟨j,u,rfl,e⟩ | ⟨y,u,rfl,e⟩
   ·exact nomatch e
   ·injection e with aE _;rw [aE]
 byValue:=λ k v h=>by
  rcases l5 h with ⟨i,t,rfl,rfl⟩ | ⟨x,t,rfl,rfl⟩<;>rfl
 pyHash:=λ a7 h=>by
  rcases l5 a7 with ⟨i,t,rfl,rfl⟩ | ⟨x,t,rfl,rfl⟩
  ·exact wpAny_pyHash_int h
  ·exact wpAny_pyHash_str h
 eqBool:=λ b_ a7 h=>by
  rcases l5 b_ with ⟨i,t,rfl,rfl⟩ | ⟨x,t,rfl,rfl⟩
  ·rcases l5 a7 with ⟨j,u,rfl,rfl⟩ | ⟨y,u,rfl,rfl⟩
   ·rw [RM] at h;exact wpAny_eqBool_int h
   ·rw [RN] at h;exact SeqAt.EqAt.int_str i t y u _ _ _ _ h
  ·rcases l5 a7 with ⟨j,u,rfl,rfl⟩ | ⟨y,u,rfl,rfl⟩
   ·rw [RO] at h;exact SeqAt.EqAt.str_int x t j u _ _ _ _ h
   ·rw [RP] at h;exact wpAny_eqBool_str h
 «strs» := λ k x t v h=>by
  rcases l5 h with ⟨i,u,rfl,e⟩ | ⟨y,u,rfl,e⟩
  ·exact nomatch e
  ·injection e with aE _;subst aE;cases v<;>rfl
theorem JV (prog:Program) (w:World) (i:Int) (t:Tok):(g6 prog w).is (.inl i) (.int i t)=true:=WQ i t
theorem JW (prog:Program) (w:World) (x:Str) (t:Tok):(g6 prog w).is (.inr x) (.str x t)=true:=WR x t
inductive V where
 | bp | ba (b:Bool) | int (i:Int) | str (x:Str) | iT (b:Array UInt8) | mx (b:UInt64) | ref (a:Addr) | ty (n:String)
 deriving DecidableEq
noncomputable def RelV:V->Value->Prop
 | .bp,u=>u=Value.none
 | .ba b,u=>u=Value.bool b
 | .int i,u => ∃ t,u=Value.int i t
 | .str x,u => ∃ t,u=Value.str x t
 | .iT b,u => ∃ t,u=Value.bytes b t
 | .mx b,u => ∃ t,u=Value.float b t
 | .ref a,u=>u=Value.ref a
 | .ty n,u=>u=Value.type n
noncomputable abbrev Vals:List V->List Value->Prop:=Paired RelV
theorem Vals.length {xs:List V} {us:List Value} (r:Vals xs us):xs.length=us.length:=Paired.length r
theorem Vals.get : ∀ {xs:List V} {us:List Value} {i:Nat} {x:V},Vals xs us->xs[i]?=some x -> ∃ u,us[i]?=some u/\RelV x u
 | _,_,_,_,.nil,e=>by simp at e
 | _,_,0,_,.cons r _,e=>by simp at e;subst e;exact ⟨_,rfl,r⟩
 | _,_,i+1,x,.cons _ t,e=>by
  obtain ⟨u,af,aq⟩:=Vals.get (i:=i) (x:=x) t (by simpa using e);exact ⟨u,by simpa using af,aq⟩
theorem Vals.set {x:V} {u:Value} (r:RelV x u) : ∀ {xs:List V} {us:List Value} (i:Nat),Vals xs us->Vals (xs.set i x) (us.set i u)
 | _,_,_,.nil=>.nil
 | _,_,0,.cons _ t=>.cons r t
 | _,_,i+1,.cons q t=>.cons q (Vals.set r i t)
theorem Vals.append : ∀ {xs ys:List V} {us ws:List Value},Vals xs us->Vals ys ws->Vals (xs++ys) (us++ws)
 | _,_,_,_,.nil,s=>s
 | _,_,_,_,.cons r t,s=>.cons r (Vals.append t s)
theorem Vals.take : ∀ {xs:List V} {us:List Value} (n:Nat),Vals xs us->Vals (xs.take n) (us.take n)
 | _,_,0,_=>.nil
 | _,_,_+1,.nil=>.nil
 | _,_,n+1,.cons r t=>.cons r (Vals.take n t)
theorem Vals.drop : ∀ {xs:List V} {us:List Value} (n:Nat),Vals xs us->Vals (xs.drop n) (us.drop n)
 | _,_,0,r=>r
 | _,_,_+1,.nil=>.nil
 | _,_,n+1,.cons _ t=>Vals.drop n t
noncomputable def gv:Option V->Option Value->Prop
 | some v,some u=>RelV v u
 | none,none=>True
 | _,_=>False
noncomputable def e0 {κ : Type}:List (κ × V)->List (κ × Value)->Prop:=Paired λ (p : κ × V) (q : κ × Value)=>p.1=q.1/\RelV p.2 q.2
noncomputable def cm:Key->V
 | .inl i=>.int i
 | .inr x=>.str x
inductive dz where
 | lst (xs:List V)
 | tup (xs:List V)
 | cM (kvs:List (Key×V)) | eI (kvs:List (List Key×V))
 | set (S:Int->Bool) (n:Nat)
 | ins (C aG:Addr) (ak:List (Str×V))
 | own (x:Addr)
 | h5 (ak:List (Str×V))
 | met (f x:Addr)
 | nL (lo ax:Int)
 | hL (o:Obj) (u:dz)
 | mS (ag:Array Value)
 | ext (φ : Heap->Prop)
noncomputable abbrev aj:=Addr->Option dz
noncomputable def upd (H:aj) (a:Addr) (o:dz):aj:=λ b=>if b=a then some o else H b
theorem br {H:aj} {a:Addr} {o:dz}:upd H a o a=some o:=by unfold upd;rw [if_pos rfl]
theorem a3 {H:aj} {a b:Addr} {o:dz} (h:b≠a):upd H a o b=H b:=by unfold upd;rw [if_neg h]
theorem AX {H:aj} {a:Addr} {o u:dz}:upd (upd H a o) a u=upd H a u:=by
 funext b;unfold upd;split<;>rfl
theorem dN {H:aj} {a b:Addr} {o u:dz} (h:H a=some o) (h':H b=some u) (d:o≠u):a≠b:=by
 intro e;subst e;rw [h] at h';exact d (Option.some.inj h')
theorem b2 {H:aj} {a b:Addr} {o:dz} (h:H a=some o) (h':H b=none):a≠b:=by
 intro e;subst e;rw [h] at h';cases h'
section
variable (P:Program) (w:World)
noncomputable def lQ (h:Heap) (a:Addr) (items:Array Value):Prop := ∃ o,h.get? a=some o/\o.cls=.type "tuple" /\ (∃ n,o.data=.seq items n)/\o.dict=none
theorem lQ.up {h:Heap} {a:Addr} {items:Array Value}:lQ h a items->IsTup h a items:=λ ⟨o,e,c,d,_⟩=>⟨o,e,c,d⟩
theorem lQ.lt {h:Heap} {a:Addr} {items:Array Value}:lQ h a items->a<h.objs.size:=λ ⟨_,e,_⟩=>Heap.lt_size e
theorem lQ.new (h:Heap) (items:Array Value):lQ (h.push { cls:=.type "tuple", data:=.seq items }) h.objs.size items:=⟨_,Heap.get?_push_size _ rfl,rfl,⟨_,rfl⟩,rfl⟩
noncomputable def dv (H:aj) (h:Heap) (a:Addr):dz->Prop
 | .lst xs=>xs.length<=sizeLine /\ ∃ (its:List Value) (n:Nat),Vals xs its/\h.get? a=some { cls:=.type "list", data:=.seq its.toArray n }
 | .tup xs=>xs.length<=sizeLine /\ ∃ its:List Value,Vals xs its/\lQ h a its.toArray
 | .cM kvs=>kvs.length<=sizeLine/\(a == sysModules)=false /\ ∃ vs,e0 kvs vs/\h.DictOf (g6 P w) a vs
 | .eI kvs=>kvs.length<=sizeLine/\(a == sysModules)=false /\ ∃ xs:List (List Key×Addr×Value),
   Paired (λ (p:List Key×V) (q:List Key×Addr×Value)=>p.1=q.1/\H q.2.1=some (.tup (p.1.map cm))/\RelV p.2 q.2.2) kvs xs /\
   ∃ o es ep,h.get? a=some o/\o.ExactDict/\o.data=.dict es ep/\es.toList=xs.map (entryOfKey (tupleKind (g6 P w)))/\(xs.map (·.1)).Nodup
 | .set S n=>h.SetOf (intKind P w) a S n
 | .ins C aG ak=>H aG=some (.own a)/\ak.length<=1000/\aG≠a/\h.get? a=some (PySem.W.instObj C aG) /\
   ∃ c3,h.Ns1 aG c3/\(∀ f,gv (ak.lookup f) (c3 f))/\PySem.Within c3 (ak.map (·.1))
 | .own _ => ∃ o,h.get? a=some o
 | .h5 ak => ∃ c3,h.Ns1 a c3 /\ ∀ f,gv (ak.lookup f) (c3 f)
 | .nL lo ax => ∃ t u v,h.get? a=some { cls:=.type "range", data:=.fields #[.int lo t,.int ax u,.int 1 v] }
 | .hL o u=>h.get? a=some o/\dv H h a u
 | .mS ag=>h.get? a=some { cls:=.none,data:=.fields ag }
 | .met f x=>h.get? a=some (PySem.W.methodObj (.ref f) (.ref x))
 | .ext φ => φ h/\(∃ o,h.get? a=some o) /\ ∀ af aq:Heap,φ af->(∀ o,af.get? a=some o->aq.get? a=some o) -> φ aq
noncomputable def dM (H:aj) (h:Heap):Prop := ∀ a o,H a=some o->dv P w H h a o
end
section
variable {P:Program} {w:World} {H H':aj} {h h':Heap} {a:Addr} {o:dz}
theorem dv.lt (x:dv P w H h a o):a<h.objs.size:=by
 cases o with
 | lst xs=>obtain ⟨_,_,_,_,e⟩:=x;exact Heap.lt_size e
 | tup xs=>obtain ⟨_,_,_,p⟩:=x;exact p.lt
 | cM kvs=>obtain ⟨_,_,_,_,o,_,_,e,_⟩:=x;exact Heap.lt_size e
 | eI kvs=>obtain ⟨_,_,_,_,o,_,_,e,_⟩:=x;exact Heap.lt_size e
 | set S n=>obtain ⟨o,_,_,_,e,_⟩:=x;exact Heap.lt_size e
 | ins C aG ak=>obtain ⟨_,_,_,e,_⟩:=x;exact Heap.lt_size e
 | own y=>obtain ⟨_,e⟩:=x;exact Heap.lt_size e
 | h5 ak=>obtain ⟨_,⟨_,_,_,e,_⟩,_⟩:=x;exact Heap.lt_size e
 | nL lo ax=>obtain ⟨_,_,_,e⟩:=x;exact Heap.lt_size e
 | hL bJ u=>obtain ⟨e,_⟩:=x;exact Heap.lt_size e
 | mS ag=>exact Heap.lt_size (show h.get? a=some _ from x)
 | met f y=>exact Heap.lt_size (show h.get? a=some _ from x)
 | ext φ => obtain ⟨_,⟨_,e⟩,_⟩:=x;exact Heap.lt_size e
theorem Paired.zO {α β : Type} {F G : α -> β -> Prop} : ∀ {l₁:List α} {l₂:List β},Paired F l₁ l₂->(∀ a b,F a b->G a b)->Paired G l₁ l₂
 | _,_,.nil,_=>.nil
 | _,_,.cons r t,f=>.cons (f _ _ r) (Paired.zO t f)
theorem dv.hV (x:dv P w H h a o) (k : ∀ b u,(b=a\/H b=some (.own a))->h.get? b=some u->h'.get? b=some u)
  (aO : ∀ b,H b=some (.own a)->H' b=some (.own a)) (aZ : ∀ b xs,H b=some (.tup xs)->H' b=some (.tup xs)):dv P w H' h' a o:=by
 induction o with
 | lst xs=>obtain ⟨z,its,n,r,e⟩:=x;exact ⟨z,its,n,r,k _ _ (.inl rfl) e⟩
 | tup xs=>obtain ⟨z,its,r,bJ,e,c⟩:=x;exact ⟨z,its,r,bJ,k _ _ (.inl rfl) e,c⟩
 | cM kvs=>obtain ⟨z,y,vs,r,bJ,es,ep,e,c⟩:=x;exact ⟨z,y,vs,r,bJ,es,ep,k _ _ (.inl rfl) e,c⟩
 | eI kvs =>
  obtain ⟨z,y,xs,r,bJ,es,ep,e,c⟩:=x;exact ⟨z,y,xs,Paired.zO r λ p q z=>⟨z.1,aZ _ _ z.2.1,z.2.2⟩,bJ,es,ep,k _ _ (.inl rfl) e,c⟩
 | set S n=>obtain ⟨bJ,es,ep,t,e,c⟩:=x;exact ⟨bJ,es,ep,t,k _ _ (.inl rfl) e,c⟩
 | ins C aG ak =>
  obtain ⟨d,z,ne,e,c3,⟨de,es,ep,aI,c⟩,r⟩:=x;exact ⟨aO _ d,z,ne,k _ _ (.inl rfl) e,c3,⟨de,es,ep,k _ _ (.inr d) aI,c⟩,r⟩
 | own y=>obtain ⟨bJ,e⟩:=x;exact ⟨bJ,k _ _ (.inl rfl) e⟩
 | h5 ak=>obtain ⟨c3,⟨de,es,ep,e,c⟩,r⟩:=x;exact ⟨c3,⟨de,es,ep,k _ _ (.inl rfl) e,c⟩,r⟩
 | nL lo ax=>obtain ⟨t,u,v,e⟩:=x;exact ⟨t,u,v,k _ _ (.inl rfl) e⟩
 | hL bJ u cI=>obtain ⟨e,q⟩:=x;exact ⟨k _ _ (.inl rfl) e,cI q⟩
 | mS ag =>
  have e:h.get? a=some { cls:=.none,data:=.fields ag }:=x;show h'.get? a=some { cls:=.none,data:=.fields ag };exact k a _ (.inl rfl) e
 | met f y =>
  have e:h.get? a=some (PySem.W.methodObj (.ref f) (.ref y)):=x;show h'.get? a=some (PySem.W.methodObj (.ref f) (.ref y));exact k a _ (.inl rfl) e
 | ext φ => obtain ⟨p,⟨o,e⟩,st⟩:=x;exact ⟨st _ _ p λ o q=>k _ _ (.inl rfl) q,⟨o,k _ _ (.inl rfl) e⟩,st⟩
theorem dM.lt (x:dM P w H h) (e:H a=some o):a<h.objs.size:=(x a o e).lt
theorem dM.fresh (x:dM P w H h) (e:h.objs.size<=a):H a=none:=by
 cases q:H a with
 | none=>rfl
 | some u=>exact absurd (Nat.lt_of_lt_of_le (x.lt q) e) (Nat.lt_irrefl _)
theorem dM.kept (x:dM P w H h) (k : ∀ b u,h.get? b=some u->h'.get? b=some u):dM P w H h':=λ a o e =>
 (x a o e).hV (λ b u _ q=>k b u q) (λ _ q=>q) λ _ _ q=>q
theorem dM.laid (x:dM P w H h) (k : ∀ b u,h.get? b=some u->h'.get? b=some u) (ay:h.objs.size<=a) (new:dv P w (upd H a o) h' a o):dM P w (upd H a o) h':=λ b u e=>by
 have aC:=x.fresh ay;by_cases aa:b=a
 ·subst aa;rw [br] at e;cases e;exact new
 ·rw [a3 aa] at e;exact (x b u e).hV (λ c v _ q=>k c v q) (λ c q=>by rw [a3 (b2 q aC)];exact q) λ c xs q=>by rw [a3 (b2 q aC)];exact q
end
noncomputable def k4 (H:aj) (a:Addr) (u:dz):Prop:=H a=some u \/ ∃ o,H a=some (.hL o u)
theorem k4.ok {P:Program} {w:World} {H:aj} {h:Heap} {a:Addr} {u:dz} (r:k4 H a u) (x:dM P w H h):dv P w H h a u:=by
 rcases r with r | ⟨o,r⟩
 ·exact x a u r
 ·obtain ⟨_,q⟩:=x a _ r;exact q
noncomputable def rO:Option dz->Prop
 | some (.lst _)=>True
 | some (.cM _)=>True
 | some (.eI _)=>True
 | some (.set _ _)=>True
 | some (.ins _ _ _)=>True
 | some (.ext _)=>True
 | _=>False
section
variable {P:Program} {w:World} {H:aj} {h h':Heap} {x e:Addr} {eb:dz}
theorem dM.write (ok:dM P w H h) (iN:rO (H x)) (he:e=x\/H e=some (.own x)) (k : ∀ b u,b≠e->h.get? b=some u->h'.get? b=some u) (p_ : ∃ u,h'.get? e=some u)
  (new:dv P w (upd H x eb) h' x eb):dM P w (upd H x eb) h':=λ b u q=>by
 have Fu : ∀ c y,H c=some (.own y)->c≠x:=λ c y r z=>by subst z;rw [r] at iN;exact iN
 have QA : ∀ c xs,H c=some (.tup xs)->c≠x:=λ c xs r z=>by subst z;rw [r] at iN;exact iN
 by_cases aa:b=x
 ·subst aa;rw [br] at q;cases q;exact new
 ·rw [a3 aa] at q;by_cases oU:b=e
  ·have a8:H b=some (.own x):=by
    rcases he with z | z
    ·exact absurd (oU.trans z) aa
    ·rw [oU];exact z
   rw [q] at a8;cases a8;obtain ⟨v,a7⟩:=p_;exact ⟨v,by rw [oU];exact a7⟩
  ·refine (ok b u q).hV (λ c v ao r=>k c v ?_ r) (λ c r=>by rw [a3 (Fu c b r)];exact r) λ c xs r=>by rw [a3 (QA c xs r)];exact r
   rcases ao with rfl | ao
   ·exact oU
   ·rintro rfl;rcases he with z | z
    ·exact Fu c b ao z
    ·rw [ao] at z;cases z;exact aa rfl
end
structure eH (ak ex:List Addr) (H H':aj) (h h':Heap):Prop where
 keep : ∀ b o,h.get? b=some o->H b=none->b∉ak->b∉ex->h'.get? b=some o
 slot : ∀ b o,h.get? b=some o->H b=none->b∈ak->b∉ex -> ∃ cq,h'.get? b=some { o with slots:=cq }
 free : ∀ b o,h.get? b=some o->H b=none->b∉ex->H' b=none
 there : ∀ b o,h.get? b=some o->b∉ex -> ∃ eb,h'.get? b=some eb
 i4 : ∀ b xs,H b=some (.tup xs)->H' b=some (.tup xs)
 ih : ∀ b o u,H b=some (.hL o u)->H' b=some (.hL o u)
 i3 : ∀ b ag,H b=some (.mS ag) -> ∃ more,H' b=some (.mS (ag++more))
section
variable {ak MI ex DV:List Addr} {H H1 aw:aj} {h af aq h':Heap} {a x e:Addr} {o:dz}
theorem eH.any (u:eH ak ex H H1 h af) {b:Addr} {bJ:Obj} (q:h.get? b=some bJ) (n:H b=none) (ah:b∉ex) : ∃ cq,af.get? b=some { bJ with slots:=cq }:=by
 by_cases aa:b∈ak
 ·exact u.slot b bJ q n aa ah
 ·exact ⟨bJ.slots,u.keep b bJ q n aa ah⟩
theorem eH.kept (k : ∀ b u,h.get? b=some u->h'.get? b=some u):eH ak ex H H h h' :=
 ⟨λ b bJ q _ _ _=>k b bJ q,λ b bJ q _ _ _=>⟨bJ.slots,k b bJ q⟩,λ _ _ _ n _=>n,λ b bJ q _=>⟨bJ,k b bJ q⟩,λ _ _ q=>q,λ _ _ _ q=>q,λ _ ag q=>⟨#[],by rw [q];simp⟩⟩
theorem eH.refl:eH ak ex H H h h:=eH.kept λ _ _ q=>q
theorem eH.laid (k : ∀ b u,h.get? b=some u->h'.get? b=some u) (ay:h.objs.size<=a) (aC:H a=none):eH ak ex H (upd H a o) h h' where
 keep:=λ b u q _ _ _=>k b u q
 slot:=λ b u q _ _ _=>⟨u.slots,k b u q⟩
 free:=λ b u q n _=>by rw [a3 (Nat.ne_of_lt (Nat.lt_of_lt_of_le (Heap.lt_size q) ay))];exact n
 there:=λ b u q _=>⟨u,k b u q⟩
 i4:=λ b xs q=>by rw [a3 (b2 q aC)];exact q
 ih:=λ b u xs q=>by rw [a3 (b2 q aC)];exact q
 i3:=λ b ag q=>⟨#[],by rw [a3 (b2 q aC),q];simp⟩
theorem eH.write (iN:rO (H x)) (he:e=x\/H e=some (.own x)) (k : ∀ b u,b≠e->h.get? b=some u->h'.get? b=some u) (p_ : ∃ u,h'.get? e=some u):eH ak ex H (upd H x o) h h':=by
 have ah : ∀ b,H b=none->b≠x:=λ b n z=>by subst z;rw [n] at iN;exact iN
 have aa : ∀ b,H b=none->b≠e:=λ b n z=>by
  subst z;rcases he with r | r
  ·exact ah b n r
  ·rw [n] at r;cases r
 have hm : ∀ b u,H b=some u -> ¬ rO (some u)->b≠x:=λ b u q nm z=>by subst z;rw [q] at iN;exact nm iN
 refine ⟨λ b u q n _ _=>k b u (aa b n) q,λ b u q n _ _=>⟨u.slots,k b u (aa b n) q⟩,λ b u q n _=>by rw [a3 (ah b n)];exact n,λ b u q _=>?_,
  λ b xs q=>by rw [a3 (hm b _ q λ z=>z)];exact q,λ b u xs q=>by rw [a3 (hm b _ q λ z=>z)];exact q,λ b ag q=>⟨#[],by rw [a3 (hm b _ q λ z=>z),q];simp⟩⟩
 by_cases oU:b=e
 ·subst oU;exact p_
 ·exact ⟨u,k b u oU q⟩
end
noncomputable def vg (h:Heap) (H:aj):List Addr:=(List.range h.objs.size).filter λ a=>(H a).isSome
noncomputable def mW (h:Heap) (H:aj):Heap:=PySem.W.hideAll h (vg h H)
theorem WM (h:Heap) (H:aj):(mW h H).objs.size=h.objs.size:=PySem.W.hideAll_size _ _
theorem U9 {h:Heap} {H:aj} {b:Addr} {o:Obj} (e:h.get? b=some o) (n:H b=none):(mW h H).get? b=some o :=
 PySem.W.hideAll_get _ e λ hm=>by
  have q:(H b).isSome=true:=(List.mem_filter.mp hm).2;rw [n] at q;simp at q
theorem Tq {h:Heap} {H:aj} {b:Addr} {o:Obj} (e:(mW h H).get? b=some o):h.get? b=some o/\H b=none:=by
 have b5:h.get? b=some o:=PySem.W.of_hideAll (vg h H) e;refine ⟨b5,?_⟩;cases q:H b with
 | none=>rfl
 | some x =>
  have hm:b∈vg h H:=List.mem_filter.mpr ⟨List.mem_range.mpr (Heap.lt_size b5),by simp [q]⟩;have z:(mW h H).get? b=none:=PySem.W.hideAll_none (vg h H) hm;rw [z] at e;cases e
structure Mod (K:PySem.W.Frag) (mg:Str->Option Value) (base:Heap):Prop where
 j0:K.In base
 glob:base.Ns mainGlobals mg
 blt : ∃ jO,base.Ns builtinsNs jO /\ ∀ x:Str,x ≠ "__name__" -> jO x=bootBuiltins x
 nolimit:base.NoLimit
structure aQ where
 prog:Program
 w:World
 K:PySem.W.Frag
 mg:Str->Option Value
 base:Heap
 A:Around
 N:List Str
 s₀:Shared
 H₀:aj
 env:Env
 outer:List Env
 stack:List Env
 ex:List Addr
 fn:Str->Bool
 calm:Bool
 warm:Bool
 iP:List (Addr×Obj)
 cB:Value->Shared->Prop
noncomputable def eV (l:List Env):List Addr:=l.filterMap (·.frame)
noncomputable abbrev aQ.ak (X:aQ):List Addr:=eV X.outer
noncomputable def uG (sc:Scope) (x:Str):Prop:=sc.names.lookup x=some .local\/sc.names.lookup x=some .cell\/sc.names.lookup x=some .free
noncomputable def Loc (sc:Scope) (x:Str):Prop:=sc.names.lookup x=some .local\/sc.names.lookup x=some .cell
noncomputable def Look (env:Env) (h:Heap) (m:Str->Option Value) (x:Str) (u:Value):Prop :=
 (env.kindOf x=some .local/\m x=some u)\/((env.kindOf x=some .cell\/env.kindOf x=some .free) /\ ∃ c,env.cells.lookup x=some c/\h.IsCell c (some u))
noncomputable def ql (A:Around) (h:Heap) (H:aj) (ak ex:List Addr):Prop :=
 A.handled=none \/ ∃ (e:Addr) (bT:Obj) (vs:Array Value),A.handled=some (.ref e)/\h.get? e=some bT/\H e=none/\e∉ak/\e∉ex/\bT.data=.fields vs/\vs[2]?=some .none
structure aQ.Ok (X:aQ):Prop where
 mod:Mod X.K X.mg X.base
 kind:X.env.scope.kind=.function
 glob:X.env.globals=mainGlobals
 blt:X.env.builtins=builtinsNs
 above:X.s₀.heap.objs.size<=X.env.locals
 inj : ∀ x y c,X.env.cells.lookup x=some c->X.env.cells.lookup y=some c->x=y
 has : ∀ x,(X.env.kindOf x=some .cell\/X.env.kindOf x=some .free) -> ∃ c,X.env.cells.lookup x=some c
 mq : ∀ x c,X.fn x=true->X.env.cells.lookup x=some c->X.s₀.heap.objs.size<=c
 hd:(X.calm=true->X.A.handled=none)/\(X.warm=true->ql X.A X.s₀.heap X.H₀ X.ak X.ex)
 frames:X.A.frames=some X.stack
 nP:X.stack=X.outer\/(X.stack=X.env::X.outer/\X.env.frame=some X.env.locals)
 p6 : ∀ b∈X.ex,b≠X.env.locals /\ ∀ x c,X.env.cells.lookup x=some c->c≠b
 bs : ∀ b o,X.base.get? b=some o->X.s₀.heap.get? b=some o/\X.H₀ b=none
 hK:X.base.objs.size<=X.s₀.heap.objs.size
 lJ : ∀ b o,X.base.get? b=some o->b∉X.ex
 nX : ∀ b∈X.ex,b∉X.ak
 hs:X.s₀.heap.FunFrames X.base X.outer
 jT : ∀ b∈X.ak,X.H₀ b=none
structure Inv (X:aQ) (pins:List (Addr×Obj)) (σ:List (Option V)) (H:aj) (s:Shared):Prop where
 ok:X.Ok
 os:s.os=X.s₀.os
 bare:AllBare s.gens
 base:eH X.ak X.ex X.H₀ H X.s₀.heap s.heap
 loc : ∃ m,s.heap.Ns X.env.locals m /\ ∀ (i:Nat) (x:Str) (v:V),X.N[i]?=some x->σ[i]?=some (some v)->uG X.env.scope x -> ∃ u,RelV v u/\Look X.env s.heap m x u
 cell : ∀ x c,X.env.cells.lookup x=some c -> ∃ v,s.heap.IsCell c v
 free:H X.env.locals=none
 gx : ∀ x c,X.env.cells.lookup x=some c->H c=none
 pin : ∀ p∈X.iP++pins,s.heap.get? p.1=some p.2/\H p.1=none/\p.1≠X.env.locals/\p.1∉X.ak /\ ∀ v,p.2.data≠.cell v
 a0:dM X.prog X.w H s.heap
 len:σ.length=X.N.length
section
variable {X:aQ} {pins:List (Addr×Obj)} {σ:List (Option V)} {H H':aj} {s:Shared} {h':Heap}
theorem aQ.Ok.Qv (ok:X.Ok) {b:Addr} {o:Obj} (e:X.base.get? b=some o):b∉X.ak:=λ aa=>by
 have:=(ok.hs.mem aa).1;rw [e] at this;cases this
theorem Inv.bs (I:Inv X pins σ H s) : ∀ b o,X.base.get? b=some o->s.heap.get? b=some o/\H b=none:=λ b o e =>
 ⟨I.base.keep b o (I.ok.bs b o e).1 (I.ok.bs b o e).2 (I.ok.Qv e) (I.ok.lJ b o e),I.base.free b o (I.ok.bs b o e).1 (I.ok.bs b o e).2 (I.ok.lJ b o e)⟩
theorem Inv.dY (I:Inv X pins σ H s) : ∀ b o,X.base.get? b=some o->s.heap.get? b=some o:=λ b o e=>(I.bs b o e).1
theorem Inv.mod (I:Inv X pins σ H s):Mod X.K X.mg X.base:=I.ok.mod
theorem Inv.PW (I:Inv X pins σ H s) (hw:X.warm=true):ql X.A s.heap H X.ak X.ex :=
 (I.ok.hd.2 hw).imp id λ ⟨e,bT,vs,af,aq,aF,aU,bW,r⟩=>⟨e,bT,vs,af,I.base.keep e bT aq aF aU bW,I.base.free e bT aq aF bW,aU,bW,r⟩
theorem Inv.kx (I:Inv X pins σ H s) (hw:X.warm=true):eO.In X.A s.heap :=
 (I.PW hw).imp id λ ⟨e,bT,vs,af,aq,_,_,_,r⟩=>⟨e,bT,vs,af,aq,r⟩
theorem Inv.dh (I:Inv X pins σ H s):X.K.In s.heap:=I.ok.mod.j0.keeps I.dY
theorem Inv.lt (I:Inv X pins σ H s):X.env.locals<s.heap.objs.size:=let ⟨_,aC,_⟩:=I.loc;aC.lt
theorem Inv.gb (I:Inv X pins σ H s):X.s₀.heap.objs.size<=s.heap.objs.size:=Nat.le_trans I.ok.above (Nat.le_of_lt I.lt)
theorem Inv.Qw (I:Inv X pins σ H s) {a:Addr} (h:s.heap.objs.size<=a):a∉X.ak:=λ aa=>by
 obtain ⟨_,o,aO,_⟩:=I.ok.hs.mem aa;exact absurd (Nat.lt_of_lt_of_le (Heap.lt_size aO) (Nat.le_trans I.gb h)) (Nat.lt_irrefl _)
theorem Inv.mr (I:Inv X pins σ H s) : ∀ x c,X.env.cells.lookup x=some c->c≠X.env.locals:=λ x c e z=>by
 obtain ⟨v,o,aO,hd⟩:=I.cell x c e;obtain ⟨m,⟨eb,es,ep,kA,gT,_⟩,_⟩:=I.loc;rw [z,kA] at aO;cases aO;rw [gT] at hd;cases hd
theorem Inv.hs (I:Inv X pins σ H s):s.heap.FunFrames X.base X.outer:=by
 have all : ∀ (l:List Env),(∀ b∈eV l,b∈X.ak)->X.s₀.heap.FunFrames X.base l->s.heap.FunFrames X.base l:=by
  intro l
  induction l with
  | nil=>intro _ _;trivial
  | cons env r cI =>
   intro aA au;obtain ⟨aB,⟨L,o,hf,aC,aO,hd⟩,ar⟩:=au;have dK:L∈X.ak:=aA L (by unfold eV;rw [List.filterMap_cons,hf];exact List.mem_cons_self);obtain ⟨cq,e⟩:=I.base.slot L o aO (I.ok.jT L dK) dK λ z=>I.ok.nX L z dK
   exact ⟨aB,⟨L,_,hf,aC,e,hd⟩,cI (λ b aa=>aA b (by unfold eV;rw [List.filterMap_cons,hf];exact List.mem_cons_of_mem _ aa)) ar⟩
 exact all X.outer (λ _ aa=>aa) I.ok.hs
theorem Inv.stack (I:Inv X pins σ H s):s.heap.FunFrames X.base X.stack:=by
 rcases I.ok.nP with e | ⟨e,hf⟩
 ·rw [e];exact I.hs
 ·rw [e];obtain ⟨m,aC,_⟩:=I.loc;refine .cons (by rw [I.ok.kind];decide) hf aC ?_ I.hs;exact Heap.get?_none_of_le (Nat.le_trans I.ok.hK I.ok.above)
theorem Inv.m5 (I:Inv X pins σ H s) : ∀ b∈eV X.stack,b∈X.env.locals::X.ak:=λ b aa=>by
 rcases I.ok.nP with e | ⟨e,hf⟩
 ·rw [e] at aa;exact List.mem_cons_of_mem _ aa
 ·rw [e] at aa;unfold eV at aa;rw [List.filterMap_cons,hf] at aa;exact aa
theorem Inv.yL {bh:List Addr} (I:Inv X pins σ H s) (hw:X.warm=true) (f : ∀ b∈bh,b∈X.ex\/X.s₀.heap.objs.size<=b):ql X.A s.heap H (eV X.stack) bh :=
 (I.ok.hd.2 hw).imp id λ ⟨e,bT,vs,af,aq,aF,aU,bW,r⟩=>⟨e,bT,vs,af,I.base.keep e bT aq aF aU bW,I.base.free e bT aq aF bW,
  λ z=>(List.mem_cons.mp (I.m5 e z)).elim (λ q=>absurd (Nat.lt_of_lt_of_le (Heap.lt_size aq) (by rw [q];exact I.ok.above)) (Nat.lt_irrefl _)) aU,
  λ z=>(f e z).elim bW λ q=>absurd (Nat.lt_of_lt_of_le (Heap.lt_size aq) q) (Nat.lt_irrefl _),r⟩
theorem Inv.qP (I:Inv X pins σ H s) : ∀ b∈eV X.stack,H b=none:=λ b aa=>by
 rcases List.mem_cons.mp (I.m5 b aa) with e | aa
 ·rw [e];exact I.free
 ·obtain ⟨_,o,aO,_⟩:=I.ok.hs.mem aa;exact I.base.free b o aO (I.ok.jT b aa) λ z=>I.ok.nX b z aa
theorem Inv.step {g':Array GenState} {t':Nat} {d':Drawn} {ch:List Addr} (I:Inv X pins σ H s)
  (jW : ∀ b∈ch,(b∈X.ex\/X.s₀.heap.objs.size<=b)/\b≠X.env.locals/\(∀ x c,X.env.cells.lookup x=some c->c≠b) /\ ∀ p∈X.iP++pins,p.1≠b)
  (keep : ∀ b o,b≠X.env.locals->b∉X.ak->b∉ch->s.heap.get? b=some o->H b=none->h'.get? b=some o)
  (slot : ∀ b o,b≠X.env.locals->b∈X.ak->b∉ch->s.heap.get? b=some o->H b=none -> ∃ cq,h'.get? b=some { o with slots:=cq }) (free : ∀ b o,b∉ch->s.heap.get? b=some o->H b=none->H' b=none)
  (there : ∀ b o,b∉ch->s.heap.get? b=some o -> ∃ eb,h'.get? b=some eb)
  (i4 : ∀ b xs,H b=some (.tup xs)->H' b=some (.tup xs)) (ih : ∀ b o u,H b=some (.hL o u)->H' b=some (.hL o u)) (i3 : ∀ b ag,H b=some (.mS ag) -> ∃ more,H' b=some (.mS (ag++more)))
  (ns : ∀ m,s.heap.Ns X.env.locals m->h'.Ns X.env.locals m) (a0:dM X.prog X.w H' h') (aM:AllBare g') :
  Inv X pins σ H' { s with heap:=h',gens:=g',drawn:=d',toks:=t' }:=by
 have Eu : ∀ b o,X.s₀.heap.get? b=some o->b≠X.env.locals:=λ b o e=>Nat.ne_of_lt (Nat.lt_of_lt_of_le (Heap.lt_size e) I.ok.above)
 have u7 : ∀ b o,X.s₀.heap.get? b=some o->b∉X.ex->b∉ch:=λ b o e ah aa=>by
  rcases (jW b aa).1 with z | z
  ·exact ah z
  ·exact absurd (Nat.lt_of_lt_of_le (Heap.lt_size e) z) (Nat.lt_irrefl _)
 have cellK : ∀ x c,X.env.cells.lookup x=some c -> ∀ v,s.heap.IsCell c v->h'.IsCell c v:=λ x c e v ⟨o,aO,hd⟩=>by
  have sC:c∉ch:=λ z=>(jW c z).2.2.1 x c e rfl
  by_cases ao:c∈X.ak
  ·obtain ⟨cq,q⟩:=slot c o (I.mr x c e) ao sC aO (I.gx x c e);exact ⟨_,q,hd⟩
  ·exact ⟨o,keep c o (I.mr x c e) ao sC aO (I.gx x c e),hd⟩
 refine ⟨I.ok,I.os,aM,⟨λ b o e n aa ah=>?_,λ b o e n aa ah=>?_,λ b o e n ah=>?_,λ b o e ah=>?_,λ b xs e=>i4 b xs (I.base.i4 b xs e),λ b o xs e=>ih b o xs (I.base.ih b o xs e),λ b ag e=>?_⟩,?_,λ x c e=>?_,?_,λ x c e=>?_,λ p ay=>?_,a0,I.len⟩
 ·exact keep b o (Eu b o e) aa (u7 b o e ah) (I.base.keep b o e n aa ah) (I.base.free b o e n ah)
 ·obtain ⟨cq,aE⟩:=I.base.slot b o e n aa ah;obtain ⟨nO,aI⟩:=slot b _ (Eu b o e) aa (u7 b o e ah) aE (I.base.free b o e n ah);exact ⟨nO,aI⟩
 ·obtain ⟨eb,aE⟩:=I.base.there b o e ah;exact free b eb (u7 b o e ah) aE (I.base.free b o e n ah)
 ·obtain ⟨eb,aE⟩:=I.base.there b o e ah;exact there b eb (u7 b o e ah) aE
 ·obtain ⟨gP,aE⟩:=I.base.i3 b ag e;obtain ⟨ji,aI⟩:=i3 b _ aE;exact ⟨gP++ji,by rw [aI,Array.append_assoc]⟩
 ·obtain ⟨m,aC,au⟩:=I.loc;refine ⟨m,ns m aC,λ i x v aE aI cx=>?_⟩;obtain ⟨u,r,l⟩:=au i x v aE aI cx;refine ⟨u,r,?_⟩;rcases l with l | ⟨k,c,e,z⟩
  ·exact .inl l
  ·exact .inr ⟨k,c,e,cellK x c e _ z⟩
 ·obtain ⟨v,z⟩:=I.cell x c e;exact ⟨v,cellK x c e v z⟩
 ·obtain ⟨m,⟨o,_,_,aO,_⟩,_⟩:=I.loc;exact free _ o (λ z=>(jW _ z).2.1 rfl) aO I.free
 ·obtain ⟨v,o,aO,hd⟩:=I.cell x c e;exact free c o (λ z=>(jW c z).2.2.1 x c e rfl) aO (I.gx x c e)
 ·obtain ⟨e,n,ne,fl,d⟩:=I.pin p ay;have sC:p.1∉ch:=λ z=>(jW p.1 z).2.2.2 p ay rfl
  exact ⟨keep p.1 p.2 ne fl sC e n,free p.1 p.2 sC e n,ne,fl,d⟩
theorem Inv.un {t':Nat} (I:Inv X pins σ H s) (u:eH X.ak [] H H' s.heap h') (a0:dM X.prog X.w H' h'):Inv X pins σ H' { s with heap:=h',toks:=t' }:=by
 obtain ⟨m,⟨o,es,ep,aO,r⟩,_⟩:=id I.loc;obtain ⟨cq,dK⟩:=u.any aO I.free (by simp);exact I.step (g':=s.gens) (d':=s.drawn) (ch:=[]) (λ _ z=>nomatch z) (λ b o _ aa _ e n=>u.keep b o e n aa (by simp)) (λ b o _ aa _ e n=>u.slot b o e n aa (by simp)) (λ b o _ e n=>u.free b o e n (by simp)) (λ b o _ e=>u.there b o e (by simp)) u.i4 u.ih u.i3 (λ cu hm=>by
  obtain ⟨eb,kr,yu,kA,bY⟩:=hm;rw [aO] at kA;cases kA;exact ⟨_,kr,yu,dK,bY⟩) a0 I.bare
theorem Inv.call {g':Array GenState} {t':Nat} {d':Drawn} {ch:List Addr} (I:Inv X pins σ H s) (u:eH (eV X.stack) ch H H' s.heap h') (a0:dM X.prog X.w H' h') (aM:AllBare g')
  (jW : ∀ b∈ch,(b∈X.ex\/X.s₀.heap.objs.size<=b)/\b≠X.env.locals/\(∀ x c,X.env.cells.lookup x=some c->c≠b) /\ ∀ p∈X.iP++pins,p.1≠b) :
  Inv X pins σ H' { s with heap:=h',gens:=g',drawn:=d',toks:=t' }:=by
 obtain ⟨m,⟨o,es,ep,aO,r⟩,_⟩:=id I.loc;obtain ⟨cq,dK⟩:=u.any aO I.free λ z=>(jW _ z).2.1 rfl
 exact I.step (ch:=ch) jW (λ b o dK aa ao e n=>u.keep b o e n (λ z=>(List.mem_cons.mp (I.m5 b z)).elim dK aa) ao) (λ b o _ _ ao e n=>u.any e n ao) (λ b o ao e n=>u.free b o e n ao) (λ b o ao e=>u.there b o e ao) u.i4 u.ih u.i3 (λ cu hm=>by
  obtain ⟨eb,kr,yu,kA,bY⟩:=hm;rw [aO] at kA;cases kA;exact ⟨_,kr,yu,dK,bY⟩) a0 aM
theorem Inv.turned {t':Nat} {it:Addr} (I:Inv X pins σ H s) (k : ∀ b o,b≠it->s.heap.get? b=some o->h'.get? b=some o) (aC:H it=none) (dK:it≠X.env.locals)
  (af:it∈X.ex\/X.s₀.heap.objs.size<=it) (aq : ∀ x c,X.env.cells.lookup x=some c->c≠it) (aF : ∀ p∈X.iP++pins,p.1≠it):Inv X pins σ H { s with heap:=h',toks:=t' }:=by
 have nJ : ∀ b u,H b=some u->b≠it:=λ b u e z=>by rw [z,aC] at e;cases e
 refine I.step (g':=s.gens) (d':=s.drawn) (ch:=[it]) (λ b aa=>?_) (λ b o _ _ ao e _=>k b o (λ z=>ao (by simp [z])) e) (λ b o _ _ ao e _=>⟨o.slots,k b o (λ z=>ao (by simp [z])) e⟩) (λ _ _ _ _ n=>n)
  (λ b o ao e=>⟨o,k b o (λ z=>ao (by simp [z])) e⟩) (λ _ _ e=>e) (λ _ _ _ e=>e) (λ b ag e=>⟨#[],by rw [e];simp⟩) (λ m hm=>?_) (λ b u e=>?_) I.bare
 ·have e:b=it:=by simpa using aa
  subst e;exact ⟨af,dK,aq,aF⟩
 ·obtain ⟨o,es,ep,aO,r⟩:=hm;exact ⟨o,es,ep,k _ o (Ne.symm dK) aO,r⟩
 ·refine (I.a0 b u e).hV (λ c v ao q=>k c v ?_ q) (λ _ q=>q) λ _ _ q=>q
  rcases ao with z | z
  ·rw [z];exact nJ b u e
  ·exact nJ c _ z
theorem Inv.tok (I:Inv X pins σ H s) (t:Nat):Inv X pins σ H { s with toks:=t }:=I.un (h':=s.heap) (t':=t) eH.refl I.a0
theorem Inv.kept {t':Nat} (I:Inv X pins σ H s) (k : ∀ b u,s.heap.get? b=some u->h'.get? b=some u):Inv X pins σ H { s with heap:=h',toks:=t' }:=I.un (eH.kept k) (I.a0.kept k)
theorem Inv.laid {a:Addr} {o:dz} {t':Nat} (I:Inv X pins σ H s) (k : ∀ b u,s.heap.get? b=some u->h'.get? b=some u) (ay:s.heap.objs.size<=a) (new:dv X.prog X.w (upd H a o) h' a o) :
  Inv X pins σ (upd H a o) { s with heap:=h',toks:=t' }:=I.un (eH.laid k ay (I.a0.fresh ay)) (I.a0.laid k ay new)
theorem Inv.write {x e:Addr} {o:dz} {t':Nat} (I:Inv X pins σ H s) (iN:rO (H x)) (he:e=x\/H e=some (.own x)) (k : ∀ b u,b≠e->s.heap.get? b=some u->h'.get? b=some u) (p_ : ∃ u,h'.get? e=some u)
  (new:dv X.prog X.w (upd H x o) h' x o):Inv X pins σ (upd H x o) { s with heap:=h',toks:=t' }:=I.un (eH.write iN he k p_) (I.a0.write iN he k p_ new)
theorem Inv.Hj {qF:List (Addr×Obj)} (I:Inv X pins σ H s) (h : ∀ p∈qF,s.heap.get? p.1=some p.2/\H p.1=none/\p.1≠X.env.locals/\p.1∉X.ak /\ ∀ v,p.2.data≠.cell v):Inv X qF σ H s :=
 ⟨I.ok,I.os,I.bare,I.base,I.loc,I.cell,I.free,I.gx,λ p ay=>(List.mem_append.mp ay).elim (λ z=>I.pin p (List.mem_append_left _ z)) (h p),I.a0,I.len⟩
theorem A9 {N:List Str} (c8:N.Nodup) {i j:Nat} {x:Str} (a:N[i]?=some x) (b:N[j]?=some x):i=j:=by
 obtain ⟨af,aE⟩:=List.getElem?_eq_some_iff.mp a;obtain ⟨aq,aI⟩:=List.getElem?_eq_some_iff.mp b;exact (List.getElem_inj c8).mp (aE.trans aI.symm)
theorem I_ {M:Model} {A:Around} {E:Value->Shared->Prop} {i:Nat} {x:Str} {v:V} {u:Value} {Q:Unit->Shared->Prop} (I:Inv X pins σ H s) (c8:X.N.Nodup) (ax:X.N[i]?=some x) (ah:Loc X.env.scope x) (r:RelV v u)
  (h : ∀ s',Inv X pins (σ.set i (some v)) H s'->(∃ a,Heap.SameBut a s.heap s'.heap/\(a=X.env.locals\/X.env.cells.lookup x=some a))->Q () s') (hf:X.fn x=true\/X.env.scope.names.lookup x=some .local:=by first | exact .inl rfl | exact .inr rfl | assumption):wpAny M A (storeName X.env x u) Q E s:=by
 obtain ⟨m,aC,au⟩:=id I.loc;have zD:(X.env.scope.kind == .class||(X.env.scope.kind == .module&&X.env.locals != X.env.globals))=false:=by rw [I.ok.kind];rfl
 have hiσ:i < σ.length:=by rw [I.len];exact (List.getElem?_eq_some_iff.mp ax).1
 have mr:=I.mr;have tracked : ∀ {a:Addr} {h':Heap},(∃ o,s.heap.get? a=some o/\H a=none)->Heap.SameBut a s.heap h'->dM X.prog X.w H h':=λ {a h'} av aA b bJ e=>by
  obtain ⟨_,_,FR⟩:=av;refine (I.a0 b bJ e).hV (λ c cP ao q=>(aA.2 c ?_).trans q) (λ _ q=>q) λ _ _ q=>q
  rintro rfl;rcases ao with rfl | ao
  ·rw [FR] at e;cases e
  ·rw [FR] at ao;cases ao
 rcases ah with aB | aB
 ·refine wpAny_storeName_local aB aC (λ h' oZ aA=>?_) zD;obtain ⟨Dx,_,_,sk,_⟩:=id aC;refine h _ ⟨I.ok,I.os,I.bare,⟨λ b o e n aa ah=>?_,λ b o e n aa ah=>?_,I.base.free,λ b o e ah=>?_,I.base.i4,I.base.ih,I.base.i3⟩,⟨_,oZ,λ j y hF aE aI cx=>?_⟩,λ y c e=>?_,I.free,I.gx,λ p ay=>?_,tracked ⟨Dx,sk,I.free⟩ aA,by simpa using I.len⟩ ⟨_,aA,.inl rfl⟩
  ·exact (aA.2 b (Nat.ne_of_lt (Nat.lt_of_lt_of_le (Heap.lt_size e) I.ok.above))).trans (I.base.keep b o e n aa ah)
  ·obtain ⟨cq,aE⟩:=I.base.slot b o e n aa ah;exact ⟨cq,(aA.2 b (Nat.ne_of_lt (Nat.lt_of_lt_of_le (Heap.lt_size e) I.ok.above))).trans aE⟩
  ·obtain ⟨eb,aE⟩:=I.base.there b o e ah;exact ⟨eb,(aA.2 b (Nat.ne_of_lt (Nat.lt_of_lt_of_le (Heap.lt_size e) I.ok.above))).trans aE⟩
  ·by_cases bj:j=i
   ·subst bj;rw [ax] at aE;cases aE;rw [List.getElem?_set_self hiσ] at aI;cases aI;exact ⟨u,r,.inl ⟨aB,by simp⟩⟩
   ·rw [List.getElem?_set_ne (Ne.symm bj)] at aI;obtain ⟨mh,bY,q⟩:=au j y hF aE aI cx;refine ⟨mh,bY,?_⟩;rcases q with ⟨k,e⟩ | ⟨k,c,e,z⟩
    ·refine .inl ⟨k,?_⟩;have:y≠x:=λ e=>bj (A9 c8 aE (e ▸ ax))
     simp [this,e]
    ·exact .inr ⟨k,c,e,z.sameBut aA (mr y c e)⟩
  ·obtain ⟨cP,z⟩:=I.cell y c e;exact ⟨cP,z.sameBut aA (mr y c e)⟩
  ·obtain ⟨e,n,ne,fl,d⟩:=I.pin p ay;exact ⟨(aA.2 p.1 ne).trans e,n,ne,fl,d⟩
 ·have yT:X.fn x=true:=by
   rcases hf with z | z
   ·exact z
   ·rw [z] at aB;cases aB
  obtain ⟨c,ao⟩:=I.ok.has x (.inl aB);obtain ⟨cP,z⟩:=I.cell x c ao;refine wpAny_storeName_cell I.ok.kind aB ao z (λ h' mE aA=>?_);obtain ⟨eu,lz,P9⟩:=id z;refine h { s with heap:=h' } ⟨I.ok,I.os,I.bare,⟨λ b o e n aa ah=>?_,λ b o e n aa ah=>?_,I.base.free,λ b o e ah=>?_,I.base.i4,I.base.ih,I.base.i3⟩,⟨m,aC.sameBut aA (Ne.symm (mr x c ao)),λ j y hF aE aI cx=>?_⟩,λ y cj e=>?_,I.free,I.gx,λ p ay=>?_,tracked ⟨eu,lz,I.gx x c ao⟩ aA,by simpa using I.len⟩ ⟨c,aA,.inr ao⟩
  ·exact (aA.2 b (Nat.ne_of_lt (Nat.lt_of_lt_of_le (Heap.lt_size e) (I.ok.mq x c yT ao)))).trans (I.base.keep b o e n aa ah)
  ·obtain ⟨cq,aE⟩:=I.base.slot b o e n aa ah;exact ⟨cq,(aA.2 b (Nat.ne_of_lt (Nat.lt_of_lt_of_le (Heap.lt_size e) (I.ok.mq x c yT ao)))).trans aE⟩
  ·obtain ⟨eb,aE⟩:=I.base.there b o e ah;exact ⟨eb,(aA.2 b (Nat.ne_of_lt (Nat.lt_of_lt_of_le (Heap.lt_size e) (I.ok.mq x c yT ao)))).trans aE⟩
  ·by_cases bj:j=i
   ·subst bj;rw [ax] at aE;cases aE;rw [List.getElem?_set_self hiσ] at aI;cases aI;exact ⟨u,r,.inr ⟨.inl aB,c,ao,mE⟩⟩
   ·rw [List.getElem?_set_ne (Ne.symm bj)] at aI;obtain ⟨mh,bY,q⟩:=au j y hF aE aI cx;refine ⟨mh,bY,?_⟩;rcases q with q | ⟨k,cj,e,c9⟩
    ·exact .inl q
    ·refine .inr ⟨k,cj,e,c9.sameBut aA ?_⟩;rintro rfl;exact bj (A9 c8 aE (I.ok.inj _ _ _ e ao ▸ ax))
  ·by_cases nD:cj=c
   ·subst nD;exact ⟨_,mE⟩
   ·obtain ⟨fH,di⟩:=I.cell y cj e;exact ⟨fH,di.sameBut aA nD⟩
  ·obtain ⟨e,n,ne,fl,d⟩:=I.pin p ay;refine ⟨(aA.2 p.1 ?_).trans e,n,ne,fl,d⟩;intro q;rw [q,lz] at e;have a8:eu=p.2:=Option.some.inj e;exact d cP (by rw [<-a8];exact P9)
theorem wC {M:Model} {A:Around} {E:Value->Shared->Prop} {i:Nat} {x:Str} {v:V} {u:Value} {Q:Unit->Shared->Prop} (I:Inv X pins σ H s) (c8:X.N.Nodup) (ax:X.N[i]?=some x) (ah:Loc X.env.scope x) (r:RelV v u)
  (h : ∀ s',Inv X pins (σ.set i (some v)) H s'->Q () s') (hf:X.fn x=true\/X.env.scope.names.lookup x=some .local:=by first | exact .inl rfl | exact .inr rfl | assumption):wpAny M A (storeName X.env x u) Q E s :=
 I_ I c8 ax ah r (λ s' iD _=>h s' iD) hf
theorem Inv.zV {s':Shared} {ch:List Addr} (I:Inv X pins σ H s) (aO:s'.os=s.os) (u:eH (eV X.stack) ch H H' s.heap s'.heap) (a0:dM X.prog X.w H' s'.heap) (aM:AllBare s'.gens)
  (jW : ∀ b∈ch,(b∈X.ex\/X.s₀.heap.objs.size<=b)/\b≠X.env.locals/\(∀ x c,X.env.cells.lookup x=some c->c≠b) /\ ∀ p∈X.iP++pins,p.1≠b):Inv X pins σ H' s':=by
 obtain ⟨h',g',d',t',eb⟩:=s';have e:eb=s.os:=aO;subst e;exact I.call (g':=g') (t':=t') (d':=d') u a0 aM jW
end
noncomputable abbrev dF:=Value->Option Addr->aj->Prop
noncomputable abbrev St:=List (Option V)
noncomputable abbrev bz:=V->aj->Prop
noncomputable abbrev TE:=St->aj->bz->Prop
noncomputable abbrev TT:=St->aj->(Bool->aj->Prop)->Prop
noncomputable abbrev cH:=St->aj->(List V->aj->Prop)->Prop
structure Ends where
 bl:St->aj->Prop
 me:bz
 dY:St->aj->Prop:=λ _ _=>False
 b1:St->aj->Prop:=λ _ _=>False
noncomputable abbrev cX:=Ends->St->aj->Prop
noncomputable def fB (X:aQ) (pins:List (Addr×Obj)) (σ:St) (Q:bz) (u:Value) (s':Shared):Prop := ∃ v H',Inv X pins σ H' s'/\RelV v u/\Q v H'
noncomputable def xo (X:aQ) (pins:List (Addr×Obj)) (σ:St) (Q:Bool->aj->Prop) (b:Bool) (s':Shared):Prop := ∃ H',Inv X pins σ H' s'/\Q b H'
noncomputable def Le (X:aQ) (pins:List (Addr×Obj)) (σ:St) (Q:List V->aj->Prop) (us:List Value) (s':Shared):Prop := ∃ vs H',Inv X pins σ H' s'/\Vals vs us/\Q vs H'
noncomputable def iI (X:aQ) (pins:List (Addr×Obj)) (D:Ends) (f:Flow) (s':Shared):Prop :=
 match f with
 | .next => ∃ σ' H',Inv X pins σ' H' s'/\D.bl σ' H'
 | .brk => ∃ σ' H',Inv X pins σ' H' s'/\D.dY σ' H'
 | .cont => ∃ σ' H',Inv X pins σ' H' s'/\D.b1 σ' H'
 | .ret u => ∃ v σ' H',Inv X pins σ' H' s'/\RelV v u/\D.me v H'
noncomputable def bK (X:aQ) (e:Expr) (t:TE):Prop :=
 ∀ (pins:List (Addr×Obj)) (s:Shared) (σ:St) (H:aj) (Q:bz),Inv X pins σ H s->t σ H Q->wpAny (model X.prog X.w) X.A (eval e X.env) (fB X pins σ Q) X.cB s
noncomputable def iG (X:aQ) (e:Expr) (t:TT):Prop :=
 ∀ (pins:List (Addr×Obj)) (s:Shared) (σ:St) (H:aj) (Q:Bool->aj->Prop),Inv X pins σ H s->t σ H Q->wpAny (model X.prog X.w) X.A (isTrue e X.env (eval e X.env)) (xo X pins σ Q) X.cB s
noncomputable def kZ (X:aQ) (e:Expr) (t:TT):Prop :=
 ∀ (whole:Sem Value) (pins:List (Addr×Obj)) (s:Shared) (σ:St) (H:aj) (Q:Bool->aj->Prop),Inv X pins σ H s->t σ H Q->wpAny (model X.prog X.w) X.A (isTrue e X.env whole) (xo X pins σ Q) X.cB s
theorem kZ.pt {X:aQ} {e:Expr} {t:TT} (h:kZ X e t):iG X e t:=h _
noncomputable def gB (X:aQ) (es:List Expr) (t:cH):Prop :=
 ∀ (pos:Pos) (pins:List (Addr×Obj)) (s:Shared) (σ:St) (H:aj) (Q:List V->aj->Prop),Inv X pins σ H s->t σ H Q->wpAny (model X.prog X.w) X.A (spliced (backTo pos (starEach es X.env))) (Le X pins σ Q) X.cB s
noncomputable def iF (X:aQ) (st:Stmt) (t:cX):Prop :=
 ∀ (pins:List (Addr×Obj)) (s:Shared) (σ:St) (H:aj) (D:Ends),Inv X pins σ H s->t D σ H->wpAny (model X.prog X.w) X.A (exec st X.env) (iI X pins D) X.cB s
noncomputable def iR (X:aQ) (st:List Stmt) (t:cX):Prop :=
 ∀ (pins:List (Addr×Obj)) (s:Shared) (σ:St) (H:aj) (D:Ends),Inv X pins σ H s->t D σ H->wpAny (model X.prog X.w) X.A (execs st X.env) (iI X pins D) X.cB s
theorem a_ {α : Type} {t:Sem α} {Q t7 : α -> Shared->Prop} {M:Model} {A:Around} {E:Value->Shared->Prop} {s:Shared} (h:wpAny M A t Q E s) (eQ : ∀ a s,Q a s->t7 a s):wpAny M A t t7 E s:=wpAny_mono h eQ λ _ _ x=>x
section
variable {X:aQ}
noncomputable def zS (i:Nat):TE:=λ σ H Q => ∃ v,σ[i]?=some (some v)/\Q v H
noncomputable def gR (v:V):TE:=λ _ H Q=>Q v H
theorem R7 {i:Nat} {x:Str} {pos:Pos} (c8:X.N[i]?=some x) (a7:uG X.env.scope x) (hd:(x == ("__debug__" : Str))=false:=by decide) (hn:(x == ("__classdict__" : Str))=false:=by decide):bK X (.Name x pos) (zS i):=by
 intro pins s σ H Q I h;obtain ⟨v,e,h⟩:=h;obtain ⟨m,aC,au⟩:=I.loc;obtain ⟨u,r,l⟩:=au i x v c8 e a7;have fin:fB X pins σ Q u s:=⟨v,H,I,r,h⟩
 rcases l with ⟨aB,hm⟩ | ⟨aB,c,ao,FN⟩
 ·exact wpAny_Name (wpAny_loadName_local I.ok.kind aB aC hm fin) hd
 ·rcases aB with aB | aB
  ·exact wpAny_Name (wpAny_loadName_cell I.ok.kind aB ao FN fin) hd
  ·exact wpAny_Name (wpAny_loadName_free I.ok.kind aB ao FN fin hn) hd
theorem R1 {i j pos}:bK X (.Constant (.int i) j pos) (gR (.int i)):=λ _ _ _ H _ I h=>wpAny_Constant_int ⟨.int i,H,I.tok _,⟨_,rfl⟩,h⟩
theorem Q8 {b j pos}:bK X (.Constant (.bool b) j pos) (gR (.ba b)):=λ _ _ _ H _ I h=>Constant_bool ⟨.ba b,H,I,rfl,h⟩
theorem GB {j pos}:bK X (.Constant .none j pos) (gR .bp):=λ _ _ _ H _ I h=>Constant_none ⟨.bp,H,I,rfl,h⟩
theorem R5 {x j pos}:bK X (.Constant (.str x) j pos) (gR (.str x)):=λ _ _ _ H _ I h=>Calls.Constant_str ⟨.str x,H,I.tok _,⟨_,rfl⟩,h⟩
noncomputable def c1 (X:aQ) (x:Str):Prop:=X.env.kindOf x=some .globalImplicit
theorem lX {E:Value->Shared->Prop} {pins:List (Addr×Obj)} {s:Shared} {σ:St} {H:aj} {x:Str} {u:Value} {pos:Pos} {Q:Value->Shared->Prop} (I:Inv X pins σ H s) (aM:c1 X x) (hm:X.mg x=some u) (h:Q u s)
  (hd:(x == ("__debug__" : Str))=false:=by decide):wpAny (model X.prog X.w) X.A (eval (.Name x pos) X.env) Q E s :=
 Calls.Name_function_global I.ok.kind aM (Calls.loadGlobal_global (by rw [I.ok.glob];exact I.mod.glob.keeps I.dY) hm h) hd
theorem lS {E:Value->Shared->Prop} {pins:List (Addr×Obj)} {s:Shared} {σ:St} {H:aj} {x:Str} {u:Value} {pos:Pos} {Q:Value->Shared->Prop} (I:Inv X pins σ H s) (aM:c1 X x) (hm:X.mg x=none) (a7:bootBuiltins x=some u) (h:Q u s)
  (aC:x ≠ "__name__" := by decide) (hd:(x == ("__debug__" : Str))=false:=by decide):wpAny (model X.prog X.w) X.A (eval (.Name x pos) X.env) Q E s:=by
 obtain ⟨jO,af,aq⟩:=I.mod.blt;exact Calls.Name_function_global I.ok.kind aM (Calls.loadGlobal_builtin (by rw [I.ok.glob];exact I.mod.glob.keeps I.dY) hm (by rw [I.ok.blt];exact af.keeps I.dY) ((aq x aC).trans a7) h) hd
theorem AH {x:Str} {v:V} {u:Value} {pos:Pos} (aM:c1 X x) (hm:X.mg x=some u) (r:RelV v u) (hd:(x == ("__debug__" : Str))=false:=by decide):bK X (.Name x pos) (gR v) :=
 λ _ _ _ H _ I h=>lX I aM hm ⟨v,H,I,r,h⟩ hd
theorem Tw {x:Str} {v:V} {u:Value} {pos:Pos} (aM:c1 X x) (hm:X.mg x=none) (a7:bootBuiltins x=some u) (r:RelV v u) (aC:x ≠ "__name__" := by decide) (hd:(x == ("__debug__" : Str))=false:=by decide):bK X (.Name x pos) (gR v) :=
 λ _ _ _ H _ I h=>lS I aM hm a7 ⟨v,H,I,r,h⟩ aC hd
variable {a b:Expr} {aS bo:TE} {pos:Pos}
noncomputable def oC (t:TE):TT:=λ σ H Q=>t σ H λ x H1 => ∃ c,x=.ba c/\Q c H1
theorem Sk {e:Expr} {t:TE} (h:bK X e t) (he : ∀ whole,isTrue e X.env whole=(do let v ← whole;standAt e.pos;holding [v] (truthy v)):=by intro _;rfl):iG X e (oC t):=by
 intro pins s σ H Q I hw;refine isTrue_plain (a_ (h pins s σ H _ I hw) λ v s1 ⟨x,H1,aJ,bG,a6⟩=>?_) (he _);obtain ⟨d,rfl,q⟩:=a6;cases bG;exact wpAny_truthy_bool ⟨H1,aJ,q⟩
variable {fo ju:TT} {rest:List Expr}
noncomputable def FA (t u:TT):TT:=λ σ H Q=>t σ H λ c H1=>if c=true then u σ H1 Q else Q false H1
noncomputable def EM (t u:TT):TT:=λ σ H Q=>t σ H λ c H1=>if c=true then Q true H1 else u σ H1 Q
noncomputable def FG (t:TT):TT:=λ σ H Q=>t σ H λ c H1=>Q (!c) H1
theorem T3 (av:iG X a fo):kZ X (.BoolOp .And [a] pos) fo:=by
 intro rC pins s σ H Q I h;refine isTrue_and (a_ (av pins s σ H Q I h) λ c s1 e=>?_);cases c with
 | true=>exact isTrue_and_nil e
 | false=>exact e
theorem So (av:iG X a fo):kZ X (.BoolOp .Or [a] pos) fo:=by
 intro rC pins s σ H Q I h;refine isTrue_or (a_ (av pins s σ H Q I h) λ c s1 e=>?_);cases c with
 | false=>exact isTrue_or_nil e
 | true=>exact e
theorem Sn (av:iG X a fo) (aa:kZ X (.BoolOp .And (b::rest) pos) ju):kZ X (.BoolOp .And (a::b::rest) pos) (FA fo ju):=by
 intro rC pins s σ H Q I h;refine isTrue_and (a_ (av pins s σ H _ I h) λ c s1 ⟨H1,aJ,a6⟩=>?_);cases c with
 | true=>exact aa rC pins s1 σ H1 Q aJ a6
 | false=>exact ⟨H1,aJ,a6⟩
theorem Rf (av:iG X a fo) (aa:kZ X (.BoolOp .Or (b::rest) pos) ju):kZ X (.BoolOp .Or (a::b::rest) pos) (EM fo ju):=by
 intro rC pins s σ H Q I h;refine isTrue_or (a_ (av pins s σ H _ I h) λ c s1 ⟨H1,aJ,a6⟩=>?_);cases c with
 | true=>exact ⟨H1,aJ,a6⟩
 | false=>exact aa rC pins s1 σ H1 Q aJ a6
theorem Sj (av:iG X a fo):iG X (.UnaryOp .Not a pos) (FG fo):=by
 intro pins s σ H Q I h;exact isTrue_not (av pins s σ H (λ c H1=>Q (!c) H1) I h)
noncomputable def F7 (aS bo:TE):TE:=λ σ H Q=>aS σ H λ x H1 => ∃ c,x=.ba c/\if c=true then bo σ H1 Q else Q (.ba false) H1
noncomputable def FH (aS bo:TE):TE:=λ σ H Q=>aS σ H λ x H1 => ∃ c,x=.ba c/\if c=true then Q (.ba true) H1 else bo σ H1 Q
noncomputable def Gd (aS:TE):TE:=λ σ H Q=>aS σ H λ x H1 => ∃ c,x=.ba c/\Q (.ba (!c)) H1
theorem R4 {op} {t:TE} (h:bK X a t):bK X (.BoolOp op [a] pos) t:=λ pins s σ H Q I hw=>BoolOp_one (h pins s σ H Q I hw)
theorem RZ (av:bK X a aS) (aa:bK X (.BoolOp .And (b::rest) pos) bo):bK X (.BoolOp .And (a::b::rest) pos) (F7 aS bo):=by
 intro pins s σ H Q I h;refine BoolOp_and (a_ (av pins s σ H _ I h) λ v s1 ⟨x,H1,aJ,bG,a6⟩=>?_);obtain ⟨c,rfl,a6⟩:=a6;cases bG;refine wpAny_truthy_bool ?_;cases c with
 | true=>exact aa pins s1 σ H1 Q aJ a6
 | false=>exact ⟨.ba false,H1,aJ,rfl,a6⟩
theorem Ra (av:bK X a aS) (aa:bK X (.BoolOp .Or (b::rest) pos) bo):bK X (.BoolOp .Or (a::b::rest) pos) (FH aS bo):=by
 intro pins s σ H Q I h;refine BoolOp_or (a_ (av pins s σ H _ I h) λ v s1 ⟨x,H1,aJ,bG,a6⟩=>?_);obtain ⟨c,rfl,a6⟩:=a6;cases bG;refine wpAny_truthy_bool ?_;cases c with
 | false=>exact aa pins s1 σ H1 Q aJ a6
 | true=>exact ⟨.ba true,H1,aJ,rfl,a6⟩
theorem R3 (av:bK X a aS):bK X (.UnaryOp .Not a pos) (Gd aS):=by
 intro pins s σ H Q I h;refine UnaryOp_ (a_ (av pins s σ H _ I h) λ v s1 ⟨x,H1,aJ,bG,a6⟩=>?_);obtain ⟨c,rfl,a6⟩:=a6;cases bG;exact not_of (wpAny_truthy_bool ⟨.ba (!c),H1,aJ,rfl,a6⟩)
noncomputable def EL (t:TT) (aS bo:TE):TE:=λ σ H Q=>t σ H λ c H1=>if c=true then aS σ H1 Q else bo σ H1 Q
theorem VB {c:Expr} (ao:iG X c fo) (av:bK X a aS) (aa:bK X b bo):bK X (.IfExp c a b pos) (EL fo aS bo):=by
 intro pins s σ H Q I h;refine wpAny_IfExp (a_ (ao pins s σ H _ I h) λ d s1 ⟨H1,aJ,a6⟩=>?_);cases d with
 | true=>exact av pins s1 σ H1 Q aJ a6
 | false=>exact aa pins s1 σ H1 Q aJ a6
end
noncomputable def a4 (K:PySem.W.Frag) (H:aj) (a:Addr) (xs:List V):Prop :=
 k4 H a (.lst xs) \/
  ∃ (o:Obj) (its:Array Value) (n:Nat),K.lookup a=some o/\o.cls=.type "list" /\ o.dict=none/\o.data=.seq its n/\its.size<=sizeLine/\Vals xs its.toList
noncomputable def aW (K:PySem.W.Frag) (H:aj) (a:Addr) (xs:List V):Prop :=
 k4 H a (.tup xs) \/
  ∃ (o:Obj) (its:Array Value) (n:Nat),K.lookup a=some o/\o.cls=.type "tuple" /\ o.data=.seq its n/\its.size<=sizeLine/\Vals xs its.toList
noncomputable def PH:Value->Option V
 | .none=>some .bp
 | .bool b=>some (.ba b)
 | .int i _=>some (.int i)
 | .str x _=>some (.str x)
 | .bytes b _=>some (.iT b)
 | .float b _=>some (.mx b)
 | .ref a=>some (.ref a)
 | .type n=>some (.ty n)
 | _=>none
theorem RelV.abs {x:V} {u:Value} (r:RelV x u):PH u=some x:=by
 cases x with
 | bp=>cases r;rfl
 | ba _=>cases r;rfl
 | int _=>obtain ⟨t,rfl⟩:=r;rfl
 | str _=>obtain ⟨t,rfl⟩:=r;rfl
 | iT _=>obtain ⟨t,rfl⟩:=r;rfl
 | mx _=>obtain ⟨t,rfl⟩:=r;rfl
 | ref _=>cases r;rfl
 | ty _=>cases r;rfl
theorem RelV.inj {x y:V} {u:Value} (r:RelV x u) (q:RelV y u):x=y:=Option.some.inj (r.abs.symm.trans q.abs)
theorem Vals.inj : ∀ {xs ys:List V} {us:List Value},Vals xs us->Vals ys us->xs=ys
 | _,_,_,.nil,.nil=>rfl
 | _,_,_,.cons r t,.cons bY t'=>by rw [r.inj bY,Vals.inj t t']
section
variable {X:aQ} {pins:List (Addr×Obj)} {σ:St} {H:aj} {s:Shared} {a:Addr} {xs ys:List V}
theorem a4.of {K:PySem.W.Frag} (h:H a=some (.lst xs)):a4 K H a xs:=.inl (.inl h)
theorem aW.of {K:PySem.W.Frag} (h:H a=some (.tup xs)):aW K H a xs:=.inl (.inl h)
theorem Inv.list (I:Inv X pins σ H s) (h:a4 X.K H a xs) : ∃ its:List Value,Vals xs its/\PlainL s.heap a its.toArray/\xs.length<=sizeLine:=by
 rcases h with h | ⟨o,its,n,aB,ao,hd,aA,aN,r⟩
 ·obtain ⟨z,its,n,r,e⟩:=h.ok I.a0;exact ⟨its,r,⟨_,n,e,rfl,rfl,rfl⟩,z⟩
 ·refine ⟨its.toList,r,⟨o,n,I.dh a o aB,ao,hd,by simpa using aA⟩,?_⟩;have e:=r.length;simp only [Array.length_toList] at e;omega
theorem Inv.tuple (I:Inv X pins σ H s) (h:aW X.K H a xs) : ∃ its:List Value,Vals xs its/\IsTup s.heap a its.toArray/\xs.length<=sizeLine:=by
 rcases h with h | ⟨o,its,n,aB,ao,aA,aN,r⟩
 ·obtain ⟨z,its,r,p⟩:=h.ok I.a0;exact ⟨its,r,p.up,z⟩
 ·refine ⟨its.toList,r,⟨o,I.dh a o aB,ao,n,by simpa using aA⟩,?_⟩;have e:=r.length;simp only [Array.length_toList] at e;omega
theorem Inv.H3 (I:Inv X pins σ H s) (h:a4 X.K H a xs) (h':a4 X.K H a ys):xs=ys:=by
 obtain ⟨its,r,⟨o,n,e,_,_,d⟩,_⟩:=I.list h;obtain ⟨its',bY,⟨eb,bS,b5,_,_,d'⟩,_⟩:=I.list h';rw [e] at b5;cases b5;rw [d] at d';injection d' with oq _;have:its=its':=by simpa using congrArg Array.toList oq
 subst this;exact r.inj bY
theorem Inv.tE (I:Inv X pins σ H s) (h:aW X.K H a xs) (h':aW X.K H a ys):xs=ys:=by
 obtain ⟨its,r,⟨o,e,_,n,d⟩,_⟩:=I.tuple h;obtain ⟨its',bY,⟨eb,b5,_,bS,d'⟩,_⟩:=I.tuple h';rw [e] at b5;cases b5;rw [d] at d';injection d' with oq _;have:its=its':=by simpa using congrArg Array.toList oq
 subst this;exact r.inj bY
end
noncomputable abbrev aQ.lK (X:aQ) (E:Value->Shared->Prop):aQ:={ X with cB:=E }
noncomputable abbrev aQ.sH (X:aQ):aQ:=X.lK λ _ _=>False
theorem aQ.Ok.lK {X:aQ} (ok:X.Ok) (E:Value->Shared->Prop):(X.lK E).Ok :=
 ⟨ok.mod,ok.kind,ok.glob,ok.blt,ok.above,ok.inj,ok.has,ok.mq,ok.hd,ok.frames,ok.nP,ok.p6,ok.bs,ok.hK,ok.lJ,ok.nX,ok.hs,ok.jT⟩
theorem aQ.Ok.n9 {X:aQ} {E:Value->Shared->Prop} (ok:(X.lK E).Ok):X.Ok :=
 ⟨ok.mod,ok.kind,ok.glob,ok.blt,ok.above,ok.inj,ok.has,ok.mq,ok.hd,ok.frames,ok.nP,ok.p6,ok.bs,ok.hK,ok.lJ,ok.nX,ok.hs,ok.jT⟩
section
variable {X:aQ} {pins:List (Addr×Obj)} {σ:St} {H:aj} {s:Shared} {E:Value->Shared->Prop}
theorem Inv.lK (I:Inv X pins σ H s) (E:Value->Shared->Prop):Inv (X.lK E) pins σ H s:=⟨I.ok.lK E,I.os,I.bare,I.base,I.loc,I.cell,I.free,I.gx,I.pin,I.a0,I.len⟩
theorem Inv.n9 (I:Inv (X.lK E) pins σ H s):Inv X pins σ H s:=⟨I.ok.n9,I.os,I.bare,I.base,I.loc,I.cell,I.free,I.gx,I.pin,I.a0,I.len⟩
theorem iI.n9 {D:Ends} {f:Flow} {s':Shared} (h:iI (X.lK E) pins D f s'):iI X pins D f s':=by
 cases f with
 | next=>obtain ⟨σ',H',I,q⟩:=h;exact ⟨σ',H',I.n9,q⟩
 | brk=>obtain ⟨σ',H',I,q⟩:=h;exact ⟨σ',H',I.n9,q⟩
 | cont=>obtain ⟨σ',H',I,q⟩:=h;exact ⟨σ',H',I.n9,q⟩
 | ret u=>obtain ⟨v,σ',H',I,r,q⟩:=h;exact ⟨v,σ',H',I.n9,r,q⟩
theorem iR.sH {st:List Stmt} {t:cX} (h:iR X.sH st t):iR X st t:=λ pins s σ H D I hw =>
 wpAny_mono (h pins s σ H D (I.lK _) hw) (λ _ _ q=>q.n9) λ _ _ z=>False.elim z
end
section
variable {X:aQ} {st:Stmt} {rest:List Stmt} {t u:cX} {e:Expr} {bc:TE} {pos:Pos}
noncomputable def Gb:cX:=λ D σ H=>D.bl σ H
noncomputable def FJ (t u:cX):cX:=λ D σ H=>t { D with bl:=u D } σ H
theorem TV:iR X [] Gb:=λ _ _ σ H _ I h=>wpAny_execs_nil ⟨σ,H,I,h⟩
theorem VK (af:iF X st t) (aq:iR X rest u):iR X (st::rest) (FJ t u):=by
 intro pins s σ H D I h;refine wpAny_execs_cons (a_ (af pins s σ H { D with bl:=u D } I h) λ f s1 q=>?_);cases f with
 | next =>
  obtain ⟨σ',H',iD,q⟩:=q;exact aq pins s1 σ' H' D iD q
 | ret v=>exact q
 | brk=>exact q
 | cont=>exact q
theorem TX (af:iF X st t):iR X [st] t:=by
 intro pins s σ H D I h;refine wpAny_execs_cons (a_ (af pins s σ H D I h) λ f s1 q=>?_);cases f with
 | next=>exact wpAny_execs_nil q
 | ret v=>exact q
 | brk=>exact q
 | cont=>exact q
theorem Inv.quiet {pins:List (Addr×Obj)} {σ:St} {H:aj} {s:Shared} (I:Inv X pins σ H s):interactive X.env=false:=by simp [interactive,I.ok.kind]
noncomputable def F9 (bc:TE):cX:=λ D σ H=>bc σ H λ _ H1=>D.bl σ H1
theorem TS (he:bK X e bc) (aA:swapsWith e none pos.line X.env=pure false:=by rfl):iF X (.Expr e pos) (F9 bc):=by
 intro pins s σ H D I h;exact wpAny_Expr_any (a_ (he pins s σ H _ I h) λ v s1 ⟨x,H1,aJ,bG,a6⟩=>⟨σ,H1,aJ,a6⟩) I.quiet aA
noncomputable def FI (bc:TE):cX:=λ D σ H=>bc σ H D.me
theorem Sh (he:bK X e bc):iF X (.Return (some e) pos) (FI bc):=by
 intro pins s σ H D I h;exact wpAny_Return_some (a_ (he pins s σ H _ I h) λ v s1 ⟨x,H1,aJ,bG,a6⟩=>⟨x,σ,H1,aJ,bG,a6⟩)
noncomputable def FE (c:TT) (t u:cX):cX:=λ D σ H=>c σ H λ b H1=>if b=true then t D σ H1 else u D σ H1
theorem Rd {c:Expr} {a b:List Stmt} {cT:TT} (ao:iG X c cT) (av:iR X a t) (aa:iR X b u):iF X (.If c a b pos) (FE cT t u):=by
 intro pins s σ H D I h;refine wpAny_If (a_ (ao pins s σ H _ I h) λ d s1 ⟨H1,aJ,a6⟩=>?_);cases d with
 | true=>exact av pins s1 σ H1 D aJ a6
 | false=>exact aa pins s1 σ H1 D aJ a6
noncomputable def GI:cX:=λ _ _ _=>False
theorem VI:iF X st GI:=λ _ _ _ _ _ _ h=>h.elim
end
noncomputable abbrev dT:=V->St->aj->(St->aj->Prop)->Prop
noncomputable abbrev kq:=List V->St->aj->(St->aj->Prop)->Prop
noncomputable def l_ (X:aQ) (target:Expr) (t:dT):Prop :=
 ∀ (pins:List (Addr×Obj)) (s:Shared) (σ:St) (H:aj) (v:V) (u:Value) (Q:St->aj->Prop),Inv X pins σ H s->RelV v u->t v σ H Q ->
  wpAny (model X.prog X.w) X.A (assign target X.env u) (λ _ s' => ∃ σ' H',Inv X pins σ' H' s'/\Q σ' H') X.cB s
noncomputable def rP (X:aQ) (gE:List Expr) (t:kq):Prop :=
 ∀ (pins:List (Addr×Obj)) (s:Shared) (σ:St) (H:aj) (vs:List V) (us:List Value) (Q:St->aj->Prop),Inv X pins σ H s->Vals vs us->t vs σ H Q ->
  wpAny (model X.prog X.w) X.A (assignInOrder ((assignEach gE X.env).map (·.2)) us) (λ _ s' => ∃ σ' H',Inv X pins σ' H' s'/\Q σ' H') X.cB s
noncomputable abbrev qm:=V->V->V->aj->(aj->Prop)->Prop
noncomputable def vm (X:aQ) (t:qm):Prop :=
 ∀ (pins:List (Addr×Obj)) (s:Shared) (σ:St) (H:aj) (o i v:V) (cO dg u:Value) (Q:aj->Prop),Inv X pins σ H s->RelV o cO->RelV i dg->RelV v u->t o i v H Q ->
  wpAny (model X.prog X.w) X.A (setItem cO dg u) (λ _ s' => ∃ H',Inv X pins σ H' s'/\Q H') X.cB s
noncomputable abbrev uE:=V->V->aj->bz->Prop
noncomputable def DN (X:aQ) (op:Operator) (t:uE):Prop :=
 ∀ (pins:List (Addr×Obj)) (s:Shared) (σ:St) (H:aj) (x y:V) (v u:Value) (Q:bz),Inv X pins σ H s->RelV x v->RelV y u->t x y H Q ->
  wpAny (model X.prog X.w) X.A (inplaceOp op v u) (fB X pins σ Q) X.cB s
section
variable {X:aQ} {pos:Pos}
noncomputable def fO (i:Nat):dT:=λ v σ H Q=>Q (σ.set i (some v)) H
theorem TH {i:Nat} {x:Str} (c8:X.N.Nodup) (ax:X.N[i]?=some x) (ah:Loc X.env.scope x) (hf:X.fn x=true\/X.env.scope.names.lookup x=some .local:=by first | exact .inl rfl | exact .inr rfl | assumption):l_ X (.Name x pos) (fO i):=by
 intro pins s σ H v u Q I r h;exact wpAny_assign_Name (wC I c8 ax ah r (λ s' iD=>⟨_,H,iD,h⟩) hf)
noncomputable def qp:kq:=λ vs σ H Q=>vs=[]/\Q σ H
noncomputable def lL (t:dT) (u:kq):kq:=λ vs σ H Q => ∃ v r,vs=v::r/\t v σ H λ σ' H'=>u r σ' H' Q
theorem TJ:rP X [] qp:=by
 intro pins s σ H vs us Q I r h;obtain ⟨e,h⟩:=h;subst e;cases r;exact assignInOrder_nil ⟨σ,H,I,h⟩
theorem VF {e:Expr} {es:List Expr} {t:dT} {u:kq} (af:l_ X e t) (aq:rP X es u)
  (aA:(assignEach (e::es) X.env).map (·.2)=assign e X.env::(assignEach es X.env).map (·.2):=by rfl):rP X (e::es) (lL t u):=by
 intro pins s σ H vs us Q I r h;obtain ⟨v,aa4,aE,h⟩:=h;subst aE;cases r with
 | cons r nz =>
  rw [aA];refine assignInOrder_cons (a_ (af pins s σ H _ _ _ I r h) λ _ s1 ⟨σ1,H1,aJ,a6⟩=>?_);exact aq pins s1 σ1 H1 _ _ Q aJ nz a6
noncomputable def pb (K:PySem.W.Frag) (n:Nat) (t:kq):dT:=λ v σ H Q => ∃ a xs,v=.ref a/\aW K H a xs/\xs.length=n/\t xs σ H Q
theorem R9 {es:List Expr} {k:Nat} {t:kq} {n:Nat} (ao:X.warm=true) (h:rP X es t)
  (aC:(assignEach es X.env).length=n:=by rfl) (cC:(assignEach es X.env).findIdx? (·.1)=none:=by rfl):l_ X (.Tuple es k pos) (pb X.K n t):=by
 intro pins s σ H v u Q I r hw;obtain ⟨a,xs,aE,aR,au,hw⟩:=hw;subst aE;cases r;obtain ⟨its,bE,aZ,aN⟩:=I.tuple aR;refine eO.Wb (I.kx ao) aZ (by simp [aC,<-au,bE.length]) cC λ h' ah=>?_
 have aJ:Inv X pins σ H { s with heap:=h' }:=I.kept (t':=s.toks) λ b o e=>ah b o (Nat.ne_of_lt (Heap.lt_size e)) e
 exact h pins _ σ H xs _ Q aJ (by simpa using bE) hw
noncomputable def E7 (to h3:TE) (t:qm):dT:=λ v σ H Q=>to σ H λ o H1=>h3 σ H1 λ i aw=>t o i v aw λ aH=>Q σ aH
theorem R8 {o i:Expr} {to h3:TE} {t:qm} (aO:bK X o to) (ax:bK X i h3) (aA:vm X t)
  (av : ∀ v,assign (.Subscript o i pos) X.env v=(do
   let cO ← holding [v] (eval o X.env)
   let dg ← holding [v,cO] (eval i X.env)
   standAt pos
   holding [v,cO,dg] (setItem cO dg v)
   release [v,cO,dg] []):=by intro _;rfl):l_ X (.Subscript o i pos) (E7 to h3 t):=by
 intro pins s σ H v u Q I r h;rw [av];refine wpAny_bind (wpAny_holding (a_ (aO pins s σ H _ I h) λ cO s1 ⟨x,H1,aJ,bG,a6⟩=>?_));refine wpAny_bind (wpAny_holding (a_ (ax pins s1 σ H1 _ aJ a6) λ dg s2 ⟨y,aw,bD,cb,b0⟩=>?_));refine wpAny_bind (wpAny_standAt (wpAny_bind (wpAny_holding (a_ (aA pins s2 σ aw x y v cO dg u _ bD bG cb r b0) λ _ s3 ⟨aH,bR,ew⟩=>?_))));exact wpAny_release ⟨σ,aH,bR,ew⟩
noncomputable def pe (bc:TE) (g:dT):cX:=λ D σ H=>bc σ H λ x H1=>g x σ H1 D.bl
theorem Se {bk e:Expr} {bc:TE} {g:dT} (he:bK X e bc) (aM:l_ X bk g) (aA:swapsWithSole [bk] e pos.line X.env=pure false:=by rfl) (hw:swappedStores [bk] e X.env=pure none:=by rfl)
  (af:(assignEach [bk] X.env).map (·.2)=[assign bk X.env]:=by rfl):iF X (.Assign [bk] e pos) (pe bc g):=by
 intro pins s σ H D I h;refine wpAny_Assign_stores (a_ (he pins s σ H _ I h) λ v s1 ⟨x,H1,aJ,bG,a6⟩=>?_) aA hw;rw [af];exact a_ (aM pins s1 σ H1 x v _ aJ bG a6) λ _ s2 q=>q
theorem Si {i:Nat} {x:Str} {e:Expr} {bc:TE} {pos':Pos} (c8:X.N.Nodup) (ax:X.N[i]?=some x) (ah:Loc X.env.scope x) (he:bK X e bc) (aA:swapsWith e (some (.Name x pos')) pos.line X.env=pure false:=by rfl) (hf:X.fn x=true\/X.env.scope.names.lookup x=some .local:=by first | exact .inl rfl | exact .inr rfl | assumption) :
  iF X (.Assign [.Name x pos'] e pos) (pe bc (fO i)):=by
 intro pins s σ H D I h;refine wpAny_Assign_Name (a_ (he pins s σ H _ I h) λ v s1 ⟨y,H1,aJ,bG,a6⟩=>?_) aA;exact wC aJ c8 ax ah bG (λ s2 bD=>⟨_,H1,bD,a6⟩) hf
noncomputable def F8 (to h3 bc:TE) (vG:V->V->aj->bz->Prop) (vf:uE) (vI:qm):cX:=λ D σ H=>to σ H λ o H1=>h3 σ H1 λ i aw=>vG o i aw λ x aH=>bc σ aH λ y aX=>vf x y aX λ z bH=>vI o i z bH λ dD=>D.bl σ dD
noncomputable def E2 (X:aQ) (t:V->V->aj->bz->Prop):Prop :=
 ∀ (pins:List (Addr×Obj)) (s:Shared) (σ:St) (H:aj) (o i:V) (cO dg:Value) (Q:bz),Inv X pins σ H s->RelV o cO->RelV i dg->t o i H Q ->
  wpAny (model X.prog X.w) X.A (getItem cO dg) (fB X pins σ Q) X.cB s
theorem TR {o i e:Expr} {to h3 bc:TE} {vG:V->V->aj->bz->Prop} {vf:uE} {vI:qm} {op:Operator} {vH:Pos} (aO:bK X o to) (ax:bK X i h3) (aM:E2 X vG) (he:bK X e bc) (ay:DN X op vf) (aA:vm X vI)
  (av : ∀ cO dg new,augStore i cO dg new=(do holding [new,cO,dg] (setItem cO dg new);release [new,cO,dg] [];pure .next):=by intros;rfl):iF X (.AugAssign (.Subscript o i vH) op e pos) (F8 to h3 bc vG vf vI):=by
 intro pins s σ H D I h;refine wpAny_AugAssign_SubscriptAny (a_ (aO pins s σ H _ I h) λ cO s1 ⟨eJ,H1,aJ,bG,a6⟩=>?_) av;refine a_ (ax pins s1 σ H1 _ aJ a6) λ dg s2 ⟨fa,aw,bD,cb,b0⟩=>?_
 refine a_ (aM pins s2 σ aw eJ fa cO dg _ bD bG cb b0) λ old s3 ⟨x6,aH,bR,hD,ew⟩=>?_
 refine a_ (he pins s3 σ aH _ bR ew) λ v s4 ⟨x7,aX,cN,hh,oz⟩=>?_
 refine a_ (ay pins s4 σ aX x6 x7 old v _ cN hD hh oz) λ new s5 ⟨ur,bH,g9,ny,nv⟩=>?_
 exact a_ (aA pins s5 σ bH eJ fa ur cO dg new _ g9 bG cb ny nv) λ _ cp ⟨dD,eF,xO⟩=>⟨σ,dD,eF,xO⟩
noncomputable def El (f:Int->Int->Int):uE:=λ x y H Q => ∃ i j,x=.int i/\y=.int j/\Q (.int (f i j)) H
theorem RI:DN X .Add (El λ i j=>i+j):=by
 intro pins s σ H x y v u Q I bG cb h;obtain ⟨i,j,aE,aI,q⟩:=h;subst aE;subst aI;obtain ⟨t,rfl⟩:=bG;obtain ⟨t',rfl⟩:=cb;exact iadd_int ⟨.int _,H,I.tok _,⟨_,rfl⟩,q⟩
noncomputable def Ar (c:TT) (bo:cX):cX:=λ D σ H => ∃ W:Nat->St->aj->Prop,(∃ m,W m σ H) /\ ∀ m σ H,W m σ H ->
 c σ H λ b H1=>if b=true then ∃ N:St->aj->Prop,(∀ σ' H',N σ' H' -> ∃ cu,cu<m/\W cu σ' H')/\bo { D with bl:=N,b1:=N,dY:=D.bl } σ H1 else D.bl σ H1
theorem VJ {c:Expr} {body:List Stmt} {cT:TT} {bo:cX} (ay:PassesOwn (model X.prog X.w) X.A X.env X.cB) (ao:iG X c cT) (aa:iR X body bo):iF X (.While c body [] pos) (Ar cT bo):=by
 intro pins s σ H D I h;obtain ⟨W,⟨m0,w0⟩,turn⟩:=h;refine wpAny_While (codeAny_whileLoop (λ n s' => ∃ σ' H',Inv X pins σ' H' s'/\W n σ' H') ?_ m0 ⟨σ,H,I,w0⟩);rintro n s1 ⟨σ1,H1,aJ,jl⟩;refine wpAny_passesOwn ay (a_ (ao pins s1 σ1 H1 _ aJ (turn n σ1 H1 jl)) λ b s2 ⟨aw,bD,b0⟩=>?_);cases b with
 | true =>
  obtain ⟨N,c8,b0⟩:=b0;rw [if_pos rfl];refine wpAny_passesOwn ay (a_ (aa pins s2 σ1 aw _ bD b0) λ f s3 ew=>?_);cases f with
  | next =>
   obtain ⟨σ3,aH,bR,e9⟩:=ew;obtain ⟨cu,hm,km⟩:=c8 σ3 aH e9;exact ⟨cu,hm,σ3,aH,bR,km⟩
  | cont =>
   obtain ⟨σ3,aH,bR,e9⟩:=ew;obtain ⟨cu,hm,km⟩:=c8 σ3 aH e9;exact ⟨cu,hm,σ3,aH,bR,km⟩
  | brk=>exact ew
  | ret v=>exact ew
 | false =>
  rw [if_neg Bool.false_ne_true];exact wpAny_execs_nil ⟨σ1,aw,bD,b0⟩
end
structure fC where
 go:Nat->aj->Prop
 hq:Nat->aj->V->aj->Prop
 stop:Nat->aj->Prop
noncomputable def kI (X:aQ) (pins:List (Addr×Obj)) (H:aj) (b:Addr):Prop :=
 H b=none/\b≠X.env.locals/\b∉X.ak/\(b∈X.ex\/X.s₀.heap.objs.size<=b)/\(∀ x c,X.env.cells.lookup x=some c->c≠b) /\ ∀ p∈X.iP++pins,p.1≠b
theorem Inv.nY {X:aQ} {pins:List (Addr×Obj)} {σ:St} {H H':aj} {s:Shared} {b:Addr} (I:Inv X pins σ H s) (aa:s.heap.objs.size<=b) (aC:H' b=none):kI X pins H' b:=by
 refine ⟨aC,Nat.ne_of_gt (Nat.lt_of_lt_of_le I.lt aa),I.Qw aa,.inr (Nat.le_trans I.gb aa),λ x c e z=>?_,λ p ay z=>?_⟩
 ·obtain ⟨v,q⟩:=I.cell x c e;exact absurd (Nat.lt_of_lt_of_le q.lt (by rw [z];exact aa)) (Nat.lt_irrefl _)
 ·exact absurd (Nat.lt_of_lt_of_le (Heap.lt_size (I.pin p ay).1) (by rw [z];exact aa)) (Nat.lt_irrefl _)
structure Turn (P:Program) (w:World) (K:PySem.W.Frag) (c:Bool) (bk:Expr) (J:fC) (bh:List Addr) (it:Addr) (fq:Nat->Heap->Prop):Prop where
 mem:it∈bh
 obj : ∀ i h,fq i h -> ∀ b∈bh,∃ o,h.get? b=some o /\ ∀ v,o.data≠.cell v
 keep : ∀ i h h',fq i h->(∀ b∈bh,∀ o,h.get? b=some o->h'.get? b=some o)->fq i h'
 item : ∀ (X:aQ),X.prog=P->X.w=w->X.K=K->X.calm=c->X.warm=true -> ∀ (i:Nat) (pins:List (Addr×Obj)) (s:Shared) (σ:St) (H:aj) (E:Value->Shared->Prop),Inv X pins σ H s->(∀ b∈bh,kI X pins H b)->fq i s.heap->J.go i H ->
  wpAny (model P w) X.A (pyNext (.ref it)) (λ r s1 => ∃ u,r=some u /\
   wpAny (model P w) X.A (letOwnedTupleGo bk (.ref it) u) (λ _ s2 => ∃ x H',Inv X pins σ H' s2/\RelV x u/\J.hq i H x H'/\fq (i+1) s2.heap /\ ∀ b∈bh,H' b=none) E s1) E s
 done : ∀ (X:aQ),X.prog=P->X.w=w->X.K=K->X.calm=c->X.warm=true -> ∀ (i:Nat) (pins:List (Addr×Obj)) (s:Shared) (σ:St) (H:aj) (E:Value->Shared->Prop),Inv X pins σ H s->(∀ b∈bh,kI X pins H b)->fq i s.heap->J.stop i H ->
  wpAny (model P w) X.A (pyNext (.ref it)) (λ r s1=>r=none/\Inv X pins σ H s1) E s
 self : ∀ (A:Around) (i:Nat) (s:Shared) (Q:Value->Shared->Prop) (E:Value->Shared->Prop),fq i s.heap->Q (.ref it) s->wpAny (model P w) A (pyIter (.ref it)) Q E s
noncomputable abbrev TI:=St->aj->(fC->aj->Prop)->Prop
noncomputable def yj (X:aQ) (pins:List (Addr×Obj)) (σ:St) (bk:Expr) (R:fC->aj->Prop) (u3:Value) (s2:Shared):Prop :=
 ∃ (it:Addr) (bh:List Addr) (fq:Nat->Heap->Prop) (J:fC) (H':aj),u3=.ref it/\Inv X pins σ H' s2/\Turn X.prog X.w X.K X.calm bk J bh it fq/\fq 0 s2.heap/\(∀ b∈bh,kI X pins H' b)/\R J H'
noncomputable def kb (X:aQ) (bk iter:Expr) (e2:TI):Prop :=
 ∀ (pins:List (Addr×Obj)) (s:Shared) (σ:St) (H:aj) (R:fC->aj->Prop),Inv X pins σ H s->e2 σ H R ->
  wpAny (model X.prog X.w) X.A (eval iter X.env) (λ v s1=>wpAny (model X.prog X.w) X.A (pyIter v) (yj X pins σ bk R) X.cB s1) X.cB s
theorem vL {M:Model} {A:Around} {E:Value->Shared->Prop} {s:Shared} {bk:Expr} {it:Addr} {u:Value} {o:Obj} {n:String} {vs:Array Value} {Q:Unit->Shared->Prop} (aO:s.heap.get? it=some o) (ao:o.cls=.type n) (hd:o.data=.fields vs)
  (aC:["enumerate", "zip", "dict_itemiterator", "dict_reverseitemiterator", "odict_iterator", "itertools.zip_longest", "itertools.pairwise"].contains n=false) (eQ:Q () s):wpAny M A (letOwnedTupleGo bk (.ref it) u) Q E s:=by
 unfold letOwnedTupleGo;cases bk<;>first
  | exact wpAny_pure eQ
  | (cases u<;>first
    | exact wpAny_pure eQ
    | (refine wpAny_bind (wpAny_load aO ?_)
       rw [ao,hd];show wpAny M A (if (["enumerate", "zip", "dict_itemiterator", "dict_reverseitemiterator", "odict_iterator", "itertools.zip_longest", "itertools.pairwise"].contains n&&vs[0]? == some (rawInt _))=true then _ else _) Q E s;rw [if_neg (by intro h;rw [aC,Bool.false_and] at h;cases h)];exact wpAny_pure eQ))
noncomputable def mm (K:PySem.W.Frag) (a:Addr):fC :=
 ⟨λ i H => ∃ xs x,a4 K H a xs/\xs[i]?=some x,λ i H x H'=>H'=H /\ ∀ xs,a4 K H a xs->xs[i]?=some x,λ i H => ∃ xs,a4 K H a xs/\xs.length<=i⟩
noncomputable def nA (K:PySem.W.Frag) (a:Addr):fC :=
 ⟨λ i H => ∃ xs x,aW K H a xs/\xs[i]?=some x,λ i H x H'=>H'=H /\ ∀ xs,aW K H a xs->xs[i]?=some x,λ i H => ∃ xs,aW K H a xs/\xs.length<=i⟩
noncomputable def oG (lo:Int) (n:Nat):fC:=⟨λ i _=>i<n,λ i H x H'=>H'=H/\x=.int (lo+i),λ i _=>n<=i⟩
theorem XK {c:Bool} {P:Program} {w:World} {K:PySem.W.Frag} {bk:Expr} (a it:Addr):Turn P w K c bk (mm K a) [it] it (λ i h=>h.IsListIter it a i) where
 mem:=by simp
 obj:=λ i h st b aa=>by
  have e:b=it:=by simpa using aa
  subst e;obtain ⟨o,e,c,d⟩:=st;exact ⟨o,e,λ v z=>by rw [d] at z;cases z⟩
 keep:=λ i h h' st k=>st.at λ o e=>k it (by simp) o e
 item:=by
  intro X c0 hw dQ aB ao i pins s σ H E I hf st aM;subst c0 hw dQ;obtain ⟨xs,x,aR,ah⟩:=aM;obtain ⟨its,bE,p,aN⟩:=I.list aR;obtain ⟨u,b_,dA⟩:=bE.get ah;obtain ⟨f0,f1,f2,c2,f4,e7⟩:=hf it (by simp);refine wpAny_pyNext_list_item st p.isList (x:=u) (by simpa using b_) λ h' gW dB=>?_
  have aJ:Inv X pins σ H { s with heap:=h' }:=I.turned (t':=s.toks) (λ b o aa e=>(dB.2 b aa).trans e) f0 f1 c2 f4 e7;obtain ⟨o,e,c,d⟩:=id gW;exact ⟨u,rfl,vL (s:={ s with heap:=h' }) e c d (by decide) ⟨x,H,aJ,dA,⟨rfl,λ ys aL=>by rw [I.H3 aL aR];exact ah⟩,gW,λ b aa=>(hf b aa).1⟩⟩
 done:=by
  intro X c0 hw dQ aB ao i pins s σ H E I hf st aM;subst c0 hw dQ;obtain ⟨xs,aR,ah⟩:=aM;obtain ⟨its,bE,p,aN⟩:=I.list aR;obtain ⟨f0,f1,f2,c2,f4,e7⟩:=hf it (by simp);have au:=bE.length;exact eO.H2 (I.kx ao) st p.isList (by simp;omega) λ h' c7=>⟨rfl,I.turned (t':=s.toks) (λ b o aa e=>c7 b o aa e) f0 f1 c2 f4 e7⟩
 self:=λ _ _ _ _ _ st h=>wpAny_pyIter_listiter st h
theorem YP {c:Bool} {P:Program} {w:World} {K:PySem.W.Frag} {bk:Expr} (a it:Addr):Turn P w K c bk (nA K a) [it] it (λ i h=>h.IsTupleIter it a i) where
 mem:=by simp
 obj:=λ i h st b aa=>by
  have e:b=it:=by simpa using aa
  subst e;obtain ⟨o,e,c,d⟩:=st;exact ⟨o,e,λ v z=>by rw [d] at z;cases z⟩
 keep:=λ i h h' st k=>st.at λ o e=>k it (by simp) o e
 item:=by
  intro X c0 hw dQ aB ao i pins s σ H E I hf st aM;subst c0 hw dQ;obtain ⟨xs,x,aR,ah⟩:=aM;obtain ⟨its,bE,p,aN⟩:=I.tuple aR;obtain ⟨u,b_,dA⟩:=bE.get ah;obtain ⟨f0,f1,f2,c2,f4,e7⟩:=hf it (by simp);refine wpAny_pyNext_tuple_item st (show s.heap.IsTuple a its.toArray from p) (x:=u) (by simpa using b_) λ h' gW dB=>?_
  have aJ:Inv X pins σ H { s with heap:=h' }:=I.turned (t':=s.toks) (λ b o aa e=>(dB.2 b aa).trans e) f0 f1 c2 f4 e7;obtain ⟨o,e,c,d⟩:=id gW;exact ⟨u,rfl,vL (s:={ s with heap:=h' }) e c d (by decide) ⟨x,H,aJ,dA,⟨rfl,λ ys aL=>by rw [I.tE aL aR];exact ah⟩,gW,λ b aa=>(hf b aa).1⟩⟩
 done:=by
  intro X c0 hw dQ aB ao i pins s σ H E I hf st aM;subst c0 hw dQ;obtain ⟨xs,aR,ah⟩:=aM;obtain ⟨its,bE,p,aN⟩:=I.tuple aR;obtain ⟨f0,f1,f2,c2,f4,e7⟩:=hf it (by simp);have au:=bE.length;exact eO.AV (I.kx ao) st (show s.heap.IsTuple a its.toArray from p) (by simp;omega) λ h' c7=>⟨rfl,I.turned (t':=s.toks) (λ b o aa e=>c7 b o aa e) f0 f1 c2 f4 e7⟩
 self:=λ _ _ _ _ _ st h=>wpAny_pyIter_tupleiter st h
theorem YO {c:Bool} (ed:c=true) {P:Program} {w:World} {K:PySem.W.Frag} {bk:Expr} (it:Addr) (lo:Int) (n:Nat):Turn P w K c bk (oG lo n) [it] it (λ i h=>IsRangeIter h it (lo+(i:Nat) * 1) ((n:Int) - (i:Nat)) 1) where
 mem:=by simp
 obj:=λ i h st b aa=>by
  have e:b=it:=by simpa using aa
  subst e;exact ⟨_,st,λ v z=>by
   have c9:Data.fields _=Data.cell v:=z;cases c9⟩
 keep:=λ i h h' st k=>k it (by simp) _ st
 item:=by
  intro X c0 hw dQ aB ao i pins s σ H E I hf st aM;subst c0 hw dQ;obtain ⟨f0,f1,f2,c2,f4,e7⟩:=hf it (by simp);have W:=Walks.range (prog:=X.prog) (w:=X.w) (I.ok.hd.1 (aB.trans ed)) it lo 1 n;refine W.item i s _ _ aM st λ v h' tk a7 gW et=>?_
  obtain ⟨t,rfl⟩:=a7;have aJ:Inv X pins σ H { s with heap:=h',toks:=tk }:=I.turned (λ b o aa e=>et b o (by simpa using aa) e) f0 f1 c2 f4 e7;refine ⟨_,rfl,vL (s:={ s with heap:=h',toks:=tk }) (n := "range_iterator") gW rfl rfl (by decide) ⟨.int (lo+i),H,aJ,⟨t,?_⟩,⟨rfl,rfl⟩,gW,λ b aa=>(hf b aa).1⟩⟩;rw [Int.mul_one]
 done:=by
  intro X c0 hw dQ aB ao i pins s σ H E I hf st aM;subst c0 hw dQ;obtain ⟨f0,f1,f2,c2,f4,e7⟩:=hf it (by simp);exact wpAny_pyNext_range_end (I.ok.hd.1 (aB.trans ed)) st (by have:n<=i:=aM;omega) λ h' c7=>⟨rfl,I.turned (t':=s.toks) (λ b o aa e=>c7 b o aa e) f0 f1 c2 f4 e7⟩
 self:=λ _ _ _ _ _ st h=>wpAny_pyIter_rangeiter st h
section
variable {X:aQ} {bk:Expr}
noncomputable def FX (K:PySem.W.Frag) (dq:TE):TI:=λ σ H R=>dq σ H λ x H1 => ∃ a,x=.ref a/\(∃ xs,a4 K H1 a xs)/\R (mm K a) H1
noncomputable def Fl (K:PySem.W.Frag) (dq:TE):TI:=λ σ H R=>dq σ H λ x H1 => ∃ a,x=.ref a/\(∃ xs,aW K H1 a xs)/\R (nA K a) H1
theorem TL {l:Expr} {dq:TE} (au:bK X l dq):kb X bk l (FX X.K dq):=by
 intro pins s σ H R I h;refine a_ (au pins s σ H _ I h) λ v s1 ⟨x,H1,aJ,bG,a6⟩=>?_
 obtain ⟨a,e,⟨xs,aR⟩,q⟩:=a6;subst e;cases bG;obtain ⟨its,bE,p,aN⟩:=aJ.list aR;refine wpAny_pyIter_list p.isList ?_;refine ⟨s1.heap.objs.size,[s1.heap.objs.size],_,_,H1,rfl,aJ.kept (t':=s1.toks) λ b o e=>Heap.get?_push_of_some _ e,XK a _,⟨_,Heap.get?_push_size _ rfl,rfl,rfl⟩,λ b aa=>?_,q⟩;have e:b=s1.heap.objs.size:=by simpa using aa
 subst e;exact aJ.nY (Nat.le_refl _) (aJ.a0.fresh (Nat.le_refl _))
theorem Sa {l:Expr} {dq:TE} (au:bK X l dq):kb X bk l (Fl X.K dq):=by
 intro pins s σ H R I h;refine a_ (au pins s σ H _ I h) λ v s1 ⟨x,H1,aJ,bG,a6⟩=>?_
 obtain ⟨a,e,⟨xs,aR⟩,q⟩:=a6;subst e;cases bG;obtain ⟨its,bE,p,aN⟩:=aJ.tuple aR;refine wpAny_pyIter_tuple (show s1.heap.IsTuple a its.toArray from p) ?_;refine ⟨s1.heap.objs.size,[s1.heap.objs.size],_,_,H1,rfl,aJ.kept (t':=s1.toks) λ b o e=>Heap.get?_push_of_some _ e,YP a _,⟨_,Heap.get?_push_size _ rfl,rfl,rfl⟩,λ b aa=>?_,q⟩;have e:b=s1.heap.objs.size:=by simpa using aa
 subst e;exact aJ.nY (Nat.le_refl _) (aJ.a0.fresh (Nat.le_refl _))
theorem VY (ed:X.calm=true) {pins:List (Addr×Obj)} {σ:St} {H:aj} {s:Shared} {R:fC->aj->Prop} {E:Value->Shared->Prop} {lo ax:Int} {t u v:Tok} {tk:Nat} (I:Inv X pins σ H s) (af : -(2 ^ 62)<=lo) (aq:lo<2 ^ 62) (aF : -(2 ^ 62)<=ax) (aU:ax<2 ^ 62)
  (q:R (oG lo (ax - lo).toNat) H):wpAny (model X.prog X.w) X.A (pyIter (.ref s.heap.objs.size)) (yj X pins σ bk R) E { s with heap:=s.heap.push { cls:=.type "range", data:=.fields #[.int lo t,.int ax u,.int 1 v] },toks:=tk }:=by
 refine wpAny_pyIter_range (IsRange.new ..) (small_one af aq aF aU) ?_;have aJ:Inv X pins σ H { s with heap:=s.heap.push { cls:=.type "range", data:=.fields #[.int lo t,.int ax u,.int 1 v] },toks:=tk }:=I.kept λ b o e=>Heap.get?_push_of_some _ e
 refine ⟨(s.heap.push { cls:=.type "range", data:=.fields #[.int lo t,.int ax u,.int 1 v] }).objs.size,[(s.heap.push { cls:=.type "range", data:=.fields #[.int lo t,.int ax u,.int 1 v] }).objs.size],_,_,H,rfl,
  aJ.kept (t':=tk) λ b o e=>Heap.get?_push_of_some _ e,YO ed _ lo (ax - lo).toNat,?_,λ b aa=>?_,q⟩
 ·have aE:lo+((0:Nat):Int) * 1=lo:=by simp
  have aI:(((ax - lo).toNat:Nat):Int) - ((0:Nat):Int)=Builtin.Range.rangeSize lo ax 1:=by rw [rangeSize_one];split<;>omega
  show IsRangeIter _ _ (lo+((0:Nat):Int) * 1) ((((ax - lo).toNat:Nat):Int) - ((0:Nat):Int)) 1;rw [aE,aI];exact Heap.get?_push_size _ rfl
 ·have e:b=(s.heap.push { cls:=.type "range", data:=.fields #[.int lo t,.int ax u,.int 1 v] }).objs.size:=by simpa using aa
  subst e;exact aJ.nY (Nat.le_refl _) (aJ.a0.fresh (Nat.le_refl _))
noncomputable def FY (aS:cH):TI:=λ σ H R=>aS σ H λ vs H1 => ∃ j:Int,vs=[.int j] /\ -(2 ^ 62)<=j/\j<2 ^ 62/\R (oG 0 j.toNat) H1
theorem Xb {a:Expr} {aS:cH} {p pos:Pos} (aM:c1 X "range") (hm:X.mg "range" = none) (av:gB X [a] aS) (aA:starEach [a] X.env=[(false,eval a X.env)]:=by rfl) (ed:X.calm=true:=by rfl):kb X bk (.Call (.Name "range" p) [a] [] pos) (FY aS):=by
 intro pins s σ H R I h;refine Call_ (lS I aM hm boot_range (PyProof.Rows.callWith_type1 (a_ (av pos pins s σ H _ I h) λ us s1 ⟨vs,H1,aJ,bG,a6⟩=>?_) aA rfl));obtain ⟨j,e,a6,b0,q⟩:=a6;subst e;cases bG with
 | cons r nz =>
  cases nz;obtain ⟨t,rfl⟩:=r;exact call_range_1 (VY ed aJ (by omega) (by omega) a6 b0 (by simpa using q))
noncomputable def FD (e2:TI) (g:dT) (bo:cX):cX:=λ D σ H=>e2 σ H λ J H1 => ∃ W:Nat->Nat->St->aj->Prop,(∃ m,W 0 m σ H1) /\ ∀ i m σ H,W i m σ H ->
 (J.stop i H/\D.bl σ H)\/(J.go i H /\ ∃ N:St->aj->Prop,(∀ σ' H',N σ' H' -> ∃ cu,cu<m/\W (i+1) cu σ' H') /\ ∀ x H',J.hq i H x H'->g x σ H' λ σ2 aw=>bo { D with bl:=N,b1:=N,dY:=D.bl } σ2 aw)
noncomputable def qH (bh:List Addr) (h:Heap):List (Addr×Obj):=bh.filterMap λ b=>(h.get? b).map λ o=>(b,o)
theorem q1 {bh:List Addr} {h:Heap} {b:Addr} {o:Obj} (aa:b∈bh) (e:h.get? b=some o):(b,o)∈qH bh h:=List.mem_filterMap.mpr ⟨b,aa,by rw [e];rfl⟩
theorem W7 {bh:List Addr} {h:Heap} {p:Addr×Obj} (ay:p∈qH bh h):p.1∈bh/\h.get? p.1=some p.2:=by
 obtain ⟨b,aa,e⟩:=List.mem_filterMap.mp ay;cases q:h.get? b with
 | none=>rw [q] at e;cases e
 | some o =>
  rw [q] at e;have b5:(b,o)=p:=Option.some.inj e;subst b5;exact ⟨aa,q⟩
theorem Inv.pinned {pins:List (Addr×Obj)} {σ:St} {H:aj} {s:Shared} {bh:List Addr} (I:Inv X pins σ H s) (hf : ∀ b∈bh,kI X pins H b) (aO : ∀ b∈bh,∃ o,s.heap.get? b=some o /\ ∀ v,o.data≠.cell v):Inv X (pins++qH bh s.heap) σ H s :=
 I.Hj λ p ay=>(List.mem_append.mp ay).elim (λ z=>I.pin p (List.mem_append_right _ z)) λ z=>by
  obtain ⟨aa,e⟩:=W7 z;obtain ⟨f0,f1,f2,_⟩:=hf p.1 aa;obtain ⟨o,b5,d⟩:=aO p.1 aa;rw [e] at b5;cases b5;exact ⟨e,f0,f1,f2,d⟩
theorem Inv.tw {pins pl:List (Addr×Obj)} {σ:St} {H:aj} {s:Shared} (I:Inv X (pins++pl) σ H s):Inv X pins σ H s:=I.Hj λ p ay=>I.pin p (List.mem_append_right _ (List.mem_append_left _ ay))
theorem Sg {iter:Expr} {body:List Stmt} {e2:TI} {g:dT} {bo:cX} {pos:Pos} (ay:PassesOwn (model X.prog X.w) X.A X.env X.cB) (ao:X.warm=true) (ax:kb X bk iter e2) (aM:l_ X bk g) (aa:iR X body bo)
  (aA : ∀ x,foldedSetIterable iter X.env x=pure x:=by intro _;rfl):iF X (.For bk iter body [] pos) (FD e2 g bo):=by
 intro pins s σ H D I h;refine wpAny_For (a_ (ax pins s σ H _ I h) λ v s1 af=>a_ af λ u3 s2 aq=>?_) aA;obtain ⟨it,bh,fq,J,aw,e,bD,T,mQ,f2,W,⟨m0,w0⟩,turn⟩:=aq;subst e;have stat : ∀ {H':aj},(∀ b∈bh,H' b=none) -> ∀ b∈bh,kI X pins H' b:=λ aC b aa=>⟨aC b aa,(f2 b aa).2⟩
 refine codeAny_forLoop_any (λ n s' => ∃ i σ' H',Inv X pins σ' H' s'/\fq i s'.heap/\(∀ b∈bh,H' b=none)/\W i n σ' H') ?_ m0 ⟨0,σ,aw,bD,mQ,λ b aa=>(f2 b aa).1,w0⟩;rintro n s3 ⟨i,σ3,aH,bR,EK,DX,km⟩;rcases turn i n σ3 aH km with ⟨stop,oB⟩ | ⟨go,N,c8,step⟩
 ·refine wpAny_passesOwn ay (a_ (T.done X rfl rfl rfl rfl ao i pins s3 σ3 aH X.cB bR (stat DX) EK stop) λ r s4 ⟨ar,cN⟩=>?_);subst ar;exact wpAny_execs_nil ⟨σ3,aH,cN,oB⟩
 ·refine wpAny_passesOwn ay (a_ (T.item X rfl rfl rfl rfl ao i pins s3 σ3 aH X.cB bR (stat DX) EK go) λ r s4 ⟨u,ar,aU⟩=>?_);subst ar;refine wpAny_passesOwn ay (a_ aU λ _ s5 ⟨x,bH,g9,ny,x9,mR,oS⟩=>?_);have Mn:=g9.pinned (stat oS) (T.obj _ _ mR);refine wpAny_passesOwn ay (a_ (aM _ s5 σ3 bH x u _ Mn ny (step x bH x9)) λ _ cp ⟨σ6,dD,eF,xO⟩=>?_);refine wpAny_passesOwn ay (a_ (aa _ cp σ6 dD _ eF xO) λ f fm nx=>?_);have again : ∀ {σ7:St} {ej:aj},Inv X (pins++qH bh s5.heap) σ7 ej fm->N σ7 ej -> ∃ m,m<n /\ ∃ i σ' H',Inv X pins σ' H' fm/\fq i fm.heap/\(∀ b∈bh,H' b=none)/\W i m σ' H':=λ {σ7 ej} g_ kh=>by
   obtain ⟨cu,hm,L1⟩:=c8 σ7 ej kh;refine ⟨cu,hm,i+1,σ7,ej,g_.tw,T.keep _ _ _ mR λ b aa o e=>(g_.pin (b,o) (List.mem_append_right _ (List.mem_append_right _ (q1 aa e)))).1,λ b aa=>?_,L1⟩;obtain ⟨o,e,d⟩:=T.obj _ _ mR b aa;exact (g_.pin (b,o) (List.mem_append_right _ (List.mem_append_right _ (q1 aa e)))).2.1
  cases f with
  | next=>obtain ⟨σ7,ej,g_,kh⟩:=nx;exact again g_ kh
  | cont=>obtain ⟨σ7,ej,g_,kh⟩:=nx;exact again g_ kh
  | brk=>obtain ⟨σ7,ej,g_,nx⟩:=nx;exact ⟨σ7,ej,g_.tw,nx⟩
  | ret v=>obtain ⟨L3,σ7,ej,g_,rz,nx⟩:=nx;exact ⟨L3,σ7,ej,g_.tw,rz,nx⟩
end
theorem U0 {K:PySem.W.Frag} {a:Addr} {xs:List V} {g:dT} {bo:cX} {D:Ends} {σ:St} {H:aj} (Pv:Nat->St->aj->Prop) (h0:Pv 0 σ H) (au : ∀ i σ H,i<=xs.length->Pv i σ H->a4 K H a xs)
  (aA : ∀ i x σ H,xs[i]?=some x->Pv i σ H->g x σ H λ σ2 aw=>bo { D with bl:=Pv (i+1),b1:=Pv (i+1),dY:=D.bl } σ2 aw) (hd : ∀ σ H,Pv xs.length σ H->D.bl σ H) :
  ∃ W:Nat->Nat->St->aj->Prop,(∃ m,W 0 m σ H) /\ ∀ i m σ H,W i m σ H ->
   ((mm K a).stop i H/\D.bl σ H)\/((mm K a).go i H /\ ∃ N:St->aj->Prop,(∀ σ' H',N σ' H' -> ∃ cu,cu<m/\W (i+1) cu σ' H') /\ ∀ x H',(mm K a).hq i H x H'->g x σ H' λ σ2 aw=>bo { D with bl:=N,b1:=N,dY:=D.bl } σ2 aw):=by
 refine ⟨λ i m σ H=>m=xs.length - i/\i<=xs.length/\Pv i σ H,⟨xs.length,by simp,Nat.zero_le _,h0⟩,?_⟩;rintro i m σ H ⟨rfl,ax,p⟩;have q:=au i σ H ax p;by_cases dk:i<xs.length
 ·refine .inr ⟨⟨xs,xs[i],q,by simp [dk]⟩,Pv (i+1),λ σ' H' fT=>⟨xs.length - (i+1),by omega,rfl,dk,fT⟩,λ x H' y=>?_⟩;obtain ⟨e,y⟩:=y;subst e;exact aA i x σ _ (y xs q) p
 ·have e:i=xs.length:=by omega
  subst e;exact .inl ⟨⟨xs,q,Nat.le_refl _⟩,hd σ H p⟩
theorem G5 {K:PySem.W.Frag} {a:Addr} {xs:List V} {g:dT} {bo:cX} {D:Ends} {σ:St} {H:aj} (Pv:Nat->St->aj->Prop) (h0:Pv 0 σ H) (au : ∀ i σ H,i<=xs.length->Pv i σ H->aW K H a xs)
  (aA : ∀ i x σ H,xs[i]?=some x->Pv i σ H->g x σ H λ σ2 aw=>bo { D with bl:=Pv (i+1),b1:=Pv (i+1),dY:=D.bl } σ2 aw) (hd : ∀ σ H,Pv xs.length σ H->D.bl σ H) :
  ∃ W:Nat->Nat->St->aj->Prop,(∃ m,W 0 m σ H) /\ ∀ i m σ H,W i m σ H ->
   ((nA K a).stop i H/\D.bl σ H)\/((nA K a).go i H /\ ∃ N:St->aj->Prop,(∀ σ' H',N σ' H' -> ∃ cu,cu<m/\W (i+1) cu σ' H') /\ ∀ x H',(nA K a).hq i H x H'->g x σ H' λ σ2 aw=>bo { D with bl:=N,b1:=N,dY:=D.bl } σ2 aw):=by
 refine ⟨λ i m σ H=>m=xs.length - i/\i<=xs.length/\Pv i σ H,⟨xs.length,by simp,Nat.zero_le _,h0⟩,?_⟩;rintro i m σ H ⟨rfl,ax,p⟩;have q:=au i σ H ax p;by_cases dk:i<xs.length
 ·refine .inr ⟨⟨xs,xs[i],q,by simp [dk]⟩,Pv (i+1),λ σ' H' fT=>⟨xs.length - (i+1),by omega,rfl,dk,fT⟩,λ x H' y=>?_⟩;obtain ⟨e,y⟩:=y;subst e;exact aA i x σ _ (y xs q) p
 ·have e:i=xs.length:=by omega
  subst e;exact .inl ⟨⟨xs,q,Nat.le_refl _⟩,hd σ H p⟩
theorem jG {lo:Int} {n:Nat} {g:dT} {bo:cX} {D:Ends} {σ:St} {H:aj} (Pv:Nat->St->aj->Prop) (h0:Pv 0 σ H)
  (aA : ∀ i σ H,i<n->Pv i σ H->g (.int (lo+i)) σ H λ σ2 aw=>bo { D with bl:=Pv (i+1),b1:=Pv (i+1),dY:=D.bl } σ2 aw) (hd : ∀ σ H,Pv n σ H->D.bl σ H) :
  ∃ W:Nat->Nat->St->aj->Prop,(∃ m,W 0 m σ H) /\ ∀ i m σ H,W i m σ H ->
   ((oG lo n).stop i H/\D.bl σ H)\/((oG lo n).go i H /\ ∃ N:St->aj->Prop,(∀ σ' H',N σ' H' -> ∃ cu,cu<m/\W (i+1) cu σ' H') /\ ∀ x H',(oG lo n).hq i H x H'->g x σ H' λ σ2 aw=>bo { D with bl:=N,b1:=N,dY:=D.bl } σ2 aw):=by
 refine ⟨λ i m σ H=>m=n - i/\i<=n/\Pv i σ H,⟨n,by simp,Nat.zero_le _,h0⟩,?_⟩;rintro i m σ H ⟨rfl,ax,p⟩;by_cases dk:i<n
 ·refine .inr ⟨dk,Pv (i+1),λ σ' H' fT=>⟨n - (i+1),by omega,rfl,dk,fT⟩,λ x H' y=>?_⟩;obtain ⟨e,y⟩:=y;subst e y;exact aA i σ _ dk p
 ·have e:i=n:=by omega
  subst e;exact .inl ⟨Nat.le_refl _,hd σ H p⟩
noncomputable abbrev e1:=V->V->aj->bz->Prop
noncomputable def dx (X:aQ) (f:Value->Value->Sem Value) (r:e1):Prop :=
 ∀ (pins:List (Addr×Obj)) (s:Shared) (σ:St) (H:aj) (x y:V) (v u:Value) (Q:bz),Inv X pins σ H s->RelV x v->RelV y u->r x y H Q ->
  wpAny (model X.prog X.w) X.A (f v u) (fB X pins σ Q) X.cB s
noncomputable def uF (X:aQ) (f:Value->Sem Value) (r:V->aj->bz->Prop):Prop :=
 ∀ (pins:List (Addr×Obj)) (s:Shared) (σ:St) (H:aj) (x:V) (v:Value) (Q:bz),Inv X pins σ H s->RelV x v->r x H Q ->
  wpAny (model X.prog X.w) X.A (f v) (fB X pins σ Q) X.cB s
noncomputable def eN (X:aQ) (f:Value) (r:List V->aj->bz->Prop):Prop :=
 ∀ (pins:List (Addr×Obj)) (s:Shared) (σ:St) (H:aj) (xs:List V) (us:List Value) (Q:bz),Inv X pins σ H s->Vals xs us->r xs H Q ->
  wpAny (model X.prog X.w) X.A (call f us) (fB X pins σ Q) X.cB s
noncomputable def nQ (r:e1) (aS bo:TE):TE:=λ σ H Q=>aS σ H λ x H1=>bo σ H1 λ y aw=>r x y aw Q
noncomputable def EO (r:V->aj->bz->Prop) (aS:TE):TE:=λ σ H Q=>aS σ H λ x H1=>r x H1 Q
noncomputable def rA (C:Int->Int->Prop) (g:Int->Int->V):e1:=λ x y H Q => ∃ i j,x=.int i/\y=.int j/\C i j/\Q (g i j) H
noncomputable def nK (g:Int->Int->V):e1:=λ x y H Q => ∃ i j,x=.int i/\y=.int j/\Q (g i j) H
noncomputable def Dz (g:Int->V):V->aj->bz->Prop:=λ x H Q => ∃ i,x=.int i/\Q (g i) H
section
variable {X:aQ} {a b c:Expr} {aS bo cT:TE} {pos:Pos}
theorem zy (av:bK X a aS) (aa:bK X b bo) {pins:List (Addr×Obj)} {s:Shared} {σ:St} {H:aj} {R:V->V->aj->Prop} (I:Inv X pins σ H s)
  (h:aS σ H λ x H1=>bo σ H1 λ y aw=>R x y aw) {Q:Value->Shared->Prop} {f:Value->Value->Sem Value}
  (hf : ∀ v u s2 x y aw,Inv X pins σ aw s2->RelV x v->RelV y u->R x y aw->wpAny (model X.prog X.w) X.A (f v u) Q X.cB s2) :
  wpAny (model X.prog X.w) X.A (eval a X.env) (λ v s₁=>wpAny (model X.prog X.w) X.A (eval b X.env) (λ u s₂=>wpAny (model X.prog X.w) X.A (f v u) Q X.cB s₂) X.cB s₁) X.cB s:=by
 refine a_ (av pins s σ H _ I h) λ v s1 ⟨x,H1,aJ,bG,a6⟩=>?_
 refine a_ (aa pins s1 σ H1 _ aJ a6) λ u s2 ⟨y,aw,bD,cb,b0⟩=>?_
 exact hf v u s2 x y aw bD bG cb b0
theorem Q_ {op:Operator} {r:e1} (aO:dx X (binaryOp op) r) (av:bK X a aS) (aa:bK X b bo):bK X (.BinOp a op b pos) (nQ r aS bo):=by
 intro pins s σ H Q I h;exact wpAny_BinOp (zy av aa I h λ v u s2 x y aw bD aT bb q=>aO pins s2 σ aw x y v u Q bD aT bb q)
theorem Rc {op:UnaryOp} {r:V->aj->bz->Prop} (aO:uF X (unaryOp op) r) (av:bK X a aS):bK X (.UnaryOp op a pos) (EO r aS):=by
 intro pins s σ H Q I h;exact UnaryOp_ (a_ (av pins s σ H _ I h) λ v s1 ⟨x,H1,aJ,bG,a6⟩=>aO pins s1 σ H1 x v Q aJ bG a6)
theorem va {f:Value->Value->Sem Value} {C:Int->Int->Prop} {g:Int->Int->Int}
  (rule : ∀ (i j:Int) (t u:Tok) (s:Shared) (Q:Value->Shared->Prop) (E:Value->Shared->Prop),C i j->Q (.int (g i j) s.toks) { s with toks:=s.toks+1 }->wpAny (model X.prog X.w) X.A (f (.int i t) (.int j u)) Q E s) :
  dx X f (rA C λ i j=>.int (g i j)):=by
 intro pins s σ H x y v u Q I aT bb h;obtain ⟨i,j,rfl,rfl,ao,q⟩:=h;obtain ⟨t,rfl⟩:=aT;obtain ⟨t',rfl⟩:=bb;exact rule i j t t' s _ _ ao ⟨.int (g i j),H,I.tok _,⟨_,rfl⟩,q⟩
theorem Fv {f:Value->Value->Sem Value} {g:Int->Int->Int}
  (rule : ∀ (i j:Int) (t u:Tok) (s:Shared) (Q:Value->Shared->Prop) (E:Value->Shared->Prop),Q (.int (g i j) s.toks) { s with toks:=s.toks+1 }->wpAny (model X.prog X.w) X.A (f (.int i t) (.int j u)) Q E s) :
  dx X f (nK λ i j=>.int (g i j)):=by
 intro pins s σ H x y v u Q I aT bb h;obtain ⟨i,j,rfl,rfl,q⟩:=h;obtain ⟨t,rfl⟩:=aT;obtain ⟨t',rfl⟩:=bb;exact rule i j t t' s _ _ ⟨.int (g i j),H,I.tok _,⟨_,rfl⟩,q⟩
theorem vB {f:Value->Value->Sem Value} {g:Int->Int->Bool}
  (rule : ∀ (i j:Int) (t u:Tok) (s:Shared) (Q:Value->Shared->Prop) (E:Value->Shared->Prop),Q (.bool (g i j)) s->wpAny (model X.prog X.w) X.A (f (.int i t) (.int j u)) Q E s) :
  dx X f (nK λ i j=>.ba (g i j)):=by
 intro pins s σ H x y v u Q I aT bb h;obtain ⟨i,j,rfl,rfl,q⟩:=h;obtain ⟨t,rfl⟩:=aT;obtain ⟨t',rfl⟩:=bb;exact rule i j t t' s _ _ ⟨.ba (g i j),H,I,rfl,q⟩
noncomputable def PE (i j:Int):Prop:=0<j/\j<1073741824
noncomputable def PF (i j:Int):Prop:=0<=j/\j<=1000000/\i.natAbs<2 ^ 64
noncomputable def zv (i j:Int):Prop:=(-(2 ^ 64)<i/\i<2 ^ 64)\/(-(2 ^ 64)<j/\j<2 ^ 64)
theorem zv.ok {i j:Int} (h:zv i j):IntMulOk i j:=by
 rcases h with ⟨af,aq⟩ | ⟨af,aq⟩
 ·exact .of_left (intBits_le_64 af aq)
 ·exact .of_right (intBits_le_64 af aq)
theorem ff:dx X (binaryOp .Add) (nK λ i j=>.int (i+j)):=Fv λ _ _ _ _ _ _ _ q=>add_int q
theorem i9:dx X (binaryOp .Sub) (nK λ i j=>.int (i - j)):=Fv λ _ _ _ _ _ _ _ q=>sub_int q
theorem n8:dx X (binaryOp .Mult) (rA zv λ i j=>.int (i * j)):=va λ _ _ _ _ _ _ _ ao q=>mul_int q ao.ok
theorem tr:dx X (binaryOp .FloorDiv) (rA PE λ i j=>.int (i / j)):=va λ i j _ _ _ _ _ ao q=>by
 have af:(0:Int)<j:=ao.1;have aq:j<1073741824:=ao.2;exact floordiv_int (by omega) (by rw [Int.fdiv_eq_ediv_of_nonneg i (by omega)];exact q) (.inl (PyProof.noPylong_small (by omega)))
theorem n7:dx X (binaryOp .Mod) (rA (λ _ j=>0<j) λ i j=>.int (i % j)):=va λ i j _ _ _ _ _ ao q=>by
 have af:(0:Int)<j:=ao;exact mod_int' (by omega) (by rw [Int.fmod_eq_emod_of_nonneg i (by omega)];exact q)
theorem v8:dx X (binaryOp .Pow) (rA PF λ i j=>.int (i ^ j.toNat)):=va λ _ _ _ _ _ _ _ ao q=>pow_int_small ao.1 ao.2.1 ao.2.2 q
theorem Pu {f:Value->Sem Value} {g:Int->Int}
  (rule : ∀ (i:Int) (t:Tok) (s:Shared) (Q:Value->Shared->Prop) (E:Value->Shared->Prop),Q (.int (g i) s.toks) { s with toks:=s.toks+1 }->wpAny (model X.prog X.w) X.A (f (.int i t)) Q E s) :
  uF X f (Dz λ i=>.int (g i)):=by
 intro pins s σ H x v Q I aT h;obtain ⟨i,rfl,q⟩:=h;obtain ⟨t,rfl⟩:=aT;exact rule i t s _ _ ⟨.int (g i),H,I.tok _,⟨_,rfl⟩,q⟩
theorem As:uF X (unaryOp .USub) (Dz λ i=>.int (-i)):=Pu λ _ _ _ _ _ q=>neg_int q
end
noncomputable def Fz:V->V->Bool
 | .bp,.bp=>true | .bp,.int _=>true | .int _,.bp=>true | .bp,.ba _=>true | .ba _,.bp=>true | .bp,.str _=>true | .str _,.bp=>true
 | .int _,.int _=>true | .ba _,.ba _=>true | .str _,.str _=>true | .iT _,.iT _=>true
 | .int _,.str _=>true | .str _,.int _=>true | .ba _,.str _=>true | .str _,.ba _=>true
 | _,_=>false
noncomputable def O2:e1:=λ x y H Q=>Fz x y=true/\Q (.ba (decide (x=y))) H
noncomputable def O4:e1:=λ x y H Q=>Fz x y=true/\Q (.ba (!decide (x=y))) H
theorem G2 {i j:Int}:decide (V.int i=V.int j)=(i == j):=by
 rw [Bool.eq_iff_iff];simp
theorem Gm {i j:Bool}:decide (V.ba i=V.ba j)=(i == j):=by
 rw [Bool.eq_iff_iff];simp
theorem G3 {i j:Str}:decide (V.str i=V.str j)=(i == j):=by
 rw [Bool.eq_iff_iff];simp
theorem G1 {i j:Array UInt8}:decide (V.iT i=V.iT j)=(i.toList == j.toList):=by
 rw [Bool.eq_iff_iff];cases i;cases j;simp
section
variable {X:aQ} {a b c:Expr} {aS bo cT:TE} {pos:Pos}
theorem d5 {pins:List (Addr×Obj)} {σ:St} {H:aj} {s:Shared} {Q:bz} {k fS:Bool} (I:Inv X pins σ H s) (q:Q (.ba k) H) (e:k=fS):fB X pins σ Q (.bool fS) s:=by
 subst e;exact ⟨.ba k,H,I,rfl,q⟩
theorem eW:dx X (compareOp .Eq) O2:=by
 intro pins s σ H x y v u Q I aT bb h;obtain ⟨aA,q⟩:=h;cases x with
 | bp =>
  cases aT;cases y with
  | bp=>cases bb;exact PySem.EqNone.eq_none_none (d5 I q (by simp))
  | ba j=>cases bb;exact PySem.EqNone.eq_none_bool (d5 I q (by simp))
  | int j=>obtain ⟨t',rfl⟩:=bb;exact PySem.EqNone.eq_none_int (d5 I q (by simp))
  | str j=>obtain ⟨t',rfl⟩:=bb;exact PySem.EqNone.eq_none_str (d5 I q (by simp))
  | _=>exact absurd (show false=true from aA) Bool.false_ne_true
 | ba i =>
  cases aT;cases y with
  | bp=>cases bb;exact PySem.EqNone.eq_bool_none (d5 I q (by simp))
  | ba j=>cases bb;exact eq_bool (d5 I q Gm)
  | str j=>obtain ⟨t',rfl⟩:=bb;exact PySem.EqMixed.eq_bool_str (d5 I q (by simp))
  | _=>exact absurd (show false=true from aA) Bool.false_ne_true
 | int i =>
  obtain ⟨t,rfl⟩:=aT;cases y with
  | bp=>cases bb;exact PySem.EqNone.eq_int_none (d5 I q (by simp))
  | int j=>obtain ⟨t',rfl⟩:=bb;exact eq_int (d5 I q G2)
  | str j=>obtain ⟨t',rfl⟩:=bb;exact PySem.EqMixed.eq_int_str (d5 I q (by simp))
  | _=>exact absurd (show false=true from aA) Bool.false_ne_true
 | str i =>
  obtain ⟨t,rfl⟩:=aT;cases y with
  | bp=>cases bb;exact PySem.EqNone.eq_str_none (d5 I q (by simp))
  | ba j=>cases bb;exact PySem.EqMixed.eq_str_bool (d5 I q (by simp))
  | int j=>obtain ⟨t',rfl⟩:=bb;exact PySem.EqMixed.eq_str_int (d5 I q (by simp))
  | str j=>obtain ⟨t',rfl⟩:=bb;exact eq_str (d5 I q G3)
  | _=>exact absurd (show false=true from aA) Bool.false_ne_true
 | iT i =>
  obtain ⟨t,rfl⟩:=aT;cases y with
  | iT j=>obtain ⟨t',rfl⟩:=bb;exact PySem.W.eq_bytes (d5 I q G1)
  | _=>exact absurd (show false=true from aA) Bool.false_ne_true
 | _=>cases y<;>exact absurd (show false=true from aA) Bool.false_ne_true
theorem ik:dx X (compareOp .NotEq) O4:=by
 intro pins s σ H x y v u Q I aT bb h;obtain ⟨aA,q⟩:=h;cases x with
 | bp =>
  cases aT;cases y with
  | bp=>cases bb;exact PySem.EqNone.ne_none_none (d5 I q (by simp))
  | ba j=>cases bb;exact PySem.EqNone.ne_none_bool (d5 I q (by simp))
  | int j=>obtain ⟨t',rfl⟩:=bb;exact PySem.EqNone.ne_none_int (d5 I q (by simp))
  | str j=>obtain ⟨t',rfl⟩:=bb;exact PySem.EqNone.ne_none_str (d5 I q (by simp))
  | _=>exact absurd (show false=true from aA) Bool.false_ne_true
 | ba i =>
  cases aT;cases y with
  | bp=>cases bb;exact PySem.EqNone.ne_bool_none (d5 I q (by simp))
  | ba j=>cases bb;exact ne_bool (d5 I q (congrArg not Gm))
  | str j=>obtain ⟨t',rfl⟩:=bb;exact PySem.EqMixed.ne_bool_str (d5 I q (by simp))
  | _=>exact absurd (show false=true from aA) Bool.false_ne_true
 | int i =>
  obtain ⟨t,rfl⟩:=aT;cases y with
  | bp=>cases bb;exact PySem.EqNone.ne_int_none (d5 I q (by simp))
  | int j=>obtain ⟨t',rfl⟩:=bb;exact ne_int (d5 I q (congrArg not G2))
  | str j=>obtain ⟨t',rfl⟩:=bb;exact PySem.EqMixed.ne_int_str (d5 I q (by simp))
  | _=>exact absurd (show false=true from aA) Bool.false_ne_true
 | str i =>
  obtain ⟨t,rfl⟩:=aT;cases y with
  | bp=>cases bb;exact PySem.EqNone.ne_str_none (d5 I q (by simp))
  | ba j=>cases bb;exact PySem.EqMixed.ne_str_bool (d5 I q (by simp))
  | int j=>obtain ⟨t',rfl⟩:=bb;exact PySem.EqMixed.ne_str_int (d5 I q (by simp))
  | str j=>obtain ⟨t',rfl⟩:=bb;exact ne_str (d5 I q (congrArg not G3))
  | _=>exact absurd (show false=true from aA) Bool.false_ne_true
 | iT i =>
  obtain ⟨t,rfl⟩:=aT;cases y with
  | iT j=>obtain ⟨t',rfl⟩:=bb;exact PySem.W.ne_bytes (d5 I q (congrArg not G1))
  | _=>exact absurd (show false=true from aA) Bool.false_ne_true
 | _=>cases y<;>exact absurd (show false=true from aA) Bool.false_ne_true
theorem kR:dx X (compareOp .Lt) (nK λ i j=>.ba (decide (i<j))):=vB λ _ _ _ _ _ _ _ q=>lt_int q
theorem F1:dx X (compareOp .LtE) (nK λ i j=>.ba (decide (i<=j))):=vB λ _ _ _ _ _ _ _ q=>le_int q
theorem jA:dx X (compareOp .Gt) (nK λ i j=>.ba (decide (j<i))):=vB λ _ _ _ _ _ _ _ q=>gt_int q
theorem vS:dx X (compareOp .GtE) (nK λ i j=>.ba (decide (j<=i))):=vB λ _ _ _ _ _ _ _ q=>ge_int q
theorem BE:dx X (compareOp .In) (λ x y H Q => ∃ i j,x=.str i/\y=.str j/\Q (.ba (!(Builtin.Str.occurrences j i 0 j.length 1).isEmpty)) H):=by
 intro pins s σ H x y v u Q I aT bb h;obtain ⟨i,j,rfl,rfl,q⟩:=h;obtain ⟨t,rfl⟩:=aT;obtain ⟨t',rfl⟩:=bb;exact in_str (d5 I q rfl)
theorem lT:dx X (compareOp .Is) (λ x y H Q=>y=.bp/\Q (.ba (decide (x=.bp))) H):=by
 intro pins s σ H x y v u Q I aT bb h;obtain ⟨rfl,q⟩:=h;cases bb;refine is_none_gen (d5 I q ?_);cases x<;>first
  | (cases aT;rfl)
  | (obtain ⟨t,rfl⟩:=aT;rfl)
theorem Tt:dx X (compareOp .IsNot) (λ x y H Q=>y=.bp/\Q (.ba (!decide (x=.bp))) H):=by
 intro pins s σ H x y v u Q I aT bb h;obtain ⟨rfl,q⟩:=h;cases bb;refine isnot_none_gen (d5 I q ?_);cases x<;>first
  | (cases aT;rfl)
  | (obtain ⟨t,rfl⟩:=aT;rfl)
theorem bM (b:Expr) {op:CmpOp} (h:op≠.In:=by decide) (aq:op≠.NotIn:=by decide):behindInMarks op b=false:=by
 have aE:(op == CmpOp.In)=false:=by cases op<;>first | rfl | exact absurd rfl h
 have aI:(op == CmpOp.NotIn)=false:=by cases op<;>first | rfl | exact absurd rfl aq
 cases b<;>simp [behindInMarks,aE,aI]
theorem Tz {op:CmpOp} {r:e1} (aO:dx X (compareOp op) r) (av:bK X a aS) (aa:bK X b bo) (hm:behindInMarks op b=false):bK X (.Compare a [op] [b] pos) (nQ r aS bo):=by
 intro pins s σ H Q I h;exact wpAny_Compare1 (zy av aa I h λ v u s2 x y aw bD aT bb q=>aO pins s2 σ aw x y v u Q bD aT bb q) hm
noncomputable def Gf (t:TE):TT:=λ σ H Q=>t σ H λ x H' => ∃ k,x=.ba k/\Q k H'
theorem TY {op:CmpOp} {r:e1} (aO:dx X (compareOp op) r) (av:bK X a aS) (aa:bK X b bo) (hm:behindInMarks op b=false):iG X (.Compare a [op] [b] pos) (Gf (nQ r aS bo)):=by
 intro pins s σ H Q I h;refine wpAny_isTrue_Compare1 (a_ (av pins s σ H _ I h) λ v s1 ⟨x,H1,aJ,bG,a6⟩=>a_ (aa pins s1 σ H1 _ aJ a6) λ u s2 ⟨y,aw,bD,cb,b0⟩ =>
  a_ (aO pins s2 σ aw x y v u _ bD bG cb b0) λ c s3 ⟨z,aH,bR,hD,k,e,ew⟩=>?_) hm
 subst e;cases hD;exact wpAny_truthy_bool ⟨aH,bR,ew⟩
theorem pn:(sizeLine:Nat)<2 ^ 63:=by rw [sizeLine_eq];decide
theorem vals1 {x:V} {us:List Value} (r:Vals [x] us) : ∃ u,us=[u]/\RelV x u:=by
 cases r with
 | cons bG cb=>cases cb;exact ⟨_,rfl,bG⟩
theorem vals2 {x y:V} {us:List Value} (r:Vals [x,y] us) : ∃ u cP,us=[u,cP]/\RelV x u/\RelV y cP:=by
 cases r with
 | cons bG cb =>
  cases cb with
  | cons hD hh=>cases hh;exact ⟨_,_,rfl,bG,hD⟩
theorem tA (ao:X.warm=true):eN X (.builtin "max") (λ xs H Q => ∃ i j,xs=[.int i,.int j]/\Q (.int (if j > i then j else i)) H):=by
 intro pins s σ H xs us Q I r h;obtain ⟨i,j,rfl,q⟩:=h;obtain ⟨u,cP,rfl,⟨t,rfl⟩,⟨t',rfl⟩⟩:=vals2 r;refine eO.max2 (I.kx ao) λ h' tk k=>⟨_,H,I.kept k,?_,q⟩
 by_cases bj:j > i
 ·rw [if_pos bj,if_pos bj];exact ⟨_,rfl⟩
 ·rw [if_neg bj,if_neg bj];exact ⟨_,rfl⟩
theorem Br (ao:X.calm=true):eN X (.builtin "min") (λ xs H Q => ∃ i j,xs=[.int i,.int j]/\Q (.int (if j<i then j else i)) H):=by
 intro pins s σ H xs us Q I r h;obtain ⟨i,j,rfl,q⟩:=h;obtain ⟨u,cP,rfl,⟨t,rfl⟩,⟨t',rfl⟩⟩:=vals2 r;refine min_two_ints (I.ok.hd.1 ao) λ h' tk k=>⟨_,H,I.kept k,?_,q⟩
 by_cases bj:j<i
 ·rw [if_pos bj,if_pos bj];exact ⟨_,rfl⟩
 ·rw [if_neg bj,if_neg bj];exact ⟨_,rfl⟩
theorem Wv:eN X (.type "int") (λ xs H Q=>(∃ i,xs=[.int i]/\Q (.int i) H) \/ ∃ k,xs=[.ba k]/\Q (.int (if k then 1 else 0)) H):=by
 intro pins s σ H xs us Q I r h;rcases h with ⟨i,rfl,q⟩ | ⟨k,rfl,q⟩
 ·obtain ⟨u,rfl,t,rfl⟩:=vals1 r;exact call_int_int ⟨.int i,H,I,⟨_,rfl⟩,q⟩
 ·obtain ⟨u,rfl,bG⟩:=vals1 r;cases bG;exact call_int_bool ⟨.int (if k then 1 else 0),H,I.tok _,⟨_,rfl⟩,q⟩
theorem tO:eN X (.type "str") (λ xs H Q => ∃ i,xs=[.int i]/\i.natAbs.log2<1920/\Q (.str (toString i)) H):=by
 intro pins s σ H xs us Q I r h;obtain ⟨i,rfl,aN,q⟩:=h;obtain ⟨u,rfl,t,rfl⟩:=vals1 r;exact PySem.P.str_of_int aN ⟨.str _,H,I.tok _,⟨_,rfl⟩,q⟩
end
structure pa (h:Heap) (x aG C:Addr) (c3:Str->Option Value):Prop where
 obj:h.get? x=some (PySem.W.instObj C aG)
 ns:h.Ns1 aG c3
 ne:aG≠x
theorem I3 {h:Heap} {aG:Addr} {c3:Str->Option Value} (n:h.Ns1 aG c3) : ∃ de,h.get? aG=some de /\ ∀ name,PySem.W.lookIn name de=some (c3 name):=by
 obtain ⟨o,es,ep,aO,hd,aB,_,hm⟩:=n;refine ⟨o,aO,λ name=>?_⟩;have e:=hm name;unfold nsFind findBy at e;rw [<-Array.find?_toList] at e;unfold PySem.W.lookIn;rw [hd];dsimp only;split
 ·rename_i y q;rw [q] at e;exact congrArg some e
 ·rename_i q;rw [q] at e;have a:es.toList.any (·.refKey)=false:=by
   rw [List.any_eq_false];intro y aL;obtain ⟨z,t,P4⟩:=aB y (Array.mem_toList_iff.mp aL);simp [DictEntry.refKey,P4]
  have iK : ¬ es.toList.any (·.refKey)=true:=by rw [a];exact Bool.false_ne_true
  rw [if_neg iK];exact congrArg some e
theorem pa.look {h:Heap} {x aG C:Addr} {c3:Str->Option Value} (I:pa h x aG C c3) : ∃ de,PySem.W.InstAt h x (PySem.W.instObj C aG) C (some de) /\ ∀ name,PySem.W.lookIn name de=some (c3 name) :=
 let ⟨de,aO,au⟩:=I3 I.ns
 ⟨de,⟨I.obj,rfl,rfl,aO⟩,au⟩
section
variable {prog:Program} {w:World} {A:Around} {E:Value->Shared->Prop} {s:Shared} {K:PySem.W.Frag} {x aG C f:Addr} {c3:Str->Option Value} {name:Str} {v:Value}
theorem get_map {expr:Bool} {Q:Value->Shared->Prop} (X:K.In s.heap) (I:pa s.heap x aG C c3) (aM:PySem.W.plainGet K C name=true) (bI:PySem.W.hasDictIn K C=true)
  (av:PySem.W.findIn K (.ref C) name=some none) (a7:c3 name=some v) (o2:PySem.W.handedIn v=true) (h:Q v { s with toks:=s.toks+1 }) :
  wpAny (model prog w) A (getAttr (.ref x) name expr) Q E s:=by
 obtain ⟨de,J,au⟩:=I.look;exact PySem.W.get_value X J (PySem.W.plainGet_of aM).1 (PySem.W.findObj_own bI av rfl (by rw [au,a7])) o2 h
theorem U6 {pl:Sem Bool} {Q:Value×List Value->Shared->Prop} (X:K.In s.heap) (I:pa s.heap x aG C c3) (aM:PySem.W.plainGet K C name=true)
  (hf:PySem.W.findIn K (.ref C) name=some (some (.ref f))) (aZ:PySem.W.isFn K (.ref f)=true) (a7:c3 name=none) (h:Q (.ref f,[.ref x]) s) :
  wpAny (model prog w) A (getMethod (.ref x) name pl) Q E s:=by
 obtain ⟨de,J,au⟩:=I.look;exact PySem.W.method_fn X J (PySem.W.plainGet_of aM).1 (PySem.W.plainGet_of aM).2 hf (beq_iff_eq.mp aZ) (by show (PySem.W.lookIn name de).map (·.isSome)=some false;rw [au,a7];rfl) h
theorem Uj {ns:List Str} {Q:Unit->Shared->Prop} (X:K.In s.heap) (I:pa s.heap x aG C c3)
  (aA:PySem.W.findIn K (.ref C) "__setattr__" = some (some (.builtin "object.__setattr__"))) (ay:PySem.W.plainOver K C=true) (aZ:PySem.W.takerIn K C name=some none) (bI:PySem.W.hasDictIn K C=true)
  (hw:PySem.Within c3 ns) (hsz:ns.length<=sizeLine)
  (h : ∀ h',pa h' x aG C (λ y=>if y=name then some v else c3 y)->Heap.SameBut aG s.heap h'->Q () { s with heap:=h',toks:=s.toks+2 }) :
  wpAny (model prog w) A (setAttr (.ref x) name v) Q E s:=by
 obtain ⟨de,J,au⟩:=I.look;refine PySem.W.set_plain X J aA (PySem.W.osa_open (s:={ s with toks:=s.toks+1 }) (r:=none) X J ay aZ λ b=>?_);obtain ⟨cd,ao,gT⟩:=PySem.W.any_some bI;have ah:s.heap.get? x=some ⟨.ref C,some aG,.plain,#[]⟩:=I.obj;refine wpAny_bind (wpAny_pure (wpAny_bind (wpAny_bind (wpAny_loadPart ah (wpAny_bind (PySem.W.Looks.here (s:={ s with toks:=s.toks+1 }) (PySem.W.looks_clsIn X ao) ?_))))));rw [gT];refine wpAny_pure (a:=some aG) (wpAny_bind (wpAny_pure (wpAny_bind ?_)));refine wpAny_nsSet1 (s:={ s with toks:=s.toks+1 }) I.ns λ h' hP fu=>?_
 obtain ⟨LN,MD,MC,y2,yM,yK⟩:=hP.count (PySem.Within.cons name v hw);refine wpAny_bind (wpAny_lookBehind y2 (by rw [yM];exact pastItsLine_dict (Nat.le_trans yK (by rw [List.length_cons];omega))) ?_);exact wpAny_pure (h _ ⟨(fu.2 _ (Ne.symm I.ne)).trans I.obj,hP,I.ne⟩ fu)
theorem Vd {R:Result->Shared->Prop} {vs:List Value} {kw:List (Str×Value)} (X:K.In s.heap) (hm:PySem.W.makesIn K C=true)
  (ax:PySem.W.findIn K (.ref C) "__init__" = some (some (.ref f))) (hf:PySem.W.typeIn K (.ref f)=some (.type "function"))
  (h:codeAny (model prog w) (A.under (.builtin "type.__call__" ⟨.ref C::vs,kw⟩)) (.call (.ref f) ⟨.ref (s.heap.objs.size+1)::vs,kw⟩) (PySem.W.InitBack (s.heap.objs.size+1) R)
   { s with heap:=(s.heap.push PySem.W.emptyDict).push (PySem.W.instObj C s.heap.objs.size) }) :
  codeAny (model prog w) A (.call (.ref C) ⟨vs,kw⟩) R s:=by
 obtain ⟨bI,g,d,t,os⟩:=s;exact PySem.W.make_core (PySem.W.makes_of X hm) (PySem.W.looks_findIn X ax) (λ self=>PySem.W.bind_fn X self hf) (.inl rfl) h
end
noncomputable def hu (f:Str) (v:V):List (Str×V)->List (Str×V)
 | []=>[(f,v)]
 | (g,x)::r=>if g=f then (g,v)::r else (g,x)::hu f v r
theorem JT (f g:Str) (v:V) : ∀ ak:List (Str×V),(hu f v ak).lookup g=if g=f then some v else ak.lookup g
 | []=>by
  show List.lookup g [(f,v)]=_;by_cases h:g=f
  ·have aa:(g == f)=true:=beq_iff_eq.mpr h;simp only [List.lookup,aa,if_pos h]
  ·have aa:(g == f)=false:=beq_eq_false_iff_ne.mpr h;simp only [List.lookup,aa,if_neg h]
 | (k,x)::r=>by
  have cI:=JT f g v r;rw [show hu f v ((k,x)::r)=(if k=f then (k,v)::r else (k,x)::hu f v r) from rfl];by_cases aB:k=f
  ·rw [if_pos aB];by_cases h:g=k
   ·have aa:(g == k)=true:=beq_iff_eq.mpr h;simp only [List.lookup,aa,if_pos (h.trans aB)]
   ·have aa:(g == k)=false:=beq_eq_false_iff_ne.mpr h;simp only [List.lookup,aa,if_neg (λ e:g=f=>h (e.trans aB.symm))]
  ·rw [if_neg aB];by_cases h:g=k
   ·have aa:(g == k)=true:=beq_iff_eq.mpr h;simp only [List.lookup,aa,if_neg (λ e:g=f=>aB (h.symm.trans e))]
   ·have aa:(g == k)=false:=beq_eq_false_iff_ne.mpr h;simp only [List.lookup,aa];exact cI
theorem By (f:Str) (v:V) : ∀ ak:List (Str×V),f∈(hu f v ak).map (·.1) /\ ∀ g,g∈ak.map (·.1)->g∈(hu f v ak).map (·.1)
 | []=>⟨by simp [hu],λ g h=>by simp at h⟩
 | (k,x)::r=>by
  obtain ⟨er,hg⟩:=By f v r;rw [show hu f v ((k,x)::r)=(if k=f then (k,v)::r else (k,x)::hu f v r) from rfl];by_cases aB:k=f
  ·rw [if_pos aB];subst aB;exact ⟨by simp,λ g h=>by simpa using h⟩
  ·rw [if_neg aB];refine ⟨?_,λ g h=>?_⟩
   ·rw [List.map_cons];exact List.mem_cons_of_mem _ er
   ·rw [List.map_cons] at h ⊢;rcases List.mem_cons.mp h with e | e
    ·exact List.mem_cons.mpr (.inl e)
    ·exact List.mem_cons_of_mem _ (hg g e)
theorem JS (f:Str) (v:V) : ∀ ak:List (Str×V),(hu f v ak).length<=ak.length+1
 | []=>by simp [hu]
 | (k,x)::r=>by
  have cI:=JS f v r;rw [show hu f v ((k,x)::r)=(if k=f then (k,v)::r else (k,x)::hu f v r) from rfl];by_cases aB:k=f
  ·rw [if_pos aB,List.length_cons,List.length_cons];omega
  ·rw [if_neg aB,List.length_cons,List.length_cons];omega
theorem gv.some_of {v:V} {o:Option Value} (r:gv (some v) o) : ∃ u,o=some u/\RelV v u:=by
 cases o with
 | none=>exact (show False from r).elim
 | some u=>exact ⟨u,rfl,r⟩
theorem gv.none_of {o:Option Value} (r:gv none o):o=none:=by
 cases o with
 | none=>rfl
 | some u=>exact (show False from r).elim
theorem IV {v:V} {u:Value} (r:RelV v u):PySem.W.handedIn u=true:=by
 cases v with
 | bp=>cases (show u=Value.none from r);rfl
 | ba b=>cases (show u=Value.bool b from r);rfl
 | int i=>obtain ⟨t,e⟩:=(show ∃ t,u=Value.int i t from r);cases e;rfl
 | str x=>obtain ⟨t,e⟩:=(show ∃ t,u=Value.str x t from r);cases e;rfl
 | iT b=>obtain ⟨t,e⟩:=(show ∃ t,u=Value.bytes b t from r);cases e;rfl
 | mx b=>obtain ⟨t,e⟩:=(show ∃ t,u=Value.float b t from r);cases e;rfl
 | ref a=>cases (show u=Value.ref a from r);rfl
 | ty n=>cases (show u=Value.type n from r);rfl
section
variable {P:Program} {w:World} {H H':aj} {h h':Heap} {a C aG:Addr} {ak MI:List (Str×V)}
theorem wj (a0:dM P w H h) (e:H a=some (.ins C aG ak)) : ∃ c3,pa h a aG C c3/\(∀ f,gv (ak.lookup f) (c3 f))/\PySem.Within c3 (ak.map (·.1))/\ak.length<=1000/\H aG=some (.own a):=by
 obtain ⟨d,z,ne,bJ,c3,n,r,q⟩:=(show dv P w H h a (.ins C aG ak) from a0 a _ e)
 exact ⟨c3,⟨bJ,n,ne⟩,r,q,z,d⟩
end
structure hi (K:PySem.W.Frag) (C:Addr):Prop where
 LP:PySem.W.plainGet K C Str.empty=true
 hd:PySem.W.hasDictIn K C=true
 po:PySem.W.plainOver K C=true
 xU:PySem.W.findIn K (.ref C) "__setattr__" = some (some (.builtin "object.__setattr__"))
theorem hi.get {K:PySem.W.Frag} {C:Addr} (c:hi K C) (f:Str):PySem.W.plainGet K C f=true:=c.LP
noncomputable def lR (K:PySem.W.Frag) (C:Addr) (f:Str):Prop:=PySem.W.findIn K (.ref C) f=some none
theorem lR.Rq {K:PySem.W.Frag} {C:Addr} {f:Str} (n:lR K C f):PySem.W.takerIn K C f=some none:=by
 unfold PySem.W.takerIn;rw [show PySem.W.findIn K (.ref C) f=some none from n];rfl
structure Meth (K:PySem.W.Frag) (C:Addr) (m:Str) (f:Addr):Prop where
 at_:PySem.W.findIn K (.ref C) m=some (some (.ref f))
 fn:PySem.W.isFn K (.ref f)=true
 bZ:PySem.W.keepIn K (.ref f)=true
section
variable {X:aQ} {pins:List (Addr×Obj)} {σ:St} {H:aj} {s:Shared} {a C aG:Addr} {ak:List (Str×V)} {f:Str} {v:V} {A:Around} {E:Value->Shared->Prop}
theorem X9 {b:Bool} {Q:Value->Shared->Prop} (I:Inv X pins σ H s) (e:H a=some (.ins C aG ak)) (c:hi X.K C) (n:lR X.K C f) (l:ak.lookup f=some v)
  (h : ∀ u s',Inv X pins σ H s'->RelV v u->Q u s'):wpAny (model X.prog X.w) A (getAttr (.ref a) f b) Q E s:=by
 obtain ⟨c3,O,r,_,_,_⟩:=wj I.a0 e;obtain ⟨u,b_,dA⟩:=gv.some_of (v:=v) (o:=c3 f) (by rw [<-l];exact r f);exact get_map I.dh O (c.get f) c.hd n b_ (IV dA) (h u _ (I.tok _) dA)
theorem Jp {m:Str} {g:Addr} {pl:Sem Bool} {Q:Value×List Value->Shared->Prop} (I:Inv X pins σ H s) (e:H a=some (.ins C aG ak)) (c:hi X.K C) (k:Meth X.K C m g) (l:ak.lookup m=none)
  (h:Q (.ref g,[.ref a]) s):wpAny (model X.prog X.w) A (getMethod (.ref a) m pl) Q E s:=by
 obtain ⟨c3,O,r,_,_,_⟩:=wj I.a0 e;have aC:c3 m=none:=gv.none_of (by rw [<-l];exact r m);exact U6 I.dh O (c.get m) k.at_ k.fn aC h
theorem YD {y:V} {u:Value} {Q:Unit->Shared->Prop} (I:Inv X pins σ H s) (e:H a=some (.ins C aG ak)) (c:hi X.K C) (n:lR X.K C f) (au:ak.length<1000) (bb:RelV y u)
  (h : ∀ s',Inv X pins σ (upd H a (.ins C aG (hu f y ak))) s'->Q () s'):wpAny (model X.prog X.w) A (setAttr (.ref a) f u) Q E s:=by
 obtain ⟨c3,O,r,e2,_,aO⟩:=wj I.a0 e;have aN:(ak.map (·.1)).length<=sizeLine:=by rw [List.length_map,sizeLine_eq];omega
 refine Uj I.dh O c.xU c.po n.Rq c.hd e2 aN λ h' xj dB=>h _ ?_
 have hd : ∃ o,h'.get? aG=some o:=let ⟨o,_,_,b5,_⟩:=xj.ns;⟨o,b5⟩
 refine I.write (x:=a) (e:=aG) (by rw [e];exact True.intro) (.inr aO) (λ b q aa z=>(dB.2 b aa).trans z) hd ?_;refine ⟨by rw [a3 O.ne];exact aO,?_,O.ne,xj.obj,_,xj.ns,λ g=>?_,λ g aM=>?_⟩
 ·have:=JS f y ak;omega
 ·show gv ((hu f y ak).lookup g) (if g=f then some u else c3 g);rw [JT];by_cases q:g=f
  ·rw [if_pos q,if_pos q];exact bb
  ·rw [if_neg q,if_neg q];exact r g
 ·by_cases q:g=f
  ·rw [q];exact (By f y ak).1
  ·refine (By f y ak).2 g (e2 g λ z=>aM ?_);show (if g=f then some u else c3 g)=none;rw [if_neg q];exact z
theorem Inv.made (I:Inv X pins σ H s):Inv X pins σ (upd (upd H s.heap.objs.size (.own (s.heap.objs.size+1))) (s.heap.objs.size+1) (.ins C s.heap.objs.size []))
  { s with heap:=(s.heap.push PySem.W.emptyDict).push (PySem.W.instObj C s.heap.objs.size) }:=by
 have aE:(s.heap.push PySem.W.emptyDict).get? s.heap.objs.size=some PySem.W.emptyDict:=Heap.get?_push_size s.heap rfl;have aI:((s.heap.push PySem.W.emptyDict).push (PySem.W.instObj C s.heap.objs.size)).get? (s.heap.objs.size+1)=some (PySem.W.instObj C s.heap.objs.size):=by
  have:=Heap.get?_push_size (s.heap.push PySem.W.emptyDict) (o:=PySem.W.instObj C s.heap.objs.size) rfl
  rwa [Heap.size_push] at this
 have cx:(s.heap.push PySem.W.emptyDict).Ns s.heap.objs.size (λ _=>none):=⟨PySem.W.emptyDict,#[],_,aE,rfl,(λ e he=>absurd he (by simp)),λ _=>rfl⟩
 have aJ:=I.laid (a:=s.heap.objs.size) (o:=.own (s.heap.objs.size+1)) (h':=s.heap.push PySem.W.emptyDict) (t':=s.toks) (λ b u q=>Heap.get?_push_of_some _ q) (Nat.le_refl _) ⟨_,aE⟩;refine aJ.laid (a:=s.heap.objs.size+1) (o:=.ins C s.heap.objs.size []) (t':=s.toks) (λ b u q=>Heap.get?_push_of_some _ q) (Nat.le_of_eq (Heap.size_push _ _)) ?_;have ne:s.heap.objs.size≠s.heap.objs.size+1:=Nat.ne_of_lt (Nat.lt_succ_self _);refine ⟨by rw [a3 ne,br],Nat.zero_le _,ne,aI,λ _=>none,(Heap.Ns1.of_empty cx).at λ o q=>Heap.get?_push_of_some _ q,λ _=>True.intro,λ y aL=>absurd rfl aL⟩
theorem GS {prog:Program} {w:World} {env:Env} {e:Expr} {f:Str} {pos:Pos} {s:Shared} {Q:Value->Shared->Prop} (aa:attributeBase e f env (eval e env)=eval e env)
  (h:wpAny (model prog w) A (eval e env) (λ o s₁=>wpAny (model prog w) A (getAttr o f true) Q E s₁) E s):wpAny (model prog w) A (eval (.Attribute e f pos) env) Q E s :=
 Attribute_any_ h (by rw [arm_eval_Attribute,aa])
end
noncomputable def FC (K:PySem.W.Frag) (aS:TE) (f:Str):TE:=λ σ H Q=>aS σ H λ x H1 => ∃ a C aG ak v,x=.ref a/\H1 a=some (.ins C aG ak)/\hi K C/\lR K C f/\ak.lookup f=some v/\Q v H1
noncomputable def Fy (K:PySem.W.Frag) (aS eT:TE) (f:Str):cX:=λ D σ H=>eT σ H λ y H1=>aS σ H1 λ x aw => ∃ a C aG ak,x=.ref a/\aw a=some (.ins C aG ak)/\hi K C/\lR K C f/\ak.length<1000 /\
 D.bl σ (upd aw a (.ins C aG (hu f y ak)))
section
variable {X:aQ} {o e value:Expr} {f:Str} {pos pos' vH:Pos} {aS eT:TE}
theorem R0 (he:bK X e aS) (aa:attributeBase e f X.env (eval e X.env)=eval e X.env):bK X (.Attribute e f pos) (FC X.K aS f):=by
 intro pins s σ H Q I h;refine GS aa (a_ (he pins s σ H _ I h) λ u s1 ⟨x,H1,aJ,aT,a,C,aG,ak,v,ex,dG,c,n,l,q⟩=>?_);subst ex;obtain rfl:u=Value.ref a:=aT;exact X9 aJ dG c n l λ mh s2 bD dA=>⟨v,H1,bD,dA,q⟩
theorem Sf (av:bK X o aS) (a7:bK X value eT) (aA:swapsWith value (some (.Attribute o f pos')) pos.line X.env=pure false):iF X (.Assign [.Attribute o f pos'] value pos) (Fy X.K aS eT f):=by
 intro pins s σ H D I h;refine plainObj_wpAny_Assign_Attribute (a_ (a7 pins s σ H _ I h) λ u s1 ⟨y,H1,aJ,bb,q⟩=>a_ (av pins s1 σ H1 _ aJ q) λ cO s2 ⟨x,aw,bD,aT,a,C,aG,ak,ex,dG,c,n,l,b0⟩=>?_) aA;subst ex;obtain rfl:cO=Value.ref a:=aT;exact YD bD dG c n l bb λ s3 bR=>⟨σ,_,bR,b0⟩
end
section
variable {X:aQ} {pins:List (Addr×Obj)} {σ:St} {H:aj} {s:Shared} {A:Around} {E:Value->Shared->Prop} {Q:Value->Shared->Prop} {c:Value} {b:Bool}
inductive hr (K:PySem.W.Frag) (H:aj):V->Value->Prop where
 | bp:hr K H .bp (.type "NoneType")
 | ba (x:Bool):hr K H (.ba x) (.type "bool")
 | int (i:Int):hr K H (.int i) (.type "int")
 | str (x:Str):hr K H (.str x) (.type "str")
 | mx (x:UInt64):hr K H (.mx x) (.type "float")
 | lst {a:Addr} {xs:List V} (e:H a=some (.lst xs)):hr K H (.ref a) (.type "list")
 | hL {a:Addr} {o:Obj} {xs:List V} (e:H a=some (.hL o (.lst xs))):hr K H (.ref a) (.type "list")
 | tup {a:Addr} {xs:List V} (e:H a=some (.tup xs)):hr K H (.ref a) (.type "tuple")
 | cM {a:Addr} {kvs:List (Key×V)} (e:H a=some (.cM kvs)):hr K H (.ref a) (.type "dict")
 | eI {a:Addr} {kvs:List (List Key×V)} (e:H a=some (.eI kvs)):hr K H (.ref a) (.type "dict")
 | ins {a C aG:Addr} {ak:List (Str×V)} (e:H a=some (.ins C aG ak)) (cl:hi K C) (av:PySem.W.findIn K (.ref C) "__class__" = some (some (.builtin "object.__class__")))
   (aC:PySem.W.specialIn K (.builtin "object.__class__") "__get__" = some (some (.builtin "getset_descriptor.__get__"))) (nG:PySem.W.takesIn K (.builtin "object.__class__")=some true)
   (hm:PySem.W.mroIn K C (.type "object")=some true):hr K H (.ref a) (.ref C)
theorem WN {x:V} {u t:Value} (I:Inv X pins σ H s) (aT:RelV x u) (ty:hr X.K H x t) (e:PySem.W.kitOne X.K t c=some b) (h : ∀ tk,Q (.bool b) { s with toks:=tk }) :
  wpAny (model X.prog X.w) A (call (.builtin "isinstance") [u,c]) Q E s:=by
 cases ty with
 | bp=>cases (show u=Value.none from aT);exact PySem.W.kia_one PySem.W.kitx_none I.dh True.intro e (λ z=>nomatch z) h
 | ba y=>cases (show u=Value.bool y from aT);exact PySem.W.kia_one PySem.W.kitx_bool I.dh True.intro e (λ z=>nomatch z) h
 | int i=>obtain ⟨t,q⟩:=(show ∃ t,u=Value.int i t from aT);cases q;exact PySem.W.kia_one PySem.W.kitx_int I.dh True.intro e (λ z=>nomatch z) h
 | str y=>obtain ⟨t,q⟩:=(show ∃ t,u=Value.str y t from aT);cases q;exact PySem.W.kia_one PySem.W.kitx_str I.dh True.intro e (λ z=>nomatch z) h
 | mx y=>obtain ⟨t,q⟩:=(show ∃ t,u=Value.float y t from aT);cases q;exact PySem.W.kia_one PySem.W.kitx_float I.dh True.intro e (λ z=>nomatch z) h
 | @lst a xs dG =>
  cases (show u=Value.ref a from aT);obtain ⟨_,_,n,_,af⟩:=(show dv X.prog X.w H s.heap a (.lst xs) from I.a0 a _ dG)
  exact PySem.W.kia_one PySem.W.kitx_list I.dh ⟨_,af,rfl⟩ e (λ z=>nomatch z) h
 | @hL a bJ xs dG =>
  cases (show u=Value.ref a from aT);obtain ⟨_,_,_,n,_,af⟩:=(show dv X.prog X.w H s.heap a (.hL bJ (.lst xs)) from I.a0 a _ dG)
  exact PySem.W.kia_one PySem.W.kitx_list I.dh ⟨_,af,rfl⟩ e (λ z=>nomatch z) h
 | @tup a xs dG =>
  cases (show u=Value.ref a from aT);obtain ⟨_,_,_,d8⟩:=(show dv X.prog X.w H s.heap a (.tup xs) from I.a0 a _ dG)
  have p:=d8.up;obtain ⟨o,af,aq,_⟩:=p;exact PySem.W.kia_one PySem.W.kitx_tuple I.dh ⟨o,af,aq⟩ e (λ z=>nomatch z) h
 | @cM a kvs dG =>
  cases (show u=Value.ref a from aT);obtain ⟨_,_,vs,_,p⟩:=(show dv X.prog X.w H s.heap a (.cM kvs) from I.a0 a _ dG)
  obtain ⟨o,es,ep,af,aq,_⟩:=p;exact PySem.W.kia_one PySem.W.kitx_dict I.dh ⟨o,af,aq.1⟩ e (λ z=>nomatch z) h
 | @eI a kvs dG =>
  cases (show u=Value.ref a from aT);obtain ⟨_,_,xs,_,o,es,ep,af,aq,_⟩:=(show dv X.prog X.w H s.heap a (.eI kvs) from I.a0 a _ dG)
  exact PySem.W.kia_one PySem.W.kitx_dict I.dh ⟨o,af,aq.1⟩ e (λ z=>nomatch z) h
 | @ins a C aG ak dG cl av aC nG hm =>
  cases (show u=Value.ref a from aT);obtain ⟨c3,O,_⟩:=wj I.a0 dG;obtain ⟨de,J,_⟩:=O.look;exact PySem.W.kia_one (PySem.W.kitx_own (cl.get _) cl.hd av aC nG hm) I.dh J e (λ z=>nomatch z) h
end
structure c_ (k:Nat) (A:Around):Prop where
 hd:A.handled=none
 k6:A.depth+3 * k+5<recursionLimit
 un:A.units+16 * k+200<cLine
 ui:A.guards=some []
theorem c_.mono {j k:Nat} {A:Around} (r:c_ k A) (h:j<=k):c_ j A:=⟨r.hd,by have:=r.k6;omega,by have:=r.un;omega,r.ui⟩
theorem c_.deeper {k:Nat} {A:Around} (r:c_ (k+1) A) (env:Env):c_ k (A.deeper env) :=
 ⟨r.hd,by have:=r.k6;show A.depth+1+3 * k+5<_;omega,by have:=r.un;show A.units+3+16 * k+200<_;omega,r.ui⟩
theorem Yk {A:Around} {C:Addr} {us:List Value} {kw:List (Str×Value)}:(A.under (.builtin "type.__call__" ⟨.ref C::us,kw⟩)).depth=A.depth+1:=by
 first | rfl | simp [Around.under,Code.weight,Code.isCreation,Code.isGuard,Code.isCaller,Code.frames,Code.isFrame,guardIds]
theorem Yl {A:Around} {C:Addr} {us:List Value} {kw:List (Str×Value)}:(A.under (.builtin "type.__call__" ⟨.ref C::us,kw⟩)).units=A.units+1:=by
 first | rfl | simp [Around.under,Code.cUnits,Code.frames,Code.isFrame]
theorem c_.make {k:Nat} {A:Around} (r:c_ (k+1) A) (C:Addr) (us:List Value) (kw:List (Str×Value)):c_ k (A.under (.builtin "type.__call__" ⟨.ref C::us,kw⟩)) :=
 ⟨r.hd,by have:=r.k6;rw [Yk];omega,by have:=r.un;rw [Yl];omega,by have h:=r.ui;simp [Around.under,Code.guards,Code.isGuard,guardIds,pushGuards,h]⟩
theorem c_.depth {k:Nat} {A:Around} (r:c_ k A):A.depth<recursionLimit:=by have:=r.k6;omega
theorem c_.units {k:Nat} {A:Around} (r:c_ k A):A.units+64<cLine:=by have:=r.un;omega
noncomputable def kM:cH:=λ _ H Q=>Q [] H
noncomputable def vV (aS:TE) (LZ:cH):cH:=λ σ H Q=>aS σ H λ x H1=>LZ σ H1 λ xs aw=>Q (x::xs) aw
section
variable {X:aQ} {e:Expr} {es:List Expr} {bc:TE} {t:cH} {pos:Pos}
theorem RY:gB X [] kM:=λ _ _ _ _ H Q I h=>Calls.spliced_nil ⟨[],H,I,.nil,h⟩
theorem Tv (av:bK X e bc) (ar:gB X es t) (aA:starEach (e::es) X.env=(false,eval e X.env)::starEach es X.env:=by rfl):gB X (e::es) (vV bc t):=by
 intro pos pins s σ H Q I h;rw [aA];show wpAny _ _ (spliced ((false,eval e X.env)::backTo pos (starEach es X.env))) _ _ s;refine Calls.spliced_cons (a_ (av pins s σ H _ I h) λ u s1 ⟨x,H1,aJ,bG,a6⟩=>?_);exact a_ (ar pos pins s1 σ H1 _ aJ a6) λ us s2 ⟨xs,aw,bD,cb,b0⟩=>⟨x::xs,aw,bD,.cons bG cb,b0⟩
noncomputable def FK (t:cH):TE:=λ σ H Q=>t σ H λ xs H1=>xs.length<=sizeLine /\ ∀ p,H1 p=none->Q (.ref p) (upd H1 p (.tup xs))
noncomputable def FF (t:cH):TE:=λ σ H Q=>t σ H λ xs H1=>xs.length<=sizeLine /\ ∀ p,H1 p=none->Q (.ref p) (upd H1 p (.lst xs))
theorem R6 {eJ} (h:gB X es t):bK X (.Tuple es eJ pos) (FK t):=by
 intro pins s σ H Q I aR;refine wpAny_Tuple_spliced (a_ (h pos pins s σ H _ I aR) λ us s1 ⟨xs,H1,aJ,r,z,q⟩=>⟨by rw [<-r.length];exact z,?_⟩);have hf:H1 s1.heap.objs.size=none:=aJ.a0.fresh (Nat.le_refl _);refine ⟨.ref s1.heap.objs.size,upd H1 s1.heap.objs.size (.tup xs),aJ.laid (t':=s1.toks) (λ b u e=>Heap.get?_push_of_some _ e) (Nat.le_refl _) ?_,rfl,q _ hf⟩;exact ⟨z,us,r,⟨_,Heap.get?_push_size _ rfl,rfl,⟨_,rfl⟩,rfl⟩⟩
theorem R2 (h:gB X es t):bK X (.List es pos) (FF t):=by
 intro pins s σ H Q I aR;refine wpAny_List_spliced (a_ (h pos pins s σ H _ I aR) λ us s1 ⟨xs,H1,aJ,r,z,q⟩=>⟨by rw [<-r.length];exact z,?_⟩);have hf:H1 s1.heap.objs.size=none:=aJ.a0.fresh (Nat.le_refl _);refine ⟨.ref s1.heap.objs.size,upd H1 s1.heap.objs.size (.lst xs),aJ.laid (t':=s1.toks) (λ b u e=>Heap.get?_push_of_some _ e) (Nat.le_refl _) ?_,rfl,q _ hf⟩;exact ⟨z,us,0,r,Heap.get?_push_size _ rfl⟩
end
noncomputable abbrev bF:=List V->aj->bz->dF->Prop
noncomputable abbrev hG:=List Env->aj->Shared->dF->Value->Shared->Prop
structure mV (P:Program) (w:World) (K:PySem.W.Frag) (mg:Str->Option Value) (base:Heap) (A:Around) (outer:List Env) (s:Shared) (H:aj):Prop where
 frames:A.frames=some outer
 mod:Mod K mg base
 bs : ∀ b o,base.get? b=some o->s.heap.get? b=some o/\H b=none
 hK:base.objs.size<=s.heap.objs.size
 hs:s.heap.FunFrames base outer
 jT : ∀ b∈eV outer,H b=none
 a0:dM P w H s.heap
 bare:AllBare s.gens
noncomputable def tY (outer:List Env) (P:Program) (w:World) (H:aj) (s:Shared) (Q:bz) (u:Value) (s':Shared):Prop :=
 ∃ v H',s'.os=s.os/\AllBare s'.gens/\eH (eV outer) [] H H' s.heap s'.heap/\dM P w H' s'.heap/\RelV v u/\Q v H'
noncomputable def Di (cc:hG) (outer:List Env) (P:Program) (w:World) (H:aj) (s:Shared) (Q:bz) (E:dF) (r:Result) (s':Shared):Prop :=
 match r with
 | .ok (.ret u)=>tY outer P w H s Q u s'
 | .ok _=>False
 | .error e=>cc outer H s E e s'
structure d3 (P:Program) (w:World) (K:PySem.W.Frag) (mg:Str->Option Value) (base:Heap) (cc:hG) (k:Nat) (f:Addr) (fd:FuncData) (ag:List Str) (sp:bF):Prop where
 len : ∀ vs H Q E,sp vs H Q E->vs.length=ag.length
 run : ∀ (A:Around) (outer:List Env) (s:Shared) (H:aj) (args:Args) (us:List Value) (vs:List V) (Q:bz) (E:dF),c_ k A->mV P w K mg base A outer s H->BindsTo s fd args (ag.zip us)->Vals vs us->sp vs H Q E ->
  codeAny (model P w) A (.call (.ref f) args) (Di cc outer P w H s Q E) s
theorem d3.imp {P:Program} {w:World} {K:PySem.W.Frag} {mg:Str->Option Value} {base:Heap} {cc:hG} {k:Nat} {f:Addr} {fd:FuncData} {ag:List Str} {sp EJ:bF} (F:d3 P w K mg base cc k f fd ag sp)
  (h : ∀ vs H Q E,EJ vs H Q E->sp vs H Q E):d3 P w K mg base cc k f fd ag EJ :=
 ⟨λ vs H Q E q=>F.len vs H Q E (h _ _ _ _ q),λ A outer s H args us vs Q E ar he aa a7 aA=>F.run A outer s H args us vs Q E ar he aa a7 (h _ _ _ _ aA)⟩
theorem mV.make {P:Program} {w:World} {K:PySem.W.Frag} {mg:Str->Option Value} {base:Heap} {A:Around} {outer:List Env} {s:Shared} {H:aj} (e:mV P w K mg base A outer s H) (C:Addr) (us:List Value) (kw:List (Str×Value)) :
  mV P w K mg base (A.under (.builtin "type.__call__" ⟨.ref C::us,kw⟩)) outer s H:=⟨by first | exact e.frames | (simpa [Around.under,Code.envs,Code.isFrame,pushEnvs] using e.frames),e.mod,e.bs,e.hK,e.hs,e.jT,e.a0,e.bare⟩
section
variable {X:aQ} {pins:List (Addr×Obj)} {σ:St} {H:aj} {s s':Shared}
theorem Inv.qo (I:Inv X pins σ H s):mV X.prog X.w X.K X.mg X.base X.A X.stack s H :=
 ⟨I.ok.frames,I.ok.mod,I.bs,Nat.le_trans I.ok.hK I.gb,I.stack,I.qP,I.a0,I.bare⟩
theorem Inv.after {Q:bz} {u:Value} (I:Inv X pins σ H s) (h:tY X.stack X.prog X.w H s Q u s'):fB X pins σ Q u s':=by
 obtain ⟨v,H',os,bare,un,a0,r,q⟩:=h;obtain ⟨bI,g,d,t,OW⟩:=s';obtain rfl:OW=s.os:=os;exact ⟨v,H',I.call (h':=bI) (g':=g) (d':=d) (t':=t) (ch:=[]) un a0 bare (λ b z=>absurd z (by simp)),r,q⟩
end
noncomputable def pk (sp:bF) (dC:List V) (E:dF) (t:cH):TE:=λ σ H Q=>t σ H λ vs H1=>sp (vs++dC) H1 Q E
noncomputable def vX (C:Addr) (m:Str) (sp:bF) (dC:List V) (E:dF) (aS:TE) (t:cH):TE:=λ σ H Q=>aS σ H λ x H1 => ∃ a aG ak,x=.ref a/\H1 a=some (.ins C aG ak)/\ak.lookup m=none /\
 t σ H1 λ vs aw=>sp (x::(vs++dC)) aw Q E
noncomputable def vW (C:Addr) (sp:bF) (dC:List V) (E:dF) (t:cH):TE:=λ σ H Q=>t σ H λ vs H1 => ∀ x aG,H1 x=none->H1 aG=none->aG≠x ->
 sp (.ref x::(vs++dC)) (upd (upd H1 aG (.own x)) x (.ins C aG [])) (λ v aw=>v=.bp/\Q (.ref x) aw) E
noncomputable def Binds (K:PySem.W.Frag) (fd:FuncData) (ag:List Str) (ds:List Value):Prop :=
 ∀ (s:Shared) (us:List Value),K.In s.heap->(us++ds).length=ag.length->BindsTo s fd ⟨us,[]⟩ (ag.zip (us++ds))
theorem Binds.all {K:PySem.W.Frag} {fd:FuncData} {ag:List Str} (h : ∀ us:List Value,us.length=ag.length->bindArgs fd ⟨us,[]⟩=pure (ag.zip us)):Binds K fd ag []:=λ s us _ au=>by
 rw [List.append_nil] at au ⊢;exact .of_eq (h us au)
noncomputable def Passes (cc:hG) (X:aQ) (E:dF):Prop := ∀ (pins:List (Addr×Obj)) (σ:St) (H:aj) (s:Shared) (e:Value) (s':Shared),Inv X pins σ H s->cc X.stack H s E e s'->X.cB e s'
section
variable {X:aQ} {cc:hG} {k:Nat} {f C:Addr} {fd:FuncData} {ag:List Str} {sp:bF} {dC:List V} {ds:List Value} {E:dF} {x m:Str} {p pos apos:Pos} {e o:Expr} {es:List Expr} {aS:TE} {t:cH}
theorem wa {pins:List (Addr×Obj)} {σ:St} {H:aj} {s:Shared} {Q:bz} {us:List Value} {vs:List V} (F:d3 X.prog X.w X.K X.mg X.base cc k f fd ag sp) (ar:c_ k X.A) (aa:Binds X.K fd ag ds) (hd:Vals dC ds) (ah:Passes cc X E)
  (I:Inv X pins σ H s) (r:Vals vs us) (h:sp (vs++dC) H Q E):wpAny (model X.prog X.w) X.A (call (.ref f) us) (fB X pins σ Q) X.cB s:=by
 have cb:Vals (vs++dC) (us++ds):=r.append hd;have au:(us++ds).length=ag.length:=by rw [<-cb.length];exact F.len _ _ _ _ h
 refine wpAny_call (codeAny_mono (F.run X.A X.stack s H ⟨us,[]⟩ (us++ds) (vs++dC) Q E ar I.qo (aa s us I.dh au) cb h) λ r s' aR=>?_);cases r with
 | error e=>exact ah pins σ H s e s' I aR
 | ok df =>
  cases df with
  | ret u=>exact I.after aR
  | next=>exact False.elim aR
  | brk=>exact False.elim aR
  | cont=>exact False.elim aR
theorem Tx (F:d3 X.prog X.w X.K X.mg X.base cc k f fd ag sp) (ar:c_ k X.A) (aM:c1 X x) (hm:X.mg x=some (.ref f)) (aB:PySem.W.keepIn X.K (.ref f)=true) (aa:Binds X.K fd ag ds) (hd:Vals dC ds) (ah:Passes cc X E)
  (av:gB X (e::es) t) (dj:(x == ("__debug__" : Str))=false:=by decide) (he:starEach (e::es) X.env=(false,eval e X.env)::starEach es X.env:=by rfl) (cW:(backTo pos (starEach es X.env)).any (·.1)=false:=by rfl) :
  bK X (.Call (.Name x p) (e::es) [] pos) (pk sp dC E t):=by
 intro pins s σ H Q I h;refine wpAny_Call_Name_kw (lX I aM hm ?_ dj);refine PySem.W.callWith_K (h₀:=X.base) I.ok.mod.j0 aB (a_ (av pos pins s σ H _ I h) λ us s1 ⟨vs,H1,aJ,r,q⟩=>⟨aJ.dh,?_⟩) he cW;exact wa F ar aa hd ah aJ r q
theorem Vw (F:d3 X.prog X.w X.K X.mg X.base cc k f fd ag sp) (ar:c_ k X.A) (aM:c1 X x) (hm:X.mg x=some (.ref f)) (aB:PySem.W.keepIn X.K (.ref f)=true) (aa:Binds X.K fd ag ds) (hd:Vals dC ds) (ah:Passes cc X E)
  (dj:(x == ("__debug__" : Str))=false:=by decide):bK X (.Call (.Name x p) [] [] pos) (pk sp dC E kM):=by
 intro pins s σ H Q I h;refine wpAny_Call_Name_kw (lX I aM hm ?_ dj);exact PySem.W.callWith_K0 I.dh aB (wa (us:=[]) F ar aa hd ah I .nil h)
theorem TG {pl:Sem Bool} (he:bK X o aS) (c:hi X.K C) (hm:Meth X.K C m f) (F:d3 X.prog X.w X.K X.mg X.base cc k f fd ag sp) (ar:c_ k X.A) (aa:Binds X.K fd ag ds) (hd:Vals dC ds) (ah:Passes cc X E) (av:gB X (e::es) t)
  (cC:starEach (e::es) X.env=(false,eval e X.env)::starEach es X.env:=by rfl) (cW:(backTo pos (starEach es X.env)).any (·.1)=false:=by rfl)
  (aZ:eval (.Call (.Attribute o m apos) (e::es) [] pos) X.env=(do
   let cO ← eval o X.env
   standAt apos.atName
   let (f,first) ← holding [cO] (getMethod cO m pl)
   callWith pos f first (backTo pos (starEach (e::es) X.env)) (backToKw pos (keywordEach [] X.env))):=by rfl) :
  bK X (.Call (.Attribute o m apos) (e::es) [] pos) (vX C m sp dC E aS t):=by
 intro pins s σ H Q I h;refine PySem.W.methodCall_KW (pl:=pl) (a_ (he pins s σ H _ I h) λ u s1 ⟨x,H1,aJ,aT,a,aG,ak,ex,dG,l,q⟩=>?_) aZ;subst ex;obtain rfl:u=Value.ref a:=aT;refine Jp aJ dG c hm l ?_;refine PySem.W.callWith_K (first:=[.ref a]) (h₀:=X.base) I.ok.mod.j0 hm.bZ (a_ (av pos pins s1 σ H1 _ aJ q) λ us s2 ⟨vs,aw,bD,r,b0⟩=>⟨bD.dh,?_⟩) cC cW;exact wa (us:=.ref a::us) (vs:=.ref a::vs) F ar aa hd ah bD (.cons rfl r) b0
theorem VD {pl:Sem Bool} (he:bK X o aS) (c:hi X.K C) (hm:Meth X.K C m f) (F:d3 X.prog X.w X.K X.mg X.base cc k f fd ag sp) (ar:c_ k X.A) (aa:Binds X.K fd ag ds) (hd:Vals dC ds) (ah:Passes cc X E)
  (aZ:eval (.Call (.Attribute o m apos) [] [] pos) X.env=(do
   let cO ← eval o X.env
   standAt apos.atName
   let (f,first) ← holding [cO] (getMethod cO m pl)
   callWith pos f first (backTo pos (starEach [] X.env)) (backToKw pos (keywordEach [] X.env))):=by rfl) :
  bK X (.Call (.Attribute o m apos) [] [] pos) (vX C m sp dC E aS kM):=by
 intro pins s σ H Q I h;refine PySem.W.methodCall_KW (pl:=pl) (a_ (he pins s σ H _ I h) λ u s1 ⟨x,H1,aJ,aT,a,aG,ak,ex,dG,l,q⟩=>?_) aZ;subst ex;obtain rfl:u=Value.ref a:=aT;refine Jp aJ dG c hm l ?_;exact PySem.W.callWith_K0 (first:=[.ref a]) aJ.dh hm.bZ (wa (us:=[.ref a]) (vs:=[.ref a]) F ar aa hd ah aJ (.cons rfl .nil) q)
structure pK (K:PySem.W.Frag) (C f:Addr):Prop where
 makes:PySem.W.makesIn K C=true
 init:PySem.W.findIn K (.ref C) "__init__" = some (some (.ref f))
 fn:PySem.W.isFn K (.ref f)=true
 bZ:PySem.W.keepIn K (.ref C)=true
theorem Ic {pins:List (Addr×Obj)} {σ:St} {H:aj} {s:Shared} {Q:bz} {us:List Value} {vs:List V} (M:pK X.K C f) (F:d3 X.prog X.w X.K X.mg X.base cc k f fd ag sp) (ar:c_ (k+1) X.A) (aa:Binds X.K fd ag ds) (hd:Vals dC ds)
  (ah:Passes cc X E) (I:Inv X pins σ H s) (r:Vals vs us)
  (h : ∀ x aG,H x=none->H aG=none->aG≠x->sp (.ref x::(vs++dC)) (upd (upd H aG (.own x)) x (.ins C aG [])) (λ v aw=>v=.bp/\Q (.ref x) aw) E) :
  wpAny (model X.prog X.w) X.A (call (.ref C) us) (fB X pins σ Q) X.cB s:=by
 have aR:=h (s.heap.objs.size+1) s.heap.objs.size (I.a0.fresh (Nat.le_succ _)) (I.a0.fresh (Nat.le_refl _)) (Nat.ne_of_lt (Nat.lt_succ_self _));have bD:=Inv.made (C:=C) I;have cb:Vals (V.ref (s.heap.objs.size+1)::(vs++dC)) (Value.ref (s.heap.objs.size+1)::(us++ds)):=.cons rfl (r.append hd);have au:(Value.ref (s.heap.objs.size+1)::us++ds).length=ag.length:=by
  have e:=cb.length;rw [F.len _ _ _ _ aR] at e;exact e.symm
 refine wpAny_call (Vd (f:=f) I.dh M.makes M.init (beq_iff_eq.mp M.fn) (codeAny_mono (F.run _ X.stack _ _ ⟨Value.ref (s.heap.objs.size+1)::us,[]⟩ (Value.ref (s.heap.objs.size+1)::(us++ds)) _ _ E (ar.make C us [])
  (bD.qo.make C us []) (aa _ (Value.ref (s.heap.objs.size+1)::us) bD.dh au) cb aR) λ r s' fV=>?_))
 cases r with
 | error e=>exact ah pins σ _ _ e s' bD fV
 | ok df =>
  cases df with
  | ret u =>
   obtain ⟨v,H',bR,bE,ev,ew⟩:=bD.after fV;subst ev;exact ⟨bE,⟨V.ref (s.heap.objs.size+1),H',bR,rfl,ew⟩⟩
  | next=>exact False.elim fV
  | brk=>exact False.elim fV
  | cont=>exact False.elim fV
theorem TF (M:pK X.K C f) (F:d3 X.prog X.w X.K X.mg X.base cc k f fd ag sp) (ar:c_ (k+1) X.A) (aM:c1 X x) (hm:X.mg x=some (.ref C)) (aa:Binds X.K fd ag ds) (hd:Vals dC ds) (ah:Passes cc X E)
  (av:gB X (e::es) t) (dj:(x == ("__debug__" : Str))=false:=by decide) (he:starEach (e::es) X.env=(false,eval e X.env)::starEach es X.env:=by rfl) (cW:(backTo pos (starEach es X.env)).any (·.1)=false:=by rfl) :
  bK X (.Call (.Name x p) (e::es) [] pos) (vW C sp dC E t):=by
 intro pins s σ H Q I h;refine wpAny_Call_Name_kw (lX I aM hm ?_ dj);refine PySem.W.callWith_K (h₀:=X.base) I.ok.mod.j0 M.bZ (a_ (av pos pins s σ H _ I h) λ us s1 ⟨vs,H1,aJ,r,q⟩=>⟨aJ.dh,?_⟩) he cW;exact Ic M F ar aa hd ah aJ r q
theorem VC (M:pK X.K C f) (F:d3 X.prog X.w X.K X.mg X.base cc k f fd ag sp) (ar:c_ (k+1) X.A) (aM:c1 X x) (hm:X.mg x=some (.ref C)) (aa:Binds X.K fd ag ds) (hd:Vals dC ds) (ah:Passes cc X E)
  (dj:(x == ("__debug__" : Str))=false:=by decide):bK X (.Call (.Name x p) [] [] pos) (vW C sp dC E kM):=by
 intro pins s σ H Q I h;refine wpAny_Call_Name_kw (lX I aM hm ?_ dj);exact PySem.W.callWith_K0 I.dh M.bZ (Ic (us:=[]) M F ar aa hd ah I .nil h)
end
structure bQ (N P:List Str) (sc:Scope):Prop where
 kind:sc.kind=.function
 co:sc.isCoroutine=false
 gen:sc.isGenerator=false
 eS:N.Nodup
 pre:N.take P.length=P
 par : ∀ x∈P,sc.names.lookup x=some .local\/sc.names.lookup x=some .cell
 RU : ∀ y∈sc.names,y.2≠.free
theorem IG {kindOf:Str->Option NameKind} {x:Str} : ∀ {binds:List (Str×Value)} {m:Str->Option Value},(∀ v,(x,v)∉binds)->bindL kindOf binds m x=m x
 | [],_,_=>rfl
 | (n,v)::r,m,h=>by
  unfold bindL;rw [IG λ w hw=>h w (List.mem_cons_of_mem _ hw)];split
  ·have:x≠n:=by rintro rfl;exact h v List.mem_cons_self
   simp [this]
  ·rfl
theorem IE {kindOf:Str->Option NameKind} {x:Str} : ∀ {binds:List (Str×Value)} {m:Str->Option Value},(∀ v,(x,v)∉binds)->bindC kindOf binds m x=m x
 | [],_,_=>rfl
 | (n,v)::r,m,h=>by
  unfold bindC;rw [IE λ w hw=>h w (List.mem_cons_of_mem _ hw)];split
  ·rfl
  ·have:x≠n:=by rintro rfl;exact h v List.mem_cons_self
   simp [this]
theorem IF {kindOf:Str->Option NameKind} {x:Str} {v:Value} : ∀ {P:List Str} {vs:List Value} {i:Nat} {m:Str->Option Value},P.Nodup->P[i]?=some x->vs[i]?=some v->kindOf x=some .local ->
  bindL kindOf (P.zip vs) m x=some v
 | [],_,_,_,_,h,_,_=>by simp at h
 | _::_,[],_,_,_,_,h,_=>by simp at h
 | p::P,w::vs,0,m,eS,af,aq,aB=>by
  simp at af aq;subst af;subst aq;show bindL kindOf ((p,w)::P.zip vs) m p=_;unfold bindL;rw [IG λ v a7=>(List.nodup_cons.mp eS).1 (List.of_mem_zip a7).1,if_pos aB];simp
 | p::P,w::vs,i+1,m,eS,af,aq,aB=>by
  show bindL kindOf ((p,w)::P.zip vs) m x=_;unfold bindL;exact IF (i:=i) (List.nodup_cons.mp eS).2 (by simpa using af) (by simpa using aq) aB
theorem ID {kindOf:Str->Option NameKind} {x:Str} {v:Value} : ∀ {P:List Str} {vs:List Value} {i:Nat} {m:Str->Option Value},P.Nodup->P[i]?=some x->vs[i]?=some v->kindOf x≠some .local ->
  bindC kindOf (P.zip vs) m x=some v
 | [],_,_,_,_,h,_,_=>by simp at h
 | _::_,[],_,_,_,_,h,_=>by simp at h
 | p::P,w::vs,0,m,eS,af,aq,aB=>by
  simp at af aq;subst af;subst aq;show bindC kindOf ((p,w)::P.zip vs) m p=_;unfold bindC;rw [IE λ v a7=>(List.nodup_cons.mp eS).1 (List.of_mem_zip a7).1,if_neg aB];simp
 | p::P,w::vs,i+1,m,eS,af,aq,aB=>by
  show bindC kindOf ((p,w)::P.zip vs) m x=_;unfold bindC;exact ID (i:=i) (List.nodup_cons.mp eS).2 (by simpa using af) (by simpa using aq) aB
noncomputable def start (N:List Str) (vs:List V):St:=vs.map some++List.replicate (N.length - vs.length) none
noncomputable def kJ (cc:hG) (P:Program) (w:World) (K:PySem.W.Frag) (mg:Str->Option Value) (base:Heap) (N:List Str) (qual:Str) (scope:Scope) (f:Addr) (cd:Value) (A:Around) (outer:List Env) (s:Shared) (H:aj) (E:dF):aQ where
 prog:=P
 w:=w
 K:=K
 mg:=mg
 base:=base
 A:=A.deeper (envOfC qual scope s.heap.objs.size f cd)
 N:=N
 s₀:=s
 H₀:=H
 env:=envOfC qual scope s.heap.objs.size f cd
 outer:=outer
 stack:=envOfC qual scope s.heap.objs.size f cd::outer
 ex:=[]
 calm:=true
 warm:=true
 fn:=λ _=>true
 iP:=[]
 cB:=λ e s'=>wpAny (model P w) (A.deeper (envOfC qual scope s.heap.objs.size f cd)) (leaving (envOfC qual scope s.heap.objs.size f cd) e) (λ _ hp=>cc outer H s E e hp) (λ b5 hp=>cc outer H s E b5 hp) s'
theorem HQ {sc:Scope} {n:Nat} {x:Str} (h:sc.names.lookup x=some .cell) : ∃ c,(cellsFrom n sc.names []).lookup x=some c:=by
 have q:=PySem.W.cellsFrom_some sc.names n [] (.inl h);exact Option.isSome_iff_exists.mp q
theorem IW {cc:hG} {P:Program} {w:World} {K:PySem.W.Frag} {mg:Str->Option Value} {base:Heap} {N ag:List Str} {qual:Str} {scope:Scope} {f:Addr} {cd:Value} {A:Around} {outer:List Env} {s s1:Shared} {H:aj} {E:dF} {us:List Value} {vs:List V}
  (S:bQ N ag scope) (hd:A.handled=none) (b6:mV P w K mg base A outer s H) (au:vs.length=ag.length) (r:Vals vs us)
  (x:InCallC s s.heap.objs.size (bindL (envOfC qual scope s.heap.objs.size f cd).kindOf (ag.zip us) λ _=>none) (cellsFrom (s.heap.objs.size+1) scope.names []) (bindC (envOfC qual scope s.heap.objs.size f cd).kindOf (ag.zip us) λ _=>none) s1) :
  Inv (kJ cc P w K mg base N qual scope f cd A outer s H E) [] (start N vs) H s1:=by
 have cW:ag.length<=N.length:=by have:=congrArg List.length S.pre;rw [List.length_take] at this;omega
 obtain ⟨af,tk,rfl,aB⟩:=x.done;have sF : ∀ b:Addr,b∉(kJ cc P w K mg base N qual scope f cd A outer s H E).ex:=λ b z=>absurd (show b∈([]:List Addr) from z) (by simp)
 refine ⟨⟨b6.mod,S.kind,rfl,rfl,Nat.le_refl _,λ y z c af aq=>?_,λ y aL=>?_,λ y c _ h=>?_,⟨λ _=>hd,λ _=>.inl hd⟩,Around.frames_deeper b6.frames,.inr ⟨rfl,rfl⟩,λ b z=>absurd z (sF b),b6.bs,b6.hK,λ b _ _=>sF b,λ b z=>absurd z (sF b),b6.hs,b6.jT⟩,
  rfl,b6.bare,eH.kept aB,⟨_,x.toInCall.ns,λ i y v af aq aF=>?_⟩,λ y c h=>⟨_,x.cell y c h⟩,b6.a0.fresh (Nat.le_refl _),λ y c h=>?_,λ p ay=>absurd (show p∈([]:List (Addr×Obj)) from ay) (by simp),b6.a0.kept aB,?_⟩
 ·exact name_of_addr x.apart (PySem.mem_of_lookup af) (PySem.mem_of_lookup aq)
 ·have aL:scope.names.lookup y=some .cell\/scope.names.lookup y=some .free:=aL;rcases aL with aL | aL
  ·exact HQ aL
  ·exact absurd rfl (S.RU _ (PySem.mem_of_lookup aL))
 ·exact Nat.le_of_lt (x.above y c (PySem.mem_of_lookup h))
 ·have ax:i<vs.length:=by
   unfold start at aq;by_cases ax:i<vs.length
   ·exact ax
   ·rw [List.getElem?_append_right (by simpa using ax)] at aq;rw [List.getElem?_replicate] at aq;split at aq<;>cases aq
  have av:vs[i]?=some v:=by
   unfold start at aq;rw [List.getElem?_append_left (by simpa using ax),List.getElem?_map] at aq;cases e:vs[i]? with
   | none=>rw [e] at aq;cases aq
   | some a=>rw [e] at aq;cases aq;rfl
  obtain ⟨u,b_,bE⟩:=r.get av;have ay:ag[i]?=some y:=by
   rw [<-S.pre,List.getElem?_take_of_lt (by omega)];exact af
  have Et:ag.Nodup:=by rw [<-S.pre];exact S.eS.sublist (List.take_sublist _ _)
  refine ⟨u,bE,?_⟩;rcases S.par y (List.mem_of_getElem? ay) with k | k
  ·exact .inl ⟨k,IF Et ay b_ k⟩
  ·obtain ⟨c,e⟩:=HQ (n:=s.heap.objs.size+1) k;refine .inr ⟨.inl k,c,e,?_⟩;have q:=x.cell y c e;rw [ID Et ay b_ (by show scope.names.lookup y≠_;rw [k];decide)] at q;exact q
 ·exact b6.a0.fresh (Nat.le_of_lt (x.above y c (PySem.mem_of_lookup h)))
 ·unfold start;show _=N.length;rw [List.length_append,List.length_map,List.length_replicate];omega
theorem FL {cc:hG} {P:Program} {w:World} {K:PySem.W.Frag} {mg:Str->Option Value} {base:Heap} {k:Nat} {f:Addr} {name qual:Str} {params:Arguments} {body:List Stmt} {scope:Scope} {ud cm doc pm a5 b1 eu:Value} {an de:Option Addr}
  {lF:Array (Option Value)} {N ag:List Str} {sp:bF} (lk:K.lookup f=some ⟨eu,de,.func (PySem.W.fnOf name qual params body scope ud cm doc pm an a5 b1),lF⟩) (hn:PySem.W.codeIn K a5 qual=true) (S:bQ N ag scope)
  (len : ∀ vs H Q E,sp vs H Q E->vs.length=ag.length)
  (m1 : ∀ (A:Around) (outer:List Env) (s:Shared) (H:aj) (vs:List V) (Q:bz) (E:dF),c_ k (A.deeper (envOfC qual scope s.heap.objs.size f a5))->sp vs H Q E ->
   ∃ t,iR (kJ cc P w K mg base N qual scope f a5 A outer s H E) body t/\t { bl:=λ _ H'=>Q .bp H',me:=Q } (start N vs) H) :
  d3 P w K mg base cc (k+1) f (PySem.W.fnOf name qual params body scope ud cm doc pm an a5 b1) ag sp:=by
 refine ⟨len,λ A outer s H args us vs Q E ar b6 aa r dX=>?_⟩;have au:=len _ _ _ _ dX;have jd:K.In s.heap:=b6.mod.j0.keeps λ b o e=>(b6.bs b o e).1
 have lim:s.heap.NoLimit:=b6.mod.nolimit.keeps λ b o e=>(b6.bs b o e).1
 have zY : ∀ y∈ag.zip us,scope.names.lookup y.1=some .local\/(scope.names.lookup y.1=some .cell/\((cellsFrom (s.heap.objs.size+1) scope.names []).lookup y.1).isSome=true):=λ ⟨n,v⟩ aL=>by
  rcases S.par n (List.of_mem_zip aL).1 with q | q
  ·exact .inl q
  ·exact .inr ⟨q,PySem.W.cellsFrom_some _ _ _ (.inl q)⟩
 refine codeAny_call_function ar.depth (jd _ _ lk) rfl S.co S.gen rfl (PySem.W.codeRec_of jd hn) (aa _ _ _ _ ?_);refine wpAny_newFunctionEnv_cells S.kind zY λ env he s1 x=>?_
 subst he;refine ⟨lim.keeps x.toInCall.keep,codeAny_func ?_⟩;obtain ⟨t,aZ,aR⟩:=m1 A outer s H vs Q E (ar.deeper _) dX;have I:Inv (kJ cc P w K mg base N qual scope f a5 A outer s H E) [] (start N vs) H s1:=IW S ar.hd b6 au r x;refine wpAny_mono (aZ [] s1 (start N vs) H _ I aR) (λ df s' aA=>?_) λ e s' aA=>aA
 have fin : ∀ {σ':St} {H':aj} {v:V} {u:Value},Inv (kJ cc P w K mg base N qual scope f a5 A outer s H E) [] σ' H' s'->RelV v u->Q v H'->tY outer P w H s Q u s' :=
  λ {σ' H' v u} J bE q=>⟨v,H',J.os,J.bare,J.base,J.a0,bE,q⟩
 cases df with
 | ret u =>
  obtain ⟨v,σ',H',J,bE,q⟩:=aA;exact fin J bE q
 | next =>
  obtain ⟨σ',H',J,q⟩:=aA;exact fin (v:=V.bp) (u:=Value.none) J rfl q
 | brk =>
  obtain ⟨_,_,_,q⟩:=aA;exact False.elim q
 | cont =>
  obtain ⟨_,_,_,q⟩:=aA;exact False.elim q
section
variable {X:aQ} {x:Str} {p pos:Pos} {e:Expr} {es:List Expr} {t:cH} {id T:String} {r:List V->aj->bz->Prop}
noncomputable def qi (r:List V->aj->bz->Prop) (t:cH):TE:=λ σ H Q=>t σ H λ vs H1=>r vs H1 Q
theorem Vx (ao:eN X (.builtin id) r) (aM:c1 X x) (hm:X.mg x=none) (a7:bootBuiltins x=some (.builtin id)) (av:gB X (e::es) t) (aC:x ≠ "__name__" := by decide) (dj:(x == ("__debug__" : Str))=false:=by decide)
  (he:starEach (e::es) X.env=(false,eval e X.env)::starEach es X.env:=by rfl) (cW:(backTo pos (starEach es X.env)).any (·.1)=false:=by rfl):bK X (.Call (.Name x p) (e::es) [] pos) (qi r t):=by
 intro pins s σ H Q I h;refine wpAny_Call_Name_kw (lS I aM hm a7 ?_ aC dj);exact PyProof.Rows.callWith_builtin1 (a_ (av pos pins s σ H _ I h) λ us s1 ⟨vs,H1,aJ,bG,a6⟩=>ao pins s1 σ H1 vs us Q aJ bG a6) he cW
theorem Xa (ao:eN X (.type T) r) (aM:c1 X x) (hm:X.mg x=none) (a7:bootBuiltins x=some (.type T)) (av:gB X (e::es) t) (aC:x ≠ "__name__" := by decide) (dj:(x == ("__debug__" : Str))=false:=by decide)
  (he:starEach (e::es) X.env=(false,eval e X.env)::starEach es X.env:=by rfl) (cW:(backTo pos (starEach es X.env)).any (·.1)=false:=by rfl):bK X (.Call (.Name x p) (e::es) [] pos) (qi r t):=by
 intro pins s σ H Q I h;refine wpAny_Call_Name_kw (lS I aM hm a7 ?_ aC dj);exact PyProof.Rows.callWith_type1 (a_ (av pos pins s σ H _ I h) λ us s1 ⟨vs,H1,aJ,bG,a6⟩=>ao pins s1 σ H1 vs us Q aJ bG a6) he cW
end
end bC
namespace dw
open PySem PyProof.Rows
noncomputable def lexLt:List Int->List Int->Bool
 | [],[]=>false
 | [],_::_=>true
 | _::_,[]=>false
 | x::xs,y::ys=>if x=y then lexLt xs ys else decide (x<y)
theorem Yh (x y:Int) (xs ys:List Int):lexLt (x::xs) (y::ys)=if x=y then lexLt xs ys else decide (x<y):=rfl
theorem Z6 (y:Int) (ys:List Int):lexLt [] (y::ys)=true:=rfl
theorem Z5 (x:Int) (xs:List Int):lexLt (x::xs) []=false:=rfl
section
variable {prog:Program} {w:World} {A:Around} {E:Value->Shared->Prop} {s:Shared}
noncomputable def ct (n d:Nat):Option Int->Nat
 | none=>d
 | some v=>if v<0 then (v+(n:Int)).toNat else min v.toNat n
theorem SE (n d:Nat) (hd:d<=n) (o:Option Int):ct n d o<=n:=by
 cases o with
 | none=>exact hd
 | some v =>
  show (if v<0 then (v+(n:Int)).toNat else min v.toNat n)<=n;by_cases a7:v<0
  ·rw [if_pos a7];omega
  ·rw [if_neg a7];exact Nat.min_le_right _ _
theorem GW (v:Int) (n d:Nat):(if v<0 then max (v+(n:Int)) 0 else min v (n:Int))=((ct n d (some v):Nat):Int):=by
 show (if v<0 then max (v+(n:Int)) 0 else min v (n:Int))=(((if v<0 then (v+(n:Int)).toNat else min v.toNat n):Nat):Int);by_cases a7:v<0
 ·simp only [if_pos a7];omega
 ·simp only [if_neg a7];omega
theorem XZ (lo ax:Option Int) (n:Nat):Builtin.Slice.sliceAdjust lo ax 1 (n:Int)=(((ct n 0 lo:Nat):Int),((ct n n ax:Nat):Int)):=by
 have af : ¬ ((1:Int)<0):=by omega
 unfold Builtin.Slice.sliceAdjust;simp only [af,if_false];refine Prod.ext ?_ ?_
 ·cases lo with
  | none=>rfl
  | some v=>exact GW v n 0
 ·cases ax with
  | none=>rfl
  | some v=>exact GW v n n
theorem Yx (i j:Nat):Builtin.Slice.slicePlaces (i:Int) (j:Int) 1=j - i:=by
 unfold Builtin.Slice.slicePlaces;have af:(1:Int) > 0:=by omega
 simp only [af,if_true,Int.ediv_one];split<;>omega
theorem Jy {v:Value} {o:Option Int} {Q:Option Int->Shared->Prop} (p:IsPart v o) (h:Q o s):wpAny (model prog w) A (Builtin.Slice.slicePartIndex v) Q E s:=by
 cases p with
 | none=>exact slicePart_none h
 | int i t=>exact slicePart_int h
theorem K5 {cq:Addr} {fF fG:Value} {lo ax:Option Int} {n:Nat} {Q:Int×Int×Nat->Shared->Prop} (aA:s.heap.IsSliceOf cq fF fG .none) (pl:IsPart fF lo) (pu:IsPart fG ax)
  (h:Q (((ct n 0 lo:Nat):Int),1,ct n n ax - ct n 0 lo) s):wpAny (model prog w) A (Builtin.Slice.sliceApplied (.ref cq) (pure (n:Int))) Q E s:=by
 obtain ⟨os,o1,uS,jX⟩:=id aA;unfold Builtin.Slice.sliceApplied Builtin.Slice.sliceFields;refine wpAny_bind (wpAny_bind (wpAny_field o1 jX (x:=fF) rfl (wpAny_bind (wpAny_field o1 jX (x:=fG) rfl (wpAny_bind (wpAny_field o1 jX (x:=.none) rfl (wpAny_pure ?_)))))));refine wpAny_bind (slicePart_none ?_);show wpAny _ _ (if ((1:Int) == 0)=true then _ else _) _ _ s;rw [if_neg (by decide)];refine wpAny_bind (Jy pl (wpAny_bind (Jy pu (wpAny_bind (wpAny_pure ?_)))));show wpAny _ _ (match Builtin.Slice.sliceAdjust lo ax 1 (n:Int) with | (lo,ax)=>pure (lo,(1:Int),Builtin.Slice.slicePlaces lo ax 1)) _ _ s;rw [XZ lo ax n];show wpAny _ _ (pure (((ct n 0 lo:Nat):Int),(1:Int),Builtin.Slice.slicePlaces ((ct n 0 lo:Nat):Int) ((ct n n ax:Nat):Int) 1)) _ _ s;rw [Yx];exact wpAny_pure h
theorem VG (xs:Array Value) (i k:Nat):((List.range k).filterMap λ (m:Nat)=>xs[((i:Int)+(m:Int) * 1).toNat]?).toArray=((xs.toList.drop i).take k).toArray:=by
 have e:(λ (m:Nat)=>xs[((i:Int)+(m:Int) * 1).toNat]?)=λ m=>xs[i+m]?:=by
  funext m;have:((i:Int)+(m:Int) * 1).toNat=i+m:=by omega
  rw [this]
 rw [e];have:=pick_run xs i k;rw [List.filterMap_map] at this;have aI:((λ x=>xs[x]?) ∘ λ x=>i+x)=λ m=>xs[i+m]?:=rfl
 rw [aI] at this;rw [this]
theorem aaC {t cq:Addr} {items:Array Value} {fF fG:Value} {lo ax:Option Int} {Q:Value->Shared->Prop} (aZ:IsTup s.heap t items) (aA:s.heap.IsSliceOf cq fF fG .none) (pl:IsPart fF lo) (pu:IsPart fG ax)
  (hw : ¬ (ct items.size 0 lo=0/\ct items.size items.size ax=items.size))
  (h:Q (.ref s.heap.objs.size) { s with heap:=s.heap.push { cls:=.type "tuple", data:=.seq ((items.toList.drop (ct items.size 0 lo)).take (ct items.size items.size ax - ct items.size 0 lo)).toArray } })
  (hsz:items.size<=sizeLine):wpAny (model prog w) A (getItem (.ref t) (.ref cq)) Q E s:=by
 have vM:sizeOk (.seq ((items.toList.drop (ct items.size 0 lo)).take (ct items.size items.size ax - ct items.size 0 lo)).toArray):=by
  show ((items.toList.drop (ct items.size 0 lo)).take (ct items.size items.size ax - ct items.size 0 lo)).toArray.size<=sizeLine;rw [List.size_toArray,List.length_take,List.length_drop,Array.length_toList];omega
 have bj:ct items.size items.size ax<=items.size:=SE _ _ (Nat.le_refl _) ax;obtain ⟨os,o1,uS,jX⟩:=id aA;have yI:s.TypeIs (.ref cq) "slice" := ⟨os,o1,uS⟩
 unfold getItem
 try with_reducible refine wpAny_holding ?_
 first | refine wpAny_bind (wpAny_pure ?_) | skip
 refine wpAny_bind (wpAny_sequenceKey aZ.typeIs (by decide) ?_);refine wpAny_bind (wpAny_callSpecial?_slot (name:=Str.ofString "__getitem__") aZ.typeIs PyProof.Rows.slot_tuple_getitem
  (wpAny_call_entry PyProof.Rows.slot_tuple_getitem aZ.typeIs entry_tuple_getitem ?_ (args_tuple_getitem _ _)))
 show wpAny _ _ (Builtin.Tuple.tupleItemsOf (.ref t)>>=_) _ _ s;refine wpAny_bind (tupleItemsOf_ aZ ?_);refine wpAny_bind (wpAny_typeOf yI ?_);rw [if_pos (by decide)];refine wpAny_bind (K5 aA pl pu ?_);have y1 : ¬ ((((ct items.size 0 lo:Nat):Int) == 0&&(1:Int) == 1&&(ct items.size items.size ax - ct items.size 0 lo) == items.size)=true):=by
  intro q;rw [Bool.and_eq_true,Bool.and_eq_true] at q;have a6:((ct items.size 0 lo:Nat):Int)=0:=eq_of_beq q.1.1;have b0:ct items.size items.size ax - ct items.size 0 lo=items.size:=eq_of_beq q.2;exact hw ⟨by omega,by omega⟩
 show wpAny _ _ (if (((ct items.size 0 lo:Nat):Int) == 0&&(1:Int) == 1&&(ct items.size items.size ax - ct items.size 0 lo) == items.size)=true then _ else _) _ _ s;rw [if_neg y1,VG]
 first
  | exact wpAny_bind (m:=Builtin.Tuple.tupleExact _) (wpAny_newObj_type (wpAny_pure ⟨_,rfl,wpAny_pure h⟩) vM)
  | exact wpAny_bind (m:=Builtin.Tuple.tupleExact _) (wpAny_newObj_type (wpAny_bind (wpAny_pure (wpAny_pure ⟨_,rfl,wpAny_pure h⟩))) vM)
  | exact wpAny_bind (wpAny_bind (m:=Builtin.Tuple.tupleExact _) (wpAny_newObj_type (wpAny_pure (wpAny_pure ⟨_,rfl,wpAny_pure h⟩)) vM))
  | exact wpAny_bind (wpAny_bind (m:=Builtin.Tuple.tupleExact _) (wpAny_newObj_type (wpAny_pure ⟨_,rfl,wpAny_pure h⟩) vM))
end
end dw
namespace bC
open PySem PySem.Spec PyProof.Rows
noncomputable abbrev cA:=St->aj->(Option Int->aj->Prop)->Prop
noncomputable def rh (X:aQ) (e:Option Expr) (t:cA):Prop :=
 ∀ (pins:List (Addr×Obj)) (s:Shared) (σ:St) (H:aj) (Q:Option Int->aj->Prop),Inv X pins σ H s->t σ H Q ->
  wpAny (model X.prog X.w) X.A (evalPart e X.env) (λ u s' => ∃ o H',Inv X pins σ H' s'/\IsPart u o/\Q o H') X.cB s
noncomputable def Hz:cA:=λ _ H Q=>Q none H
noncomputable def Ge (t:TE):cA:=λ σ H Q=>t σ H λ x H1 => ∃ i,x=.int i/\Q (some i) H1
theorem intsAre_of {ns:List Int} : ∀ {us:List Value},Vals (ns.map V.int) us->IntsAre us ns:=by
 induction ns with
 | nil=>intro us r;rw [List.map_nil] at r;cases r;exact .nil
 | cons n ns cI =>
  intro us r;rw [List.map_cons] at r;cases r with
  | cons bG cb =>
   obtain ⟨t,e⟩:=bG;subst e;exact .cons n t (cI cb)
section
variable {X:aQ} {e:Expr} {bc:TE} {lo ax:Option Expr} {dq pV:cA} {pos cR:Pos}
theorem TM:rh X none Hz:=by
 intro pins s σ H Q I h;rw [evalPart_none];exact wpAny_pure ⟨none,H,I,.none,h⟩
theorem TN (h:bK X e bc):rh X (some e) (Ge bc):=by
 intro pins s σ H Q I hw;rw [evalPart_some];refine a_ (h pins s σ H _ I hw) λ u s1 ⟨x,H1,aJ,bG,a6⟩=>?_
 obtain ⟨i,rfl,q⟩:=a6;obtain ⟨t,rfl⟩:=bG;exact ⟨some i,H1,aJ,.int i t,q⟩
noncomputable def lj (X:aQ) (r:V->Option Int->Option Int->aj->bz->Prop):Prop :=
 ∀ (pins:List (Addr×Obj)) (s:Shared) (σ:St) (H:aj) (x:V) (v fF fG:Value) (lo ax:Option Int) (cq:Addr) (Q:bz),Inv X pins σ H s->RelV x v->s.heap.IsSliceOf cq fF fG .none->IsPart fF lo->IsPart fG ax->r x lo ax H Q ->
  ∃ T id,typeLookup (.type T) "__getitem__" = pure (some (.builtin id))/\s.TypeIs v T/\wpAny (model X.prog X.w) X.A (getItem v (.ref cq)) (fB X pins σ Q) X.cB s
theorem lj.or {r bY:V->Option Int->Option Int->aj->bz->Prop} (h:lj X r) (h':lj X bY):lj X (λ x lo ax H Q=>r x lo ax H Q\/bY x lo ax H Q):=by
 intro pins s σ H x v fF fG lo ax cq Q I aT aA pl pu q;rcases q with q | q
 ·exact h pins s σ H x v fF fG lo ax cq Q I aT aA pl pu q
 ·exact h' pins s σ H x v fF fG lo ax cq Q I aT aA pl pu q
noncomputable def EN (r:V->Option Int->Option Int->aj->bz->Prop) (bc:TE) (dq pV:cA):TE:=λ σ H Q=>bc σ H λ x H1=>dq σ H1 λ l aw=>pV σ aw λ u aH=>r x l u aH Q
theorem VE {r:V->Option Int->Option Int->aj->bz->Prop} (ar:lj X r) (he:bK X e bc) (au:rh X lo dq) (b_:rh X ax pV):bK X (.Subscript e (.Slice lo ax none cR) pos) (EN r bc dq pV):=by
 intro pins s σ H Q I h;refine Subscript_ (a_ (he pins s σ H _ I h) λ v s1 ⟨x,H1,aJ,bG,a6⟩=>?_);refine wpAny_Slice (a_ (au pins s1 σ H1 _ aJ a6) λ fF s2 ⟨l,aw,bD,pl,b0⟩=>a_ (b_ pins s2 σ aw _ bD b0) λ fG s3 ⟨u,aH,bR,pu,ew⟩=>?_);rw [evalPart_none];refine wpAny_pure ?_;have cN:Inv X pins σ aH { s3 with heap:=s3.heap.push { cls:=.type "slice", data:=.fields #[fF,fG,.none] } }:=bR.kept (t':=s3.toks) λ b bJ q=>Heap.get?_push_of_some _ q
 obtain ⟨T,id,cz,aZ,aM⟩:=ar pins { s3 with heap:=s3.heap.push { cls:=.type "slice", data:=.fields #[fF,fG,.none] } } σ aH x v fF fG l u s3.heap.objs.size Q cN bG (Heap.IsSliceOf.new ..) pl pu ew;show wpAny (model X.prog X.w) X.A (subscriptTail e (.Slice lo ax none cR) v (.ref s3.heap.objs.size)) (fB X pins σ Q) X.cB { s3 with heap:=s3.heap.push { cls:=.type "slice", data:=.fields #[fF,fG,.none] } };exact tail_any (ops:=[.ref s3.heap.objs.size,v]) aZ cz aM (by with_unfolding_all rfl)
noncomputable def hU (xs:List V) (lo ax:Option Int):List V:=(xs.drop (dw.ct xs.length 0 lo)).take (dw.ct xs.length xs.length ax - dw.ct xs.length 0 lo)
theorem JM (xs:List V) (lo ax:Option Int):(hU xs lo ax).length<=xs.length:=by
 unfold hU;rw [List.length_take,List.length_drop];omega
noncomputable def Fw (K:PySem.W.Frag):V->Option Int->Option Int->aj->bz->Prop:=λ x lo ax H Q => ∃ a xs,x=.ref a/\aW K H a xs /\
 ¬ (dw.ct xs.length 0 lo=0/\dw.ct xs.length xs.length ax=xs.length) /\ ∀ p,H p=none->Q (.ref p) (upd H p (.tup (hU xs lo ax)))
theorem SF:lj X (Fw X.K):=by
 intro pins s σ H x v fF fG lo ax cq Q I aT aA pl pu h;obtain ⟨a,xs,rfl,ah,hw,q⟩:=h;cases aT;obtain ⟨its,r,aZ,aN⟩:=I.tuple ah;have hlen:its.toArray.size=xs.length:=by rw [List.size_toArray];exact r.length.symm
 refine ⟨"tuple", _,PyProof.Rows.slot_tuple_getitem.lookup,aZ.typeIs,?_⟩;refine dw.aaC aZ aA pl pu (by rw [hlen];exact hw) ?_ (by rw [hlen];exact aN);rw [hlen];refine ⟨.ref s.heap.objs.size,_,I.laid (t':=s.toks) (o:=.tup (hU xs lo ax)) (λ b bJ q=>Heap.get?_push_of_some _ q) (Nat.le_refl _) ?_,rfl,q _ (I.a0.fresh (Nat.le_refl _))⟩;exact ⟨Nat.le_trans (JM xs lo ax) aN,_,(r.drop (dw.ct xs.length 0 lo)).take (dw.ct xs.length xs.length ax - dw.ct xs.length 0 lo),lQ.new _ _⟩
theorem Vals.Tj {xs:List V} {us:List Value} (r:Vals xs us):us=[] ↔ xs=[]:=by
 cases r with
 | nil=>simp
 | cons _ _=>simp
end
noncomputable def mJ (n:Nat) (i:Int):Option Nat:=if 0<=i then (if i<n then some i.toNat else none) else if -(n:Int)<=i then some (i+n).toNat else none
noncomputable def ll {α : Type} (xs:List α) (i:Int):Option α := (mJ xs.length i).bind λ j=>xs[j]?
theorem Ha {n:Nat} {i:Int} {j:Nat} (h:mJ n i=some j):seqIndex? i n=some j/\j<n /\ -(n:Int)<=i/\i<n:=by
 unfold mJ at h;by_cases h0:0<=i
 ·rw [if_pos h0] at h;by_cases af:i<n
  ·rw [if_pos af] at h;have e:i.toNat=j:=Option.some.inj h;exact ⟨by rw [seqIndex_of h0 af,e],by omega,by omega,af⟩
  ·rw [if_neg af] at h;cases h
 ·rw [if_neg h0] at h;by_cases af : -(n:Int)<=i
  ·rw [if_pos af] at h;have e:(i+n).toNat=j:=Option.some.inj h;exact ⟨by rw [seqIndex_neg (by omega) af,e],by omega,af,by omega⟩
  ·rw [if_neg af] at h;cases h
theorem Aw {α : Type} {xs:List α} {i:Int} {v : α} (h:ll xs i=some v) : ∃ j,seqIndex? i xs.length=some j/\xs[j]?=some v/\j<xs.length /\ -(xs.length:Int)<=i/\i<xs.length:=by
 unfold ll at h;cases e:mJ xs.length i with
 | none=>rw [e] at h;cases h
 | some j =>
  rw [e] at h;obtain ⟨af,aq,aF,aU⟩:=Ha e;exact ⟨j,af,h,aq,aF,aU⟩
theorem SV {α : Type} {xs:List α} {j:Nat} {v : α} (h:xs[j]?=some v):ll xs (j:Int)=some v:=by
 have bj:j<xs.length:=(List.getElem?_eq_some_iff.mp h).1;have e:mJ xs.length (j:Int)=some j:=by
  unfold mJ;rw [if_pos (by omega),if_pos (by omega)];simp
 unfold ll;rw [e];exact h
noncomputable def GQ (b:Expr):Prop := ∀ o i,subscripted b false o i=operate [o,i] (getItem o i)
noncomputable def rM (X:aQ) (r:e1):Prop :=
 ∀ (value slice:Expr) (pins:List (Addr×Obj)) (s:Shared) (σ:St) (H:aj) (x y:V) (v u:Value) (Q:bz),Inv X pins σ H s->RelV x v->RelV y u->r x y H Q ->
  subscripted slice false v u=operate [v,u] (getItem v u)->wpAny (model X.prog X.w) X.A (subscriptTail value slice v u) (fB X pins σ Q) X.cB s
noncomputable def nB (X:aQ) (id:String) (r:V->List V->aj->bz->Prop):Prop :=
 ∀ (pins:List (Addr×Obj)) (s:Shared) (σ:St) (H:aj) (x:V) (xs:List V) (v:Value) (us:List Value) (Q:bz),Inv X pins σ H s->RelV x v->Vals xs us->r x xs H Q ->
  wpAny (model X.prog X.w) X.A (call (.builtin id) (v::us)) (fB X pins σ Q) X.cB s
section
variable {X:aQ} {a b:Expr} {aS bo:TE} {pos:Pos}
theorem Q9 {r:e1} (ar:rM X r) (av:bK X a aS) (aa:bK X b bo) (aA:GQ b):bK X (.Subscript a b pos) (nQ r aS bo):=by
 intro pins s σ H Q I h;exact Subscript_ (zy av aa I h λ v u s2 x y aw bD aT bb q=>ar a b pins s2 σ aw x y v u Q bD aT bb q (aA _ _))
noncomputable def QF (K:PySem.W.Frag):e1:=λ x y H Q => ∃ p xs i v,x=.ref p/\y=.int i/\a4 K H p xs/\ll xs i=some v/\Q v H
noncomputable def QH (K:PySem.W.Frag):e1:=λ x y H Q => ∃ p xs i v,x=.ref p/\y=.int i/\aW K H p xs/\ll xs i=some v/\Q v H
noncomputable def QG:e1:=λ x y H Q => ∃ z i c,x=.str z/\y=.int i/\z.length<=sizeLine/\ll z.cps.toList i=some c/\Q (.str ⟨#[c]⟩) H
theorem fg:rM X (QF X.K):=by
 intro value slice pins s σ H x y v u Q I aT bb h aA;obtain ⟨p,xs,i,z,rfl,rfl,aR,he,q⟩:=h;cases aT;obtain ⟨t,rfl⟩:=bb;obtain ⟨its,r,pl,aN⟩:=I.list aR;obtain ⟨j,af,aq,aF,aU,bW⟩:=Aw he;obtain ⟨w,pN,fc⟩:=r.get aq;have au:=r.length;have aC:=pn;have fin:fB X pins σ Q w s:=⟨z,H,I,fc,q⟩
 by_cases h0:0<=i
 ·have bj:i.toNat=j:=by
   rw [seqIndex_of h0 bW] at af;exact Option.some.inj af
  exact item_listR pl.isList h0 (by omega) (by rw [bj];simpa using pN) fin aA
 ·have bj:(i+(its.toArray.size:Int)).toNat=j:=by
   rw [seqIndex_neg (by omega) aU] at af;rw [List.size_toArray,<-au];exact Option.some.inj af
  exact subscriptTail_builtinR (x:=w) pl.isList.typeIs slot_list_getitem.lookup
   (wpAny_getItem_list_neg (Q:=λ r s'=>r=w/\fB X pins σ Q r s') pl.isList (by omega) (by rw [List.size_toArray]<;>omega) (by omega) (by rw [bj];simpa using pN) ⟨rfl,fin⟩) aA
theorem fe:rM X (QH X.K):=by
 intro value slice pins s σ H x y v u Q I aT bb h aA;obtain ⟨p,xs,i,z,rfl,rfl,aR,he,q⟩:=h;cases aT;obtain ⟨t,rfl⟩:=bb;obtain ⟨its,r,pl,aN⟩:=I.tuple aR;obtain ⟨j,af,aq,aF,aU,bW⟩:=Aw he;obtain ⟨w,pN,fc⟩:=r.get aq;have au:=r.length;have aC:=pn;have fin:fB X pins σ Q w s:=⟨z,H,I,fc,q⟩
 exact subscriptTail_builtinR (x:=w) pl.typeIs slot_tuple_getitem.lookup
  (getItem_tuple (j:=j) (Q:=λ r s'=>r=w/\fB X pins σ Q r s') pl (by omega) (by omega) (by rw [List.size_toArray,<-au];exact af) (by simpa using pN) ⟨rfl,fin⟩) aA
theorem Gs:rM X QG:=by
 intro value slice pins s σ H x y v u Q I aT bb h aA;obtain ⟨z,i,c,rfl,rfl,aN,he,q⟩:=h;obtain ⟨t,rfl⟩:=aT;obtain ⟨t',rfl⟩:=bb;obtain ⟨j,af,aq,aF,aU,bW⟩:=Aw he;have au:z.cps.toList.length=z.length:=by simp [Str.length]
 rw [au] at af aU bW;have aC:=pn;exact tail_any (typeIs_str s z t) slot_str_getitem.lookup (getItem_str (c:=c) (by
  have aE:decide (i < -(2 ^ 63:Int))=false:=decide_eq_false (by omega);have aI:decide (i ≥ 2 ^ 63)=false:=decide_eq_false (by omega);rw [aE,aI,Bool.or_false]) (by rw [af];simpa using aq) ⟨.str ⟨#[c]⟩,H,I.tok _,⟨_,rfl⟩,q⟩) aA
theorem Ym (its:List Value) (n j:Nat) (u:Value):Obj.mapSeq (·.setIfInBounds j u) { cls:=.type "list", data:=.seq its.toArray n }={ cls:=.type "list", data:=.seq (its.set j u).toArray n }:=by
 simp [Obj.mapSeq]
theorem Inv.lst {pins:List (Addr×Obj)} {σ:St} {H:aj} {s:Shared} {p:Addr} {xs:List V} (I:Inv X pins σ H s) (h:H p=some (.lst xs)) :
  ∃ (its:List Value) (n:Nat),Vals xs its/\s.heap.get? p=some { cls:=.type "list", data:=.seq its.toArray n }/\xs.length<=sizeLine:=by
 obtain ⟨z,its,n,r,e⟩:=I.a0 p _ h;exact ⟨its,n,r,e,z⟩
theorem Inv.RQ {pins:List (Addr×Obj)} {σ:St} {H:aj} {s:Shared} {p:Addr} {xs ys:List V} {its its':List Value} {n bS:Nat} {f:Obj->Obj} (I:Inv X pins σ H s) (h:H p=some (.lst xs))
  (aO:s.heap.get? p=some { cls:=.type "list", data:=.seq its.toArray n }) (hf:f { cls:=.type "list", data:=.seq its.toArray n }={ cls:=.type "list", data:=.seq its'.toArray bS }) (r:Vals ys its') (aN:ys.length<=sizeLine) (t:Nat) :
  Inv X pins σ (upd H p (.lst ys)) { s with heap:=s.heap.update p f,toks:=t }:=by
 have e:(s.heap.update p f).get? p=some { cls:=.type "list", data:=.seq its'.toArray bS }:=by
  rw [Heap.get?_update_self f aO (by rw [hf]<;>rfl),hf]
 refine I.write (x:=p) (e:=p) (by rw [h];trivial) (.inl rfl) (λ b u aa q=>(Heap.get?_update_other _ _ (Ne.symm aa)).trans q) ⟨_,e⟩ ?_;exact ⟨aN,its',bS,r,e⟩
noncomputable def F4:V->V->V->aj->(aj->Prop)->Prop:=λ o i v H Q => ∃ p xs k j,o=.ref p/\i=.int k/\H p=some (.lst xs)/\mJ xs.length k=some j/\Q (upd H p (.lst (xs.set j v)))
theorem set_list:vm X F4:=by
 intro pins s σ H o i v cO dg u Q I LV LU bE h;obtain ⟨p,xs,k,j,rfl,rfl,ay,bj,q⟩:=h;cases LV;obtain ⟨t,rfl⟩:=LU;obtain ⟨its,n,r,aO,aN⟩:=I.lst ay;obtain ⟨af,aq,aF,aU⟩:=Ha bj;have au:=r.length;have aC:=pn;have iD:Inv X pins σ (upd H p (.lst (xs.set j v))) { s with heap:=s.heap.update p (Obj.mapSeq (·.setIfInBounds j u)) } :=
  I.RQ ay aO (Ym its n j u) (r.set bE j) (by rw [List.length_set];exact aN) s.toks
 by_cases h0:0<=k
 ·have aB:k.toNat=j:=by
   rw [seqIndex_of h0 aU] at af;exact Option.some.inj af
  exact PySem.W.ki_setAt aO h0 (by omega) (by rw [List.size_toArray,<-au];exact aU) (by rw [aB];exact ⟨_,iD,q⟩)
 ·have aB:(k+(its.toArray.size:Int)).toNat=j:=by
   rw [seqIndex_neg (by omega) aF] at af;rw [List.size_toArray,<-au];exact Option.some.inj af
  exact PySem.W.ki_setBack aO (by omega) (by rw [List.size_toArray,<-au];exact aF) (by omega) (by rw [aB];exact ⟨_,iD,q⟩)
theorem Zw (lo ax:Option Int) (n:Nat):(sliceBounds lo ax none n).1=((dw.ct n 0 lo:Nat):Int)/\(sliceBounds lo ax none n).2.1=((dw.ct n n ax:Nat):Int)/\(sliceBounds lo ax none n).2.2=1:=by
 refine ⟨?_,?_,rfl⟩
 ·cases lo with
  | none=>simp [sliceBounds,dw.ct]
  | some i =>
   simp only [sliceBounds,dw.ct,Option.getD_none,show (1:Int) > 0 by decide,if_true];by_cases h:i<0
   ·simp only [h,if_true]<;>omega
   ·simp only [h,if_false]<;>omega
 ·cases ax with
  | none=>simp [sliceBounds,dw.ct]
  | some i =>
   simp only [sliceBounds,dw.ct,Option.getD_none,show (1:Int) > 0 by decide,if_true];by_cases h:i<0
   ·simp only [h,if_true]<;>omega
   ·simp only [h,if_false]<;>omega
theorem ZX (its:List Value) (lo ax:Option Int):slicePick its.toArray lo ax none=((its.drop (dw.ct its.length 0 lo)).take (dw.ct its.length its.length ax - dw.ct its.length 0 lo)).toArray:=by
 obtain ⟨af,aq,aF⟩:=Zw lo ax its.toArray.size;unfold slicePick;rw [af,aq,aF];simp only [sliceRange_one,pick_run,List.size_toArray]<;>rfl
noncomputable def QJ (K:PySem.W.Frag):V->Option Int->Option Int->aj->bz->Prop:=λ x lo ax H Q => ∃ a xs,x=.ref a/\a4 K H a xs /\ ∀ p,H p=none->Q (.ref p) (upd H p (.lst (hU xs lo ax)))
theorem AR:lj X (QJ X.K):=by
 intro pins s σ H x v fF fG lo ax cq Q I aT aA pl pu h;obtain ⟨a,xs,rfl,ah,q⟩:=h;cases aT;obtain ⟨its,r,aZ,aN⟩:=I.list ah;have hlen:=r.length;refine ⟨"list", _,slot_list_getitem.lookup,aZ.isList.typeIs,?_⟩;refine wpAny_getItem_list_slice aZ.isList aA pl pu .none (by simp) ?_ (by rw [List.size_toArray]<;>omega);rw [ZX,<-hlen];refine ⟨.ref s.heap.objs.size,_,I.laid (t':=s.toks) (o:=.lst (hU xs lo ax)) (λ b bJ q=>Heap.get?_push_of_some _ q) (Nat.le_refl _) ?_,rfl,q _ (I.a0.fresh (Nat.le_refl _))⟩;exact ⟨Nat.le_trans (JM xs lo ax) aN,_,0,(r.drop (dw.ct xs.length 0 lo)).take (dw.ct xs.length xs.length ax - dw.ct xs.length 0 lo),Heap.get?_push_size _ rfl⟩
noncomputable def n3:V->Bool
 | .bp=>true
 | .ba _=>true
 | .int _=>true
 | .str _=>true
 | _=>false
noncomputable def mv:V->V->Bool
 | .bp,.bp=>true
 | .ba a,.ba b=>a == b
 | .ba a,.int b=>(if a then 1 else 0) == b
 | .int a,.ba b=>a == (if b then 1 else 0)
 | .int a,.int b=>a == b
 | .str a,.str b=>a == b
 | _,_=>false
theorem RG {A:Around} {s:Shared} {y x:V} {u v:Value} (bb:RelV y u) (aT:RelV x v) (LA:n3 y=true) (k8:n3 x=true):SeqAt.EqAt A s u v (mv y x):=by
 cases y with
 | bp =>
  cases bb;cases x with
  | bp=>cases aT;exact SeqAt.EqAt.same _
  | ba b=>cases aT;exact SeqAt.EqAt.none_bool b
  | int b=>obtain ⟨t,rfl⟩:=aT;exact SeqAt.EqAt.none_int b t
  | str b=>obtain ⟨t,rfl⟩:=aT;exact SeqAt.EqAt.none_str b t
  | _=>exact absurd (show false=true from k8) Bool.false_ne_true
 | ba a =>
  cases bb;cases x with
  | bp=>cases aT;exact SeqAt.EqAt.bool_none a
  | ba b=>cases aT;exact SeqAt.EqAt.bool_bool a b
  | int b=>obtain ⟨t,rfl⟩:=aT;exact SeqAt.EqAt.bool_int a b t
  | str b=>obtain ⟨t,rfl⟩:=aT;exact SeqAt.EqAt.bool_str a b t
  | _=>exact absurd (show false=true from k8) Bool.false_ne_true
 | int a =>
  obtain ⟨t',rfl⟩:=bb;cases x with
  | bp=>cases aT;exact SeqAt.EqAt.int_none a t'
  | ba b=>cases aT;exact SeqAt.EqAt.int_bool a t' b
  | int b=>obtain ⟨t,rfl⟩:=aT;exact SeqAt.EqAt.int_int a t' b t
  | str b=>obtain ⟨t,rfl⟩:=aT;exact SeqAt.EqAt.int_str a t' b t
  | _=>exact absurd (show false=true from k8) Bool.false_ne_true
 | str a =>
  obtain ⟨t',rfl⟩:=bb;cases x with
  | bp=>cases aT;exact SeqAt.EqAt.str_none a t'
  | ba b=>cases aT;exact SeqAt.EqAt.str_bool a t' b
  | int b=>obtain ⟨t,rfl⟩:=aT;exact SeqAt.EqAt.str_int a t' b t
  | str b=>obtain ⟨t,rfl⟩:=aT;exact SeqAt.EqAt.str_str a t' b t
  | _=>exact absurd (show false=true from k8) Bool.false_ne_true
 | _=>exact absurd (show false=true from LA) Bool.false_ne_true
noncomputable def mu (x:V) (u:Value):Bool:=match u with
 | .none=>mv .bp x
 | .bool b=>mv (.ba b) x
 | .int i _=>mv (.int i) x
 | .str z _=>mv (.str z) x
 | _=>false
theorem Gq {x y:V} {u:Value} (r:RelV y u) (f:n3 y=true):mu x u=mv y x:=by
 cases y with
 | bp=>cases r;rfl
 | ba b=>cases r;rfl
 | int i=>obtain ⟨t,rfl⟩:=r;rfl
 | str z=>obtain ⟨t,rfl⟩:=r;rfl
 | _=>exact absurd (show false=true from f) Bool.false_ne_true
theorem Av {x:V} : ∀ {xs:List V} {us:List Value},Vals xs us->xs.all n3=true->us.any (mu x)=xs.any λ y=>mv y x
 | _,_,.nil,_=>rfl
 | y::xs,u::us,.cons r t,f=>by
  rw [List.all_cons,Bool.and_eq_true] at f;rw [List.any_cons,List.any_cons,Gq r f.1,Av t f.2]
theorem A7 {A:Around} {s:Shared} {x:V} {v:Value} (aT:RelV x v) (k8:n3 x=true) : ∀ {xs:List V} {us:List Value},Vals xs us->xs.all n3=true -> ∀ u∈us,SeqAt.EqAt A s u v (mu x u)
 | _,_,.nil,_=>λ u b_=>by cases b_
 | y::xs,u::us,.cons r t,f=>λ mh b_=>by
  rw [List.all_cons,Bool.and_eq_true] at f;rcases List.mem_cons.mp b_ with rfl | b_
  ·rw [Gq r f.1];exact RG r aT f.1 k8
  ·exact A7 aT k8 t f.2 mh b_
noncomputable def jZ (x:V) (xs:List V):Bool:=xs.any λ y=>mv y x
noncomputable def O3 (K:PySem.W.Frag) (neg:Bool):e1:=λ x y H Q => ∃ p xs,y=.ref p/\(a4 K H p xs\/aW K H p xs)/\n3 x=true/\xs.all n3=true/\Q (.ba (if neg then !jZ x xs else jZ x xs)) H
theorem I6:dx X (compareOp .In) (O3 X.K false):=by
 intro pins s σ H x y v u Q I aT bb h;obtain ⟨p,xs,rfl,aR,k8,ak,q⟩:=h;cases bb;rcases aR with aR | aR
 ·obtain ⟨its,r,pl,aN⟩:=I.list aR;refine SeqAt.in_listAt (mu x) pl.isList (λ w hw=>A7 aT k8 r ak w (by simpa using hw)) ⟨.ba _,H,I,rfl,?_⟩;rw [show its.toArray.any (mu x)=its.any (mu x) by simp,Av r ak];exact q
 ·obtain ⟨its,r,pl,aN⟩:=I.tuple aR;refine SeqAt.in_tupleAt (mu x) pl (λ w hw=>A7 aT k8 r ak w (by simpa using hw)) ⟨.ba _,H,I,rfl,?_⟩;rw [show its.toArray.any (mu x)=its.any (mu x) by simp,Av r ak];exact q
theorem g7:eN X (.builtin "len") (λ xs H Q => ∃ p ys,xs=[.ref p]/\(a4 X.K H p ys\/aW X.K H p ys)/\Q (.int ys.length) H):=by
 intro pins s σ H xs us Q I r h;obtain ⟨p,ys,rfl,aR,q⟩:=h;obtain ⟨u,rfl,aT⟩:=vals1 r;cases aT;have aC:=pn;rcases aR with aR | aR
 ·obtain ⟨its,bY,pl,aN⟩:=I.list aR;have hlen:=bY.length;exact Calls.call_len_list pl.isList (by simp only [List.size_toArray]<;>omega) ⟨.int ys.length,H,I.tok _,⟨s.toks+1,by rw [List.size_toArray,hlen]⟩,q⟩
 ·obtain ⟨its,bY,pl,aN⟩:=I.tuple aR;have hlen:=bY.length;exact len_tuple pl (by simp only [List.size_toArray]<;>omega) ⟨.int ys.length,H,I.tok _,⟨s.toks+1,by rw [List.size_toArray,hlen]⟩,q⟩
theorem tN:eN X (.builtin "len") (λ xs H Q => ∃ z,xs=[.str z]/\z.length<=sizeLine/\Q (.int z.length) H):=by
 intro pins s σ H xs us Q I r h;obtain ⟨z,rfl,aN,q⟩:=h;obtain ⟨u,rfl,t,rfl⟩:=vals1 r;have aC:=pn;exact len_str (by omega) ⟨.int z.length,H,I.tok _,⟨_,rfl⟩,q⟩
theorem tQ:eN X (.type "tuple") (λ xs H Q => ∃ p ys,xs=[.ref p]/\((a4 X.K H p ys /\ ∀ l,H l=none->Q (.ref l) (upd H l (.tup ys)))\/(aW X.K H p ys/\Q (.ref p) H))):=by
 intro pins s σ H xs us Q I r h;obtain ⟨p,ys,rfl,h⟩:=h;obtain ⟨u,rfl,aT⟩:=vals1 r;cases aT;rcases h with ⟨aR,q⟩ | ⟨aR,q⟩
 ·obtain ⟨its,bY,pl,aN⟩:=I.list aR;have hlen:=bY.length;refine call_tuple_list pl.isList (λ h' bZ=>?_) (by simp only [List.size_toArray]<;>omega);have aJ:Inv X pins σ H { s with heap:=h' }:=I.kept (t':=s.toks) bZ;have bD:Inv X pins σ (upd H h'.objs.size (.tup ys)) { s with heap:=h'.push { cls:=.type "tuple", data:=.seq its.toArray } } :=
   aJ.laid (t':=s.toks) (λ b o e=>Heap.get?_push_of_some _ e) (Nat.le_refl _) (show dv X.prog X.w _ _ _ (.tup ys) from ⟨aN,its,bY,lQ.new _ _⟩)
  exact ⟨.ref h'.objs.size,_,bD,rfl,q _ (aJ.a0.fresh (Nat.le_refl _))⟩
 ·obtain ⟨its,bY,pl,aN⟩:=I.tuple aR;exact call_tuple_same pl ⟨.ref p,H,I,rfl,q⟩
noncomputable def EP (K:PySem.W.Frag) (T:String) (x:V) (H:aj):Prop:=match x with
 | .str _=>T = "str"
 | .int _=>T = "int"
 | .ref p=>(T = "list" /\ ∃ xs,a4 K H p xs)\/(T = "tuple" /\ ∃ o,K.lookup p=some o/\o.cls=.type "tuple" /\ o.dict=none) \/
   (T = "dict" /\ ((∃ kvs,H p=some (.cM kvs)) \/ ∃ kvs,H p=some (.eI kvs)))\/(T = "set" /\ ∃ S n,H p=some (.set S n))
 | _=>False
theorem SO {pins:List (Addr×Obj)} {σ:St} {H:aj} {s:Shared} {T:String} {x:V} {v:Value} (I:Inv X pins σ H s) (r:RelV x v) (ty:EP X.K T x H) :
  s.TypeIs v T /\ ∀ a,v=.ref a -> ∃ bJ,s.heap.get? a=some bJ/\bJ.dict=none:=by
 cases x with
 | str z =>
  obtain ⟨t,rfl⟩:=r;cases (show T = "str" from ty);exact ⟨typeIs_str s z t,λ _ e=>nomatch e⟩
 | int i =>
  obtain ⟨t,rfl⟩:=r;cases (show T = "int" from ty);exact ⟨typeIs_int s i t,λ _ e=>nomatch e⟩
 | ref p =>
  cases r;rcases ty with ⟨rfl,xs,aR⟩ | ⟨rfl,o,aB,ao,hd⟩ | ⟨rfl,aB⟩ | ⟨rfl,S,n,aB⟩
  ·obtain ⟨its,_,pl,_⟩:=I.list aR;refine ⟨pl.isList.typeIs,λ a e=>?_⟩;cases e;obtain ⟨o,n,e,c,hd,_⟩:=pl;exact ⟨o,e,hd⟩
  ·refine ⟨⟨o,I.dh p o aB,ao⟩,λ a e=>?_⟩;cases e;exact ⟨o,I.dh _ o aB,hd⟩
  ·have z : ∃ o,s.heap.get? p=some o/\o.ExactDict:=by
    rcases aB with ⟨kvs,aB⟩ | ⟨kvs,aB⟩
    ·obtain ⟨_,_,_,_,o,_,_,e,ex,_⟩:=I.a0 p _ aB;exact ⟨o,e,ex⟩
    ·obtain ⟨_,_,_,_,o,_,_,e,ex,_⟩:=I.a0 p _ aB;exact ⟨o,e,ex⟩
   obtain ⟨o,e,ex⟩:=z;refine ⟨⟨o,e,ex.1⟩,λ a aI=>?_⟩;cases aI;exact ⟨o,e,ex.2.1⟩
  ·obtain ⟨o,_,_,_,e,ex,_⟩:=I.a0 p _ aB;refine ⟨⟨o,e,ex.1⟩,λ a aI=>?_⟩;cases aI;exact ⟨o,e,ex.2.1⟩
 | _=>exact False.elim ty
noncomputable def zr (K:PySem.W.Frag) (T:String) (r:V->List V->aj->bz->Prop) (to:TE) (t:cH):TE:=λ σ H Q=>to σ H λ x H1=>EP K T x H1/\t σ H1 λ xs aw=>r x xs aw Q
variable {o e:Expr} {es:List Expr} {to:TE} {t:cH} {name:Str} {apos cK:Pos} {T id:String} {r:V->List V->aj->bz->Prop}
theorem F2 (fU:PlainAttrs T) (slot:Slot T name id) (su:typeOf (.builtin id)=pure (.type "method_descriptor")) (hm:nB X id r) (aO:bK X o to) (av:gB X (e::es) t)
  (hv:attributeBase o name X.env (eval o X.env)=eval o X.env:=by rfl)
  (kK:((backTo cK (starEach (e::es) X.env)).all (λ x => !x.1)&&(backToKw cK (keywordEach [] X.env)).all (λ x=>x.1.isSome)
   && decide ((e::es).length+([]:List Keyword).length+(if ([]:List Keyword).isEmpty then 0 else 1)<30))=true:=by rfl)
  (kP:(apos.endLine == cK.line)=true:=by rfl) (aA:starEach (e::es) X.env=(false,eval e X.env)::starEach es X.env:=by rfl) (m4:(backTo cK (starEach es X.env)).any (·.1)=false:=by rfl) :
  bK X (.Call (.Attribute o name apos) (e::es) [] cK) (zr X.K T r to t):=by
 intro pins s σ H Q I h;refine wpAny_Call_method_late hv kK kP rfl (a_ (aO pins s σ H _ I h) λ v s1 ⟨x,H1,aJ,bG,ty,a6⟩=>?_);obtain ⟨af,aq⟩:=SO aJ bG ty;refine ⟨T,id,fU,slot,su,af,aq,?_⟩;have nq:=av cK pins s1 σ H1 _ aJ a6;rw [aA] at nq ⊢;refine Calls.callWith_builtin (by show (false||(backTo cK (starEach es X.env)).any (·.1))=false;rw [m4]<;>rfl) (Calls.evalArgs_plain ?_);exact a_ nq λ us s2 ⟨vs,aw,bD,cb,b0⟩=>hm pins s2 σ aw x vs v us Q bD bG cb b0
end
noncomputable def p4 (X:aQ) (id:String) (r:V->List V->aj->bz->Prop):Prop :=
 ∀ (pins:List (Addr×Obj)) (s:Shared) (σ:St) (H:aj) (x:V) (xs:List V) (v:Value) (us:List Value) (Q:bz),Inv X pins σ H s->RelV x v->Vals xs us->r x xs H Q ->
  wpAny (model X.prog X.w) X.A (call (.builtin id) (v::us)) (fB X pins σ Q) X.cB s
theorem Vals.one : ∀ {x:V} {us:List Value},Vals [x] us -> ∃ u,us=[u]/\RelV x u
 | _,_,.cons r .nil=>⟨_,rfl,r⟩
theorem Vals.rep {xs:List V} {us:List Value} (h:Vals xs us) : ∀ k:Nat,Vals (List.replicate k xs).flatten (List.replicate k us).flatten
 | 0=>.nil
 | k+1=>by
  rw [List.replicate_succ,List.replicate_succ,List.flatten_cons,List.flatten_cons];exact Vals.append h (Vals.rep h k)
theorem foldl_rep (its:List Value) : ∀ (k:Nat) (acc:List Value),
  List.foldl (λ eJ fa=>eJ++fa) acc.toArray (List.replicate k its.toArray)=(acc++(List.replicate k its).flatten).toArray
 | 0,acc=>by simp
 | k+1,acc=>by
  have e:acc.toArray++its.toArray=(acc++its).toArray:=by simp
  have aI:(acc++its)++(List.replicate k its).flatten=acc++(List.replicate (k+1) its).flatten:=by
   rw [List.replicate_succ,List.flatten_cons,List.append_assoc]
  rw [<-aI,<-foldl_rep its k (acc++its),<-e,List.replicate_succ,List.foldl_cons]
section
variable {X:aQ} {pins:List (Addr×Obj)} {σ:St} {H:aj} {s:Shared} {l b:Addr} {xs ys zs:List V}
theorem Inv.Fp {its its':List Value} {n:Nat} {f:Array Value->Array Value} {t':Nat} (I:Inv X pins σ H s) (h1:H l=some (.lst xs))
  (e:s.heap.get? l=some { cls:=.type "list", data:=.seq its.toArray n }) (hf:f its.toArray=its'.toArray) (a7:Vals ys its') (aN:ys.length<=sizeLine) :
  Inv X pins σ (upd H l (.lst ys)) { s with heap:=s.heap.update l (Obj.mapSeq f),toks:=t' }:=by
 have q:=PySem.IsL.update e f;rw [hf] at q;refine I.write (x:=l) (e:=l) (by rw [h1];exact trivial) (.inl rfl) (λ e6 u aa b_=>(Heap.get?_update_other s.heap (Obj.mapSeq f) (Ne.symm aa)).trans b_) ⟨_,q⟩ ?_;exact ⟨aN,its',_,a7,q⟩
theorem Inv.vz {its:List Value} {t':Nat} (I:Inv X pins σ H s) (a7:Vals ys its) (aN:ys.length<=sizeLine) :
  Inv X pins σ (upd H s.heap.objs.size (.lst ys)) { s with heap:=s.heap.push { cls:=.type "list", data:=.seq its.toArray },toks:=t' } :=
 I.laid (λ _ _ q=>Heap.get?_push_of_some _ q) (Nat.le_refl _) ⟨aN,its,0,a7,Heap.get?_push_size _ rfl⟩
theorem Inv.fresh (I:Inv X pins σ H s):H s.heap.objs.size=none:=I.a0.fresh (Nat.le_refl _)
theorem Inv.jy (I:Inv X pins σ H s) (h1:H l=some (.lst xs)):xs.length<=sizeLine /\ ∃ (its:List Value) (n:Nat),Vals xs its/\xs.length=its.length/\s.heap.get? l=some { cls:=.type "list", data:=.seq its.toArray n }:=by
 obtain ⟨z,its,n,r,e⟩:=I.a0 l _ h1;exact ⟨z,its,n,r,r.length,e⟩
theorem Vl {n:Nat} (h:n<=sizeLine):Builtin.List.listTooLong n=false:=by
 unfold Builtin.List.listTooLong;exact decide_eq_false (by omega)
end
section
variable {X:aQ}
noncomputable def Ub:V->List V->aj->bz->Prop:=λ x vs H Q => ∃ l xs y,x=.ref l/\vs=[y]/\H l=some (.lst xs)/\xs.length<sizeLine/\Q .bp (upd H l (.lst (xs++[y])))
theorem BB:p4 X "list.append" Ub:=by
 intro pins s σ H x vs v us Q I aT bE h;obtain ⟨l,xs,y,rfl,rfl,h1,aN,q⟩:=h;cases aT;obtain ⟨u,rfl,dA⟩:=bE.one;obtain ⟨z,its,n,r,au,e⟩:=I.jy h1;refine call_meets F.slot_list_append ⟨_,e,rfl⟩ F.entry_list_append (F.args_list_append_2 _ _) (PySem.list_append l its.toArray n u (by rw [List.size_toArray];omega)) ⟨e,?_⟩;refine ⟨.bp,_,I.Fp (its':=its++[u]) h1 e (by simp) (r.append (.cons dA .nil)) ?_,rfl,q⟩;rw [List.length_append,List.length_singleton];omega
noncomputable def QD:e1:=λ x y H Q => ∃ l b xs zs,x=.ref l/\y=.ref b/\H l=some (.lst xs)/\H b=some (.lst zs)/\xs.length+zs.length<=sizeLine /\ ∀ p,H p=none->Q (.ref p) (upd H p (.lst (xs++zs)))
theorem RW:dx X (binaryOp .Add) QD:=by
 intro pins s σ H x y v u Q I aT bb h;obtain ⟨l,b,xs,zs,rfl,rfl,h1,fj,aN,q⟩:=h;cases aT;cases bb;obtain ⟨z,its,n,r,au,e⟩:=I.jy h1;obtain ⟨di,Fn,dp,cb,fb,aI⟩:=I.jy fj;refine PySem.P.add_list e aI ?_ (by rw [List.size_toArray,List.size_toArray];omega);have dG:its.toArray++Fn.toArray=(its++Fn).toArray:=by simp
 rw [dG];exact ⟨.ref _,_,I.vz (t':=s.toks) (r.append cb) (by rw [List.length_append];omega),rfl,q _ I.fresh⟩
noncomputable def QI:e1:=λ x y H Q => ∃ l k xs,x=.ref l/\y=.int k/\H l=some (.lst xs) /\ -(2 ^ 63)<=k/\k<2 ^ 63/\xs.length * k.toNat<=sizeLine /\
 ∀ p,H p=none->Q (.ref p) (upd H p (.lst (List.replicate k.toNat xs).flatten))
theorem len_rep {α : Type} (xs:List α) (k:Nat):(List.replicate k xs).flatten.length=k * xs.length:=by
 induction k with
 | zero=>simp
 | succ k cI=>rw [List.replicate_succ,List.flatten_cons,List.length_append,cI,Nat.succ_mul,Nat.add_comm]
theorem GA:dx X (binaryOp .Mult) QI:=by
 intro pins s σ H x y v u Q I aT bb h;obtain ⟨l,k,xs,rfl,rfl,h1,af,aq,aN,q⟩:=h;cases aT;obtain ⟨t,rfl⟩:=bb;obtain ⟨z,its,n,r,au,e⟩:=I.jy h1;have hlen:its.toArray.size * k.toNat<=sizeLine:=by rw [List.size_toArray,<-au];exact aN
 have PU : ¬ its.toArray.size * k.toNat > (2 ^ 63 - 1) / 8:=by
  have:(sizeLine:Nat)<=(2 ^ 63 - 1) / 8:=by decide
  omega
 have pd : ¬ (!Builtin.List.listFitsIndex k)=true:=by
  rw [fitsIndex_both af aq];exact Bool.false_ne_true
 have QY : ¬ Builtin.List.listTooLong (its.toArray.size * k.toNat)=true:=by
  rw [Vl hlen];exact Bool.false_ne_true
 have zJ:List.foldl (λ eJ fa=>eJ++fa) #[] (List.replicate (if its.toArray.isEmpty=true then 0 else k.toNat) its.toArray)=(List.replicate k.toNat its).flatten.toArray:=by
  have f0 : ∀ m:Nat,List.foldl (λ eJ fa=>eJ++fa) #[] (List.replicate m its.toArray)=(List.replicate m its).flatten.toArray:=λ m=>by
   have:=foldl_rep its m [];rw [List.nil_append] at this;exact this
  rw [f0];cases its with
  | nil=>simp
  | cons a bY=>rw [if_neg (by simp)]
 refine wpAny_binaryOp_repeat_ref (T := "list") (U := "int") (by decide) ⟨_,e,rfl⟩ (λ s'=>typeIs_int s' k t) noFill_list_mul F.fills_int_mul F.slot_int_rmul repeat_list F.slot_int_index.lookup
  (call_meets F.slot_int_rmul (typeIs_int s k t) F.entry_int_rmul (F.args_int_rmul_2 _ _) (int___rmul___int_list k t l its.toArray n)
   ⟨e,rfl,⟨_,e,rfl⟩,call_meets F.slot_list_mul ⟨_,e,rfl⟩ F.entry_list_mul (F.args_list_mul_2 _ _) (AutoListH.list___mul___list_int_3 l its.toArray n k t pd PU QY) ⟨e,?_⟩⟩)
 rw [zJ];exact ⟨.ref _,_,I.vz (t':=s.toks) (r.rep k.toNat) (by rw [len_rep,Nat.mul_comm];exact aN),rfl,q _ I.fresh⟩
end
end bC
namespace DC
open PySem PySem.W PySem.Calls PyProof.Rows
theorem aaj {P:Params} {h:Heap} : ∀ (ns:List Int) (vs:List Value),WellAll P h vs (ns.map WData.int)->IntsAre vs ns:=by
 intro ns
 induction ns with
 | nil =>
  intro vs w;rw [List.map_nil] at w;cases w;exact .nil
 | cons n ns cI =>
  intro vs w;rw [List.map_cons] at w;cases w with
  | cons a b =>
   cases a;exact .cons _ _ (cI _ b)
theorem Xo {l:OpenLaw} {n:Nat} (aC:l.most=some n) {P:Params} {h:Heap} {args:List WData} {vals:List Value}
  (vt:l.row.toRowW.claim.pre args=true) (iZ:WellAll P h vals args) :
  ∃ a vs ns,vals=[Value.ref a]/\args=[WData.list (ns.map WData.int)]/\h.get? a=some { cls:=.type "list", data:=.seq vs.toArray }/\IntsAre vs ns/\ns.length<=n:=by
 have Oa:WShape.hasAll [] args [.list .int]=true:=(pre_splitW vt).1;have ao:l.pre.holds [] { args:=args }=true:=(pre_splitW vt).2;obtain ⟨d,r,rfl,af,aq⟩:=hasAllW_cons Oa;obtain rfl:=hasAllW_nil aq;obtain ⟨xs,rfl,aF⟩:=hasW_list af;obtain ⟨ns,rfl⟩:=items_int aF;have hlen:ns.length<=n:=by
  unfold OpenLaw.pre at ao;have aU:(WTm.not (.lt (.lit (.int (n:Int))) (.len (.arg 0)))).holds [] { args:=[.list (ns.map .int)] }=true:=by
   have aU:=(holds_andW ao).1;rw [aC] at aU;exact aU
  have bW:=condW_of aU (w_not (w_lt w_lit (w_len_list (w_arg rfl))));rw [List.length_map] at bW;refine Nat.le_of_not_lt λ q=>?_
  have a8:(n:Int)<((ns.length:Nat):Int):=by omega
  first
   | (rw [decide_eq_true a8] at bW;exact absurd bW (by decide))
   | (simp at bW;omega)
 cases iZ with
 | cons jl fH =>
  cases fH;cases jl with
  | list aO g0=>exact ⟨_,_,ns,rfl,rfl,aO,aaj ns _ g0,hlen⟩
theorem Xe (l:OpenLaw) (args:List WData):l.row.toRowW.claim.post args (.bool true) args=true :=
 postW_of (r:=l.row.toRowW) (X:=(true == true))
  (show WShape.has [] (.bool true) .bool=true by first | rfl | decide | simp [WShape.has,WShape.arms,WShape.armsAll])
  (show (WTm.eq .res (.lit (.bool true))).value [] { args:=args,res:=some (.bool true),after:=args }=some (.bool (true == true)) from w_eq_bool (w_res rfl) w_lit) rfl
theorem YT {l:OpenLaw} {n:Nat} {q:Program} {loose:List Str} {pL:(Str->Option Value)->Heap->Prop} {nk:World->Heap->Prop} {d:DefRec}
  (aC:l.most=some n) (r9:d.params.defaults=[])
  (call : ∀ (w:World) (s₀ s₁:Shared) (mg jO:Str->Option Value) (fi:Addr) (o:Obj) (pm cd doc:Value) (a:Addr) (vs:List Value) (ns:List Int),
   Ground q loose [] pL w s₀ mg jO s₁.heap->nk w s₁.heap ->
   s₁.heap.get? fi=some o->o.data=.func (docDef d.name d.params d.body d.scope pm cd doc)->s₁.heap.CodeRec cd d.name->mg d.name=some (.ref fi) ->
   s₁.heap.get? a=some { cls:=.type "list", data:=.seq vs.toArray }->IntsAre vs ns->ns.length<=n->s₁.gens=#[] ->
   codeAny (model l.prog w) callerA (.call (.ref fi) ⟨[.ref a],[]⟩) (λ r s'=>r=.ok (.ret (.bool true))/\OldK s₁.heap s'.heap/\s'.os=s₁.os/\AllBare s'.gens) s₁) :
  WalkO q loose pL nk l.row.toRowW d [] (λ f vs=>PySem.call f vs):=by
 intro w s₀ s₁ mg jO G Y fi o pm cd doc ud cm aO hd hn aY sj aM args vals as vt ab1 abw iZ abt;obtain rfl:ud=.none:=Dflts.none aY r9;obtain rfl:cm=.none:=Dflts.noKw aY;obtain ⟨a,vs,ns,rfl,rfl,mY,hints,hlen⟩:=Xo aC vt iZ;refine enter_call (codeAny_mono (call w s₀ s₁ mg jO fi o pm cd doc a vs ns G Y aO (fd_plain hd) hn sj mY hints hlen aM) λ r s' aR=>?_);obtain ⟨rfl,aq,aF,aU⟩:=aR;exact ⟨.inl ⟨.bool true,.bool true,[],rfl,λ _=>rfl,.bool true,Xe l _,λ _=>⟨List.Pairwise.nil,λ _ hm=>(nomatch hm)⟩⟩,aq,aF,aU⟩
end DC
namespace bC
open PySem PySem.Spec PyProof.Rows
theorem Je : ∀ {vs:List Value} {ns:List Int},IntsAre vs ns->Vals (ns.map V.int) vs
 | _,_,.nil=>.nil
 | _,_,.cons n t h=>.cons ⟨t,rfl⟩ (Je h)
noncomputable def zx (H:aj):Prop := ∀ b,H b=none \/ ∃ o xs,H b=some (.hL o (.lst xs))
theorem Vc {P:Program} {w:World} {K:PySem.W.Frag} {mg jO:Str->Option Value} {cc:hG} {k:Nat} {fi a:Addr} {fd:FuncData} {x:Str} {sp:bF} {s₁:Shared} {vs:List Value} {ns:List Int}
  (jd:K.In s₁.heap) (iY:s₁.heap.Ns mainGlobals mg) (aa:s₁.heap.Ns builtinsNs jO) (ND : ∀ x:Str,x ≠ "__name__" -> jO x=bootBuiltins x) (P6:s₁.heap.NoLimit) (aM:s₁.gens=#[])
  (av:s₁.heap.get? a=some { cls:=.type "list", data:=.seq vs.toArray }) (ax:IntsAre vs ns) (au:ns.length<=sizeLine) (ar:c_ k callerA)
  (F : ∀ base:Heap,K.In base->base.Ns mainGlobals mg->d3 P w K mg base cc k fi fd [x] sp) (QX : ∀ (s:Shared) (u:Value),BindsTo s fd ⟨[u],[]⟩ [(x,u)])
  (dX : ∀ H:aj,zx H->a4 K H a (ns.map V.int)->sp [.ref a] H (λ v _=>v=.ba true) λ _ _ _=>False)
  (yF : ∀ H e s',cc [] H s₁ (λ _ _ _=>False) e s'->False) :
  codeAny (model P w) callerA (.call (.ref fi) ⟨[.ref a],[]⟩) (λ r s'=>r=.ok (.ret (.bool true))/\OldK s₁.heap s'.heap/\s'.os=s₁.os/\AllBare s'.gens) s₁:=by
 have bE:=Je ax;have Qt:=ax.length;have core : ∀ H:aj,zx H->a4 K H a (ns.map V.int)->dM P w H s₁.heap->(∀ b,H b≠none->b=a)->(H a≠none->K.lookup a=none) ->
   codeAny (model P w) callerA (.call (.ref fi) ⟨[.ref a],[]⟩) (λ r s'=>r=.ok (.ret (.bool true))/\OldK s₁.heap s'.heap/\s'.os=s₁.os/\AllBare s'.gens) s₁:=by
  intro H uk cG a0 nq dQ;have GU : ∀ {b:Addr} {o:Obj},s₁.heap.get? b=some o->H b=none->(mW s₁.heap H).get? b=some o:=λ e n=>U9 e n
  have sF : ∀ {b:Addr} {o:Obj} {es:Array DictEntry} {ep:Nat},s₁.heap.get? b=some o->o.data=.dict es ep->H b=none:=λ {b o es ep} e d=>by
   cases q:H b with
   | none=>rfl
   | some u =>
    have b5:b=a:=nq b (by rw [q];simp);subst b5;rw [av] at e;cases e;have d':Data.seq vs.toArray _=Data.dict es ep:=d;cases d'
  have u_ : ∀ {b:Addr} {m:Str->Option Value},s₁.heap.Ns b m->(mW s₁.heap H).Ns b m:=λ {b m} ⟨o,es,ep,e,d,r⟩=>⟨o,es,ep,GU e (sF e d),d,r⟩
  have D0:K.In (mW s₁.heap H):=λ b o e=>GU (jd b o e) (by
   cases q:H b with
   | none=>rfl
   | some u =>
    have b5:b=a:=nq b (by rw [q];simp);subst b5;rw [dQ (by rw [q];simp)] at e;cases e)
  have k9:Mod K mg (mW s₁.heap H):=⟨D0,u_ iY,⟨jO,u_ aa,ND⟩,let ⟨LM,af,aq⟩:=P6;⟨LM,u_ af,aq⟩⟩
  have b6:mV P w K mg (mW s₁.heap H) callerA [] s₁ H:=⟨rfl,k9,λ b o e=>Tq e,Nat.le_of_eq (WM _ _),trivial,λ b aa=>absurd (show b∈([]:List Addr) from aa) (by simp),a0,.of_eq aM⟩
  refine codeAny_mono ((F _ D0 (u_ iY)).run callerA [] s₁ H ⟨[.ref a],[]⟩ [.ref a] [.ref a] _ _ ar b6 (QX s₁ (.ref a)) (.cons rfl .nil) (dX H uk cG)) λ r s' h=>?_
  cases r with
  | error e=>exact (yF H e s' h).elim
  | ok df =>
   cases df with
   | next=>exact False.elim h
   | brk=>exact False.elim h
   | cont=>exact False.elim h
   | ret u =>
    obtain ⟨v,H',os,bare,un,P_,bY,q⟩:=h;have a8:v=.ba true:=q;subst a8;obtain rfl:u=Value.bool true:=bY;refine ⟨rfl,OldK.of_keep λ b o e=>?_,os,bare⟩;cases q:H b with
    | none=>exact un.keep b o e q (by intro z;exact absurd (show b∈([]:List Addr) from z) (by simp)) (by simp)
    | some u =>
     rcases uk b with z | ⟨bJ,xs,z⟩
     ·rw [q] at z;cases z
     ·have di:=un.ih b bJ _ z;obtain ⟨aE,_⟩:=a0 b _ z;obtain ⟨aI,_⟩:=P_ b _ di;rw [e] at aE;cases aE;exact aI
 cases aB:K.lookup a with
 | some o =>
  have e:=jd a o aB;rw [av] at e;cases e;refine core (λ _=>none) (λ _=>.inl rfl) (.inr ⟨_,vs.toArray,_,aB,rfl,rfl,rfl,by rw [List.size_toArray,Qt];exact au,by simpa using bE⟩) (λ b u z=>by have c9:(none:Option dz)=some u:=z;cases c9) (λ b z=>absurd rfl z) λ z=>absurd rfl z
 | none =>
  refine core (λ b=>if b=a then some (.hL { cls:=.type "list", data:=.seq vs.toArray } (.lst (ns.map V.int))) else none) (λ b=>?_) (.inl (.inr ⟨{ cls:=.type "list", data:=.seq vs.toArray },if_pos rfl⟩)) (λ b u z=>?_) (λ b z=>?_) λ _=>aB
  ·by_cases aa:b=a
   ·exact .inr ⟨_,_,if_pos aa⟩
   ·exact .inl (if_neg aa)
  ·by_cases aa:b=a
   ·have c9:=(if_pos aa).symm.trans z;cases c9;subst aa;exact ⟨av,by rw [List.length_map];exact au,vs,_,bE,av⟩
   ·have c9:=(if_neg aa).symm.trans z;cases c9
  ·by_cases aa:b=a
   ·exact aa
   ·exact absurd (if_neg aa) z
theorem UB {l:PySem.W.OpenLaw} {n k:Nat} {q:Program} {loose:List Str} {pL:(Str->Option Value)->Heap->Prop} {nk:World->Heap->Prop} {d:DefRec} {K:Params->PySem.W.Frag} {cc:World->hG} {sp:World->bF} {x:Str}
  (aC:l.most=some n) (hP:n<=sizeLine) (r9:d.params.defaults=[]) (ar:c_ k callerA)
  (xF : ∀ (w:World) (h:Heap),nk w h->(K w.params).In h)
  (F : ∀ (w:World) (mg:Str->Option Value) (fi:Addr) (h:Heap),(K w.params).In h->h.Ns mainGlobals mg->mg d.name=some (.ref fi) ->
   ∃ fd:FuncData,(∀ (s:Shared) (u:Value),BindsTo s fd ⟨[u],[]⟩ [(x,u)]) /\
    ∀ base:Heap,(K w.params).In base->base.Ns mainGlobals mg->d3 l.prog w (K w.params) mg base (cc w) k fi fd [x] (sp w))
  (dX : ∀ (w:World) (H:aj) (a:Addr) (ns:List Int),ns.length<=n->zx H->a4 (K w.params) H a (ns.map V.int)->sp w [.ref a] H (λ v _=>v=.ba true) λ _ _ _=>False)
  (yF : ∀ (w:World) (H:aj) (s:Shared) (e:Value) (s':Shared),cc w [] H s (λ _ _ _=>False) e s'->False) :
  PySem.W.WalkO q loose pL nk l.row.toRowW d [] (λ f vs=>PySem.call f vs):=by
 refine DC.YT aC r9 λ w s₀ s₁ mg jO fi o pm cd doc a vs ns G Y aO hd hn sj mY hints hlen aM=>?_
 have jd:=xF w _ Y;obtain ⟨fd,aa,ea⟩:=F w mg fi _ jd G.T.g sj;exact Vc jd G.T.g G.T.b G.T.builtins G.T.nolimit aM mY hints (Nat.le_trans hlen hP) ar ea aa (λ H uk cG=>dX w H a ns hlen uk cG) λ H e s'=>yF w H s₁ e s'
end bC
namespace bC
open PySem PySem.Spec PyProof.Rows
noncomputable def jE (s:Stmt):Arguments:=match s with
 | .FunctionDef _ a _ _ _ _ _ _ _ _=>a
 | _=>{ posonlyargs:=[],args:=[],vararg:=none,kwonlyargs:=[],kw_defaults:=[],kwarg:=none,defaults:=[] }
noncomputable def hA (s:Stmt):List Stmt:=match s with
 | .FunctionDef _ _ b _ _ _ _ _ _ _=>b
 | _=>[]
noncomputable def bA (s:Stmt):Scope:=match s with
 | .FunctionDef _ _ _ _ _ _ sc _ _ _=>sc
 | _=>{ kind:=.function,names:=[],isGenerator:=false,isCoroutine:=false }
noncomputable abbrev bX:hG:=λ _ _ _ _ _ _=>False
noncomputable abbrev jc:dF:=λ _ _ _=>False
theorem a9 {X:aQ}:Passes bX X jc:=λ _ _ _ _ _ _ _ h=>h.elim
structure hI (K:PySem.W.Frag) (x qual:Str) (st:Stmt) (f:Addr) (fd:FuncData):Prop where
 ex : ∃ (eu:Value) (de:Option Addr) (cm doc pm:Value) (an:Option Addr) (a5 b1:Value) (lF:Array (Option Value)),
  fd=PySem.W.fnOf x qual (jE st) (hA st) (bA st) .none cm doc pm an a5 b1/\K.lookup f=some ⟨eu,de,.func fd,lF⟩/\PySem.W.codeIn K a5 qual=true
 bZ:PySem.W.keepIn K (.ref f)=true
section
variable {P:Program} {w:World} {K:PySem.W.Frag} {mg:Str->Option Value} {base:Heap}
theorem hI.ok {x qual:Str} {st:Stmt} {f:Addr} {fd:FuncData} {N ag:List Str} {k:Nat} {sp:bF} (F:hI K x qual st f fd) (S:bQ N ag (bA st)) (len : ∀ vs H Q E,sp vs H Q E->vs.length=ag.length)
  (m1 : ∀ (a5:Value) (A:Around) (outer:List Env) (s:Shared) (H:aj) (vs:List V) (Q:bz) (E:dF),c_ k (A.deeper (envOfC qual (bA st) s.heap.objs.size f a5))->sp vs H Q E ->
   ∃ t,iR (kJ bX P w K mg base N qual (bA st) f a5 A outer s H E).sH (hA st) t/\t { bl:=λ _ H'=>Q .bp H',me:=Q } (start N vs) H):d3 P w K mg base bX (k+1) f fd ag sp:=by
 obtain ⟨eu,de,cm,doc,pm,an,a5,b1,lF,rfl,lk,hn⟩:=F.ex;refine FL lk hn S len λ A outer s H vs Q E ar dX=>?_
 obtain ⟨t,h,q⟩:=m1 a5 A outer s H vs Q E ar dX;exact ⟨t,h.sH,q⟩
theorem hI.binds {x qual:Str} {st:Stmt} {f:Addr} {fd:FuncData} {ag:List Str} (F:hI K x qual st f fd)
  (h : ∀ (cm doc pm:Value) (an:Option Addr) (a5 b1:Value) (us:List Value),us.length=ag.length->bindArgs (PySem.W.fnOf x qual (jE st) (hA st) (bA st) .none cm doc pm an a5 b1) ⟨us,[]⟩=pure (ag.zip us)):Binds K fd ag []:=by
 obtain ⟨eu,de,cm,doc,pm,an,a5,b1,lF,rfl,lk,hn⟩:=F.ex;exact .all (h cm doc pm an a5 b1)
theorem Ae {x qual:Str} {st:Stmt} {f:Addr} {eu:Value} {de an:Option Addr} {lF:Array (Option Value)} {cm doc pm a5 b1:Value} (l:K.lookup f=some ⟨eu,de,.func (PySem.W.fnOf x qual (jE st) (hA st) (bA st) .none cm doc pm an a5 b1),lF⟩)
  (c:PySem.W.codeIn K a5 qual=true) (k:PySem.W.keepIn K (.ref f)=true):hI K x qual st f (PySem.W.fnOf x qual (jE st) (hA st) (bA st) .none cm doc pm an a5 b1):=⟨⟨eu,de,cm,doc,pm,an,a5,b1,lF,rfl,l,c⟩,k⟩
end
theorem lM {A:Around} {k:Nat} (ar:c_ k A):A.units+1<cLine:=Nat.lt_of_le_of_lt (Nat.add_le_add_left (by decide:1<=64) _) ar.units
section
variable {X:aQ}
theorem fE (i:Nat) {x:Str} {pos:Pos} (c8:X.N[i]?=some x:=by rfl) (a7:uG X.env.scope x:=by first | exact Or.inl rfl | exact Or.inr (Or.inl rfl) | exact Or.inr (Or.inr rfl)) (hd:(x == ("__debug__" : Str))=false:=by decide)
  (hn:(x == ("__classdict__" : Str))=false:=by decide):bK X (.Name x pos) (zS i):=R7 c8 a7 hd hn
end
theorem bB {A B:Prop} (h:B):if false=true then A else B:=by
 rw [if_neg Bool.false_ne_true];exact h
theorem c6 {A B:Prop} (h:A):if true=true then A else B:=by
 rw [if_pos rfl];exact h
theorem eg {c A B:Prop} [Decidable c] (af:c->A) (aq : ¬ c->B):if c then A else B:=by
 by_cases h:c
 ·rw [if_pos h];exact af h
 ·rw [if_neg h];exact aq h
noncomputable def aD (H H':aj):Prop := ∀ b o,H b=some o->H' b=some o
theorem aD.refl (H:aj):aD H H:=λ _ _ h=>h
theorem aD.trans {H H1 aw:aj} (a:aD H H1) (b:aD H1 aw):aD H aw:=λ c o h=>b c o (a c o h)
theorem aD.free {H H':aj} (e:aD H H') {l:Addr} (h:H' l=Option.none):H l=Option.none:=by
 cases q:H l with
 | none=>rfl
 | some o =>
  rw [e l o q] at h;cases h
noncomputable def QE (K:PySem.W.Frag):List V->aj->bz->Prop:=λ xs H Q => ∃ x T t b,xs=[x,.ty T]/\hr K H x t/\PySem.W.kitOne K t (.type T)=some b/\Q (.ba b) H
section
variable {X:aQ}
theorem l3:eN X (.builtin "isinstance") (QE X.K):=by
 intro pins s σ H xs us Q I r h;obtain ⟨x,T,t,b,rfl,ty,e,q⟩:=h;obtain ⟨u,cP,rfl,aT,LR⟩:=vals2 r;cases (show cP=Value.type T from LR);exact WN I aT ty e λ tk=>⟨.ba b,H,I.tok _,rfl,q⟩
theorem HE : ∀ {bs:List Bool} {us:List Value},Vals (bs.map V.ba) us->us=bs.map Value.bool
 | [],_,r=>by rw [List.map_nil] at r;cases r;rfl
 | b::bs,_,r=>by
  rw [List.map_cons] at r;cases r with
  | cons bG cb =>
   cases (show _=Value.bool b from bG);rw [HE cb];rfl
theorem all_range (bs:List Bool):((List.range bs.length).all λ i=>bs.getD i true)=bs.all id:=by
 rw [Bool.eq_iff_iff,List.all_eq_true,List.all_eq_true];constructor
 ·intro h b aa;obtain ⟨i,ax,rfl⟩:=List.getElem_of_mem aa;have:=h i (List.mem_range.mpr ax);rw [List.getD_eq_getElem?_getD,List.getElem?_eq_getElem ax] at this;exact this
 ·intro h i ax;have kv:=List.mem_range.mp ax;rw [List.getD_eq_getElem?_getD,List.getElem?_eq_getElem kv];exact h _ (List.getElem_mem kv)
theorem qR (ao:X.calm=true):eN X (.builtin "all") (λ xs H Q => ∃ (p:Addr) (bs:List Bool),xs=[.ref p]/\a4 X.K H p (bs.map V.ba)/\Q (.ba (bs.all id)) H):=by
 intro pins s σ H xs us Q I r h;obtain ⟨p,bs,rfl,aR,q⟩:=h;obtain ⟨u,rfl,dA⟩:=vals1 r;cases dA;obtain ⟨its,bE,pl,aN⟩:=I.list aR;have xw:=HE bE;subst xw;have ay:p<s.heap.objs.size:=by obtain ⟨_,_,e,_⟩:=pl;exact Heap.lt_size e
 have hd:X.A.in1.handled=none:=I.ok.hd.1 ao;refine call_all_walk (wpAny_pyIter_list pl.isList ?_);refine ⟨s.heap.objs.size,_,_,_,_,_,(λ i=>bs.getD i true),rfl,Walks.list hd s.heap.objs.size p (Nat.ne_of_lt ay) (bs.map Value.bool).toArray,⟨⟨_,Heap.get?_push_size _ rfl,rfl,rfl⟩,pl.isList.push _⟩,?_,?_⟩
 ·intro i v s' t7 Dl a7 eQ;have o2:(bs.map Value.bool)[i]?=some v:=by simpa using a7
  rw [List.getElem?_map] at o2;cases e:bs[i]? with
  | none=>rw [e] at o2;cases o2
  | some b =>
   rw [e] at o2;cases o2;have D2:t7 (bs.getD i true) s':=eQ;rw [List.getD_eq_getElem?_getD,e] at D2;exact wpAny_truthy_bool D2
 ·intro h' tk aB;refine ⟨.ba (bs.all id),H,I.kept λ b o e=>aB b o ?_ (Heap.get?_push_of_some _ e),?_,q⟩
  ·intro z;rw [List.mem_singleton.mp z] at e;exact absurd (Heap.lt_size e) (Nat.lt_irrefl _)
  ·show Value.bool _=Value.bool _;rw [<-all_range bs];simp
noncomputable def Uc:V->List V->aj->bz->Prop:=λ x vs H Q => ∃ l xs i y,x=.ref l/\vs=[.int i,y]/\H l=some (.lst xs)/\0<=i/\i<2 ^ 63/\xs.length<sizeLine /\
 Q .bp (upd H l (.lst (xs.take (min i.toNat xs.length)++y::xs.drop (min i.toNat xs.length))))
theorem X_ (its:List Value) (k:Nat) (u:Value):(its.toArray.extract 0 k).push u++its.toArray.extract k=(its.take k++u::its.drop k).toArray:=by
 apply Array.toList_inj.mp;simp;exact List.take_of_length_le (by simp)
theorem WZ:p4 X "list.insert" Uc:=by
 intro pins s σ H x vs v us Q I aT bE h;obtain ⟨l,xs,i,y,rfl,rfl,h1,h0,af,aN,q⟩:=h;cases aT;obtain ⟨aa2,kl,rfl,⟨t,rfl⟩,bb⟩:=vals2 bE;obtain ⟨z,its,n,r,au,e⟩:=I.jy h1;have pd : ¬ (!Builtin.List.listFitsIndex i)=true:=by
  rw [fitsIndex_both (by omega) af];exact Bool.false_ne_true
 refine call_meets F.slot_list_insert ⟨_,e,rfl⟩ F.entry_list_insert (F.args_list_insert_3 _ _ _) (AutoListH.list_insert_list_int_val_1 l its.toArray n i t kl pd (by rw [List.size_toArray];omega)) ⟨e,?_⟩;refine ⟨.bp,_,I.Fp (its':=its.take (min i.toNat xs.length)++kl::its.drop (min i.toNat xs.length)) h1 e ?_ ((r.take _).append (.cons bb (r.drop _))) ?_,rfl,q⟩
 ·have aB:(if i<0 then (i+((its.toArray.size:Nat):Int)).toNat else min i.toNat its.toArray.size)=min i.toNat xs.length:=by
   rw [if_neg (by omega),List.size_toArray,au]
  show ((its.toArray.extract 0 (if i<0 then (i+((its.toArray.size:Nat):Int)).toNat else min i.toNat its.toArray.size)).push kl++its.toArray.extract (if i<0 then (i+((its.toArray.size:Nat):Int)).toNat else min i.toNat its.toArray.size))=_;rw [aB,X_]
 ·simp only [List.length_append,List.length_take,List.length_cons,List.length_drop];omega
end
noncomputable def pick (js:List (Option Nat)) (σ:St):St:=js.map λ o=>o.bind λ j=>(σ[j]?).join
theorem H7 {js:List (Option Nat)} {σ:St} {i:Nat} {v:V} (h:(pick js σ)[i]?=some (some v)) : ∃ j,js[i]?=some (some j)/\σ[j]?=some (some v):=by
 unfold pick at h;rw [List.getElem?_map] at h;cases e:js[i]? with
 | none=>rw [e] at h;cases h
 | some o =>
  rw [e] at h;have h':(o.bind λ j=>(σ[j]?).join)=some v:=Option.some.inj h;cases o with
  | none=>cases h'
  | some j =>
   refine ⟨j,rfl,?_⟩;have aq:(σ[j]?).join=some v:=h';cases aI:σ[j]? with
   | none=>rw [aI] at aq;cases aq
   | some q =>
    rw [aI] at aq;have aF:q=some v:=aq;rw [aF]
structure qG (X:aQ) (scope:Scope) (cl:List (Str×Addr)) (N:List Str) (js:List (Option Nat)):Prop where
 qn:closureFor scope X.env=pure cl
 Gz : ∀ y∈scope.names,y.2≠.cell
 kind:scope.kind=.function
 names : ∀ y∈scope.names,y.2=.local->scope.names.lookup y.1=some .local
 sub : ∀ x c,cl.lookup x=some c->X.env.cells.lookup x=some c
 has : ∀ x,((relabel scope X.env).names.lookup x=some .cell\/(relabel scope X.env).names.lookup x=some .free) -> ∃ c,cl.lookup x=some c
 len:js.length=N.length
 seen : ∀ (i j:Nat) (x:Str),N[i]?=some x->js[i]?=some (some j)->X.N[j]?=some x/\X.env.scope.names.lookup x=some .cell/\((relabel scope X.env).names.lookup x=some .cell\/(relabel scope X.env).names.lookup x=some .free)
noncomputable abbrev el (X:aQ) (scope:Scope) (cl:List (Str×Addr)) (N:List Str) (bh:List Addr) (pins:List (Addr×Obj)) (s:Shared) (H:aj) (E:Value->Shared->Prop):aQ :=
 { X with N:=N,s₀:=s,H₀:=H,env:=compEnvC scope cl s.heap.objs.size X.env,outer:=X.stack,ex:=bh,fn:=λ _=>false,iP:=X.iP++pins,cB:=E }
noncomputable def gJ (J:fC) (D:Addr) (js:List (Option Nat)) (g:dT) (cT:TT) (bc:TE) (σ:St) (H1:aj) (Q:bz):Prop :=
 ∃ W:Nat->Nat->St->aj->List V->Prop,(∃ m,W 0 m (pick js σ) (upd H1 D (.lst [])) []) /\ ∀ i m σ' H' ys,W i m σ' H' ys->H' D=some (.lst ys) /\
  ((J.stop i H'/\Q (.ref D) H')\/(J.go i H'/\ys.length<sizeLine /\ ∃ N:St->aj->List V->Prop,(∀ σ2 aw zs,N σ2 aw zs -> ∃ cu,cu<m/\W (i+1) cu σ2 aw zs) /\ ∀ x aw,J.hq i H' x aw->g x σ' aw λ σ2 aH=>cT σ2 aH λ k bH =>
   if k=true then bc σ2 bH λ y aX=>aX D=some (.lst ys)/\N σ2 (upd aX D (.lst (ys++[y]))) (ys++[y]) else bH D=some (.lst ys)/\N σ2 bH ys))
noncomputable def vU (js:List (Option Nat)) (e2:TI) (g:dT) (cT:TT) (bc:TE):TE:=λ σ H Q=>e2 σ H λ J H1 => ∀ D,H1 D=none->gJ J D js g cT bc σ H1 Q
theorem A1 {J:fC} {n:Nat} {D:Addr} {js:List (Option Nat)} {g:dT} {cT:TT} {bc:TE} {σ:St} {H1:aj} {Q:bz} (aC:n<=sizeLine) (Pv:Nat->St->aj->List V->Prop) (h0:Pv 0 (pick js σ) (upd H1 D (.lst [])) [])
  (ay : ∀ i σ' H' ys,i<=n->Pv i σ' H' ys->H' D=some (.lst ys)/\ys.length<=i) (gU : ∀ i σ' H' ys,i<n->Pv i σ' H' ys->J.go i H') (cC : ∀ σ' H' ys,Pv n σ' H' ys->J.stop n H'/\Q (.ref D) H')
  (aA : ∀ i σ' H' ys x aw,i<n->Pv i σ' H' ys->J.hq i H' x aw->g x σ' aw λ σ2 aH=>cT σ2 aH λ k bH =>
   if k=true then bc σ2 bH λ y aX=>aX D=some (.lst ys)/\Pv (i+1) σ2 (upd aX D (.lst (ys++[y]))) (ys++[y]) else bH D=some (.lst ys)/\Pv (i+1) σ2 bH ys) :
  ∃ W:Nat->Nat->St->aj->List V->Prop,(∃ m,W 0 m (pick js σ) (upd H1 D (.lst [])) []) /\ ∀ i m σ' H' ys,W i m σ' H' ys->H' D=some (.lst ys) /\
   ((J.stop i H'/\Q (.ref D) H')\/(J.go i H'/\ys.length<sizeLine /\ ∃ N:St->aj->List V->Prop,(∀ σ2 aw zs,N σ2 aw zs -> ∃ cu,cu<m/\W (i+1) cu σ2 aw zs) /\ ∀ x aw,J.hq i H' x aw->g x σ' aw λ σ2 aH=>cT σ2 aH λ k bH =>
    if k=true then bc σ2 bH λ y aX=>aX D=some (.lst ys)/\N σ2 (upd aX D (.lst (ys++[y]))) (ys++[y]) else bH D=some (.lst ys)/\N σ2 bH ys)):=by
 refine ⟨λ i m σ' H' ys=>m=n - i/\i<=n/\Pv i σ' H' ys,⟨n,rfl,Nat.zero_le _,h0⟩,?_⟩;rintro i m σ' H' ys ⟨rfl,ax,p⟩;obtain ⟨aY,aL⟩:=ay i σ' H' ys ax p;refine ⟨aY,?_⟩;by_cases dk:i<n
 ·exact .inr ⟨gU i σ' H' ys dk p,by omega,Pv (i+1),λ σ2 aw zs fT=>⟨n - (i+1),by omega,rfl,dk,fT⟩,λ x aw y=>aA i σ' H' ys x aw dk p y⟩
 ·have e:i=n:=by omega
  subst e;exact .inl (cC σ' H' ys p)
noncomputable def rQ (X:aQ) (cs:List Expr) (t:TT):Prop :=
 ∀ (pins:List (Addr×Obj)) (s:Shared) (σ:St) (H:aj) (Q:Bool->aj->Prop),Inv X pins σ H s->t σ H Q ->
  wpAny (model X.prog X.w) X.A (forIn cs true λ c r=>if r=true then do let ok ← isTrue c X.env (eval c X.env);pure (ForInStep.yield ok) else pure (ForInStep.yield r)) (xo X pins σ Q) X.cB s
noncomputable def iy:TT:=λ _ H Q=>Q true H
theorem TZ {X:aQ}:rQ X [] iy:=λ _ _ _ H _ I h=>wpAny_tests_nil ⟨H,I,h⟩
theorem T1 {X:aQ} {c:Expr} {t:TT} (ao:iG X c t):rQ X [c] t:=λ pins s σ H Q I h=>wpAny_tests_one (ao pins s σ H Q I h)
section
variable {prog:Program} {w:World} {A:Around} {R:Result->Shared->Prop} {s:Shared}
theorem Hc {elt bk iter:Expr} {cs:List Expr} {scope:Scope} {pos:Pos} {it acc:Value} {env:Env} (J:Nat->Shared->Prop)
  (turn : ∀ n s',J n s'->wpAny (model prog w) A (pyNext it) (λ r t1=>match r with
   | none=>R (.ok .next) t1
   | some v=>wpAny (model prog w) A (letOwnedTupleGo bk it v) (λ _ bf=>wpAny (model prog w) A (assign bk env v) (λ _ t3 =>
     wpAny (model prog w) A (forIn cs true λ c r=>if r=true then do let ok ← isTrue c env (eval c env);pure (ForInStep.yield ok) else pure (ForInStep.yield r)) (λ ok xV =>
      if ok=true then wpAny (model prog w) A (eval elt env) (λ x pU=>wpAny (model prog w) A (call (.builtin "list.append") [acc,x]) (λ _ DA => ∃ m,m<n/\J m DA)
       (notedBy (model prog w) A env λ e hp=>R (.error e) hp) pU) (notedBy (model prog w) A env λ e hp=>R (.error e) hp) xV
      else ∃ m,m<n/\J m xV) (notedBy (model prog w) A env λ e hp=>R (.error e) hp) t3) (notedBy (model prog w) A env λ e hp=>R (.error e) hp) bf) (notedBy (model prog w) A env λ e hp=>R (.error e) hp) t1)
    (notedBy (model prog w) A env λ e hp=>R (.error e) hp) s')
  (n:Nat) (h:J n s):codeAny (model prog w) A (.compLoop (.ListComp elt [⟨bk,iter,cs,0⟩] scope pos) 0 it acc env) R s:=by
 refine codeAny_loop rfl J (λ n s' xD=>?_) n h;show wpAny _ A ((compTurn (.ListComp elt [⟨bk,iter,cs,0⟩] scope pos) 0 it acc env).onRaise (λ z=>do noteFrame z env;theTreesLotGoes z)) _ _ s';refine wpAny_noted ?_;rw [compTurn_list];refine wpAny_bind (wpAny_standAt (wpAny_bind (a_ (turn n s' xD) λ r t1 k1=>?_)));cases r with
 | none=>exact wpAny_pure k1
 | some v =>
  refine wpAny_bind (a_ k1 λ _ bf k2=>wpAny_bind (a_ k2 λ _ t3 k3=>wpAny_bind (a_ k3 λ ok xV pQ=>?_)));cases ok with
  | false=>exact wpAny_pure ⟨rfl,pQ⟩
  | true=>exact wpAny_bind (wpAny_bind (a_ pQ λ x pU k5=>wpAny_bind (a_ k5 λ _ DA LI=>wpAny_pure (wpAny_pure ⟨rfl,LI⟩))))
end
theorem i2 {M:Model} {A:Around} {α : Type} {t:Sem α} {Q : α -> Shared->Prop} {E Dl:Value->Shared->Prop} {s:Shared} (hZ : ∀ e s',E e s'->False) (h:wpAny M A t Q E s):wpAny M A t Q Dl s:=wpAny_mono h (λ _ _ q=>q) λ e s' z=>(hZ e s' z).elim
theorem TA {X:aQ} {elt bk iter:Expr} {cs:List Expr} {scope:Scope} {pos:Pos} {cl:List (Str×Addr)} {N:List Str} {js:List (Option Nat)} {e2:TI} {g:dT} {cT:TT} {bc:TE}
  (C:qG X scope cl N js) (ao:X.warm=true) (ax:kb X bk iter e2)
  (aM : ∀ bh pins s H,l_ (el X scope cl N bh pins s H λ _ _=>False) bk g)
  (aZ : ∀ bh pins s H,rQ (el X scope cl N bh pins s H λ _ _=>False) cs cT)
  (he : ∀ bh pins s H,bK (el X scope cl N bh pins s H λ _ _=>False) elt bc)
  (aA : ∀ x,foldedSetIterable iter X.env x=pure x:=by intro _;rfl):bK X (.ListComp elt [⟨bk,iter,cs,0⟩] scope pos) (vU js e2 g cT bc):=by
 intro pins s σ H Q I h;rw [eval_ListComp];refine wpAny_comprehension_free (use:=none) rfl aA C.qn C.kind C.names (a_ (ax pins s σ H _ I h) λ L4 s1 af=>a_ af λ u3 s2 aq=>?_);obtain ⟨it,bh,fq,J,aw,e,bD,T,mQ,f2,aq⟩:=aq;subst e;obtain ⟨W,⟨m0,w0⟩,turn⟩:=aq s2.heap.objs.size bD.fresh;refine wpAny_newObj_type (wpAny_newFunctionEnv C.Gz (by intro y aL;simp at aL) (λ aU o5 o8=>?_) C.kind);have bR:Inv X pins σ (upd aw s2.heap.objs.size (.lst [])) { s2 with heap:=s2.heap.push { cls:=.type "list", data:=.seq ([]:List Value).toArray } }:=bD.vz (t':=s2.toks) (its:=[]) .nil (Nat.zero_le _);dsimp only at o5 o8 ⊢;generalize cx:({ s2 with heap:=s2.heap.push { cls:=.type "list", data:=.seq ([]:List Value).toArray } }:Shared)=s3 at bR;have oQ:s2.heap.push { cls:=.type "list", data:=.seq ([]:List Value).toArray }=s3.heap:=by rw [<-cx]
 have MA:s2.gens=s3.gens:=by rw [<-cx]
 have MB:s2.os=s3.os:=by rw [<-cx]
 rw [oQ] at o5 o8 ⊢;generalize jM:upd aw s2.heap.objs.size (.lst [])=aH at bR w0;have aY:s2.heap.objs.size<s3.heap.objs.size:=by rw [<-oQ,Heap.size_push];exact Nat.lt_succ_self _
 have sP : ∀ b o,s2.heap.get? b=some o->s3.heap.get? b=some o:=λ b o q=>by rw [<-oQ];exact Heap.get?_push_of_some _ q
 have jv : ∀ b o,s3.heap.get? b=some o->aU.get? b=some o:=λ b o q=>o8.extBut b o (Nat.ne_of_lt (Heap.lt_size q)) (Heap.get?_push_of_some _ q)
 have r0 : ∀ b∈bh,b<s3.heap.objs.size:=λ b aa=>by
  obtain ⟨o,da,_⟩:=T.obj 0 _ mQ b aa;exact Heap.lt_size (sP b o da)
 have fst : ∀ b∈bh,b∉eV X.stack:=λ b aa z=>by
  rcases List.mem_cons.mp (bR.m5 b z) with q | q
  ·exact (f2 b aa).2.1 q
  ·exact (f2 b aa).2.2.1 q
 have zk:(el X scope cl N bh pins s3 aH λ _ _=>False).Ok:=by
  refine ⟨I.ok.mod,C.kind,I.ok.glob,I.ok.blt,Nat.le_refl _,λ x y c a6 b0=>I.ok.inj x y c (C.sub _ _ a6) (C.sub _ _ b0),C.has,λ x c z=>absurd z Bool.false_ne_true,⟨I.ok.hd.1,λ hw=>bR.yL hw λ b aa=>(f2 b aa).2.2.2.1⟩,I.ok.frames,.inl rfl,λ b aa=>⟨Nat.ne_of_lt (r0 b aa),λ x c q=>(f2 b aa).2.2.2.2.1 x c (C.sub _ _ q)⟩,
   bR.bs,Nat.le_trans I.ok.hK bR.gb,λ b o q aa=>?_,fst,bR.stack,bR.qP⟩
  rcases (f2 b aa).2.2.2.1 with z | z
  ·exact I.ok.lJ b o q z
  ·exact absurd (Nat.lt_of_lt_of_le (Heap.lt_size q) (Nat.le_trans I.ok.hK z)) (Nat.lt_irrefl _)
 have cN:Inv (el X scope cl N bh pins s3 aH λ _ _=>False) [] (pick js σ) aH { s3 with heap:=aU,toks:=s3.toks+([]:List (Str×Value)).length }:=by
  refine ⟨zk,rfl,bR.bare,eH.kept jv,⟨_,o5,λ i x v a6 b0 ew=>?_⟩,λ x c q=>?_,bR.a0.fresh (Nat.le_refl _),λ x c q=>bR.gx x c (C.sub _ _ q),λ p ay=>?_,bR.a0.kept jv,?_⟩
  ·obtain ⟨j,k1,k2⟩:=H7 b0;obtain ⟨dR,di,gq⟩:=C.seen i j x a6 k1;obtain ⟨m,aC,au⟩:=bR.loc;obtain ⟨u,dA,lk⟩:=au j x v dR k2 (.inr (.inl di));refine ⟨u,dA,.inr ⟨gq,?_⟩⟩;rcases lk with ⟨k,_⟩ | ⟨_,c,gC,eu,lz,oV⟩
   ·have fS:X.env.scope.names.lookup x=some .local:=k;rw [di] at fS;cases fS
   ·obtain ⟨cj,rX⟩:=C.has x gq;have:=C.sub _ _ rX;rw [gC] at this;cases this;exact ⟨c,rX,eu,jv _ _ lz,oV⟩
  ·obtain ⟨v,eu,lz,oV⟩:=bR.cell x c (C.sub _ _ q);exact ⟨v,eu,jv _ _ lz,oV⟩
  ·have jr:p∈X.iP++pins:=by simpa using ay
   obtain ⟨a6,b0,ew,oz,nv⟩:=bR.pin p jr;refine ⟨jv _ _ a6,b0,Nat.ne_of_lt (Heap.lt_size a6),λ z=>?_,nv⟩;rcases List.mem_cons.mp (bR.m5 _ z) with q | q
   ·exact ew q
   ·exact oz q
  ·show (pick js σ).length=N.length;unfold pick;rw [List.length_map,C.len]
 have stat : ∀ {H':aj},(∀ b∈bh,H' b=none) -> ∀ b∈bh,kI (el X scope cl N bh pins s3 aH λ _ _=>False) [] H' b:=λ aC b aa =>
  ⟨aC b aa,Nat.ne_of_lt (r0 b aa),fst b aa,.inl aa,λ x c q=>(f2 b aa).2.2.2.2.1 x c (C.sub _ _ q),λ p ay=>(f2 b aa).2.2.2.2.2 p (by simpa using ay)⟩
 have sO:fq 0 aU:=T.keep 0 _ _ mQ λ b aa o q=>jv b o (sP b o q)
 have bl : ∀ e s',(el X scope cl N bh pins s3 aH λ _ _=>False).cB e s'->False:=λ _ _ z=>z
 have loop:codeAny (model X.prog X.w) X.A (.compLoop (.ListComp elt [⟨bk,iter,cs,0⟩] scope pos) 0 (.ref it) (.ref s2.heap.objs.size) (compEnvC scope cl s3.heap.objs.size X.env))
   (compPost (model X.prog X.w) X.A X.cB none (fB X pins σ Q) (.ref s2.heap.objs.size) s3.heap.objs.size) { s3 with heap:=aU,toks:=s3.toks+([]:List (Str×Value)).length }:=by
  refine Hc (λ n s' => ∃ i σ' H' ys,Inv (el X scope cl N bh pins s3 aH λ _ _=>False) [] σ' H' s'/\fq i s'.heap/\(∀ b∈bh,H' b=none)/\W i n σ' H' ys) ?_ m0 ⟨0,_,aH,[],cN,sO,λ b aa=>?_,w0⟩
  ·rintro n s5 ⟨i,σ5,bH,ys,g9,mR,oS,x4⟩;obtain ⟨Np,way⟩:=turn i n σ5 bH ys x4;rcases way with ⟨stop,oB⟩ | ⟨go,aN,rg,c8,step⟩
   ·refine i2 bl (a_ (T.done (el X scope cl N bh pins s3 aH λ _ _=>False) rfl rfl rfl rfl ao i [] s5 σ5 bH _ g9 (stat oS) mR stop) λ r cp ⟨ar,eF⟩=>?_);subst ar;obtain ⟨m,aC,_⟩:=eF.loc;refine ⟨m,aC,λ h' dB=>⟨.ref s2.heap.objs.size,bH,?_,rfl,oB⟩⟩;have low : ∀ b o,s3.heap.get? b=some o->b≠s3.heap.objs.size:=λ b o q=>Nat.ne_of_lt (Heap.lt_size q)
    have same : ∀ b,b≠s3.heap.objs.size->h'.get? b=cp.heap.get? b:=λ b aa=>dB.2 b aa
    have B:=eF.base;refine bR.zV (s':={ cp with heap:=h' }) (H':=bH) (ch:=bh) eF.os ⟨λ b o q jP af aq=>?_,λ b o q jP af aq=>?_,B.free,λ b o q aq=>?_,B.i4,B.ih,B.i3⟩ (λ a o q=>?_) eF.bare (λ b aa=>⟨(f2 b aa).2.2.2.1,(f2 b aa).2.1,(f2 b aa).2.2.2.2.1,(f2 b aa).2.2.2.2.2⟩)
    ·exact (same b (low b o q)).trans (B.keep b o q jP af aq)
    ·obtain ⟨cq,z⟩:=B.slot b o q jP af aq;exact ⟨cq,(same b (low b o q)).trans z⟩
    ·obtain ⟨eb,z⟩:=B.there b o q aq;exact ⟨eb,(same b (low b o q)).trans z⟩
    ·have ox : ∀ c u,bH c=some u->c≠s3.heap.objs.size:=λ c u z y=>by
      have:=eF.free;rw [y] at z;rw [show bH s3.heap.objs.size=none from this] at z;cases z
     refine (eF.a0 a o q).hV (λ c u mE z=>(same c ?_).trans z) (λ _ z=>z) λ _ _ z=>z
     rcases mE with c9 | c9
     ·rw [c9];exact ox a o q
     ·exact ox c _ c9
   ·refine i2 bl (a_ (T.item (el X scope cl N bh pins s3 aH λ _ _=>False) rfl rfl rfl rfl ao i [] s5 σ5 bH _ g9 (stat oS) mR go) λ r cp ⟨u,ar,dV⟩=>?_);subst ar;refine i2 bl (a_ dV λ _ fm ⟨x,ej,g_,rz,rD,o9,yx⟩=>?_);have yg:=g_.pinned (stat yx) (T.obj _ _ o9);refine i2 bl (a_ (aM bh pins s3 aH _ fm σ5 ej x u _ yg rz (step x ej rD)) λ _ gQ ⟨σ8,l9,rb,xP⟩=>?_);refine i2 bl (a_ (aZ bh pins s3 aH _ gQ σ8 l9 _ rb xP) λ k hE ⟨nh,rd,mc⟩=>?_);have fin : ∀ {s':Shared} {σ':St} {H':aj} {kH:List V},Inv (el X scope cl N bh pins s3 aH λ _ _=>False) ([]++qH bh fm.heap) σ' H' s'->rg σ' H' kH ->
      ∃ cu,cu<n /\ ∃ i σ' H' ys,Inv (el X scope cl N bh pins s3 aH λ _ _=>False) [] σ' H' s'/\fq i s'.heap/\(∀ b∈bh,H' b=none)/\W i cu σ' H' ys:=λ {s' σ' H' kH} oh xJ=>by
     obtain ⟨cu,hm,wv⟩:=c8 σ' H' kH xJ;refine ⟨cu,hm,i+1,σ',H',kH,oh.tw,T.keep _ _ _ o9 λ b aa o q=>(oh.pin (b,o) (List.mem_append_right _ (List.mem_append_right _ (q1 aa q)))).1,λ b aa=>?_,wv⟩;obtain ⟨o,q,_⟩:=T.obj _ _ o9 b aa;exact (oh.pin (b,o) (List.mem_append_right _ (List.mem_append_right _ (q1 aa q)))).2.1
    cases k with
    | false =>
     rw [if_neg Bool.false_ne_true] at mc ⊢;exact fin rd mc.2
    | true =>
     rw [if_pos rfl] at mc ⊢;refine i2 bl (a_ (he bh pins s3 aH _ hE σ8 nh _ rd mc) λ y lb ⟨jm,t4,xh,xS,yG,xQ⟩=>?_);refine i2 bl (a_ (BB _ lb σ8 t4 (.ref s2.heap.objs.size) [jm] _ [y] (λ _ pJ=>rg σ8 pJ (ys++[jm])) xh rfl (.cons xS .nil) ⟨_,ys,jm,rfl,rfl,yG,aN,xQ⟩) λ _ sB ⟨_,pJ,xi,_,xR⟩=>?_);exact fin xi xR
  ·rw [<-jM,a3]
   ·exact (f2 b aa).1
   ·obtain ⟨o,da,_⟩:=T.obj 0 _ mQ b aa;exact Nat.ne_of_lt (Heap.lt_size da)
 have goal:codeAny (model X.prog X.w) X.A (.compStart (.ListComp elt [⟨bk,iter,cs,0⟩] scope pos) 0 (.ref it) (.ref s2.heap.objs.size) (compEnvC scope cl s3.heap.objs.size X.env))
   (compPost (model X.prog X.w) X.A X.cB none (fB X pins σ Q) (.ref s2.heap.objs.size) s3.heap.objs.size) { s3 with heap:=aU,toks:=s3.toks+([]:List (Str×Value)).length } :=
  codeAny_compStart_list loop (T.self _ 0 _ _ _ sO loop)
 subst cx;exact goal
end bC
namespace jL
open PySem PyProof.Rows
theorem wk (t:Addr) : ¬ ((Value.ref t == Value.none)=true):=Bool.false_ne_true
section
variable {prog:Program} {w:World} {A:Around} {E:Value->Shared->Prop} {s:Shared}
theorem pull {j t:Addr} {k:Nat} {vs:Array Value} {x:Value} {Q:Value->Shared->Prop} (a:s.heap.IsTupleIter j t k) (b:s.heap.IsTuple t vs) (c:vs[k]?=some x)
  (q : ∀ g,g.IsTupleIter j t (k+1)->Heap.SameBut j s.heap g->Q x { s with heap:=g }):wpAny (model prog w) A (Builtin.SmallTypes.nextOf (.ref j)) Q E s:=by
 obtain ⟨aa0,uj,Lp,rm⟩:=id a;obtain ⟨LO,gt,_,aaY,Ls⟩:=b;unfold Builtin.SmallTypes.nextOf;refine wpAny_bind (wpAny_callSpecial?_slot (name:=Str.ofString "__next__") a.typeIs F.slot_tuple_iterator_next (wpAny_call_entry F.slot_tuple_iterator_next a.typeIs F.entry_tuple_iterator_next ?_ (F.args_tuple_iterator_next_1 _)));show wpAny _ _ (field (.ref j) 0>>=_) _ _ s;refine wpAny_bind (wpAny_field uj rm (x:=.ref t) rfl ?_);show wpAny _ _ (ite ((Value.ref t == Value.none)=true) _ _) _ _ s;rw [if_neg (wk t)];show wpAny _ _ (field (.ref j) 1>>=_) _ _ s;refine wpAny_bind (wpAny_field uj rm (x:=.int k 0) rfl ?_);show wpAny _ _ (seqItems? (.ref t)>>=_) _ _ s;refine wpAny_bind (wpAny_seqItems gt Ls ?_);simp only [Int.toNat_natCast,c];refine wpAny_bind (wpAny_setField uj rm (by simp) (wpAny_pure ⟨x,rfl,wpAny_pure (q _ ⟨_,Heap.get?_update_self _ uj (Obj.isFreed_of_fields (Obj.data_mapFields rm _)),(Obj.cls_mapFields ..).trans Lp,?_⟩ (Heap.SameBut.update ..))⟩));rw [Obj.data_mapFields rm];simp [rawInt]
theorem VL {j t:Addr} {k:Nat} {vs:Array Value} {Q:Value->Shared->Prop} (hd:eO.In A s.heap) (a:s.heap.IsTupleIter j t k) (b:s.heap.IsTuple t vs) (c:vs[k]?=none)
  (q : ∀ g e,Heap.ExtBut j s.heap g->(∃ o,g.get? e=some o/\o.cls=.type "StopIteration")->E (.ref e) { s with heap:=g }):wpAny (model prog w) A (Builtin.SmallTypes.nextOf (.ref j)) Q E s :=
 eO.Im hd a b c q
noncomputable def dE (p:Bool) (h:Heap) (j t:Addr) (k:Nat):Prop:=bif p then h.IsListIter j t k else h.IsTupleIter j t k
noncomputable def eo (p:Bool) (h:Heap) (t:Addr) (xs:Array Value):Prop:=bif p then h.IsList t xs else h.IsTuple t xs
theorem dE.extBut {p:Bool} {h g:Heap} {j t z:Addr} {k:Nat} (a:dE p h j t k) (e:Heap.ExtBut z h g) (n:j≠z):dE p g j t k:=by
 cases p
 ·exact Heap.IsTupleIter.extBut a e n
 ·exact Heap.IsListIter.extBut a e n
theorem eo.extBut {p:Bool} {h g:Heap} {t z:Addr} {xs:Array Value} (a:eo p h t xs) (e:Heap.ExtBut z h g) (n:t≠z):eo p g t xs:=by
 cases p
 ·exact Heap.IsTuple.extBut a e n
 ·exact Heap.IsList.extBut a e n
theorem dE.up {p:Bool} {h g:Heap} {j t:Addr} {k:Nat} (a:dE p h j t k) (u : ∀ o,h.get? j=some o->g.get? j=some o):dE p g j t k:=by
 cases p
 ·obtain ⟨o,e,r⟩:=a;exact ⟨o,u o e,r⟩
 ·obtain ⟨o,e,r⟩:=a;exact ⟨o,u o e,r⟩
theorem dE.hd {p:Bool} {h g:Heap} {j t:Addr} {k:Nat} (a:dE p h j t k) (hd:eO.In A h) (u:Heap.ExtBut j h g):eO.In A g:=by
 cases p
 ·obtain ⟨o,e,_,d⟩:=a;exact hd.but e (by rw [d];exact eO.we) u
 ·obtain ⟨o,e,_,d⟩:=a;exact hd.but e (by rw [d];exact eO.we) u
theorem z7 {p:Bool} {j t:Addr} {k:Nat} {vs:Array Value} {x:Value} {Q:Value->Shared->Prop} (a:dE p s.heap j t k) (b:eo p s.heap t vs) (c:vs[k]?=some x)
  (q : ∀ g,dE p g j t (k+1)->Heap.SameBut j s.heap g->Q x { s with heap:=g }):wpAny (model prog w) A (Builtin.SmallTypes.nextOf (.ref j)) Q E s:=by
 cases p
 ·exact pull a b c q
 ·exact wpAny_nextOf_list_item a b c q
theorem I8 {p:Bool} {j t:Addr} {k:Nat} {vs:Array Value} {Q:Value->Shared->Prop} (hd:eO.In A s.heap) (a:dE p s.heap j t k) (b:eo p s.heap t vs) (c:vs[k]?=none)
  (q : ∀ g e,Heap.ExtBut j s.heap g->(∃ o,g.get? e=some o/\o.cls=.type "StopIteration")->E (.ref e) { s with heap:=g }):wpAny (model prog w) A (Builtin.SmallTypes.nextOf (.ref j)) Q E s:=by
 cases p
 ·exact eO.Im hd a b c q
 ·exact eO.I2 hd a b c q
theorem Bn {p1 cR:Bool} {z TI cA cY dn t1 bf:Addr} {k:Nat} {xs ys:Array Value} {x y a b:Value} {Q:Value->Shared->Prop} (D:ZipApart z TI cA cY dn t1 bf)
  (dJ:IsZip s.heap z TI cA .none) (h6:IsPair s.heap TI (.ref cY) (.ref dn)) (kp:IsPair s.heap cA a b)
  (er:dE p1 s.heap cY t1 k) (hg:dE cR s.heap dn bf k) (dZ:eo p1 s.heap t1 xs) (d0:eo cR s.heap bf ys) (ex:xs[k]?=some x) (dP:ys[k]?=some y)
  (q : ∀ g,IsZip g z TI cA (rawInt s.heap.objs.size)->IsPair g cA x y->dE p1 g cY t1 (k+1)->dE cR g dn bf (k+1)->IsPair g s.heap.objs.size x y ->
   (∀ c o,c≠z->c≠cA->c≠cY->c≠dn->s.heap.get? c=some o->g.get? c=some o)->Q (.ref s.heap.objs.size) { s with heap:=g }) :
  wpAny (model prog w) A (Builtin.«zip.__next__» ⟨[.ref z],[]⟩) (λ fin s' => ∃ v,fin=.done (.ret v)/\Q v s') E s:=by
 show wpAny _ _ (field (.ref z) 2>>=_) _ _ _;refine wpAny_bind (wpAny_field dJ rfl (x:=.bool false) rfl ?_);show wpAny _ _ (field (.ref z) 3>>=_) _ _ _;refine wpAny_bind (wpAny_field dJ rfl (x:=.ref TI) rfl (wpAny_bind (wpAny_seqItems h6 rfl ?_)));show wpAny _ _ (Builtin.SmallTypes.ownedTupleIsFree (.ref z)>>=_) _ _ _;refine wpAny_bind ?_;unfold Builtin.SmallTypes.ownedTupleIsFree;refine wpAny_bind (wpAny_field dJ rfl (x:=.none) rfl (wpAny_pure ?_));simp only [if_true];refine wpAny_bind (wpAny_rule (wpAny_bind (wpAny_field dJ rfl (x:=.ref cA) rfl (wpAny_bind (wpAny_setField_rec dJ (by simp) λ g1 hT s1=>?_)))));replace hT:IsZip g1 z TI cA .ellipsis:=hT;refine wpAny_bind ?_;simp only [List.zipIdx_cons,List.zipIdx_nil,List.forIn_cons,List.forIn_nil];refine wpAny_bind (wpAny_bind (wpAny_onRaise ?_));show wpAny _ _ (Builtin.SmallTypes.nextOf (.ref cY)>>=_) _ _ _;refine wpAny_bind (z7 (er.extBut s1.extBut D.i1z) (dZ.extBut s1.extBut D.l1z) ex λ g2 u2 s2=>wpAny_pure ?_);have mT:IsPair g2 cA a b:=s2.extBut _ _ D.TOi1 (s1.extBut _ _ D.TOz kp);refine wpAny_bind (wpAny_seqItems mT rfl (wpAny_bind (wpAny_updateSeq_pair mT λ g3 nT s3=>?_)));replace nT:IsPair g3 cA x b:=nT;refine wpAny_bind (wpAny_letGo (wpAny_pure (wpAny_bind (wpAny_bind (wpAny_onRaise ?_)))));show wpAny _ _ (Builtin.SmallTypes.nextOf (.ref dn)>>=_) _ _ _;have sv:=((hg.extBut s1.extBut D.i2z).extBut s2.extBut D.i12.symm).extBut s3.extBut D.TOi2.symm;have sy:=((d0.extBut s1.extBut D.l2z).extBut s2.extBut D.l2i1).extBut s3.extBut D.l2TO;refine wpAny_bind (z7 sv sy dP λ iL zM s4=>wpAny_pure ?_);have sT:IsPair iL cA x b:=s4.extBut _ _ D.TOi2 nT;refine wpAny_bind (wpAny_seqItems sT rfl (wpAny_bind (wpAny_updateSeq_pair sT λ e8 nU s5=>?_)));replace nU:IsPair e8 cA x y:=nU;refine wpAny_bind (wpAny_letGo (wpAny_pure (wpAny_pure (wpAny_bind (wpAny_seqItems nU rfl (wpAny_bind (wpAny_newTuple ?_)))))));have gb:e8.objs.size=s.heap.objs.size:=by rw [s5.1,s4.1,s3.1,s2.1,s1.1]
 have EZ:IsZip e8 z TI cA .ellipsis:=s5.extBut _ _ D.TOz.symm (s4.extBut _ _ D.i2z.symm (s3.extBut _ _ D.TOz.symm (s2.extBut _ _ D.i1z.symm hT)));have Pw : ∀ c o,c≠z->c≠cA->c≠cY->c≠dn->s.heap.get? c=some o->e8.get? c=some o:=λ c o cJ dp e9 gn a8 =>
  s5.extBut _ _ dp (s4.extBut _ _ gn (s3.extBut _ _ dp (s2.extBut _ _ e9 (s1.extBut _ _ cJ a8))))
 have Oo:dE p1 e8 cY t1 (k+1):=((u2.extBut s3.extBut D.TOi1.symm).extBut s4.extBut D.i12).extBut s5.extBut D.TOi1.symm;have Ot:dE cR e8 dn bf (k+1):=zM.extBut s5.extBut D.TOi2.symm;have mU:z<e8.objs.size:=Heap.lt_size EZ;show wpAny _ _ (Builtin.SmallTypes.ownedTupleHandOut (.ref z) (.ref e8.objs.size)>>=_) _ _ _;refine wpAny_bind ?_;unfold Builtin.SmallTypes.ownedTupleHandOut;have PD:IsZip (e8.push { cls:=.type "tuple", data:=.seq #[x,y] }) z TI cA .ellipsis:=Heap.get?_push_of_some _ EZ;refine wpAny_bind (wpAny_setField_rec PD (by simp) λ hc qj fm=>?_);replace qj:IsZip hc z TI cA (rawInt e8.objs.size):=qj;refine wpAny_setField_rec qj (by simp) λ ug qk gQ=>?_
 replace qk:IsZip ug z TI cA (rawInt e8.objs.size):=qk;have vh : ∀ c o,c≠z->e8.get? c=some o->ug.get? c=some o:=λ c o cJ a8=>gQ.extBut _ _ cJ (fm.extBut _ _ cJ (Heap.get?_push_of_some _ a8))
 have Fq:IsPair ug e8.objs.size x y:=gQ.extBut _ _ (Nat.ne_of_gt mU) (fm.extBut _ _ (Nat.ne_of_gt mU) (Heap.get?_push_size _ rfl));rw [gb] at qk Fq;refine wpAny_pure ⟨_,rfl,?_⟩;show Q (.ref e8.objs.size) _;rw [gb];refine q ug qk (vh _ _ D.TOz nU) ?_ ?_ Fq λ c o cJ dp e9 gn a8=>vh c o cJ (Pw c o cJ dp e9 gn a8)
 ·exact Oo.up λ o=>vh _ o D.i1z
 ·exact Ot.up λ o=>vh _ o D.i2z
theorem Bo {p1 cR:Bool} {z TI cA cY dn t1 bf:Addr} {k:Nat} {xs ys:Array Value} {a b:Value} {Q:Fin->Shared->Prop} (hd:eO.In A s.heap) (D:ZipApart z TI cA cY dn t1 bf)
  (dJ:IsZip s.heap z TI cA .none) (h6:IsPair s.heap TI (.ref cY) (.ref dn)) (kp:IsPair s.heap cA a b)
  (er:dE p1 s.heap cY t1 k) (hg:dE cR s.heap dn bf k) (dZ:eo p1 s.heap t1 xs) (d0:eo cR s.heap bf ys) (rn:xs[k]?=none\/ys[k]?=none)
  (q : ∀ g e,(∀ c o,c≠z->c≠cA->c≠cY->c≠dn->s.heap.get? c=some o->g.get? c=some o)->(∃ o,g.get? e=some o/\o.cls=.type "StopIteration")->E (.ref e) { s with heap:=g }) :
  wpAny (model prog w) A (Builtin.«zip.__next__» ⟨[.ref z],[]⟩) Q E s:=by
 show wpAny _ _ (field (.ref z) 2>>=_) _ _ _;refine wpAny_bind (wpAny_field dJ rfl (x:=.bool false) rfl ?_);show wpAny _ _ (field (.ref z) 3>>=_) _ _ _;refine wpAny_bind (wpAny_field dJ rfl (x:=.ref TI) rfl (wpAny_bind (wpAny_seqItems h6 rfl ?_)));show wpAny _ _ (Builtin.SmallTypes.ownedTupleIsFree (.ref z)>>=_) _ _ _;refine wpAny_bind ?_;unfold Builtin.SmallTypes.ownedTupleIsFree;refine wpAny_bind (wpAny_field dJ rfl (x:=.none) rfl (wpAny_pure ?_));simp only [if_true];refine wpAny_bind (wpAny_rule (wpAny_bind (wpAny_field dJ rfl (x:=.ref cA) rfl (wpAny_bind (wpAny_setField_rec dJ (by simp) λ g1 hT s1=>?_)))));replace hT:IsZip g1 z TI cA .ellipsis:=hT;refine wpAny_bind ?_;simp only [List.zipIdx_cons,List.zipIdx_nil,List.forIn_cons,List.forIn_nil];refine wpAny_bind (wpAny_bind (wpAny_onRaise ?_));show wpAny _ _ (Builtin.SmallTypes.nextOf (.ref cY)>>=_) _ _ _;have nE:eO.In A g1:=hd.but dJ (λ vs e=>by injection e with e;subst e;exact λ z=>nomatch z) s1.extBut;cases ex:xs[k]? with
 | none =>
  refine wpAny_bind (I8 nE (er.extBut s1.extBut D.i1z) (dZ.extBut s1.extBut D.l1z) ex λ g2 e s2 ⟨bT,h_,coe⟩=>?_);have sU:IsZip g2 z TI cA .ellipsis:=s2 _ _ D.i1z.symm hT;have sE:e≠z:=λ y=>by
   subst y;rw [sU] at h_;cases h_;simp at coe
  exact wpAny_setField_rec sU (by simp) λ g3 _ s3=>q g3 e (λ c o cJ _ e9 _ y=>s3.extBut _ _ cJ (s2 _ _ e9 (s1.extBut _ _ cJ y))) ⟨bT,s3.extBut _ _ sE h_,coe⟩
 | some x =>
  have dP:ys[k]?=none:=rn.resolve_left (by rw [ex];exact λ y=>nomatch y);refine wpAny_bind (z7 (er.extBut s1.extBut D.i1z) (dZ.extBut s1.extBut D.l1z) ex λ g2 u2 s2=>wpAny_pure ?_);have mT:IsPair g2 cA a b:=s2.extBut _ _ D.TOi1 (s1.extBut _ _ D.TOz kp);refine wpAny_bind (wpAny_seqItems mT rfl (wpAny_bind (wpAny_updateSeq_pair mT λ g3 nT s3=>?_)));refine wpAny_bind (wpAny_letGo (wpAny_pure (wpAny_bind (wpAny_bind (wpAny_onRaise ?_)))));show wpAny _ _ (Builtin.SmallTypes.nextOf (.ref dn)>>=_) _ _ _;have sv:=((hg.extBut s1.extBut D.i2z).extBut s2.extBut D.i12.symm).extBut s3.extBut D.TOi2.symm;have sy:=((d0.extBut s1.extBut D.l2z).extBut s2.extBut D.l2i1).extBut s3.extBut D.l2TO;have hd2:eO.In A g2:=(er.extBut s1.extBut D.i1z).hd nE s2.extBut;have gf:eO.In A g3:=hd2.but mT (λ vs e=>nomatch e) s3.extBut;refine wpAny_bind (I8 gf sv sy dP λ iL e s4 ⟨bT,h_,coe⟩=>?_);have EY:IsZip iL z TI cA .ellipsis:=s4 _ _ D.i2z.symm (s3.extBut _ _ D.TOz.symm (s2.extBut _ _ D.i1z.symm hT));have sE:e≠z:=λ y=>by
   subst y;rw [EY] at h_;cases h_;simp at coe
  exact wpAny_setField_rec EY (by simp) λ e8 _ s5=>q e8 e (λ c o cJ dp e9 gn y=>s5.extBut _ _ cJ (s4 _ _ gn (s3.extBut _ _ dp (s2.extBut _ _ e9 (s1.extBut _ _ cJ y))))) ⟨bT,s5.extBut _ _ sE h_,coe⟩
theorem next_item {p1 cR:Bool} {z TI cA cY dn t1 bf:Addr} {k:Nat} {xs ys:Array Value} {x y a b:Value} {Q:Option Value->Shared->Prop} (D:ZipApart z TI cA cY dn t1 bf)
  (dJ:IsZip s.heap z TI cA .none) (h6:IsPair s.heap TI (.ref cY) (.ref dn)) (kp:IsPair s.heap cA a b)
  (er:dE p1 s.heap cY t1 k) (hg:dE cR s.heap dn bf k) (dZ:eo p1 s.heap t1 xs) (d0:eo cR s.heap bf ys) (ex:xs[k]?=some x) (dP:ys[k]?=some y)
  (q : ∀ g,IsZip g z TI cA (rawInt s.heap.objs.size)->IsPair g cA x y->dE p1 g cY t1 (k+1)->dE cR g dn bf (k+1)->IsPair g s.heap.objs.size x y ->
   (∀ c o,c≠z->c≠cA->c≠cY->c≠dn->s.heap.get? c=some o->g.get? c=some o)->Q (some (.ref s.heap.objs.size)) { s with heap:=g }):wpAny (model prog w) A (pyNext (.ref z)) Q E s:=by
 have ty:s.TypeIs (.ref z) "zip" := ⟨_,dJ,rfl⟩
 unfold pyNext;refine wpAny_bind (wpAny_attempt (wpAny_callSpecial?_slot (name:=Str.ofString "__next__") ty F.slot_zip_next (wpAny_call_entry F.slot_zip_next ty F.entry_zip_next ?_ (F.args_zip_next_1 _))));exact Bn D dJ h6 kp er hg dZ d0 ex dP λ g eP dO dU fh d6 kf=>wpAny_pure (q g eP dO dU fh d6 kf)
theorem BC {p1 cR:Bool} {z TI cA cY dn t1 bf:Addr} {k:Nat} {xs ys:Array Value} {a b:Value} {Q:Option Value->Shared->Prop} (hd:eO.In A s.heap) (D:ZipApart z TI cA cY dn t1 bf)
  (dJ:IsZip s.heap z TI cA .none) (h6:IsPair s.heap TI (.ref cY) (.ref dn)) (kp:IsPair s.heap cA a b)
  (er:dE p1 s.heap cY t1 k) (hg:dE cR s.heap dn bf k) (dZ:eo p1 s.heap t1 xs) (d0:eo cR s.heap bf ys) (rn:xs[k]?=none\/ys[k]?=none)
  (q : ∀ g,(∀ c o,c≠z->c≠cA->c≠cY->c≠dn->s.heap.get? c=some o->g.get? c=some o)->Q none { s with heap:=g }):wpAny (model prog w) A (pyNext (.ref z)) Q E s:=by
 have ty:s.TypeIs (.ref z) "zip" := ⟨_,dJ,rfl⟩
 unfold pyNext;refine wpAny_bind (wpAny_attempt (wpAny_callSpecial?_slot (name:=Str.ofString "__next__") ty F.slot_zip_next (wpAny_call_entry F.slot_zip_next ty F.entry_zip_next ?_ (F.args_zip_next_1 _))));refine Bo hd D dJ h6 kp er hg dZ d0 rn λ g e up ⟨bT,h_,coe⟩=>?_
 exact wpAny_bind (wpAny_isInstance (T := "StopIteration") (b:=true) ⟨bT,h_,coe⟩ isSubtype_stop (wpAny_pure (q _ up)))
end
noncomputable abbrev zd (p:Bool) (t:Addr):Obj:={ cls:=.type (bif p then "list_iterator" else "tuple_iterator"),data:=.fields #[.ref t,.int 0 0] }
theorem eo.push {p:Bool} {h:Heap} {t:Addr} {xs:Array Value} (a:eo p h t xs) (o:Obj):eo p (h.push o) t xs:=by
 cases p
 ·exact Heap.IsTuple.push a o
 ·exact Heap.IsList.push a o
theorem Hm {prog:Program} {w:World} {A:Around} {E:Value->Shared->Prop} {s:Shared} {p:Bool} {t:Addr} {xs:Array Value} {Q:Value->Shared->Prop} (h:eo p s.heap t xs) (q:Q (.ref s.heap.objs.size) { s with heap:=s.heap.push (zd p t) }):wpAny (model prog w) A (pyIter (.ref t)) Q E s:=by
 cases p
 ·exact wpAny_pyIter_tuple h q
 ·exact wpAny_pyIter_list h q
noncomputable abbrev sz (p:Bool) (h:Heap) (t1:Addr):Heap:=h.push (zd p t1)
noncomputable abbrev u4 (p q:Bool) (h:Heap) (t1 bf:Addr):Heap:=(sz p h t1).push (zd q bf)
noncomputable abbrev mK (p q:Bool) (h:Heap) (t1 bf:Addr):Heap:=(u4 p q h t1 bf).push { cls:=.type "tuple", data:=.seq #[.ref h.objs.size,.ref (sz p h t1).objs.size] }
noncomputable abbrev mL (p q:Bool) (h:Heap) (t1 bf:Addr):Heap:=(mK p q h t1 bf).push { cls:=.type "tuple", data:=.seq #[.none,.none] }
noncomputable abbrev kE (p q:Bool) (h:Heap) (t1 bf:Addr):Heap:=(mL p q h t1 bf).push { cls:=.type "zip", data:=.fields #[.none,.bool false,.bool false,.ref (u4 p q h t1 bf).objs.size,.ref (mK p q h t1 bf).objs.size] }
theorem Bz (p q:Bool) (t1 bf:Addr) (xs ys:Array Value):Meets (Builtin.«zip.__new__» ⟨[.type "zip", .ref t1,.ref bf],[]⟩) (λ _ R s=>eo p s.heap t1 xs/\eo q s.heap bf ys/\R (.ok (.ret (.ref (mL p q s.heap t1 bf).objs.size))) { s with heap:=kE p q s.heap t1 bf }) :=
 .of_wp λ prog w A R s h=>by
  obtain ⟨bI,pP,dd,tt,pS⟩:=s;obtain ⟨a1,a2,h⟩:=h;have sub:=sub_zip;have eP:eo p (Shared.heap ⟨bI,pP,dd,tt,pS⟩) t1 xs:=a1;have dO:eo q (Shared.heap ⟨sz p bI t1,pP,dd,tt,pS⟩) bf ys:=eo.push a2 _
  wp_walk using Hm eP,Hm dO
  exact ⟨_,rfl,h⟩
section
variable {prog:Program} {w:World} {A:Around} {E:Value->Shared->Prop} {s:Shared}
theorem make {p q:Bool} {t1 bf:Addr} {xs ys:Array Value} {Q:Value->Shared->Prop} (a1:eo p s.heap t1 xs) (a2:eo q s.heap bf ys)
  (k : ∀ g,IsZip g (s.heap.objs.size+4) (s.heap.objs.size+2) (s.heap.objs.size+3) .none->IsPair g (s.heap.objs.size+2) (.ref s.heap.objs.size) (.ref (s.heap.objs.size+1))->IsPair g (s.heap.objs.size+3) .none .none ->
   dE p g s.heap.objs.size t1 0->dE q g (s.heap.objs.size+1) bf 0->(∀ c o,s.heap.get? c=some o->g.get? c=some o)->Q (.ref (s.heap.objs.size+4)) { s with heap:=g }) :
  wpAny (model prog w) A (call (.type "zip") [.ref t1,.ref bf]) Q E s:=by
 refine callType_new F.called_zip (by decide) (F.typeCall_zip_2 _ _) (F.newCall_zip_2 _ _) (λ obj=>F.args_object_init_3 obj _ _) F.entry_zip_new (Bz p q t1 bf xs ys) ⟨a1,a2,?_⟩;have cJ:(sz p s.heap t1).objs.size=s.heap.objs.size+1:=Heap.size_push ..;have dp:(u4 p q s.heap t1 bf).objs.size=s.heap.objs.size+2:=by rw [Heap.size_push,cJ]
 have e9:(mK p q s.heap t1 bf).objs.size=s.heap.objs.size+3:=by rw [Heap.size_push,dp]
 have gn:(mL p q s.heap t1 bf).objs.size=s.heap.objs.size+4:=by rw [Heap.size_push,e9]
 have pT:(kE p q s.heap t1 bf).get? (mL p q s.heap t1 bf).objs.size=some _:=Heap.get?_push_size _ rfl;have nu:(kE p q s.heap t1 bf).get? (mK p q s.heap t1 bf).objs.size=some _:=Heap.get?_push_of_some _ (Heap.get?_push_size _ rfl);have iO:(kE p q s.heap t1 bf).get? (u4 p q s.heap t1 bf).objs.size=some _:=Heap.get?_push_of_some _ (Heap.get?_push_of_some _ (Heap.get?_push_size _ rfl));have cR:(kE p q s.heap t1 bf).get? (sz p s.heap t1).objs.size=some _:=Heap.get?_push_of_some _ (Heap.get?_push_of_some _ (Heap.get?_push_of_some _ (Heap.get?_push_size _ rfl)));have p1:(kE p q s.heap t1 bf).get? s.heap.objs.size=some _:=Heap.get?_push_of_some _ (Heap.get?_push_of_some _ (Heap.get?_push_of_some _ (Heap.get?_push_of_some _ (Heap.get?_push_size _ rfl))));show _/\_;rw [dp,e9,gn] at pT;rw [cJ,dp] at iO;rw [e9] at nu;rw [cJ] at cR;rw [gn];exact ⟨⟨_,pT,rfl⟩,k _ pT iO nu (by cases p<;>exact ⟨_,p1,rfl,rfl⟩) (by cases q<;>exact ⟨_,cR,rfl,rfl⟩) λ c o y=>Heap.get?_push_of_some _ (Heap.get?_push_of_some _ (Heap.get?_push_of_some _ (Heap.get?_push_of_some _ (Heap.get?_push_of_some _ y))))⟩
end
end jL
namespace bC
open PySem PySem.Spec PyProof.Rows
noncomputable def kU:Expr->Bool
 | .Tuple _ _ _=>true
 | _=>false
theorem Inv.BU {X:aQ} {pins:List (Addr×Obj)} {σ:St} {H:aj} {s:Shared} {h':Heap} {t':Nat} {L:List Addr} {p:Addr} {xs:List V} (I:Inv X pins σ H s) (k : ∀ b o,b∉L->s.heap.get? b=some o->h'.get? b=some o)
  (hf : ∀ b∈L,kI X pins H b) (ay:s.heap.objs.size<=p) (new:dv X.prog X.w (upd H p (.tup xs)) h' p (.tup xs)):Inv X pins σ (upd H p (.tup xs)) { s with heap:=h',toks:=t' }:=by
 have aC:H p=none:=I.a0.fresh ay;have ne : ∀ b o,s.heap.get? b=some o->b≠p:=λ b o e=>Nat.ne_of_lt (Nat.lt_of_lt_of_le (Heap.lt_size e) ay)
 have nJ : ∀ b u,H b=some u->b∉L:=λ b u e z=>by rw [(hf b z).1] at e;cases e
 refine I.step (g':=s.gens) (d':=s.drawn) (ch:=L) (λ b aa=>?_) (λ b o _ _ ao e _=>k b o ao e) (λ b o _ _ ao e _=>⟨o.slots,k b o ao e⟩) (λ b o _ e n=>by rw [a3 (ne b o e)];exact n) (λ b o ao e=>⟨o,k b o ao e⟩)
  (λ b ys e=>by rw [a3 (b2 e aC)];exact e) (λ b o u e=>by rw [a3 (b2 e aC)];exact e) (λ b ag e=>⟨#[],by rw [a3 (b2 e aC),e];simp⟩) (λ m hm=>?_) (λ b u e=>?_) I.bare
 ·obtain ⟨_,f1,_,c2,f4,e7⟩:=hf b aa;exact ⟨c2,f1,f4,e7⟩
 ·obtain ⟨o,es,ep,aO,r⟩:=hm;exact ⟨o,es,ep,k _ o (λ z=>(hf _ z).2.1 rfl) aO,r⟩
 ·by_cases aa:b=p
  ·subst aa;rw [br] at e;cases e;exact new
  ·rw [a3 aa] at e;refine (I.a0 b u e).hV (λ c v ao q=>k c v ?_ q) (λ c q=>by rw [a3 (b2 q aC)];exact q) λ c ys q=>by rw [a3 (b2 q aC)];exact q
   rcases ao with z | z
   ·rw [z];exact nJ b u e
   ·exact nJ c _ z
theorem Inv.AW {X:aQ} {pins:List (Addr×Obj)} {σ:St} {H:aj} {s:Shared} {h':Heap} {t':Nat} {L:List Addr} (I:Inv X pins σ H s) (k : ∀ b o,b∉L->s.heap.get? b=some o->h'.get? b=some o)
  (hf : ∀ b∈L,kI X pins H b):Inv X pins σ H { s with heap:=h',toks:=t' }:=by
 have nJ : ∀ b u,H b=some u->b∉L:=λ b u e z=>by rw [(hf b z).1] at e;cases e
 refine I.step (g':=s.gens) (d':=s.drawn) (ch:=L) (λ b aa=>?_) (λ b o _ _ ao e _=>k b o ao e) (λ b o _ _ ao e _=>⟨o.slots,k b o ao e⟩) (λ _ _ _ _ n=>n) (λ b o ao e=>⟨o,k b o ao e⟩) (λ _ _ e=>e) (λ _ _ _ e=>e) (λ b ag e=>⟨#[],by rw [e];simp⟩)
  (λ m hm=>?_) (λ b u e=>?_) I.bare
 ·obtain ⟨_,f1,_,c2,f4,e7⟩:=hf b aa;exact ⟨c2,f1,f4,e7⟩
 ·obtain ⟨o,es,ep,aO,r⟩:=hm;exact ⟨o,es,ep,k _ o (λ z=>(hf _ z).2.1 rfl) aO,r⟩
 ·refine (I.a0 b u e).hV (λ c v ao q=>k c v ?_ q) (λ _ q=>q) λ _ _ q=>q
  rcases ao with z | z
  ·rw [z];exact nJ b u e
  ·exact nJ c _ z
noncomputable def h8 (p:Bool) (K:PySem.W.Frag) (H:aj) (a:Addr) (xs:List V):Prop:=bif p then a4 K H a xs else aW K H a xs
theorem Inv.qs {X:aQ} {pins:List (Addr×Obj)} {σ:St} {H:aj} {s:Shared} {p:Bool} {a:Addr} {xs:List V} (I:Inv X pins σ H s) (h:h8 p X.K H a xs) : ∃ its:List Value,Vals xs its/\jL.eo p s.heap a its.toArray:=by
 cases p
 ·obtain ⟨its,r,e,_⟩:=I.tuple h;exact ⟨its,r,e⟩
 ·obtain ⟨its,r,e,_⟩:=I.list h;exact ⟨its,r,e.isList⟩
theorem Inv.Ig {X:aQ} {pins:List (Addr×Obj)} {σ:St} {H:aj} {s:Shared} {p:Bool} {a:Addr} {xs ys:List V} (I:Inv X pins σ H s) (h:h8 p X.K H a xs) (h':h8 p X.K H a ys):xs=ys:=by
 cases p
 ·exact I.tE h h'
 ·exact I.H3 h h'
theorem eo.lt {p:Bool} {h:Heap} {a:Addr} {xs:Array Value} (e:jL.eo p h a xs):a<h.objs.size:=by
 cases p<;>obtain ⟨o,e,_⟩:=e<;>exact Heap.lt_size e
theorem dE.bJ {p:Bool} {h:Heap} {j t:Addr} {k:Nat} (e:jL.dE p h j t k) : ∃ o,h.get? j=some o /\ ∀ v,o.data≠.cell v:=by
 cases p<;>obtain ⟨o,e,_,d⟩:=e<;>exact ⟨o,e,λ v q=>by rw [d] at q;cases q⟩
noncomputable def oF (p q:Bool) (K:PySem.W.Frag) (a b:Addr):fC :=
 ⟨λ i H => ∃ xs ys x y,h8 p K H a xs/\h8 q K H b ys/\xs[i]?=some x/\ys[i]?=some y,
 λ i H v H' => ∃ n,H n=none/\v=.ref n /\ ∃ x y,H'=upd H n (.tup [x,y]) /\ ∀ xs ys,h8 p K H a xs->h8 q K H b ys->xs[i]?=some x/\ys[i]?=some y,
 λ i H => ∃ xs ys,h8 p K H a xs/\h8 q K H b ys/\(xs.length<=i\/ys.length<=i)⟩
theorem Jc {p q:Bool} {rl:Bool} {P:Program} {w:World} {K:PySem.W.Frag} {bk:Expr} (gg:kU bk=true) {z TI cA cY dn a b:Addr} (D:ZipApart z TI cA cY dn a b) :
  Turn P w K rl bk (oF p q K a b) [z,cA,cY,dn,TI] z (λ i h=>IsZip h z TI cA .none/\IsPair h TI (.ref cY) (.ref dn)/\(∃ u v,IsPair h cA u v)/\jL.dE p h cY a i/\jL.dE q h dn b i) where
 mem:=List.mem_cons_self
 obj:=λ i h st c ao=>by
  obtain ⟨af,aq,⟨u,v,aF⟩,aU,bW⟩:=st;have mO : ∀ {o:Obj} {vs:Array Value},o.data=.fields vs -> ∀ v,o.data≠.cell v:=λ e v q=>by rw [e] at q;cases q
  have sG : ∀ {o:Obj} {vs:Array Value} {n:Nat},o.data=.seq vs n -> ∀ v,o.data≠.cell v:=λ e v q=>by rw [e] at q;cases q
  simp only [List.mem_cons,List.not_mem_nil,or_false] at ao;rcases ao with rfl | rfl | rfl | rfl | rfl
  ·exact ⟨_,af,mO rfl⟩
  ·exact ⟨_,aF,sG rfl⟩
  ·exact dE.bJ aU
  ·exact dE.bJ bW
  ·exact ⟨_,aq,sG rfl⟩
 keep:=λ i h h' st k=>by
  obtain ⟨af,aq,⟨u,v,aF⟩,aU,bW⟩:=st;exact ⟨k _ (by simp) _ af,k _ (by simp) _ aq,⟨u,v,k _ (by simp) _ aF⟩,aU.up (k _ (by simp)),bW.up (k _ (by simp))⟩
 item:=by
  intro X c0 hw dQ nF ao i pins s σ H E I hf st aM;subst c0 hw dQ;obtain ⟨af,aq,⟨u,v,aF⟩,aU,bW⟩:=st;obtain ⟨xs,ys,x,y,cn,c4,ah,aL⟩:=aM;obtain ⟨its,bE,fU⟩:=I.qs cn;obtain ⟨qf,fc,ki⟩:=I.qs c4;obtain ⟨jQ,rY,sL⟩:=bE.get ah;obtain ⟨kl,yv,zl⟩:=fc.get aL;refine jL.next_item D af aq aF aU bW fU ki (x:=jQ) (y:=kl) (by simpa using rY) (by simpa using yv) λ g eP dO dU fh d6 kf=>?_
  refine ⟨_,rfl,?_⟩;have mU:z<s.heap.objs.size:=Heap.lt_size af;cases bk with
  | Tuple es et pp =>
   refine wpAny_letOwnedTupleGo_zip eP λ g' hb dB=>?_
   have new:IsPair g' s.heap.objs.size jQ kl:=dB.extBut _ _ (Nat.ne_of_gt mU) d6;have aJ:Inv X pins σ (upd H s.heap.objs.size (.tup [x,y])) { s with heap:=g' }:=by
    refine I.BU (t':=s.toks) (L:=[z,cA,cY,dn,TI]) (λ c o dS e=>?_) hf (Nat.le_refl _) ⟨by show 2<=sizeLine;decide,[jQ,kl],.cons sL (.cons zl .nil),⟨_,new,rfl,⟨0,rfl⟩,rfl⟩⟩;simp only [List.mem_cons,List.not_mem_nil,or_false,not_or] at dS;exact dB.extBut c o dS.1 (kf c o dS.1 dS.2.1 dS.2.2.1 dS.2.2.2.1 e)
   have mA:IsPair g' TI (.ref cY) (.ref dn):=dB.extBut _ _ D.TIz (kf _ _ D.TIz D.TITO D.TIi1 D.TIi2 aq);refine ⟨.ref s.heap.objs.size,_,aJ,rfl,⟨_,I.fresh,rfl,x,y,rfl,λ EV kH a6 b0=>⟨by rw [I.Ig a6 cn];exact ah,by rw [I.Ig b0 c4];exact aL⟩⟩,⟨hb,mA,⟨_,_,dB.extBut _ _ D.TOz dO⟩,dU.extBut dB.extBut D.i1z,fh.extBut dB.extBut D.i2z⟩,λ c ed=>?_⟩;obtain ⟨o,da,_⟩ : ∃ o,s.heap.get? c=some o/\True:=by
    simp only [List.mem_cons,List.not_mem_nil,or_false] at ed;rcases ed with rfl | rfl | rfl | rfl | rfl
    ·exact ⟨_,af,trivial⟩
    ·exact ⟨_,aF,trivial⟩
    ·obtain ⟨nt,iL,_⟩:=dE.bJ aU;exact ⟨_,iL,trivial⟩
    ·obtain ⟨um,e8,_⟩:=dE.bJ bW;exact ⟨_,e8,trivial⟩
    ·exact ⟨_,aq,trivial⟩
   rw [a3 (Nat.ne_of_lt (Heap.lt_size da))];exact (hf c ed).1
  | _=>exact absurd (show false=true from gg) Bool.false_ne_true
 done:=by
  intro X c0 hw dQ nF ao i pins s σ H E I hf st aM;subst c0 hw dQ;obtain ⟨af,aq,⟨u,v,aF⟩,aU,bW⟩:=st;obtain ⟨xs,ys,cn,c4,au⟩:=aM;obtain ⟨its,bE,fU⟩:=I.qs cn;obtain ⟨qf,fc,ki⟩:=I.qs c4;have aE:=bE.length;have aI:=fc.length;refine jL.BC (I.kx ao) D af aq aF aU bW fU ki ?_ λ g up=>⟨rfl,?_⟩
  ·rcases au with au | au
   ·exact .inl (by simp;omega)
   ·exact .inr (by simp;omega)
  ·refine I.AW (t':=s.toks) (L:=[z,cA,cY,dn,TI]) (λ c o dS e=>?_) hf;simp only [List.mem_cons,List.not_mem_nil,or_false,not_or] at dS;exact up c o dS.1 dS.2.1 dS.2.2.1 dS.2.2.2.1 e
 self:=λ _ _ _ _ _ st h=>wpAny_pyIter_zip st.1 h
section
variable {X:aQ} {bk:Expr}
theorem apart_new {n dZ d0:Addr} (af:dZ<n) (aq:d0<n):ZipApart (n+4) (n+2) (n+3) n (n+1) dZ d0:=zipApart_new af aq
noncomputable def z1 (p q:Bool) (K:PySem.W.Frag) (aS:cH):TI:=λ σ H R=>aS σ H λ vs H1 => ∃ a b,vs=[.ref a,.ref b]/\(∃ xs,h8 p K H1 a xs)/\(∃ ys,h8 q K H1 b ys)/\R (oF p q K a b) H1
theorem GK {p1 a6:Bool} {pins:List (Addr×Obj)} {σ:St} {H:aj} {s:Shared} {a b:Addr} {xs ys:List V} {J:fC} {R:fC->aj->Prop} (I:Inv X pins σ H s) (cn:h8 p1 X.K H a xs) (c4:h8 a6 X.K H b ys)
  (xD : ∀ {z TI cA cY dn:Addr},ZipApart z TI cA cY dn a b->Turn X.prog X.w X.K X.calm bk J [z,cA,cY,dn,TI] z (λ i h=>IsZip h z TI cA .none/\IsPair h TI (.ref cY) (.ref dn)/\(∃ u v,IsPair h cA u v)/\jL.dE p1 h cY a i/\jL.dE a6 h dn b i)) (q:R J H) :
  wpAny (model X.prog X.w) X.A (call (.type "zip") [.ref a,.ref b]) (λ v s1=>wpAny (model X.prog X.w) X.A (pyIter v) (yj X pins σ bk R) X.cB s1) X.cB s:=by
 obtain ⟨its,bE,fU⟩:=I.qs cn;obtain ⟨qf,fc,ki⟩:=I.qs c4;have xH:=eo.lt fU;have ru:=eo.lt ki;refine jL.make fU ki λ g dR di gq ml oD up=>?_
 refine wpAny_pyIter_zip dR ?_;have bD:Inv X pins σ H { s with heap:=g }:=I.kept (t':=s.toks) up;refine ⟨_,[s.heap.objs.size+4,s.heap.objs.size+3,s.heap.objs.size,s.heap.objs.size+1,s.heap.objs.size+2],_,_,H,rfl,bD,xD (apart_new xH ru),⟨dR,di,⟨_,_,gq⟩,ml,oD⟩,λ c ao=>?_,q⟩;have big:s.heap.objs.size<=c:=by
  simp only [List.mem_cons,List.not_mem_nil,or_false] at ao;rcases ao with rfl | rfl | rfl | rfl | rfl
  ·exact Nat.le_add_right _ _
  ·exact Nat.le_add_right _ _
  ·exact Nat.le_refl _
  ·exact Nat.le_add_right _ _
  ·exact Nat.le_add_right _ _
 exact I.nY big (I.a0.fresh big)
theorem Hi {p1 a6:Bool} {aE aI:Expr} {aS:cH} {p pos:Pos} (gg:kU bk=true) (aM:c1 X "zip") (hm:X.mg "zip" = none) (av:gB X [aE,aI] aS) (aA:starEach [aE,aI] X.env=[(false,eval aE X.env),(false,eval aI X.env)]:=by rfl) (fu:starEach [aI] X.env=[(false,eval aI X.env)]:=by rfl)
  (aa:bootBuiltins "zip" = some (.type "zip"):=by decide +kernel):kb X bk (.Call (.Name "zip" p) [aE,aI] [] pos) (z1 p1 a6 X.K aS):=by
 intro pins s σ H R I h;refine Call_ (lS I aM hm aa (PyProof.Rows.callWith_type1 (a_ (av pos pins s σ H _ I h) λ us s1 ⟨vs,H1,aJ,bG,a6⟩=>?_) (by rw [aA,fu]) (by rw [fu];rfl)));obtain ⟨a,b,e,⟨xs,cn⟩,⟨ys,c4⟩,q⟩:=a6;subst e;obtain ⟨gp,h4,rfl,kk,rB⟩:=vals2 bG;cases kk;cases rB;exact GK aJ cn c4 (Jc gg) q
end
theorem HT {p q:Bool} {K:PySem.W.Frag} {a b:Addr} {xs ys:List V} {g:dT} {bo:cX} {D:Ends} {σ:St} {H:aj} (Pv:Nat->St->aj->Prop) (h0:Pv 0 σ H) (au : ∀ i σ H,i<=min xs.length ys.length->Pv i σ H->h8 p K H a xs/\h8 q K H b ys)
  (aA : ∀ i x y p σ H,xs[i]?=some x->ys[i]?=some y->H p=none->Pv i σ H->g (.ref p) σ (upd H p (.tup [x,y])) λ σ2 aw=>bo { D with bl:=Pv (i+1),b1:=Pv (i+1),dY:=D.bl } σ2 aw) (hd : ∀ σ H,Pv (min xs.length ys.length) σ H->D.bl σ H) :
  ∃ W:Nat->Nat->St->aj->Prop,(∃ m,W 0 m σ H) /\ ∀ i m σ H,W i m σ H ->
   ((oF p q K a b).stop i H/\D.bl σ H)\/((oF p q K a b).go i H /\ ∃ N:St->aj->Prop,(∀ σ' H',N σ' H' -> ∃ cu,cu<m/\W (i+1) cu σ' H') /\ ∀ x H',(oF p q K a b).hq i H x H'->g x σ H' λ σ2 aw=>bo { D with bl:=N,b1:=N,dY:=D.bl } σ2 aw):=by
 refine ⟨λ i m σ H=>m=min xs.length ys.length - i/\i<=min xs.length ys.length/\Pv i σ H,⟨_,rfl,Nat.zero_le _,h0⟩,?_⟩;rintro i m σ H ⟨rfl,ax,p⟩;obtain ⟨cn,c4⟩:=au i σ H ax p;by_cases dk:i<min xs.length ys.length
 ·have af:i<xs.length:=by omega
  have aq:i<ys.length:=by omega
  refine .inr ⟨⟨xs,ys,xs[i],ys[i],cn,c4,by simp [af],by simp [aq]⟩,Pv (i+1),λ σ' H' fT=>⟨min xs.length ys.length - (i+1),by omega,rfl,dk,fT⟩,λ v H' jm=>?_⟩;obtain ⟨q,aR,rfl,x,y,rfl,fJ⟩:=jm;obtain ⟨ex,dP⟩:=fJ xs ys cn c4;exact aA i x y q σ H ex dP aR p
 ·have e:i=min xs.length ys.length:=by omega
  refine .inl ⟨⟨xs,ys,cn,c4,by omega⟩,hd σ H (e ▸ p)⟩
noncomputable abbrev oH (K:PySem.W.Frag) (a b:Addr):fC:=oF false false K a b
noncomputable abbrev Fm (K:PySem.W.Frag) (aS:cH):TI:=z1 false false K aS
section
variable {X:aQ} {bk:Expr}
theorem Sb {aE aI:Expr} {aS:cH} {p pos:Pos} (gg:kU bk=true) (aM:c1 X "zip") (hm:X.mg "zip" = none) (av:gB X [aE,aI] aS) (aA:starEach [aE,aI] X.env=[(false,eval aE X.env),(false,eval aI X.env)]:=by rfl) (fu:starEach [aI] X.env=[(false,eval aI X.env)]:=by rfl)
  (aa:bootBuiltins "zip" = some (.type "zip"):=by decide +kernel):kb X bk (.Call (.Name "zip" p) [aE,aI] [] pos) (Fm X.K aS):=Hi gg aM hm av aA fu aa
end
theorem G6 {K:PySem.W.Frag} {a b:Addr} {xs ys:List V} {g:dT} {bo:cX} {D:Ends} {σ:St} {H:aj} (Pv:Nat->St->aj->Prop) (h0:Pv 0 σ H) (au : ∀ i σ H,i<=min xs.length ys.length->Pv i σ H->aW K H a xs/\aW K H b ys)
  (aA : ∀ i x y p σ H,xs[i]?=some x->ys[i]?=some y->H p=none->Pv i σ H->g (.ref p) σ (upd H p (.tup [x,y])) λ σ2 aw=>bo { D with bl:=Pv (i+1),b1:=Pv (i+1),dY:=D.bl } σ2 aw) (hd : ∀ σ H,Pv (min xs.length ys.length) σ H->D.bl σ H) :
  ∃ W:Nat->Nat->St->aj->Prop,(∃ m,W 0 m σ H) /\ ∀ i m σ H,W i m σ H ->
   ((oH K a b).stop i H/\D.bl σ H)\/((oH K a b).go i H /\ ∃ N:St->aj->Prop,(∀ σ' H',N σ' H' -> ∃ cu,cu<m/\W (i+1) cu σ' H') /\ ∀ x H',(oH K a b).hq i H x H'->g x σ H' λ σ2 aw=>bo { D with bl:=N,b1:=N,dY:=D.bl } σ2 aw) :=
 HT (p:=false) (q:=false) Pv h0 au aA hd
end bC
namespace ni
open PySem PyProof.Rows
open AutoSeq1 (wpAny_loadPart')
section
variable {prog:Program} {w:World} {A:Around} {E:Value->Shared->Prop} {s:Shared}
theorem gather {r:Addr} {a b c:Int} {t u v:Tok} {n:Nat} {Q:List Value->Shared->Prop} (hd:A.handled=none) (ar:IsRange s.heap r a b c t u v) (f_:Builtin.Range.small a b c=true) (aC:Builtin.Range.rangeSize a b c=n) (au:n<=2 ^ 24)
  (q : ∀ (g:Heap) (tk:Nat) (acc:Array Value),(∀ b o,s.heap.get? b=some o->g.get? b=some o)->ItemsOf (λ i v => ∃ t,v=.int (a+i * c) t) acc n->Q acc.toList { s with heap:=g,toks:=tk }):wpAny (model prog w) A (collect (.ref r)) Q E s:=by
 unfold collect;refine wpAny_bind (wpAny_runValue (codeAny_builtin F.entry_proto_collect ?_));rw [Around.under_plainId F.plain_proto_collect _];show wpAny _ A.in1 (newList []>>=λ l=>again (.builtin "list.__iadd__" ⟨[l,.ref r],[]⟩)) _ _ s;refine wpAny_bind (wpAny_newObj_type (wpAny_pure ⟨plainId_quiet F.plain_list_iadd _,codeAny_builtin F.entry_list_iadd ?_⟩));rw [Around.under_plainId F.plain_list_iadd _];have new:(s.heap.push { cls:=.type "list", data:=.seq ([]:List Value).toArray }).get? s.heap.objs.size=some { cls:=.type "list", data:=.seq #[] 0 }:=Heap.get?_push_size _ rfl;show wpAny _ A.in1 (Builtin.List.listExtendWith (.ref s.heap.objs.size) (.ref r) (.ref s.heap.objs.size)) _ _ _;have last : ∀ (bY:Result) (s':Shared),(∃ (g:Heap) (tk:Nat) (acc:Array Value) (k:Nat),bY=.ok (.ret (.ref s.heap.objs.size))/\s'={ s with heap:=g,toks:=tk }/\g.get? s.heap.objs.size=some { cls:=.type "list", dict:=none,data:=.seq acc k,slots:=#[] }/\(∀ b o,s.heap.get? b=some o->g.get? b=some o)/\ItemsOf (λ i v => ∃ t,v=.int (a+i * c) t) acc n) ->
   (match bY with
    | .ok (.ret v)=>wpAny (model prog w) A (match v with
      | Value.ref a=>do
       match (← load a).data with
        | Data.seq xs _=>pure xs.toList
        | _=>unsupported "internal:collect"
      | _=>unsupported "internal:collect") Q E s'
    | .ok _=>False
    | .error e=>E e s'):=by
  rintro bY s' ⟨g,tk,acc,k,rfl,rfl,got,up,ok⟩;show wpAny _ A (load s.heap.objs.size>>=_) _ _ _;exact wpAny_bind (wpAny_load got (wpAny_pure (q g tk acc up ok)))
 refine wpAny_mono (wpAny_extend_range (A:=A) (R:=λ bY s' => ∃ (g:Heap) (tk:Nat) (acc:Array Value) (k:Nat),bY=.ok (.ret (.ref s.heap.objs.size))/\s'={ s with heap:=g,toks:=tk }/\g.get? s.heap.objs.size=some { cls:=.type "list", dict:=none,data:=.seq acc k,slots:=#[] }/\(∀ b o,s.heap.get? b=some o->g.get? b=some o)/\ItemsOf (λ i v => ∃ t,v=.int (a+i * c) t) acc n)
  (s:={ s with heap:=s.heap.push { cls:=.type "list", data:=.seq ([]:List Value).toArray } }) hd (Heap.get?_push_of_some _ ar) f_ aC au s.heap.objs.size (.ref s.heap.objs.size) 0 new λ g tk acc k up got ok=>⟨g,tk,acc,k,rfl,rfl,got,λ b o e=>up b o (Nat.ne_of_lt (Heap.lt_size e)) (Heap.get?_push_of_some _ e),ok⟩) (λ fin s' h=>?_) (λ e s' h=>?_)
 ·cases fin with
  | done f=>exact last _ _ h
  | again cj=>exact ⟨h.1,codeAny_mono h.2 λ bY hp h'=>last bY hp h'⟩
 ·exact last _ _ h
theorem YY (r:Addr) (a b c:Int) (t u v:Tok) (n:Nat) (f_:Builtin.Range.small a b c=true) (aC:Builtin.Range.rangeSize a b c=n) (au:n<=2 ^ 24) :
  Meets (Builtin.«tuple.__new__» ⟨[.type "tuple", .ref r],[]⟩) (λ A R s=>A.handled=none/\IsRange s.heap r a b c t u v /\ ∀ (g:Heap) (tk:Nat) (acc:Array Value),(∀ b o,s.heap.get? b=some o->g.get? b=some o)->ItemsOf (λ i v => ∃ t,v=.int (a+i * c) t) acc n ->
   R (.ok (.ret (.ref g.objs.size))) { s with heap:=g.push { cls:=.type "tuple", data:=.seq acc },toks:=tk }) :=
 .of_wp λ prog w A R s h=>by
  obtain ⟨hd,ar,h⟩:=h;have sub:=sub_tuple_self;have abC:=init_tuple_lookup;have abI:=madeHere_tuple;have ty:s.TypeIs (.ref r) "range" := ⟨_,ar,rfl⟩
  have nE:A.in1.handled=none:=hd
  wp_walk using wpAny_typeOf ty,gather nE ar f_ aC au
  intro g tk acc up ok;show wpAny _ _ (Builtin.Tuple.tupleExact acc.toList.toArray>>=λ v=>ret v) _ _ _;unfold Builtin.Tuple.tupleExact;refine wpAny_bind (wpAny_newObj_type (wpAny_pure ⟨_,rfl,?_⟩) (show acc.toList.toArray.size<=sizeLine by simp only [Array.toArray_toList];rw [ok.1,sizeLine_eq];omega));have e:acc.toList.toArray=acc:=by simp
  rw [e];exact h g tk acc up ok
theorem Vn {r:Addr} {a b c:Int} {t u v:Tok} {n:Nat} {Q:Value->Shared->Prop} (hd:A.handled=none) (ar:IsRange s.heap r a b c t u v) (f_:Builtin.Range.small a b c=true) (aC:Builtin.Range.rangeSize a b c=n) (au:n<=2 ^ 24)
  (q : ∀ (g:Heap) (tk:Nat) (acc:Array Value),(∀ b o,s.heap.get? b=some o->g.get? b=some o)->ItemsOf (λ i v => ∃ t,v=.int (a+i * c) t) acc n->Q (.ref g.objs.size) { s with heap:=g.push { cls:=.type "tuple", data:=.seq acc },toks:=tk }) :
  wpAny (model prog w) A (call (.type "tuple") [.ref r]) Q E s :=
 callType_new F.called_tuple (by decide) (F.typeCall_tuple_1 _) (F.newCall_tuple_1 _) (λ obj=>F.args_object_init_2 obj _) F.entry_tuple_new (YY r a b c t u v n f_ aC au) ⟨hd,ar,λ g tk acc up ok=>⟨⟨_,Heap.get?_push_size _ rfl,rfl⟩,q g tk acc up ok⟩⟩
end
end ni
namespace bC
open PySem PySem.Spec PyProof.Rows
section
variable {X:aQ}
theorem X2:eN X (.type "range") (λ xs H Q => ∃ n:Int,xs=[.int n] /\ ∀ p,H p=none->Q (.ref p) (upd H p (.nL 0 n))):=by
 intro pins s σ H xs us Q I r h;obtain ⟨n,rfl,q⟩:=h;obtain ⟨u,rfl,t,rfl⟩:=vals1 r;refine call_range_1 ⟨.ref s.heap.objs.size,_,I.laid (a:=s.heap.objs.size) (o:=.nL 0 n) (λ _ _ e=>Heap.get?_push_of_some _ e) (Nat.le_refl _) ⟨_,_,_,Heap.get?_push_size _ rfl⟩,rfl,q _ I.fresh⟩
theorem JC : ∀ (its:List Value) (k:Nat),(∀ (i:Nat) v,its[i]?=some v -> ∃ t,v=Value.int ((k:Int)+i) t)->Vals ((List.range' k its.length).map λ i=>V.int ((i:Nat):Int)) its
 | [],_,_=>.nil
 | v::its,k,h=>by
  rw [List.length_cons,List.range'_succ,List.map_cons];refine .cons ?_ (JC its (k+1) λ i hF e=>?_)
  ·obtain ⟨t,e⟩:=h 0 v rfl;exact ⟨t,by rw [e];simp⟩
  ·obtain ⟨t,q⟩:=h (i+1) hF (by simpa using e);exact ⟨t,by rw [q];congr 1;omega⟩
theorem aau (ao:X.calm=true):eN X (.type "tuple") (λ xs H Q => ∃ p n,xs=[.ref p]/\H p=some (.nL 0 n)/\0<=n/\n<=1000 /\ ∀ l,H l=none->Q (.ref l) (upd H l (.tup ((List.range n.toNat).map λ i=>V.int ((i:Nat):Int))))):=by
 intro pins s σ H xs us Q I r h;obtain ⟨p,n,rfl,ay,h0,af,q⟩:=h;obtain ⟨u,rfl,dA⟩:=vals1 r;cases dA;obtain ⟨t,u,v,e⟩:=(show dv X.prog X.w H s.heap p (.nL 0 n) from I.a0 p _ ay)
 have aC:Builtin.Range.rangeSize 0 n 1=((n.toNat:Nat):Int):=by rw [rangeSize_one];split<;>omega
 refine ni.Vn (I.ok.hd.1 ao) (show IsRange s.heap p 0 n 1 t u v from e) (small_one (by omega) (by omega) (by omega) (by omega)) aC (by omega) λ g tk acc up ok=>?_
 have aJ:Inv X pins σ H { s with heap:=g,toks:=tk }:=I.kept up;have a7:Vals ((List.range n.toNat).map λ i=>V.int ((i:Nat):Int)) acc.toList:=by
  have:=JC acc.toList 0 λ i v e=>by
   obtain ⟨t,q⟩:=ok.2 i v (by simpa using e);exact ⟨t,by rw [q];simp⟩
  rw [Array.length_toList,ok.1,<-List.range_eq_range'] at this;exact this
 refine ⟨.ref g.objs.size,_,aJ.laid (a:=g.objs.size) (t':=tk) (λ _ _ e=>Heap.get?_push_of_some _ e) (Nat.le_refl _) (show dv X.prog X.w _ _ _ (.tup _) from ⟨?_,acc.toList,a7,?_⟩),rfl,q _ (aJ.a0.fresh (Nat.le_refl _))⟩
 ·rw [List.length_map,List.length_range,sizeLine_eq];omega
 ·refine ⟨_,Heap.get?_push_size _ rfl,rfl,⟨0,?_⟩,rfl⟩;simp
end
end bC
namespace ni
open PySem PyProof.Rows
open AutoSeq1 (wpAny_loadPart')
theorem Yp:fillsNumberSlot (.type "tuple") "mul" = pure false :=
 PySem.fillsNumberSlot_seq (id := "tuple.__mul__") (r:=some (.builtin "tuple.__rmul__")) F.slot_tuple_mul.lookup (by decide +kernel) F.slot_tuple_rmul.lookup (by decide +kernel)
theorem VZ:seqRepeat? (.type "tuple")=pure (some (.builtin "tuple.__mul__")):=by
 unfold seqRepeat?;rw [PySem.seqSlot_of (T := "tuple") (name := "__mul__") (id := "tuple.__mul__") F.slot_tuple_mul.lookup (by decide +kernel),PySem.seqSlot_of (T := "tuple") (name := "__rmul__") (id := "tuple.__rmul__") F.slot_tuple_rmul.lookup (by decide +kernel)];rfl
theorem Ue (a:Int) (t:Tok) (l:Addr) (items:Array Value) (n:Nat) (dd:Option Addr) (cq:Array (Option Value)) :
  Meets (Builtin.«int.__rmul__» ⟨[.int a t,.ref l],[]⟩) (λ _ R s=>s.heap.get? l=some { cls:=.type "tuple", dict:=dd,data:=.seq items n,slots:=cq }/\R (.ok (.ret Value.notImplemented)) s) :=
 .of_wp λ prog w A R s h=>by
  obtain ⟨af,aq,aF,aU,bW⟩:=s;obtain ⟨au,h⟩:=h
  wp_walk using wpAny_loadPart' au
  exact ⟨_,rfl,h⟩
theorem WX (l:Addr) (items:Array Value) (n:Nat) (x:Int) (u:Tok) (dd:Option Addr) (cq:Array (Option Value)) (he:items.isEmpty=false) (af:2<=x) (aq:x<2 ^ 63) (aN:items.size * x.toNat<=sizeLine) :
  Meets (Builtin.«tuple.__mul__» ⟨[.ref l,.int x u],[]⟩) (λ _ R s=>s.heap.get? l=some { cls:=.type "tuple", dict:=dd,data:=.seq items n,slots:=cq } /\
   R (.ok (.ret (.ref s.heap.objs.size))) { s with heap:=s.heap.push { cls:=.type "tuple", data:=.seq (List.foldl (λ eJ fa=>eJ++fa) #[] (List.replicate x.toNat items)) } }) :=
 .of_wp λ prog w A R s h=>by
  obtain ⟨ay,g,d,tk,os⟩:=s;obtain ⟨au,h⟩:=h;have f1:=AutoSeq1.idx_int;have Ln : ¬ (decide (x < -(2 ^ 63))||decide (x ≥ 2 ^ 63))=true:=by simp;omega
  have hb : ¬ (items.isEmpty||x == 1)=true:=by rw [he];simp;omega
  have jg : ¬ (decide (x<=0)||items.isEmpty)=true:=by rw [he];simp;omega
  have ah:((x.toNat:Nat):Int)=x:=Int.toNat_of_nonneg (by omega);have hm:((items.size:Nat):Int) * x=((items.size * x.toNat:Nat):Int):=by rw [Int.natCast_mul,ah]
  have aA:sizeLine=16777216:=sizeLine_eq;have pM : ¬ ((items.size:Nat):Int) * x > (2 ^ 63 - 1) / 8:=by rw [hm];omega
  have xq : ¬ Builtin.Tuple.tupleTooMany (((items.size:Nat):Int) * x)=true:=by
   rw [hm];unfold Builtin.Tuple.tupleTooMany;intro z;have:=of_decide_eq_true z;omega
  have hsz:(List.foldl (λ eJ fa=>eJ++fa) #[] (List.replicate x.toNat items)).size<=sizeLine:=by
   have e:=bC.foldl_rep items.toList x.toNat [];rw [List.nil_append] at e;have b5:List.foldl (λ eJ fa=>eJ++fa) #[] (List.replicate x.toNat items)=(List.replicate x.toNat items.toList).flatten.toArray:=by simpa using e
   rw [b5,List.size_toArray,bC.len_rep,Array.length_toList,Nat.mul_comm];exact aN
  wp_walk using wpAny_loadPart' au
  rw [if_neg Ln];refine wpAny_bind (tupleItemsOf_ (items:=items) ⟨_,au,rfl,n,rfl⟩ ?_);dsimp only;rw [if_neg hb,if_neg jg,if_neg pM,if_neg xq];unfold Builtin.Tuple.tupleExact;exact wpAny_bind (wpAny_newObj_type (wpAny_pure ⟨_,rfl,h⟩) hsz)
end ni
namespace dw
open PySem PyProof.Rows
section
variable {prog:Program} {w:World} {A:Around} {E:Value->Shared->Prop} {s:Shared}
theorem WG {t cq:Addr} {items:Array Value} {fF fG:Value} {lo ax:Option Int} {Q:Value->Shared->Prop} (aZ:IsTup s.heap t items) (aA:s.heap.IsSliceOf cq fF fG .none) (pl:IsPart fF lo) (pu:IsPart fG ax)
  (hw:ct items.size 0 lo=0/\ct items.size items.size ax=items.size) (h:Q (.ref t) s):wpAny (model prog w) A (getItem (.ref t) (.ref cq)) Q E s:=by
 obtain ⟨os,o1,uS,jX⟩:=id aA;have yI:s.TypeIs (.ref cq) "slice" := ⟨os,o1,uS⟩
 unfold getItem
 try with_reducible refine wpAny_holding ?_
 first | refine wpAny_bind (wpAny_pure ?_) | skip
 refine wpAny_bind (wpAny_sequenceKey aZ.typeIs (by decide) ?_);refine wpAny_bind (wpAny_callSpecial?_slot (name:=Str.ofString "__getitem__") aZ.typeIs PyProof.Rows.slot_tuple_getitem
  (wpAny_call_entry PyProof.Rows.slot_tuple_getitem aZ.typeIs entry_tuple_getitem ?_ (args_tuple_getitem _ _)))
 show wpAny _ _ (Builtin.Tuple.tupleItemsOf (.ref t)>>=_) _ _ s;refine wpAny_bind (tupleItemsOf_ aZ ?_);refine wpAny_bind (wpAny_typeOf yI ?_);rw [if_pos (by decide)];refine wpAny_bind (K5 aA pl pu ?_);have Ql:(((ct items.size 0 lo:Nat):Int) == 0&&(1:Int) == 1&&(ct items.size items.size ax - ct items.size 0 lo) == items.size)=true:=by
  rw [hw.1,hw.2];simp
 show wpAny _ _ (if (((ct items.size 0 lo:Nat):Int) == 0&&(1:Int) == 1&&(ct items.size items.size ax - ct items.size 0 lo) == items.size)=true then _ else _) _ _ s;rw [if_pos Ql];obtain ⟨LO,got,abi,_⟩:=id aZ;unfold Builtin.Tuple.tupleIsExact;refine wpAny_bind (wpAny_bind (wpAny_typeOf aZ.typeIs (wpAny_pure ?_)));rw [if_pos (by decide)];exact wpAny_bind (wpAny_rule (wpAny_pure ⟨_,rfl,wpAny_pure h⟩))
end
end dw
namespace bC
open PySem PySem.Spec PyProof.Rows
section
variable {X:aQ}
noncomputable def Ri:e1:=λ x y H Q => ∃ l k xs,x=.ref l/\y=.int k/\H l=some (.tup xs)/\xs≠[]/\2<=k/\k<2 ^ 63/\xs.length * k.toNat<=sizeLine /\
 ∀ p,H p=none->Q (.ref p) (upd H p (.tup (List.replicate k.toNat xs).flatten))
theorem Tu:dx X (binaryOp .Mult) Ri:=by
 intro pins s σ H x y v u Q I aT bb h;obtain ⟨l,k,xs,rfl,rfl,h1,c5,af,aq,aN,q⟩:=h;cases aT;obtain ⟨t,rfl⟩:=bb;obtain ⟨its,r,pt,fL⟩:=I.tuple (aW.of h1);have au:=r.length;obtain ⟨⟨hb,oq,f1,s1⟩,g1,k1,cJ,cY⟩:=id pt;simp only at k1 cY;subst k1 cY;have he:its.toArray.isEmpty=false:=by
  cases its with
  | nil=>exact absurd (r.Tj.mp rfl) c5
  | cons a b=>rfl
 have hlen:its.toArray.size * k.toNat<=sizeLine:=by rw [List.size_toArray,<-au];exact aN
 have zJ:List.foldl (λ eJ fa=>eJ++fa) #[] (List.replicate k.toNat its.toArray)=(List.replicate k.toNat its).flatten.toArray:=by
  have:=foldl_rep its k.toNat [];rw [List.nil_append] at this;exact this
 refine wpAny_binaryOp_repeat_ref (T := "tuple") (U := "int") (by decide) ⟨_,g1,rfl⟩ (λ s'=>typeIs_int s' k t) ni.Yp F.fills_int_mul F.slot_int_rmul ni.VZ F.slot_int_index.lookup
  (call_meets F.slot_int_rmul (typeIs_int s k t) F.entry_int_rmul (F.args_int_rmul_2 _ _) (ni.Ue k t l its.toArray cJ oq s1)
   ⟨g1,rfl,⟨_,g1,rfl⟩,call_meets F.slot_tuple_mul ⟨_,g1,rfl⟩ F.entry_tuple_mul (F.args_tuple_mul_2 _ _) (ni.WX l its.toArray cJ k t oq s1 he af aq hlen) ⟨g1,?_⟩⟩)
 rw [zJ];refine ⟨.ref s.heap.objs.size,_,I.laid (t':=s.toks) (o:=.tup (List.replicate k.toNat xs).flatten) (λ b bJ q=>Heap.get?_push_of_some _ q) (Nat.le_refl _) ?_,rfl,q _ I.fresh⟩;exact ⟨by rw [len_rep,Nat.mul_comm];exact aN,_,r.rep k.toNat,lQ.new _ _⟩
noncomputable def Fx (K:PySem.W.Frag):V->Option Int->Option Int->aj->bz->Prop:=λ x lo ax H Q => ∃ a xs,x=.ref a/\aW K H a xs/\dw.ct xs.length 0 lo=0/\dw.ct xs.length xs.length ax=xs.length/\Q (.ref a) H
theorem V0:lj X (Fx X.K):=by
 intro pins s σ H x v fF fG lo ax cq Q I aT aA pl pu h;obtain ⟨a,xs,rfl,ah,jl,fH,q⟩:=h;cases aT;obtain ⟨its,r,aZ,aN⟩:=I.tuple ah;have hlen:its.toArray.size=xs.length:=by rw [List.size_toArray];exact r.length.symm
 exact ⟨"tuple", _,PyProof.Rows.slot_tuple_getitem.lookup,aZ.typeIs,dw.WG aZ aA pl pu (by rw [hlen];exact ⟨jl,fH⟩) ⟨.ref a,H,I,rfl,q⟩⟩
theorem Ul:lj X (λ x lo ax H Q=>Fw X.K x lo ax H Q\/Fx X.K x lo ax H Q):=SF.or V0
end
noncomputable def Rk:TE:=λ _ H Q => ∀ p,H p=none->Q (.ref p) (upd H p (.cM []))
theorem Inv.PI {X:aQ} {pins:List (Addr×Obj)} {σ:St} {H:aj} {s:Shared} (I:Inv X pins σ H s):sysModules<s.heap.objs.size :=
 Nat.lt_trans (by decide) (I.mod.glob.keeps I.dY).lt
theorem TB {X:aQ} {pos:Pos}:bK X (.Dict [] [] pos) Rk:=λ pins s σ H Q I h =>
 wpAny_Dict_empty ⟨.ref s.heap.objs.size,_,I.laid (a:=s.heap.objs.size) (o:=.cM []) (t':=s.toks) (λ _ _ q=>Heap.get?_push_of_some _ q) (Nat.le_refl _)
  ⟨Nat.zero_le _,beq_eq_false_iff_ne.mpr (Ne.symm (Nat.ne_of_lt I.PI)),[],.nil,Heap.DictOf.new _⟩,rfl,h _ I.fresh⟩
theorem Rb {X:aQ} {x:Str} {T:String} {pos:Pos} (aM:c1 X x) (hm:X.mg x=none) (a7:bootBuiltins x=some (.type T)) (aC:x ≠ "__name__" := by decide) (hd:(x == ("__debug__" : Str))=false:=by decide):bK X (.Name x pos) (gR (.ty T)) :=
 Tw (v:=.ty T) aM hm a7 rfl aC hd
end bC
namespace cf
noncomputable def lW (p:Nat):Nat->Nat->Nat
 | 0,n=>n
 | f+1,n=>if 2<=p/\1<=n/\n % p=0 then lW p f (n / p) else n
theorem J3 (p:Nat) : ∀ f n:Nat,n<=f->lW p (f+1) n=lW p f n
 | 0,n,h=>by
  obtain rfl:n=0:=by omega
  exact if_neg (λ z=>by omega)
 | f+1,n,h=>by
  show (if 2<=p/\1<=n/\n % p=0 then lW p (f+1) (n / p) else n)=if 2<=p/\1<=n/\n % p=0 then lW p f (n / p) else n
  by_cases q:2<=p/\1<=n/\n % p=0
  ·rw [if_pos q,if_pos q];exact J3 p f (n / p) (by have:=Nat.div_lt_self q.2.1 q.1;omega)
  ·rw [if_neg q,if_neg q]
theorem BS (p n:Nat) : ∀ k:Nat,lW p (n+k) n=lW p n n
 | 0=>rfl
 | k+1=>by rw [show n+(k+1)=(n+k)+1 from rfl,J3 p (n+k) n (by omega)];exact BS p n k
noncomputable def strip (p:Nat) (n:Nat):Nat:=lW p n n
theorem Jb (p n:Nat):strip p n=if 2<=p/\1<=n/\n % p=0 then strip p (n / p) else n:=by
 have e:strip p n=lW p (n+1) n:=(BS p n 1).symm;rw [e];show (if 2<=p/\1<=n/\n % p=0 then lW p n (n / p) else n)=_;by_cases q:2<=p/\1<=n/\n % p=0
 ·rw [if_pos q,if_pos q];have lt:=Nat.div_lt_self q.2.1 q.1;have:=BS p (n / p) (n - n / p);rw [show n / p+(n - n / p)=n by omega] at this;exact this
 ·rw [if_neg q,if_neg q]
theorem wN {p n:Nat} (ay:2<=p) (aC:1<=n) (h:n % p=0):strip p n=strip p (n / p):=by
 rw [Jb p n,if_pos ⟨ay,aC,h⟩]
theorem tD {p n:Nat} (h:n % p≠0):strip p n=n:=by
 rw [Jb,if_neg (λ q=>h q.2.2)]
theorem wO {p n:Nat} (aC:1<=n) (h:n % p=0):1<=n / p:=by
 have e:=Nat.div_add_mod n p;rw [h] at e;rcases Nat.eq_zero_or_pos (n / p) with z | z
 ·rw [z] at e;omega
 ·exact z
theorem Ja {p:Nat} (ay:2<=p) : ∀ n:Nat,1<=n->1<=strip p n:=by
 intro n
 induction n using Nat.strongRecOn with
 | ind n cI =>
  intro aC;by_cases h:n % p=0
  ·rw [wN ay aC h];exact cI _ (Nat.div_lt_self aC ay) (wO aC h)
  ·rw [tD h];exact aC
theorem Xy {p:Nat} (ay:2<=p) {m:Nat} (hm:1<=m) : ∀ e:Nat,strip p (p ^ e * m)=strip p m:=by
 intro e
 induction e with
 | zero=>rw [Nat.pow_zero,Nat.one_mul]
 | succ e cI =>
  have af:p ^ (e+1) * m=p * (p ^ e * m):=by rw [Nat.pow_succ,Nat.mul_comm (p ^ e) p,Nat.mul_assoc]
  have lI:1<=p ^ e * m:=Nat.mul_pos (Nat.pow_pos (by omega)) hm;have aq:1<=p * (p ^ e * m):=Nat.mul_pos (by omega) lI;rw [af,wN ay aq (Nat.mul_mod_right _ _),Nat.mul_div_cancel_left _ (by omega)];exact cI
noncomputable def ei:List Nat:=[2,3,5,7,11,13,17,19,23,29]
noncomputable def jD (ag:List Nat) (n:Nat):Nat:=ag.foldl (λ m p=>strip p m) n
noncomputable def kW (n:Nat):Nat:=jD ei n
theorem JA : ∀ (ag:List Nat),(∀ p∈ag,2<=p) -> ∀ n,1<=n->1<=jD ag n
 | [],_,_,h=>h
 | p::ag,ay,n,h=>JA ag (λ q aR=>ay q (List.mem_cons_of_mem _ aR)) _ (Ja (ay p List.mem_cons_self) n h)
theorem m6 : ∀ p∈ei,2<=p:=by decide
noncomputable def qN (a b:Nat):Bool:=ei.all λ p=>a % p != 0||b % p != 0
theorem YZ {a b:Nat}:qN a b=true ↔ ∀ p∈ei,¬ (p∣a/\p∣b):=by
 unfold qN;rw [List.all_eq_true];constructor
 ·intro h p ay ⟨af,aq⟩;have:=h p ay;rw [Nat.mod_eq_zero_of_dvd af,Nat.mod_eq_zero_of_dvd aq] at this;exact absurd this (by decide)
 ·intro h p ay;by_cases af:a % p=0
  ·by_cases aq:b % p=0
   ·exact absurd ⟨Nat.dvd_of_mod_eq_zero af,Nat.dvd_of_mod_eq_zero aq⟩ (h p ay)
   ·simp [aq]
  ·simp [af]
noncomputable def hx:List Nat->List Nat->Nat
 | p::ag,e::es=>p ^ e * hx ag es
 | _,_=>1
theorem BG : ∀ (ag es:List Nat),(∀ p∈ag,2<=p)->1<=hx ag es
 | [],_,_=>Nat.le_refl _
 | _::_,[],_=>Nat.le_refl _
 | p::ag,e::es,h=>Nat.mul_pos (Nat.pow_pos (by have:=h p List.mem_cons_self;omega)) (BG ag es λ q aR=>h q (List.mem_cons_of_mem _ aR))
theorem Bu {p:Nat} : ∀ (ag es:List Nat),(∀ q∈ag,Nat.Coprime p q)->Nat.Coprime p (hx ag es)
 | [],_,_=>Nat.coprime_one_right p
 | _::_,[],_=>Nat.coprime_one_right p
 | q::ag,e::es,h=>Nat.Coprime.mul_right (Nat.Coprime.pow_right e (h q List.mem_cons_self)) (Bu ag es λ r ar=>h r (List.mem_cons_of_mem _ ar))
theorem Z9 {p n:Nat} (ay:2<=p) (c:Nat.Coprime p n):n % p≠0:=λ h=>by
 have:=c.eq_one_of_dvd (Nat.dvd_of_mod_eq_zero h);omega
theorem Xx {p:Nat} (ay:2<=p):strip p 1=1:=tD (by rw [Nat.mod_eq_of_lt (by omega)];decide)
theorem Jz : ∀ (ag:List Nat),(∀ p∈ag,2<=p)->jD ag 1=1
 | [],_=>rfl
 | p::ag,h=>by
  show jD ag (strip p 1)=1;rw [Xx (h p List.mem_cons_self)];exact Jz ag λ q aR=>h q (List.mem_cons_of_mem _ aR)
theorem Kn : ∀ (ag es:List Nat),(∀ p∈ag,2<=p)->ag.Pairwise Nat.Coprime->jD ag (hx ag es)=1
 | [],_,_,_=>rfl
 | p::ag,[],h,_=>Jz (p::ag) h
 | p::ag,e::es,h,c=>by
  have ay:=h p List.mem_cons_self;have aZ : ∀ q∈ag,2<=q:=λ q aR=>h q (List.mem_cons_of_mem _ aR)
  have cj:=List.pairwise_cons.mp c;show jD ag (strip p (p ^ e * hx ag es))=1;rw [Xy ay (BG ag es aZ),tD (Z9 ay (Bu ag es cj.1))];exact Kn ag es aZ cj.2
theorem B3:ei.Pairwise Nat.Coprime:=by decide
noncomputable def prod (es:List Nat):Nat:=hx ei es
theorem VH (es:List Nat):1<=prod es:=BG _ _ m6
theorem Z3 (es:List Nat):kW (prod es)=1:=Kn _ _ m6 B3
theorem Ad {p:Nat} : ∀ (ag es:List Nat) (k:Nat),ag.Pairwise Nat.Coprime->ag[k]?=some p->es.getD k 0=0->Nat.Coprime p (hx ag es)
 | [],_,_,_,h,_=>by simp at h
 | _::_,[],_,_,_,_=>Nat.coprime_one_right p
 | q::ag,e::es,0,c,h,h0=>by
  simp at h h0;subst h;subst h0;show Nat.Coprime q (q ^ 0 * hx ag es);rw [Nat.pow_zero,Nat.one_mul];exact Bu ag es (List.pairwise_cons.mp c).1
 | q::ag,e::es,k+1,c,h,h0=>by
  have cj:=List.pairwise_cons.mp c;have h':ag[k]?=some p:=by simpa using h
  have hm:p∈ag:=List.mem_of_getElem? h';refine Nat.Coprime.mul_right (Nat.Coprime.pow_right e (Nat.Coprime.symm (cj.1 p hm))) ?_;exact Ad ag es k cj.2 h' (by simpa using h0)
theorem Zl {es ak:List Nat} (h : ∀ k,es.getD k 0=0\/ak.getD k 0=0):qN (prod es) (prod ak)=true:=by
 rw [YZ];intro p ay ⟨af,aq⟩;obtain ⟨k,aB⟩:=List.getElem?_of_mem ay;have xW:=m6 p ay;rcases h k with e | e
 ·have:=(Ad ei es k B3 aB e).eq_one_of_dvd af;omega
 ·have:=(Ad ei ak k B3 aB e).eq_one_of_dvd aq;omega
theorem H8 : ∀ (ag es:List Nat),(∀ p∈ag,p<=29)->hx ag es<=29 ^ es.sum
 | [],_,_=>Nat.pow_pos (by decide)
 | _::_,[],_=>Nat.le_refl _
 | p::ag,e::es,h=>by
  rw [List.sum_cons,Nat.pow_add];exact Nat.mul_le_mul (Nat.pow_le_pow_left (h p List.mem_cons_self) e) (H8 ag es λ q aR=>h q (List.mem_cons_of_mem _ aR))
theorem TQ (es:List Nat):prod es<=29 ^ es.sum:=H8 ei es (by decide)
noncomputable def gL (i:Int):Bool:=decide (1<=i)&&decide (i<=1000000000000)&&decide (kW i.toNat=1)
noncomputable def fx (i j:Int):Bool:=gL i&&gL j&&qN i.toNat j.toNat
theorem JB {es:List Nat} (h:es.sum<=3):gL (prod es:Nat)=true:=by
 unfold gL;have af:=VH es;have aq:=TQ es;have aF:29 ^ es.sum<=29 ^ 3:=Nat.pow_le_pow_right (by decide) h;have aU:(29:Nat) ^ 3=24389:=by decide
 rw [Bool.and_eq_true,Bool.and_eq_true,decide_eq_true_iff,decide_eq_true_iff,decide_eq_true_iff];refine ⟨⟨by omega,by omega⟩,?_⟩;rw [Int.toNat_natCast];exact Z3 es
theorem X8 {es ak:List Nat} (af:es.sum<=3) (aq:ak.sum<=3) (h : ∀ k,es.getD k 0=0\/ak.getD k 0=0):fx (prod es:Nat) (prod ak:Nat)=true:=by
 unfold fx;rw [JB af,JB aq,Int.toNat_natCast,Int.toNat_natCast,Zl h];rfl
noncomputable def ups (xs:List Int):List Nat:=xs.map Int.toNat
noncomputable def downs (xs:List Int):List Nat:=xs.map λ x=>(-x).toNat
theorem ZF (xs:List Int) (k:Nat):(ups xs).getD k 0=0\/(downs xs).getD k 0=0:=by
 unfold ups downs;rw [List.getD_eq_getElem?_getD,List.getD_eq_getElem?_getD,List.getElem?_map,List.getElem?_map];cases xs[k]? with
 | none=>exact .inl rfl
 | some x=>simp;omega
theorem tH : ∀ (xs:List Nat) (k:Nat) (v:Nat),(xs.set k v).sum+xs.getD k 0<=xs.sum+v
 | [],k,v=>by simp
 | x::xs,0,v=>by simp;omega
 | x::xs,k+1,v=>by
  have:=tH xs k v;simp only [List.set_cons_succ,List.sum_cons,List.getD_cons_succ];omega
theorem GJ {xs:List Int} {k:Nat} {x:Int} (h:xs[k]?=some x):(ups (xs.set k (x+1))).sum<=(ups xs).sum+1:=by
 have q:=tH (ups xs) k (x+1).toNat;have e:(ups xs).getD k 0=x.toNat:=by unfold ups;rw [List.getD_eq_getElem?_getD,List.getElem?_map,h];rfl
 rw [e] at q;have aI:ups (xs.set k (x+1))=(ups xs).set k (x+1).toNat:=by unfold ups;rw [List.map_set]
 rw [aI];omega
theorem Wg {xs:List Int} {k:Nat} {x:Int} (h:xs[k]?=some x):(ups (xs.set k (x - 1))).sum<=(ups xs).sum:=by
 have q:=tH (ups xs) k (x - 1).toNat;have e:(ups xs).getD k 0=x.toNat:=by unfold ups;rw [List.getD_eq_getElem?_getD,List.getElem?_map,h];rfl
 rw [e] at q;have aI:ups (xs.set k (x - 1))=(ups xs).set k (x - 1).toNat:=by unfold ups;rw [List.map_set]
 rw [aI];omega
theorem X7 {xs:List Int} {k:Nat} {x:Int} (h:xs[k]?=some x):(downs (xs.set k (x - 1))).sum<=(downs xs).sum+1:=by
 have q:=tH (downs xs) k (-(x - 1)).toNat;have e:(downs xs).getD k 0=(-x).toNat:=by unfold downs;rw [List.getD_eq_getElem?_getD,List.getElem?_map,h];rfl
 rw [e] at q;have aI:downs (xs.set k (x - 1))=(downs xs).set k (-(x - 1)).toNat:=by unfold downs;rw [List.map_set]
 rw [aI];omega
theorem UU {xs:List Int} {k:Nat} {x:Int} (h:xs[k]?=some x):(downs (xs.set k (x+1))).sum<=(downs xs).sum:=by
 have q:=tH (downs xs) k (-(x+1)).toNat;have e:(downs xs).getD k 0=(-x).toNat:=by unfold downs;rw [List.getD_eq_getElem?_getD,List.getElem?_map,h];rfl
 rw [e] at q;have aI:downs (xs.set k (x+1))=(downs xs).set k (-(x+1)).toNat:=by unfold downs;rw [List.map_set]
 rw [aI];omega
theorem JR {xs:List Int} (af:(ups xs).sum<=3) (aq:(downs xs).sum<=3):fx (prod (ups xs):Nat) (prod (downs xs):Nat)=true:=X8 af aq (ZF xs)
end cf
namespace bC
open PySem PySem.Spec PyProof.Rows
theorem Vz {X:aQ} {x:Str} {i:Int} {pos:Pos} (aM:c1 X x) (hm : ∃ t,X.mg x=some (.int i t)) (hd:(x == ("__debug__" : Str))=false:=by decide):bK X (.Name x pos) (gR (.int i)):=by
 obtain ⟨t,h⟩:=hm;exact AH aM h ⟨t,rfl⟩ hd
theorem VA {X:aQ} {x:Str} {i:Str} {pos:Pos} (aM:c1 X x) (hm : ∃ t,X.mg x=some (.str i t)) (hd:(x == ("__debug__" : Str))=false:=by decide):bK X (.Name x pos) (gR (.str i)):=by
 obtain ⟨t,h⟩:=hm;exact AH aM h ⟨t,rfl⟩ hd
noncomputable def s_ (sc ig:Scope):List (Str×NameKind):=sc.names.map λ (n,k)=>if (k == .free&&ig.kind == .function&&ig.names.lookup n == some .cell) then (n,.cell) else (n,k)
noncomputable def zN (sc:Scope):List Str:=((sc.names.filter (λ p=>p.2 == .free)).reverse).map (·.1)
noncomputable def Ay (sc ig:Scope) (N nj:List Str) (js:List (Option Nat)):Bool :=
 sc.names.all (λ y=>y.2 != .cell)&&decide (sc.kind=.function)&&sc.names.all (λ y=>y.2 != .local||sc.names.lookup y.1 == some .local) &&
 (s_ sc ig).all (λ p => !(p.2 == .cell||p.2 == .free)||(zN sc).contains p.1)&&js.length == N.length &&
 (List.range N.length).all λ i=>match js[i]?,N[i]? with
  | some (some j),some x=>nj[j]? == some x&&ig.names.lookup x == some .cell&&((s_ sc ig).lookup x == some .cell||(s_ sc ig).lookup x == some .free)
  | _,_=>true
theorem mem_of_lookup {α β : Type} [BEq α] [LawfulBEq α] : ∀ {l:List (α × β)} {x : α} {c : β},l.lookup x=some c->(x,c)∈l
 | [],_,_,h=>by simp at h
 | (y,d)::r,x,c,h=>by
  rw [List.lookup_cons] at h;cases e:(x == y) with
  | true =>
   rw [e] at h;cases h;rw [eq_of_beq e];exact List.mem_cons_self
  | false =>
   rw [e] at h;exact List.mem_cons_of_mem _ (mem_of_lookup h)
theorem Kw {α β : Type} [BEq α] [LawfulBEq α] : ∀ {l:List (α × β)} {x : α},x∈l.map (·.1) -> ∃ c,l.lookup x=some c
 | [],_,h=>by cases h
 | (y,d)::r,x,h=>by
  rw [List.lookup_cons];cases e:(x == y) with
  | true=>exact ⟨d,rfl⟩
  | false =>
   rcases List.mem_cons.mp h with z | z
   ·rw [z] at e;simp at e
   ·exact Kw z
theorem WB {X:aQ} {sc ig:Scope} {cl:List (Str×Addr)} {N nj:List Str} {js:List (Option Nat)} (aO:X.env.scope=ig) (qn:closureFor sc X.env=pure cl) (aB:cl.map (·.1)=zN sc)
  (zL : ∀ p∈cl,X.env.cells.lookup p.1=some p.2) (rW:Ay sc ig N nj js=true) (c8:X.N=nj):qG X sc cl N js:=by
 unfold Ay at rW;simp only [Bool.and_eq_true] at rW;obtain ⟨⟨⟨⟨⟨af,aq⟩,aF⟩,aU⟩,bW⟩,dV⟩:=rW;have uf:(relabel sc X.env).names=s_ sc ig:=by
  unfold relabel s_ Env.kindOf;rw [aO]
 refine ⟨qn,?_,of_decide_eq_true aq,?_,?_,?_,eq_of_beq bW,?_⟩
 ·intro y aL;have:=List.all_eq_true.mp af y aL;simpa using this
 ·intro y aL au;have:=List.all_eq_true.mp aF y aL;rw [au] at this;simpa using this
 ·intro x c h;exact zL (x,c) (mem_of_lookup h)
 ·intro x h;rw [uf] at h;refine Kw ?_;rw [aB];rcases h with h | h
  all_goals
   have:=List.all_eq_true.mp aU _ (mem_of_lookup h);simpa using this
 ·intro i j x uN bj;have ax:i<N.length:=(List.getElem?_eq_some_iff.mp uN).1;have:=List.all_eq_true.mp dV i (List.mem_range.mpr ax);rw [bj,uN] at this;simp only [Bool.and_eq_true,Bool.or_eq_true] at this;obtain ⟨⟨a,b⟩,c⟩:=this;refine ⟨?_,?_,?_⟩
  ·rw [c8];exact eq_of_beq a
  ·rw [aO];exact eq_of_beq b
  ·rw [uf];rcases c with c | c
   ·exact .inl (eq_of_beq c)
   ·exact .inr (eq_of_beq c)
end bC
namespace b9
open PySem bC
theorem fw:bootBuiltins "len" = some (.builtin "len"):=PySem.boot_len
theorem l6:bootBuiltins "isinstance" = some (.builtin "isinstance"):=by decide +kernel
theorem vK:bootBuiltins "int" = some (.type "int"):=by decide +kernel
theorem RC:bootBuiltins "bool" = some (.type "bool"):=by decide +kernel
theorem iv:bootBuiltins "tuple" = some (.type "tuple"):=by decide +kernel
theorem kO:bootBuiltins "str" = some (.type "str"):=by decide +kernel
theorem SW:bootBuiltins "range" = some (.type "range"):=by decide +kernel
theorem n2:bootBuiltins "max" = some (.builtin "max"):=by decide +kernel
theorem qx:bootBuiltins "min" = some (.builtin "min"):=by decide +kernel
theorem qw:bootBuiltins "all" = some (.builtin "all"):=by decide +kernel
noncomputable def gy (H:aj):V->Prop
 | .bp=>True
 | .ba _=>True
 | .int _=>True
 | .str _=>True
 | .ref a=>(∃ xs,H a=some (.tup xs))\/(∃ xs,H a=some (.lst xs))\/(∃ kvs,H a=some (.cM kvs))
 | _=>False
noncomputable def kN:Option dz->Option (List V)
 | some (.tup xs)=>some xs
 | _=>none
noncomputable def gs (H:aj):V->Option (List V)
 | .ref a=>kN (H a)
 | _=>none
theorem qL {H:aj} {a:Addr} {xs:List V} (h:H a=some (.tup xs)):gs H (.ref a)=some xs:=by
 show kN (H a)=_;rw [h];rfl
theorem A6 {H:aj} {v:V} {xs:List V} (h:gs H v=some xs) : ∃ a,v=.ref a/\H a=some (.tup xs):=by
 cases v with
 | ref a =>
  refine ⟨a,rfl,?_⟩;have h':kN (H a)=some xs:=h;cases e:H a with
  | none=>rw [e] at h';cases h'
  | some o =>
   rw [e] at h';cases o<;>first | (cases h';rfl) | cases h'
 | _=>cases h
noncomputable def y_:V->Bool
 | .int _=>true
 | .ba _=>true
 | _=>false
noncomputable def Em:V->Bool
 | .ba _=>true
 | _=>false
noncomputable def sx:V->Bool
 | .int _=>true
 | _=>false
theorem RJ (v:V):(y_ v && !Em v)=sx v:=by cases v<;>rfl
theorem G_ {v:V} (h:sx v=true) : ∃ i,v=.int i:=by
 cases v with
 | int i=>exact ⟨i,rfl⟩
 | _=>cases h
section
variable {K:PySem.W.Frag} {H:aj} {v:V}
theorem z3 (k:gy H v) : ∃ t,hr K H v t/\PySem.W.kitOne K t (.type "tuple")=some (gs H v).isSome:=by
 cases v with
 | bp=>exact ⟨_,.bp,by kernel_rfl⟩
 | ba b=>exact ⟨_,.ba b,by kernel_rfl⟩
 | int i=>exact ⟨_,.int i,by kernel_rfl⟩
 | str x=>exact ⟨_,.str x,by kernel_rfl⟩
 | ref a =>
  rcases (show (∃ xs,H a=some (.tup xs))\/(∃ xs,H a=some (.lst xs))\/(∃ kvs,H a=some (.cM kvs)) from k) with ⟨xs,e⟩ | ⟨xs,e⟩ | ⟨kvs,e⟩
  ·exact ⟨_,.tup e,by rw [qL e];kernel_rfl⟩
  ·refine ⟨_,.lst e,?_⟩;show _=some (kN (H a)).isSome;rw [e];kernel_rfl
  ·refine ⟨_,.cM e,?_⟩;show _=some (kN (H a)).isSome;rw [e];kernel_rfl
 | _=>exact False.elim k
theorem Q5 (k:gy H v) : ∃ t,hr K H v t/\PySem.W.kitOne K t (.type "int")=some (y_ v):=by
 cases v with
 | bp=>exact ⟨_,.bp,by kernel_rfl⟩
 | ba b=>exact ⟨_,.ba b,by kernel_rfl⟩
 | int i=>exact ⟨_,.int i,by kernel_rfl⟩
 | str x=>exact ⟨_,.str x,by kernel_rfl⟩
 | ref a =>
  rcases (show (∃ xs,H a=some (.tup xs))\/(∃ xs,H a=some (.lst xs))\/(∃ kvs,H a=some (.cM kvs)) from k) with ⟨xs,e⟩ | ⟨xs,e⟩ | ⟨kvs,e⟩
  ·exact ⟨_,.tup e,by kernel_rfl⟩
  ·exact ⟨_,.lst e,by kernel_rfl⟩
  ·exact ⟨_,.cM e,by kernel_rfl⟩
 | _=>exact False.elim k
theorem Q4 (k:gy H v) : ∃ t,hr K H v t/\PySem.W.kitOne K t (.type "bool")=some (Em v):=by
 cases v with
 | bp=>exact ⟨_,.bp,by kernel_rfl⟩
 | ba b=>exact ⟨_,.ba b,by kernel_rfl⟩
 | int i=>exact ⟨_,.int i,by kernel_rfl⟩
 | str x=>exact ⟨_,.str x,by kernel_rfl⟩
 | ref a =>
  rcases (show (∃ xs,H a=some (.tup xs))\/(∃ xs,H a=some (.lst xs))\/(∃ kvs,H a=some (.cM kvs)) from k) with ⟨xs,e⟩ | ⟨xs,e⟩ | ⟨kvs,e⟩
  ·exact ⟨_,.tup e,by kernel_rfl⟩
  ·exact ⟨_,.lst e,by kernel_rfl⟩
  ·exact ⟨_,.cM e,by kernel_rfl⟩
 | _=>exact False.elim k
end
theorem aD.kind {H H':aj} (s:aD H H') {v:V} (k:gy H v):gy H' v:=by
 cases v with
 | ref a =>
  rcases (show (∃ xs,H a=some (.tup xs))\/(∃ xs,H a=some (.lst xs))\/(∃ kvs,H a=some (.cM kvs)) from k) with ⟨xs,e⟩ | ⟨xs,e⟩ | ⟨kvs,e⟩
  ·exact .inl ⟨xs,s _ _ e⟩
  ·exact .inr (.inl ⟨xs,s _ _ e⟩)
  ·exact .inr (.inr ⟨kvs,s _ _ e⟩)
 | bp=>trivial
 | ba b=>trivial
 | int i=>trivial
 | str x=>trivial
 | iT b=>exact False.elim k
 | mx b=>exact False.elim k
 | ty b=>exact False.elim k
noncomputable def b3 (a:Addr) (H H':aj):Prop := ∀ b o,b≠a->H b=some o->H' b=some o
theorem b3.refl (a:Addr) (H:aj):b3 a H H:=λ _ _ _ h=>h
theorem b3.trans {a:Addr} {H H1 aw:aj} (x:b3 a H H1) (y:b3 a H1 aw):b3 a H aw:=λ b o n h=>y b o n (x b o n h)
theorem b3.of {a:Addr} {H H':aj} (x:aD H H'):b3 a H H':=λ b o _ h=>x b o h
theorem b3.free {a:Addr} {H H':aj} (x:b3 a H H') {p:Addr} (h:H' p=none) (ay:p≠a):H p=none:=by
 cases q:H p with
 | none=>rfl
 | some o=>rw [x p o ay q] at h;cases h
theorem b3.QW {a:Addr} {H H':aj} (x:b3 a H H') {o:dz} (av:H' a=some o) {p:Addr} (h:H' p=none):H p=none :=
 x.free h λ z=>by rw [z,av] at h;cases h
theorem b3.upd {a:Addr} {H:aj} {o:dz}:b3 a H (upd H a o):=λ b q n h=>by rw [a3 n];exact h
theorem b3.new {a p:Addr} {H H':aj} {o:dz} (x:b3 a H H') (h:H' p=none):b3 a H (bC.upd H' p o):=λ b q n e=>by rw [a3 (b2 (x b q n e) h)];exact x b q n e
theorem b3.set {a:Addr} {H H':aj} {o:dz} (x:b3 a H H'):b3 a H (bC.upd H' a o):=λ b q n e=>by rw [a3 n];exact x b q n e
theorem aD.new {H:aj} {p:Addr} {o:dz} (h:H p=none):aD H (upd H p o):=λ b q e=>by rw [a3 (b2 e h)];exact e
theorem aD.more {H H':aj} {p:Addr} {o:dz} (s:aD H H') (h:H' p=none):aD H (upd H' p o):=s.trans (aD.new h)
theorem aD.tup {K:PySem.W.Frag} {H H':aj} {a:Addr} {xs:List V} (e:aD H H') (h:aW K H a xs):aW K H' a xs:=by
 rcases h with (h | ⟨o,h⟩) | h
 ·exact .inl (.inl (e _ _ h))
 ·exact .inl (.inr ⟨o,e _ _ h⟩)
 ·exact .inr h
theorem hY {ns:List Int} {i:Nat} {y:V} (h:(ns.map V.int)[i]?=some y) : ∃ z,y=.int z/\ns[i]?=some z:=by
 rw [List.getElem?_map] at h;cases e:ns[i]? with
 | none=>rw [e] at h;cases h
 | some z=>rw [e] at h;exact ⟨z,(Option.some.inj h).symm,rfl⟩
theorem g5 {α : Type} {xs:List α} {i:Int} {v : α} (h0:0<=i) (h:xs[i.toNat]?=some v):ll xs i=some v:=by
 have:=SV h
 rwa [Int.toNat_of_nonneg h0] at this
theorem th {n:Nat} {i:Int} (h0:0<=i) (h:i<n):mJ n i=some i.toNat:=by
 unfold mJ;rw [if_pos h0,if_pos h]
end b9
namespace bC
open PySem PySem.Spec PyProof.Rows
noncomputable def noStar:Expr->Bool
 | .Starred _ _=>false
 | _=>true
theorem tS {e:Expr} (h:noStar e=true) (es:List Expr) (env:Env):starEach (e::es) env=(false,eval e env)::starEach es env:=by
 cases e<;>first | rfl | cases h
theorem QB {X:aQ} {e:Expr} {es:List Expr} {bc:TE} {t:cH} (av:bK X e bc) (ar:gB X es t) (h:noStar e=true:=by rfl):gB X (e::es) (vV bc t):=Tv av ar (tS h es X.env)
section
variable {K:PySem.W.Frag} {a D:Addr} {js:List (Option Nat)} {g:dT} {bc:TE} {σ:St} {H1:aj} {Q:bz}
theorem q0 {J:fC} {n:Nat} (aC:n<=sizeLine) (Pv:Nat->St->aj->List V->Prop) (h0:Pv 0 (pick js σ) (upd H1 D (.lst [])) [])
  (gU : ∀ i σ' H' ys,i<n->H' D=some (.lst ys)->Pv i σ' H' ys->J.go i H') (cC : ∀ σ' H' ys,H' D=some (.lst ys)->ys.length=n->Pv n σ' H' ys->J.stop n H'/\Q (.ref D) H')
  (aA : ∀ i σ' H' ys x aw (R:St->V->aj->Prop),i<n->H' D=some (.lst ys)->ys.length=i->Pv i σ' H' ys->J.hq i H' x aw ->
   (∀ σ2 y aX,aX D=some (.lst ys)->Pv (i+1) σ2 (upd aX D (.lst (ys++[y]))) (ys++[y])->R σ2 y aX)->g x σ' aw λ σ2 aH=>bc σ2 aH λ y aX=>R σ2 y aX) :
  gJ J D js g iy bc σ H1 Q:=by
 refine ⟨λ i m σ' H' ys=>m=n - i/\i<=n/\H' D=some (.lst ys)/\ys.length=i/\Pv i σ' H' ys,⟨n,rfl,Nat.zero_le _,br,rfl,h0⟩,?_⟩;rintro i m σ' H' ys ⟨rfl,ax,aY,aL,p⟩;refine ⟨aY,?_⟩;by_cases e:i=n
 ·subst e;exact .inl (cC σ' H' ys aY aL p)
 ·have dk:i<n:=by omega
  refine .inr ⟨gU i σ' H' ys dk aY p,by omega,λ σ2 aw zs=>aw D=some (.lst zs)/\zs.length=i+1/\Pv (i+1) σ2 aw zs,λ σ2 aw zs ⟨dR,di,gq⟩=>⟨n - (i+1),by omega,rfl,by omega,dR,di,gq⟩,λ x aw ah=>?_⟩;exact aA i σ' H' ys x aw (λ σ2 y aX=>aX D=some (.lst ys)/\(upd aX D (.lst (ys++[y]))) D=some (.lst (ys++[y]))/\(ys++[y]).length=i+1/\Pv (i+1) σ2 (upd aX D (.lst (ys++[y]))) (ys++[y])) dk aY aL p ah
   λ σ2 y aX dR di=>⟨dR,br,by rw [List.length_append,aL];rfl,di⟩
theorem X6 {lo:Int} {n:Nat} (aC:n<=sizeLine) (Pv:Nat->St->aj->List V->Prop) (h0:Pv 0 (pick js σ) (upd H1 D (.lst [])) [])
  (aA : ∀ i σ' H' ys (R:St->V->aj->Prop),i<n->H' D=some (.lst ys)->ys.length=i->Pv i σ' H' ys->(∀ σ2 y aX,aX D=some (.lst ys)->Pv (i+1) σ2 (upd aX D (.lst (ys++[y]))) (ys++[y])->R σ2 y aX) ->
   g (.int (lo+i)) σ' H' λ σ2 aH=>bc σ2 aH λ y aX=>R σ2 y aX)
  (cC : ∀ σ' H' ys,H' D=some (.lst ys)->ys.length=n->Pv n σ' H' ys->Q (.ref D) H'):gJ (oG lo n) D js g iy bc σ H1 Q :=
 q0 aC Pv h0 (λ i _ _ _ ax _ _=>ax) (λ σ' H' ys a b c=>⟨Nat.le_refl _,cC σ' H' ys a b c⟩) λ i σ' H' ys x aw R ax a b c ⟨aE,aI⟩=>by
  subst aE;subst aI;exact aA i σ' aw ys R ax a b c
theorem IM {xs:List V} (aC:xs.length<=sizeLine) (Pv:Nat->St->aj->List V->Prop) (h0:Pv 0 (pick js σ) (upd H1 D (.lst [])) [])
  (au : ∀ i σ' H' ys,i<=xs.length->H' D=some (.lst ys)->Pv i σ' H' ys->a4 K H' a xs)
  (aA : ∀ i x σ' H' ys (R:St->V->aj->Prop),xs[i]?=some x->H' D=some (.lst ys)->ys.length=i->Pv i σ' H' ys->(∀ σ2 y aX,aX D=some (.lst ys)->Pv (i+1) σ2 (upd aX D (.lst (ys++[y]))) (ys++[y])->R σ2 y aX) ->
   g x σ' H' λ σ2 aH=>bc σ2 aH λ y aX=>R σ2 y aX)
  (cC : ∀ σ' H' ys,H' D=some (.lst ys)->ys.length=xs.length->Pv xs.length σ' H' ys->Q (.ref D) H'):gJ (mm K a) D js g iy bc σ H1 Q :=
 q0 aC Pv h0 (λ i σ' H' ys ax aY p=>⟨xs,xs[i],au i σ' H' ys (by omega) aY p,List.getElem?_eq_getElem ax⟩)
  (λ σ' H' ys aY b c=>⟨⟨xs,au _ σ' H' ys (Nat.le_refl _) aY c,Nat.le_refl _⟩,cC σ' H' ys aY b c⟩) λ i σ' H' ys x aw R ax aY b c ⟨aE,aI⟩=>by
  subst aE;exact aA i x σ' aw ys R (aI xs (au i σ' aw ys (by omega) aY c)) aY b c
theorem qS {xs:List V} (aC:xs.length<=sizeLine) (Pv:Nat->St->aj->List V->Prop) (h0:Pv 0 (pick js σ) (upd H1 D (.lst [])) [])
  (au : ∀ i σ' H' ys,i<=xs.length->H' D=some (.lst ys)->Pv i σ' H' ys->aW K H' a xs)
  (aA : ∀ i x σ' H' ys (R:St->V->aj->Prop),xs[i]?=some x->H' D=some (.lst ys)->ys.length=i->Pv i σ' H' ys->(∀ σ2 y aX,aX D=some (.lst ys)->Pv (i+1) σ2 (upd aX D (.lst (ys++[y]))) (ys++[y])->R σ2 y aX) ->
   g x σ' H' λ σ2 aH=>bc σ2 aH λ y aX=>R σ2 y aX)
  (cC : ∀ σ' H' ys,H' D=some (.lst ys)->ys.length=xs.length->Pv xs.length σ' H' ys->Q (.ref D) H'):gJ (nA K a) D js g iy bc σ H1 Q :=
 q0 aC Pv h0 (λ i σ' H' ys ax aY p=>⟨xs,xs[i],au i σ' H' ys (by omega) aY p,List.getElem?_eq_getElem ax⟩)
  (λ σ' H' ys aY b c=>⟨⟨xs,au _ σ' H' ys (Nat.le_refl _) aY c,Nat.le_refl _⟩,cC σ' H' ys aY b c⟩) λ i σ' H' ys x aw R ax aY b c ⟨aE,aI⟩=>by
  subst aE;exact aA i x σ' aw ys R (aI xs (au i σ' aw ys (by omega) aY c)) aY b c
end
theorem a4.wx {K:PySem.W.Frag} {H:aj} {a D:Addr} {xs:List V} {o:dz} (h:a4 K H a xs) (n:H D=none):a4 K (upd H D o) a xs:=by
 rcases h with (h | ⟨u,h⟩) | h
 ·exact .inl (.inl (by rw [a3 (b2 h n)];exact h))
 ·exact .inl (.inr ⟨u,by rw [a3 (b2 h n)];exact h⟩)
 ·exact .inr h
theorem aW.wx {K:PySem.W.Frag} {H:aj} {a D:Addr} {xs:List V} {o:dz} (h:aW K H a xs) (n:H D=none):aW K (upd H D o) a xs:=by
 rcases h with (h | ⟨u,h⟩) | h
 ·exact .inl (.inl (by rw [a3 (b2 h n)];exact h))
 ·exact .inl (.inr ⟨u,by rw [a3 (b2 h n)];exact h⟩)
 ·exact .inr h
theorem pD {α β : Type} {f : α -> β} {xs:List α} {i:Nat} {x : α} (h:xs[i]?=some x):(xs.take (i+1)).map f=(xs.take i).map f++[f x]:=by
 rw [List.take_add_one,h,List.map_append];rfl
section
variable {K:PySem.W.Frag} {a D:Addr} {js:List (Option Nat)} {bc:TE} {σ:St} {H1:aj} {Q:bz}
theorem Kt {xs:List V} {o:Option V} {σ0:St} {f:V->V} (ay:pick js σ=o::σ0) (aC:xs.length<=sizeLine) (aY:H1 D=none) (cG:a4 K H1 a xs)
  (aA : ∀ (x:V) (H':aj) (R:bz),x∈xs->R (f x) H'->bc (some x::σ0) H' R) (q:Q (.ref D) (upd H1 D (.lst (xs.map f)))):gJ (mm K a) D js (fO 0) iy bc σ H1 Q:=by
 refine IM (xs:=xs) aC (λ i σ' H' ys=>(∃ u,σ'=u::σ0)/\ys=(xs.take i).map f/\H'=upd H1 D (.lst ys)) ⟨⟨o,ay⟩,rfl,rfl⟩ ?_ ?_ ?_
 ·rintro i σ' H' ys _ _ ⟨_,rfl,rfl⟩;exact cG.wx aY
 ·rintro i x σ' H' ys R ah _ _ ⟨⟨u,rfl⟩,rfl,rfl⟩ k;refine aA x _ _ (List.mem_of_getElem? ah) (k _ _ _ br ⟨⟨_,rfl⟩,(pD ah).symm,AX⟩)
 ·rintro σ' H' ys _ _ ⟨_,rfl,rfl⟩;rw [List.take_length];exact q
theorem J_ {xs:List V} {o:Option V} {σ0:St} {f:V->V} (ay:pick js σ=o::σ0) (aC:xs.length<=sizeLine) (aY:H1 D=none) (cG:aW K H1 a xs)
  (aA : ∀ (x:V) (H':aj) (R:bz),x∈xs->R (f x) H'->bc (some x::σ0) H' R) (q:Q (.ref D) (upd H1 D (.lst (xs.map f)))):gJ (nA K a) D js (fO 0) iy bc σ H1 Q:=by
 refine qS (xs:=xs) aC (λ i σ' H' ys=>(∃ u,σ'=u::σ0)/\ys=(xs.take i).map f/\H'=upd H1 D (.lst ys)) ⟨⟨o,ay⟩,rfl,rfl⟩ ?_ ?_ ?_
 ·rintro i σ' H' ys _ _ ⟨_,rfl,rfl⟩;exact cG.wx aY
 ·rintro i x σ' H' ys R ah _ _ ⟨⟨u,rfl⟩,rfl,rfl⟩ k;refine aA x _ _ (List.mem_of_getElem? ah) (k _ _ _ br ⟨⟨_,rfl⟩,(pD ah).symm,AX⟩)
 ·rintro σ' H' ys _ _ ⟨_,rfl,rfl⟩;rw [List.take_length];exact q
end
theorem qX {c:TT} {bo:cX} {D:Ends} {σ:St} {H:aj} (Pv:St->aj->Prop) (μ : St->aj->Nat) (h0:Pv σ H)
  (aA : ∀ σ H,Pv σ H->c σ H λ b H1=>if b=true then ∃ N:St->aj->Prop,(∀ σ' H',N σ' H' -> ∃ cu,cu < μ σ H/\cu = μ σ' H'/\Pv σ' H')/\bo { D with bl:=N,b1:=N,dY:=D.bl } σ H1 else D.bl σ H1):Ar c bo D σ H :=
 ⟨λ m σ H=>m = μ σ H/\Pv σ H,⟨_,rfl,h0⟩,λ m σ H ⟨e,p⟩=>by subst e;exact aA σ H p⟩
theorem sS {bo:cX} {D:Ends} {σ:St} {H1:aj} {m:Nat} {Pv:St->aj->Prop} {μ : St->aj->Nat} (h:bo { D with bl:=λ σ' H'=>Pv σ' H' /\ μ σ' H'<m,b1:=λ σ' H'=>Pv σ' H' /\ μ σ' H'<m,dY:=D.bl } σ H1) :
  ∃ N:St->aj->Prop,(∀ σ' H',N σ' H' -> ∃ cu,cu<m/\cu = μ σ' H'/\Pv σ' H')/\bo { D with bl:=N,b1:=N,dY:=D.bl } σ H1:=⟨_,λ _ _ ⟨a,b⟩=>⟨_,b,rfl,a⟩,h⟩
theorem wb {n d:Nat} {i:Int} (h:0<=i):dw.ct n d (some i)=min i.toNat n:=by
 show (if i<0 then _ else _)=_;rw [if_neg (by omega)]
theorem HR {xs:List V} {i:Int} (h:0<=i):hU xs none (some i)=xs.take i.toNat:=by
 unfold hU;rw [wb h];show (xs.drop 0).take (min i.toNat xs.length - 0)=_;rw [List.drop_zero,Nat.sub_zero];rcases Nat.le_total i.toNat xs.length with g | g
 ·rw [Nat.min_eq_left g]
 ·rw [Nat.min_eq_right g,List.take_of_length_le (Nat.le_refl _),List.take_of_length_le g]
structure bg (X:aQ) (e:Expr) (t:TE):Prop where
 o:bK X e t
structure iH (X:aQ) (e:Expr) (t:TT):Prop where
 o:iG X e t
structure eG (X:aQ) (e:Expr) (t:TT):Prop where
 o:kZ X e t
structure ek (X:aQ) (e:List Expr) (t:cH):Prop where
 o:gB X e t
structure fR (X:aQ) (e:Stmt) (t:cX):Prop where
 o:iF X e t
structure hJ (X:aQ) (e:List Stmt) (t:cX):Prop where
 o:iR X e t
structure kd (X:aQ) (e:Expr) (t:dT):Prop where
 o:l_ X e t
structure rS (X:aQ) (e:List Expr) (t:kq):Prop where
 o:rP X e t
structure t8 (X:aQ) (e:Option Expr) (t:cA):Prop where
 o:rh X e t
structure uA (X:aQ) (e:List Expr) (t:TT):Prop where
 o:rQ X e t
structure jK (X:aQ) (bk e:Expr) (t:TI):Prop where
 o:kb X bk e t
theorem ae (i:Nat) {x:Str} {pos:Pos} (c8:X.N[i]?=some x:=by rfl) (a7:uG X.env.scope x:=by first | exact Or.inl rfl | exact Or.inr (Or.inl rfl) | exact Or.inr (Or.inr rfl)) (hd:(x == ("__debug__" : Str))=false:=by decide) (hn:(x == ("__classdict__" : Str))=false:=by decide):bg X (.Name x pos) (zS i) :=
 ⟨fE i c8 a7 hd hn⟩
theorem aV {i j pos}:bg X (.Constant (.int i) j pos) (gR (.int i)) :=
 ⟨R1 ⟩
theorem i7 {b j pos}:bg X (.Constant (.bool b) j pos) (gR (.ba b)) :=
 ⟨Q8 ⟩
theorem iq {j pos}:bg X (.Constant .none j pos) (gR .bp) :=
 ⟨GB ⟩
theorem cF {x j pos}:bg X (.Constant (.str x) j pos) (gR (.str x)) :=
 ⟨R5 ⟩
theorem ps {x:Str} {v:V} {u:Value} {pos:Pos} (aM:c1 X x) (hm:X.mg x=some u) (r:RelV v u) (hd:(x == ("__debug__" : Str))=false:=by decide):bg X (.Name x pos) (gR v) :=
 ⟨AH aM hm r hd⟩
theorem j8 {X:aQ} {x:Str} {i:Int} {pos:Pos} (aM:c1 X x) (hm : ∃ t,X.mg x=some (.int i t)) (hd:(x == ("__debug__" : Str))=false:=by decide):bg X (.Name x pos) (gR (.int i)) :=
 ⟨Vz aM hm hd⟩
theorem Bb {X:aQ} {x:Str} {i:Str} {pos:Pos} (aM:c1 X x) (hm : ∃ t,X.mg x=some (.str i t)) (hd:(x == ("__debug__" : Str))=false:=by decide):bg X (.Name x pos) (gR (.str i)) :=
 ⟨VA aM hm hd⟩
theorem lN {X:aQ} {x:Str} {T:String} {pos:Pos} (aM:c1 X x) (hm:X.mg x=none) (a7:bootBuiltins x=some (.type T)) (aC:x ≠ "__name__" := by decide) (hd:(x == ("__debug__" : Str))=false:=by decide):bg X (.Name x pos) (gR (.ty T)) :=
 ⟨Rb aM hm a7 aC hd⟩
theorem bU {a:Expr} {b:Expr} {op:Operator} {r:e1} (aO:dx X (binaryOp op) r) (av:bg X a aS) (aa:bg X b bo):bg X (.BinOp a op b pos) (nQ r aS bo) :=
 ⟨Q_ aO av.o aa.o⟩
theorem z9 {a:Expr} {op:UnaryOp} {r:V->aj->bz->Prop} (aO:uF X (unaryOp op) r) (av:bg X a aS):bg X (.UnaryOp op a pos) (EO r aS) :=
 ⟨Rc aO av.o⟩
theorem GC {rest:List Expr} {a:Expr} {b:Expr} (av:bg X a aS) (aa:bg X (.BoolOp .And (b::rest) pos) bo):bg X (.BoolOp .And (a::b::rest) pos) (F7 aS bo) :=
 ⟨RZ av.o aa.o⟩
theorem Rh {rest:List Expr} {a:Expr} {b:Expr} (av:bg X a aS) (aa:bg X (.BoolOp .Or (b::rest) pos) bo):bg X (.BoolOp .Or (a::b::rest) pos) (FH aS bo) :=
 ⟨Ra av.o aa.o⟩
theorem Ah {a:Expr} {op} {t:TE} (h:bg X a t):bg X (.BoolOp op [a] pos) t :=
 ⟨R4 h.o⟩
theorem Sq {a:Expr} (av:bg X a aS):bg X (.UnaryOp .Not a pos) (Gd aS) :=
 ⟨R3 av.o⟩
theorem VT {a:Expr} {b:Expr} {c:Expr} (ao:iH X c fo) (av:bg X a aS) (aa:bg X b bo):bg X (.IfExp c a b pos) (EL fo aS bo) :=
 ⟨VB ao.o av.o aa.o⟩
theorem m9 {a:Expr} {b:Expr} {op:CmpOp} {r:e1} (aO:dx X (compareOp op) r) (av:bg X a aS) (aa:bg X b bo) (hm:behindInMarks op b=false):bg X (.Compare a [op] [b] pos) (nQ r aS bo) :=
 ⟨Tz aO av.o aa.o hm⟩
theorem GG {eJ} (h:ek X es t):bg X (.Tuple es eJ pos) (FK t) :=
 ⟨R6 h.o⟩
theorem v_ (h:ek X es t):bg X (.List es pos) (FF t) :=
 ⟨R2 h.o⟩
theorem cQ {a:Expr} {b:Expr} {r:e1} (ar:rM X r) (av:bg X a aS) (aa:bg X b bo) (aA:GQ b):bg X (.Subscript a b pos) (nQ r aS bo) :=
 ⟨Q9 ar av.o aa.o aA⟩
theorem wB {lo:Option Expr} {ax:Option Expr} {e:Expr} {r:V->Option Int->Option Int->aj->bz->Prop} (ar:lj X r) (he:bg X e bc) (au:t8 X lo dq) (b_:t8 X ax pV):bg X (.Subscript e (.Slice lo ax none cR) pos) (EN r bc dq pV) :=
 ⟨VE ar he.o au.o b_.o⟩
theorem T4 {e:Expr} (F:d3 X.prog X.w X.K X.mg X.base cc k f fd ag sp) (ar:c_ k X.A) (aM:c1 X x) (hm:X.mg x=some (.ref f)) (aB:PySem.W.keepIn X.K (.ref f)=true) (aa:Binds X.K fd ag ds) (hd:Vals dC ds) (ah:Passes cc X E) (av:ek X (e::es) t) (dj:(x == ("__debug__" : Str))=false:=by decide) (he:starEach (e::es) X.env=(false,eval e X.env)::starEach es X.env:=by rfl) (cW:(backTo pos (starEach es X.env)).any (·.1)=false:=by rfl):bg X (.Call (.Name x p) (e::es) [] pos) (pk sp dC E t) :=
 ⟨Tx F ar aM hm aB aa hd ah av.o dj he cW⟩
theorem VO (F:d3 X.prog X.w X.K X.mg X.base cc k f fd ag sp) (ar:c_ k X.A) (aM:c1 X x) (hm:X.mg x=some (.ref f)) (aB:PySem.W.keepIn X.K (.ref f)=true) (aa:Binds X.K fd ag ds) (hd:Vals dC ds) (ah:Passes cc X E) (dj:(x == ("__debug__" : Str))=false:=by decide):bg X (.Call (.Name x p) [] [] pos) (pk sp dC E kM) :=
 ⟨Vw F ar aM hm aB aa hd ah dj⟩
theorem VP {id:String} {e:Expr} (ao:eN X (.builtin id) r) (aM:c1 X x) (hm:X.mg x=none) (a7:bootBuiltins x=some (.builtin id)) (av:ek X (e::es) t) (aC:x ≠ "__name__" := by decide) (dj:(x == ("__debug__" : Str))=false:=by decide) (he:starEach (e::es) X.env=(false,eval e X.env)::starEach es X.env:=by rfl) (cW:(backTo pos (starEach es X.env)).any (·.1)=false:=by rfl):bg X (.Call (.Name x p) (e::es) [] pos) (qi r t) :=
 ⟨Vx ao aM hm a7 av.o aC dj he cW⟩
theorem Xh {e:Expr} (ao:eN X (.type T) r) (aM:c1 X x) (hm:X.mg x=none) (a7:bootBuiltins x=some (.type T)) (av:ek X (e::es) t) (aC:x ≠ "__name__" := by decide) (dj:(x == ("__debug__" : Str))=false:=by decide) (he:starEach (e::es) X.env=(false,eval e X.env)::starEach es X.env:=by rfl) (cW:(backTo pos (starEach es X.env)).any (·.1)=false:=by rfl):bg X (.Call (.Name x p) (e::es) [] pos) (qi r t) :=
 ⟨Xa ao aM hm a7 av.o aC dj he cW⟩
theorem g4 {id:String} {e:Expr} {o:Expr} (fU:PlainAttrs T) (slot:Slot T name id) (su:typeOf (.builtin id)=pure (.type "method_descriptor")) (hm:nB X id r) (aO:bg X o to) (av:ek X (e::es) t) (hv:attributeBase o name X.env (eval o X.env)=eval o X.env:=by rfl) (kK:((backTo cK (starEach (e::es) X.env)).all (λ x => !x.1)&&(backToKw cK (keywordEach [] X.env)).all (λ x=>x.1.isSome)
   && decide ((e::es).length+([]:List Keyword).length+(if ([]:List Keyword).isEmpty then 0 else 1)<30))=true:=by rfl) (kP:(apos.endLine == cK.line)=true:=by rfl) (aA:starEach (e::es) X.env=(false,eval e X.env)::starEach es X.env:=by rfl) (m4:(backTo cK (starEach es X.env)).any (·.1)=false:=by rfl):bg X (.Call (.Attribute o name apos) (e::es) [] cK) (zr X.K T r to t) :=
 ⟨F2 fU slot su hm aO.o av.o hv kK kP aA m4⟩
theorem bO {a:Expr} {b:Expr} {op:CmpOp} {r:e1} (aO:dx X (compareOp op) r) (av:bg X a aS) (aa:bg X b bo) (hm:behindInMarks op b=false):iH X (.Compare a [op] [b] pos) (Gf (nQ r aS bo)) :=
 ⟨TY aO av.o aa.o hm⟩
theorem gz {a:Expr} (av:iH X a fo):iH X (.UnaryOp .Not a pos) (FG fo) :=
 ⟨Sj av.o⟩
theorem f3 {e:Expr} {t:TE} (h:bg X e t) (he : ∀ whole,isTrue e X.env whole=(do let v ← whole;standAt e.pos;holding [v] (truthy v)):=by intro _;rfl):iH X e (oC t) :=
 ⟨Sk h.o he⟩
theorem Ak {rest:List Expr} {a:Expr} {b:Expr} (av:iH X a fo) (aa:eG X (.BoolOp .And (b::rest) pos) ju):eG X (.BoolOp .And (a::b::rest) pos) (FA fo ju) :=
 ⟨Sn av.o aa.o⟩
theorem AK {a:Expr} (av:iH X a fo):eG X (.BoolOp .And [a] pos) fo :=
 ⟨T3 av.o⟩
theorem fY {rest:List Expr} {a:Expr} {b:Expr} (av:iH X a fo) (aa:eG X (.BoolOp .Or (b::rest) pos) ju):eG X (.BoolOp .Or (a::b::rest) pos) (EM fo ju) :=
 ⟨Rf av.o aa.o⟩
theorem hz {a:Expr} (av:iH X a fo):eG X (.BoolOp .Or [a] pos) fo :=
 ⟨So av.o⟩
theorem az  : ek X [] kM :=
 ⟨RY ⟩
theorem ai {X:aQ} {e:Expr} {es:List Expr} {bc:TE} {t:cH} (av:bg X e bc) (ar:ek X es t) (h:noStar e=true:=by rfl):ek X (e::es) (vV bc t) :=
 ⟨QB av.o ar.o h⟩
theorem wm  : t8 X none Hz :=
 ⟨TM ⟩
theorem wo {e:Expr} (h:bg X e bc):t8 X (some e) (Ge bc) :=
 ⟨TN h.o⟩
theorem ob {l:Expr} {dq:TE} (au:bg X l dq):jK X bk l (FX X.K dq) :=
 ⟨TL au.o⟩
theorem lV {l:Expr} {dq:TE} (au:bg X l dq):jK X bk l (Fl X.K dq) :=
 ⟨Sa au.o⟩
theorem jb {a:Expr} {aS:cH} {p pos:Pos} (aM:c1 X "range") (hm:X.mg "range" = none) (av:ek X [a] aS) (aA:starEach [a] X.env=[(false,eval a X.env)]:=by rfl) (ed:X.calm=true:=by rfl):jK X bk (.Call (.Name "range" p) [a] [] pos) (FY aS) :=
 ⟨Xb aM hm av.o aA ed⟩
theorem qJ {aE aI:Expr} {aS:cH} {p pos:Pos} (gg:kU bk=true) (aM:c1 X "zip") (hm:X.mg "zip" = none) (av:ek X [aE,aI] aS) (aA:starEach [aE,aI] X.env=[(false,eval aE X.env),(false,eval aI X.env)]:=by rfl) (fu:starEach [aI] X.env=[(false,eval aI X.env)]:=by rfl) (aa:bootBuiltins "zip" = some (.type "zip"):=by decide +kernel):jK X bk (.Call (.Name "zip" p) [aE,aI] [] pos) (Fm X.K aS) :=
 ⟨Sb gg aM hm av.o aA fu aa⟩
theorem l1 {i:Nat} {x:Str} (c8:X.N.Nodup) (ax:X.N[i]?=some x) (ah:Loc X.env.scope x) (hf:X.fn x=true\/X.env.scope.names.lookup x=some .local:=by first | exact .inl rfl | exact .inr rfl | assumption):kd X (.Name x pos) (fO i) :=
 ⟨TH c8 ax ah hf⟩
theorem pq {es:List Expr} {k:Nat} {t:kq} {n:Nat} (ao:X.warm=true) (h:rS X es t) (aC:(assignEach es X.env).length=n:=by rfl) (cC:(assignEach es X.env).findIdx? (·.1)=none:=by rfl):kd X (.Tuple es k pos) (pb X.K n t) :=
 ⟨R9 ao h.o aC cC⟩
theorem qI {o i:Expr} {to h3:TE} {t:qm} (aO:bg X o to) (ax:bg X i h3) (aA:vm X t) (av : ∀ v,assign (.Subscript o i pos) X.env v=(do
   let cO ← holding [v] (eval o X.env)
   let dg ← holding [v,cO] (eval i X.env)
   standAt pos
   holding [v,cO,dg] (setItem cO dg v)
   release [v,cO,dg] []):=by intro _;rfl):kd X (.Subscript o i pos) (E7 to h3 t) :=
 ⟨R8 aO.o ax.o aA av⟩
theorem ja  : rS X [] qp :=
 ⟨TJ ⟩
theorem eE {e:Expr} {es:List Expr} {t:dT} {u:kq} (af:kd X e t) (aq:rS X es u) (aA:(assignEach (e::es) X.env).map (·.2)=assign e X.env::(assignEach es X.env).map (·.2):=by rfl):rS X (e::es) (lL t u) :=
 ⟨VF af.o aq.o aA⟩
theorem tm {i:Nat} {x:Str} {e:Expr} {bc:TE} {pos':Pos} (c8:X.N.Nodup) (ax:X.N[i]?=some x) (ah:Loc X.env.scope x) (he:bg X e bc) (aA:swapsWith e (some (.Name x pos')) pos.line X.env=pure false:=by rfl) (hf:X.fn x=true\/X.env.scope.names.lookup x=some .local:=by first | exact .inl rfl | exact .inr rfl | assumption):fR X (.Assign [.Name x pos'] e pos) (pe bc (fO i)) :=
 ⟨Si c8 ax ah he.o aA hf⟩
theorem qK {bk e:Expr} {bc:TE} {g:dT} (he:bg X e bc) (aM:kd X bk g) (aA:swapsWithSole [bk] e pos.line X.env=pure false:=by rfl) (hw:swappedStores [bk] e X.env=pure none:=by rfl) (af:(assignEach [bk] X.env).map (·.2)=[assign bk X.env]:=by rfl):fR X (.Assign [bk] e pos) (pe bc g) :=
 ⟨Se he.o aM.o aA hw af⟩
theorem bx {e:Expr} (he:bg X e bc):fR X (.Return (some e) pos) (FI bc) :=
 ⟨Sh he.o⟩
theorem hB {e:Expr} (he:bg X e bc) (aA:swapsWith e none pos.line X.env=pure false:=by rfl):fR X (.Expr e pos) (F9 bc) :=
 ⟨TS he.o aA⟩
theorem b7 {c:Expr} {a b:List Stmt} {cT:TT} (ao:iH X c cT) (av:hJ X a t) (aa:hJ X b u):fR X (.If c a b pos) (FE cT t u) :=
 ⟨Rd ao.o av.o aa.o⟩
theorem qT {c:Expr} {body:List Stmt} {cT:TT} {bo:cX} (ay:PassesOwn (model X.prog X.w) X.A X.env X.cB) (ao:iH X c cT) (aa:hJ X body bo):fR X (.While c body [] pos) (Ar cT bo) :=
 ⟨VJ ay ao.o aa.o⟩
theorem fZ {iter:Expr} {body:List Stmt} {e2:TI} {g:dT} {bo:cX} {pos:Pos} (ay:PassesOwn (model X.prog X.w) X.A X.env X.cB) (ao:X.warm=true) (ax:jK X bk iter e2) (aM:kd X bk g) (aa:hJ X body bo) (aA : ∀ x,foldedSetIterable iter X.env x=pure x:=by intro _;rfl):fR X (.For bk iter body [] pos) (FD e2 g bo) :=
 ⟨Sg ay ao ax.o aM.o aa.o aA⟩
theorem b8  : hJ X [] Gb :=
 ⟨TV ⟩
theorem aP {st:Stmt} (af:fR X st t):hJ X [st] t :=
 ⟨TX af.o⟩
theorem aK {rest:List Stmt} {st:Stmt} (af:fR X st t) (aq:hJ X rest u):hJ X (st::rest) (FJ t u) :=
 ⟨VK af.o aq.o⟩
theorem fz {X:aQ}:uA X [] iy :=
 ⟨TZ ⟩
theorem AJ {X:aQ} {c:Expr} {t:TT} (ao:iH X c t):uA X [c] t :=
 ⟨T1 ao.o⟩
theorem eG.pt {X:aQ} {e:Expr} {t:TT} (h:eG X e t):iH X e t :=
 ⟨kZ.pt h.o⟩
theorem fP {X:aQ} {elt bk iter:Expr} {cs:List Expr} {scope:Scope} {pos:Pos} {cl:List (Str×Addr)} {N:List Str} {js:List (Option Nat)} {e2:TI} {g:dT} {cT:TT} {bc:TE}
  (C:qG X scope cl N js) (ao:X.warm=true) (ax:jK X bk iter e2)
  (aM : ∀ bh pins s H,kd (el X scope cl N bh pins s H λ _ _=>False) bk g)
  (aZ : ∀ bh pins s H,uA (el X scope cl N bh pins s H λ _ _=>False) cs cT)
  (he : ∀ bh pins s H,bg (el X scope cl N bh pins s H λ _ _=>False) elt bc)
  (aA : ∀ x,foldedSetIterable iter X.env x=pure x:=by intro _;rfl):bg X (.ListComp elt [⟨bk,iter,cs,0⟩] scope pos) (vU js e2 g cT bc) :=
 ⟨TA C ao ax.o (λ a b c d=>(aM a b c d).o) (λ a b c d=>(aZ a b c d).o) (λ a b c d=>(he a b c d).o) aA⟩
theorem hI.cD {P:Program} {w:World} {K:PySem.W.Frag} {mg:Str->Option Value} {base:Heap} {x qual:Str} {st:Stmt} {f:Addr} {fd:FuncData} {N ag:List Str} {k:Nat} {sp:bF} (F:hI K x qual st f fd) (S:bQ N ag (bA st)) (len : ∀ vs H Q E,sp vs H Q E->vs.length=ag.length)
  (m1 : ∀ (a5:Value) (A:Around) (outer:List Env) (s:Shared) (H:aj) (vs:List V) (Q:bz) (E:dF),c_ k (A.deeper (envOfC qual (bA st) s.heap.objs.size f a5))->sp vs H Q E ->
   ∃ t,hJ (kJ bX P w K mg base N qual (bA st) f a5 A outer s H E).sH (hA st) t/\t { bl:=λ _ H'=>Q .bp H',me:=Q } (start N vs) H):d3 P w K mg base bX (k+1) f fd ag sp :=
 F.ok S len λ a5 A outer s H vs Q E ar h=>let ⟨t,a,b⟩:=m1 a5 A outer s H vs Q E ar h;⟨t,a.o,b⟩
theorem dx.imp {X:aQ} {f:Value->Value->Sem Value} {r bY:e1} (h:dx X f r) (i : ∀ x y H Q,bY x y H Q->r x y H Q):dx X f bY:=λ pins s σ H x y v u Q I aT bb z=>h pins s σ H x y v u Q I aT bb (i x y H Q z)
theorem eN.imp {X:aQ} {f:Value} {r bY:List V->aj->bz->Prop} (h:eN X f r) (i : ∀ xs H Q,bY xs H Q->r xs H Q):eN X f bY:=λ pins s σ H xs us Q I aT z=>h pins s σ H xs us Q I aT (i xs H Q z)
theorem p4.imp {X:aQ} {id:String} {r bY:V->List V->aj->bz->Prop} (h:p4 X id r) (i : ∀ x xs H Q,bY x xs H Q->r x xs H Q):p4 X id bY:=λ pins s σ H x xs v us Q I aT rs z=>h pins s σ H x xs v us Q I aT rs (i x xs H Q z)
noncomputable def gY (o:dz) (H:aj) (Q:bz):Prop := ∀ p H',H p=none->aD H H'->H' p=some o->Q (.ref p) H'
theorem gY.at {o:dz} {H:aj} {Q:bz} (q:gY o H Q) : ∀ p,H p=none->Q (.ref p) (upd H p o):=λ p ay=>q p _ ay (b9.aD.new ay) br
noncomputable def Rp (t:cH):TE:=λ σ H Q=>t σ H λ xs H1=>xs.length<=sizeLine/\gY (.tup xs) H1 Q
noncomputable def Rm (t:cH):TE:=λ σ H Q=>t σ H λ xs H1=>xs.length<=sizeLine/\gY (.lst xs) H1 Q
noncomputable def SK:TE:=λ _ H Q=>gY (.cM []) H Q
section
variable {X:aQ}
theorem j7 {es:List Expr} {t:cH} {eJ} {pos:Pos} (h:ek X es t):bg X (.Tuple es eJ pos) (Rp t):=⟨by
 intro pins s σ H Q I aR;refine wpAny_Tuple_spliced (a_ (h.o pos pins s σ H _ I aR) λ us s1 ⟨xs,H1,aJ,r,z,q⟩=>⟨by rw [<-r.length];exact z,?_⟩);have hf:H1 s1.heap.objs.size=none:=aJ.a0.fresh (Nat.le_refl _);refine ⟨.ref s1.heap.objs.size,upd H1 s1.heap.objs.size (.tup xs),aJ.laid (t':=s1.toks) (λ b u e=>Heap.get?_push_of_some _ e) (Nat.le_refl _) ?_,rfl,q.at _ hf⟩;exact ⟨z,us,r,⟨_,Heap.get?_push_size _ rfl,rfl,⟨_,rfl⟩,rfl⟩⟩⟩
theorem l0 {es:List Expr} {t:cH} {pos:Pos} (h:ek X es t):bg X (.List es pos) (Rm t):=⟨by
 intro pins s σ H Q I aR;refine wpAny_List_spliced (a_ (h.o pos pins s σ H _ I aR) λ us s1 ⟨xs,H1,aJ,r,z,q⟩=>⟨by rw [<-r.length];exact z,?_⟩);have hf:H1 s1.heap.objs.size=none:=aJ.a0.fresh (Nat.le_refl _);refine ⟨.ref s1.heap.objs.size,upd H1 s1.heap.objs.size (.lst xs),aJ.laid (t':=s1.toks) (λ b u e=>Heap.get?_push_of_some _ e) (Nat.le_refl _) ?_,rfl,q.at _ hf⟩;exact ⟨z,us,0,r,Heap.get?_push_size _ rfl⟩⟩
theorem H_ {pos:Pos}:bg X (.Dict [] [] pos) SK:=⟨λ pins s σ H Q I h=>TB pins s σ H Q I (gY.at h)⟩
noncomputable def Sr:e1:=λ x y H Q => ∃ l b xs zs,x=.ref l/\y=.ref b/\H l=some (.lst xs)/\H b=some (.lst zs)/\xs.length+zs.length<=sizeLine/\gY (.lst (xs++zs)) H Q
theorem Vt:dx X (binaryOp .Add) Sr:=RW.imp λ x y H Q ⟨l,b,xs,zs,aE,aI,af,aq,aF,q⟩=>⟨l,b,xs,zs,aE,aI,af,aq,aF,q.at⟩
noncomputable def Sx:e1:=λ x y H Q => ∃ l k xs,x=.ref l/\y=.int k/\H l=some (.tup xs)/\xs≠[]/\2<=k/\k<2 ^ 63/\xs.length * k.toNat<=sizeLine/\gY (.tup (List.replicate k.toNat xs).flatten) H Q
theorem Vv:dx X (binaryOp .Mult) Sx:=Tu.imp λ x y H Q ⟨l,k,xs,aE,aI,af,aq,aF,aU,bW,q⟩=>⟨l,k,xs,aE,aI,af,aq,aF,aU,bW,q.at⟩
noncomputable def Sw:e1:=λ x y H Q => ∃ l k xs,x=.ref l/\y=.int k/\H l=some (.lst xs) /\ -(2 ^ 63)<=k/\k<2 ^ 63/\xs.length * k.toNat<=sizeLine/\gY (.lst (List.replicate k.toNat xs).flatten) H Q
theorem H6:dx X (binaryOp .Mult) Sw:=GA.imp λ x y H Q ⟨l,k,xs,aE,aI,af,aq,aF,aU,q⟩=>⟨l,k,xs,aE,aI,af,aq,aF,aU,q.at⟩
theorem pE:eN X (.type "tuple") (λ xs H Q => ∃ p ys,xs=[.ref p]/\a4 X.K H p ys/\gY (.tup ys) H Q):=tQ.imp λ xs H Q ⟨p,ys,e,h,q⟩=>⟨p,ys,e,.inl ⟨h,q.at⟩⟩
noncomputable def VX:V->List V->aj->bz->Prop:=λ x vs H Q => ∃ l xs y,x=.ref l/\vs=[y]/\H l=some (.lst xs)/\xs.length<sizeLine /\ ∀ H',b9.b3 l H H'->H' l=some (.lst (xs++[y]))->Q .bp H'
theorem q2:p4 X "list.append" VX:=BB.imp λ x vs H Q ⟨l,xs,y,aE,aI,af,aq,q⟩=>⟨l,xs,y,aE,aI,af,aq,q _ b9.b3.upd br⟩
end
end bC
namespace b9
open PySem bC
noncomputable def j1 (H H':aj):Prop := ∀ b o,H b=some o->H' b=some o \/ ∃ xs ys,o=.lst xs/\H' b=some (.lst ys)
theorem j1.of {H H':aj} (s:aD H H'):j1 H H':=λ b o h=>.inl (s b o h)
theorem j1.tup {H H':aj} (k:j1 H H') {b:Addr} {xs:List V} (h:H b=some (.tup xs)):H' b=some (.tup xs):=by
 rcases k b _ h with z | ⟨_,_,e,_⟩
 ·exact z
 ·cases e
theorem j1.kind {H H':aj} (s:j1 H H') {v:V} (k:gy H v):gy H' v:=by
 cases v with
 | ref a =>
  rcases (show (∃ xs,H a=some (.tup xs))\/(∃ xs,H a=some (.lst xs))\/(∃ kvs,H a=some (.cM kvs)) from k) with ⟨xs,e⟩ | ⟨xs,e⟩ | ⟨kvs,e⟩
  ·exact .inl ⟨xs,s.tup e⟩
  ·rcases s _ _ e with z | ⟨_,ys,_,z⟩
   ·exact .inr (.inl ⟨xs,z⟩)
   ·exact .inr (.inl ⟨ys,z⟩)
  ·rcases s _ _ e with z | ⟨_,ys,w,z⟩
   ·exact .inr (.inr ⟨kvs,z⟩)
   ·cases w
 | bp=>trivial
 | ba b=>trivial
 | int i=>trivial
 | str x=>trivial
 | iT b=>exact False.elim k
 | mx b=>exact False.elim k
 | ty b=>exact False.elim k
theorem j1.gs {H H':aj} (s:j1 H H') {v:V} (k:gy H v):b9.gs H' v=b9.gs H v:=by
 cases v with
 | ref a =>
  rcases (show (∃ xs,H a=some (.tup xs))\/(∃ xs,H a=some (.lst xs))\/(∃ kvs,H a=some (.cM kvs)) from k) with ⟨xs,e⟩ | ⟨xs,e⟩ | ⟨kvs,e⟩
  ·show kN (H' a)=kN (H a);rw [s.tup e,e]
  ·show kN (H' a)=kN (H a);rcases s _ _ e with z | ⟨_,ys,_,z⟩<;>rw [z,e]<;>rfl
  ·show kN (H' a)=kN (H a);rcases s _ _ e with z | ⟨_,ys,w,z⟩
   ·rw [z,e]
   ·cases w
 | _=>rfl
noncomputable def jw (H:aj) (v:V):Prop:=gy H v /\ ∀ xs,gs H v=some xs->xs.length<=1000 /\ ∀ x∈xs,gy H x
noncomputable def zt (H:aj) (v:V):Prop:=gy H v /\ ∀ xs,gs H v=some xs->xs.length<=1000 /\ ∀ x∈xs,jw H x
theorem j1.jw {H H':aj} (s:j1 H H') {v:V} (k:b9.jw H v):b9.jw H' v:=by
 obtain ⟨k,bZ⟩:=k;refine ⟨s.kind k,λ xs e=>?_⟩;rw [s.gs k] at e;obtain ⟨l,m⟩:=bZ xs e;exact ⟨l,λ x ah=>s.kind (m x ah)⟩
section
variable {H:aj} {p:Addr} {xs:List V}
theorem H0 (h:H p=some (.tup xs)):gy H (.ref p):=.inl ⟨xs,h⟩
theorem HF (h:H p=some (.tup xs)) (l:xs.length<=1000) (m : ∀ x∈xs,gy H x):jw H (.ref p):=⟨H0 h,λ ys e=>by rw [qL h] at e;cases e;exact ⟨l,m⟩⟩
theorem UD (h:H p=some (.tup xs)) (l:xs.length<=1000) (m : ∀ x∈xs,jw H x):zt H (.ref p):=⟨H0 h,λ ys e=>by rw [qL h] at e;cases e;exact ⟨l,m⟩⟩
theorem all2 {α : Type} {p : α -> Prop} {x y : α} (a:p x) (b:p y) : ∀ z∈[x,y],p z:=List.forall_mem_cons.mpr ⟨a,List.forall_mem_cons.mpr ⟨b,List.forall_mem_nil _⟩⟩
end
end b9
namespace bC
open PySem PySem.Spec PyProof.Rows
section
variable {κ : Type} [DecidableEq κ]
noncomputable def cE (kvs:List (κ × V)) (k : κ):Option V:=(kvs.find? λ dH=>decide (dH.1=k)).map (·.2)
noncomputable def putK (kvs:List (κ × V)) (k : κ) (v:V):List (κ × V) :=
 if (kvs.any λ dH=>decide (dH.1=k))=true then kvs.map (λ dH=>if dH.1=k then (dH.1,v) else dH) else kvs++[(k,v)]
noncomputable def qz (kvs:List (κ × V)) (k : κ):List (κ × V):=kvs.filter λ dH=>decide (dH.1≠k)
theorem jF {p : κ × V} {r:List (κ × V)} {k : κ} (e:p.1=k):cE (p::r) k=some p.2:=by simp [cE,List.find?_cons,e]
theorem kX {p : κ × V} {r:List (κ × V)} {k : κ} (e : ¬ p.1=k):cE (p::r) k=cE r k:=by simp [cE,List.find?_cons,e]
theorem tx (k : κ) : ∀ kvs:List (κ × V),(kvs.any λ dH=>decide (dH.1=k))=(cE kvs k).isSome
 | []=>rfl
 | p::r=>by
  rw [List.any_cons];by_cases e:p.1=k
  ·simp only [jF e,decide_eq_true e,Bool.true_or,Option.isSome_some]
  ·rw [kX e,decide_eq_false e,Bool.false_or];exact tx k r
theorem Io (k j : κ) (y:V) : ∀ kvs:List (κ × V),cE (kvs.map λ dH=>if dH.1=k then (dH.1,y) else dH) j=(cE kvs j).map λ x=>if j=k then y else x
 | []=>rfl
 | p::r=>by
  have cI:=Io k j y r;rw [List.map_cons];by_cases h:p.1=k
  ·rw [if_pos h];by_cases e:p.1=j
   ·rw [jF (p:=(p.1,y)) e,jF e,Option.map_some,if_pos (e.symm.trans h)]
   ·rw [kX (p:=(p.1,y)) e,kX e,cI]
  ·rw [if_neg h];by_cases e:p.1=j
   ·rw [jF (p:=p) e,jF e,Option.map_some,if_neg (λ z=>h (e.trans z))]
   ·rw [kX (p:=p) e,kX e,cI]
theorem Jd (k j : κ) (y:V) : ∀ kvs:List (κ × V),cE kvs k=none->cE (kvs++[(k,y)]) j=if j=k then some y else cE kvs j
 | [],_=>by
  by_cases e:k=j
  ·rw [if_pos e.symm];exact jF (p:=(k,y)) e
  ·rw [if_neg (λ z=>e z.symm)];exact kX (p:=(k,y)) e
 | p::r,aC=>by
  rw [List.cons_append];have aB : ¬ p.1=k:=λ z=>by rw [jF z] at aC;cases aC
  rw [kX aB] at aC;have cI:=Jd k j y r aC;by_cases e:p.1=j
  ·rw [jF e,jF e,if_neg (λ z=>aB (e.trans z))]
  ·rw [kX e,kX e,cI]
theorem wF (kvs:List (κ × V)) (k j : κ) (y:V):cE (putK kvs k y) j=if j=k then some y else cE kvs j:=by
 unfold putK;by_cases a:(kvs.any λ dH=>decide (dH.1=k))=true
 ·rw [if_pos a,Io];rw [tx] at a;by_cases e:j=k
  ·obtain ⟨x,ah⟩:=Option.isSome_iff_exists.mp a;rw [if_pos e,e,ah,Option.map_some,if_pos rfl]
  ·rw [if_neg e];cases cE kvs j with
   | none=>rfl
   | some x=>rw [Option.map_some,if_neg e]
 ·rw [if_neg a];refine Jd k j y kvs ?_;rw [tx] at a;cases q:cE kvs k with
  | none=>rfl
  | some x=>rw [q] at a;exact (a rfl).elim
theorem Cg (kvs:List (κ × V)) (k : κ) (v:V):(putK kvs k v).length<=kvs.length+1:=by
 unfold putK;split
 ·rw [List.length_map];omega
 ·rw [List.length_append,List.length_cons,List.length_nil];omega
theorem gv.tC {o:Option V} {u:Option Value} (r:gv o u):o.isSome=u.isSome:=by
 cases o with
 | none=>cases u with
  | none=>rfl
  | some _=>exact (show False from r).elim
 | some _=>cases u with
  | none=>exact (show False from r).elim
  | some _=>rfl
theorem gv.getD {o:Option V} {u:Option Value} {d:V} {d':Value} (r:gv o u) (LS:RelV d d'):RelV (o.getD d) (u.getD d'):=by
 cases o with
 | none=>cases u with
  | none=>exact LS
  | some _=>exact (show False from r).elim
 | some _=>cases u with
  | none=>exact (show False from r).elim
  | some _=>exact r
theorem e0.val {kvs:List (κ × V)} {vs:List (κ × Value)} (r:e0 kvs vs) (k : κ):gv (cE kvs k) (valueAt vs k):=by
 unfold e0 at r
 induction r with
 | nil=>exact True.intro
 | @cons p q ag kj h t cI =>
  obtain ⟨af,aq⟩:=h;by_cases e:p.1=k
  ·have b5:q.1=k:=af.symm.trans e;have b:valueAt (q::kj) k=some q.2:=by simp [valueAt,List.find?_cons,b5]
   rw [jF e,b];exact aq
  ·have b5 : ¬ q.1=k:=λ z=>e (af.trans z)
   have b:valueAt (q::kj) k=valueAt kj k:=by simp [valueAt,List.find?_cons,b5]
   rw [kX e,b];exact cI
theorem e0.any {kvs:List (κ × V)} {vs:List (κ × Value)} (r:e0 kvs vs) (k : κ):(kvs.any λ dH=>decide (dH.1=k))=vs.any λ dH=>decide (dH.1=k):=by
 unfold e0 at r
 induction r with
 | nil=>rfl
 | cons h t cI=>rw [List.any_cons,List.any_cons,cI,h.1]
theorem e0.zR {kvs:List (κ × V)} {vs:List (κ × Value)} (r:e0 kvs vs) (k : κ) {y:V} {u:Value} (bb:RelV y u) :
  e0 (kvs.map λ dH=>if dH.1=k then (dH.1,y) else dH) (vs.map λ dH=>if dH.1=k then (dH.1,u) else dH):=by
 unfold e0 at r ⊢
 induction r with
 | nil=>exact .nil
 | @cons p q ag kj h t cI =>
  rw [List.map_cons,List.map_cons];refine .cons ?_ cI;obtain ⟨af,aq⟩:=h;by_cases e:p.1=k
  ·rw [if_pos e,if_pos (af.symm.trans e)];exact ⟨af,bb⟩
  ·rw [if_neg e,if_neg (λ z=>e (af.trans z))];exact ⟨af,aq⟩
theorem e0.put {kvs:List (κ × V)} {vs:List (κ × Value)} (r:e0 kvs vs) (k : κ) {y:V} {u:Value} (bb:RelV y u):e0 (putK kvs k y) (stored vs k u):=by
 unfold putK stored;rw [r.any k];by_cases e:(vs.any λ dH=>decide (dH.1=k))=true
 ·rw [if_pos e,if_pos e];exact r.zR k bb
 ·rw [if_neg e,if_neg e];exact Paired.snoc r ⟨rfl,bb⟩
theorem e0.drop {kvs:List (κ × V)} {vs:List (κ × Value)} (r:e0 kvs vs) (k : κ):e0 (qz kvs k) (without vs k):=by
 unfold e0 at r ⊢;unfold qz without
 induction r with
 | nil=>exact .nil
 | @cons p q ag kj h t cI =>
  obtain ⟨af,aq⟩:=h;rw [List.filter_cons,List.filter_cons];by_cases e:p.1=k
  ·have a : ¬ decide (p.1≠k)=true:=by simp [e]
   have b : ¬ decide (q.1≠k)=true:=by simp [af.symm.trans e]
   rw [if_neg a,if_neg b];exact cI
  ·have b5 : ¬ q.1=k:=λ z=>e (af.trans z)
   have a:decide (p.1≠k)=true:=by simp [e]
   have b:decide (q.1≠k)=true:=by simp [b5]
   rw [if_pos a,if_pos b];exact .cons ⟨af,aq⟩ cI
theorem e0.keys {kvs:List (κ × V)} {vs:List (κ × Value)} (r:e0 kvs vs):kvs.map (·.1)=vs.map (·.1):=by
 unfold e0 at r
 induction r with
 | nil=>rfl
 | cons h t cI=>rw [List.map_cons,List.map_cons,cI,h.1]
theorem e0.length {kvs:List (κ × V)} {vs:List (κ × Value)} (r:e0 kvs vs):kvs.length=vs.length:=Paired.length r
theorem UW (kvs:List (κ × V)) (k : κ):(qz kvs k).length<=kvs.length:=List.length_filter_le _ _
end
theorem qC {P:Program} {w:World} {k:Key} {u:Value} (r:RelV (cm k) u):(g6 P w).is k u=true:=by
 cases k with
 | inl i=>obtain ⟨t,e⟩:=(show ∃ t,u=Value.int i t from r);subst e;exact JV P w i t
 | inr x=>obtain ⟨t,e⟩:=(show ∃ t,u=Value.str x t from r);subst e;exact JW P w x t
theorem IX {P:Program} {w:World} : ∀ {ks:List Key} {us:List Value},Vals (ks.map cm) us->ItemsAre (g6 P w) ks us
 | [],_,r=>by rw [List.map_nil] at r;cases r;exact .nil
 | k::ks,_,r=>by
  rw [List.map_cons] at r;cases r with
  | cons h t=>exact .cons (qC h) (IX t)
noncomputable abbrev KT (H:aj):List (List Key×V)->List (List Key×Addr×Value)->Prop:=Paired λ p q=>p.1=q.1/\H q.2.1=some (.tup (p.1.map cm))/\RelV p.2 q.2.2
theorem KT.val {H:aj} {kvs:List (List Key×V)} {xs:List (List Key×Addr×Value)} (r:KT H kvs xs) (k:List Key):gv (cE kvs k) ((atKey xs k).map (·.2)):=by
 induction r with
 | nil=>exact True.intro
 | @cons p q ag kj h t cI =>
  obtain ⟨af,_,aq⟩:=h;by_cases e:p.1=k
  ·have b5:q.1=k:=af.symm.trans e;have b:atKey (q::kj) k=some q.2:=by simp [atKey,List.find?_cons,b5]
   rw [jF e,b];exact aq
  ·have b5 : ¬ q.1=k:=λ z=>e (af.trans z)
   have b:atKey (q::kj) k=atKey kj k:=by simp [atKey,List.find?_cons,b5]
   rw [kX e,b];exact cI
theorem KT.zR {H:aj} {kvs:List (List Key×V)} {xs:List (List Key×Addr×Value)} (r:KT H kvs xs) (k:List Key) {y:V} {u:Value} (bb:RelV y u) :
  KT H (kvs.map λ dH=>if dH.1=k then (dH.1,y) else dH) (xs.map (putAt k u)):=by
 induction r with
 | nil=>exact .nil
 | @cons p q ag kj h t cI =>
  rw [List.map_cons,List.map_cons];refine .cons ?_ cI;obtain ⟨af,aq,aF⟩:=h;unfold putAt;by_cases e:p.1=k
  ·rw [if_pos e,if_pos (af.symm.trans e)];exact ⟨af,aq,bb⟩
  ·rw [if_neg e,if_neg (λ z=>e (af.trans z))];exact ⟨af,aq,aF⟩
theorem KT.put {H:aj} {kvs:List (List Key×V)} {xs:List (List Key×Addr×Value)} (r:KT H kvs xs) (k:List Key) {b:Addr} {y:V} {u:Value} (aa:H b=some (.tup (k.map cm))) (bb:RelV y u) :
  KT H (putK kvs k y) (storedH xs k b u):=by
 have e:(kvs.any λ dH=>decide (dH.1=k))=(atKey xs k).isSome:=by
  rw [tx,(r.val k).tC,Option.isSome_map]
 unfold putK storedH;rw [e];by_cases q:(atKey xs k).isSome=true
 ·rw [if_pos q,if_pos q];exact r.zR k bb
 ·rw [if_neg q,if_neg q];exact Paired.snoc r ⟨rfl,aa,bb⟩
theorem KT.keeps {H H':aj} {kvs:List (List Key×V)} {xs:List (List Key×Addr×Value)} (r:KT H kvs xs) (aZ : ∀ b ys,H b=some (.tup ys)->H' b=some (.tup ys)):KT H' kvs xs :=
 Paired.zO r λ _ _ z=>⟨z.1,aZ _ _ z.2.1,z.2.2⟩
section
variable {P:Program} {w:World} {H:aj} {h:Heap} {a:Addr}
theorem F5 {u:dz} (ok:dM P w H h) (e:k4 H a u):dv P w H h a u:=e.ok ok
theorem qy {kvs:List (Key×V)} (ok:dM P w H h) (e:k4 H a (.cM kvs)):kvs.length<=sizeLine/\(a == sysModules)=false /\ ∃ vs,e0 kvs vs/\h.DictOf (g6 P w) a vs :=
 show dv P w H h a (.cM kvs) from F5 ok e
theorem tc {kvs:List (Key×V)} (ok:dM P w H h) (e:H a=some (.cM kvs)):kvs.length<=sizeLine/\(a == sysModules)=false /\ ∃ vs,e0 kvs vs/\h.DictOf (g6 P w) a vs:=qy ok (.inl e)
theorem ti {ks:List Key} (ok:dM P w H h) (e:H a=some (.tup (ks.map cm))):(tupleKind (g6 P w)).is h ks a:=by
 obtain ⟨_,its,r,o,af,aq,⟨n,aF⟩,_⟩:=(show dv P w H h a (.tup (ks.map cm)) from ok a _ e)
 exact ⟨o,its.toArray,n,af,aq,aF,by simpa using IX r⟩
theorem td {kvs:List (List Key×V)} (ok:dM P w H h) (e:k4 H a (.eI kvs)):kvs.length<=sizeLine/\(a == sysModules)=false /\
  ∃ xs,KT H kvs xs/\h.DictOfH (tupleKind (g6 P w)) a xs:=by
 obtain ⟨z,y,xs,r,o,es,ep,af,aq,aF,aU,bW⟩:=(show dv P w H h a (.eI kvs) from F5 ok e)
 refine ⟨z,y,xs,r,o,es,ep,af,aq,aF,aU,λ x ah=>?_,bW⟩;have all : ∀ {l:List (List Key×V)} {m:List (List Key×Addr×Value)},KT H l m -> ∀ x∈m,(tupleKind (g6 P w)).is h x.1 x.2.1:=by
  intro l m q
  induction q with
  | nil=>intro x ah;exact nomatch ah
  | @cons p q ag kj aR t cI =>
   intro x ah;rcases List.mem_cons.mp ah with e | ah
   ·subst e;exact ti ok (by rw [<-aR.1];exact aR.2.1)
   ·exact cI x ah
 exact all r x ah
theorem QT {kvs:List (List Key×V)} (ok:dM P w H h) (e:H a=some (.eI kvs)):kvs.length<=sizeLine/\(a == sysModules)=false /\
  ∃ xs,KT H kvs xs/\h.DictOfH (tupleKind (g6 P w)) a xs:=td ok (.inl e)
end
noncomputable def i0 (H:aj) (a:Addr) (y:V) (r:Option V):Prop :=
 (∃ kvs k,k4 H a (.cM kvs)/\y=cm k/\r=cE kvs k) \/ ∃ kvs k b,k4 H a (.eI kvs)/\y=.ref b/\H b=some (.tup (k.map cm))/\r=cE kvs k
noncomputable def nV (H:aj) (a:Addr) (y v:V) (H':aj):Prop :=
 (∃ kvs k,H a=some (.cM kvs)/\y=cm k/\kvs.length<sizeLine/\H'=upd H a (.cM (putK kvs k v))) \/
 ∃ kvs k b,H a=some (.eI kvs)/\y=.ref b/\H b=some (.tup (k.map cm))/\kvs.length<sizeLine/\H'=upd H a (.eI (putK kvs k v))
theorem i0.k {H:aj} {a:Addr} {kvs:List (Key×V)} {k:Key} (e:H a=some (.cM kvs)):i0 H a (cm k) (cE kvs k):=.inl ⟨kvs,k,.inl e,rfl,rfl⟩
theorem i0.t {H:aj} {a b:Addr} {kvs:List (List Key×V)} {k:List Key} (e:H a=some (.eI kvs)) (c7:H b=some (.tup (k.map cm))):i0 H a (.ref b) (cE kvs k):=.inr ⟨kvs,k,b,.inl e,rfl,c7,rfl⟩
theorem nV.k {H:aj} {a:Addr} {kvs:List (Key×V)} {k:Key} {v:V} (e:H a=some (.cM kvs)) (au:kvs.length<sizeLine):nV H a (cm k) v (upd H a (.cM (putK kvs k v))):=.inl ⟨kvs,k,e,rfl,au,rfl⟩
theorem nV.t {H:aj} {a b:Addr} {kvs:List (List Key×V)} {k:List Key} {v:V} (e:H a=some (.eI kvs)) (c7:H b=some (.tup (k.map cm))) (au:kvs.length<sizeLine) :
  nV H a (.ref b) v (upd H a (.eI (putK kvs k v))):=.inr ⟨kvs,k,b,e,rfl,c7,au,rfl⟩
section
variable {X:aQ} {pins:List (Addr×Obj)} {σ:St} {H:aj} {s:Shared} {a:Addr} {y v:V} {u r:Value} {o:Option V} {A:Around} {E:Value->Shared->Prop}
theorem Inv.big (I:Inv X pins σ H s):sysModules<s.heap.objs.size:=by
 have h:mainGlobals<s.heap.objs.size:=(I.mod.glob.keeps I.dY).lt;exact Nat.lt_trans (by decide) h
theorem IP {Q:Value->Shared->Prop} (b_:A.units+1<cLine) (I:Inv X pins σ H s) (g:i0 H a y (some v)) (bb:RelV y u) (h : ∀ cP s',Inv X pins σ H s'->RelV v cP->Q cP s') :
  wpAny (model X.prog X.w) A (getItem (.ref a) u) Q E s:=by
 rcases g with ⟨kvs,k,e,dP,l⟩ | ⟨kvs,k,b,e,dP,c7,l⟩
 ·subst dP;obtain ⟨z,hd,vs,rel,dd⟩:=qy I.a0 e;obtain ⟨cP,hw,fc⟩:=gv.some_of (v:=v) (o:=valueAt vs k) (by rw [l];exact rel.val k);exact wpAny_getItem_of (qC bb) dd.mapOf hw (h cP _ (I.tok _) fc)
 ·subst dP;cases (show u=Value.ref b from bb);obtain ⟨z,hd,xs,rel,dd⟩:=td I.a0 e;obtain ⟨cP,hw,fc⟩:=gv.some_of (v:=v) (o:=(atKey xs k).map (·.2)) (by rw [l];exact rel.val k);obtain ⟨p,ay,gG⟩:=Option.map_eq_some_iff.mp hw;refine wpAny_getItem_heap (tupleKind_room_in1 b_) (ti I.a0 c7) dd ay ?_;rw [gG];exact h cP _ (I.tok _) fc
theorem PK {Q:Value->Shared->Prop} (b_:A.units+1<cLine) (I:Inv X pins σ H s) (g:i0 H a y o) (bb:RelV y u) (h : ∀ s',Inv X pins σ H s'->Q (.bool o.isSome) s') :
  wpAny (model X.prog X.w) A (compareOp .In u (.ref a)) Q E s:=by
 rcases g with ⟨kvs,k,e,dP,l⟩ | ⟨kvs,k,b,e,dP,c7,l⟩
 ·subst dP;obtain ⟨z,hd,vs,rel,dd⟩:=qy I.a0 e;refine wpAny_in_of (qC bb) hd dd.mapOf ?_;rw [<-(rel.val k).tC,<-l];exact h _ (I.tok _)
 ·subst dP;cases (show u=Value.ref b from bb);obtain ⟨z,hd,xs,rel,dd⟩:=td I.a0 e;refine wpAny_in_heap (tupleKind_room_in1 b_) (ti I.a0 c7) hd dd ?_;have q:=(rel.val k).tC;rw [Option.isSome_map] at q;rw [<-q,<-l];exact h _ (I.tok _)
theorem S1 {Q:Value->Shared->Prop} (b_:A.units+1<cLine) (I:Inv X pins σ H s) (g:i0 H a y o) (bb:RelV y u) (h : ∀ s',Inv X pins σ H s'->Q (.bool (!o.isSome)) s') :
  wpAny (model X.prog X.w) A (compareOp .NotIn u (.ref a)) Q E s:=by
 rcases g with ⟨kvs,k,e,dP,l⟩ | ⟨kvs,k,b,e,dP,c7,l⟩
 ·subst dP;obtain ⟨z,hd,vs,rel,dd⟩:=qy I.a0 e;refine wpAny_notIn_of (qC bb) hd dd.mapOf ?_;rw [<-(rel.val k).tC,<-l];exact h _ (I.tok _)
 ·subst dP;cases (show u=Value.ref b from bb);obtain ⟨z,hd,xs,rel,dd⟩:=td I.a0 e;refine wpAny_notIn_heap (tupleKind_room_in1 b_) (ti I.a0 c7) hd dd ?_;have q:=(rel.val k).tC;rw [Option.isSome_map] at q;rw [<-q,<-l];exact h _ (I.tok _)
theorem Az {h':Heap} {t':Nat} {bJ:dz} (I:Inv X pins σ H s) (iN:rO (H a)) (aA:Heap.SameBut a s.heap h') (he : ∃ q,h'.get? a=some q) (new:dv X.prog X.w (upd H a bJ) h' a bJ) :
  Inv X pins σ (upd H a bJ) { s with heap:=h',toks:=t' } :=
 I.write (x:=a) (e:=a) iN (.inl rfl) (λ b q aa z=>(aA.2 b aa).trans z) he new
theorem Gn {P:Program} {w:World} {H':aj} {h':Heap} {kvs:List (Key×V)} {vs:List (Key×Value)} (z:kvs.length<=sizeLine) (hd:(a == sysModules)=false) (rel:e0 kvs vs) (dd:h'.DictOf (g6 P w) a vs) :
  dv P w H' h' a (.cM kvs):=⟨z,hd,vs,rel,dd⟩
theorem Bv {H':aj} {Q:Unit->Shared->Prop} (b_:A.units+1<cLine) (I:Inv X pins σ H s) (g:nV H a y v H') (bb:RelV y u) (bE:RelV v r) (h : ∀ s',Inv X pins σ H' s'->Q () s') :
  wpAny (model X.prog X.w) A (setItem (.ref a) u r) Q E s:=by
 rcases g with ⟨kvs,k,e,dP,l,jM⟩ | ⟨kvs,k,b,e,dP,c7,l,jM⟩
 ·subst dP jM;obtain ⟨z,hd,vs,rel,dd⟩:=tc I.a0 e;have aN:vs.length<=sizeLine:=by rw [<-rel.length];exact z
  have au:(putK kvs k v).length<=sizeLine:=by have:=Cg kvs k v;omega
  refine wpAny_setItem_pairs (hsz:=aN) (qC bb) dd λ h' oO aA=>h _ ?_
  have he : ∃ q,h'.get? a=some q:=let ⟨q,_,_,aR,_⟩:=oO;⟨q,aR⟩
  exact Az I (by rw [e];exact True.intro) aA he (Gn au hd (rel.put k bE) oO)
 ·subst dP jM;cases (show u=Value.ref b from bb);obtain ⟨z,hd,xs,rel,dd⟩:=QT I.a0 e;have aN:xs.length<=sizeLine:=by rw [<-Paired.length rel];exact z
  have au:(putK kvs k v).length<=sizeLine:=by have:=Cg kvs k v;omega
  refine wpAny_setItem_heap (hsz:=aN) (tupleKind_room_in1 b_) (ti I.a0 c7) dd λ h' oO aA=>h _ ?_
  obtain ⟨q,es,ep,aR,aq,aF,aU,_,bW⟩:=oO;refine Az I (by rw [e];exact True.intro) aA ⟨q,aR⟩ ⟨au,hd,_,(rel.put k c7 bE).keeps λ c ys gC=>?_,q,es,ep,aR,aq,aF,aU,bW⟩;rw [a3 (dN gC e (λ z=>nomatch z))];exact gC
end
section
variable {X:aQ} {pins:List (Addr×Obj)} {σ:St} {H:aj} {s:Shared} {a:Addr} {kvs:List (Key×V)} {k:Key} {u:Value} {A:Around} {E:Value->Shared->Prop}
theorem QS {v:V} {more:List Value} {Q:Value->Shared->Prop} (I:Inv X pins σ H s) (e:H a=some (.cM kvs)) (bb:RelV (cm k) u) (l:cE kvs k=some v) (hm:more=[] \/ ∃ x,more=[x])
  (h : ∀ cP s',Inv X pins σ (upd H a (.cM (qz kvs k))) s'->RelV v cP->Q cP s'):wpAny (model X.prog X.w) A (call (.builtin "dict.pop") (.ref a::u::more)) Q E s:=by
 obtain ⟨z,hd,vs,rel,dd⟩:=tc I.a0 e;obtain ⟨cP,hw,fc⟩:=gv.some_of (v:=v) (o:=valueAt vs k) (by rw [<-l];exact rel.val k);have ay:(keyPart u).isSome=true:=by
  cases k with
  | inl i=>obtain ⟨t,q⟩:=(show ∃ t,u=Value.int i t from bb);subst q;rfl
  | inr x=>obtain ⟨t,q⟩:=(show ∃ t,u=Value.str x t from bb);subst q;rfl
 have av:argsOk "dict.pop" ⟨.ref a::u::more,[]⟩:=by
  rcases hm with q | ⟨x,q⟩
  ·subst q;exact PySem.F.args_dict_pop_2 _ _
  ·subst q;exact PySem.F.args_dict_pop_3 _ _ _
 refine call_meetsIn PySem.F.slot_dict_pop dd.typeIs PySem.F.entry_dict_pop av (meets_dict_pop_there (g6 X.prog X.w) a (qC bb) more hm ay)
  ⟨vs,cP,dd,by rw [<-rel.length];exact z,hw,λ h' oO aA=>h cP _ ?_ fc⟩
 have he : ∃ q,h'.get? a=some q:=let ⟨q,_,_,aR,_⟩:=oO;⟨q,aR⟩
 exact Az I (by rw [e];exact True.intro) aA he (Gn (Nat.le_trans (UW kvs k) z) hd (rel.drop k) oO)
theorem QR {Q:Value->Shared->Prop} (I:Inv X pins σ H s) (e:k4 H a (.cM kvs)) (h : ∀ t s',Inv X pins σ H s'->Q (.int kvs.length t) s'):wpAny (model X.prog X.w) A (call (.builtin "len") [.ref a]) Q E s:=by
 obtain ⟨z,hd,vs,rel,dd⟩:=qy I.a0 e;refine call_len_dict hd dd (by rw [<-rel.length];rw [sizeLine_eq] at z;omega) ?_;rw [<-rel.length];exact h _ _ (I.tok _)
end
noncomputable def zw (i:Expr):Prop := ∀ cO dg,subscripted i false cO dg=operate [cO,dg] (getItem cO dg)
theorem Hy {prog:Program} {w:World} {A:Around} {E:Value->Shared->Prop} {s:Shared} {env:Env} {value slice:Expr} {pos:Pos} {T id:String} {Q:Value->Shared->Prop}
  (au:typeLookup (.type T) "__getitem__" = pure (some (.builtin id))) (aA:zw slice)
  (h:wpAny (model prog w) A (eval value env) (λ o s₁=>wpAny (model prog w) A (eval slice env) (λ i s₂=>s₂.TypeIs o T/\wpAny (model prog w) A (getItem o i) Q E s₂) E s₁) E s) :
  wpAny (model prog w) A (eval (.Subscript value slice pos) env) Q E s:=by
 refine Subscript_ (wpAny_mono h (λ o s₁ h₁=>wpAny_mono h₁ (λ i s₂ h₂=>?_) λ _ _ x=>x) λ _ _ x=>x);obtain ⟨cz,h₂⟩:=h₂;unfold subscriptTail;refine wpAny_bind ?_;rw [getitemInPython_of_ne cz.not_modules];refine wpAny_bind (wpAny_specialOf cz au ?_);have fin:wpAny (model prog w) A (subscripted slice false o i) (λ r s₃=>wpAny (model prog w) A (letTemporaryGo value o r>>=λ _=>pure r) Q E s₃) E s₂:=by
  rw [aA o i];exact wpAny_operating (wpAny_mono h₂ (λ r s₃ h₃=>wpAny_bind (wpAny_letTemporaryGo (wpAny_pure h₃))) λ _ _ x=>x)
 first
  | exact wpAny_pure (wpAny_bind fin)
  | exact wpAny_bind (wpAny_pure (wpAny_bind fin))
  | exact wpAny_bind fin
theorem JP {X:aQ} {pins:List (Addr×Obj)} {σ:St} {H:aj} {s:Shared} {a:Addr} {y:V} {o:Option V} (I:Inv X pins σ H s) (g:i0 H a y o):s.TypeIs (.ref a) "dict" := by
 rcases g with ⟨kvs,k,e,_,_⟩ | ⟨kvs,k,b,e,_,_,_⟩
 ·obtain ⟨_,_,vs,_,dd⟩:=qy I.a0 e;exact dd.typeIs
 ·obtain ⟨_,_,xs,_,dd⟩:=td I.a0 e;exact dd.typeIs
theorem UX {P:Program} {w:World} {H:aj} (h:Heap) (aa:sysModules<h.objs.size):dv P w H (h.push { cls:=.type "dict", data:=.dict #[] }) h.objs.size (.eI []) :=
 ⟨Nat.zero_le _,beq_eq_false_iff_ne.mpr (Ne.symm (Nat.ne_of_lt aa)),[],.nil,_,#[],0,Heap.get?_push_size _ rfl,⟨rfl,rfl,rfl⟩,rfl,rfl,List.nodup_nil⟩
noncomputable def SM:TE:=λ _ H Q => ∀ p,H p=none->Q (.ref p) (upd H p (.eI []))
section
variable {X:aQ} {pos:Pos}
theorem Vy:bK X (.Dict [] [] pos) SM:=λ pins s σ H Q I h =>
 wpAny_Dict_empty ⟨.ref s.heap.objs.size,_,I.laid (a:=s.heap.objs.size) (o:=.eI []) (t':=s.toks) (λ _ _ q=>Heap.get?_push_of_some _ q) (Nat.le_refl _) (UX s.heap I.big),rfl,h _ (I.a0.fresh (Nat.le_refl _))⟩
end
theorem eZ {X:aQ} {st:Stmt}:fR X st GI:=⟨VI⟩
noncomputable def rL (a:Addr):fC :=
 ⟨λ i H => ∃ xs x,H a=some (.lst xs)/\xs[i]?=some x,
 λ i H v H' => ∃ p,H p=none/\v=.ref p /\ ∃ x,H'=upd H p (.tup [.int (i:Int),x]) /\ ∀ xs,H a=some (.lst xs)->xs[i]?=some x,
 λ i H => ∃ xs,H a=some (.lst xs)/\xs.length<=i⟩
theorem XJ {rl:Bool} {P:Program} {w:World} {K:PySem.W.Frag} {bk:Expr} (gg:kU bk=true) {e it a:Addr} (c5:e≠it) :
  Turn P w K rl bk (rL a) [e,it] e (λ i h=>(∃ old,IsEnum h e it (i:Int) old)/\h.IsListIter it a i) where
 mem:=List.mem_cons_self
 obj:=λ i h st c ao=>by
  obtain ⟨⟨old,af⟩,⟨nt,aU,_,xr⟩⟩:=st;have mO : ∀ {o:Obj} {vs:Array Value},o.data=.fields vs -> ∀ v,o.data≠.cell v:=λ e v q=>by rw [e] at q;cases q
  simp only [List.mem_cons,List.not_mem_nil,or_false] at ao;rcases ao with rfl | rfl
  ·exact ⟨_,af,mO rfl⟩
  ·exact ⟨_,aU,mO xr⟩
 keep:=λ i h h' st k=>by
  obtain ⟨⟨old,af⟩,⟨nt,aU,hh⟩⟩:=st;exact ⟨⟨old,k _ (by simp) _ af⟩,⟨nt,k _ (by simp) _ aU,hh⟩⟩
 item:=by
  intro X c0 hw dQ nF ao i pins s σ H E I hf st aM;subst c0 hw dQ;obtain ⟨⟨old,af⟩,aU⟩:=st;obtain ⟨xs,x,cn,ah⟩:=aM;obtain ⟨z,its,n,bE,hlen,b6⟩:=I.jy cn;obtain ⟨jQ,rY,sL⟩:=bE.get ah;refine wpAny_pyNext_enum_item af aU (show s.heap.IsList a its.toArray from ⟨_,b6,rfl,n,rfl⟩) (x:=jQ) (by simpa using rY) c5 λ g eP dO dU fh d6=>?_
  refine ⟨_,rfl,?_⟩;have elt:e<s.heap.objs.size:=Heap.lt_size af;cases bk with
  | Tuple es et pp =>
   refine wpAny_letOwnedTupleGo_enum eP λ g' hb dB=>?_
   have new:g'.get? s.heap.objs.size=some { cls:=.type "tuple", data:=.seq #[.int i s.toks,jQ] }:=dB.extBut _ _ (Nat.ne_of_gt elt) dU;have aJ:Inv X pins σ (upd H s.heap.objs.size (.tup [.int (i:Int),x])) { s with heap:=g',toks:=s.toks+1 }:=by
    refine I.BU (t':=s.toks+1) (L:=[e,it]) (λ c o dS da=>?_) hf (Nat.le_refl _) ⟨by show 2<=sizeLine;decide,[.int i s.toks,jQ],.cons ⟨_,rfl⟩ (.cons sL .nil),⟨_,new,rfl,⟨0,rfl⟩,rfl⟩⟩;simp only [List.mem_cons,List.not_mem_nil,or_false,not_or] at dS;exact dB.extBut c o dS.1 (d6 c o dS.1 dS.2 da)
   refine ⟨.ref s.heap.objs.size,_,aJ,rfl,⟨_,I.fresh,rfl,x,rfl,λ EV a6=>?_⟩,⟨⟨jQ,?_⟩,dO.extBut dB.extBut c5.symm⟩,λ c ed=>?_⟩
   ·rw [cn] at a6;cases a6;exact ah
   ·rw [show ((i+1:Nat):Int)=(i:Int)+1 by omega];exact hb
   ·obtain ⟨o,da⟩ : ∃ o,s.heap.get? c=some o:=by
     simp only [List.mem_cons,List.not_mem_nil,or_false] at ed;rcases ed with rfl | rfl
     ·exact ⟨_,af⟩
     ·obtain ⟨nt,iL,_⟩:=aU;exact ⟨_,iL⟩
    rw [a3 (Nat.ne_of_lt (Heap.lt_size da))];exact (hf c ed).1
  | _=>exact absurd (show false=true from gg) Bool.false_ne_true
 done:=by
  intro X c0 hw dQ nF ao i pins s σ H E I hf st aM;subst c0 hw dQ;obtain ⟨⟨old,af⟩,aU⟩:=st;obtain ⟨xs,cn,au⟩:=aM;obtain ⟨z,its,n,bE,hlen,b6⟩:=I.jy cn;refine eO.UY (I.kx ao) af aU (show s.heap.IsList a its.toArray from ⟨_,b6,rfl,n,rfl⟩) (by simp;omega) λ g up=>⟨rfl,?_⟩
  refine I.AW (t':=s.toks) (L:=[e,it]) (λ c o dS da=>?_) hf;simp only [List.mem_cons,List.not_mem_nil,or_false,not_or] at dS;exact up c o dS.2 da
 self:=λ _ _ _ _ _ st h=>by
  obtain ⟨⟨old,af⟩,_⟩:=st;exact wpAny_pyIter_enum af h
section
variable {X:aQ} {bk:Expr}
noncomputable def FW (aS:cH):TI:=λ σ H R=>aS σ H λ vs H1 => ∃ a xs,vs=[.ref a]/\H1 a=some (.lst xs)/\R (rL a) H1
theorem TK {aE:Expr} {aS:cH} {p pos:Pos} (gg:kU bk=true) (aM:c1 X "enumerate") (hm:X.mg "enumerate" = none) (av:gB X [aE] aS) (aA:starEach [aE] X.env=[(false,eval aE X.env)]:=by rfl)
  (aa:bootBuiltins "enumerate" = some (.type "enumerate"):=by decide +kernel):kb X bk (.Call (.Name "enumerate" p) [aE] [] pos) (FW aS):=by
 intro pins s σ H R I h;refine Call_ (lS I aM hm aa (PyProof.Rows.callWith_type1 (a_ (av pos pins s σ H _ I h) λ us s1 ⟨vs,H1,aJ,bG,a6⟩=>?_) aA rfl));obtain ⟨a,xs,e,cn,q⟩:=a6;subst e;obtain ⟨gp,rfl,kk⟩:=vals1 bG;cases kk;obtain ⟨z,its,n,bE,hlen,b6⟩:=aJ.jy cn;refine call_enumerate_1 b6 λ g dR di gq up=>?_
 refine wpAny_pyIter_enum dR ?_;have bD:Inv X pins σ H1 { s1 with heap:=g }:=aJ.kept (t':=s1.toks) up;refine ⟨_,[s1.heap.objs.size+1,s1.heap.objs.size],_,_,H1,rfl,bD,XJ gg (Nat.ne_of_gt (Nat.lt_succ_self _)),⟨⟨_,dR⟩,di⟩,λ c ao=>?_,q⟩;have big:s1.heap.objs.size<=c:=by
  simp only [List.mem_cons,List.not_mem_nil,or_false] at ao;rcases ao with rfl | rfl
  ·exact Nat.le_add_right _ _
  ·exact Nat.le_refl _
 exact aJ.nY big (aJ.a0.fresh big)
theorem Hs {aE:Expr} {aS:cH} {p pos:Pos} (gg:kU bk=true) (aM:c1 X "enumerate") (hm:X.mg "enumerate" = none) (av:ek X [aE] aS) (aA:starEach [aE] X.env=[(false,eval aE X.env)]:=by rfl)
  (aa:bootBuiltins "enumerate" = some (.type "enumerate"):=by decide +kernel):jK X bk (.Call (.Name "enumerate" p) [aE] [] pos) (FW aS):=⟨TK gg aM hm av.o aA aa⟩
end
theorem HS {a:Addr} {xs:List V} {g:dT} {bo:cX} {D:Ends} {σ:St} {H:aj} (Pv:Nat->St->aj->Prop) (h0:Pv 0 σ H) (au : ∀ i σ H,i<=xs.length->Pv i σ H->H a=some (.lst xs))
  (aA : ∀ i x p σ H,xs[i]?=some x->H p=none->Pv i σ H->g (.ref p) σ (upd H p (.tup [.int (i:Int),x])) λ σ2 aw=>bo { D with bl:=Pv (i+1),b1:=Pv (i+1),dY:=D.bl } σ2 aw) (hd : ∀ σ H,Pv xs.length σ H->D.bl σ H) :
  ∃ W:Nat->Nat->St->aj->Prop,(∃ m,W 0 m σ H) /\ ∀ i m σ H,W i m σ H ->
   ((rL a).stop i H/\D.bl σ H)\/((rL a).go i H /\ ∃ N:St->aj->Prop,(∀ σ' H',N σ' H' -> ∃ cu,cu<m/\W (i+1) cu σ' H') /\ ∀ x H',(rL a).hq i H x H'->g x σ H' λ σ2 aw=>bo { D with bl:=N,b1:=N,dY:=D.bl } σ2 aw):=by
 refine ⟨λ i m σ H=>m=xs.length - i/\i<=xs.length/\Pv i σ H,⟨_,rfl,Nat.zero_le _,h0⟩,?_⟩;rintro i m σ H ⟨rfl,ax,p⟩;have cn:=au i σ H ax p;by_cases dk:i<xs.length
 ·refine .inr ⟨⟨xs,xs[i],cn,by simp [dk]⟩,Pv (i+1),λ σ' H' fT=>⟨xs.length - (i+1),by omega,rfl,dk,fT⟩,λ v H' jm=>?_⟩;obtain ⟨q,aR,rfl,x,rfl,fJ⟩:=jm;exact aA i x q σ H (fJ xs cn) aR p
 ·have e:i=xs.length:=by omega
  refine .inl ⟨⟨xs,cn,by omega⟩,hd σ H (e ▸ p)⟩
section
variable {X:aQ}
theorem Td {prog:Program} {w:World} {A:Around} {E:Value->Shared->Prop} {s:Shared} {l:Addr} {vs:List Value} {ns:List Int} {Q:Value->Shared->Prop} (bI:A.handled=none)
  (au:s.heap.IsTuple l vs.toArray) (ax:IntsAre vs ns) (c5:0<ns.length)
  (h : ∀ h' M (t:Tok) tk,(∀ b o,s.heap.get? b=some o->h'.get? b=some o)->M∈ns->(∀ a,a∈ns->M<=a)->Q (.int M t) { s with heap:=h',toks:=tk }) :
  wpAny (model prog w) A (call (.builtin "min") [.ref l]) Q E s:=by
 obtain ⟨xs,e⟩:=ax.allInts.items;have iY:ns=xs.toList.map (·.1):=by rw [<-ax.numsOf,<-nums_intItems,<-e]
 have hsz:0<xs.size:=by
  have aF:=c5;rw [iY,List.length_map,Array.length_toList] at aF;exact aF
 rw [e] at au;have dk:l<s.heap.objs.size:=by obtain ⟨_,e,_⟩:=au;exact Heap.lt_size e
 refine call_min_walk (wpAny_pyIter_tuple au ?_);refine ⟨_,_,_,_,_,_,_,rfl,Walks.tuple (A:=A.in1) bI _ l (Nat.ne_of_lt dk) (intItems xs),⟨⟨_,Heap.get?_push_size _ rfl,rfl,rfl⟩,au.push _⟩,λ c ao=>?_,by simpa [intItems] using hsz,CmpOf.ints_lt (numAt xs) (λ _ _=>intItems_at),λ v h' tk c0 aB=>?_⟩
 ·show c<(s.heap.push _).objs.size;rw [Heap.size_push];rcases List.mem_cons.mp ao with rfl | ao
  ·exact Nat.lt_succ_self _
  ·rcases List.mem_cons.mp ao with rfl | ao
   ·exact Nat.lt_succ_of_lt dk
   ·cases ao
 ·have a7:(intItems xs)[argBest (λ i j=>decide (numAt xs i<numAt xs j)) (xs.size - 1)]?=some v:=by simpa [intItems] using c0
  obtain ⟨t,rfl⟩:=intItems_at a7;obtain ⟨af,aq⟩:=argBest_lt (numAt xs) (xs.size - 1);refine h _ _ t tk (λ b o c7=>aB b o (λ hm=>?_) (Heap.get?_push_of_some _ c7)) ?_ λ a av=>?_
  ·rcases List.mem_cons.mp hm with aE | hm
   ·exact absurd (aE ▸ Heap.lt_size c7) (Nat.lt_irrefl _)
   ·cases hm
  ·rw [iY,numAt_eq];exact getD_mem (by rw [List.length_map,Array.length_toList];omega)
  ·rw [iY] at av;obtain ⟨j,bj,rfl⟩:=mem_getD av;rw [List.length_map,Array.length_toList] at bj;rw [<-numAt_eq];exact aq j (by omega)
theorem Wx (ao:X.calm=true):eN X (.builtin "min") (λ xs H Q => ∃ (p:Addr) (ns:List Int),xs=[.ref p]/\aW X.K H p (ns.map V.int)/\ns≠[] /\ ∀ M,M∈ns->(∀ a,a∈ns->M<=a)->Q (.int M) H):=by
 intro pins s σ H xs us Q I r h;obtain ⟨p,ns,rfl,aR,c5,q⟩:=h;obtain ⟨u,rfl,aT⟩:=vals1 r;cases aT;obtain ⟨its,bY,pl,aN⟩:=I.tuple aR;refine Td (I.ok.hd.1 ao) pl (intsAre_of bY) (by cases ns with | nil=>exact absurd rfl c5 | cons=>simp) λ h' M t tk k gP ji=>?_
 exact ⟨.int M,H,I.kept k,⟨_,rfl⟩,q M gP ji⟩
end
end bC
namespace iS
open PySem PySem.W PyProof.Rows
noncomputable def ev {α : Type} (f:Nat->Nat->Bool):KasT α -> α
 | .ret a=>a
 | .ask i j k=>ev f (k (f i j))
noncomputable def In {α : Type} (n:Nat) (P : α -> Prop):KasT α -> Prop
 | .ret a=>P a
 | .ask i j k=>i<n/\j<n /\ ∀ b,In n P (k b)
theorem In.bind {α β : Type} {n:Nat} {P : α -> Prop} {R : β -> Prop} {f : α -> KasT β} : ∀ (t:KasT α),In n P t->(∀ a,P a->In n R (f a))->In n R (t.bind f)
 | .ret a,h,hf=>hf a h
 | .ask i j k,h,hf=>⟨h.1,h.2.1,λ b=>In.bind (k b) (h.2.2 b) hf⟩
theorem In.mono {α : Type} {n:Nat} {P R : α -> Prop} (c0 : ∀ a,P a->R a) : ∀ (t:KasT α),In n P t->In n R t
 | .ret a,h=>c0 a h
 | .ask i j k,h=>⟨h.1,h.2.1,λ b=>In.mono c0 (k b) (h.2.2 b)⟩
theorem In.ev {α : Type} {n:Nat} {P : α -> Prop} {f:Nat->Nat->Bool} : ∀ (t:KasT α),In n P t->P (iS.ev f t)
 | .ret _,h=>h
 | .ask i j k,h=>In.ev (k (f i j)) (h.2.2 _)
theorem Gg {α : Type} {n:Nat} {P : α -> Prop} {f:Nat->Nat->Bool} {cmp:Nat->Nat->(Bool->Shared->Prop)->Shared->Prop} {s:Shared} {Q : α -> Shared->Prop} (ao : ∀ i j C,i<n->j<n->C (f i j) s->cmp i j C s) :
  ∀ (t:KasT α),In n P t->Q (iS.ev f t) s->t.kasWp cmp Q s
 | .ret _,_,q=>q
 | .ask i j k,h,q=>ao i j _ h.1 h.2.1 (Gg ao (k (f i j)) (h.2.2 _) q)
noncomputable def e4 (n:Nat) (p:Array Nat):Prop:=p.toList.Perm (List.range n)
theorem e4.lt {n:Nat} {p:Array Nat} (h:e4 n p) (aC:0<n) (k:Nat):p.getD k 0<n:=by
 by_cases aB:k<p.size
 ·have e:p.getD k 0=p.toList[k]'(by simpa using aB):=by simp [Array.getD,aB]
  rw [e];exact List.mem_range.mp (h.mem_iff.mp (List.getElem_mem _))
 ·have e:p.getD k 0=0:=by simp [Array.getD,aB]
  rw [e];exact aC
theorem e4.perm {n:Nat} {p q:Array Nat} (h:e4 n p) (aR:q.Perm p):e4 n q:=(Array.perm_iff_toList_perm.mp aR).trans h
theorem e4.rev {n:Nat} {p:Array Nat} (h:e4 n p) (i j:Nat):e4 n (kas_rev p i j):=h.perm (mirror_perm _ _ _ _)
theorem e4.Mx {n:Nat} {p:Array Nat} (h:e4 n p) (i j:Nat):e4 n (bubble p i j):=h.perm (bubble_perm _ _ _)
section
variable {n:Nat} (aC:0<n)
include aC
theorem Ac {p:Array Nat} (h:e4 n p) : ∀ (f m:Nat),In n (λ _=>True) (kas_asc p f m)
 | 0,_=>trivial
 | f+1,m=>⟨h.lt aC _,h.lt aC _,λ b=>by
  cases b with
  | true=>exact trivial
  | false=>exact Ac h f (m+1)⟩
theorem wg : ∀ (f:Nat) (p:Array Nat) (m q:Nat),e4 n p->In n (λ r=>e4 n r.1) (kas_desc f p m q)
 | 0,p,_,_,h=>h
 | f+1,p,m,q,h=>⟨h.lt aC _,h.lt aC _,λ b=>by
  cases b with
  | true =>
   show In n _ (if q > 0 then _ else _);split
   ·exact wg f _ _ _ (h.rev _ _)
   ·exact wg f _ _ _ h
  | false =>
   refine ⟨h.lt aC _,h.lt aC _,λ d=>?_⟩;cases d with
   | true=>exact h
   | false=>exact wg f _ _ _ h⟩
theorem Ik {p:Array Nat} (h:e4 n p) (a b:Nat):In n (λ r=>e4 n r.2) (kas_tail3 a b p):=(Ac aC (h.rev _ _) _ _).bind _ λ _ _=>h.rev _ _
theorem JO {p:Array Nat} (h:e4 n p) (a b:Nat):In n (λ r=>e4 n r.2) (kas_descPart a b p):=(wg aC _ p _ _ h).bind _ λ r ar=>by
 show In n _ (if r.2.2 > 0 then _ else _);split
 ·exact Ik aC (ar.rev _ _) _ _
 ·exact Ik aC ar _ _
theorem UR {p:Array Nat} (h:e4 n p) (b:Nat):In n (λ r=>e4 n r.2) (kas_count b p):=(Ac aC h _ _).bind _ λ m _=>by
 show In n _ (if (m == b)=true then _ else if m > 1 then _ else _);split
 ·exact h
 ·split
  ·refine ⟨h.lt aC _,h.lt aC _,λ c=>?_⟩;cases c with
   | true=>exact h
   | false=>exact JO aC (h.rev _ _) _ _
  ·exact JO aC h _ _
theorem A_ {p:Array Nat} (h:e4 n p) (k:Nat) : ∀ (f l r:Nat),In n (λ _=>True) (kas_place p k f l r)
 | 0,_,_=>trivial
 | f+1,l,r=>by
  show In n _ (if l ≥ r then _ else _);split
  ·exact trivial
  ·refine ⟨h.lt aC _,h.lt aC _,λ c=>?_⟩;cases c with
   | true=>exact A_ h k f _ _
   | false=>exact A_ h k f _ _
theorem Gj : ∀ (f:Nat) (p:Array Nat) (k:Nat),e4 n p->In n (e4 n) (kas_bin f p k)
 | 0,p,_,h=>h
 | f+1,p,k,h=>(A_ aC h k k 0 k).bind _ λ l _=>Gj f _ _ (h.Mx _ _)
theorem Hv:In n (e4 n) (kas_sort n):=(UR aC (show e4 n (List.toArray (List.range n)) from List.Perm.refl _) n).bind _ λ r ar=>by
 show In n _ (if r.1<n then _ else _);split
 ·exact Gj aC _ _ _ ar
 ·exact ar
end
noncomputable def gI (ns:List (List Int)):List Nat:=if ns.length<2 then List.range ns.length else (ev (λ i j=>dw.lexLt (ns.getD i []) (ns.getD j [])) (kas_sort ns.length)).toList
theorem pA (ns:List (List Int)):(gI ns).Perm (List.range ns.length):=by
 unfold gI;split
 ·exact List.Perm.refl _
 ·exact In.ev (f:=λ i j=>dw.lexLt (ns.getD i []) (ns.getD j [])) _ (Hv (n:=ns.length) (by omega))
theorem KO {α : Type} (l:List α) (d : α):(List.range l.length).map (λ i=>l.getD i d)=l:=by
 refine List.ext_getElem (by simp) λ i af aq=>?_
 simp [aq]
theorem V_ {α : Type} {ns:List (List Int)} {l:List α} {d : α} (h:l.length=ns.length):((gI ns).map λ i=>l.getD i d).Perm l:=by
 have:=(pA ns).map (λ i=>l.getD i d);rw [<-h,KO] at this;exact this
theorem Hw {ns:List (List Int)} {i:Nat} (h:i∈gI ns):i<ns.length:=List.mem_range.mp ((pA ns).mem_iff.mp h)
section
variable {prog:Program} {w:World} {A:Around} {E:Value->Shared->Prop} {s:Shared}
theorem Gv {b:Bool} {Q:Bool->Shared->Prop} : ∀ {us vs:List Value} {ns ms:List Int} (i:Nat) (fin:Bool),IntsAre us ns->IntsAre vs ms->fin=decide (ns.length<ms.length)->Q (dw.lexLt ns ms) s->KatLex prog w A b fin Q (us.zip vs) i s
 | _,_,_,_,i,fin,.nil,.nil,e,q=>by subst e;exact q
 | _,_,_,_,i,fin,.nil,.cons _ _ _,e,q=>by
  subst e;rw [dw.Z6] at q;show Q (decide _) s;rw [decide_eq_true (by simp)];exact q
 | _,_,_,_,i,fin,.cons _ _ _,.nil,e,q=>by
  subst e;rw [dw.Z5] at q;show Q (decide _) s;rw [decide_eq_false (by simp)];exact q
 | _,_,_,_,i,fin,.cons (vs:=us) (ns:=ns) x t af,.cons (vs:=vs) (ns:=ms) y u aq,e,q=>by
  rw [List.zip_cons_cons];refine kat_cons ((SeqAt.EqAt.int_int x t y u:SeqAt.EqAt A s (.int x t) (.int y u) (x == y)) prog w _ _ ?_);rw [dw.Yh] at q;by_cases fJ:x=y
  ·rw [if_pos fJ] at q;rw [show (x == y)=true by simp [fJ]];exact kat_yes (Gv (i+1) fin af aq (by rw [e];simp) q)
  ·rw [if_neg fJ] at q;rw [show (x == y)=false by simp [fJ]];refine kat_no ?_;cases aa:(b&&i == 0) with
   | true=>exact oneLt_int q
   | false=>exact kat_one _ _ (PyProof.Rows.lt_int q)
noncomputable def lG (h:Heap) (vs:List Value) (ns:List (List Int)):Prop:=vs.length=ns.length /\ ∀ i:Nat,i<vs.length -> ∃ a o xs n,vs.getD i .none=.ref a/\h.get? a=some o/\o.cls=.type "tuple" /\ o.data=.seq xs n/\IntsAre xs.toList (ns.getD i [])/\ns.getD i []≠[]
theorem lG.kept {h h':Heap} {vs:List Value} {ns:List (List Int)} (t:lG h vs ns) {c:Addr} (k : ∀ b o,b≠c->h.get? b=some o->h'.get? b=some o) (ao : ∀ o,h.get? c=some o->o.cls≠.type "tuple"):lG h' vs ns:=by
 refine ⟨t.1,λ i ax=>?_⟩;obtain ⟨a,o,xs,n,af,aq,aF,aU,bW,dV⟩:=t.2 i ax;exact ⟨a,o,xs,n,af,k a o (λ z=>ao o (z ▸ aq) aF) aq,aF,aU,bW,dV⟩
theorem lG.Eo {h:Heap} : ∀ {vs:List Value} {ns:List (List Int)},lG h vs ns -> ∃ ak,KatTups h vs ak/\ak.length=vs.length /\ ∀ v∈ak,∃ i t,v=Value.int i t
 | [],_,_=>⟨[],trivial,rfl,λ v a7=>by cases a7⟩
 | v::vs,[],t=>by have:=t.1;simp at this
 | v::vs,m::ns,t=>by
  obtain ⟨ak,k1,k2,k3⟩:=lG.Eo (h:=h) (vs:=vs) (ns:=ns) ⟨by simpa using t.1,λ i ax=>by
   obtain ⟨a,o,xs,n,af,aq,aF,aU,bW,dV⟩:=t.2 (i+1) (by simp;omega);exact ⟨a,o,xs,n,by simpa using af,aq,aF,aU,by simpa using bW,by simpa using dV⟩⟩
  obtain ⟨a,o,xs,n,af,aq,aF,aU,bW,dV⟩:=t.2 0 (by simp);have MK:v=.ref a:=by simpa using af
  have uM:IntsAre xs.toList m:=by simpa using bW
  have Nn:m≠[]:=by simpa using dV
  cases ah:xs.toList with
  | nil =>
   rw [ah] at uM;cases uM;exact absurd rfl Nn
  | cons f r =>
   rw [ah] at uM;refine ⟨f::ak,?_,by simp [k2],λ u b_=>?_⟩
   ·rw [MK];refine KatTups.cons aq aF aU ?_ k1;rw [<-Array.getElem?_toList,ah];rfl
   ·rcases List.mem_cons.mp b_ with z | z
    ·subst z;cases uM with
     | cons _ _ _=>exact ⟨_,_,rfl⟩
    ·exact k3 u z
theorem WW {a:Addr} {vs:List Value} {ns:List (List Int)} {n:Nat} {P:PySem.Fin->Shared->Prop} (aO:s.heap.get? a=some (seqObj "list" vs.toArray n)) (T:lG s.heap vs ns) (mB:vs.length<64)
  (h : ∀ h' c,h'.get? a=some (seqObj "list" (List.toArray ((gI ns).map λ i=>vs.getD i Value.none)) c)->(∀ b o,b≠a->s.heap.get? b=some o->h'.get? b=some o)->P (.done (.ret .none)) { s with heap:=h' }) :
  wpAny (model prog w) A (Builtin.«list.sort» ⟨[.ref a],[]⟩) P E s:=by
 have av:a<s.heap.objs.size:=Heap.lt_size aO;have s1:=Heap.SameBut.update s.heap a (Obj.mapSeq λ _=>(#[]:Array Value));obtain ⟨aE,Ed⟩ : ∃ aE,(s.heap.update a (Obj.mapSeq λ _=>(#[]:Array Value))).get? a=some (seqObj "list" #[] aE):=⟨_,get?_update_seq aO λ _=>#[]⟩
 have bZ : ∀ b o,b≠a->s.heap.get? b=some o->(((s.heap.update a (Obj.mapSeq λ _=>(#[]:Array Value))).push (seqObj "tuple" vs.toArray 0)).push (seqObj "list" #[] 0)).get? b=some o:=λ b o nb e=>Heap.get?_push_of_some _ (Heap.get?_push_of_some _ ((s1.2 b nb).trans e))
 have qd:(((s.heap.update a (Obj.mapSeq λ _=>(#[]:Array Value))).push (seqObj "tuple" vs.toArray 0)).push (seqObj "list" #[] 0)).get? a=some (seqObj "list" #[] aE):=Heap.get?_push_of_some _ (Heap.get?_push_of_some _ Ed);have t_:lG (((s.heap.update a (Obj.mapSeq λ _=>(#[]:Array Value))).push (seqObj "tuple" vs.toArray 0)).push (seqObj "list" #[] 0)) vs ns:=T.kept bZ λ o e z=>by
  rw [aO] at e;cases e;have c9:Value.type "list" = Value.type "tuple" := z;injection c9 with c9;exact absurd c9 (by decide)
 rw [list_sort_plain];refine wpAny_bind (listItems_at aO rfl ?_);refine wpAny_bind (listUpdate_at aO rfl ?_ (by rw [List.size_toArray,sizeLine_eq];omega) (Nat.zero_le _));refine wpAny_bind (seqEpoch_at Ed rfl ?_);refine wpAny_bind (wpAny_newTuple ?_ (by show vs.length<=_;rw [sizeLine_eq];omega));refine wpAny_bind (wpAny_newList ?_ (Nat.zero_le _));refine wpAny_holding ?_;show wpAny (model prog w) A _ P E { s with heap:=((s.heap.update a (Obj.mapSeq λ _=>(#[]:Array Value))).push (seqObj "tuple" vs.toArray 0)).push (seqObj "list" #[] 0) };dsimp only;generalize bI:((s.heap.update a (Obj.mapSeq λ _=>(#[]:Array Value))).push (seqObj "tuple" vs.toArray 0)).push (seqObj "list" #[] 0)=aF at bZ qd t_ ⊢;have fin : ∀ out:Array Value,out.size<=64->out=List.toArray ((gI ns).map λ i=>vs.getD i Value.none) -> ∃ c,(aF.update a (Obj.mapSeq λ _=>out)).get? a=some (seqObj "list" (List.toArray ((gI ns).map λ i=>vs.getD i Value.none)) c) /\ ∀ b o,b≠a->s.heap.get? b=some o->(aF.update a (Obj.mapSeq λ _=>out)).get? b=some o:=by
  intro out _ e;obtain ⟨jg,NF⟩ : ∃ jg,(aF.update a (Obj.mapSeq λ _=>out)).get? a=some (seqObj "list" out jg):=⟨_,get?_update_seq qd λ _=>out⟩
  have s2:=Heap.SameBut.update aF a (Obj.mapSeq λ _=>out);exact ⟨jg,by rw [NF,e],λ b o nb c7=>(s2.2 b nb).trans (bZ b o nb c7)⟩
 by_cases aq:vs.toArray.size<2
 ·have mA:vs.length<2:=by simpa using aq
  rw [if_pos aq,if_pos aq];refine wpAny_bind (wpAny_pure ?_);rw [StateT.run_pure];refine wpAny_bind (wpAny_pure ?_);dsimp only;have da:(arrOf (SortSt.mk' general' (vs.toArray.zip vs.toArray) #[] 7 none)).map (·.2)=List.toArray ((gI ns).map λ i=>vs.getD i Value.none):=by
   have aE:(arrOf (SortSt.mk' general' (vs.toArray.zip vs.toArray) #[] 7 none)).map (·.2)=vs.toArray:=by
    show (vs.toArray.zip vs.toArray).map (·.2)=vs.toArray;apply Array.toList_inj.mp;simp [List.map_snd_zip]
   have aI:gI ns=List.range vs.length:=by
    unfold gI;rw [<-T.1,if_pos mA]
   rw [aE,aI,KO]
  refine wpAny_bind (seqEpoch_at qd rfl ?_);refine wpAny_bind (listUpdate_at qd rfl ?_ (Nat.zero_le _) (by rw [da,List.size_toArray,List.length_map,(pA ns).length_eq,List.length_range,<-T.1,sizeLine_eq];omega));simp only [bne_self_eq_false,Bool.false_eq_true,if_false];obtain ⟨c,g1,g2⟩:=fin _ (by rw [da,List.size_toArray,List.length_map,(pA ns).length_eq,List.length_range,<-T.1];omega) da;exact wpAny_pure (h _ c g1 g2)
 ·have mA:2<=vs.length:=by
   have : ¬ vs.length<2:=by simpa using aq
   omega
  rw [if_neg aq,if_neg aq];obtain ⟨ak,k1,k2,k3⟩:=t_.Eo;refine wpAny_bind (kat_kind (T:=.type "int") k1 (by omega) (λ v a7=>?_) (by decide) ?_)
  ·obtain ⟨i,t,rfl⟩:=k3 v a7;exact Looks.of_pure rfl
  refine wpAny_bind (wpAny_mono (kat_run (ks:=vs) (κ := tuples' (Value.type "int" != Value.type "tuple")) (s:={ s with heap:=aF }) (Q:=λ gW s' => ∃ p:Array Nat,s'={ s with heap:=aF }/\p.toList=gI ns/\arrOf gW=p.map (kas_item (vs.toArray.zip vs.toArray))/\failedOf gW=none)
   (G:=λ p s'=>s'={ s with heap:=aF }/\p.toList=gI ns) rfl mA mB (λ fT gW s' a1 a2 oo ub=>⟨fT,ub.1,ub.2,a2,oo⟩) ?_) ?_ λ _ _ e=>e)
  ·refine Gg (n:=vs.length) (P:=e4 vs.length) (f:=λ i j=>dw.lexLt (ns.getD i []) (ns.getD j [])) (λ i j C ax bj fk=>?_) _ (Hv (by omega)) ⟨rfl,?_⟩
   ·obtain ⟨a1,aaZ,eJ,cJ,a6,b0,ew,oz,nv,_⟩:=t_.2 i ax;obtain ⟨a2,Dw,fa,dp,bG,cb,hD,hh,ny,_⟩:=t_.2 j bj;unfold kas_ask;rw [a6,bG];refine kat_lt b0 oz cb hh (Gv 0 _ nv ny ?_ fk);rw [<-Array.length_toList,<-Array.length_toList,nv.length,ny.length]
   ·unfold gI;rw [<-T.1,if_neg (by omega)]
  rintro ⟨⟨⟩,gW⟩ s' ⟨p,rfl,ay,NB,hf⟩;dsimp only;have da:=kat_snds (ks:=vs) rfl NB;rw [ay] at da;refine wpAny_bind (seqEpoch_at qd rfl ?_);refine wpAny_bind (listUpdate_at qd rfl ?_ (Nat.zero_le _) (by rw [da,List.size_toArray,List.length_map,(pA ns).length_eq,List.length_range,<-T.1,sizeLine_eq];omega));rw [hf];simp only [bne_self_eq_false,Bool.false_eq_true,if_false];obtain ⟨c,g1,g2⟩:=fin _ (by rw [da,List.size_toArray,List.length_map,(pA ns).length_eq,List.length_range,<-T.1];omega) da;exact wpAny_pure (h _ c g1 g2)
theorem Um {l:Addr} {vs:List Value} {ns:List (List Int)} {Q:Value->Shared->Prop} (au:s.heap.IsList l vs.toArray) (T:lG s.heap vs ns) (mB:vs.length<64)
  (h : ∀ h' c,h'.get? (s.heap.objs.size+1)=some (seqObj "list" (List.toArray ((gI ns).map λ i=>vs.getD i Value.none)) c)->(∀ b o,s.heap.get? b=some o->h'.get? b=some o)->Q (.ref (s.heap.objs.size+1)) { s with heap:=h' }) :
  wpAny (model prog w) A (call (.builtin "sorted") [.ref l]) Q E s:=by
 refine Calls.call_function_entry kind_sorted plain_sorted entry_sorted (args_sorted1 _) ?_;unfold Builtin.«sorted»;refine wpAny_bind (m:=checkCount "sorted" 1 1 _) (wpAny_pure ?_);refine wpAny_bind (collect_list au ?_ (by rw [sizeLine_eq];omega));refine wpAny_bind (wpAny_newList ?_ (by rw [sizeLine_eq];omega));have hsz:((s.heap.push (seqObj "list" #[] 0)).update s.heap.objs.size (Obj.mapSeq (· ++ vs.toArray))).objs.size=s.heap.objs.size+1:=by
  rw [Heap.size_update,size_push']
 have sk:(((s.heap.push (seqObj "list" #[] 0)).update s.heap.objs.size (Obj.mapSeq (· ++ vs.toArray))).push (seqObj "list" vs.toArray 0)).get? (s.heap.objs.size+1)=some (seqObj "list" vs.toArray 0):=by
  rw [<-hsz];exact Heap.get?_push_size _ rfl
 have keep : ∀ b o,s.heap.get? b=some o->(((s.heap.push (seqObj "list" #[] 0)).update s.heap.objs.size (Obj.mapSeq (· ++ vs.toArray))).push (seqObj "list" vs.toArray 0)).get? b=some o:=λ b o q=>by
  have dk:b<s.heap.objs.size:=Heap.lt_size q;rw [Heap.get?_push_ne _ _ _ (by rw [hsz];exact Nat.ne_of_lt (Nat.lt_succ_of_lt dk)),Heap.get?_update_ne _ _ _ _ (Nat.ne_of_lt dk),Heap.get?_push_ne _ _ _ (Nat.ne_of_lt dk)];exact q
 show wpAny _ _ _ _ _ { s with heap:=((s.heap.push (seqObj "list" #[] 0)).update s.heap.objs.size (Obj.mapSeq (· ++ vs.toArray))).push (seqObj "list" vs.toArray 0) };rw [hsz];refine wpAny_bind (wpAny_holding (wpAny_call_entry slot_list_sort ⟨_,sk,rfl⟩ entry_list_sort ?body (args_list_sort _)))
 case body =>
  refine WW (s:={ s with heap:=((s.heap.push (seqObj "list" #[] 0)).update s.heap.objs.size (Obj.mapSeq (· ++ vs.toArray))).push (seqObj "list" vs.toArray 0) }) sk ?_ mB λ h' c g1 g2=>⟨_,rfl,wpAny_pure ⟨_,rfl,h h' c g1 λ b o e=>g2 b o (λ z=>?_) (keep b o e)⟩⟩
  ·refine ⟨T.1,λ i ax=>?_⟩;obtain ⟨a,o,xs,n,af,aq,aF,aU,bW,dV⟩:=T.2 i ax;exact ⟨a,o,xs,n,af,keep a o aq,aF,aU,bW,dV⟩
  ·have aI:s.heap.get? b=some o:=e;rw [z] at aI;exact absurd (Heap.lt_size aI) (Nat.not_lt.mpr (Nat.le_succ _))
end
end iS
namespace bC
open PySem PySem.Spec PyProof.Rows
noncomputable def sV (H:aj) (x:V) (c:List Int):Prop := ∃ a,x=.ref a/\H a=some (.tup (c.map V.int))
noncomputable def dy (H:aj) (xs:List V) (cs:List (List Int)):Prop:=xs.length=cs.length /\ ∀ (i:Nat) (x:V),xs[i]?=some x -> ∃ c,cs[i]?=some c/\sV H x c
theorem Vals.getD_map {ag:List Nat} {xs:List V} {us:List Value} (r:Vals xs us) (h : ∀ i∈ag,i<xs.length):Vals (ag.map λ i=>xs.getD i .bp) (ag.map λ i=>us.getD i Value.none):=by
 induction ag with
 | nil=>exact .nil
 | cons p ag cI =>
  have ay:=h p List.mem_cons_self;have ah:xs[p]?=some xs[p]:=List.getElem?_eq_getElem ay;obtain ⟨u,b_,dA⟩:=r.get ah;refine .cons ?_ (cI λ i ax=>h i (List.mem_cons_of_mem _ ax));show RelV (xs.getD p .bp) (us.getD p Value.none);rw [List.getD_eq_getElem?_getD,List.getD_eq_getElem?_getD,ah,b_];exact dA
section
variable {X:aQ}
theorem UA {pins:List (Addr×Obj)} {σ:St} {H:aj} {s:Shared} (I:Inv X pins σ H s) {xs:List V} {us:List Value} {ns:List (List Int)} (r:Vals xs us) (h:dy H xs ns) (c5 : ∀ c∈ns,c≠[]):iS.lG s.heap us ns:=by
 refine ⟨by rw [<-r.length];exact h.1,λ i ax=>?_⟩;have kv:i<xs.length:=by rw [r.length];exact ax
 obtain ⟨c,ao,a,dG,av⟩:=h.2 i _ (List.getElem?_eq_getElem kv);obtain ⟨u,b_,dA⟩:=r.get (List.getElem?_eq_getElem kv);rw [dG] at dA;cases dA;obtain ⟨its,bY,⟨o,aO,r8,n,hd⟩,_⟩:=I.tuple (aW.of av);refine ⟨a,o,its.toArray,n,by rw [List.getD_eq_getElem?_getD,b_];rfl,aO,r8,hd,?_,?_⟩
 ·rw [List.getD_eq_getElem?_getD,ao];exact intsAre_of bY
 ·rw [List.getD_eq_getElem?_getD,ao];exact c5 c (List.mem_of_getElem? ao)
theorem Zb:eN X (.builtin "sorted") (λ vs H Q => ∃ l xs ns,vs=[.ref l]/\H l=some (.lst xs)/\dy H xs ns/\(∀ c∈ns,c≠[])/\xs.length<64/\gY (.lst ((iS.gI ns).map λ i=>xs.getD i .bp)) H Q):=by
 intro pins s σ H xs us Q I r h;obtain ⟨l,xs,ns,rfl,au,ar,c5,mB,q⟩:=h;obtain ⟨u,rfl,aT⟩:=vals1 r;cases aT;obtain ⟨z,its,n,bE,hlen,b6⟩:=I.jy au;refine iS.Um (show s.heap.IsList l its.toArray from ⟨_,b6,rfl,n,rfl⟩) (UA I bE ar c5) (by omega) λ h' c g1 g2=>?_
 have ay:s.heap.objs.size<=s.heap.objs.size+1:=Nat.le_succ _;refine ⟨.ref (s.heap.objs.size+1),_,I.laid (t':=s.toks) g2 ay (show dv X.prog X.w _ h' _ (.lst ((iS.gI ns).map λ i=>xs.getD i .bp)) from ⟨?_,_,c,bE.getD_map λ i ax=>by rw [ar.1];exact iS.Hw ax,g1⟩),rfl,q.at _ (I.a0.fresh ay)⟩;rw [List.length_map,(iS.pA ns).length_eq,List.length_range,<-ar.1];exact z
end
end bC
namespace om
open PySem PyProof.Rows
theorem Z4 (o:Obj) (f:Array Value->Array Value):(Obj.mapFields f o).dict=o.dict:=by
 unfold Obj.mapFields;split<;>rfl
noncomputable def Rec (h:Heap) (e:Addr) (C:Value) (d:Option Addr) (head:Value):Prop := ∃ bT vs,h.get? e=some bT/\bT.cls=C/\bT.dict=d/\bT.data=.fields vs/\vs[1]?=some head/\vs[2]?=some .none
noncomputable def Ent (h:Heap) (T:Addr) (df:Value):Prop := ∃ rx gE,h.get? T=some rx/\rx.data=.fields gE/\gE[3]?=some df
noncomputable abbrev lp (l:List Env):List Addr:=l.filterMap (·.frame)
noncomputable def iu (L F:List Addr) (h h':Heap):Prop:=(∀ b o,b∉L->b∉F->h.get? b=some o->h'.get? b=some o) /\ ∀ b o,b∉L->b∈F->h.get? b=some o -> ∃ cq,h'.get? b=some { o with slots:=cq }
theorem iu.trans {L Dm F:List Addr} {h af aq:Heap} (x:iu L F h af) (y:iu Dm F af aq):iu (L++Dm) F h aq:=by
 refine ⟨λ b o nl fl e=>?_,λ b o nl hf e=>?_⟩
 ·exact y.1 b o (λ z=>nl (List.mem_append_right _ z)) fl (x.1 b o (λ z=>nl (List.mem_append_left _ z)) fl e)
 ·obtain ⟨cq,aE⟩:=x.2 b o (λ z=>nl (List.mem_append_left _ z)) hf e;obtain ⟨nO,aI⟩:=y.2 b _ (λ z=>nl (List.mem_append_right _ z)) hf aE;exact ⟨nO,aI⟩
section
variable {M:Model} {A:Around} {E:Value->Shared->Prop} {s:Shared}
theorem Gp {base:Heap} {env:Env} {outer:List Env} {L e:Addr} {bT:Obj} {vs:Array Value} {head:Value} {S7:Bool} {Q:Unit->Shared->Prop}
  (ft:A.frames=some (env::outer)) (au:s.heap.FunFrames base (env::outer)) (hf:env.frame=some L)
  (he:s.heap.get? e=some bT) (hd:bT.data=.fields vs) (hsz:1<vs.size) (aq:vs[2]?=some .none)
  (h : ∀ h' T,s.heap.get? T=none->iu [e] (lp (env::outer)) s.heap h'->Rec h' e bT.cls bT.dict (.ref T)->Ent h' T (rawInt L)->Q () { s with heap:=h' }) :
  wpAny M A (do let a ← frameOf env;let pl ← entryPlaceOf L S7;let b ← EntryCells.newEntry head a .none (rawInt L) .none pl;setField (.ref e) 1 b) Q E s:=by
 have PZ:e∉lp (env::outer):=λ hm=>by
  obtain ⟨_,o,aO,mH⟩:=au.mem hm;rw [he] at aO;injection aO with aO;subst aO;exact mH vs hd
 refine wpAny_bind (wpAny_frameOf_fun ft au hf λ af lC=>?_);refine wpAny_bind (wpAny_entryPlaceOf λ pl cW=>?_);unfold EntryCells.newEntry newFields;refine wpAny_bind (wpAny_newObj_type ?_ (cW.sizeOk5 _ _ _ _ _));have D7:af.get? e=some bT:=(lC.2.1 e PZ).trans he;have D8:=Heap.get?_push_of_some (h:=af) { cls:=.type "traceback", dict:=none,data:=.fields ([head,.ref L,.none,rawInt L,.none]++(if pl.isEmpty then List.replicate 6 Value.none else pl)).toArray } D7;have uQ:af.objs.size≠e:=Nat.ne_of_gt (Heap.lt_size D7);have gf:=Obj.data_mapFields hd (·.setIfInBounds 1 (Value.ref af.objs.size));have NK:=Heap.get?_update_self (Obj.mapFields (·.setIfInBounds 1 (Value.ref af.objs.size))) D8 (Obj.isFreed_of_fields gf);refine wpAny_setField D8 hd hsz (h _ af.objs.size ?_ ⟨λ b o nl fl q=>?_,λ b o nl aa q=>?_⟩ ⟨_,_,NK,Obj.cls_mapFields _ _,Z4 _ _,gf,by simp [hsz],by simp [aq]⟩ ⟨_,_,(Heap.get?_update_other _ _ (Ne.symm uQ)).trans (Heap.get?_push_size af rfl),rfl,?_⟩)
 ·cases q:s.heap.get? af.objs.size with
  | none=>rfl
  | some o=>have:=Heap.lt_size q;rw [<-lC.1] at this;exact absurd this (Nat.lt_irrefl _)
 ·have ze:b≠e:=λ z=>nl (by rw [z];exact List.mem_singleton.mpr rfl)
  rw [Heap.get?_update_other _ _ (Ne.symm ze)];exact Heap.get?_push_of_some _ ((lC.2.1 b fl).trans q)
 ·have ze:b≠e:=λ z=>nl (by rw [z];exact List.mem_singleton.mpr rfl)
  obtain ⟨cq,aE⟩:=lC.2.2 b o q;refine ⟨cq,?_⟩;rw [Heap.get?_update_other _ _ (Ne.symm ze)];exact Heap.get?_push_of_some _ aE
 ·first | (simp;done) | (rcases cW with rfl | ⟨_,_,_,_,_,_,_,rfl⟩<;>simp)
theorem Vm {base:Heap} {env:Env} {outer:List Env} {L e:Addr} {C:Value} {d:Option Addr} {Q:Unit->Shared->Prop}
  (ft:A.frames=some (env::outer)) (au:s.heap.FunFrames base (env::outer)) (hf:env.frame=some L) (ar:Rec s.heap e C d .none)
  (h : ∀ h' T,s.heap.get? T=none->iu [e] (lp (env::outer)) s.heap h'->Rec h' e C d (.ref T)->Ent h' T (rawInt L)->Q () { s with heap:=h' }):wpAny M A (noteFrame (.ref e) env) Q E s:=by
 obtain ⟨bT,vs,he,rfl,rfl,hd,af,aq⟩:=ar;unfold noteFrame;simp only [hf];refine wpAny_bind (wpAny_field he hd af ?_);rw [if_neg (show ¬ ((Value.none != Value.none)=true) by decide)];exact Gp ft au hf he hd (Array.getElem?_eq_some_iff.mp af).1 aq h
theorem Tp {base:Heap} {env:Env} {outer:List Env} {L e T0:Addr} {C:Value} {d:Option Addr} {Q:Unit->Shared->Prop}
  (ft:A.frames=some (env::outer)) (au:s.heap.FunFrames base (env::outer)) (hf:env.frame=some L) (ar:Rec s.heap e C d (.ref T0)) (aZ:Ent s.heap T0 .none) (c5:T0≠e)
  (h : ∀ h' T,s.heap.get? T=none->iu [e,T0] (lp (env::outer)) s.heap h'->Rec h' e C d (.ref T)->Ent h' T (rawInt L)->Q () { s with heap:=h' }):wpAny M A (noteFrame (.ref e) env) Q E s:=by
 obtain ⟨bT,vs,he,rfl,rfl,hd,af,aq⟩:=ar;obtain ⟨rx,gE,cz,lx,aF⟩:=aZ;unfold noteFrame;simp only [hf];refine wpAny_bind (wpAny_field he hd af ?_);rw [if_pos (show (Value.ref T0 != Value.none)=true from by simp)];refine wpAny_bind (wpAny_field cz lx aF ?_);rw [if_neg (show ¬ ((Value.none == rawInt L)=true) from by simp [rawInt])];refine wpAny_bind (wpAny_setField cz lx (Array.getElem?_eq_some_iff.mp aF).1 ?_);have other : ∀ b,b≠T0->(s.heap.update T0 (Obj.mapFields (·.setIfInBounds 3 Value.none))).get? b=s.heap.get? b:=λ b aa=>Heap.get?_update_other _ _ (Ne.symm aa)
 have Vk : ∀ b o,s.heap.get? b=some o->(∀ vs,o.data≠.fields vs)->b≠T0:=λ b o aa mH q=>by
  rw [q,cz] at aa;injection aa with aa;subst aa;exact mH gE lx
 refine Gp ft (au.of_keeps λ b o aa mH=>⟨o,(other b (Vk b o aa mH)).trans aa,rfl⟩) hf ((other e (Ne.symm c5)).trans he) hd (Array.getElem?_eq_some_iff.mp af).1 aq λ h' T r5 h2 fW sr=>?_
 refine h h' T ?_ ⟨λ b o nl fl q=>?_,λ b o nl aa q=>?_⟩ fW sr
 ·cases q:s.heap.get? T with
  | none=>rfl
  | some o =>
   by_cases z:T=T0
   ·have b_:=Heap.get?_update_self (Obj.mapFields (·.setIfInBounds 3 Value.none)) cz (Obj.isFreed_of_fields (Obj.data_mapFields lx _));rw [<-z] at b_;rw [z] at r5;rw [z] at b_;rw [b_] at r5;cases r5
   ·rw [other T z,q] at r5;cases r5
 ·have cJ:b≠T0:=λ z=>nl (by rw [z];simp)
  exact h2.1 b o (λ z=>nl (by rw [List.mem_singleton.mp z];simp)) fl ((other b cJ).trans q)
 ·have cJ:b≠T0:=λ z=>nl (by rw [z];simp)
  exact h2.2 b o (λ z=>nl (by rw [List.mem_singleton.mp z];simp)) aa ((other b cJ).trans q)
theorem land {F:List Addr} {e T:Addr} {C df:Value} {d:Option Addr} {Q:Unit->Shared->Prop} (ar:Rec s.heap e C d (.ref T)) (aZ:Ent s.heap T df) (c5:T≠e) (ea : ∀ b∈F,b≠T)
  (h : ∀ h',iu [T] F s.heap h'->Rec h' e C d (.ref T)->Ent h' T .none->Q () { s with heap:=h' }):wpAny M A (setFlight (.ref e) none) Q E s:=by
 obtain ⟨bT,vs,he,fk,D6,hd,af,aq⟩:=ar;obtain ⟨rx,gE,cz,lx,aF⟩:=aZ;have Fi:3<gE.size:=(Array.getElem?_eq_some_iff.mp aF).1;unfold setFlight;refine wpAny_bind (wpAny_field he hd af ?_);rw [if_pos (show (Value.ref T != Value.none)=true from by simp)];refine wpAny_setField cz lx Fi (h _ ⟨λ b o nl _ q=>(Heap.get?_update_other _ _ (λ z=>nl (by rw [z];exact List.mem_singleton.mpr rfl))).trans q,λ b o nl _ q=>⟨o.slots,(Heap.get?_update_other _ _ (λ z=>nl (by rw [z];exact List.mem_singleton.mpr rfl))).trans q⟩⟩
  ⟨bT,vs,(Heap.get?_update_other _ _ c5).trans he,fk,D6,hd,af,aq⟩ ⟨_,_,Heap.get?_update_self _ cz (Obj.isFreed_of_fields (Obj.data_mapFields lx _)),Obj.data_mapFields lx _,by simp [Fi]⟩)
noncomputable def tg (h:Heap) (e:Addr) (head:Value) (L:List Addr):Prop:=(head=.none/\L=[]) \/ ∃ T,head=.ref T/\Ent h T .none/\T≠e/\L=[T]
theorem Q7 {base:Heap} {env:Env} {outer:List Env} {L e:Addr} {C head:Value} {d:Option Addr} {hO:List Addr} {Q:Unit->Shared->Prop}
  (ft:A.frames=some (env::outer)) (au:s.heap.FunFrames base (env::outer)) (hf:env.frame=some L) (ar:Rec s.heap e C d head) (bI:tg s.heap e head hO)
  (h : ∀ h' T,s.heap.get? T=none->iu (e::hO) (lp (env::outer)) s.heap h'->Rec h' e C d (.ref T)->Ent h' T (rawInt L)->Q () { s with heap:=h' }):wpAny M A (noteFrame (.ref e) env) Q E s:=by
 rcases bI with ⟨rfl,rfl⟩ | ⟨T0,rfl,aZ,c5,rfl⟩
 ·exact Vm ft au hf ar h
 ·exact Tp ft au hf ar aZ c5 h
theorem landed {base:Heap} {env:Env} {outer:List Env} {L e:Addr} {C head:Value} {d:Option Addr} {hO:List Addr} {Q:Unit->Shared->Prop}
  (ft:A.frames=some (env::outer)) (au:s.heap.FunFrames base (env::outer)) (hf:env.frame=some L) (ar:Rec s.heap e C d head) (bI:tg s.heap e head hO)
  (h : ∀ h' T,s.heap.get? T=none->T≠e->iu (e::hO) (lp (env::outer)) s.heap h'->Rec h' e C d (.ref T)->Ent h' T .none->Q () { s with heap:=h' }) :
  wpAny M A (noteFrame (.ref e) env) (λ _ s'=>wpAny M A (setFlight (.ref e) none) Q E s') E s:=by
 refine Q7 ft au hf ar bI λ af T cz k1 bG t1=>?_
 have uQ:T≠e:=λ z=>by
  obtain ⟨bT,_,he,_⟩:=ar;rw [z,he] at cz;cases cz
 have Nz : ∀ b∈lp (env::outer),b≠T:=λ b aa z=>by
  obtain ⟨_,o,aO,_⟩:=au.mem aa;rw [z,cz] at aO;cases aO
 refine land (F:=lp (env::outer)) (s:={ s with heap:=af }) bG t1 uQ Nz λ aq k2 cb bf=>?_
 have k:=k1.trans k2;refine h aq T cz uQ ⟨λ b o nl fl q=>k.1 b o (λ z=>?_) fl q,λ b o nl aa q=>k.2 b o (λ z=>?_) aa q⟩ cb bf
 all_goals
  rcases List.mem_append.mp z with z | z
  ·exact nl z
  ·rw [List.mem_singleton.mp z,cz] at q;cases q
theorem leave {base:Heap} {env:Env} {outer:List Env} {L e:Addr} {C head:Value} {d:Option Addr} {hO:List Addr} {Q:Unit->Shared->Prop}
  (ft:A.frames=some (env::outer)) (au:s.heap.FunFrames base (env::outer)) (hf:env.frame=some L) (ar:Rec s.heap e C d head) (bI:tg s.heap e head hO)
  (h : ∀ h' T,s.heap.get? T=none->T≠e->iu (e::hO) (lp (env::outer)) s.heap h'->Rec h' e C d (.ref T)->Ent h' T .none->Q () { s with heap:=h' }):wpAny M A (leaving env (.ref e)) Q E s:=by
 unfold leaving;exact wpAny_bind (landed ft au hf ar bI h)
end
end om
namespace bC
open PySem PySem.Spec PyProof.Rows om
theorem dv.some {P:Program} {w:World} {H:aj} {h:Heap} {a:Addr} {o:dz} (x:dv P w H h a o) : ∃ bJ,h.get? a=some bJ:=by
 cases o with
 | lst xs=>obtain ⟨_,_,_,_,e⟩:=x;exact ⟨_,e⟩
 | tup xs=>obtain ⟨_,_,_,bJ,e,_⟩:=x;exact ⟨_,e⟩
 | cM kvs=>obtain ⟨_,_,_,_,o,_,_,e,_⟩:=x;exact ⟨_,e⟩
 | eI kvs=>obtain ⟨_,_,_,_,o,_,_,e,_⟩:=x;exact ⟨_,e⟩
 | set S n=>obtain ⟨o,_,_,_,e,_⟩:=x;exact ⟨_,e⟩
 | ins C aG ak=>obtain ⟨_,_,_,e,_⟩:=x;exact ⟨_,e⟩
 | own y=>obtain ⟨_,e⟩:=x;exact ⟨_,e⟩
 | h5 ak=>obtain ⟨_,⟨_,_,_,e,_⟩,_⟩:=x;exact ⟨_,e⟩
 | nL lo ax=>obtain ⟨_,_,_,e⟩:=x;exact ⟨_,e⟩
 | hL bJ u=>obtain ⟨e,_⟩:=x;exact ⟨_,e⟩
 | mS ag=>exact ⟨_,(show h.get? a=Option.some _ from x)⟩
 | met f y=>exact ⟨_,(show h.get? a=Option.some _ from x)⟩
 | ext φ => obtain ⟨_,⟨_,e⟩,_⟩:=x;exact ⟨_,e⟩
theorem dM.gone {P:Program} {w:World} {H:aj} {h:Heap} (x:dM P w H h) {a:Addr} (e:h.get? a=none):H a=none:=by
 cases q:H a with
 | none=>rfl
 | some o =>
  obtain ⟨bJ,z⟩:=(x a o q).some;rw [e] at z;cases z
theorem dM.n_ {P:Program} {w:World} {H:aj} {h h':Heap} {L F:List Addr} (x:dM P w H h) (k:iu L F h h') (dK : ∀ b∈L,H b=none) (ea : ∀ b∈F,H b=none):dM P w H h':=λ a o e =>
 (x a o e).hV (λ b u aa q=>by
  have aC:H b≠none:=by
   rcases aa with rfl | z
   ·rw [e];simp
   ·rw [z];simp
  exact k.1 b u (λ z=>aC (dK b z)) (λ z=>aC (ea b z)) q) (λ _ q=>q) λ _ _ q=>q
theorem eH.n_ {ak:List Addr} {g8 H:aj} {h0 h h':Heap} {L F:List Addr} (u:eH ak [] g8 H h0 h) (k:iu L F h h') (dK : ∀ b∈L,h0.get? b=none) (ea : ∀ b∈F,b∈ak\/h0.get? b=none):eH ak [] g8 H h0 h':=by
 have rv : ∀ b o,h0.get? b=some o->b∉L:=λ b o e z=>by rw [dK b z] at e;cases e
 refine ⟨λ b o e n fl bl=>?_,λ b o e n hf bl=>?_,u.free,λ b o e bl=>?_,u.i4,u.ih,u.i3⟩
 ·refine k.1 b o (rv b o e) (λ z=>?_) (u.keep b o e n fl bl);rcases ea b z with z | z
  ·exact fl z
  ·rw [z] at e;cases e
 ·obtain ⟨cq,aE⟩:=u.slot b o e n hf bl;by_cases aa:b∈F
  ·obtain ⟨nO,aI⟩:=k.2 b _ (rv b o e) aa aE;exact ⟨nO,aI⟩
  ·exact ⟨cq,k.1 b _ (rv b o e) aa aE⟩
 ·obtain ⟨eb,aE⟩:=u.there b o e bl;by_cases aa:b∈F
  ·obtain ⟨nO,aI⟩:=k.2 b _ (rv b o e) aa aE;exact ⟨_,aI⟩
  ·exact ⟨_,k.1 b _ (rv b o e) aa aE⟩
noncomputable def rG (P:Program) (w:World):hG:=λ outer H s E ev s' => ∃ (e T C:Addr) (d:Option Addr) (H':aj),ev=.ref e/\s'.os=s.os/\AllBare s'.gens/\eH (eV outer) [] H H' s.heap s'.heap/\dM P w H' s'.heap /\
 s.heap.get? e=none/\s.heap.get? T=none/\T≠e/\H' e=none/\H' T=none/\Rec s'.heap e (.ref C) d (.ref T)/\Ent s'.heap T .none/\E (.ref C) d H'
structure fN (X:aQ) (pins:List (Addr×Obj)) (e:Addr):Prop where
 s0:X.s₀.heap.get? e=none
 loc:e≠X.env.locals
 cell : ∀ x c,X.env.cells.lookup x=some c->c≠e
 pin : ∀ p∈X.iP++pins,p.1≠e
theorem fN.of {X:aQ} {pins:List (Addr×Obj)} {σ:St} {H:aj} {s:Shared} (I:Inv X pins σ H s) (ah:X.ex=[]) {e:Addr} (h:s.heap.get? e=none):fN X pins e:=by
 refine ⟨?_,?_,λ x c ao z=>?_,λ p ay z=>?_⟩
 ·cases q:X.s₀.heap.get? e with
  | none=>rfl
  | some o =>
   obtain ⟨eb,z⟩:=I.base.there e o q (by rw [ah];simp);rw [h] at z;cases z
 ·intro z;obtain ⟨m,⟨o,_,_,aO,_⟩,_⟩:=I.loc;rw [z,aO] at h;cases h
 ·obtain ⟨v,o,aO,_⟩:=I.cell x c ao;rw [<-z,aO] at h;cases h
 ·obtain ⟨aO,_⟩:=I.pin p ay;rw [<-z,aO] at h;cases h
noncomputable def DS (X:aQ) (E:dF):Prop := ∀ (pins:List (Addr×Obj)) (σ:St) (H:aj) (s:Shared) (e C:Addr) (d:Option Addr) (head:Value) (au:List Addr),Inv X pins σ H s->fN X pins e->H e=none ->
 Rec s.heap e (.ref C) d head->tg s.heap e head au->(∀ b∈au,fN X pins b/\H b=none)->E (.ref C) d H->X.cB (.ref e) s
theorem SQ {P:Program} {w:World} {K:PySem.W.Frag} {mg:Str->Option Value} {base:Heap} {N:List Str} {qual:Str} {scope:Scope} {f:Addr} {cd:Value} {A:Around} {outer:List Env} {s0:Shared} {g8:aj} {E:dF} :
  DS (kJ (rG P w) P w K mg base N qual scope f cd A outer s0 g8 E) E:=by
 intro pins σ H s e C d head au I gm iC ar bI se hZ;show wpAny (model P w) (A.deeper (envOfC qual scope s0.heap.objs.size f cd)) (leaving (envOfC qual scope s0.heap.objs.size f cd) (.ref e)) _ _ s;have NO : ∀ b∈lp (envOfC qual scope s0.heap.objs.size f cd::outer),H b=none:=I.qP;refine leave (base:=base) I.ok.frames I.stack rfl ar bI λ h' T cz o4 h2 bG t1=>⟨e,T,C,d,H,rfl,I.os,I.bare,?_,?_,gm.s0,(fN.of I rfl cz).s0,o4,iC,I.a0.gone cz,bG,t1,hZ⟩
 ·refine (show eH (eV outer) [] g8 H s0.heap s.heap from I.base).n_ h2 (λ b aa=>?_) (λ b aa=>?_)
  ·rcases List.mem_cons.mp aa with z | z
   ·rw [z];exact gm.s0
   ·exact (se b z).1.s0
  ·rcases List.mem_cons.mp (show b∈s0.heap.objs.size::eV outer from aa) with z | z
   ·refine .inr ?_;cases q:s0.heap.get? b with
    | none=>rfl
    | some o=>have:=Heap.lt_size q;rw [z] at this;exact absurd this (Nat.lt_irrefl _)
   ·exact .inl z
 ·refine I.a0.n_ h2 (λ b aa=>?_) NO;rcases List.mem_cons.mp aa with z | z
  ·rw [z];exact iC
  ·exact (se b z).2
noncomputable abbrev hk:List Value:=[.type "ValueError", .type "Exception", .type "BaseException", .type "object"]
structure vk (K:PySem.W.Frag) (mg:Str->Option Value) (x:Str) (C:Addr):Prop where
 at_:mg x=some (.ref C)
 is:PySem.W.excIn K C hk "ValueError.__new__" = true
theorem vk.own {K:PySem.W.Frag} {mg:Str->Option Value} {x:Str} {C:Addr} {h:Heap} (c:vk K mg x C) (X:K.In h):OwnCls x C hk "ValueError.__new__" mg h:=by
 obtain ⟨e,q⟩:=c;refine ⟨e,?_⟩;unfold PySem.W.excIn at q;split at q
 ·rename_i dd cd cq aO;split at q
  ·rename_i aaQ bm k0 k1 k2 k3 n k5 hm aA;simp only [Bool.and_eq_true,beq_iff_eq,Bool.not_eq_true'] at q;obtain ⟨⟨⟨⟨⟨rfl,rfl⟩,Fc⟩,aZ⟩,a0⟩,uY⟩:=q;obtain ⟨nm,bs,mro,ns,oB,hd,sn,sub,ab,col,del⟩:=cd;dsimp only at hm Fc a0 uY;subst hm Fc;have Ob:cq=#[k0,k1,k2,k3,some (.builtin "ValueError.__new__"),k5]:=by
    obtain ⟨l⟩:=cq;simp only at aA;rw [aA]
   subst Ob;exact ⟨bm,ns,nm,oB,bs,hd,sn,sub,ab,col,dd,k0,k1,k2,k3,k5,_,X _ _ aO,.of_isNs (PySem.W.isNs_of_in X a0),PySem.W.nsMap_none_of_in X a0 uY,PySem.W.tail_of_in X aZ⟩
  ·cases q
 ·cases q
theorem Inv.n_ {X:aQ} {pins:List (Addr×Obj)} {σ:St} {H:aj} {s:Shared} {h':Heap} {L:List Addr} (I:Inv X pins σ H s) (ah:X.ex=[]) (h2:iu L (eV X.stack) s.heap h') (dK : ∀ b∈L,fN X pins b/\H b=none) :
  Inv X pins σ H { s with heap:=h' }:=by
 have one : ∀ b o,b∉L->s.heap.get? b=some o -> ∃ cq,h'.get? b=some { o with slots:=cq }:=λ b o nl e=>by
  by_cases aa:b∈eV X.stack
  ·exact h2.2 b o nl aa e
  ·exact ⟨o.slots,h2.1 b o nl aa e⟩
 refine ⟨I.ok,I.os,I.bare,?_,?_,λ x c e=>?_,I.free,I.gx,λ p ay=>?_,I.a0.n_ h2 (λ b aa=>(dK b aa).2) I.qP,I.len⟩
 ·rw [ah];have u:=I.base;rw [ah] at u;refine u.n_ h2 (λ b aa=>(dK b aa).1.s0) λ b aa=>?_
  rcases List.mem_cons.mp (I.m5 b aa) with z | z
  ·refine .inr ?_;cases q:X.s₀.heap.get? b with
   | none=>rfl
   | some o =>
    have:=Nat.lt_of_lt_of_le (Heap.lt_size q) I.ok.above;rw [z] at this;exact absurd this (Nat.lt_irrefl _)
  ·exact .inl z
 ·obtain ⟨m,⟨o,es,ep,aO,r⟩,au⟩:=I.loc;obtain ⟨cq,aE⟩:=one X.env.locals o (λ z=>(dK _ z).1.loc rfl) aO;refine ⟨m,⟨_,es,ep,aE,r⟩,λ i x v a b c=>?_⟩;obtain ⟨u,bE,l⟩:=au i x v a b c;refine ⟨u,bE,?_⟩;rcases l with l | ⟨k,c,e,eu,kA,hd⟩
  ·exact .inl l
  ·obtain ⟨nO,aI⟩:=one c eu (λ z=>(dK _ z).1.cell x c e rfl) kA;exact .inr ⟨k,c,e,_,aI,hd⟩
 ·obtain ⟨v,eu,kA,hd⟩:=I.cell x c e;obtain ⟨nO,aI⟩:=one c eu (λ z=>(dK _ z).1.cell x c e rfl) kA;exact ⟨v,_,aI,hd⟩
 ·obtain ⟨e,n,ne,fl,d⟩:=I.pin p ay;refine ⟨h2.1 p.1 p.2 (λ z=>(dK _ z).1.pin p ay rfl) (λ z=>?_) e,n,ne,fl,d⟩;rcases List.mem_cons.mp (I.m5 p.1 z) with y | y
  ·exact ne y
  ·exact fl y
theorem XO {X:aQ} {pins:List (Addr×Obj)} {σ:St} {H:aj} {s:Shared} {M:Model} {A:Around} {E:Value->Shared->Prop} {i:Nat} {x:Str} {v:V} {Q:Unit->Shared->Prop} (I:Inv X pins σ H s) (c8:X.N.Nodup) (ax:X.N[i]?=some x) (aB:X.env.scope.names.lookup x=some .local) (a7:σ[i]?=some (some v))
  (h : ∀ s',Inv X pins (σ.set i none) H s'->Q () s'):wpAny M A (unbindName X.env x) Q E s:=by
 obtain ⟨m,aC,au⟩:=id I.loc;have zD:(X.env.scope.kind == .class||(X.env.scope.kind == .module&&X.env.locals != X.env.globals))=false:=by rw [I.ok.kind];rfl
 obtain ⟨u,_,lk⟩:=au i x v ax a7 (.inl aB);have hm:m x=some u:=by
  rcases lk with ⟨_,e⟩ | ⟨k,_⟩
  ·exact e
  ·have fS:X.env.scope.names.lookup x=some .cell\/X.env.scope.names.lookup x=some .free:=k;rw [aB] at fS;rcases fS with z | z<;>cases z
 refine wpAny_unbindName_local aB aC hm zD λ h' cP oZ aA=>?_
 obtain ⟨Dx,_,_,sk,_⟩:=id aC;have sD : ∀ b o,X.s₀.heap.get? b=some o->b≠X.env.locals:=λ b o e=>Nat.ne_of_lt (Nat.lt_of_lt_of_le (Heap.lt_size e) I.ok.above)
 refine h _ ⟨I.ok,I.os,I.bare,⟨λ b o e n aa ah=>?_,λ b o e n aa ah=>?_,I.base.free,λ b o e ah=>?_,I.base.i4,I.base.ih,I.base.i3⟩,⟨_,oZ,λ j y hF aE aI cx=>?_⟩,λ y c e=>?_,I.free,I.gx,λ p ay=>?_,?_,?_⟩
 ·exact (aA.2 b (sD b o e)).trans (I.base.keep b o e n aa ah)
 ·obtain ⟨cq,aE⟩:=I.base.slot b o e n aa ah;exact ⟨cq,(aA.2 b (sD b o e)).trans aE⟩
 ·obtain ⟨eb,aE⟩:=I.base.there b o e ah;exact ⟨eb,(aA.2 b (sD b o e)).trans aE⟩
 ·by_cases bj:j=i
  ·subst bj;have hiσ:j < σ.length:=(List.getElem?_eq_some_iff.mp a7).1;rw [List.getElem?_set_self hiσ] at aI;cases aI
  ·rw [List.getElem?_set_ne (Ne.symm bj)] at aI;obtain ⟨mh,bY,q⟩:=au j y hF aE aI cx;refine ⟨mh,bY,?_⟩;rcases q with ⟨k,e⟩ | ⟨k,c,e,z⟩
   ·refine .inl ⟨k,?_⟩;have:y≠x:=λ e=>bj (A9 c8 aE (e ▸ ax))
    simp [this,e]
   ·exact .inr ⟨k,c,e,z.sameBut aA (I.mr y c e)⟩
 ·obtain ⟨fH,z⟩:=I.cell y c e;exact ⟨fH,z.sameBut aA (I.mr y c e)⟩
 ·obtain ⟨e,n,ne,fl,d⟩:=I.pin p ay;exact ⟨(aA.2 p.1 ne).trans e,n,ne,fl,d⟩
 ·intro b bJ e;refine (I.a0 b bJ e).hV (λ c cP ao q=>(aA.2 c ?_).trans q) (λ _ q=>q) λ _ _ q=>q
  rintro rfl;rcases ao with rfl | ao
  ·rw [I.free] at e;cases e
  ·rw [I.free] at ao;cases ao
 ·rw [List.length_set];exact I.len
noncomputable def nW (e C:Addr) (d:Option Addr):dz:=.ext λ h => ∃ bT vs,h.get? e=some bT/\bT.cls=.ref C/\bT.dict=d/\bT.data=.fields vs/\vs[2]?=some .none
theorem Rec.ok {P:Program} {w:World} {H:aj} {h:Heap} {e C:Addr} {d:Option Addr} {head:Value} (r:Rec h e (.ref C) d head):dv P w H h e (nW e C d):=by
 obtain ⟨bT,vs,he,ao,hd,hf,_,aq⟩:=r;refine ⟨⟨bT,vs,he,ao,hd,hf,aq⟩,⟨_,he⟩,?_⟩;rintro af aq ⟨zj,sR,a,b,c,d'⟩ k;exact ⟨zj,sR,k _ a,b,c,d'⟩
theorem Inv.known {X:aQ} {pins:List (Addr×Obj)} {σ:St} {H:aj} {s:Shared} {e:Addr} {o:dz} (I:Inv X pins σ H s) (ah:X.ex=[]) (gm:fN X pins e) (he:H e=none) (ok:dv X.prog X.w (upd H e o) s.heap e o) (fl : ∀ b∈eV X.stack,b≠e):Inv X pins σ (upd H e o) s:=by
 have sD : ∀ b bJ,X.s₀.heap.get? b=some bJ->b≠e:=λ b bJ q z=>by rw [z,gm.s0] at q;cases q
 refine ⟨I.ok,I.os,I.bare,⟨I.base.keep,I.base.slot,λ b bJ q n ah=>by rw [a3 (sD b bJ q)];exact I.base.free b bJ q n ah,I.base.there,λ b xs q=>?_,λ b bJ u q=>?_,λ b ag q=>?_⟩,I.loc,I.cell,?_,λ x c q=>?_,λ p ay=>?_,λ b bJ q=>?_,I.len⟩
 ·have:=I.base.i4 b xs q;rw [a3 (b2 this he)];exact this
 ·have:=I.base.ih b bJ u q;rw [a3 (b2 this he)];exact this
 ·obtain ⟨m,this⟩:=I.base.i3 b ag q;exact ⟨m,by rw [a3 (b2 this he)];exact this⟩
 ·rw [a3 (Ne.symm gm.loc)];exact I.free
 ·rw [a3 (gm.cell x c q)];exact I.gx x c q
 ·obtain ⟨a,b,c,d,f⟩:=I.pin p ay;exact ⟨a,by rw [a3 (gm.pin p ay)];exact b,c,d,f⟩
 ·by_cases z:b=e
  ·subst z;rw [br] at q;cases q;exact ok
  ·rw [a3 z] at q;refine (I.a0 b bJ q).hV (λ _ _ _ q=>q) (λ c q=>?_) λ c xs q=>?_
   ·rw [a3 (b2 q he)];exact q
   ·rw [a3 (b2 q he)];exact q
noncomputable abbrev lO (X:aQ) (pins:List (Addr×Obj)) (W:Value->Shared->Prop):aQ :=
 { X with iP:=X.iP++pins,cB:=λ e s1=>wpAny (model X.prog X.w) X.A (noteFrame e X.env) (λ _ s2=>wpAny (model X.prog X.w) X.A (setFlight e none) (λ _ s3=>W e s3) X.cB s2) X.cB s1 }
noncomputable abbrev j5 (X:aQ) (e:Addr):aQ:={ X with A:=X.A.mark (some (.ref e)),calm:=false,warm:=false,cB:=λ _ _=>False }
section
variable {X:aQ} {pins qF:List (Addr×Obj)} {σ:St} {H:aj} {s:Shared} {W:Value->Shared->Prop} {e:Addr}
theorem aQ.Ok.vY (ok:X.Ok):(lO X pins W).Ok :=
 ⟨ok.mod,ok.kind,ok.glob,ok.blt,ok.above,ok.inj,ok.has,ok.mq,ok.hd,ok.frames,ok.nP,ok.p6,ok.bs,ok.hK,ok.lJ,ok.nX,ok.hs,ok.jT⟩
theorem aQ.Ok.iz (ok:(lO X pins W).Ok):X.Ok :=
 ⟨ok.mod,ok.kind,ok.glob,ok.blt,ok.above,ok.inj,ok.has,ok.mq,ok.hd,ok.frames,ok.nP,ok.p6,ok.bs,ok.hK,ok.lJ,ok.nX,ok.hs,ok.jT⟩
theorem aQ.Ok.Aq (ok:X.Ok):(j5 X e).Ok :=
 ⟨ok.mod,ok.kind,ok.glob,ok.blt,ok.above,ok.inj,ok.has,ok.mq,⟨λ h=>(nomatch h),λ h=>(nomatch h)⟩,ok.frames,ok.nP,ok.p6,ok.bs,ok.hK,ok.lJ,ok.nX,ok.hs,ok.jT⟩
theorem Inv.vY (I:Inv X pins σ H s):Inv (lO X pins W) [] σ H s :=
 ⟨I.ok.vY,I.os,I.bare,I.base,I.loc,I.cell,I.free,I.gx,λ p ay=>I.pin p (by rw [List.append_nil] at ay;exact ay),I.a0,I.len⟩
theorem Inv.iz (I:Inv (lO X pins W) qF σ H s):Inv X pins σ H s :=
 ⟨I.ok.iz,I.os,I.bare,I.base,I.loc,I.cell,I.free,I.gx,λ p ay=>I.pin p (List.mem_append_left _ ay),I.a0,I.len⟩
theorem Inv.Aq (I:Inv X pins σ H s):Inv (j5 X e) pins σ H s:=⟨I.ok.Aq,I.os,I.bare,I.base,I.loc,I.cell,I.free,I.gx,I.pin,I.a0,I.len⟩
theorem Inv.wD (ok:X.Ok) (I:Inv (j5 X e) pins σ H s):Inv X pins σ H s:=⟨ok,I.os,I.bare,I.base,I.loc,I.cell,I.free,I.gx,I.pin,I.a0,I.len⟩
theorem fN.iz {b:Addr} (f:fN (lO X pins W) qF b):fN X pins b:=⟨f.s0,f.loc,f.cell,λ p ay=>f.pin p (List.mem_append_left _ ay)⟩
end
structure Under (K:PySem.W.Frag) (C F:Addr):Prop where
 is:PySem.W.excIn K C hk "ValueError.__new__" = true
 Ol:PySem.W.mroIn K C (.ref F)=some true
 ne:C≠F
theorem hI.OV {P:Program} {w:World} {K:PySem.W.Frag} {mg:Str->Option Value} {base:Heap} {x qual:Str} {st:Stmt} {f:Addr} {fd:FuncData} {N ag:List Str} {k:Nat} {sp:bF} (F:hI K x qual st f fd) (S:bQ N ag (bA st)) (len : ∀ vs H Q E,sp vs H Q E->vs.length=ag.length)
  (m1 : ∀ (a5:Value) (A:Around) (outer:List Env) (s:Shared) (H:aj) (vs:List V) (Q:bz) (E:dF),c_ k (A.deeper (envOfC qual (bA st) s.heap.objs.size f a5))->sp vs H Q E ->
   ∃ t,hJ (kJ (rG P w) P w K mg base N qual (bA st) f a5 A outer s H E) (hA st) t/\t { bl:=λ _ H'=>Q .bp H',me:=Q } (start N vs) H):d3 P w K mg base (rG P w) (k+1) f fd ag sp:=by
 obtain ⟨eu,de,cm,doc,pm,an,a5,b1,lF,rfl,lk,hn⟩:=F.ex;exact FL lk hn S len λ A outer s H vs Q E ar dX=>let ⟨t,a,b⟩:=m1 a5 A outer s H vs Q E ar dX;⟨t,a.o,b⟩
end bC
namespace PySem.W
open PySem PySem.Spec PySem.Calls PyProof.Rows
section
variable {prog:Program} {w:World} {A:Around} {E:Value->Shared->Prop} {s:Shared} {K:Frag} {x C:Addr} {ry:Obj} {de:Option Obj}
structure sW (K:Frag) (C:Addr):Prop where
 cls:(clsIn K C).isSome=true
 ga:findIn K (.ref C) "__getattribute__" = some (some (.builtin "BaseException.__getattribute__"))
 LC:findIn K (.ref C) "__getattr__" = some none
 at_:findIn K (.ref C) "__class__" = some (some (.builtin "object.__class__"))
 get:specialIn K (.builtin "object.__class__") "__get__" = some (some (.builtin "getset_descriptor.__get__"))
 tk:takesIn K (.builtin "object.__class__")=some true
 bJ:mroIn K C (.type "object")=some true
 be:mroIn K C (.type "BaseException")=some true
theorem Wi {F0:Value} {Q:Unit->Shared->Prop} (X:K.In s.heap) (I:InstAt s.heap x ry C de) (c:sW K C) (h:Q () s):wpAny (model prog w) A (checkBuiltinCall "BaseException.__getattribute__" ⟨[.ref x,F0],[]⟩) Q E s:=by
 have aB:builtinKind "BaseException.__getattribute__" = some .slot:=by decide +kernel
 have RH:splitId "BaseException.__getattribute__" = some ("BaseException", "__getattribute__"):=by decide +kernel
 have av:=F.args_bexc_ga (.ref x) F0;obtain ⟨bI,g,d,t,os⟩:=s;have t6:=I.type (M:=model prog w);have iE:=looks_mroIn (M:=model prog w) X c.be;simp only [checkBuiltinCall,aB,RH];refine wpAny_bind ?_;unfold isInstance;refine wpAny_bind (t6.at (iE.at ?_))
 repeat (first | assumption | wp_step)
end
end PySem.W
namespace bC
open PySem PySem.Spec PyProof.Rows om
structure i5 (k:Nat) (A:Around):Prop where
 k6:A.depth+3 * k+5<recursionLimit
 un:A.units+16 * k+200<cLine
theorem c_.u {k:Nat} {A:Around} (r:c_ k A):i5 k A:=⟨r.k6,r.un⟩
theorem c_.mark {k:Nat} {A:Around} (r:c_ k A) (e:Option Value):i5 k (A.mark e):=⟨r.k6,r.un⟩
theorem i5.mono {j k:Nat} {A:Around} (r:i5 k A) (h:j<=k):i5 j A:=⟨by have:=r.k6;omega,by have:=r.un;omega⟩
theorem i5.deeper {k:Nat} {A:Around} (r:i5 (k+1) A) (env:Env):i5 k (A.deeper env) :=
 ⟨by have:=r.k6;show A.depth+1+3 * k+5<_;omega,by have:=r.un;show A.units+3+16 * k+200<_;omega⟩
theorem i5.depth {k:Nat} {A:Around} (r:i5 k A):A.depth<recursionLimit:=by have:=r.k6;omega
open PySem PySem.Spec PySem.SeqAt PyProof.Rows om
section
variable {K:PySem.W.Frag} {a b D:Addr} {js:List (Option Nat)} {g:dT} {bc:TE} {σ:St} {H1:aj} {Q:bz}
theorem UQ {xs ys:List V} (aC:min xs.length ys.length<=sizeLine) (Pv:Nat->St->aj->List V->Prop) (h0:Pv 0 (pick js σ) (upd H1 D (.lst [])) [])
  (au : ∀ i σ' H' zs,H' D=some (.lst zs)->Pv i σ' H' zs->aW K H' a xs/\aW K H' b ys)
  (aA : ∀ i x y p σ' H' zs (R:St->V->aj->Prop),xs[i]?=some x->ys[i]?=some y->H' p=none->H' D=some (.lst zs)->zs.length=i->Pv i σ' H' zs->(∀ σ2 z aX,aX D=some (.lst zs)->Pv (i+1) σ2 (upd aX D (.lst (zs++[z]))) (zs++[z])->R σ2 z aX) ->
   g (.ref p) σ' (upd H' p (.tup [x,y])) λ σ2 aH=>bc σ2 aH λ z aX=>R σ2 z aX)
  (cC : ∀ σ' H' zs,H' D=some (.lst zs)->zs.length=min xs.length ys.length->Pv (min xs.length ys.length) σ' H' zs->Q (.ref D) H'):gJ (oH K a b) D js g iy bc σ H1 Q:=by
 refine q0 aC Pv h0 (λ i σ' H' zs ax aY p=>?_) (λ σ' H' zs aY e6 c=>⟨?_,cC σ' H' zs aY e6 c⟩) λ i σ' H' zs x aw R ax aY aN p ah k=>?_
 ·obtain ⟨cn,c4⟩:=au i σ' H' zs aY p;have af:i<xs.length:=by omega
  have aq:i<ys.length:=by omega
  exact ⟨xs,ys,xs[i],ys[i],cn,c4,by simp [af],by simp [aq]⟩
 ·obtain ⟨cn,c4⟩:=au _ σ' H' zs aY c;exact ⟨xs,ys,cn,c4,by omega⟩
 ·obtain ⟨cn,c4⟩:=au i σ' H' zs aY p;obtain ⟨q,aR,rfl,dI,fs,rfl,fJ⟩:=ah;obtain ⟨ex,dP⟩:=fJ xs ys cn c4;exact aA i dI fs q σ' H' zs R ex dP aR aY aN p k
end
theorem Ku {K:PySem.W.Frag} {a D:Addr} {js:List (Option Nat)} {bc:TE} {σ:St} {H1:aj} {Q:bz} {xs:List V} {o:Option V} {σ0:St} {f:V->V} (ay:pick js σ=o::σ0) (aC:xs.length<=sizeLine) (aY:H1 D=none) (cG:aW K H1 a xs)
  (aA : ∀ (x:V) (H':aj) (R:bz),aD H1 H'->x∈xs->R (f x) H'->bc (some x::σ0) H' R) (q:Q (.ref D) (upd H1 D (.lst (xs.map f)))):gJ (nA K a) D js (fO 0) iy bc σ H1 Q:=by
 refine qS (xs:=xs) aC (λ i σ' H' ys=>(∃ u,σ'=u::σ0)/\ys=(xs.take i).map f/\H'=upd H1 D (.lst ys)) ⟨⟨o,ay⟩,rfl,rfl⟩ ?_ ?_ ?_
 ·rintro i σ' H' ys _ _ ⟨_,rfl,rfl⟩;exact cG.wx aY
 ·rintro i x σ' H' ys R ah _ _ ⟨⟨u,rfl⟩,rfl,rfl⟩ k;refine aA x _ _ (b9.aD.new aY) (List.mem_of_getElem? ah) (k _ _ _ br ⟨⟨_,rfl⟩,(pD ah).symm,AX⟩)
 ·rintro σ' H' ys _ _ ⟨_,rfl,rfl⟩;rw [List.take_length];exact q
theorem oa {X:aQ} {K:PySem.W.Frag} {es:List Expr} {k:Nat} {pos:Pos} {t:kq} {n:Nat} (dQ:X.K=K) (ao:X.warm=true) (h:rS X es t) (aC:(assignEach es X.env).length=n:=by rfl) (cC:(assignEach es X.env).findIdx? (·.1)=none:=by rfl):kd X (.Tuple es k pos) (pb K n t):=by
 subst dQ;exact pq ao h aC cC
noncomputable def QL (c:TT) (t u:cX):cX:=λ D σ H => ∃ J:St->aj->Prop,(c σ H λ b H1=>if b=true then t { D with bl:=J } σ H1 else u { D with bl:=J } σ H1) /\ ∀ σ' H',J σ' H'->D.bl σ' H'
theorem Aj {X:aQ} {c:Expr} {a b:List Stmt} {cT:TT} {t u:cX} {pos:Pos} (ao:iH X c cT) (av:hJ X a t) (aa:hJ X b u):fR X (.If c a b pos) (QL cT t u):=⟨by
 intro pins s σ H D I ⟨J,af,aq⟩;refine a_ ((b7 ao av aa).o pins s σ H { D with bl:=J } I af) λ f s' aA=>?_
 cases f with
 | next=>obtain ⟨σ',H',iD,q⟩:=aA;exact ⟨σ',H',iD,aq σ' H' q⟩
 | brk=>exact aA
 | cont=>exact aA
 | ret u=>exact aA⟩
end bC
namespace PySem.W
theorem BW {K:Frag} {C:Addr} {b:Value} {r:Bool} (h:mroIn K C b=some r):(clsIn K C).isSome=true:=by
 unfold mroIn at h;obtain ⟨cd,a,_⟩:=Option.bind_eq_some_iff.mp h;rw [a];rfl
theorem Vb {K:Frag} {C:Addr}:kitOne K (.ref C) (.ref C)=some true:=by
 unfold kitOne;rw [if_pos (by simp)]
theorem WT {K:Frag} {C D:Addr} (ty:typeIn K (.ref D)=some (.type "type")) (mo:mroIn K D (.type "object")=some true) (m:mroIn K C (.ref D)=some false) (n:C≠D):kitOne K (.ref C) (.ref D)=some false:=by
 unfold kitOne;rw [if_neg (λ z=>n (by have:=beq_iff_eq.mp z;injection this))];unfold kitCls;show (if ((clsIn K D).isSome&&typeIn K (.ref D) == some (.type "type"))=true then subIn K (.ref C) (.ref D) else none)=_;rw [BW mo,ty];exact m
theorem Ta {K:Frag} {C:Addr} (m:mroIn K C (.type "ValueError")=some true):kitOne K (.ref C) (.type "ValueError")=some true:=by
 unfold kitOne;rw [if_neg (λ z=>by cases beq_iff_eq.mp z)];unfold kitCls;show (if kitMeta "ValueError" = true then subIn K (.ref C) (.type "ValueError") else none)=_;rw [if_pos (by decide +kernel)];exact m
end PySem.W
namespace cf
noncomputable def lH (p:Nat):Nat->Nat->Nat
 | 0,_=>0
 | f+1,n=>if 2<=p/\1<=n/\n % p=0 then lH p f (n / p)+1 else 0
theorem IL (p:Nat) : ∀ f n:Nat,n<=f->lH p (f+1) n=lH p f n
 | 0,n,h=>by
  obtain rfl:n=0:=by omega
  exact if_neg (λ z=>by omega)
 | f+1,n,h=>by
  show (if 2<=p/\1<=n/\n % p=0 then lH p (f+1) (n / p)+1 else 0)=if 2<=p/\1<=n/\n % p=0 then lH p f (n / p)+1 else 0
  by_cases q:2<=p/\1<=n/\n % p=0
  ·rw [if_pos q,if_pos q,IL p f (n / p) (by have:=Nat.div_lt_self q.2.1 q.1;omega)]
  ·rw [if_neg q,if_neg q]
theorem Ax (p n:Nat) : ∀ k:Nat,lH p (n+k) n=lH p n n
 | 0=>rfl
 | k+1=>by rw [show n+(k+1)=(n+k)+1 from rfl,IL p (n+k) n (by omega)];exact Ax p n k
noncomputable def cnt (p:Nat) (n:Nat):Nat:=lH p n n
theorem GZ (p n:Nat):cnt p n=if 2<=p/\1<=n/\n % p=0 then cnt p (n / p)+1 else 0:=by
 have e:cnt p n=lH p (n+1) n:=(Ax p n 1).symm;rw [e];show (if 2<=p/\1<=n/\n % p=0 then lH p n (n / p)+1 else 0)=_;by_cases q:2<=p/\1<=n/\n % p=0
 ·rw [if_pos q,if_pos q];have lt:=Nat.div_lt_self q.2.1 q.1;have:=Ax p (n / p) (n - n / p);rw [show n / p+(n - n / p)=n by omega] at this;rw [this];rfl
 ·rw [if_neg q,if_neg q]
theorem GX {p n:Nat} (ay:2<=p) (aC:1<=n) (h:n % p=0):cnt p n=cnt p (n / p)+1:=by
 rw [GZ p n,if_pos ⟨ay,aC,h⟩]
theorem GY {p n:Nat} (h:n % p≠0):cnt p n=0:=by
 rw [GZ,if_neg λ z=>h z.2.2]
theorem UP {p:Nat} (ay:2<=p) : ∀ n:Nat,1<=n->n=p ^ cnt p n * strip p n:=by
 intro n
 induction n using Nat.strongRecOn with
 | _ n cI =>
  intro aC;by_cases h:n % p=0
  ·have af:=wO aC h;have e:=cI (n / p) (Nat.div_lt_self aC ay) af;rw [GX ay aC h,wN ay aC h,Nat.pow_succ];have aI:n=p * (n / p):=(Nat.mul_div_cancel' (Nat.dvd_of_mod_eq_zero h)).symm
   calc n=p * (n / p):=aI
    _=p * (p ^ cnt p (n / p) * strip p (n / p)):=by rw [<-e]
    _=p ^ cnt p (n / p) * p * strip p (n / p):=by rw [<-Nat.mul_assoc,Nat.mul_comm p]
  ·rw [GY h,tD h,Nat.pow_zero,Nat.one_mul]
noncomputable def lU (n:Nat):List Nat:=ei.map λ p=>cnt p n
noncomputable def chg (n d:Nat):List Int:=List.zipWith (λ a b:Nat=>(a:Int) - (b:Int)) (lU n) (lU d)
theorem X3 (n d:Nat):(chg n d).length=10:=by simp [chg,lU,ei]
noncomputable def eh (c p:List Int):Bool:=(c.zip p).all λ x=>decide (0<=x.2+x.1)
noncomputable def cv:List (List Int)->List Int->Option Nat
 | [],_=>none
 | c::r,p=>if eh c p=true then some 0 else (cv r p).map (· + 1)
noncomputable def bP (p c:List Int) (m:Int):List Int:=List.zipWith (λ a b=>a+m * b) p c
noncomputable def nn (p:List Int):Bool:=p.all λ x=>decide (0<=x)
theorem tF {p c:List Int} {m:Int} (ay:p.length=10) (ao:c.length=10):(bP p c m).length=10:=by simp [bP,ay,ao]
noncomputable def oK (rows:List (List Int)):Prop := ∀ c∈rows,c.length=10
theorem m8 : ∀ {rows:List (List Int)} {p:List Int} {i:Nat},cv rows p=some i -> ∃ c,rows[i]?=some c/\eh c p=true/\i<rows.length
 | [],_,_,h=>by cases h
 | c::r,p,i,h=>by
  unfold cv at h;by_cases ao:eh c p=true
  ·rw [if_pos ao] at h;cases h;exact ⟨c,rfl,ao,by simp⟩
  ·rw [if_neg ao] at h;cases e:cv r p with
   | none=>rw [e] at h;cases h
   | some j =>
    rw [e] at h;have bj:j+1=i:=Option.some.inj h;subst bj;obtain ⟨cj,af,aq,aF⟩:=m8 e;exact ⟨cj,by simpa using af,aq,by simp;omega⟩
theorem AB : ∀ (rows:List (List Int)) (p:List Int) (i:Nat),(∀ j,j<i -> ∀ c,rows[j]?=some c->eh c p=false)->(∀ c,rows[i]?=some c->eh c p=true)->i<rows.length->cv rows p=some i
 | [],_,_,_,_,h=>by simp at h
 | c::r,p,0,_,h,_=>by
  unfold cv;rw [if_pos (h c rfl)]
 | c::r,p,i+1,h,h',au=>by
  have h0:=h 0 (by omega) c rfl;unfold cv;rw [h0,if_neg (by decide),AB r p i (λ j bj cj e=>h (j+1) (by omega) cj (by simpa using e)) (λ cj e=>h' cj (by simpa using e)) (by simpa using au)];rfl
theorem IT : ∀ (rows:List (List Int)) (p:List Int),(∀ (j:Nat) c,rows[j]?=some c->eh c p=false)->cv rows p=none
 | [],_,_=>rfl
 | c::r,p,h=>by
  unfold cv;rw [h 0 c rfl,if_neg (by decide),IT r p λ j cj e=>h (j+1) cj (by simpa using e)];rfl
noncomputable def eM (rows:List (List Int)) (p:List Int):Option (List Int):=(cv rows p).map λ i=>bP p (rows.getD i []) 1
noncomputable def goN (rows:List (List Int)):Nat->List Int->Option (List Int)
 | 0,p=>some p
 | k+1,p=>(goN rows k p).bind (eM rows)
noncomputable def jC (rows:List (List Int)) (p:List Int) (i:Nat):Option (List Int) :=
 if nn (bP p (rows.getD i []) (-1))=true/\cv rows (bP p (rows.getD i []) (-1))=some i then some (bP p (rows.getD i []) (-1)) else none
noncomputable def j6 (rows:List (List Int)) (p:List Int):List (List Int):=(List.range rows.length).filterMap (jC rows p)
theorem BV (rows:List (List Int)) (p:List Int):(j6 rows p).length<=rows.length:=by
 have:=List.length_filterMap_le (jC rows p) (List.range rows.length);rw [List.length_range] at this;exact this
theorem Tf {p c:List Int} (ay:p.length=10) (ao:c.length=10):bP (bP p c (-1)) c 1=p:=by
 refine List.ext_getElem (by simp [bP,ay,ao]) λ i af aq=>?_
 simp only [bP,List.getElem_zipWith];omega
theorem i8 {p:List Int}:nn p=true ↔ ∀ x∈p,0<=x:=by simp [nn]
theorem wH {c p:List Int}:eh c p=true ↔ ∀ (i:Nat) (a b:Int),c[i]?=some a->p[i]?=some b->0<=b+a:=by
 unfold eh;rw [List.all_eq_true];constructor
 ·intro h i a b af aq;have aN:(c.zip p)[i]?=some (a,b):=by rw [List.getElem?_zip_eq_some];exact ⟨af,aq⟩
  exact of_decide_eq_true (h _ (List.mem_of_getElem? aN))
 ·intro h x ah;obtain ⟨i,ax⟩:=List.getElem?_of_mem ah;obtain ⟨a,b⟩:=x;rw [List.getElem?_zip_eq_some] at ax;exact decide_eq_true (h i a b ax.1 ax.2)
theorem Tn {c p:List Int} (h:eh c p=true):nn (bP p c 1)=true:=by
 rw [i8];intro x ah;obtain ⟨i,ax⟩:=List.getElem?_of_mem ah;unfold bP at ax;rw [List.getElem?_zipWith_eq_some] at ax;obtain ⟨b,a,af,aq,rfl⟩:=ax;have:=wH.mp h i a b aq af;omega
theorem tn {rows:List (List Int)} {i:Nat} {c:List Int} (h:rows[i]?=some c):rows.getD i []=c:=by
 rw [List.getD_eq_getElem?_getD,h];rfl
theorem wd {rows:List (List Int)} {p:List Int} {i:Nat} {c:List Int} (h:cv rows p=some i) (ao:rows[i]?=some c):eM rows p=some (bP p c 1):=by
 unfold eM;rw [h,<-tn ao];rfl
theorem Bh {rows:List (List Int)} {p:List Int} (h:cv rows p=none):eM rows p=none:=by
 unfold eM;rw [h];rfl
theorem Bi {rows:List (List Int)} {p q:List Int} (h:eM rows p=some q) : ∃ i c,cv rows p=some i/\rows[i]?=some c/\eh c p=true/\q=bP p c 1:=by
 unfold eM at h;cases e:cv rows p with
 | none=>rw [e] at h;cases h
 | some i =>
  rw [e] at h;obtain ⟨c,af,aq,_⟩:=m8 e;have aF:bP p (rows.getD i []) 1=q:=Option.some.inj h;rw [tn af] at aF;exact ⟨i,c,rfl,af,aq,aF.symm⟩
theorem SG {rows:List (List Int)} {p q:List Int} (ar:oK rows) (ay:p.length=10) (h:eM rows p=some q):q.length=10/\nn q=true:=by
 obtain ⟨i,c,_,aq,aF,rfl⟩:=Bi h;exact ⟨tF ay (ar c (List.mem_of_getElem? aq)),Tn aF⟩
theorem Wq {rows:List (List Int)} {p q:List Int} (ar:oK rows) (ay:q.length=10) (h:p∈j6 rows q):eM rows p=some q/\p.length=10/\nn p=true:=by
 obtain ⟨i,ax,h⟩:=List.mem_filterMap.mp h;have kv:=List.mem_range.mp ax;have ao:rows[i]?=some rows[i]:=List.getElem?_eq_getElem kv;have cU:=ar _ (List.getElem_mem kv);unfold jC at h;rw [tn ao] at h;split at h
 ·rename_i z;have h':bP q rows[i] (-1)=p:=Option.some.inj h;rw [h'] at z;refine ⟨?_,by rw [<-h'];exact tF ay cU,z.1⟩;rw [wd z.2 ao,<-h',Tf ay cU]
 ·cases h
theorem m3 {rows:List (List Int)} (ar:oK rows) {p:List Int} (ay:p.length=10) (aC:nn p=true) : ∀ {k:Nat} {q:List Int},goN rows k p=some q->q.length=10/\nn q=true
 | 0,q,h=>by cases h;exact ⟨ay,aC⟩
 | k+1,q,h=>by
  obtain ⟨r,af,aq⟩:=Option.bind_eq_some_iff.mp h;exact SG ar (m3 ar ay aC af).1 aq
noncomputable def fM (rows:List (List Int)):Nat->List Int->List Nat
 | 0,_=>[]
 | k+1,p=>match cv rows p with
  | none=>[]
  | some i=>i::fM rows k (bP p (rows.getD i []) 1)
theorem Bj {rows:List (List Int)} {p:List Int} (h:cv rows p=none) : ∀ k,fM rows k p=[]
 | 0=>rfl
 | k+1=>by simp only [fM,h]
theorem Bk {rows:List (List Int)} {p c:List Int} {i:Nat} (h:cv rows p=some i) (ao:rows[i]?=some c) (k:Nat):fM rows (k+1) p=i::fM rows k (bP p c 1):=by
 simp only [fM,h];rw [tn ao]
theorem HC (rows:List (List Int)) : ∀ (k:Nat) (p:List Int),(fM rows k p).length<=k
 | 0,_=>Nat.le_refl _
 | k+1,p=>by
  cases h:cv rows p with
  | none=>rw [Bj h];simp
  | some i =>
   obtain ⟨c,ao,_,_⟩:=m8 h;rw [Bk h ao];have:=HC rows k (bP p c 1);simp;omega
theorem wJ (rows:List (List Int)) : ∀ (k:Nat) (p:List Int),goN rows (k+1) p=(eM rows p).bind (goN rows k)
 | 0,p=>by
  show eM rows p=(eM rows p).bind λ q=>some q
  cases eM rows p<;>rfl
 | k+1,p=>by
  show (goN rows (k+1) p).bind (eM rows)=(eM rows p).bind λ q=>(goN rows k q).bind (eM rows)
  rw [wJ rows k p];cases eM rows p<;>rfl
noncomputable def gi (l:List Nat):List Int:=l.map λ n:Nat=>(n:Int)
end cf
namespace bC
open PySem PyProof.Rows
theorem HM:bootBuiltins "sorted" = some (.builtin "sorted"):=by decide +kernel
end bC
namespace b9
open PySem bC cf
noncomputable abbrev tupI (c:List Int):dz:=.tup (c.map V.int)
theorem _root_.bC.sV.same {H H':aj} {x:V} {c:List Int} (h:sV H x c) (s:aD H H'):sV H' x c:=by
 obtain ⟨a,e,av⟩:=h;exact ⟨a,e,s _ _ av⟩
theorem _root_.bC.dy.same {H H':aj} {xs:List V} {cs:List (List Int)} (h:dy H xs cs) (s:aD H H'):dy H' xs cs:=⟨h.1,λ i x e=>by
 obtain ⟨c,ao,r⟩:=h.2 i x e;exact ⟨c,ao,r.same s⟩⟩
theorem _root_.bC.dy.but {H H':aj} {xs:List V} {cs:List (List Int)} {l:Addr} {ys:List V} (h:dy H xs cs) (au:H l=some (.lst ys)) (s:b3 l H H'):dy H' xs cs:=⟨h.1,λ i x e=>by
 obtain ⟨c,ao,a,dG,av⟩:=h.2 i x e;exact ⟨c,ao,a,dG,s _ _ (dN av au (by intro z;cases z)) av⟩⟩
theorem _root_.bC.dy.nil {H:aj}:dy H [] []:=⟨rfl,λ i x e=>by cases e⟩
theorem _root_.bC.dy.app {H:aj} {xs ys:List V} {cs ds:List (List Int)} (h:dy H xs cs) (g:dy H ys ds):dy H (xs++ys) (cs++ds):=by
 refine ⟨by rw [List.length_append,List.length_append,h.1,g.1],λ i x e=>?_⟩;by_cases ax:i<xs.length
 ·rw [List.getElem?_append_left ax] at e;obtain ⟨c,ao,r⟩:=h.2 i x e;exact ⟨c,by rw [List.getElem?_append_left (by rw [<-h.1];exact ax)];exact ao,r⟩
 ·rw [List.getElem?_append_right (by omega)] at e;obtain ⟨c,ao,r⟩:=g.2 _ x e;exact ⟨c,by rw [List.getElem?_append_right (by rw [<-h.1];omega),<-h.1];exact ao,r⟩
theorem _root_.bC.dy.one {H:aj} {x:V} {c:List Int} (h:sV H x c):dy H [x] [c]:=by
 refine ⟨rfl,λ i y e=>?_⟩;cases i with
 | zero=>cases e;exact ⟨c,rfl,h⟩
 | succ i=>cases e
theorem _root_.bC.dy.at {H:aj} {xs:List V} {cs:List (List Int)} {i:Nat} {x:V} (h:dy H xs cs) (e:xs[i]?=some x) : ∃ c a,cs[i]?=some c/\x=.ref a/\H a=some (tupI c):=by
 obtain ⟨c,ao,a,dG,av⟩:=h.2 i x e;exact ⟨c,a,ao,dG,av⟩
theorem _root_.bC.dy.of {H:aj} {xs:List V} {cs:List (List Int)} {i:Nat} {c:List Int} (h:dy H xs cs) (e:cs[i]?=some c) : ∃ x a,xs[i]?=some x/\x=.ref a/\H a=some (tupI c):=by
 have ax:i<cs.length:=(List.getElem?_eq_some_iff.mp e).1;have ah:xs[i]?=some (xs[i]'(by rw [h.1];exact ax)):=List.getElem?_eq_getElem _;obtain ⟨cj,a,ao,dG,av⟩:=h.at ah;rw [e] at ao;cases ao;exact ⟨_,a,ah,dG,av⟩
noncomputable def j3 (ns:List (List Int)):List (List Int):=(iS.gI ns).map λ i=>ns.getD i []
theorem wM (ns:List (List Int)):(j3 ns).Perm ns:=iS.V_ rfl
theorem _root_.bC.dy.Pl {H:aj} {xs:List V} {ns:List (List Int)} (h:dy H xs ns):dy H ((iS.gI ns).map λ i=>xs.getD i .bp) (j3 ns):=by
 refine ⟨by unfold j3;rw [List.length_map,List.length_map],λ i x e=>?_⟩;rw [List.getElem?_map] at e;cases ay:(iS.gI ns)[i]? with
 | none=>rw [ay] at e;cases e
 | some j =>
  rw [ay] at e;have bj:j<ns.length:=iS.Hw (List.mem_of_getElem? ay);have ah:xs[j]?=some (xs[j]'(by rw [h.1];exact bj)):=List.getElem?_eq_getElem _;have ex:xs.getD j .bp=x:=Option.some.inj e;rw [List.getD_eq_getElem?_getD,ah] at ex;obtain ⟨c,ao,r⟩:=h.2 j _ ah;have DV:xs[j]'(by rw [h.1];exact bj)=x:=ex;rw [DV] at r;refine ⟨c,?_,r⟩;unfold j3;rw [List.getElem?_map,ay];show some (ns.getD j [])=some c;rw [List.getD_eq_getElem?_getD,ao];rfl
noncomputable def jz:Option Nat->V
 | none=>.bp
 | some i=>.int (i:Int)
noncomputable def eC (H:aj) (xs:List V) (ak:List (Int×Int)):Prop:=xs.length=ak.length /\ ∀ (k:Nat) (x:V),xs[k]?=some x -> ∃ i j c,ak[k]?=some (i,j)/\x=.ref c/\H c=some (.tup [.int i,.int j])/\fx i j=true
theorem eC.same {H H':aj} {xs:List V} {ak:List (Int×Int)} (h:eC H xs ak) (s:aD H H'):eC H' xs ak:=⟨h.1,λ k x e=>by
 obtain ⟨i,j,c,af,aq,aF,aU⟩:=h.2 k x e;exact ⟨i,j,c,af,aq,s _ _ aF,aU⟩⟩
theorem eC.but {H H':aj} {xs:List V} {ak:List (Int×Int)} {l:Addr} {ys:List V} (h:eC H xs ak) (au:H l=some (.lst ys)) (s:b3 l H H'):eC H' xs ak:=⟨h.1,λ k x e=>by
 obtain ⟨i,j,c,af,aq,aF,aU⟩:=h.2 k x e;exact ⟨i,j,c,af,aq,s _ _ (dN aF au (by intro z;cases z)) aF,aU⟩⟩
theorem G7 {H:aj} : ∀ {xs:List V},(∀ x∈xs,∃ (c:Addr) (i j:Int),x=.ref c/\H c=some (.tup [.int i,.int j])/\fx i j=true) -> ∃ ak,eC H xs ak
 | [],_=>⟨[],rfl,λ k x e=>by cases e⟩
 | x::xs,h=>by
  obtain ⟨c,i,j,af,aq,aF⟩:=h x List.mem_cons_self;obtain ⟨ak,f1,f2⟩:=G7 λ y aL=>h y (List.mem_cons_of_mem _ aL)
  refine ⟨(i,j)::ak,by simp [f1],λ k y e=>?_⟩;cases k with
  | zero=>cases e;exact ⟨i,j,c,rfl,af,aq,aF⟩
  | succ k=>exact f2 k y (by simpa using e)
noncomputable def rowsOf (ak:List (Int×Int)):List (List Int):=ak.map λ f=>chg f.1.toNat f.2.toNat
theorem jH (ak:List (Int×Int)):oK (rowsOf ak):=λ c ao=>by
 obtain ⟨f,_,rfl⟩:=List.mem_map.mp ao;exact X3 _ _
theorem pC (ak:List (Int×Int)):(rowsOf ak).length=ak.length:=List.length_map _
theorem JQ {i j:Int} (h:fx i j=true):(1<=i/\kW i.toNat=1)/\(1<=j/\kW j.toNat=1):=by
 unfold fx gL at h;simp only [Bool.and_eq_true,decide_eq_true_eq] at h;exact ⟨⟨h.1.1.1.1,h.1.1.2⟩,⟨h.1.2.1.1,h.1.2.2⟩⟩
theorem Ko {f:Int->Int->Int} {xs ys:List Int} {i:Nat} {x y:Int} (ah:xs[i]?=some x) (aL:ys[i]?=some y):(List.zipWith f xs ys).take (i+1)=(List.zipWith f xs ys).take i++[f x y]:=by
 have aN:(List.zipWith f xs ys)[i]?=some (f x y):=by rw [List.getElem?_zipWith_eq_some];exact ⟨x,y,ah,aL,rfl⟩
 rw [List.take_add_one,aN];rfl
theorem Kv {K:PySem.W.Frag} {a b D:Addr} {js:List (Option Nat)} {bc:TE} {σ:St} {H1:aj} {Q:bz} {xs ys:List Int} {σ0:St} {f:Int->Int->Int} (aC:min xs.length ys.length<=sizeLine) (ay : ∃ u v,pick js σ=u::v::σ0) (aY:H1 D=none)
  (av:H1 a=some (tupI xs)) (aa:H1 b=some (tupI ys))
  (aA : ∀ (x y:Int) (H':aj) (R:bz),x∈xs->y∈ys->R (.int (f x y)) H'->bc (some (.int x)::some (.int y)::σ0) H' R)
  (q : ∀ H',aD H1 H'->H' D=some (.lst ((List.zipWith f xs ys).map V.int))->Q (.ref D) H'):gJ (oH K a b) D js (pb K 2 (lL (fO 0) (lL (fO 1) qp))) iy bc σ H1 Q:=by
 obtain ⟨e_,v0,ay⟩:=ay;refine UQ (K:=K) (a:=a) (b:=b) (xs:=xs.map V.int) (ys:=ys.map V.int) (by rw [List.length_map,List.length_map];exact aC) (λ i σ' H' zs=>(∃ u v:Option V,σ'=u::v::σ0)/\aD H1 H'/\zs=((List.zipWith f xs ys).take i).map V.int) ⟨⟨e_,v0,ay⟩,aD.new aY,rfl⟩ (λ i σ' H' zs _ ⟨_,s',_⟩=>⟨aW.of (s' _ _ av),aW.of (s' _ _ aa)⟩) ?_ ?_
 ·rintro i x y p σ' H' zs R ah aL ay cV ez ⟨⟨u,v,rfl⟩,s',rfl⟩ et;obtain ⟨x,rfl,cZ⟩:=hY ah;obtain ⟨y,rfl,d9⟩:=hY aL;refine ⟨p,_,rfl,aW.of br,rfl,_,_,rfl,_,_,rfl,rfl,?_⟩;refine aA x y _ _ (List.mem_of_getElem? cZ) (List.mem_of_getElem? d9) (et _ _ _ ?_ ⟨⟨_,_,rfl⟩,?_,?_⟩)
  ·rw [a3 (b2 cV ay)];exact cV
  ·intro c o e;rw [a3 (b2 e aY),a3 (b2 (s' c o e) ay)];exact s' c o e
  ·rw [Ko cZ d9,List.map_append];rfl
 ·rintro σ' H' zs cV ez ⟨_,s',rfl⟩;refine q H' s' ?_;rw [cV,List.length_map,List.length_map,List.take_of_length_le (by rw [List.length_zipWith];exact Nat.le_refl _)]
end b9
namespace bC
open PySem PySem.Spec PyProof.Rows
noncomputable def vl (a b:Addr):fC :=
 ⟨λ i H => ∃ xs ys x y,H a=some (.lst xs)/\H b=some (.lst ys)/\xs[i]?=some x/\ys[i]?=some y,
 λ i H v H' => ∃ p,H p=none/\v=.ref p /\ ∃ x y,H'=upd H p (.tup [x,y]) /\ ∀ xs ys,H a=some (.lst xs)->H b=some (.lst ys)->xs[i]?=some x/\ys[i]?=some y,
 λ i H => ∃ xs ys,H a=some (.lst xs)/\H b=some (.lst ys)/\(xs.length<=i\/ys.length<=i)⟩
section
variable {X:aQ} {bk:Expr}
theorem Turn.imp {P:Program} {w:World} {K:PySem.W.Frag} {c:Bool} {J t5:fC} {bh:List Addr} {it:Addr} {fq:Nat->Heap->Prop} (T:Turn P w K c bk J bh it fq) (af : ∀ i H,t5.go i H->J.go i H) (aq : ∀ i H x H',J.hq i H x H'->t5.hq i H x H') (aF : ∀ i H,t5.stop i H->J.stop i H):Turn P w K c bk t5 bh it fq :=
 ⟨T.mem,T.obj,T.keep,λ X a b c d e i pins s σ H E I hf st aM=>a_ (T.item X a b c d e i pins s σ H E I hf st (af _ _ aM)) λ r s1 ⟨u,aE,k⟩=>⟨u,aE,a_ k λ _ s2 ⟨x,H',er,hg,rq,xG⟩=>⟨x,H',er,hg,aq _ _ _ _ rq,xG⟩⟩,
  λ X a b c d e i pins s σ H E I hf st aM=>T.done X a b c d e i pins s σ H E I hf st (aF _ _ aM),T.self⟩
noncomputable def Q2 (aS:cH):TI:=λ σ H R=>aS σ H λ vs H1 => ∃ a b xs ys,vs=[.ref a,.ref b]/\H1 a=some (.lst xs)/\H1 b=some (.lst ys)/\R (vl a b) H1
theorem AI {aE aI:Expr} {aS:cH} {p pos:Pos} (gg:kU bk=true) (aM:c1 X "zip") (hm:X.mg "zip" = none) (av:ek X [aE,aI] aS) (aA:starEach [aE,aI] X.env=[(false,eval aE X.env),(false,eval aI X.env)]:=by rfl) (fu:starEach [aI] X.env=[(false,eval aI X.env)]:=by rfl)
  (aa:bootBuiltins "zip" = some (.type "zip"):=by decide +kernel):jK X bk (.Call (.Name "zip" p) [aE,aI] [] pos) (Q2 aS):=⟨by
 intro pins s σ H R I h;refine Call_ (lS I aM hm aa (PyProof.Rows.callWith_type1 (a_ (av.o pos pins s σ H _ I h) λ us s1 ⟨vs,H1,aJ,bG,a6⟩=>?_) (by rw [aA,fu]) (by rw [fu];rfl)));obtain ⟨a,b,xs,ys,e,cn,c4,q⟩:=a6;subst e;obtain ⟨gp,h4,rfl,kk,rB⟩:=vals2 bG;cases kk;cases rB;exact GK (p1:=true) (a6:=true) (J:=vl a b) aJ (a4.of cn) (a4.of c4) (λ d=>(Jc gg d).imp (λ i H ⟨xs,ys,x,y,cn,c4,r⟩=>⟨xs,ys,x,y,a4.of cn,a4.of c4,r⟩) (λ i H x H' ⟨n,a1,a2,x,y,oo,ub⟩=>⟨n,a1,a2,x,y,oo,λ xs ys cn c4=>ub xs ys (a4.of cn) (a4.of c4)⟩) (λ i H ⟨xs,ys,cn,c4,r⟩=>⟨xs,ys,a4.of cn,a4.of c4,r⟩)) q⟩
end
theorem WC {a b D:Addr} {js:List (Option Nat)} {g:dT} {bc:TE} {σ:St} {H1:aj} {Q:bz} {xs ys:List V} (aC:min xs.length ys.length<=sizeLine) (Pv:Nat->St->aj->List V->Prop) (h0:Pv 0 (pick js σ) (upd H1 D (.lst [])) [])
  (au : ∀ i σ' H' zs,H' D=some (.lst zs)->Pv i σ' H' zs->H' a=some (.lst xs)/\H' b=some (.lst ys))
  (aA : ∀ i x y p σ' H' zs (R:St->V->aj->Prop),xs[i]?=some x->ys[i]?=some y->H' p=none->H' D=some (.lst zs)->zs.length=i->Pv i σ' H' zs->(∀ σ2 z aX,aX D=some (.lst zs)->Pv (i+1) σ2 (upd aX D (.lst (zs++[z]))) (zs++[z])->R σ2 z aX) ->
   g (.ref p) σ' (upd H' p (.tup [x,y])) λ σ2 aH=>bc σ2 aH λ z aX=>R σ2 z aX)
  (cC : ∀ σ' H' zs,H' D=some (.lst zs)->zs.length=min xs.length ys.length->Pv (min xs.length ys.length) σ' H' zs->Q (.ref D) H'):gJ (vl a b) D js g iy bc σ H1 Q:=by
 refine q0 aC Pv h0 (λ i σ' H' zs ax aY p=>?_) (λ σ' H' zs aY e6 c=>⟨?_,cC σ' H' zs aY e6 c⟩) λ i σ' H' zs x aw R ax aY aN p ah k=>?_
 ·obtain ⟨cn,c4⟩:=au i σ' H' zs aY p;have af:i<xs.length:=by omega
  have aq:i<ys.length:=by omega
  exact ⟨xs,ys,xs[i],ys[i],cn,c4,by simp [af],by simp [aq]⟩
 ·obtain ⟨cn,c4⟩:=au _ σ' H' zs aY c;exact ⟨xs,ys,cn,c4,by omega⟩
 ·obtain ⟨cn,c4⟩:=au i σ' H' zs aY p;obtain ⟨q,aR,rfl,dI,fs,rfl,fJ⟩:=ah;obtain ⟨ex,dP⟩:=fJ xs ys cn c4;exact aA i dI fs q σ' H' zs R ex dP aR aY aN p k
end bC
namespace b9
open PySem bC cf
noncomputable def Om:V->Bool
 | .str _=>true
 | _=>false
section
variable {K:PySem.W.Frag} {H:aj} {v:V}
theorem z2 (k:gy H v) : ∃ t,hr K H v t/\PySem.W.kitOne K t (.type "str")=some (Om v):=by
 cases v with
 | bp=>exact ⟨_,.bp,by kernel_rfl⟩
 | ba b=>exact ⟨_,.ba b,by kernel_rfl⟩
 | int i=>exact ⟨_,.int i,by kernel_rfl⟩
 | str x=>exact ⟨_,.str x,by kernel_rfl⟩
 | ref a =>
  rcases (show (∃ xs,H a=some (.tup xs))\/(∃ xs,H a=some (.lst xs))\/(∃ kvs,H a=some (.cM kvs)) from k) with ⟨xs,e⟩ | ⟨xs,e⟩ | ⟨kvs,e⟩
  ·exact ⟨_,.tup e,by kernel_rfl⟩
  ·exact ⟨_,.lst e,by kernel_rfl⟩
  ·exact ⟨_,.cM e,by kernel_rfl⟩
 | _=>exact False.elim k
end
end b9
namespace Dr
open PySem PyProof.Rows
section
variable {prog:Program} {w:World} {A:Around} {E:Value->Shared->Prop} {h:Heap} {g:Array GenState} {d:Drawn} {t:Nat} {os:OsState}
variable {nm q:Str} {C N:Addr} {bs bm oN:List Value} {hdct:Bool} {sn:List Str} {sub:List Value} {ab:Bool} {col:Option Bool} {dd:Option Addr} {k0 k1 k2 k3 k5:Option Value} {B newId v5:String}
theorem XN (F:ExcBaseFacts B newId v5 oN) (T:OwnTail h oN bm) {mN:Str->Option Value} {rest:List Value} {fI:Addr} {oI:Obj} {Q:PySem.Fin->Shared->Prop}
  (fk:h.get? C=some (excClassObj nm q C N bs bm hdct sn sub ab col dd k0 k1 k2 k3 k5 newId)) (aC:h.Ns N mN) (ax:mN "__init__" = some (.ref fI))
  (sa:h.get? fI=some oI) (sb:oI.cls=.type "function")
  (aR : ∀ h' e,Heap.MadeExcOf h h' e (.ref C) rest ->
   wpAny (model prog w) A (call (.ref fI) (.ref e::rest)) (λ r s'=>r=.none/\Q (.done (.ret (.ref e))) s') E ⟨h',g,d,t,os⟩) (hrest:rest.length<=sizeLine) :
  wpAny (model prog w) A (Builtin.«type.__call__» ⟨.ref C::rest,[]⟩) Q E ⟨h,g,d,t,os⟩:=by
 repeat (first | with_reducible refine wpAny_loadPart_at fk ?_ | with_reducible refine wpAny_madeBy_exc fk ?_ | wp_step)
 refine codeAny_call_builtin_code (Code.quiet_builtin _ F.quiet) (wpAny_check_new_subT F T fk ?_);refine codeAny_exc_new_subT F T fk ?_ hrest;show wpAny _ _ _ _ _ _;have hC₁:=Heap.get?_push_of_some { cls:=.ref C,data:=.fields #[.ref h.objs.size,.none,.none,.none,.bool false,.none] }
  (Heap.get?_push_of_some { cls:=.type "tuple", data:=.seq rest.toArray } fk)
 have hfI₁:=Heap.get?_push_of_some { cls:=.ref C,data:=.fields #[.ref h.objs.size,.none,.none,.none,.bool false,.none] }
  (Heap.get?_push_of_some { cls:=.type "tuple", data:=.seq rest.toArray } sa)
 have hn₁:((h.push { cls:=.type "tuple", data:=.seq rest.toArray }).push { cls:=.ref C,data:=.fields #[.ref h.objs.size,.none,.none,.none,.bool false,.none] }).Ns N mN :=
  let ⟨o,es,ep,e,r⟩:=aC;⟨o,es,ep,Heap.get?_push_of_some _ (Heap.get?_push_of_some _ e),r⟩
 have nZ:((h.push { cls:=.type "tuple", data:=.seq rest.toArray }).push
   { cls:=.ref C,data:=.fields #[.ref h.objs.size,.none,.none,.none,.bool false,.none] }).get? (h.objs.size+1)=some
   { cls:=.ref C,data:=.fields #[.ref h.objs.size,.none,.none,.none,.bool false,.none] }:=by heap_get
 have NH:(Value.ref C::bm).contains (.ref C)=true:=by simp
 have T₁:=T.keeps (h':=(h.push { cls:=.type "tuple", data:=.seq rest.toArray }).push { cls:=.ref C,data:=.fields #[.ref h.objs.size,.none,.none,.none,.bool false,.none] })
  λ b o e=>Heap.get?_push_of_some _ (Heap.get?_push_of_some _ e)
 unfold isInstance
 repeat (first | with_reducible refine wpAny_loadPart_at nZ ?_ | (with_reducible refine wpAny_isSubtype_exc hC₁ ?_;rw [NH]) | wp_step)
 show wpAny _ _ (typeLookup (.ref C) _) _ _ _;refine wpAny_typeLookup_tail hC₁ hn₁ T₁ F.mroIs F.init.lookup ?_;rw [ax];refine wpAny_holding (wpAny_bind ?_);unfold bindSpecial;refine wpAny_bind (wpAny_typeOf (T := "function") ⟨_,hfI₁,sb⟩ ?_);rw [if_pos (by decide)];refine wpAny_pure (wpAny_bind (wpAny_mono (aR _ (h.objs.size+1) ⟨λ b o aa=>Heap.get?_push_of_some _ (Heap.get?_push_of_some _ aa),Heap.get?_none_of_le (Nat.le_succ _),h.objs.size,nZ,Heap.get?_none_of_le (Nat.le_refl _),?_⟩) (λ r s' ar=>?_) λ _ _ x=>x))
 ·exact Heap.get?_push_of_some _ (Heap.get?_push_at rfl rfl)
 ·obtain ⟨rfl,eQ⟩:=ar
  wp_walk
  exact eQ
theorem call_exc (F:ExcBaseFacts B newId v5 oN) (T:OwnTail h oN bm) {mN:Str->Option Value} {rest:List Value} {fI:Addr} {oI:Obj} {Q:Value->Shared->Prop}
  (fk:h.get? C=some (excClassObj nm q C N bs bm hdct sn sub ab col dd k0 k1 k2 k3 k5 newId)) (aC:h.Ns N mN) (ax:mN "__init__" = some (.ref fI))
  (sa:h.get? fI=some oI) (sb:oI.cls=.type "function")
  (aR : ∀ h' e,Heap.MadeExcOf h h' e (.ref C) rest ->
   wpAny (model prog w) (A.under (.builtin "type.__call__" ⟨.ref C::rest,[]⟩)) (call (.ref fI) (.ref e::rest)) (λ r s'=>r=.none/\Q (.ref e) s') E ⟨h',g,d,t,os⟩) (hrest:rest.length<=sizeLine) :
  wpAny (model prog w) A (call (.ref C) rest) Q E ⟨h,g,d,t,os⟩:=by
 have f1:=tc_lookup;have f2:=tc_bind (.ref C);have cz:(⟨h,g,d,t,os⟩:Shared).TypeIs (.ref C) "type" := ⟨_,fk,rfl⟩
 refine wpAny_call (codeAny_of_tree ?_);show wpAny _ _ (callAny (.ref C) _) _ _ _
 repeat (any_goals (first | assumption | with_reducible refine wpAny_loadPart_at fk ?_ | wp_step))
 refine ⟨rfl,?_⟩;refine codeAny_call_builtin_at (Code.quiet_builtin _ (by decide +kernel)) entry_typeCall (wpAny_check_type_call_sub fk (XN (hrest:=hrest) F T fk aC ax sa sb λ h' e hm=>?_));exact aR h' e hm
end
section
variable {M:Model} {A:Around} {E:Value->Shared->Prop} {env:Env}
variable {nm q:Str} {C N:Addr} {bs bm:List Value} {hdct:Bool} {sn:List Str} {sub:List Value} {ab:Bool} {col:Option Bool} {dd:Option Addr} {k0 k1 k2 k3 k5:Option Value} {newId:String}
theorem CU {s:Shared} {x:Sem Value} {Q:Flow->Shared->Prop} (hv:bm.contains (.type "BaseException")=true) (bI:A.handled=none)
  (h:wpAny M A x (λ v s₁ => ∃ e t aG,v=.ref e/\s₁.heap.get? C=some (excClassObj nm q C N bs bm hdct sn sub ab col dd k0 k1 k2 k3 k5 newId) /\
   s₁.heap.get? e=some { cls:=.ref C,dict:=aG,data:=.fields #[.ref t,.none,.none,.none,.bool false,.none] }/\E (.ref e) s₁) E s) :
  wpAny M A (raiseStmt env (some x) none) Q E s:=by
 have NG:(Value.ref C::bm).contains (.type "BaseException")=true:=by rw [List.contains_cons,hv,Bool.or_true]
 unfold raiseStmt;refine wpAny_bind (wpAny_mono h (λ v s₁ h₁=>?_) λ _ _ x=>x);obtain ⟨e,t,aG,rfl,fk,he,hZ⟩:=h₁;obtain ⟨ay,g,d,tk,os⟩:=s₁
 repeat (first | with_reducible refine wpAny_loadPart_at he ?_ | with_reducible refine wpAny_loadPart_at fk ?_ | (with_reducible refine wpAny_isSubtype_exc fk ?_;rw [NG]) | wp_step)
 exact wpAny_raiseNew_none bI hZ
end
section
variable {prog:Program} {w:World} {A:Around} {E:Value->Shared->Prop} {s:Shared} {env:Env}
variable {nm q:Str} {C N:Addr} {bs bm oN:List Value} {hdct:Bool} {sn:List Str} {sub:List Value} {ab:Bool} {col:Option Bool} {dd:Option Addr} {k0 k1 k2 k3 k5:Option Value} {B newId v5:String}
theorem Yz (F:ExcBaseFacts B newId v5 oN) {mN:Str->Option Value} {fI:Addr} {oI:Obj} {x:Str} {np cK pos:Pos} {args:List Expr} {Q:Flow->Shared->Prop}
  (hv:bm.contains (.type "BaseException")=true) (bI:A.handled=none) (m4:(backTo cK (starEach args env)).any (·.1)=false) (ax:mN "__init__" = some (.ref fI)) (sb:oI.cls=.type "function")
  (h:wpAny (model prog w) A (eval (.Name x np) env) (λ f s₁=>f=.ref C/\wpAny (model prog w) A (evalArgs (.ref C) true (backTo cK (starEach args env)) [])
   (λ a s₂=>a.kw=[]/\a.pos.length<=sizeLine/\s₂.heap.get? C=some (excClassObj nm q C N bs bm hdct sn sub ab col dd k0 k1 k2 k3 k5 newId)/\s₂.heap.Ns N mN/\OwnTail s₂.heap oN bm/\s₂.heap.get? fI=some oI /\
    ∀ h' e,Heap.MadeExcOf s₂.heap h' e (.ref C) a.pos->wpAny (model prog w) (A.under (.builtin "type.__call__" ⟨.ref C::a.pos,[]⟩)) (call (.ref fI) (.ref e::a.pos))
     (λ r s'=>r=.none/\s'.heap.get? C=some (excClassObj nm q C N bs bm hdct sn sub ab col dd k0 k1 k2 k3 k5 newId)/\(∃ t aG,s'.heap.get? e=some { cls:=.ref C,dict:=aG,data:=.fields #[.ref t,.none,.none,.none,.bool false,.none] })/\E (.ref e) s') E { s₂ with heap:=h' }) E s₁) E s) :
  wpAny (model prog w) A (exec (.Raise (some (.Call (.Name x np) args [] cK)) none pos) env) Q E s:=by
 rw [arm_exec_Raise]
 first
  | refine wpAny_bind (wpAny_standAt (CU (C:=C) (nm:=nm) (q:=q) (N:=N) (bs:=bs) (bm:=bm) (hdct:=hdct) (sn:=sn) (sub:=sub) (ab:=ab) (col:=col) (dd:=dd) (k0:=k0) (k1:=k1) (k2:=k2) (k3:=k3) (k5:=k5) (newId:=newId) hv bI (wpAny_bind (wpAny_mono (wpAny_Call_ofName (wpAny_mono h (λ f s₁ h₁=>?_) λ _ _ x=>x)) (λ v s₃ h₃=>wpAny_bind (wpAny_standAt (wpAny_pure h₃))) λ _ _ x=>x))))
  | (simp only [evalOpt,Option.map];refine wpAny_bind (wpAny_standAt (CU (C:=C) (nm:=nm) (q:=q) (N:=N) (bs:=bs) (bm:=bm) (hdct:=hdct) (sn:=sn) (sub:=sub) (ab:=ab) (col:=col) (dd:=dd) (k0:=k0) (k1:=k1) (k2:=k2) (k3:=k3) (k5:=k5) (newId:=newId) hv bI (wpAny_bind (wpAny_mono (wpAny_Call_ofName (wpAny_mono h (λ f s₁ h₁=>?_) λ _ _ x=>x)) (λ v s₃ h₃=>wpAny_bind (wpAny_standAt (wpAny_pure h₃))) λ _ _ x=>x)))))
  | (refine wpAny_bind (wpAny_standAt (CU (C:=C) (nm:=nm) (q:=q) (N:=N) (bs:=bs) (bm:=bm) (hdct:=hdct) (sn:=sn) (sub:=sub) (ab:=ab) (col:=col) (dd:=dd) (k0:=k0) (k1:=k1) (k2:=k2) (k3:=k3) (k5:=k5) (newId:=newId) hv bI ?_));refine wpAny_bind (wpAny_mono (wpAny_Call_ofName (wpAny_mono h (λ f s₁ h₁=>?_) λ _ _ x=>x)) (λ v s₃ h₃=>wpAny_bind (wpAny_standAt (wpAny_pure h₃))) λ _ _ x=>x))
 obtain ⟨rfl,h₁⟩:=h₁;unfold callWith;refine wpAny_bind (wpAny_holding (wpAny_mono h₁ (λ a s₂ h₂=>wpAny_bind (wpAny_standAt ?_)) λ _ _ x=>x));obtain ⟨apos,Mp⟩:=a;obtain ⟨NY,hlen,fk,aC,T,sa,h₂⟩:=h₂;obtain rfl:Mp=[]:=NY;obtain ⟨ay,g,d,tk,os⟩:=s₂;simp only [m4];refine wpAny_bind (wpAny_keeperOf_exc fk ?_);refine wpAny_bind (call_exc (hrest:=hlen) F T fk aC ax sa sb λ h' e hm=>wpAny_mono (h₂ h' e hm) (λ r s' ar=>⟨ar.1,?_⟩) λ _ _ z=>z);obtain ⟨_,hb,⟨t,aG,jg⟩,pM⟩:=ar;refine wpAny_bind (wpAny_holding (wpAny_point (wpAny_pure ?_)));exact ⟨e,t,aG,rfl,hb,jg,pM⟩
end
end Dr
namespace PySem.W
open PySem PySem.Spec PySem.Calls PyProof.Rows Builtin.ObjectAttr
theorem Ud (self:Value):refuseLoop self "__setattr__" bC.hk=pure ():=by kernel_rfl
section
variable {prog:Program} {w:World} {A:Around} {E:Value->Shared->Prop} {R:Result->Shared->Prop} {s:Shared} {K:Frag} {x C Fr:Addr} {ry:Obj} {de:Option Obj} {cd:ClassData}
theorem W_ {name:Str} {tk:Tok} {v:Value} {r:Option Value} (X:K.In s.heap) (I:InstAt s.heap x ry C de) (ao:clsIn K C=some cd) (s6:cd.mro=.ref C::.ref Fr::bC.hk) (sl:mroIn K C (.type "object")=some true) (aZ:takerIn K C name=some r)
  (h : ∀ b,wpAny (model prog w) A.in1 (match r with | some a=>setByDescriptor a (.ref x) v | none=>storeInOwnDict (.ref x) (.ref C) (.str name tk) name v b)
   (λ fin s'=>match fin with | .done f=>R (.ok f) s' | .again cj=>cj.quiet=true/\codeAny (model prog w) A cj R s') (λ e s'=>R (.error e) s') s) :
  codeAny (model prog w) A (.call (.builtin "object.__setattr__") ⟨[.ref x,.str name tk,v],[]⟩) R s:=by
 have rj:=PySem.F.store_object;have sub:Looks (model prog w) s.heap (isInstance (.ref x) (.type "object")) true:=I.type.andThen (looks_mroIn X sl);refine codeAny_call_builtin rj.slot.plain rj.entry (@check_slot (model prog w) _ _ s "object.__setattr__" "object" "__setattr__" (.ref x) [.str name tk,v] [] _ rj.kind rj.split sub (rj.args (.ref x) (.str name tk) v) ?_);obtain ⟨attr,av,ar⟩:=Option.bind_eq_some_iff.mp aZ;have hm:Looks (model prog w) s.heap (mroOf (.ref C)) cd.mro:=(looks_clsIn X ao).andThen .now;have je:Looks (model prog w) s.heap (storeTaker? attr) r:=by
  cases attr with
  | none=>cases ar;exact .now
  | some a =>
   obtain ⟨b,aa,rfl⟩:=Option.map_eq_some_iff.mp ar;refine (looks_takesIn X aa).andThen ?_;cases b<;>exact .now
 rw [osa_eq,refuse_eq];refine wpAny_bind (wpAny_bind (I.type.here (wpAny_bind (hm.here ?_))));rw [s6,refuseLoop_ref,refuseLoop_ref,Ud];refine wpAny_pure (wpAny_bind (I.type.here (wpAny_bind ((looks_findIn X av).here (wpAny_bind (je.here ?_))))));exact h _
theorem Ui {vs:Array Value} {name:Str} {v:Value} {Q:Unit->Shared->Prop} (X:K.In s.heap) (ah:s.heap.get? x=some ⟨.ref C,none,.fields vs,#[]⟩) (ao:clsIn K C=some cd) (s6:cd.mro=.ref C::.ref Fr::bC.hk) (hd:cd.hasDict=true)
  (sl:mroIn K C (.type "object")=some true) (aA:findIn K (.ref C) "__setattr__" = some (some (.builtin "object.__setattr__"))) (aZ:takerIn K C name=some none)
  (h : ∀ h' aG tk,s.heap.get? aG=none->h'.get? x=some ⟨.ref C,some aG,.fields vs,#[]⟩->h'.Ns1 aG (λ y=>if y=name then some v else none)->(∀ b o,b≠x->s.heap.get? b=some o->h'.get? b=some o)->Q () { s with heap:=h',toks:=tk }) :
  wpAny (model prog w) A (setAttr (.ref x) name v) Q E s:=by
 have I:InstAt s.heap x ⟨.ref C,none,.fields vs,#[]⟩ C none:=⟨ah,rfl,rfl,trivial⟩
 refine set_plain X I aA (W_ (s:={ s with toks:=s.toks+1 }) (r:=none) X I ao s6 sl aZ λ b=>?_);refine wpAny_bind (wpAny_pure (wpAny_bind (wpAny_bind (wpAny_loadPart ah (wpAny_bind (PySem.W.Looks.here (s:={ s with toks:=s.toks+1 }) (PySem.W.looks_clsIn X ao) ?_))))));rw [hd];rw [if_neg (by simp)];show wpAny _ _ (alloc { cls:=.type "dict", data:=.dict #[] }>>=λ d=>update x (λ o=>{ o with dict:=some d })>>=λ _=>dictMade (.ref C) x d) _ _ _;have uu:x<s.heap.objs.size:=Heap.lt_size ah;have Ej:(s.heap.push { cls:=.type "dict", data:=.dict #[] }).get? x=some ⟨.ref C,none,.fields vs,#[]⟩:=Heap.get?_push_of_some _ ah;refine wpAny_bind (wpAny_alloc (wpAny_bind (wpAny_update Ej ?_)));show wpAny _ _ (pure (some s.heap.objs.size)) _ _ _;refine wpAny_pure ?_;have lC:Heap.SameBut x (s.heap.push { cls:=.type "dict", data:=.dict #[] }) ((s.heap.push { cls:=.type "dict", data:=.dict #[] }).update x λ o=>{ o with dict:=some s.heap.objs.size }):=Heap.SameBut.update _ _ _;have Ei:((s.heap.push { cls:=.type "dict", data:=.dict #[] }).update x λ o=>{ o with dict:=some s.heap.objs.size }).get? x=some ⟨.ref C,some s.heap.objs.size,.fields vs,#[]⟩:=Heap.get?_update_self _ Ej rfl;generalize ((s.heap.push { cls:=.type "dict", data:=.dict #[] }).update x λ o=>{ o with dict:=some s.heap.objs.size })=af at lC Ei ⊢;have nE:af.get? s.heap.objs.size=some { cls:=.type "dict", data:=.dict #[] }:=(lC.2 _ (Nat.ne_of_gt uu)).trans (Heap.get?_push_size _ rfl);have cJ:af.Ns1 s.heap.objs.size (λ _=>none):=Heap.Ns1.of_empty ⟨_,#[],_,nE,rfl,(λ e he=>absurd he (by simp)),λ _=>rfl⟩;show wpAny _ _ (storeInDict s.heap.objs.size (.str name s.toks) name v) _ _ _;refine wpAny_bind (wpAny_pure (wpAny_bind ?_));refine wpAny_nsSet1 (s:={ s with heap:=af,toks:=s.toks+1 }) cJ λ h' hP fu=>?_
 obtain ⟨LN,MD,MC,y2,yM,yK⟩:=hP.count (PySem.Within.cons (ns:=[]) name v (λ y aL=>absurd rfl aL));refine wpAny_bind (wpAny_lookBehind y2 (by rw [yM];exact pastItsLine_dict (Nat.le_trans yK (by show 1<=sizeLine+1;decide))) ?_);refine wpAny_pure (h h' s.heap.objs.size _ (Heap.get?_none_of_le (Nat.le_refl _)) ((fu.2 _ (Nat.ne_of_lt uu)).trans Ei) hP λ b o nb e=>?_);have ba:b<s.heap.objs.size:=Heap.lt_size e;exact (fu.2 _ (Nat.ne_of_lt ba)).trans ((lC.2 _ nb).trans (Heap.get?_push_of_some _ e))
theorem S6 {name:Str} {expr:Bool} {v:Value} {Q:Value->Shared->Prop} (X:K.In s.heap) (I:InstAt s.heap x ry C de) (c:sW K C) (hf:findObj K C de name=some (.value v)) (bI:handedIn v=true) (h:Q v { s with toks:=s.toks+1 }) :
  wpAny (model prog w) A (getAttr (.ref x) name expr) Q E s:=by
 obtain ⟨abp,g,d,t,os⟩:=s;have t6:=I.type (M:=model prog w);have iE:=looks_findIn (M:=model prog w) X c.ga;have bC:=looks_findIn (M:=model prog w) X c.LC;have je:=looks_find (M:=model prog w) X I hf;have c2:=PySem.F.attr_ValueError.ga.bind (.ref x);unfold getAttr getAttrBy;refine wpAny_bind (wpAny_mkText (wpAny_holding (wpAny_bind (t6.at (wpAny_bind (iE.at ?_))))));show wpAny _ _ (getAttrByItsOwn _ _ _ _ _ _) _ _ _;unfold getAttrByItsOwn hookBefore;refine wpAny_bind (bC.at (wpAny_bind (wpAny_attempt (wpAny_holding ?_))));have aE:callGetattribute (.ref x) (.str name t) (.builtin "BaseException.__getattribute__") expr=boundAndCalled (.builtin "BaseException.__getattribute__") (.ref x) (.str name t):=by
  unfold callGetattribute;cases expr<;>rfl
 show wpAny _ _ (callGetattribute (.ref x) (.str name t) (.builtin "BaseException.__getattribute__") expr) _ _ _;rw [aE];unfold boundAndCalled
 repeat (any_goals (first | assumption | wp_step))
 refine codeAny_call_builtin PySem.F.attr_ValueError.ga.plain PySem.F.entry_bexc_ga (Wi X I c ?_);refine wpAny_bind (wpAny_pure (wpAny_bind (wpAny_pure (wpAny_bind (t6.at (wpAny_bind (je.at ?_)))))));refine wpAny_pure ?_;show wpAny _ _ (handedOut v) _ _ _;rw [handedOut_of bI];exact wpAny_pure h
end
end PySem.W
namespace bC
open PySem PySem.Spec PyProof.Rows om
structure ma (K:PySem.W.Frag) (mg:Str->Option Value) (x:Str) (C Fr fI:Addr):Prop where
 at_:mg x=some (.ref C)
 bJ : ∃ nm q N bs sn sub ab col dd k0 k1 k2 k3 k5,K.lookup C=some (excClassObj nm q C N bs (.ref Fr::hk) true sn sub ab col dd k0 k1 k2 k3 k5 "ValueError.__new__")/\PySem.W.nsOkIn K N=true/\PySem.W.nsIn K N "__init__" = some (some (.ref fI))
 fr:PySem.W.excIn K Fr hk "ValueError.__new__" = true
 p0:PySem.W.sW K C
 xU:PySem.W.findIn K (.ref C) "__setattr__" = some (some (.builtin "object.__setattr__"))
 fn : ∃ oI,K.lookup fI=some oI/\oI.cls=.type "function"
theorem ma.cls {K:PySem.W.Frag} {mg:Str->Option Value} {x:Str} {C Fr fI:Addr} (c:ma K mg x C Fr fI) : ∃ cd,PySem.W.clsIn K C=some cd/\cd.mro=.ref C::.ref Fr::hk/\cd.hasDict=true:=by
 obtain ⟨nm,q,N,bs,sn,sub,ab,col,dd,k0,k1,k2,k3,k5,h,_⟩:=c.bJ;have e:PySem.W.clsIn K C=(match K.lookup C with | some ⟨_,_,.cls cd,_⟩=>some cd | _=>none):=rfl;rw [h] at e;exact ⟨_,e,rfl,rfl⟩
theorem ma.hd {K:PySem.W.Frag} {mg:Str->Option Value} {x:Str} {C Fr fI:Addr} (c:ma K mg x C Fr fI):PySem.W.hasDictIn K C=true:=by
 obtain ⟨cd,af,_,aF⟩:=c.cls;unfold PySem.W.hasDictIn;rw [af];exact aF
theorem ma.tail {K:PySem.W.Frag} {mg:Str->Option Value} {x:Str} {C Fr fI:Addr} {h:Heap} (c:ma K mg x C Fr fI) (X:K.In h):OwnTail h hk (.ref Fr::hk):=by
 obtain ⟨dq,N,nm,q,bs,hdct,sn,sub,ab,col,dd,k0,k1,k2,k3,k5,mN,fk,c8,uY,T⟩:=(vk.own (mg:=λ _=>some (.ref Fr)) (x:=x) ⟨rfl,c.fr⟩ X).obj;exact .own fk c8 uY .base
theorem Yq {K:PySem.W.Frag} {h:Heap} {N:Addr} {mg:Str->Option Value} {n:Str} {v:Value} (X:K.In h) (G:h.Ns N mg) (e:PySem.W.nsIn K N n=some (some v)):mg n=some v:=by
 obtain ⟨o,es,ep,aO,hd,_,hf⟩:=G;unfold PySem.W.nsIn at e;split at e
 ·rename_i c d kr bS cq q;have:=X _ _ q;rw [aO] at this;cases this;cases hd;split at e
  ·rename_i y he;rw [<-hf];unfold nsFind findBy;rw [<-Array.find?_toList,he];exact Option.some.inj e
  ·split at e<;>cases e
 ·cases e
noncomputable def jx (e C:Addr) (d:Option Addr) (t:Addr):dz:=.ext λ h=>h.get? e=some { cls:=.ref C,dict:=d,data:=.fields #[.ref t,.none,.none,.none,.bool false,.none] }
theorem G4 {P:Program} {w:World} {H:aj} {h:Heap} {e C t:Addr} {d:Option Addr} (he:h.get? e=some { cls:=.ref C,dict:=d,data:=.fields #[.ref t,.none,.none,.none,.bool false,.none] }):dv P w H h e (jx e C d t) :=
 ⟨he,⟨_,he⟩,λ af aq a k=>k _ a⟩
theorem Inv.forget {X:aQ} {pins:List (Addr×Obj)} {σ:St} {H H':aj} {s:Shared} {e:Addr} (I:Inv X pins σ H s) (c5 : ∀ b,b≠e->H' b=H b) (h0:H' e=none) (ah:(∀ xs,H e≠some (.tup xs))/\(∀ o u,H e≠some (.hL o u))/\(∀ ag,H e≠some (.mS ag)) /\ ∀ b,H e≠some (.own b)):Inv X pins σ H' s:=by
 have le : ∀ b,H b=none->H' b=none:=λ b n=>by
  by_cases z:b=e
  ·rw [z];exact h0
  ·rw [c5 b z];exact n
 refine ⟨I.ok,I.os,I.bare,⟨I.base.keep,I.base.slot,λ b bJ q n ah=>le b (I.base.free b bJ q n ah),I.base.there,λ b xs q=>?_,λ b bJ u q=>?_,λ b ag q=>?_⟩,I.loc,I.cell,le _ I.free,λ x c q=>le _ (I.gx x c q),λ p ay=>?_,λ b bJ q=>?_,I.len⟩
 ·have:=I.base.i4 b xs q;rw [c5 b λ z=>ah.1 xs (z ▸ this)];exact this
 ·have:=I.base.ih b bJ u q;rw [c5 b λ z=>ah.2.1 bJ u (z ▸ this)];exact this
 ·obtain ⟨m,this⟩:=I.base.i3 b ag q;exact ⟨m,by rw [c5 b λ z=>ah.2.2.1 _ (z ▸ this)];exact this⟩
 ·obtain ⟨a,b,c,d,f⟩:=I.pin p ay;exact ⟨a,le _ b,c,d,f⟩
 ·by_cases z:b=e
  ·rw [z,h0] at q;cases q
  ·rw [c5 b z] at q;refine (I.a0 b bJ q).hV (λ _ _ _ q=>q) (λ c q=>?_) λ c xs q=>?_
   ·rw [c5 c λ z=>ah.2.2.2 _ (z ▸ q)];exact q
   ·rw [c5 c λ z=>ah.1 _ (z ▸ q)];exact q
noncomputable def AS (C:Addr) (f:Str):bF:=λ vs H Q _ => ∃ (e t:Addr) (v:V),vs=[.ref e,v]/\H e=some (jx e C none t) /\ ∀ aG,H aG=none->Q .bp (upd (upd H e (jx e C (some aG) t)) aG (.h5 [(f,v)]))
noncomputable def Uh (C:Addr) (f:Str) (E:dF) (aS:cH):cX:=λ _ σ H=>aS σ H λ vs H1 => ∃ v,vs=[v] /\ ∀ aG aw,aD H1 aw->aw aG=some (.h5 [(f,v)])->E (.ref C) (some aG) aw
theorem Xk {X:aQ} {E:dF} {x f:Str} {C Fr fI:Addr} {et:Nat} {fd:FuncData} {ag:List Str} {a:Expr} {aS:cH} {np cK pos:Pos} (k:DS X E) (ah:X.ex=[]) (ao:X.calm=true) (c:ma X.K X.mg x C Fr fI) (F:d3 X.prog X.w X.K X.mg X.base bX et fI fd ag (AS C f)) (ar:c_ (et+1) X.A) (aa:Binds X.K fd ag [])
  (aM:c1 X x) (av:ek X [a] aS) (cC:noStar a=true:=by rfl) (cW:(backTo cK (starEach [] X.env)).any (·.1)=false:=by rfl) (hd:(x == ("__debug__" : Str))=false:=by decide):fR X (.Raise (some (.Call (.Name x np) [a] [] cK)) none pos) (Uh C f E aS):=⟨by
 intro pins s σ H D I h;obtain ⟨nm,q,N,bs,sn,sub,ab,col,dd,k0,k1,k2,k3,k5,DZ,E8,uN⟩:=c.bJ;obtain ⟨oI,Nu,Nv⟩:=c.fn;have he:=tS cC [] X.env;have N0:X.base.nsMap N "__init__" = some (.ref fI):=Yq I.mod.j0 (.of_isNs (PySem.W.isNs_of_in I.mod.j0 E8)) uN;refine Dr.Yz (C:=C) (nm:=nm) (q:=q) (N:=N) (bs:=bs) (bm:=.ref Fr::hk) (hdct:=true) (sn:=sn) (sub:=sub) (ab:=ab) (col:=col) (dd:=dd) (k0:=k0) (k1:=k1) (k2:=k2) (k3:=k3) (k5:=k5)
  PySem.F.excBase_ValueError (mN:=X.base.nsMap N) (fI:=fI) (oI:=oI) (by rfl) (I.ok.hd.1 ao) (by rw [he];show (false||(backTo cK (starEach [] X.env)).any (·.1))=false;rw [cW];rfl) N0 Nv (lX I aM c.at_ ⟨rfl,?_⟩ hd)
 have gF:=av.o cK pins s σ H _ I h;rw [he] at gF ⊢;refine Calls.evalArgs_plain (a_ gF λ us s1 ⟨vs,H1,aJ,r,v,ev,hZ⟩=>?_);subst ev;obtain ⟨u,rfl,dA⟩:=vals1 r;have c8:X.base.Ns N (X.base.nsMap N):=.of_isNs (PySem.W.isNs_of_in I.mod.j0 E8);refine ⟨rfl,(by show 1<=sizeLine;decide),aJ.dh _ _ DZ,c8.keeps aJ.dY,c.tail aJ.dh,aJ.dh _ _ Nu,λ h' e hm=>?_⟩;obtain ⟨t,yP,_,_⟩:=hm.there;have bD:Inv X pins σ H1 { s1 with heap:=h' }:=aJ.kept (t':=s1.toks) hm.keeps;have gm:fN X pins e:=fN.of aJ ah hm.new;have iC:H1 e=none:=aJ.a0.gone hm.new;have OL : ∀ b∈eV X.stack,b≠e:=λ b aa z=>by
  obtain ⟨_,o,aO,_⟩:=aJ.stack.mem aa;rw [z,hm.new] at aO;cases aO
 have bR:Inv X pins σ (upd H1 e (jx e C none t)) { s1 with heap:=h' }:=bD.known ah gm iC (G4 yP) OL;have cb:Vals [V.ref e,v] [Value.ref e,u]:=.cons rfl (.cons dA .nil);have aR:AS C f [V.ref e,v] (upd H1 e (jx e C none t)) (λ hF aw=>hF=.bp /\ ∃ aG,upd H1 e (jx e C none t) aG=none/\aw=upd (upd (upd H1 e (jx e C none t)) e (jx e C (some aG) t)) aG (.h5 [(f,v)])) jc :=
  ⟨e,t,v,rfl,br,λ aG gr=>⟨rfl,aG,gr,rfl⟩⟩
 have au:([Value.ref e,u]++[]).length=ag.length:=by
  have aE:=F.len _ _ _ _ aR;rw [<-aE];rfl
 refine wpAny_call (codeAny_mono (F.run _ X.stack _ _ ⟨[Value.ref e,u],[]⟩ [Value.ref e,u] [V.ref e,v] _ jc (ar.make C [u] []) (bR.qo.make C [u] []) (aa _ [Value.ref e,u] bR.dh au) cb aR) λ r s' fV=>?_);cases r with
 | error e=>exact False.elim fV
 | ok df =>
  cases df with
  | next=>exact False.elim fV
  | brk=>exact False.elim fV
  | cont=>exact False.elim fV
  | ret aa3 =>
   obtain ⟨hF,H',cN,bE,ev,aG,gr,jM⟩:=bR.after fV;subst ev;have u6:aG≠e:=λ z=>by rw [z,br] at gr;cases gr
   have PY:H1 aG=none:=by rw [a3 u6] at gr;exact gr
   have r2:H' e=some (jx e C (some aG) t):=by rw [jM,a3 (Ne.symm u6),br]
   have mY:s'.heap.get? e=some { cls:=.ref C,dict:=some aG,data:=.fields #[.ref t,.none,.none,.none,.bool false,.none] }:=(cN.a0 e _ r2).1;have g9:Inv X pins σ (upd H1 aG (.h5 [(f,v)])) s':=by
    refine cN.forget (e:=e) (λ b nb=>?_) ?_ ⟨λ xs z=>?_,λ o u z=>?_,λ ag z=>?_,λ b z=>?_⟩
    ·rw [jM];by_cases z:b=aG
     ·rw [z,br,br]
     ·rw [a3 z,a3 z,a3 nb,a3 nb]
    ·rw [a3 (Ne.symm u6)];exact iC
    ·rw [r2] at z;cases z
    ·rw [r2] at z;cases z
    ·rw [r2] at z;cases z
    ·rw [r2] at z;cases z
   refine ⟨bE,cN.dh _ _ DZ,⟨t,some aG,mY⟩,?_⟩;refine k pins σ _ s' e C (some aG) .none [] g9 gm (by rw [a3 (Ne.symm u6)];exact iC) ⟨_,_,mY,rfl,rfl,rfl,rfl,rfl⟩ (.inl ⟨rfl,rfl⟩) (λ b aa=>absurd aa (by simp)) (hZ aG _ (b9.aD.new PY) br)⟩
structure RA (K:PySem.W.Frag) (C F:Addr):Prop where
 bJ : ∃ nm q N bs bm hdct sn sub ab col dd k0 k1 k2 k3 k5,K.lookup C=some (excClassObj nm q C N bs bm hdct sn sub ab col dd k0 k1 k2 k3 k5 "ValueError.__new__")
 Ol:PySem.W.mroIn K C (.ref F)=some true
 ne:C≠F
noncomputable def Rj (K:PySem.W.Frag) (to eT:TE) (f:Str):cX:=λ D σ H=>eT σ H λ y H1=>to σ H1 λ x aw => ∃ (e C Fr t:Addr) (cd:ClassData),x=.ref e/\aw e=some (jx e C none t)/\PySem.W.clsIn K C=some cd/\cd.mro=.ref C::.ref Fr::hk/\cd.hasDict=true /\
 PySem.W.mroIn K C (.type "object")=some true/\PySem.W.findIn K (.ref C) "__setattr__" = some (some (.builtin "object.__setattr__"))/\PySem.W.takerIn K C f=some none /\ ∀ aG,aw aG=none->D.bl σ (upd (upd aw e (jx e C (some aG) t)) aG (.h5 [(f,y)]))
theorem T_ {X:aQ} {o value:Expr} {f:Str} {pos pos':Pos} {aS eT:TE} (ah:X.ex=[]) (av:bg X o aS) (a7:bg X value eT) (aA:swapsWith value (some (.Attribute o f pos')) pos.line X.env=pure false):fR X (.Assign [.Attribute o f pos'] value pos) (Rj X.K aS eT f):=⟨by
 intro pins s σ H D I h;refine plainObj_wpAny_Assign_Attribute (a_ (a7.o pins s σ H _ I h) λ u s1 ⟨y,H1,aJ,bb,q⟩=>a_ (av.o pins s1 σ H1 _ aJ q) λ cO s2 ⟨x,aw,bD,aT,e,C,Fr,t,cd,ex,he,ao,s6,hd,sl,N7,aZ,b0⟩=>?_) aA;subst ex;obtain rfl:cO=Value.ref e:=aT;have mY:=(bD.a0 e _ he).1;refine PySem.W.Ui bD.dh mY ao s6 hd sl N7 aZ λ h' aG tk gr cZ aC aB=>?_
 have bR:Inv X pins σ (upd aw e (jx e C (some aG) t)) { s2 with heap:=h',toks:=tk }:=bD.write (by rw [he];trivial) (.inl rfl) aB ⟨_,cZ⟩ (G4 cZ);have Fe:aw aG=none:=bD.a0.gone gr;have OI:aG≠e:=λ z=>by rw [z,mY] at gr;cases gr
 have fd:fN X pins aG:=fN.of bD ah gr;have cN:Inv X pins σ (upd (upd aw e (jx e C (some aG) t)) aG (.h5 [(f,y)])) { s2 with heap:=h',toks:=tk }:=by
  refine bR.known ah fd (by rw [a3 OI];exact Fe) ⟨_,aC,λ g=>?_⟩ λ b aa z=>?_
  ·by_cases z:g=f
   ·have aa:(g == f)=true:=beq_iff_eq.mpr z;simp only [List.lookup,aa,if_pos z];exact bb
   ·have aa:(g == f)=false:=beq_eq_false_iff_ne.mpr z;simp only [List.lookup,aa,if_neg z];trivial
  ·obtain ⟨_,o,aO,_⟩:=bD.stack.mem aa;rw [z,gr] at aO;cases aO
 exact ⟨σ,_,cN,b0 aG Fe⟩⟩
noncomputable def F_ (K:PySem.W.Frag) (aS:TE) (f:Str):TE:=λ σ H Q=>aS σ H λ x H1 => ∃ (e C aG:Addr) (ak:List (Str×V)) (v:V),x=.ref e/\H1 e=some (nW e C (some aG))/\H1 aG=some (.h5 ak)/\PySem.W.sW K C/\PySem.W.hasDictIn K C=true/\PySem.W.findIn K (.ref C) f=some none/\ak.lookup f=some v/\Q v H1
theorem UZ {X:aQ} {pins:List (Addr×Obj)} {σ:St} {H:aj} {s:Shared} (I:Inv X pins σ H s) {e C aG:Addr} {ak:List (Str×V)} (he:H e=some (nW e C (some aG))) (hd:H aG=some (.h5 ak)) :
  ∃ (bT:Obj) (c3:Str->Option Value) (de:Obj),PySem.W.InstAt s.heap e bT C (some de)/\(∀ name,PySem.W.lookIn name de=some (c3 name)) /\ ∀ f,gv (ak.lookup f) (c3 f):=by
 obtain ⟨⟨bT,vs,af,aq,aF,aU,_⟩,_,_⟩:=(show dv X.prog X.w H s.heap e (nW e C (some aG)) from I.a0 e _ he)
 obtain ⟨c3,aC,ar⟩:=(show dv X.prog X.w H s.heap aG (.h5 ak) from I.a0 aG _ hd)
 obtain ⟨de,aO,au⟩:=I3 aC;refine ⟨bT,c3,de,⟨af,aq,?_,?_⟩,au,ar⟩
 ·unfold PySem.W.notCls;rw [aU]
 ·rw [aF];exact aO
theorem T5 {X:aQ} {e:Expr} {f:Str} {pos:Pos} {aS:TE} (he:bg X e aS) (aa:attributeBase e f X.env (eval e X.env)=eval e X.env):bg X (.Attribute e f pos) (F_ X.K aS f):=⟨by
 intro pins s σ H Q I h;refine GS aa (a_ (he.o pins s σ H _ I h) λ u s1 ⟨x,H1,aJ,aT,a,C,aG,ak,v,ex,dG,Lw,p0,bI,av,l,q⟩=>?_);subst ex;obtain rfl:u=Value.ref a:=aT;obtain ⟨bT,c3,de,J,au,ar⟩:=UZ aJ dG Lw;have Ef:=ar f;rw [l] at Ef;obtain ⟨mh,Oe,dA⟩:=Ef.some_of;exact PySem.W.S6 aJ.dh J p0 (PySem.W.findObj_own bI av rfl (by rw [au,Oe])) (IV dA) ⟨v,H1,aJ.tok _,dA,q⟩⟩
theorem Ia {X:aQ} {K:PySem.W.Frag} {e:Expr} {f:Str} {pos:Pos} {aS:TE} (dQ:X.K=K) (he:bg X e aS) (aa:attributeBase e f X.env (eval e X.env)=eval e X.env):bg X (.Attribute e f pos) (F_ K aS f):=by
 subst dQ;exact T5 he aa
structure qv (P:Program) (w:World) (K:PySem.W.Frag) (mg:Str->Option Value) (base:Heap) (k:Nat) (f:Addr) (fd:FuncData) (ag:List Str) (sp:bF):Prop where
 len : ∀ vs H Q E,sp vs H Q E->vs.length=ag.length
 run : ∀ (A:Around) (outer:List Env) (s:Shared) (H:aj) (args:Args) (us:List Value) (vs:List V) (Q:bz) (E:dF),i5 k A->ql A s.heap H (eV outer) []->mV P w K mg base A outer s H->BindsTo s fd args (ag.zip us)->Vals vs us->sp vs H Q E ->
  codeAny (model P w) A (.call (.ref f) args) (Di bX outer P w H s Q E) s
theorem qv.fn {cc:hG} {P:Program} {w:World} {K:PySem.W.Frag} {mg:Str->Option Value} {base:Heap} {k:Nat} {f:Addr} {fd:FuncData} {ag:List Str} {sp:bF} (F:qv P w K mg base k f fd ag sp):d3 P w K mg base cc k f fd ag sp :=
 ⟨F.len,λ A outer s H args us vs Q E ar b6 aa r dX=>codeAny_mono (F.run A outer s H args us vs Q E ar.u (.inl ar.hd) b6 aa r dX) λ z s' aR=>by
  cases z with
  | error e=>exact False.elim aR
  | ok df=>cases df<;>exact aR⟩
noncomputable abbrev uJ (P:Program) (w:World) (K:PySem.W.Frag) (mg:Str->Option Value) (base:Heap) (N:List Str) (qual:Str) (scope:Scope) (f:Addr) (cd:Value) (A:Around) (outer:List Env) (s:Shared) (H:aj) (E:dF):aQ :=
 { kJ bX P w K mg base N qual scope f cd A outer s H E with calm:=false,warm:=true,cB:=λ _ _=>False }
theorem Ya {P:Program} {w:World} {K:PySem.W.Frag} {mg:Str->Option Value} {base:Heap} {N ag:List Str} {qual:Str} {scope:Scope} {f:Addr} {cd:Value} {A:Around} {outer:List Env} {s s1:Shared} {H:aj} {E:dF} {us:List Value} {vs:List V}
  (S:bQ N ag scope) (bI:ql A s.heap H (eV outer) []) (b6:mV P w K mg base A outer s H) (au:vs.length=ag.length) (r:Vals vs us)
  (x:InCallC s s.heap.objs.size (bindL (envOfC qual scope s.heap.objs.size f cd).kindOf (ag.zip us) λ _=>none) (cellsFrom (s.heap.objs.size+1) scope.names []) (bindC (envOfC qual scope s.heap.objs.size f cd).kindOf (ag.zip us) λ _=>none) s1) :
  Inv (uJ P w K mg base N qual scope f cd A outer s H E) [] (start N vs) H s1:=by
 have I:Inv (kJ bX P w K mg base N qual scope f cd ({ A with handled:=none }) outer s H E) [] (start N vs) H s1:=IW (A:={ A with handled:=none }) S rfl ⟨b6.frames,b6.mod,b6.bs,b6.hK,b6.hs,b6.jT,b6.a0,b6.bare⟩ au r x;have ok:=I.ok;exact ⟨⟨ok.mod,ok.kind,ok.glob,ok.blt,ok.above,ok.inj,ok.has,ok.mq,⟨λ h=>(nomatch h),λ _=>bI⟩,ok.frames,ok.nP,ok.p6,ok.bs,ok.hK,ok.lJ,ok.nX,ok.hs,ok.jT⟩,I.os,I.bare,I.base,I.loc,I.cell,I.free,I.gx,I.pin,I.a0,I.len⟩
theorem hI.jt {P:Program} {w:World} {K:PySem.W.Frag} {mg:Str->Option Value} {base:Heap} {x qual:Str} {st:Stmt} {f:Addr} {fd:FuncData} {N ag:List Str} {k:Nat} {sp:bF} (F:hI K x qual st f fd) (S:bQ N ag (bA st)) (len : ∀ vs H Q E,sp vs H Q E->vs.length=ag.length)
  (m1 : ∀ (a5:Value) (A:Around) (outer:List Env) (s:Shared) (H:aj) (vs:List V) (Q:bz) (E:dF),i5 k (A.deeper (envOfC qual (bA st) s.heap.objs.size f a5))->sp vs H Q E ->
   ∃ t,hJ (uJ P w K mg base N qual (bA st) f a5 A outer s H E) (hA st) t/\t { bl:=λ _ H'=>Q .bp H',me:=Q } (start N vs) H):qv P w K mg base (k+1) f fd ag sp:=by
 obtain ⟨eu,de,cm,doc,pm,an,a5,b1,lF,rfl,lk,hn⟩:=F.ex;refine ⟨len,λ A outer s H args us vs Q E ar bI b6 aa r dX=>?_⟩;have au:=len _ _ _ _ dX;have jd:K.In s.heap:=b6.mod.j0.keeps λ b o e=>(b6.bs b o e).1
 have lim:s.heap.NoLimit:=b6.mod.nolimit.keeps λ b o e=>(b6.bs b o e).1
 have zY : ∀ y∈ag.zip us,(bA st).names.lookup y.1=some .local\/((bA st).names.lookup y.1=some .cell/\((cellsFrom (s.heap.objs.size+1) (bA st).names []).lookup y.1).isSome=true):=λ ⟨n,v⟩ aL=>by
  rcases S.par n (List.of_mem_zip aL).1 with q | q
  ·exact .inl q
  ·exact .inr ⟨q,PySem.W.cellsFrom_some _ _ _ (.inl q)⟩
 refine codeAny_call_function ar.depth (jd _ _ lk) rfl S.co S.gen rfl (PySem.W.codeRec_of jd hn) (aa _ _ _ _ ?_);refine wpAny_newFunctionEnv_cells S.kind zY λ env he s1 x=>?_
 subst he;refine ⟨lim.keeps x.toInCall.keep,codeAny_func ?_⟩;obtain ⟨t,aZ,aR⟩:=m1 a5 A outer s H vs Q E (ar.deeper _) dX;have I:Inv (uJ P w K mg base N qual (bA st) f a5 A outer s H E) [] (start N vs) H s1:=Ya S bI b6 au r x;refine wpAny_mono (aZ.o [] s1 (start N vs) H _ I aR) (λ df s' aA=>?_) λ e s' aA=>aA.elim
 have fin : ∀ {σ':St} {H':aj} {v:V} {u:Value},Inv (uJ P w K mg base N qual (bA st) f a5 A outer s H E) [] σ' H' s'->RelV v u->Q v H'->tY outer P w H s Q u s' :=
  λ {σ' H' v u} J bE q=>⟨v,H',J.os,J.bare,J.base,J.a0,bE,q⟩
 cases df with
 | ret u =>
  obtain ⟨v,σ',H',J,bE,q⟩:=aA;exact fin J bE q
 | next =>
  obtain ⟨σ',H',J,q⟩:=aA;exact fin (v:=V.bp) (u:=Value.none) J rfl q
 | brk =>
  obtain ⟨_,_,_,q⟩:=aA;exact False.elim q
 | cont =>
  obtain ⟨_,_,_,q⟩:=aA;exact False.elim q
section
variable {X:aQ} {k:Nat} {f:Addr} {fd:FuncData} {ag:List Str} {sp:bF} {x:Str} {p pos:Pos} {e:Expr} {es:List Expr} {t:cH}
theorem iA (F:qv X.prog X.w X.K X.mg X.base k f fd ag sp) (ar:i5 k X.A) (hw:X.warm=true) (aM:c1 X x) (hm:X.mg x=some (.ref f)) (aB:PySem.W.keepIn X.K (.ref f)=true) (aa:Binds X.K fd ag [])
  (av:ek X (e::es) t) (dj:(x == ("__debug__" : Str))=false:=by decide) (cC:noStar e=true:=by rfl) (cW:(backTo pos (starEach es X.env)).any (·.1)=false:=by rfl) :
  bg X (.Call (.Name x p) (e::es) [] pos) (pk sp [] jc t):=⟨by
 intro pins s σ H Q I h;refine wpAny_Call_Name_kw (lX I aM hm ?_ dj);refine PySem.W.callWith_K (h₀:=X.base) I.ok.mod.j0 aB (a_ (av.o pos pins s σ H _ I h) λ us s1 ⟨vs,H1,aJ,r,q⟩=>⟨aJ.dh,?_⟩) (tS cC es X.env) cW;have cb:Vals (vs++[]) (us++[]):=r.append .nil;have au:(us++[]).length=ag.length:=by rw [<-cb.length];exact F.len _ _ _ _ q
 refine wpAny_call (codeAny_mono (F.run X.A X.stack s1 H1 ⟨us,[]⟩ (us++[]) (vs++[]) Q jc ar (aJ.yL hw λ b aa=>absurd aa (by simp)) aJ.qo (aa s1 us aJ.dh au) cb q) λ r s' aR=>?_);cases r with
 | error e=>exact False.elim aR
 | ok df =>
  cases df with
  | ret u=>exact aJ.after aR
  | next=>exact False.elim aR
  | brk=>exact False.elim aR
  | cont=>exact False.elim aR⟩
noncomputable def SH (x:Addr) (sp:bF) (t:cH):TE:=λ σ H Q=>t σ H λ vs H1=>(∃ C d,H1 x=some (nW x C d)) /\ ∀ aw,aw x=none->(∀ b,b≠x->aw b=H1 b)->sp (vs++[]) aw Q jc
theorem VQ {y:Addr} (F:qv X.prog X.w X.K X.mg X.base k f fd ag sp) (ar:i5 k (j5 X y).A) (ah:X.ex=[]) (aM:c1 (j5 X y) x) (hm:X.mg x=some (.ref f)) (aB:PySem.W.keepIn X.K (.ref f)=true) (aa:Binds X.K fd ag [])
  (av:ek (j5 X y) (e::es) t) (dj:(x == ("__debug__" : Str))=false:=by decide) (cC:noStar e=true:=by rfl) (cW:(backTo pos (starEach es X.env)).any (·.1)=false:=by rfl) :
  bg (j5 X y) (.Call (.Name x p) (e::es) [] pos) (SH y sp t):=⟨by
 intro pins s σ H Q I h;refine wpAny_Call_Name_kw (lX I aM hm ?_ dj);refine PySem.W.callWith_K (h₀:=X.base) I.ok.mod.j0 aB (a_ (av.o pos pins s σ H _ I h) λ us s1 ⟨vs,H1,aJ,r,⟨C,d,he⟩,xN⟩=>⟨aJ.dh,?_⟩) (tS cC es X.env) cW;have q:=xN (λ b=>if b=y then none else H1 b) (if_pos rfl) λ b nb=>if_neg nb
 have bD:Inv (j5 X y) pins σ (λ b=>if b=y then none else H1 b) s1:=by
  refine aJ.forget (e:=y) (λ b nb=>if_neg nb) (if_pos rfl) ⟨λ xs z=>?_,λ o u z=>?_,λ ag z=>?_,λ b z=>?_⟩
  ·rw [he] at z;cases z
  ·rw [he] at z;cases z
  ·rw [he] at z;cases z
  ·rw [he] at z;cases z
 have bJ : ∃ bT vs,s1.heap.get? y=some bT/\bT.cls=.ref C/\bT.dict=d/\bT.data=.fields vs/\vs[2]?=some .none:=(aJ.a0 y _ he).1;obtain ⟨bT,sR,af,_,_,aq,aF⟩:=bJ;have OS:y∉eV X.stack:=λ z=>by
  have:=aJ.qP y z;rw [he] at this;cases this
 have hd:ql (j5 X y).A s1.heap (λ b=>if b=y then none else H1 b) (eV (j5 X y).stack) [] :=
  .inr ⟨y,bT,sR,rfl,af,if_pos rfl,OS,by simp,aq,aF⟩
 have cb:Vals (vs++[]) (us++[]):=r.append .nil;have au:(us++[]).length=ag.length:=by rw [<-cb.length];exact F.len _ _ _ _ q
 refine wpAny_call (codeAny_mono (F.run (j5 X y).A X.stack s1 _ ⟨us,[]⟩ (us++[]) (vs++[]) Q jc ar hd bD.qo (aa s1 us aJ.dh au) cb q) λ r s' aR=>?_);cases r with
 | error e=>exact False.elim aR
 | ok df =>
  cases df with
  | ret u=>exact bD.after aR
  | next=>exact False.elim aR
  | brk=>exact False.elim aR
  | cont=>exact False.elim aR⟩
end
noncomputable def vn (X:aQ) (E:St->dF):Prop := ∀ (pins:List (Addr×Obj)) (σ:St) (H:aj) (s:Shared) (e C:Addr) (d:Option Addr) (head:Value) (au:List Addr),Inv X pins σ H s->fN X pins e->H e=none ->
 Rec s.heap e (.ref C) d head->tg s.heap e head au->(∀ b∈au,fN X pins b/\H b=none)->E σ (.ref C) d H->X.cB (.ref e) s
theorem Wj {X:aQ} {pins:List (Addr×Obj)} {W:Value->Shared->Prop} {E:St->dF} (ah:X.ex=[]) (cC:X.stack=X.env::X.outer) (hf:X.env.frame=some X.env.locals)
  (xE : ∀ (σ:St) (H:aj) (s:Shared) (e C T:Addr) (d:Option Addr),Inv X pins σ H s->fN X pins e->H e=none->Rec s.heap e (.ref C) d (.ref T)->Ent s.heap T .none->T≠e->fN X pins T->H T=none->E σ (.ref C) d H->W (.ref e) s)   : vn (lO X pins W) E:=by
 intro qF σ H s e C d head au I gm iC ar bI se hZ;have og:Inv X pins σ H s:=I.iz;show wpAny (model X.prog X.w) X.A (noteFrame (.ref e) X.env) _ _ s;have ft:X.A.frames=some (X.env::X.outer):=by rw [<-cC];exact og.ok.frames
 have kz:s.heap.FunFrames X.base (X.env::X.outer):=by rw [<-cC];exact og.stack
 refine landed ft kz hf ar bI λ h' T cz o4 h2 bG t1=>?_
 have Oy:iu (e::au) (eV X.stack) s.heap h':=by rw [cC];exact h2
 have aJ:Inv X pins σ H { s with heap:=h' }:=og.n_ ah Oy λ b aa=>by
  rcases List.mem_cons.mp aa with z | z
  ·rw [z];exact ⟨gm.iz,iC⟩
  ·exact ⟨(se b z).1.iz,(se b z).2⟩
 exact xE σ H _ e C T d aJ gm.iz iC bG t1 o4 (fN.of og ah cz) (og.a0.gone cz) hZ
noncomputable def Uv (sp:bF) (E:St->dF) (t:cH):TE:=λ σ H Q=>t σ H λ vs H1=>sp (vs++[]) H1 Q (E σ)
section
variable {X:aQ} {k:Nat} {f:Addr} {fd:FuncData} {ag:List Str} {sp:bF} {x:Str} {p pos:Pos} {e:Expr} {es:List Expr} {t:cH} {E:St->dF}
theorem Xg (F:d3 X.prog X.w X.K X.mg X.base (rG X.prog X.w) k f fd ag sp) (ar:c_ k X.A) (ah:X.ex=[]) (rr:vn X E) (aM:c1 X x) (hm:X.mg x=some (.ref f)) (aB:PySem.W.keepIn X.K (.ref f)=true) (aa:Binds X.K fd ag [])
  (av:ek X (e::es) t) (dj:(x == ("__debug__" : Str))=false:=by decide) (cC:noStar e=true:=by rfl) (cW:(backTo pos (starEach es X.env)).any (·.1)=false:=by rfl) :
  bg X (.Call (.Name x p) (e::es) [] pos) (Uv sp E t):=⟨by
 intro pins s σ H Q I h;refine wpAny_Call_Name_kw (lX I aM hm ?_ dj);refine PySem.W.callWith_K (h₀:=X.base) I.ok.mod.j0 aB (a_ (av.o pos pins s σ H _ I h) λ us s1 ⟨vs,H1,aJ,r,q⟩=>⟨aJ.dh,?_⟩) (tS cC es X.env) cW;have cb:Vals (vs++[]) (us++[]):=r.append .nil;have au:(us++[]).length=ag.length:=by rw [<-cb.length];exact F.len _ _ _ _ q
 refine wpAny_call (codeAny_mono (F.run X.A X.stack s1 H1 ⟨us,[]⟩ (us++[]) (vs++[]) Q (E σ) ar aJ.qo (aa s1 us aJ.dh au) cb q) λ r s' aR=>?_);cases r with
 | error ev =>
  obtain ⟨e,T,C,d,H',rfl,aO,sd,u,a0,gm,xB,o4,iC,dw,fW,aZ,hZ⟩:=aR;exact rr pins σ H' s' e C d (.ref T) [T] (aJ.zV aO u a0 sd λ b aa=>absurd aa (by simp)) (fN.of aJ ah gm) iC fW (.inr ⟨T,rfl,aZ,o4,rfl⟩) (λ b aa=>by rw [List.mem_singleton.mp aa];exact ⟨fN.of aJ ah xB,dw⟩) hZ
 | ok df =>
  cases df with
  | ret u=>exact aJ.after aR
  | next=>exact False.elim aR
  | brk=>exact False.elim aR
  | cont=>exact False.elim aR⟩
end
noncomputable def GP (K:PySem.W.Frag) (F:Addr) (U:Addr->Prop):Prop := ∀ C,U C -> ∀ (M:Model) (A:Around) (E:Value->Shared->Prop) (Q:Bool->Shared->Prop) (s:Shared) (e:Addr) (bT:Obj),K.In s.heap->s.heap.get? e=some bT->bT.cls=.ref C->Q true s->wpAny M A (excMatches (.ref e) (.ref F)) Q E s
noncomputable def Ro (U:Addr->Prop) (i:Nat) (E:St->dF) (bo:cX) (gE:Addr->cX):cX:=λ D σ H=>bo D σ H /\ ∀ C d H1 (σ1:St),E σ1 (.ref C) d H1->U C /\ ∀ (e:Addr),H1 e=none->i < σ1.length ->
 gE e { bl:=λ σ2 aw=>D.bl ((σ2.set i (some .bp)).set i none) aw,me:=D.me,dY:=λ σ2 aw=>D.dY ((σ2.set i (some .bp)).set i none) aw,b1:=λ σ2 aw=>D.b1 ((σ2.set i (some .bp)).set i none) aw } (σ1.set i (some (.ref e))) (upd H1 e (nW e C d))
theorem Ua {X:aQ} {E:St->dF} {x n:Str} {i:Nat} {F:Addr} {U:Addr->Prop} {body vT:List Stmt} {uc:Stmt} {bo:cX} {gE:Addr->cX} {np lI pos:Pos} (ah:X.ex=[]) (cC:X.stack=X.env::X.outer) (hf:X.env.frame=some X.env.locals) (Lo:X.mg x=some (.ref F)) (k9:GP X.K F U) (aM:c1 X x)
  (c8:X.N.Nodup) (ax:X.N[i]?=some n) (aB:X.env.scope.names.lookup n=some .local)
  (aa : ∀ pins W,vn (lO X pins W) E->hJ (lO X pins W) body bo) (aA : ∀ e,hJ (j5 X e) (uc::vT) (gE e)) (hd:(x == ("__debug__" : Str))=false:=by decide) :
  fR X (.Try body [.ExceptHandler (some (.Name x np)) (some n) (uc::vT) lI] [] [] pos) (Ro U i E bo gE):=⟨by
 intro pins s σ H D I ⟨af,aq⟩;refine wpAny_Try_except ?_;have xE : ∀ (σ:St) (H:aj) (s:Shared) (e C T:Addr) (d:Option Addr),Inv X pins σ H s->fN X pins e->H e=none->Rec s.heap e (.ref C) d (.ref T)->Ent s.heap T .none->T≠e->fN X pins T->H T=none->E σ (.ref C) d H ->
   wpAny (model X.prog X.w) X.A (handleBy (.ref e) X.env [.ExceptHandler (some (.Name x np)) (some n) (uc::vT) lI]) (iI X pins D) X.cB s:=by
  intro σ H s e C T d I gm iC ar aZ o4 xB dw hZ;obtain ⟨LD,Oc⟩:=aq C d H σ hZ;have hiσ:i < σ.length:=by rw [I.len];exact (List.getElem?_eq_some_iff.mp ax).1
  refine wpAny_handleBy_cons (codeAny_handlers_test (Calls.Name_function_global I.ok.kind aM (Calls.loadGlobal_global (by rw [I.ok.glob];exact I.mod.glob.keeps I.dY) Lo ?_) hd)) (by intro q;cases q);obtain ⟨bT,vs,he,r8,D6,abn,aby⟩:=id ar;refine k9 C LD _ _ _ _ _ _ _ I.dh he r8 ?_;refine codeAny_handlers_suite_as ?_;refine land (F:=eV X.stack) ar aZ o4 (λ b aa z=>?_) λ h' h2 bG t1=>?_
  ·obtain ⟨_,o,aO,mH⟩:=I.stack.mem aa;obtain ⟨rx,Pr,cz,lx,_⟩:=aZ;rw [z,cz] at aO;injection aO with aO;subst aO;exact mH Pr lx
  have aJ:Inv X pins σ H { s with heap:=h' }:=I.n_ ah h2 λ b aa=>by rw [List.mem_singleton.mp aa];exact ⟨xB,dw⟩
  have bD:Inv X pins σ (upd H e (nW e C d)) { s with heap:=h' }:=aJ.known ah gm iC (Rec.ok bG) λ b aa z=>by
   obtain ⟨_,o,aO,mH⟩:=aJ.stack.mem aa;obtain ⟨zj,sR,yP,_,_,gT,_⟩:=bG;rw [z] at aO;have:(Option.some zj)=some o:=yP.symm.trans aO;injection this with this;subst this;exact mH sR gT
  refine wC bD c8 ax (.inl aB) (v:=.ref e) rfl (λ s2 bR=>?_) (.inr aB);refine wpAny_mono ((aA e).o pins s2 _ _ _ bR.Aq (Oc e iC hiσ)) (λ f s3 dX=>?_) λ _ _ z=>z.elim
  have fin : ∀ (σ3:St) (aH:aj) (Z:Flow->Shared->Prop) , Inv X pins σ3 aH s3->(∀ s5,Inv X pins ((σ3.set i (some .bp)).set i none) aH s5->Z f s5) ->
    wpAny (model X.prog X.w) X.A (do bindName X.env n .none;unbindBehindTheSuite X.env n lI) (λ _ s5=>Z f s5) X.cB s3:=by
   intro σ3 aH Z cN LF;have NR:i < σ3.length:=by rw [cN.len];exact (List.getElem?_eq_some_iff.mp ax).1
   refine wpAny_bind (wpAny_bindName (wC cN c8 ax (.inl aB) (v:=.bp) rfl (λ s4 g9=>?_) (.inr aB)));unfold unbindBehindTheSuite;exact wpAny_onRaise (XO g9 c8 ax aB (List.getElem?_set_self NR) λ s5 eF=>LF s5 eF)
  cases f with
  | next =>
   obtain ⟨σ3,aH,cN,q⟩:=dX;exact fin σ3 aH (iI X pins D) (cN.wD I.ok) λ s5 eF=>⟨_,_,eF,q⟩
  | brk =>
   obtain ⟨σ3,aH,cN,q⟩:=dX;exact fin σ3 aH (iI X pins D) (cN.wD I.ok) λ s5 eF=>⟨_,_,eF,q⟩
  | cont =>
   obtain ⟨σ3,aH,cN,q⟩:=dX;exact fin σ3 aH (iI X pins D) (cN.wD I.ok) λ s5 eF=>⟨_,_,eF,q⟩
  | ret u =>
   obtain ⟨v,σ3,aH,cN,bE,q⟩:=dX;exact fin σ3 aH (iI X pins D) (cN.wD I.ok) λ s5 eF=>⟨v,_,_,eF,bE,q⟩
 have x8:vn (lO X pins λ e s3=>wpAny (model X.prog X.w) X.A (handleBy e X.env [.ExceptHandler (some (.Name x np)) (some n) (uc::vT) lI]) (iI X pins D) X.cB s3) E:=Wj ah cC hf xE;refine wpAny_mono ((aa pins _ x8).o [] s σ H D I.vY af) (λ f s1 dX=>?_) λ _ _ z=>z
 cases f with
 | next =>
  obtain ⟨σ3,aH,cN,q⟩:=dX;exact wpAny_execs_nil ⟨σ3,aH,cN.iz,q⟩
 | brk =>
  obtain ⟨σ3,aH,cN,q⟩:=dX;exact ⟨σ3,aH,cN.iz,q⟩
 | cont =>
  obtain ⟨σ3,aH,cN,q⟩:=dX;exact ⟨σ3,aH,cN.iz,q⟩
 | ret u =>
  obtain ⟨v,σ3,aH,cN,bE,q⟩:=dX;exact ⟨v,σ3,aH,cN.iz,bE,q⟩⟩
theorem Yn {K:PySem.W.Frag} {mg:Str->Option Value} {x:Str} {C Fr fI:Addr} (c:ma K mg x C Fr fI):GP K C (λ D=>D=C):=by
 rintro _ rfl M A E Q s e bT X he r8 aR;obtain ⟨nm,q,N,bs,sn,sub,ab,col,dd,k0,k1,k2,k3,k5,h,_⟩:=c.bJ;obtain ⟨bI,g,d,t,os⟩:=s;refine wpAny_excMatches_sub_self (X _ _ h) he r8 ?_ aR;rw [List.contains_cons,show hk.contains (.type "BaseException")=true by decide +kernel,Bool.or_true]
end bC
namespace cf
theorem HX {rows:List (List Int)} {p r:List Int} {n:Nat} (h:goN rows n p=some r) (hf:cv rows r=none) : ∀ j,goN rows (n+1+j) p=none
 | 0=>by
  show (goN rows n p).bind (eM rows)=none;rw [h];exact Bh hf
 | j+1=>by
  show (goN rows (n+1+j) p).bind (eM rows)=none;rw [HX h hf j];rfl
theorem pB {rows:List (List Int)} {p r q:List Int} {n m:Nat} (h:goN rows n p=some r) (hf:cv rows r=none) (hm:goN rows m p=some q):m<=n:=by
 by_cases z:m<=n
 ·exact z
 ·obtain ⟨j,bj⟩ : ∃ j,m=n+1+j:=⟨m - n - 1,by omega⟩
  rw [bj,HX h hf j] at hm;cases hm
theorem HY {rows:List (List Int)} {p r q:List Int} {n m:Nat} (h:goN rows n p=some r) (hf:cv rows r=none) (hm:goN rows m p=some q) (aM:cv rows q=none):n=m:=Nat.le_antisymm (pB hm aM h) (pB h hf hm)
end cf
namespace bC
open PySem PySem.Spec PyProof.Rows
noncomputable abbrev Itm (K:PySem.W.Frag) (a b:Addr):fC:=oF false true K a b
noncomputable abbrev Q3 (K:PySem.W.Frag) (aS:cH):TI:=z1 false true K aS
theorem Ht {X:aQ} {bk:Expr} {aE aI:Expr} {aS:cH} {p pos:Pos} (gg:kU bk=true) (aM:c1 X "zip") (hm:X.mg "zip" = none) (av:ek X [aE,aI] aS) (aA:starEach [aE,aI] X.env=[(false,eval aE X.env),(false,eval aI X.env)]:=by rfl) (fu:starEach [aI] X.env=[(false,eval aI X.env)]:=by rfl)
  (aa:bootBuiltins "zip" = some (.type "zip"):=by decide +kernel):jK X bk (.Call (.Name "zip" p) [aE,aI] [] pos) (Q3 X.K aS):=⟨Hi gg aM hm av.o aA fu aa⟩
theorem U2 {K:PySem.W.Frag} {a b:Addr} {xs ys:List V} {g:dT} {bo:cX} {D:Ends} {σ:St} {H:aj} (Pv:Nat->St->aj->Prop) (h0:Pv 0 σ H) (au : ∀ i σ H,i<=min xs.length ys.length->Pv i σ H->aW K H a xs/\a4 K H b ys)
  (aA : ∀ i x y p σ H,xs[i]?=some x->ys[i]?=some y->H p=none->Pv i σ H->g (.ref p) σ (upd H p (.tup [x,y])) λ σ2 aw=>bo { D with bl:=Pv (i+1),b1:=Pv (i+1),dY:=D.bl } σ2 aw) (hd : ∀ σ H,Pv (min xs.length ys.length) σ H->D.bl σ H) :
  ∃ W:Nat->Nat->St->aj->Prop,(∃ m,W 0 m σ H) /\ ∀ i m σ H,W i m σ H ->
   ((Itm K a b).stop i H/\D.bl σ H)\/((Itm K a b).go i H /\ ∃ N:St->aj->Prop,(∀ σ' H',N σ' H' -> ∃ cu,cu<m/\W (i+1) cu σ' H') /\ ∀ x H',(Itm K a b).hq i H x H'->g x σ H' λ σ2 aw=>bo { D with bl:=N,b1:=N,dY:=D.bl } σ2 aw) :=
 HT (p:=false) (q:=true) Pv h0 au aA hd
open PySem PySem.Spec PyProof.Rows b9
noncomputable def gD (c:List Int):List Key:=c.map λ i=>(Sum.inl i:Key)
theorem Af (c:List Int):(gD c).map cm=c.map V.int:=by
 unfold gD;rw [List.map_map];rfl
theorem RL {a b:List Int} (h:gD a=gD b):a=b:=by
 have:=Af a;rw [h,Af] at this;exact (List.map_inj_right (λ x y e=>by injection e)).mp this.symm
theorem AF {H:aj} {b:Addr} {c:List Int} (h:H b=some (tupI c)):H b=some (.tup ((gD c).map cm)):=by rw [Af];exact h
section
variable {X:aQ}
theorem RX (b_:X.A.units+1<cLine):dx X (compareOp .In) (λ y x H Q => ∃ b d c kvs,y=.ref b/\x=.ref d/\H b=some (tupI c)/\H d=some (.eI kvs)/\Q (.ba (cE kvs (gD c)).isSome) H):=by
 intro pins s σ H y x u v Q I bb aT h;obtain ⟨b,d,c,kvs,rfl,rfl,aa,hd,q⟩:=h;cases aT;exact PK b_ I (i0.t hd (AF aa)) bb λ s3 bR=>⟨.ba _,H,bR,rfl,q⟩
noncomputable def SI (fp ty:TE):TE:=λ σ H Q=>fp σ H λ x H1=>ty σ H1 λ y aw => ∃ d b c kvs v,x=.ref d/\y=.ref b/\aw d=some (.eI kvs)/\aw b=some (tupI c)/\cE kvs (gD c)=some v/\Q v aw
theorem Ho {o i:Expr} {fp ty:TE} {pos:Pos} (b_:X.A.units+1<cLine) (aO:bg X o fp) (ax:bg X i ty) (aA:zw i):bg X (.Subscript o i pos) (SI fp ty):=⟨by
 intro pins s σ H Q I h;refine Hy PySem.F.slot_dict_getitem.lookup aA (a_ (aO.o pins s σ H _ I h) λ u s1 ⟨x,H1,aJ,aT,a6⟩=>a_ (ax.o pins s1 σ H1 _ aJ a6) λ dg s2 ⟨y,aw,bD,bb,b0⟩=>?_);obtain ⟨d,b,c,kvs,v,rfl,rfl,hd,aa,a7,q⟩:=b0;obtain rfl:u=Value.ref d:=aT;have g:i0 aw d (.ref b) (some v):=by rw [<-a7];exact i0.t hd (AF aa)
 exact ⟨JP bD g,IP b_ bD g bb λ cP s3 bR fc=>⟨v,aw,bR,fc,q⟩⟩⟩
noncomputable def SA (fp ty eT:TE):cX:=λ D σ H=>eT σ H λ v H1=>fp σ H1 λ x aw=>ty σ aw λ y aH => ∃ d b c kvs,x=.ref d/\y=.ref b/\aH d=some (.eI kvs)/\aH b=some (tupI c)/\kvs.length<sizeLine /\ ∀ aX,b9.b3 d aH aX->aX d=some (.eI (putK kvs (gD c) v))->D.bl σ aX
theorem T9 {o i value:Expr} {fp ty eT:TE} {pos pos':Pos} (b_:X.A.units+1<cLine) (aO:bg X o fp) (ax:bg X i ty) (a7:bg X value eT) (aA:swapsWith value (some (.Subscript o i pos')) pos.line X.env=pure false) :
  fR X (.Assign [.Subscript o i pos'] value pos) (SA fp ty eT):=⟨by
 intro pins s σ H D I h;refine wpAny_Assign_Subscript (a_ (a7.o pins s σ H _ I h) λ r s1 ⟨v,H1,aJ,bE,a6⟩=>a_ (aO.o pins s1 σ H1 _ aJ a6) λ u s2 ⟨x,aw,bD,aT,b0⟩=>a_ (ax.o pins s2 σ aw _ bD b0) λ dg s3 ⟨y,aH,bR,bb,ew⟩=>?_) aA;obtain ⟨d,b,c,kvs,rfl,rfl,hd,aa,au,q⟩:=ew;obtain rfl:u=Value.ref d:=aT;exact Bv b_ bR (nV.t hd (AF aa) au) bb bE λ s4 cN=>⟨σ,_,cN,q _ b9.b3.upd br⟩⟩
noncomputable def Uw:TE:=λ _ H Q=>gY (.eI []) H Q
theorem VS {pos:Pos}:bg X (.Dict [] [] pos) Uw:=⟨λ pins s σ H Q I h=>Vy pins s σ H Q I (gY.at h)⟩
end
theorem J4 {kvs:List (List Key×V)} {c d:List Int} {y:V} (h:d≠c):cE (putK kvs (gD c) y) (gD d)=cE kvs (gD d):=by
 rw [wF,if_neg λ e=>h (RL e)]
theorem KI {kvs:List (List Key×V)} {c:List Int} {y:V}:cE (putK kvs (gD c) y) (gD c)=some y:=by
 rw [wF,if_pos rfl]
section
variable {X:aQ}
noncomputable def F3:V->V->aj->bz->Prop:=λ x y H Q => ∃ p xs i v,x=.ref p/\y=.int i/\H p=some (.lst xs)/\0<=i/\xs[i.toNat]?=some v/\Q v H
theorem U5:E2 X F3:=by
 intro pins s σ H x y cO dg Q I aT bb h;obtain ⟨p,xs,i,z,rfl,rfl,aR,h0,he,q⟩:=h;cases aT;obtain ⟨t,rfl⟩:=bb;obtain ⟨its,r,pl,aN⟩:=I.list (a4.of aR);obtain ⟨w,pN,fc⟩:=r.get he;have au:=r.length;have aC:=pn;have ax:i.toNat<xs.length:=(List.getElem?_eq_some_iff.mp he).1;exact wpAny_getItem_list pl.isList h0 (by omega) (by simpa using pN) ⟨z,H,I,fc,q⟩
theorem T8 {o i e:Expr} {to h3 bc:TE} {vH pos:Pos} (aO:bg X o to) (ax:bg X i h3) (he:bg X e bc)
  (av : ∀ cO dg new,augStore i cO dg new=(do holding [new,cO,dg] (setItem cO dg new);release [new,cO,dg] [];pure .next):=by intros;rfl):fR X (.AugAssign (.Subscript o i vH) .Add e pos) (F8 to h3 bc F3 (El λ i j=>i+j) F4):=⟨TR aO.o ax.o U5 he.o RI set_list av⟩
end
end bC
namespace cf
inductive pI where
 | round (b l:Nat)
 | rests (n:Nat) (c:List Int)
 | hW
noncomputable def rI (rows:List (List Int)) (p:List Int) (k:Nat):Prop := ∀ i j,i<j->j<k->goN rows i p≠goN rows j p
noncomputable def qu (rows:List (List Int)) (m:Nat) (p:List Int):pI->Prop
 | .round b l=>1<=l/\b+l<=m/\(∃ c,goN rows b p=some c/\goN rows (b+l) p=some c)/\rI rows p (b+l)
 | .rests n c=>n<=m/\goN rows n p=some c/\cv rows c=none
 | .hW=>(∃ c,goN rows (m+1) p=some c)/\rI rows p (m+1)
theorem IU {rows:List (List Int)} {p:List Int} {a b:Nat} (h:goN rows a p=goN rows b p) : ∀ k,goN rows (a+k) p=goN rows (b+k) p
 | 0=>h
 | k+1=>by
  show (goN rows (a+k) p).bind (eM rows)=(goN rows (b+k) p).bind (eM rows);rw [IU h k]
theorem Hg {rows:List (List Int)} {p c:List Int} {a b n:Nat} (abm:a<b) (h:goN rows a p=goN rows b p) (aa:b<=n) (aC:goN rows n p=some c) (hf:cv rows c=none):False:=by
 have e:=IU h (n - b);rw [show b+(n - b)=n by omega,aC] at e;have:=HY e hf aC hf;omega
theorem qu.uniq {rows:List (List Int)} {m:Nat} {p:List Int} : ∀ {x y:pI},qu rows m p x->qu rows m p y->x=y
 | .round b l,.round e6 ow,⟨af,aq,⟨c,aF,aU⟩,bW⟩,⟨g1,g2,⟨d,g3,iL⟩,e8⟩=>by
  have k1 : ¬ b+l<e6+ow:=λ z=>e8 b (b+l) (by omega) z (by rw [aF,aU])
  have k2 : ¬ e6+ow<b+l:=λ z=>bW e6 (e6+ow) (by omega) z (by rw [g3,iL])
  have k3:b+l=e6+ow:=by omega
  rw [k3,iL] at aU;cases aU;have pQ : ¬ b<e6:=λ z=>e8 b e6 z (by omega) (by rw [aF,g3])
  have k5 : ¬ e6<b:=λ z=>bW e6 b z (by omega) (by rw [aF,g3])
  have:b=e6:=by omega
  subst this;have:l=ow:=by omega
  rw [this]
 | .round b l,.rests n c,⟨af,aq,⟨cj,aF,aU⟩,bW⟩,⟨g1,g2,g3⟩=>(Hg (a:=b) (b:=b+l) (by omega) (by rw [aF,aU]) (pB g2 g3 aU) g2 g3).elim
 | .rests n c,.round b l,⟨g1,g2,g3⟩,⟨af,aq,⟨cj,aF,aU⟩,bW⟩=>(Hg (a:=b) (b:=b+l) (by omega) (by rw [aF,aU]) (pB g2 g3 aU) g2 g3).elim
 | .round b l,.hW,⟨af,aq,⟨cj,aF,aU⟩,bW⟩,⟨_,g⟩=>(g b (b+l) (by omega) (by omega) (by rw [aF,aU])).elim
 | .hW,.round b l,⟨_,g⟩,⟨af,aq,⟨cj,aF,aU⟩,bW⟩=>(g b (b+l) (by omega) (by omega) (by rw [aF,aU])).elim
 | .rests n c,.rests bS cj,⟨af,aq,aF⟩,⟨g1,g2,g3⟩=>by
  have:=HY aq aF g2 g3;subst this;rw [aq] at g2;cases g2;rfl
 | .rests n c,.hW,⟨af,aq,aF⟩,⟨⟨d,g⟩,_⟩=>by
  have:=pB aq aF g;omega
 | .hW,.rests n c,⟨⟨d,g⟩,_⟩,⟨af,aq,aF⟩=>by
  have:=pB aq aF g;omega
 | .hW,.hW,_,_=>rfl
noncomputable abbrev hS (x y:Int):Int:=x - y
noncomputable abbrev gV (x y:Int):Int:=if y<x then y else x
theorem zW : ∀ (s t:List Int),(List.zipWith hS s (List.zipWith gV s t)).map Int.toNat=ups (List.zipWith hS s t)
 | [],_=>rfl
 | _::_,[]=>rfl
 | x::s,y::t=>by
  show (x - gV x y).toNat::(List.zipWith hS s (List.zipWith gV s t)).map Int.toNat=(x - y).toNat::ups (List.zipWith hS s t);rw [zW s t];congr 1;unfold gV;split<;>omega
theorem zX : ∀ (s t:List Int),(List.zipWith hS t (List.zipWith gV s t)).map Int.toNat=downs (List.zipWith hS s t)
 | [],[]=>rfl
 | [],_::_=>rfl
 | _::_,[]=>rfl
 | x::s,y::t=>by
  show (y - gV x y).toNat::(List.zipWith hS t (List.zipWith gV s t)).map Int.toNat=(-(x - y)).toNat::downs (List.zipWith hS s t);rw [zX s t];congr 1;unfold gV;split<;>omega
theorem HD : ∀ (s t:List Int),(∀ e∈t,0<=e)->(ups (List.zipWith hS s t)).sum<=(ups s).sum
 | [],_,_=>by simp [ups]
 | _::_,[],_=>by simp [ups]
 | x::s,y::t,h=>by
  have af:=h y List.mem_cons_self;have aq:=HD s t λ e he=>h e (List.mem_cons_of_mem _ he)
  show ((x - y).toNat::ups (List.zipWith hS s t)).sum<=(x.toNat::ups s).sum;rw [List.sum_cons,List.sum_cons];omega
theorem IQ : ∀ (s t:List Int),(∀ e∈s,0<=e)->(downs (List.zipWith hS s t)).sum<=(ups t).sum
 | [],_,_=>by simp [downs]
 | _::_,[],_=>by simp [downs]
 | x::s,y::t,h=>by
  have af:=h x List.mem_cons_self;have aq:=IQ s t λ e he=>h e (List.mem_cons_of_mem _ he)
  show ((-(x - y)).toNat::downs (List.zipWith hS s t)).sum<=(y.toNat::ups t).sum;rw [List.sum_cons,List.sum_cons];omega
theorem He : ∀ {l:List Nat} {x:Nat},x∈l->x<=l.sum
 | [],_,h=>by cases h
 | y::r,x,h=>by
  rw [List.sum_cons];rcases List.mem_cons.mp h with z | z
  ·omega
  ·have:=He z;omega
theorem RE {s t:List Int} {e:Int} (h:e∈List.zipWith hS s (List.zipWith gV s t)):0<=e:=by
 obtain ⟨k,aB⟩:=List.getElem?_of_mem h;rw [List.getElem?_zipWith_eq_some] at aB;obtain ⟨x,m,ah,hm,rfl⟩:=aB;rw [List.getElem?_zipWith_eq_some] at hm;obtain ⟨dI,y,cZ,aL,rfl⟩:=hm;rw [ah] at cZ;cases cZ;show 0<=x - gV x y;unfold gV;split<;>omega
theorem RF {s t:List Int} {e:Int} (h:e∈List.zipWith hS t (List.zipWith gV s t)):0<=e:=by
 obtain ⟨k,aB⟩:=List.getElem?_of_mem h;rw [List.getElem?_zipWith_eq_some] at aB;obtain ⟨y,m,aL,hm,rfl⟩:=aB;rw [List.getElem?_zipWith_eq_some] at hm;obtain ⟨x,fs,ah,d9,rfl⟩:=hm;rw [aL] at d9;cases d9;show 0<=y - gV x y;unfold gV;split<;>omega
theorem Gk {l:List Int} {n:Nat} (h0 : ∀ e∈l,0<=e) (h:(l.map Int.toNat).sum<=n) (aC:n<=1000) : ∀ e∈l,0<=e/\e<2 ^ 62:=λ e he=>by
 have:=He (List.mem_map_of_mem (f:=Int.toNat) he);have:=h0 e he;omega
end cf
namespace b9
open PySem bC cf
theorem CQ {K:PySem.W.Frag} {a b D:Addr} {js:List (Option Nat)} {bc:TE} {σ:St} {H1:aj} {Q:bz} {xs ys:List Int} {σ0:St} {f:Int->Int->Int} (aC:min xs.length ys.length<=sizeLine) (ay : ∃ u v,pick js σ=u::v::σ0) (aY:H1 D=none)
  (av:H1 a=some (.lst (xs.map V.int))) (aa:H1 b=some (.lst (ys.map V.int)))
  (aA : ∀ (x y:Int) (H':aj) (R:bz),x∈xs->y∈ys->R (.int (f x y)) H'->bc (some (.int x)::some (.int y)::σ0) H' R)
  (q : ∀ H',aD H1 H'->H' D=some (.lst ((List.zipWith f xs ys).map V.int))->Q (.ref D) H'):gJ (vl a b) D js (pb K 2 (lL (fO 0) (lL (fO 1) qp))) iy bc σ H1 Q:=by
 obtain ⟨e_,v0,ay⟩:=ay;refine WC (a:=a) (b:=b) (xs:=xs.map V.int) (ys:=ys.map V.int) (by rw [List.length_map,List.length_map];exact aC) (λ i σ' H' zs=>(∃ u v:Option V,σ'=u::v::σ0)/\aD H1 H'/\zs=((List.zipWith f xs ys).take i).map V.int) ⟨⟨e_,v0,ay⟩,aD.new aY,rfl⟩ (λ i σ' H' zs _ ⟨_,s',_⟩=>⟨s' _ _ av,s' _ _ aa⟩) ?_ ?_
 ·rintro i x y p σ' H' zs R ah aL ay cV ez ⟨⟨u,v,rfl⟩,s',rfl⟩ et;obtain ⟨x,rfl,cZ⟩:=hY ah;obtain ⟨y,rfl,d9⟩:=hY aL;refine ⟨p,_,rfl,aW.of br,rfl,_,_,rfl,_,_,rfl,rfl,?_⟩;refine aA x y _ _ (List.mem_of_getElem? cZ) (List.mem_of_getElem? d9) (et _ _ _ ?_ ⟨⟨_,_,rfl⟩,?_,?_⟩)
  ·rw [a3 (b2 cV ay)];exact cV
  ·intro c o e;rw [a3 (b2 e aY),a3 (b2 (s' c o e) ay)];exact s' c o e
  ·rw [Ko cZ d9,List.map_append];rfl
 ·rintro σ' H' zs cV ez ⟨_,s',rfl⟩;refine q H' s' ?_;rw [cV,List.length_map,List.length_map,List.take_of_length_le (by rw [List.length_zipWith];exact Nat.le_refl _)]
noncomputable def E0 (a l:Addr) (H H':aj):Prop := ∀ c o,c≠a->c≠l->H c=some o->H' c=some o
end b9
namespace bC
open PySem PySem.Spec PyProof.Rows
theorem TU {X:aQ} {elt bk iter:Expr} {cs:List Expr} {scope:Scope} {cK pos pos':Pos} {cl:List (Str×Addr)} {N:List Str} {js:List (Option Nat)} {e2:TI} {g:dT} {cT:TT} {bc:TE} {dg:Nat} {x0:Str}
  (yH:X.N.Nodup) (yV:X.N[dg]?=some x0) (y8:Loc X.env.scope x0)
  (C:qG X scope cl N js) (ao:X.warm=true) (ax:kb X bk iter e2)
  (aM : ∀ bh pins s H,l_ (el X scope cl N bh pins s H λ _ _=>False) bk g)
  (aZ : ∀ bh pins s H,rQ (el X scope cl N bh pins s H λ _ _=>False) cs cT)
  (he : ∀ bh pins s H,bK (el X scope cl N bh pins s H λ _ _=>False) elt bc)
  (y6:swapsWith (.ListComp elt [⟨bk,iter,cs,0⟩] scope cK) (some (.Name x0 pos')) pos.line X.env=pure true)
  (aA : ∀ x,foldedSetIterable iter X.env x=pure x:=by intro _;rfl) (oW:X.fn x0=true\/X.env.scope.names.lookup x0=some .local:=by first | exact .inl rfl | exact .inr rfl | assumption):iF X (.Assign [.Name x0 pos'] (.ListComp elt [⟨bk,iter,cs,0⟩] scope cK) pos) (pe (vU js e2 g cT bc) (fO dg)):=by
 intro pins s σ H xd I h;rw [exec_Assign_Name_used _ _ _ _ y6];refine wpAny_bind (wpAny_standAt (wpAny_bind ?_));show wpAny _ X.A (do let _ ← comprehension (.ListComp elt [⟨bk,iter,cs,0⟩] scope cK) scope X.env _ (newList []) false (eval iter X.env) (some (assign (.Name x0 pos') X.env))) _ _ s;refine wpAny_bind (wpAny_mono (wpAny_comprehension_free (use:=some (assign (.Name x0 pos') X.env)) (Q:=λ _ s'=>iI X pins xd .next s') rfl aA C.qn C.kind C.names (a_ (ax pins s σ H _ I h) λ L4 s1 af=>a_ af λ u3 s2 aq=>?_)) (λ _ s' aR=>wpAny_pure (wpAny_pure aR)) λ _ _ e=>e);obtain ⟨it,bh,fq,J,aw,e,bD,T,mQ,f2,aq⟩:=aq;subst e;obtain ⟨W,⟨m0,w0⟩,turn⟩:=aq s2.heap.objs.size bD.fresh;refine wpAny_newObj_type (wpAny_newFunctionEnv C.Gz (by intro y aL;simp at aL) (λ aU o5 o8=>?_) C.kind);have bR:Inv X pins σ (upd aw s2.heap.objs.size (.lst [])) { s2 with heap:=s2.heap.push { cls:=.type "list", data:=.seq ([]:List Value).toArray } }:=bD.vz (t':=s2.toks) (its:=[]) .nil (Nat.zero_le _);dsimp only at o5 o8 ⊢;generalize cx:({ s2 with heap:=s2.heap.push { cls:=.type "list", data:=.seq ([]:List Value).toArray } }:Shared)=s3 at bR;have oQ:s2.heap.push { cls:=.type "list", data:=.seq ([]:List Value).toArray }=s3.heap:=by rw [<-cx]
 have MA:s2.gens=s3.gens:=by rw [<-cx]
 have MB:s2.os=s3.os:=by rw [<-cx]
 rw [oQ] at o5 o8 ⊢;generalize jM:upd aw s2.heap.objs.size (.lst [])=aH at bR w0;have aY:s2.heap.objs.size<s3.heap.objs.size:=by rw [<-oQ,Heap.size_push];exact Nat.lt_succ_self _
 have sP : ∀ b o,s2.heap.get? b=some o->s3.heap.get? b=some o:=λ b o q=>by rw [<-oQ];exact Heap.get?_push_of_some _ q
 have jv : ∀ b o,s3.heap.get? b=some o->aU.get? b=some o:=λ b o q=>o8.extBut b o (Nat.ne_of_lt (Heap.lt_size q)) (Heap.get?_push_of_some _ q)
 have r0 : ∀ b∈bh,b<s3.heap.objs.size:=λ b aa=>by
  obtain ⟨o,da,_⟩:=T.obj 0 _ mQ b aa;exact Heap.lt_size (sP b o da)
 have fst : ∀ b∈bh,b∉eV X.stack:=λ b aa z=>by
  rcases List.mem_cons.mp (bR.m5 b z) with q | q
  ·exact (f2 b aa).2.1 q
  ·exact (f2 b aa).2.2.1 q
 have zk:(el X scope cl N bh pins s3 aH λ _ _=>False).Ok:=by
  refine ⟨I.ok.mod,C.kind,I.ok.glob,I.ok.blt,Nat.le_refl _,λ x y c a6 b0=>I.ok.inj x y c (C.sub _ _ a6) (C.sub _ _ b0),C.has,λ x c z=>absurd z Bool.false_ne_true,⟨I.ok.hd.1,λ hw=>bR.yL hw λ b aa=>(f2 b aa).2.2.2.1⟩,I.ok.frames,.inl rfl,λ b aa=>⟨Nat.ne_of_lt (r0 b aa),λ x c q=>(f2 b aa).2.2.2.2.1 x c (C.sub _ _ q)⟩,
   bR.bs,Nat.le_trans I.ok.hK bR.gb,λ b o q aa=>?_,fst,bR.stack,bR.qP⟩
  rcases (f2 b aa).2.2.2.1 with z | z
  ·exact I.ok.lJ b o q z
  ·exact absurd (Nat.lt_of_lt_of_le (Heap.lt_size q) (Nat.le_trans I.ok.hK z)) (Nat.lt_irrefl _)
 have cN:Inv (el X scope cl N bh pins s3 aH λ _ _=>False) [] (pick js σ) aH { s3 with heap:=aU,toks:=s3.toks+([]:List (Str×Value)).length }:=by
  refine ⟨zk,rfl,bR.bare,eH.kept jv,⟨_,o5,λ i x v a6 b0 ew=>?_⟩,λ x c q=>?_,bR.a0.fresh (Nat.le_refl _),λ x c q=>bR.gx x c (C.sub _ _ q),λ p ay=>?_,bR.a0.kept jv,?_⟩
  ·obtain ⟨j,k1,k2⟩:=H7 b0;obtain ⟨dR,di,gq⟩:=C.seen i j x a6 k1;obtain ⟨m,aC,au⟩:=bR.loc;obtain ⟨u,dA,lk⟩:=au j x v dR k2 (.inr (.inl di));refine ⟨u,dA,.inr ⟨gq,?_⟩⟩;rcases lk with ⟨k,_⟩ | ⟨_,c,gC,eu,lz,oV⟩
   ·have fS:X.env.scope.names.lookup x=some .local:=k;rw [di] at fS;cases fS
   ·obtain ⟨cj,rX⟩:=C.has x gq;have:=C.sub _ _ rX;rw [gC] at this;cases this;exact ⟨c,rX,eu,jv _ _ lz,oV⟩
  ·obtain ⟨v,eu,lz,oV⟩:=bR.cell x c (C.sub _ _ q);exact ⟨v,eu,jv _ _ lz,oV⟩
  ·have jr:p∈X.iP++pins:=by simpa using ay
   obtain ⟨a6,b0,ew,oz,nv⟩:=bR.pin p jr;refine ⟨jv _ _ a6,b0,Nat.ne_of_lt (Heap.lt_size a6),λ z=>?_,nv⟩;rcases List.mem_cons.mp (bR.m5 _ z) with q | q
   ·exact ew q
   ·exact oz q
  ·show (pick js σ).length=N.length;unfold pick;rw [List.length_map,C.len]
 have stat : ∀ {H':aj},(∀ b∈bh,H' b=none) -> ∀ b∈bh,kI (el X scope cl N bh pins s3 aH λ _ _=>False) [] H' b:=λ aC b aa =>
  ⟨aC b aa,Nat.ne_of_lt (r0 b aa),fst b aa,.inl aa,λ x c q=>(f2 b aa).2.2.2.2.1 x c (C.sub _ _ q),λ p ay=>(f2 b aa).2.2.2.2.2 p (by simpa using ay)⟩
 have sO:fq 0 aU:=T.keep 0 _ _ mQ λ b aa o q=>jv b o (sP b o q)
 have bl : ∀ e s',(el X scope cl N bh pins s3 aH λ _ _=>False).cB e s'->False:=λ _ _ z=>z
 have loop:codeAny (model X.prog X.w) X.A (.compLoop (.ListComp elt [⟨bk,iter,cs,0⟩] scope cK) 0 (.ref it) (.ref s2.heap.objs.size) (compEnvC scope cl s3.heap.objs.size X.env))
   (compPost (model X.prog X.w) X.A X.cB (some (assign (.Name x0 pos') X.env)) (λ _ s'=>iI X pins xd .next s') (.ref s2.heap.objs.size) s3.heap.objs.size) { s3 with heap:=aU,toks:=s3.toks+([]:List (Str×Value)).length }:=by
  refine Hc (λ n s' => ∃ i σ' H' ys,Inv (el X scope cl N bh pins s3 aH λ _ _=>False) [] σ' H' s'/\fq i s'.heap/\(∀ b∈bh,H' b=none)/\W i n σ' H' ys) ?_ m0 ⟨0,_,aH,[],cN,sO,λ b aa=>?_,w0⟩
  ·rintro n s5 ⟨i,σ5,bH,ys,g9,mR,oS,x4⟩;obtain ⟨Np,way⟩:=turn i n σ5 bH ys x4;rcases way with ⟨stop,oB⟩ | ⟨go,aN,rg,c8,step⟩
   ·refine i2 bl (a_ (T.done (el X scope cl N bh pins s3 aH λ _ _=>False) rfl rfl rfl rfl ao i [] s5 σ5 bH _ g9 (stat oS) mR stop) λ r cp ⟨ar,eF⟩=>?_);subst ar;obtain ⟨m,aC,_⟩:=eF.loc;have Lz:kI X pins bH s3.heap.objs.size:=bR.nY (Nat.le_refl _) eF.free;have g_:Inv X pins σ bH cp:=?_
    ·refine wpAny_assign_Name (I_ (v:=.ref s2.heap.objs.size) g_ yH yV y8 rfl (λ gQ rb N8=>?_) oW);obtain ⟨Lk,Pj,jh⟩:=N8;obtain ⟨f0,f1,abk,c2,f4,e7⟩:=Lz;have ox:s3.heap.objs.size≠Lk:=by
      rcases jh with z | z
      ·rw [z];exact f1
      ·exact (f4 _ _ z).symm
     refine ⟨m,aC.sameBut Pj ox,λ h' dB=>⟨_,bH,?_,oB⟩⟩;exact rb.turned (t':=gQ.toks) (λ b o aa e=>(dB.2 b aa).trans e) f0 f1 c2 f4 e7
    have low : ∀ b o,s3.heap.get? b=some o->b≠s3.heap.objs.size:=λ b o q=>Nat.ne_of_lt (Heap.lt_size q)
    have same : ∀ b,b≠s3.heap.objs.size->cp.heap.get? b=cp.heap.get? b:=λ b aa=>rfl
    have B:=eF.base;refine bR.zV (s':=cp) (H':=bH) (ch:=bh) eF.os ⟨λ b o q jP af aq=>?_,λ b o q jP af aq=>?_,B.free,λ b o q aq=>?_,B.i4,B.ih,B.i3⟩ (λ a o q=>?_) eF.bare (λ b aa=>⟨(f2 b aa).2.2.2.1,(f2 b aa).2.1,(f2 b aa).2.2.2.2.1,(f2 b aa).2.2.2.2.2⟩)
    ·exact (same b (low b o q)).trans (B.keep b o q jP af aq)
    ·obtain ⟨cq,z⟩:=B.slot b o q jP af aq;exact ⟨cq,(same b (low b o q)).trans z⟩
    ·obtain ⟨eb,z⟩:=B.there b o q aq;exact ⟨eb,(same b (low b o q)).trans z⟩
    ·have ox : ∀ c u,bH c=some u->c≠s3.heap.objs.size:=λ c u z y=>by
      have:=eF.free;rw [y] at z;rw [show bH s3.heap.objs.size=none from this] at z;cases z
     refine (eF.a0 a o q).hV (λ c u mE z=>(same c ?_).trans z) (λ _ z=>z) λ _ _ z=>z
     rcases mE with c9 | c9
     ·rw [c9];exact ox a o q
     ·exact ox c _ c9
   ·refine i2 bl (a_ (T.item (el X scope cl N bh pins s3 aH λ _ _=>False) rfl rfl rfl rfl ao i [] s5 σ5 bH _ g9 (stat oS) mR go) λ r cp ⟨u,ar,dV⟩=>?_);subst ar;refine i2 bl (a_ dV λ _ fm ⟨x,ej,g_,rz,rD,o9,yx⟩=>?_);have yg:=g_.pinned (stat yx) (T.obj _ _ o9);refine i2 bl (a_ (aM bh pins s3 aH _ fm σ5 ej x u _ yg rz (step x ej rD)) λ _ gQ ⟨σ8,l9,rb,xP⟩=>?_);refine i2 bl (a_ (aZ bh pins s3 aH _ gQ σ8 l9 _ rb xP) λ k hE ⟨nh,rd,mc⟩=>?_);have fin : ∀ {s':Shared} {σ':St} {H':aj} {kH:List V},Inv (el X scope cl N bh pins s3 aH λ _ _=>False) ([]++qH bh fm.heap) σ' H' s'->rg σ' H' kH ->
      ∃ cu,cu<n /\ ∃ i σ' H' ys,Inv (el X scope cl N bh pins s3 aH λ _ _=>False) [] σ' H' s'/\fq i s'.heap/\(∀ b∈bh,H' b=none)/\W i cu σ' H' ys:=λ {s' σ' H' kH} oh xJ=>by
     obtain ⟨cu,hm,wv⟩:=c8 σ' H' kH xJ;refine ⟨cu,hm,i+1,σ',H',kH,oh.tw,T.keep _ _ _ o9 λ b aa o q=>(oh.pin (b,o) (List.mem_append_right _ (List.mem_append_right _ (q1 aa q)))).1,λ b aa=>?_,wv⟩;obtain ⟨o,q,_⟩:=T.obj _ _ o9 b aa;exact (oh.pin (b,o) (List.mem_append_right _ (List.mem_append_right _ (q1 aa q)))).2.1
    cases k with
    | false =>
     rw [if_neg Bool.false_ne_true] at mc ⊢;exact fin rd mc.2
    | true =>
     rw [if_pos rfl] at mc ⊢;refine i2 bl (a_ (he bh pins s3 aH _ hE σ8 nh _ rd mc) λ y lb ⟨jm,t4,xh,xS,yG,xQ⟩=>?_);refine i2 bl (a_ (BB _ lb σ8 t4 (.ref s2.heap.objs.size) [jm] _ [y] (λ _ pJ=>rg σ8 pJ (ys++[jm])) xh rfl (.cons xS .nil) ⟨_,ys,jm,rfl,rfl,yG,aN,xQ⟩) λ _ sB ⟨_,pJ,xi,_,xR⟩=>?_);exact fin xi xR
  ·rw [<-jM,a3]
   ·exact (f2 b aa).1
   ·obtain ⟨o,da,_⟩:=T.obj 0 _ mQ b aa;exact Nat.ne_of_lt (Heap.lt_size da)
 have goal:codeAny (model X.prog X.w) X.A (.compStart (.ListComp elt [⟨bk,iter,cs,0⟩] scope cK) 0 (.ref it) (.ref s2.heap.objs.size) (compEnvC scope cl s3.heap.objs.size X.env))
   (compPost (model X.prog X.w) X.A X.cB (some (assign (.Name x0 pos') X.env)) (λ _ s'=>iI X pins xd .next s') (.ref s2.heap.objs.size) s3.heap.objs.size) { s3 with heap:=aU,toks:=s3.toks+([]:List (Str×Value)).length } :=
  codeAny_compStart_list loop (T.self _ 0 _ _ _ sO loop)
 subst cx;exact goal
theorem wq {X:aQ} {elt bk iter:Expr} {cs:List Expr} {scope:Scope} {cK pos pos':Pos} {cl:List (Str×Addr)} {N:List Str} {js:List (Option Nat)} {e2:TI} {g:dT} {cT:TT} {bc:TE} {i:Nat} {x0:Str}
  (yH:X.N.Nodup) (yV:X.N[i]?=some x0) (y8:Loc X.env.scope x0)
  (C:qG X scope cl N js) (ao:X.warm=true) (ax:jK X bk iter e2)
  (aM : ∀ bh pins s H,kd (el X scope cl N bh pins s H λ _ _=>False) bk g)
  (aZ : ∀ bh pins s H,uA (el X scope cl N bh pins s H λ _ _=>False) cs cT)
  (he : ∀ bh pins s H,bg (el X scope cl N bh pins s H λ _ _=>False) elt bc)
  (y6:swapsWith (.ListComp elt [⟨bk,iter,cs,0⟩] scope cK) (some (.Name x0 pos')) pos.line X.env=pure true:=by rfl)
  (aA : ∀ x,foldedSetIterable iter X.env x=pure x:=by intro _;rfl) (oW:X.fn x0=true\/X.env.scope.names.lookup x0=some .local:=by first | exact .inl rfl | exact .inr rfl | assumption):fR X (.Assign [.Name x0 pos'] (.ListComp elt [⟨bk,iter,cs,0⟩] scope cK) pos) (pe (vU js e2 g cT bc) (fO i)) :=
 ⟨TU yH yV y8 C ao ax.o (λ a b c d=>(aM a b c d).o) (λ a b c d=>(aZ a b c d).o) (λ a b c d=>(he a b c d).o) y6 aA oW⟩
end bC
namespace rk
open PySem PyProof.Rows jL
noncomputable abbrev fv (h:Heap) (T:Addr) (a b c:Value):Prop:=h.get? T=some { cls:=.type "tuple", data:=.seq #[a,b,c] }
theorem eA {n k m:Nat} (h:k≠m):n+k≠n+m:=by omega
theorem mb {n k:Nat} (h:0<k):n≠n+k:=by omega
theorem pR {n k:Nat} (h:0<k):n+k≠n:=by omega
theorem dq {t n k:Nat} (h:t<n):t≠n+k:=by omega
section
variable {prog:Program} {w:World} {A:Around} {E:Value->Shared->Prop} {s:Shared}
theorem zT {T:Addr} {a b c x:Value} {k:Nat} {Q:Unit->Shared->Prop} (cz:fv s.heap T a b c)
  (h : ∀ h',h'.get? T=some { cls:=.type "tuple", data:=.seq ((#[a,b,c]:Array Value).setIfInBounds k x) }->Heap.SameBut T s.heap h'->Q () { s with heap:=h' }) :
  wpAny (model prog w) A (updateSeq T (·.setIfInBounds k x)) Q E s:=by
 refine wpAny_updateSeq cz rfl (h _ ?_ (Heap.SameBut.update ..));rw [Heap.get?_update_self _ cz rfl];simp [Obj.mapSeq]
theorem Bn {n t1 bf t3:Addr} {k:Nat} {xs ys zs:Array Value} {x y v a b c:Value} {Q:Value->Shared->Prop} (iE:t1<n) (bC:bf<n) (je:t3<n)
  (dJ:IsZip s.heap (n+5) (n+3) (n+4) .none) (h6:fv s.heap (n+3) (.ref n) (.ref (n+1)) (.ref (n+2))) (kp:fv s.heap (n+4) a b c)
  (er:s.heap.IsTupleIter n t1 k) (hg:s.heap.IsTupleIter (n+1) bf k) (rq:s.heap.IsTupleIter (n+2) t3 k) (dZ:s.heap.IsTuple t1 xs) (d0:s.heap.IsTuple bf ys) (rt:s.heap.IsTuple t3 zs) (ex:xs[k]?=some x) (dP:ys[k]?=some y) (ot:zs[k]?=some v)
  (q : ∀ g,IsZip g (n+5) (n+3) (n+4) (rawInt s.heap.objs.size)->fv g (n+4) x y v->g.IsTupleIter n t1 (k+1)->g.IsTupleIter (n+1) bf (k+1)->g.IsTupleIter (n+2) t3 (k+1)->fv g s.heap.objs.size x y v ->
   (∀ c o,c≠n+5->c≠n+4->c≠n->c≠n+1->c≠n+2->s.heap.get? c=some o->g.get? c=some o)->Q (.ref s.heap.objs.size) { s with heap:=g }) :
  wpAny (model prog w) A (Builtin.«zip.__next__» ⟨[.ref (n+5)],[]⟩) (λ fin s' => ∃ v,fin=.done (.ret v)/\Q v s') E s:=by
 show wpAny _ _ (field (.ref (n+5)) 2>>=_) _ _ _;refine wpAny_bind (wpAny_field dJ rfl (x:=.bool false) rfl ?_);show wpAny _ _ (field (.ref (n+5)) 3>>=_) _ _ _;refine wpAny_bind (wpAny_field dJ rfl (x:=.ref (n+3)) rfl (wpAny_bind (wpAny_seqItems h6 rfl ?_)));show wpAny _ _ (Builtin.SmallTypes.ownedTupleIsFree (.ref (n+5))>>=_) _ _ _;refine wpAny_bind ?_;unfold Builtin.SmallTypes.ownedTupleIsFree;refine wpAny_bind (wpAny_field dJ rfl (x:=.none) rfl (wpAny_pure ?_));simp only [if_true];refine wpAny_bind (wpAny_rule (wpAny_bind (wpAny_field dJ rfl (x:=.ref (n+4)) rfl (wpAny_bind (wpAny_setField_rec dJ (by simp) λ g1 hT s1=>?_)))));replace hT:IsZip g1 (n+5) (n+3) (n+4) .ellipsis:=hT;refine wpAny_bind ?_;simp only [List.zipIdx_cons,List.zipIdx_nil,List.forIn_cons,List.forIn_nil];refine wpAny_bind (wpAny_bind (wpAny_onRaise ?_));show wpAny _ _ (Builtin.SmallTypes.nextOf (.ref n)>>=_) _ _ _;refine wpAny_bind (pull (er.extBut s1.extBut (mb (by decide))) (dZ.extBut s1.extBut (dq iE)) ex λ g2 u2 s2=>wpAny_pure ?_);have mT:fv g2 (n+4) a b c:=s2.extBut _ _ (pR (by decide)) (s1.extBut _ _ (eA (by decide)) kp);refine wpAny_bind (wpAny_seqItems mT rfl (wpAny_bind (zT mT λ g3 nT s3=>?_)));replace nT:fv g3 (n+4) x b c:=nT;refine wpAny_bind (wpAny_letGo (wpAny_pure (wpAny_bind (wpAny_bind (wpAny_onRaise ?_)))));show wpAny _ _ (Builtin.SmallTypes.nextOf (.ref (n+1))>>=_) _ _ _;have sv:=((hg.extBut s1.extBut (eA (by decide))).extBut s2.extBut (pR (by decide))).extBut s3.extBut (eA (by decide));have sy:=((d0.extBut s1.extBut (dq bC)).extBut s2.extBut (Nat.ne_of_lt bC)).extBut s3.extBut (dq bC);refine wpAny_bind (pull sv sy dP λ iL zM s4=>wpAny_pure ?_);have sT:fv iL (n+4) x b c:=s4.extBut _ _ (eA (by decide)) nT;refine wpAny_bind (wpAny_seqItems sT rfl (wpAny_bind (zT sT λ e8 nU s5=>?_)));replace nU:fv e8 (n+4) x y c:=nU;refine wpAny_bind (wpAny_letGo (wpAny_pure (wpAny_bind (wpAny_bind (wpAny_onRaise ?_)))));show wpAny _ _ (Builtin.SmallTypes.nextOf (.ref (n+2))>>=_) _ _ _;have Oj:=((((rq.extBut s1.extBut (eA (by decide))).extBut s2.extBut (pR (by decide))).extBut s3.extBut (eA (by decide))).extBut s4.extBut (eA (by decide))).extBut s5.extBut (eA (by decide));have OA:=((((rt.extBut s1.extBut (dq je)).extBut s2.extBut (Nat.ne_of_lt je)).extBut s3.extBut (dq je)).extBut s4.extBut (dq je)).extBut s5.extBut (dq je);refine wpAny_bind (pull Oj OA ot λ xC Qn cp=>wpAny_pure ?_);have EW:fv xC (n+4) x y c:=cp.extBut _ _ (eA (by decide)) nU;refine wpAny_bind (wpAny_seqItems EW rfl (wpAny_bind (zT EW λ hc vi fm=>?_)));replace vi:fv hc (n+4) x y v:=vi;refine wpAny_bind (wpAny_letGo (wpAny_pure (wpAny_pure (wpAny_bind (wpAny_seqItems vi rfl (wpAny_bind (wpAny_newTuple ?_)))))));have gb:hc.objs.size=s.heap.objs.size:=by rw [fm.1,cp.1,s5.1,s4.1,s3.1,s2.1,s1.1]
 have qj:IsZip hc (n+5) (n+3) (n+4) .ellipsis:=fm.extBut _ _ (eA (by decide)) (cp.extBut _ _ (eA (by decide)) (s5.extBut _ _ (eA (by decide)) (s4.extBut _ _ (eA (by decide)) (s3.extBut _ _ (eA (by decide)) (s2.extBut _ _ (pR (by decide)) hT)))));have Px : ∀ c o,c≠n+5->c≠n+4->c≠n->c≠n+1->c≠n+2->s.heap.get? c=some o->hc.get? c=some o:=λ c o k7 gN b6 aE aI a8 =>
  fm.extBut _ _ gN (cp.extBut _ _ aI (s5.extBut _ _ gN (s4.extBut _ _ aE (s3.extBut _ _ gN (s2.extBut _ _ b6 (s1.extBut _ _ k7 a8))))))
 have Oq:hc.IsTupleIter n t1 (k+1):=((((u2.extBut s3.extBut (mb (by decide))).extBut s4.extBut (mb (by decide))).extBut s5.extBut (mb (by decide))).extBut cp.extBut (mb (by decide))).extBut fm.extBut (mb (by decide));have Ou:hc.IsTupleIter (n+1) bf (k+1):=((zM.extBut s5.extBut (eA (by decide))).extBut cp.extBut (eA (by decide))).extBut fm.extBut (eA (by decide));have Ov:hc.IsTupleIter (n+2) t3 (k+1):=Qn.extBut fm.extBut (eA (by decide));have mU:n+5<hc.objs.size:=Heap.lt_size qj;show wpAny _ _ (Builtin.SmallTypes.ownedTupleHandOut (.ref (n+5)) (.ref hc.objs.size)>>=_) _ _ _;refine wpAny_bind ?_;unfold Builtin.SmallTypes.ownedTupleHandOut;have qk:IsZip (hc.push { cls:=.type "tuple", data:=.seq #[x,y,v] }) (n+5) (n+3) (n+4) .ellipsis:=Heap.get?_push_of_some _ qj;refine wpAny_bind (wpAny_setField_rec qk (by simp) λ LB zu hE=>?_);replace zu:IsZip LB (n+5) (n+3) (n+4) (rawInt hc.objs.size):=zu;refine wpAny_setField_rec zu (by simp) λ uh vj lb=>?_
 replace vj:IsZip uh (n+5) (n+3) (n+4) (rawInt hc.objs.size):=vj;have sQ : ∀ c o,c≠n+5->hc.get? c=some o->uh.get? c=some o:=λ c o cJ a8=>lb.extBut _ _ cJ (hE.extBut _ _ cJ (Heap.get?_push_of_some _ a8))
 have Fs:fv uh hc.objs.size x y v:=lb.extBut _ _ (Nat.ne_of_gt mU) (hE.extBut _ _ (Nat.ne_of_gt mU) (Heap.get?_push_size _ rfl));rw [gb] at vj Fs;refine wpAny_pure ⟨_,rfl,?_⟩;show Q (.ref hc.objs.size) _;rw [gb];refine q uh vj (sQ _ _ (eA (by decide)) vi) ?_ ?_ ?_ Fs λ c o k7 gN b6 aE aI a8=>sQ c o k7 (Px c o k7 gN b6 aE aI a8)
 ·obtain ⟨o,e,r⟩:=Oq;exact ⟨o,sQ _ _ (mb (by decide)) e,r⟩
 ·obtain ⟨o,e,r⟩:=Ou;exact ⟨o,sQ _ _ (eA (by decide)) e,r⟩
 ·obtain ⟨o,e,r⟩:=Ov;exact ⟨o,sQ _ _ (eA (by decide)) e,r⟩
theorem Bo {n t1:Addr} {k:Nat} {xs:Array Value} {a b c:Value} {Q:Fin->Shared->Prop} (hd:eO.In A s.heap) (iE:t1<n)
  (dJ:IsZip s.heap (n+5) (n+3) (n+4) .none) (h6:fv s.heap (n+3) (.ref n) (.ref (n+1)) (.ref (n+2)))
  (er:s.heap.IsTupleIter n t1 k) (dZ:s.heap.IsTuple t1 xs) (ex:xs[k]?=none)
  (q : ∀ g e,(∀ c o,c≠n+5->c≠n+4->c≠n->c≠n+1->c≠n+2->s.heap.get? c=some o->g.get? c=some o)->(∃ o,g.get? e=some o/\o.cls=.type "StopIteration")->E (.ref e) { s with heap:=g }) :
  wpAny (model prog w) A (Builtin.«zip.__next__» ⟨[.ref (n+5)],[]⟩) Q E s:=by
 show wpAny _ _ (field (.ref (n+5)) 2>>=_) _ _ _;refine wpAny_bind (wpAny_field dJ rfl (x:=.bool false) rfl ?_);show wpAny _ _ (field (.ref (n+5)) 3>>=_) _ _ _;refine wpAny_bind (wpAny_field dJ rfl (x:=.ref (n+3)) rfl (wpAny_bind (wpAny_seqItems h6 rfl ?_)));show wpAny _ _ (Builtin.SmallTypes.ownedTupleIsFree (.ref (n+5))>>=_) _ _ _;refine wpAny_bind ?_;unfold Builtin.SmallTypes.ownedTupleIsFree;refine wpAny_bind (wpAny_field dJ rfl (x:=.none) rfl (wpAny_pure ?_));simp only [if_true];refine wpAny_bind (wpAny_rule (wpAny_bind (wpAny_field dJ rfl (x:=.ref (n+4)) rfl (wpAny_bind (wpAny_setField_rec dJ (by simp) λ g1 hT s1=>?_)))));replace hT:IsZip g1 (n+5) (n+3) (n+4) .ellipsis:=hT;refine wpAny_bind ?_;simp only [List.zipIdx_cons,List.zipIdx_nil,List.forIn_cons,List.forIn_nil];refine wpAny_bind (wpAny_bind (wpAny_onRaise ?_));show wpAny _ _ (Builtin.SmallTypes.nextOf (.ref n)>>=_) _ _ _;have nE:eO.In A g1:=hd.but dJ (λ vs e=>by injection e with e;subst e;exact λ z=>nomatch z) s1.extBut;refine wpAny_bind (VL nE (er.extBut s1.extBut (mb (by decide))) (dZ.extBut s1.extBut (dq iE)) ex λ g2 e s2 ⟨bT,h_,coe⟩=>?_);have sU:IsZip g2 (n+5) (n+3) (n+4) .ellipsis:=s2 _ _ (pR (by decide)) hT;have sE:e≠n+5:=λ y=>by
  subst y;rw [sU] at h_;cases h_;simp at coe
 exact wpAny_setField_rec sU (by simp) λ g3 _ s3=>q g3 e (λ c o cJ _ e9 _ _ y=>s3.extBut _ _ cJ (s2 _ _ e9 (s1.extBut _ _ cJ y))) ⟨bT,s3.extBut _ _ sE h_,coe⟩
theorem next_item {n t1 bf t3:Addr} {k:Nat} {xs ys zs:Array Value} {x y v a b c:Value} {Q:Option Value->Shared->Prop} (iE:t1<n) (bC:bf<n) (je:t3<n)
  (dJ:IsZip s.heap (n+5) (n+3) (n+4) .none) (h6:fv s.heap (n+3) (.ref n) (.ref (n+1)) (.ref (n+2))) (kp:fv s.heap (n+4) a b c)
  (er:s.heap.IsTupleIter n t1 k) (hg:s.heap.IsTupleIter (n+1) bf k) (rq:s.heap.IsTupleIter (n+2) t3 k) (dZ:s.heap.IsTuple t1 xs) (d0:s.heap.IsTuple bf ys) (rt:s.heap.IsTuple t3 zs) (ex:xs[k]?=some x) (dP:ys[k]?=some y) (ot:zs[k]?=some v)
  (q : ∀ g,IsZip g (n+5) (n+3) (n+4) (rawInt s.heap.objs.size)->fv g (n+4) x y v->g.IsTupleIter n t1 (k+1)->g.IsTupleIter (n+1) bf (k+1)->g.IsTupleIter (n+2) t3 (k+1)->fv g s.heap.objs.size x y v ->
   (∀ c o,c≠n+5->c≠n+4->c≠n->c≠n+1->c≠n+2->s.heap.get? c=some o->g.get? c=some o)->Q (some (.ref s.heap.objs.size)) { s with heap:=g }):wpAny (model prog w) A (pyNext (.ref (n+5))) Q E s:=by
 have ty:s.TypeIs (.ref (n+5)) "zip" := ⟨_,dJ,rfl⟩
 unfold pyNext;refine wpAny_bind (wpAny_attempt (wpAny_callSpecial?_slot (name:=Str.ofString "__next__") ty F.slot_zip_next (wpAny_call_entry F.slot_zip_next ty F.entry_zip_next ?_ (F.args_zip_next_1 _))));exact Bn iE bC je dJ h6 kp er hg rq dZ d0 rt ex dP ot λ g eP dO dU fh d6 kf jf=>wpAny_pure (q g eP dO dU fh d6 kf jf)
theorem BC {n t1:Addr} {k:Nat} {xs:Array Value} {a b c:Value} {Q:Option Value->Shared->Prop} (hd:eO.In A s.heap) (iE:t1<n)
  (dJ:IsZip s.heap (n+5) (n+3) (n+4) .none) (h6:fv s.heap (n+3) (.ref n) (.ref (n+1)) (.ref (n+2)))
  (er:s.heap.IsTupleIter n t1 k) (dZ:s.heap.IsTuple t1 xs) (ex:xs[k]?=none)
  (q : ∀ g,(∀ c o,c≠n+5->c≠n+4->c≠n->c≠n+1->c≠n+2->s.heap.get? c=some o->g.get? c=some o)->Q none { s with heap:=g }):wpAny (model prog w) A (pyNext (.ref (n+5))) Q E s:=by
 have ty:s.TypeIs (.ref (n+5)) "zip" := ⟨_,dJ,rfl⟩
 unfold pyNext;refine wpAny_bind (wpAny_attempt (wpAny_callSpecial?_slot (name:=Str.ofString "__next__") ty F.slot_zip_next (wpAny_call_entry F.slot_zip_next ty F.entry_zip_next ?_ (F.args_zip_next_1 _))));refine Bo (a:=a) (b:=b) (c:=c) hd iE dJ h6 er dZ ex λ g e up ⟨bT,h_,coe⟩=>?_
 exact wpAny_bind (wpAny_isInstance (T := "StopIteration") (b:=true) ⟨bT,h_,coe⟩ isSubtype_stop (wpAny_pure (q _ up)))
end
theorem aai (a b c:Value):checkTypeCall "zip" ⟨[a,b,c],[]⟩=pure ():=by kernel_rfl
theorem ZM (a b c:Value):checkBuiltinCall "zip.__new__" ⟨[.type "zip", a,b,c],[]⟩=pure ():=by kernel_rfl
theorem aaI (a b c d:Value):argsOk "object.__init__" ⟨[a,b,c,d],[]⟩:=by
 unfold argsOk;rw [signature?_of (id := "object.__init__") (n:=['_','_','t','i','n','i','_','_']) (o:=['t','c','e','j','b','o']) (by kernel_rfl) F.owner_object];kernel_rfl
noncomputable abbrev ho (h:Heap) (t:Addr):Heap:=h.push { cls:=.type "tuple_iterator", data:=.fields #[.ref t,.int 0 0] }
noncomputable abbrev mK (h:Heap) (t1 bf t3:Addr):Heap:=ho (ho (ho h t1) bf) t3
noncomputable abbrev mL (h:Heap) (t1 bf t3:Addr):Heap:=(mK h t1 bf t3).push { cls:=.type "tuple", data:=.seq #[.ref h.objs.size,.ref (ho h t1).objs.size,.ref (ho (ho h t1) bf).objs.size] }
noncomputable abbrev kE (h:Heap) (t1 bf t3:Addr):Heap:=(mL h t1 bf t3).push { cls:=.type "tuple", data:=.seq #[.none,.none,.none] }
noncomputable abbrev o3 (h:Heap) (t1 bf t3:Addr):Heap:=(kE h t1 bf t3).push { cls:=.type "zip", data:=.fields #[.none,.bool false,.bool false,.ref (mK h t1 bf t3).objs.size,.ref (mL h t1 bf t3).objs.size] }
theorem Bz (t1 bf t3:Addr) (xs ys zs:Array Value):Meets (Builtin.«zip.__new__» ⟨[.type "zip", .ref t1,.ref bf,.ref t3],[]⟩) (λ _ R s=>s.heap.IsTuple t1 xs/\s.heap.IsTuple bf ys/\s.heap.IsTuple t3 zs/\R (.ok (.ret (.ref (kE s.heap t1 bf t3).objs.size))) { s with heap:=o3 s.heap t1 bf t3 }) :=
 .of_wp λ prog w A R s h=>by
  obtain ⟨bI,pP,dd,tt,pS⟩:=s;obtain ⟨a1,a2,oo,h⟩:=h;have sub:=sub_zip;have eP:Heap.IsTuple (Shared.heap ⟨bI,pP,dd,tt,pS⟩) t1 xs:=a1;have dO:Heap.IsTuple (Shared.heap ⟨ho bI t1,pP,dd,tt,pS⟩) bf ys:=Heap.IsTuple.push a2 _;have dU:Heap.IsTuple (Shared.heap ⟨ho (ho bI t1) bf,pP,dd,tt,pS⟩) t3 zs:=Heap.IsTuple.push (Heap.IsTuple.push oo _) _
  wp_walk using wpAny_pyIter_tuple eP,wpAny_pyIter_tuple dO,wpAny_pyIter_tuple dU
  exact ⟨_,rfl,h⟩
section
variable {prog:Program} {w:World} {A:Around} {E:Value->Shared->Prop} {s:Shared}
theorem make {t1 bf t3:Addr} {xs ys zs:Array Value} {Q:Value->Shared->Prop} (a1:s.heap.IsTuple t1 xs) (a2:s.heap.IsTuple bf ys) (oo:s.heap.IsTuple t3 zs)
  (q : ∀ g,IsZip g (s.heap.objs.size+5) (s.heap.objs.size+3) (s.heap.objs.size+4) .none->fv g (s.heap.objs.size+3) (.ref s.heap.objs.size) (.ref (s.heap.objs.size+1)) (.ref (s.heap.objs.size+2))->fv g (s.heap.objs.size+4) .none .none .none ->
   g.IsTupleIter s.heap.objs.size t1 0->g.IsTupleIter (s.heap.objs.size+1) bf 0->g.IsTupleIter (s.heap.objs.size+2) t3 0->(∀ c o,s.heap.get? c=some o->g.get? c=some o)->Q (.ref (s.heap.objs.size+5)) { s with heap:=g }) :
  wpAny (model prog w) A (call (.type "zip") [.ref t1,.ref bf,.ref t3]) Q E s:=by
 refine callType_new F.called_zip (by decide) (aai _ _ _) (ZM _ _ _) (λ obj=>aaI obj _ _ _) F.entry_zip_new (Bz t1 bf t3 xs ys zs) ⟨a1,a2,oo,?_⟩;have cJ:(ho s.heap t1).objs.size=s.heap.objs.size+1:=Heap.size_push ..;have dp:(ho (ho s.heap t1) bf).objs.size=s.heap.objs.size+2:=by rw [Heap.size_push,cJ]
 have e9:(mK s.heap t1 bf t3).objs.size=s.heap.objs.size+3:=by rw [Heap.size_push,dp]
 have gn:(mL s.heap t1 bf t3).objs.size=s.heap.objs.size+4:=by rw [Heap.size_push,e9]
 have jk:(kE s.heap t1 bf t3).objs.size=s.heap.objs.size+5:=by rw [Heap.size_push,gn]
 have xM:(o3 s.heap t1 bf t3).get? (kE s.heap t1 bf t3).objs.size=some _:=Heap.get?_push_size _ rfl;have pT:(o3 s.heap t1 bf t3).get? (mL s.heap t1 bf t3).objs.size=some _:=Heap.get?_push_of_some _ (Heap.get?_push_size _ rfl);have nu:(o3 s.heap t1 bf t3).get? (mK s.heap t1 bf t3).objs.size=some _:=Heap.get?_push_of_some _ (Heap.get?_push_of_some _ (Heap.get?_push_size _ rfl));have iO:(o3 s.heap t1 bf t3).get? (ho (ho s.heap t1) bf).objs.size=some _:=Heap.get?_push_of_some _ (Heap.get?_push_of_some _ (Heap.get?_push_of_some _ (Heap.get?_push_size _ rfl)));have cR:(o3 s.heap t1 bf t3).get? (ho s.heap t1).objs.size=some _:=Heap.get?_push_of_some _ (Heap.get?_push_of_some _ (Heap.get?_push_of_some _ (Heap.get?_push_of_some _ (Heap.get?_push_size _ rfl))));have p1:(o3 s.heap t1 bf t3).get? s.heap.objs.size=some _:=Heap.get?_push_of_some _ (Heap.get?_push_of_some _ (Heap.get?_push_of_some _ (Heap.get?_push_of_some _ (Heap.get?_push_of_some _ (Heap.get?_push_size _ rfl)))));show _/\_;rw [e9,gn,jk] at xM;rw [cJ,dp,e9] at nu;rw [gn] at pT;rw [dp] at iO;rw [cJ] at cR;rw [jk];exact ⟨⟨_,xM,rfl⟩,q _ xM nu pT ⟨_,p1,rfl,rfl⟩ ⟨_,cR,rfl,rfl⟩ ⟨_,iO,rfl,rfl⟩ λ c o y=>Heap.get?_push_of_some _ (Heap.get?_push_of_some _ (Heap.get?_push_of_some _ (Heap.get?_push_of_some _ (Heap.get?_push_of_some _ (Heap.get?_push_of_some _ y)))))⟩
end
end rk
namespace bC
open PySem PySem.Spec PyProof.Rows rk
noncomputable def rK (K:PySem.W.Frag) (a b c:Addr):fC :=
 ⟨λ i H => ∃ xs ys zs x y v,aW K H a xs/\aW K H b ys/\aW K H c zs/\xs[i]?=some x/\ys[i]?=some y/\zs[i]?=some v,
 λ i H w H' => ∃ p,H p=none/\w=.ref p /\ ∃ x y v,H'=upd H p (.tup [x,y,v]) /\ ∀ xs ys zs,aW K H a xs->aW K H b ys->aW K H c zs->xs[i]?=some x/\ys[i]?=some y/\zs[i]?=some v,
 λ i H => ∃ xs,aW K H a xs/\xs.length<=i⟩
theorem XM {rl:Bool} {P:Program} {w:World} {K:PySem.W.Frag} {bk:Expr} (gg:kU bk=true) {n a b c:Addr} (iE:a<n) (bC:b<n) (je:c<n) :
  Turn P w K rl bk (rK K a b c) [n+5,n+4,n,n+1,n+2,n+3] (n+5) (λ i h=>IsZip h (n+5) (n+3) (n+4) .none/\fv h (n+3) (.ref n) (.ref (n+1)) (.ref (n+2))/\(∃ u v w,fv h (n+4) u v w)/\h.IsTupleIter n a i/\h.IsTupleIter (n+1) b i/\h.IsTupleIter (n+2) c i) where
 mem:=List.mem_cons_self
 obj:=λ i h st cj ao=>by
  obtain ⟨af,aq,⟨u,v,cP,aF⟩,⟨nt,aU,_,xr⟩,⟨um,bW,_,Lq⟩,⟨xK,dV,_,Lr⟩⟩:=st;have mO : ∀ {o:Obj} {vs:Array Value},o.data=.fields vs -> ∀ v,o.data≠.cell v:=λ e v q=>by rw [e] at q;cases q
  have sG : ∀ {o:Obj} {vs:Array Value} {n:Nat},o.data=.seq vs n -> ∀ v,o.data≠.cell v:=λ e v q=>by rw [e] at q;cases q
  simp only [List.mem_cons,List.not_mem_nil,or_false] at ao;rcases ao with rfl | rfl | rfl | rfl | rfl | rfl
  ·exact ⟨_,af,mO rfl⟩
  ·exact ⟨_,aF,sG rfl⟩
  ·exact ⟨_,aU,mO xr⟩
  ·exact ⟨_,bW,mO Lq⟩
  ·exact ⟨_,dV,mO Lr⟩
  ·exact ⟨_,aq,sG rfl⟩
 keep:=λ i h h' st k=>by
  obtain ⟨af,aq,⟨u,v,cP,aF⟩,⟨nt,aU,hh⟩,⟨um,bW,ny⟩,⟨xK,dV,LQ⟩⟩:=st;exact ⟨k _ (by simp) _ af,k _ (by simp) _ aq,⟨u,v,cP,k _ (by simp) _ aF⟩,⟨nt,k _ (by simp) _ aU,hh⟩,⟨um,k _ (by simp) _ bW,ny⟩,⟨xK,k _ (by simp) _ dV,LQ⟩⟩
 item:=by
  intro X c0 hw dQ nF ao i pins s σ H E I hf st aM;subst c0 hw dQ;obtain ⟨af,aq,⟨u,v,cP,aF⟩,aU,bW,dV⟩:=st;obtain ⟨xs,ys,zs,x,y,z,cn,c4,oA,ah,aL,aN⟩:=aM;obtain ⟨its,bE,fU,_⟩:=I.tuple cn;obtain ⟨qf,fc,ki,_⟩:=I.tuple c4;obtain ⟨zc,EB,pc,_⟩:=I.tuple oA;obtain ⟨jQ,rY,sL⟩:=bE.get ah;obtain ⟨kl,yv,zl⟩:=fc.get aL;obtain ⟨xY,MF,O5⟩:=EB.get aN;refine rk.next_item iE bC je af aq aF aU bW dV (show s.heap.IsTuple a its.toArray from fU) (show s.heap.IsTuple b qf.toArray from ki) (show s.heap.IsTuple c zc.toArray from pc) (x:=jQ) (y:=kl) (v:=xY) (by simpa using rY) (by simpa using yv) (by simpa using MF) λ g eP dO dU fh d6 kf jf=>?_
  refine ⟨_,rfl,?_⟩;have mU:n+5<s.heap.objs.size:=Heap.lt_size af;cases bk with
  | Tuple es et pp =>
   refine wpAny_letOwnedTupleGo_zip eP λ g' hb dB=>?_
   have new:fv g' s.heap.objs.size jQ kl xY:=dB.extBut _ _ (Nat.ne_of_gt mU) kf;have aJ:Inv X pins σ (upd H s.heap.objs.size (.tup [x,y,z])) { s with heap:=g' }:=by
    refine I.BU (t':=s.toks) (L:=[n+5,n+4,n,n+1,n+2,n+3]) (λ c o dS e=>?_) hf (Nat.le_refl _) ⟨by show 3<=sizeLine;decide,[jQ,kl,xY],.cons sL (.cons zl (.cons O5 .nil)),⟨_,new,rfl,⟨0,rfl⟩,rfl⟩⟩;simp only [List.mem_cons,List.not_mem_nil,or_false,not_or] at dS;exact dB.extBut c o dS.1 (jf c o dS.1 dS.2.1 dS.2.2.1 dS.2.2.2.1 dS.2.2.2.2.1 e)
   have mA:fv g' (n+3) (.ref n) (.ref (n+1)) (.ref (n+2)):=dB.extBut _ _ (eA (by decide)) (jf _ _ (eA (by decide)) (eA (by decide)) (pR (by decide)) (eA (by decide)) (eA (by decide)) aq);refine ⟨.ref s.heap.objs.size,_,aJ,rfl,⟨_,I.fresh,rfl,x,y,z,rfl,λ EV kH PC a6 b0 ew=>⟨by rw [I.tE a6 cn];exact ah,by rw [I.tE b0 c4];exact aL,by rw [I.tE ew oA];exact aN⟩⟩,⟨hb,mA,⟨_,_,_,dB.extBut _ _ (eA (by decide)) dO⟩,dU.extBut dB.extBut (mb (by decide)),fh.extBut dB.extBut (eA (by decide)),d6.extBut dB.extBut (eA (by decide))⟩,λ c ed=>?_⟩;obtain ⟨o,da,_⟩ : ∃ o,s.heap.get? c=some o/\True:=by
    simp only [List.mem_cons,List.not_mem_nil,or_false] at ed;rcases ed with rfl | rfl | rfl | rfl | rfl | rfl
    ·exact ⟨_,af,trivial⟩
    ·exact ⟨_,aF,trivial⟩
    ·obtain ⟨nt,iL,_⟩:=aU;exact ⟨_,iL,trivial⟩
    ·obtain ⟨um,e8,_⟩:=bW;exact ⟨_,e8,trivial⟩
    ·obtain ⟨xK,xC,_⟩:=dV;exact ⟨_,xC,trivial⟩
    ·exact ⟨_,aq,trivial⟩
   rw [a3 (Nat.ne_of_lt (Heap.lt_size da))];exact (hf c ed).1
  | _=>exact absurd (show false=true from gg) Bool.false_ne_true
 done:=by
  intro X c0 hw dQ nF ao i pins s σ H E I hf st aM;subst c0 hw dQ;obtain ⟨af,aq,⟨u,v,cP,aF⟩,aU,bW,dV⟩:=st;obtain ⟨xs,cn,au⟩:=aM;obtain ⟨its,bE,fU,_⟩:=I.tuple cn;have aE:=bE.length;refine rk.BC (a:=.none) (b:=.none) (c:=.none) (I.kx ao) iE af aq aU (show s.heap.IsTuple a its.toArray from fU) (by simp;omega) λ g up=>⟨rfl,?_⟩
  refine I.AW (t':=s.toks) (L:=[n+5,n+4,n,n+1,n+2,n+3]) (λ c o dS e=>?_) hf;simp only [List.mem_cons,List.not_mem_nil,or_false,not_or] at dS;exact up c o dS.1 dS.2.1 dS.2.2.1 dS.2.2.2.1 dS.2.2.2.2.1 e
 self:=λ _ _ _ _ _ st h=>wpAny_pyIter_zip st.1 h
section
variable {X:aQ} {bk:Expr}
theorem vals3 {x y z:V} {us:List Value} (h:Vals [x,y,z] us) : ∃ u v w,us=[u,v,w]/\RelV x u/\RelV y v/\RelV z w:=by
 cases h with
 | cons af h =>
  cases h with
  | cons aq h =>
   cases h with
   | cons aF h =>
    cases h;exact ⟨_,_,_,rfl,af,aq,aF⟩
noncomputable def Q1 (K:PySem.W.Frag) (aS:cH):TI:=λ σ H R=>aS σ H λ vs H1 => ∃ a b c,vs=[.ref a,.ref b,.ref c]/\(∃ xs,aW K H1 a xs)/\(∃ ys,aW K H1 b ys)/\(∃ zs,aW K H1 c zs)/\R (rK K a b c) H1
theorem T7 {aE aI cx:Expr} {aS:cH} {p pos:Pos} (gg:kU bk=true) (aM:c1 X "zip") (hm:X.mg "zip" = none) (av:ek X [aE,aI,cx] aS) (aA:starEach [aE,aI,cx] X.env=[(false,eval aE X.env),(false,eval aI X.env),(false,eval cx X.env)]:=by rfl) (fu:starEach [aI,cx] X.env=[(false,eval aI X.env),(false,eval cx X.env)]:=by rfl)
  (aa:bootBuiltins "zip" = some (.type "zip"):=by decide +kernel):jK X bk (.Call (.Name "zip" p) [aE,aI,cx] [] pos) (Q1 X.K aS):=⟨by
 intro pins s σ H R I h;refine Call_ (lS I aM hm aa (PyProof.Rows.callWith_type1 (a_ (av.o pos pins s σ H _ I h) λ us s1 ⟨vs,H1,aJ,bG,a6⟩=>?_) (by rw [aA,fu]) (by rw [fu];rfl)));obtain ⟨a,b,c,e,⟨xs,cn⟩,⟨ys,c4⟩,⟨zs,oA⟩,q⟩:=a6;subst e;obtain ⟨gp,h4,lg,rfl,kk,rB,rc⟩:=vals3 bG;cases kk;cases rB;cases rc;obtain ⟨its,bE,fU,_⟩:=aJ.tuple cn;obtain ⟨qf,fc,ki,_⟩:=aJ.tuple c4;obtain ⟨zc,EB,pc,_⟩:=aJ.tuple oA;have xH:a<s1.heap.objs.size:=by obtain ⟨o,e,_⟩:=fU;exact Heap.lt_size e
 have ru:b<s1.heap.objs.size:=by obtain ⟨o,e,_⟩:=ki;exact Heap.lt_size e
 have lc:c<s1.heap.objs.size:=by obtain ⟨o,e,_⟩:=pc;exact Heap.lt_size e
 refine rk.make (show s1.heap.IsTuple a its.toArray from fU) (show s1.heap.IsTuple b qf.toArray from ki) (show s1.heap.IsTuple c zc.toArray from pc) λ g dR di gq ml oD rE up=>?_
 refine wpAny_pyIter_zip dR ?_;have bD:Inv X pins σ H1 { s1 with heap:=g }:=aJ.kept (t':=s1.toks) up;refine ⟨_,[s1.heap.objs.size+5,s1.heap.objs.size+4,s1.heap.objs.size,s1.heap.objs.size+1,s1.heap.objs.size+2,s1.heap.objs.size+3],_,_,H1,rfl,bD,XM gg xH ru lc,⟨dR,di,⟨_,_,_,gq⟩,ml,oD,rE⟩,λ c ao=>?_,q⟩;have big:s1.heap.objs.size<=c:=by
  simp only [List.mem_cons,List.not_mem_nil,or_false] at ao;rcases ao with rfl | rfl | rfl | rfl | rfl | rfl
  ·exact Nat.le_add_right _ _
  ·exact Nat.le_add_right _ _
  ·exact Nat.le_refl _
  ·exact Nat.le_add_right _ _
  ·exact Nat.le_add_right _ _
  ·exact Nat.le_add_right _ _
 exact aJ.nY big (aJ.a0.fresh big)⟩
end
theorem U1 {K:PySem.W.Frag} {a b c:Addr} {xs ys zs:List V} {g:dT} {bo:cX} {D:Ends} {σ:St} {H:aj} (fJ:xs.length=ys.length) (abB:xs.length=zs.length) (Pv:Nat->St->aj->Prop) (h0:Pv 0 σ H) (au : ∀ i σ H,i<=xs.length->Pv i σ H->aW K H a xs/\aW K H b ys/\aW K H c zs)
  (aA : ∀ i x y z p σ H,xs[i]?=some x->ys[i]?=some y->zs[i]?=some z->H p=none->Pv i σ H->g (.ref p) σ (upd H p (.tup [x,y,z])) λ σ2 aw=>bo { D with bl:=Pv (i+1),b1:=Pv (i+1),dY:=D.bl } σ2 aw) (hd : ∀ σ H,Pv xs.length σ H->D.bl σ H) :
  ∃ W:Nat->Nat->St->aj->Prop,(∃ m,W 0 m σ H) /\ ∀ i m σ H,W i m σ H ->
   ((rK K a b c).stop i H/\D.bl σ H)\/((rK K a b c).go i H /\ ∃ N:St->aj->Prop,(∀ σ' H',N σ' H' -> ∃ cu,cu<m/\W (i+1) cu σ' H') /\ ∀ x H',(rK K a b c).hq i H x H'->g x σ H' λ σ2 aw=>bo { D with bl:=N,b1:=N,dY:=D.bl } σ2 aw):=by
 refine ⟨λ i m σ H=>m=xs.length - i/\i<=xs.length/\Pv i σ H,⟨_,rfl,Nat.zero_le _,h0⟩,?_⟩;rintro i m σ H ⟨rfl,ax,p⟩;obtain ⟨cn,c4,oA⟩:=au i σ H ax p;by_cases dk:i<xs.length
 ·have aq:i<ys.length:=by omega
  have aF:i<zs.length:=by omega
  refine .inr ⟨⟨xs,ys,zs,xs[i],ys[i],zs[i],cn,c4,oA,by simp [dk],by simp [aq],by simp [aF]⟩,Pv (i+1),λ σ' H' fT=>⟨xs.length - (i+1),by omega,rfl,dk,fT⟩,λ v H' jm=>?_⟩;obtain ⟨q,aR,rfl,x,y,z,rfl,fJ⟩:=jm;obtain ⟨ex,dP,ot⟩:=fJ xs ys zs cn c4 oA;exact aA i x y z q σ H ex dP ot aR p
 ·have e:i=xs.length:=by omega
  refine .inl ⟨⟨xs,cn,by omega⟩,hd σ H (e ▸ p)⟩
end bC
namespace E1
open PySem PyProof.Rows
section
variable {prog:Program} {w:World} {A:Around} {R:Result->Shared->Prop} {I:Addr} {bh wr:List Addr} {n:Nat} {P:Nat->Value->Prop} {St:Nat->Heap->Prop}
theorem more (W:Walks prog w A.in1 I bh wr n P St) (cS:Nat->Nat->Bool) (sX:CmpOf prog w A.in1 .Lt P cS) (S:Addr) (jo:S∉bh) (kw:List (Str×Value)) :
  ∀ (k j:Nat) (s:Shared) (mj:Value) (c:Nat),n - (j+1)=k->j+1<=n->St (j+1) s.heap->P (argBest cS j) mj ->
  s.heap.get? S=some { cls:=.type "list", dict:=none,data:=.seq #[mj,mj] c,slots:=#[] } ->
  (∀ v h' tk,P (argBest cS (n - 1)) v->(∀ b o,b∉wr->b≠S->s.heap.get? b=some o->h'.get? b=some o)->R (.ok (.ret v)) { s with heap:=h',toks:=tk }) ->
  codeAny (model prog w) A (.builtin "min.loop" ⟨[.ref I,.none,.ref S],kw⟩) R s:=by
 have r4:S∉wr:=λ h=>jo (W.sub _ h)
 have qA:(toString "min" ++ toString ".loop" : String) = "min.loop" := by decide
 intro k
 induction k with
 | zero =>
  intro j s mj c aB bj cC uO cG d7;have kx:j+1=n:=by omega
  refine codeAny_builtin F.entry_min_loop ?_;rw [Around.under_plainId F.plain_min_loop _];show wpAny _ A.in1 (seqItems? (.ref S)>>=_) _ _ s;refine wpAny_bind (wpAny_seqItems cG rfl ?_);show wpAny _ A.in1 (tryCatch (pyNext (.ref I)) _>>=_) _ _ s;refine wpAny_bind (wpAny_tryCatch (W.done s _ _ (kx ▸ cC) λ h' tk ky=>?_));have iV:=ky S _ r4 cG;show wpAny _ A.in1 (updateSeq S (λ _=>#[])>>=_) _ _ _;refine wpAny_bind ?_;refine wpAny_updateSeq iV rfl (wpAny_bind (wpAny_letGo (wpAny_pure ?_)));refine d7 mj _ tk (by rw [<-kx];exact uO) λ b o hN lu e=>(Heap.get?_update_other _ _ (Ne.symm lu)).trans (ky b o hN e)
 | succ k cI =>
  intro j s mj c aB bj cC uO cG d7;have dk:j+1<n:=by omega
  refine codeAny_builtin F.entry_min_loop ?_;rw [Around.under_plainId F.plain_min_loop _];show wpAny _ A.in1 (seqItems? (.ref S)>>=_) _ _ s;refine wpAny_bind (wpAny_seqItems cG rfl ?_);show wpAny _ A.in1 (tryCatch (pyNext (.ref I)) _>>=_) _ _ s;refine wpAny_bind (wpAny_tryCatch (W.item (j+1) s _ _ dk cC λ v h' tk c0 vv ky=>?_));have iV:=ky S _ r4 cG;show wpAny _ A.in1 (tryCatch (holding [v,v] (richCompare .Lt v mj>>=_)) _>>=_) _ _ _;refine wpAny_bind (wpAny_tryCatch (wpAny_holding (wpAny_bind (sX (j+1) (argBest cS j) v mj _ _ _ c0 uO ?_))));refine wpAny_bind (wpAny_holding (wpAny_truthy_bool ?_));refine wpAny_bind (wpAny_letGo (wpAny_pure ?_));cases aa:cS (j+1) (argBest cS j) with
  | true =>
   simp only [if_true];refine wpAny_bind ?_;refine wpAny_updateSeq iV rfl (wpAny_bind (wpAny_letGo ?_));rw [qA];refine wpAny_pure ⟨plainId_quiet F.plain_min_loop _,cI (j+1) _ v _ (by omega) dk (W.frame _ _ _ vv λ b yJ o e=>?_) (by simp only [argBest,aa,if_true];exact c0) (Heap.get?_update_self _ iV rfl)
    λ hF r1 ta lq sZ=>?_⟩
   ·exact (Heap.get?_update_other _ _ (λ h:S=b=>jo (by rw [h];exact yJ))).trans e
   ·exact d7 hF r1 ta lq λ b o hN lu e=>sZ b o hN lu ((Heap.get?_update_other _ _ (Ne.symm lu)).trans (ky b o hN e))
  | false =>
   simp only [Bool.false_eq_true,if_false];refine wpAny_bind (wpAny_letGo ?_);rw [qA];refine wpAny_pure ⟨plainId_quiet F.plain_min_loop _,cI (j+1) _ mj c (by omega) dk vv (by simp only [argBest,aa,Bool.false_eq_true,if_false];exact uO) iV λ hF r1 ta lq sZ=>?_⟩;exact d7 hF r1 ta lq λ b o hN lu e=>sZ b o hN lu (ky b o hN e)
theorem first (W:Walks prog w A.in1 I bh wr n P St) (cS:Nat->Nat->Bool) (sX:CmpOf prog w A.in1 .Lt P cS) (S:Addr) (jo:S∉bh) (kw:List (Str×Value)) (aC:0<n) {s:Shared} {c:Nat} (cC:St 0 s.heap)
  (cG:s.heap.get? S=some { cls:=.type "list", dict:=none,data:=.seq #[] c,slots:=#[] })
  (d7 : ∀ v h' tk,P (argBest cS (n - 1)) v->(∀ b o,b∉wr->b≠S->s.heap.get? b=some o->h'.get? b=some o)->R (.ok (.ret v)) { s with heap:=h',toks:=tk }) :
  codeAny (model prog w) A (.builtin "min.loop" ⟨[.ref I,.none,.ref S],kw⟩) R s:=by
 have r4:S∉wr:=λ h=>jo (W.sub _ h)
 have qA:(toString "min" ++ toString ".loop" : String) = "min.loop" := by decide
 refine codeAny_builtin F.entry_min_loop ?_;rw [Around.under_plainId F.plain_min_loop _];show wpAny _ A.in1 (seqItems? (.ref S)>>=_) _ _ s;refine wpAny_bind (wpAny_seqItems cG rfl ?_);show wpAny _ A.in1 (tryCatch (pyNext (.ref I)) _>>=_) _ _ s;refine wpAny_bind (wpAny_tryCatch (W.item 0 s _ _ aC cC λ v h' tk c0 vv ky=>?_));have iV:=ky S _ r4 cG;show wpAny _ A.in1 (updateSeq S (λ _=>#[v,v])>>=_) _ _ _;refine wpAny_bind ?_;refine wpAny_updateSeq iV rfl ?_;rw [qA];refine wpAny_pure ⟨plainId_quiet F.plain_min_loop _,more W cS sX S jo kw _ 0 _ v _ rfl aC (W.frame _ _ _ vv λ b yJ o e=>?_) c0 (Heap.get?_update_self _ iV rfl) λ hF r1 ta lq sZ=>?_⟩
 ·exact (Heap.get?_update_other _ _ (λ h:S=b=>jo (by rw [h];exact yJ))).trans e
 ·exact d7 hF r1 ta lq λ b o hN lu e=>sZ b o hN lu ((Heap.get?_update_other _ _ (Ne.symm lu)).trans (ky b o hN e))
theorem empty (W:Walks prog w A.in1 I bh wr n P St) (S:Addr) (jo:S∉bh) (d:Value) (aC:n=0) {s:Shared} {c:Nat} (cC:St 0 s.heap)
  (cG:s.heap.get? S=some { cls:=.type "list", dict:=none,data:=.seq #[] c,slots:=#[] })
  (d7 : ∀ h' tk,(∀ b o,b∉wr->b≠S->s.heap.get? b=some o->h'.get? b=some o)->R (.ok (.ret d)) { s with heap:=h',toks:=tk }) :
  codeAny (model prog w) A (.builtin "min.loop" ⟨[.ref I,.none,.ref S],[("default", d)]⟩) R s:=by
 have r4:S∉wr:=λ h=>jo (W.sub _ h)
 subst aC;refine codeAny_builtin F.entry_min_loop ?_;rw [Around.under_plainId F.plain_min_loop _];show wpAny _ A.in1 (seqItems? (.ref S)>>=_) _ _ s;refine wpAny_bind (wpAny_seqItems cG rfl ?_);show wpAny _ A.in1 (tryCatch (pyNext (.ref I)) _>>=_) _ _ s;refine wpAny_bind (wpAny_tryCatch (W.done s _ _ cC λ h' tk ky=>?_));refine wpAny_bind (wpAny_rule (wpAny_pure ?_));exact d7 h' tk λ b o hN lu e=>ky b o hN e
end
section
variable {prog:Program} {w:World} {A:Around} {E:Value->Shared->Prop} {s:Shared}
theorem SX {id:String} {b:Builtin} {args:List Value} {kw:List (Str×Value)} {Q:Value->Shared->Prop} (aB:builtinKind id=none) (ay:plainId id=true)
  (aa:entryFor table id=some b) (av:argsOk id ⟨args,kw⟩)
  (ao:wpAny (model prog w) A.in1 (b ⟨args,kw⟩) (λ fin s'=>match fin with
   | .done f=>(match (Except.ok f:Result) with | .ok (.ret v)=>Q v s' | .ok _=>False | .error e=>E e s')
   | .again cj=>cj.quiet=true/\codeAny (model prog w) A cj (λ r s'=>match r with | .ok (.ret v)=>Q v s' | .ok _=>False | .error e=>E e s') s') E s) :
  wpAny (model prog w) A (call (.builtin id) args kw) Q E s:=by
 refine wpAny_call (codeAny_call_builtin ay aa ?_);simp only [checkBuiltinCall,aB];cases Qd:Manifest.signature? id with
 | none=>exact wpAny_pure ao
 | some sig =>
  simp only [argsOk,Qd] at av;have aq:Bind.checkArgs id sig ⟨args,kw⟩=pure ():=av;exact wpAny_of_eq aq ao
theorem X1 (a d:Value):argsOk "min" ⟨[a],[("default", d)]⟩:=by unfold argsOk;kernel_rfl
theorem UN (d:Value):Builtin.Builtins.bindParams "min" ["key", "default"] 0 ⟨[],[("default", d)]⟩=pure [none,some d]:=by kernel_rfl
theorem IJ {x d:Value} {Q:Value->Shared->Prop}
  (h:wpAny (model prog w) A.in1 (pyIter x) (λ it s₂ => ∃ I bh wr n P St cS,it=.ref I/\Walks prog w A.in1 I bh wr n P St/\St 0 s₂.heap/\(∀ b∈bh,b<s₂.heap.objs.size)/\CmpOf prog w A.in1 .Lt P cS /\
   (0<n -> ∀ v h' tk,P (argBest cS (n - 1)) v->(∀ b o,b∉wr->s₂.heap.get? b=some o->h'.get? b=some o)->Q v { s₂ with heap:=h',toks:=tk }) /\
   (n=0 -> ∀ h' tk,(∀ b o,b∉wr->s₂.heap.get? b=some o->h'.get? b=some o)->Q d { s₂ with heap:=h',toks:=tk })) E s) :
  wpAny (model prog w) A (call (.builtin "min") [x] [("default", d)]) Q E s:=by
 have qA:(toString "min" ++ toString ".loop" : String) = "min.loop" := by decide
 refine SX F.kind_min F.plain_min F.entry_min (X1 _ _) ?_;show wpAny _ A.in1 (Builtin.Builtins.bindParams "min" ["key", "default"] 0 ⟨[],[("default", d)]⟩>>=_) _ _ s;refine wpAny_bind (wpAny_of_eq (UN d) ?_);refine wpAny_bind (wpAny_pure ?_);refine wpAny_bind (wpAny_mono h (λ it s₂ h₂=>?_) λ _ _ e=>e);obtain ⟨I,bh,wr,n,P,St,cS,rfl,W,cC,qa,sX,eQ,Nw⟩:=h₂;refine wpAny_bind (wpAny_newObj_type ?_);have jo:s₂.heap.objs.size∉bh:=λ hm=>Nat.lt_irrefl _ (qa _ hm)
 rw [qA];by_cases aC:0<n
 ·refine wpAny_pure ⟨plainId_quiet F.plain_min_loop _,first W cS sX s₂.heap.objs.size jo _ aC (W.frame _ _ _ cC λ b _ o e=>Heap.get?_push_of_some _ e) (Heap.get?_push_size _ rfl) λ v h' tk c0 aB=>?_⟩;exact eQ aC v h' tk c0 λ b o hN e=>aB b o hN (Nat.ne_of_lt (Heap.lt_size e)) (Heap.get?_push_of_some _ e)
 ·refine wpAny_pure ⟨plainId_quiet F.plain_min_loop _,empty W s₂.heap.objs.size jo d (by omega) (W.frame _ _ _ cC λ b _ o e=>Heap.get?_push_of_some _ e) (Heap.get?_push_size _ rfl) λ h' tk aB=>?_⟩;exact Nw (by omega) h' tk λ b o hN e=>aB b o hN (Nat.ne_of_lt (Heap.lt_size e)) (Heap.get?_push_of_some _ e)
theorem min_list {l:Addr} {xs:Array (Int×Tok)} {d:Value} {Q:Value->Shared->Prop} (bI:eO.In A s.heap) (au:s.heap.IsList l (intItems xs))
  (h:0<xs.size -> ∀ v h' tk,(intItems xs)[argBest (λ i j=>decide (numAt xs i<numAt xs j)) (xs.size - 1)]?=some v->(∀ b o,s.heap.get? b=some o->h'.get? b=some o)->Q v { s with heap:=h',toks:=tk })
  (h0:xs.size=0 -> ∀ h' tk,(∀ b o,s.heap.get? b=some o->h'.get? b=some o)->Q d { s with heap:=h',toks:=tk }) :
  wpAny (model prog w) A (call (.builtin "min") [.ref l] [("default", d)]) Q E s:=by
 rcases bI with bI | ⟨x,ry,vs,af,aq,aF,aU⟩
 rotate_left
 ·have lt:=Heap.lt_size aq;refine IJ (iter_intList au λ s₂ e st qa yY=>?_);subst e;refine ⟨_,_,_,_,_,_,_,rfl,eO.XP (A:=A.in1) af aF aU _ l yY (Nat.ne_of_lt lt) (intItems xs),⟨st.1,st.2,Heap.get?_push_of_some _ aq⟩,λ b aa=>?_,CmpOf.ints_lt (numAt xs) (λ _ _=>intItems_at),λ aC v h' tk c0 aB=>?_,λ aC h' tk aB=>?_⟩
  ·simp only [List.mem_cons,List.not_mem_nil,or_false] at aa;rcases aa with aa | aa | aa
   ·exact qa b (by rw [aa];exact List.mem_cons_self ..)
   ·exact qa b (by rw [aa];exact List.mem_cons_of_mem _ (List.mem_cons_self ..))
   ·rw [aa];show x<(s.heap.push _).objs.size;rw [Heap.size_push];exact Nat.lt_succ_of_lt lt
  ·exact h (by simpa [intItems] using aC) v h' tk (by simpa [intItems] using c0) (old_kept aB)
  ·exact h0 (by simpa [intItems] using aC) h' tk (old_kept aB)
 refine IJ (iter_intList au λ s₂ e st qa yY=>?_);subst e;refine ⟨_,_,_,_,_,_,_,rfl,Walks.list (A:=A.in1) bI _ l yY (intItems xs),st,qa,CmpOf.ints_lt (numAt xs) (λ _ _=>intItems_at),λ aC v h' tk c0 aB=>?_,λ aC h' tk aB=>?_⟩
 ·exact h (by simpa [intItems] using aC) v h' tk (by simpa [intItems] using c0) (old_kept aB)
 ·exact h0 (by simpa [intItems] using aC) h' tk (old_kept aB)
end
end E1
namespace bC
open PySem PySem.Spec PyProof.Rows
section
variable {X:aQ}
noncomputable def Rn (K:PySem.W.Frag) (aS:cH):TE:=λ σ H Q=>aS σ H λ xs H1 => ∃ (p:Addr) (ns:List Int),xs=[.ref p]/\a4 K H1 p (ns.map V.int)/\(ns=[]->Q .bp H1) /\ ∀ M,M∈ns->(∀ a,a∈ns->M<=a)->Q (.int M) H1
theorem Hr {e:Expr} {aS:cH} {p pos Qs Qy:Pos} {j} (ao:X.warm=true) (aM:c1 X "min") (hm:X.mg "min" = none) (aa:bootBuiltins "min" = some (.builtin "min")) (av:ek X [e] aS) (af:starEach [e] X.env=[(false,eval e X.env)]:=by rfl) :
  bg X (.Call (.Name "min" p) [e] [⟨some "default", .Constant .none j Qy,Qs⟩] pos) (Rn X.K aS):=⟨by
 intro pins s σ H Q I h;refine wpAny_Call_Name_kw (lS I aM hm aa ?_ (by decide) (by decide));have aE:backTo pos (starEach [e] X.env)=(false,eval e X.env)::backTo pos (starEach [] X.env):=by rw [af];rfl
 refine callWith_kw (e:=e) (rest:=[]) ?_ aE (by rw [af];rfl) rfl rfl;refine a_ (av.o pos pins s σ H _ I h) λ us s1 ⟨vs,H1,aJ,bG,a6⟩=>?_
 obtain ⟨l,ns,rfl,aR,xN,b0⟩:=a6;obtain ⟨u,rfl,aT⟩:=vals1 bG;cases aT;refine kws_cons (a_ (GB pins s1 σ H1 (λ x aw=>x=.bp/\aw=H1) aJ ⟨rfl,rfl⟩) λ v s2 ⟨x,aw,bD,cb,ex,jM⟩=>kws_nil ?_);subst ex;subst jM;cases cb;obtain ⟨its,bY,pl,aN⟩:=bD.list aR;have au:=pl.isList;have ax:=intsAre_of bY;obtain ⟨xs,e⟩:=ax.allInts.items;have iY:ns=xs.toList.map (·.1):=by rw [<-ax.numsOf,<-nums_intItems,<-e]
 rw [e] at au;refine E1.min_list (d:=.none) (bD.kx ao) au (λ hsz v h' tk a7 aB=>?_) (λ hsz h' tk aB=>?_)
 ·obtain ⟨t,rfl⟩:=intItems_at a7;obtain ⟨af,aq⟩:=argBest_lt (numAt xs) (xs.size - 1);refine ⟨.int _,_,bD.kept aB,⟨_,rfl⟩,b0 _ ?_ λ a av=>?_⟩
  ·rw [iY,numAt_eq];exact getD_mem (by rw [List.length_map,Array.length_toList];omega)
  ·rw [iY] at av;obtain ⟨j,bj,rfl⟩:=mem_getD av;rw [List.length_map,Array.length_toList] at bj;rw [<-numAt_eq];exact aq j (by omega)
 ·refine ⟨.bp,_,bD.kept aB,rfl,xN ?_⟩;rw [iY];have:xs.toList=[]:=List.eq_nil_of_length_eq_zero (by rw [Array.length_toList];exact hsz);rw [this];rfl⟩
end
end bC
namespace b9
open PySem bC cf
noncomputable def vO (t:Int->Int->Bool) (f:Int->Int->Int) (xs ys:List Int):List Int:=((xs.zip ys).filter λ p=>t p.1 p.2).map λ p=>f p.1 p.2
theorem Yb {t:Int->Int->Bool} {f:Int->Int->Int} {l:List (Int×Int)} {i:Nat} {p:Int×Int} (h:l[i]?=some p):((l.take (i+1)).filter λ p=>t p.1 p.2).map (λ p=>f p.1 p.2)=((l.take i).filter λ p=>t p.1 p.2).map (λ p=>f p.1 p.2)++(if t p.1 p.2=true then [f p.1 p.2] else []):=by
 rw [List.take_add_one,h];simp only [Option.toList_some,List.filter_append,List.map_append];congr 1;by_cases z:t p.1 p.2=true
 ·simp [z]
 ·simp [z]
theorem YU {K:PySem.W.Frag} {a b D:Addr} {js:List (Option Nat)} {cT:TT} {bc:TE} {σ:St} {H1:aj} {Q:bz} {xs ys:List Int} {σ0:St} {t:Int->Int->Bool} {f:Int->Int->Int} (aC:min xs.length ys.length<=sizeLine) (ay : ∃ u v,pick js σ=u::v::σ0) (aY:H1 D=none)
  (av:H1 a=some (tupI xs)) (aa:H1 b=some (tupI ys))
  (aZ : ∀ (x y:Int) (H':aj) (R:Bool->aj->Prop),x∈xs->y∈ys->R (t x y) H'->cT (some (.int x)::some (.int y)::σ0) H' R)
  (aA : ∀ (x y:Int) (H':aj) (R:bz),x∈xs->y∈ys->t x y=true->R (.int (f x y)) H'->bc (some (.int x)::some (.int y)::σ0) H' R)
  (q : ∀ H',aD H1 H'->H' D=some (.lst ((vO t f xs ys).map V.int))->Q (.ref D) H'):gJ (oH K a b) D js (pb K 2 (lL (fO 0) (lL (fO 1) qp))) cT bc σ H1 Q:=by
 obtain ⟨e_,v0,ay⟩:=ay;have ez:(xs.zip ys).length=min xs.length ys.length:=List.length_zip;refine A1 (n:=min xs.length ys.length) aC (λ i σ' H' zs=>(∃ u v:Option V,σ'=u::v::σ0)/\aD H1 H'/\H' D=some (.lst zs)/\zs.length<=i/\zs=((((xs.zip ys).take i).filter λ p=>t p.1 p.2).map λ p=>f p.1 p.2).map V.int) ⟨⟨e_,v0,ay⟩,aD.new aY,br,Nat.le_refl _,rfl⟩ (λ i σ' H' zs _ ⟨_,_,aF,aU,_⟩=>⟨aF,aU⟩) (λ i σ' H' zs ax ⟨_,s',_⟩=>?_) (λ σ' H' zs ⟨_,s',aF,_,e⟩=>⟨?_,?_⟩) ?_
 ·refine ⟨_,_,.int xs[i],.int ys[i],aW.of (s' _ _ av),aW.of (s' _ _ aa),?_,?_⟩
  ·rw [List.getElem?_map,List.getElem?_eq_getElem (by omega)];rfl
  ·rw [List.getElem?_map,List.getElem?_eq_getElem (by omega)];rfl
 ·exact ⟨_,_,aW.of (s' _ _ av),aW.of (s' _ _ aa),by rw [List.length_map,List.length_map];omega⟩
 ·refine q H' s' ?_;rw [aF,e,<-ez,List.take_length];rfl
 ·rintro i σ' H' zs v aw ax ⟨⟨u,v,rfl⟩,s',aF,aU,e⟩ ⟨p,jr,rfl,x,y,rfl,fJ⟩;obtain ⟨ah,aL⟩:=fJ _ _ (aW.of (s' _ _ av)) (aW.of (s' _ _ aa));obtain ⟨x,rfl,cZ⟩:=hY ah;obtain ⟨y,rfl,d9⟩:=hY aL;have aN:(xs.zip ys)[i]?=some (x,y):=by rw [List.getElem?_zip_eq_some];exact ⟨cZ,d9⟩
  have sq:=Yb (t:=t) (f:=f) aN;refine ⟨p,_,rfl,aW.of br,rfl,_,_,rfl,_,_,rfl,rfl,?_⟩;have gS:(upd H' p (.tup [.int x,.int y])) D=some (.lst zs):=by rw [a3 (b2 aF jr)];exact aF
  have s2:aD H1 (upd H' p (.tup [.int x,.int y])):=aD.more s' jr;refine aZ x y _ _ (List.mem_of_getElem? cZ) (List.mem_of_getElem? d9) ?_;cases hl:t x y with
  | true =>
   refine aA x y _ _ (List.mem_of_getElem? cZ) (List.mem_of_getElem? d9) hl ⟨gS,⟨_,_,rfl⟩,?_,br,?_,?_⟩
   ·intro c o b5;rw [a3 (b2 b5 aY)];exact s2 c o b5
   ·rw [List.length_append];show zs.length+1<=i+1;omega
   ·rw [sq,e];simp [hl]
  | false =>
   refine ⟨gS,⟨_,_,rfl⟩,s2,gS,by omega,?_⟩;rw [sq,e];simp [hl]
theorem Zc {K:PySem.W.Frag} {a D:Addr} {js:List (Option Nat)} {cT:TT} {bc:TE} {σ:St} {H1:aj} {Q:bz} {xs:List V} {σ0:St} {t:V->Bool} (aC:xs.length<=sizeLine) (ay : ∃ u,pick js σ=u::σ0) (aY:H1 D=none)
  (av:H1 a=some (.lst xs))
  (aZ : ∀ (x:V) (H':aj) (R:Bool->aj->Prop),aD H1 H'->x∈xs->R (t x) H'->cT (some x::σ0) H' R)
  (aA : ∀ (x:V) (H':aj) (R:bz),aD H1 H'->x∈xs->t x=true->R x H'->bc (some x::σ0) H' R)
  (q : ∀ H',aD H1 H'->H' D=some (.lst (xs.filter t))->Q (.ref D) H'):gJ (mm K a) D js (fO 0) cT bc σ H1 Q:=by
 obtain ⟨e_,ay⟩:=ay;refine A1 (n:=xs.length) aC (λ i σ' H' zs=>(∃ u:Option V,σ'=u::σ0)/\aD H1 H'/\H' D=some (.lst zs)/\zs.length<=i/\zs=(xs.take i).filter t) ⟨⟨e_,ay⟩,aD.new aY,br,Nat.le_refl _,rfl⟩ (λ i σ' H' zs _ ⟨_,_,aF,aU,_⟩=>⟨aF,aU⟩) (λ i σ' H' zs ax ⟨_,s',_⟩=>⟨_,xs[i],a4.of (s' _ _ av),List.getElem?_eq_getElem ax⟩) (λ σ' H' zs ⟨_,s',aF,_,e⟩=>⟨⟨_,a4.of (s' _ _ av),Nat.le_refl _⟩,?_⟩) ?_
 ·refine q H' s' ?_;rw [aF,e,List.take_length]
 ·rintro i σ' H' zs x aw ax ⟨⟨u,rfl⟩,s',aF,aU,e⟩ ⟨rfl,ah⟩;have cZ:=ah _ (a4.of (s' _ _ av));have sq:(xs.take (i+1)).filter t=(xs.take i).filter t++(if t x=true then [x] else []):=by
   rw [List.take_add_one,cZ];simp only [Option.toList_some,List.filter_append];congr 1;by_cases z:t x=true
   ·simp [z]
   ·simp [z]
  refine aZ x _ _ s' (List.mem_of_getElem? cZ) ?_;cases hl:t x with
  | true =>
   refine aA x _ _ s' (List.mem_of_getElem? cZ) hl ⟨aF,⟨_,rfl⟩,?_,br,?_,?_⟩
   ·intro c o b5;rw [a3 (b2 b5 aY)];exact s' c o b5
   ·rw [List.length_append];show zs.length+1<=i+1;omega
   ·rw [sq,e];simp [hl]
  | false =>
   refine ⟨aF,⟨_,rfl⟩,s',aF,by omega,?_⟩;rw [sq,e];simp [hl]
end b9
namespace cf
theorem Gl {p n:Nat} (ay:2<=p) (aC:1<=n) (aa:n<=1000000000000):cnt p n<40:=by
 have e:=UP ay n aC;have af:p ^ cnt p n<=n:=by
  have aA:=Ja ay n aC
  calc p ^ cnt p n<=p ^ cnt p n * strip p n:=Nat.le_mul_of_pos_right _ aA
   _=n:=e.symm
 have aq:2 ^ cnt p n<=p ^ cnt p n:=Nat.pow_le_pow_left ay _;have aF:2 ^ cnt p n<2 ^ 40:=by
  have:(1000000000000:Nat)<2 ^ 40:=by decide
  omega
 exact (Nat.pow_lt_pow_iff_right (by decide)).mp aF
noncomputable def t9 (rows:List (List Int)):Prop := ∀ c∈rows,∀ x∈c,-40<x/\x<40
theorem RD {i j:Nat} (ax:1<=i) (bj:1<=j) (bi:i<=1000000000000) (Lm:j<=1000000000000) {x:Int} (h:x∈chg i j) : -40<x/\x<40:=by
 obtain ⟨k,aB⟩:=List.getElem?_of_mem h;unfold chg at aB;rw [List.getElem?_zipWith_eq_some] at aB;obtain ⟨a,b,av,aa,rfl⟩:=aB;have hm:=List.mem_of_getElem? av;have qc:=List.mem_of_getElem? aa;unfold lU at hm qc;obtain ⟨p,ay,rfl⟩:=List.mem_map.mp hm;obtain ⟨fT,jr,rfl⟩:=List.mem_map.mp qc;have:=Gl (m6 p ay) ax bi;have:=Gl (m6 fT jr) bj Lm;omega
theorem Tg {p c:List Int} {t:Int} {i:Nat} {v:Int} (h:(bP p c t)[i]?=some v) : ∃ x y,p[i]?=some x/\c[i]?=some y/\v=x+t * y:=by
 unfold bP at h;rw [List.getElem?_zipWith_eq_some] at h;obtain ⟨x,y,ah,aL,rfl⟩:=h;exact ⟨x,y,ah,aL,rfl⟩
theorem RS {p c:List Int} {t:Int} {i:Nat} {x y:Int} (ah:p[i]?=some x) (aL:c[i]?=some y):(bP p c t)[i]?=some (x+t * y):=by
 unfold bP;rw [List.getElem?_zipWith_eq_some];exact ⟨x,y,ah,aL,rfl⟩
theorem wy {p c a:List Int} {t:Int}:eh a (bP p c t)=true ↔ ∀ (i:Nat) (x y z:Int),p[i]?=some x->c[i]?=some y->a[i]?=some z->0<=x+t * y+z:=by
 rw [wH];constructor
 ·intro h i x y z ah aL aN;exact h i z _ aN (RS ah aL)
 ·intro h i z v aN a7;obtain ⟨x,y,ah,aL,rfl⟩:=Tg a7;exact h i x y z ah aL aN
theorem Ze {p c a:List Int} {t:Int} (h:eh a (bP p c t)=false) : ∃ (i:Nat) (x y z:Int),p[i]?=some x/\c[i]?=some y/\a[i]?=some z/\x+t * y+z<0:=by
 by_cases z : ∃ (i:Nat) (x y z:Int),p[i]?=some x/\c[i]?=some y/\a[i]?=some z/\x+t * y+z<0
 ·exact z
 ·exfalso;have:eh a (bP p c t)=true:=wy.mpr λ i x y w ah aL hw=>by
   by_cases q:0<=x+t * y+w
   ·exact q
   ·exact absurd ⟨i,x,y,w,ah,aL,hw,by omega⟩ z
  rw [h] at this;cases this
theorem wV {p c a:List Int} {t:Int} {i:Nat} {x y z:Int} (ah:p[i]?=some x) (aL:c[i]?=some y) (aN:a[i]?=some z) (h:x+t * y+z<0):eh a (bP p c t)=false:=by
 rw [Bool.eq_false_iff];intro w;have:=wy.mp w i x y z ah aL aN;omega
noncomputable def tb (p c:List Int):Option Nat->Prop
 | none => ∀ t:Nat,eh c (bP p c t)=true
 | some m=>(∀ t:Nat,t<m->eh c (bP p c t)=true)/\eh c (bP p c m)=false /\ ∃ x∈p,(m:Int)<=x
noncomputable def o_ (p c a:List Int):Option Nat->Prop
 | none => ∀ t:Nat,eh a (bP p c t)=false
 | some m=>(∀ t:Nat,t<m->eh a (bP p c t)=false)/\eh a (bP p c m)=true/\m<=1000
theorem BA {t:Int->Int->Bool} {f:Int->Int->Int} {xs ys:List Int} {M:Int}:M∈b9.vO t f xs ys ↔ ∃ (i:Nat) (x y:Int),xs[i]?=some x/\ys[i]?=some y/\t x y=true/\M=f x y:=by
 unfold b9.vO;rw [List.mem_map];constructor
 ·rintro ⟨⟨x,y⟩,h,rfl⟩;obtain ⟨af,aq⟩:=List.mem_filter.mp h;obtain ⟨i,ax⟩:=List.getElem?_of_mem af;rw [List.getElem?_zip_eq_some] at ax;exact ⟨i,x,y,ax.1,ax.2,aq,rfl⟩
 ·rintro ⟨i,x,y,af,aq,aF,rfl⟩;refine ⟨(x,y),List.mem_filter.mpr ⟨?_,aF⟩,rfl⟩;exact List.mem_of_getElem? (i:=i) (by rw [List.getElem?_zip_eq_some];exact ⟨af,aq⟩)
noncomputable abbrev tf (p c:List Int):List Int:=b9.vO (λ _ y=>decide (y<0)) (λ x y=>x / (-y)) p c
theorem WU {p c:List Int} (aC:nn p=true) (h:tf p c=[]):tb p c none:=λ t=>wy.mpr λ i x y z ah aL aN=>by
 rw [aL] at aN;cases aN;have x0:=i8.mp aC x (List.mem_of_getElem? ah);by_cases e3:y<0
 ·have:x / (-y)∈tf p c:=BA.mpr ⟨i,x,y,ah,aL,decide_eq_true e3,rfl⟩;rw [h] at this;cases this
 ·have:=Int.mul_nonneg (Int.natCast_nonneg t) (show 0<=y by omega);omega
theorem WV {p c:List Int} (aC:nn p=true) {M:Int} (h:M∈tf p c) (hm : ∀ a∈tf p c,M<=a):0<=M/\tb p c (some M.toNat):=by
 obtain ⟨i,x,y,ah,aL,aZ,rfl⟩:=BA.mp h;have e3:y<0:=of_decide_eq_true aZ;have x0:=i8.mp aC x (List.mem_of_getElem? ah);have rf:0<=x / (-y):=Int.ediv_nonneg x0 (by omega);refine ⟨rf,λ t sr=>wy.mpr λ j dI fs z cZ d9 aN=>?_,?_,x,List.mem_of_getElem? ah,?_⟩
 ·rw [d9] at aN;cases aN;have abV:=i8.mp aC dI (List.mem_of_getElem? cZ);by_cases Py:fs<0
  ·have af:=hm (dI / (-fs)) (BA.mpr ⟨j,dI,fs,cZ,d9,decide_eq_true Py,rfl⟩);have aq:((t:Int)+1)<=dI / (-fs):=by omega
   have aF:=(Int.le_ediv_iff_mul_le (show 0 < -fs by omega)).mp aq;rw [Int.mul_neg,Int.add_mul,Int.one_mul] at aF;omega
  ·have:=Int.mul_nonneg (Int.natCast_nonneg t) (show 0<=fs by omega);omega
 ·refine wV ah aL aL ?_;have aF : ¬ (x / (-y)+1)<=x / (-y):=by omega
  rw [Int.le_ediv_iff_mul_le (show 0 < -y by omega),Int.mul_neg,Int.add_mul,Int.one_mul] at aF;have e:((x / (-y)).toNat:Int)=x / (-y):=Int.toNat_of_nonneg rf;rw [e];omega
 ·rw [Int.toNat_of_nonneg rf];exact Int.ediv_le_self _ x0
noncomputable def gX (p c a:List Int) (i:Nat) (m:Int):Prop:=0<=m/\m<=1000/\(∀ j,j<i -> ∀ x y z:Int,p[j]?=some x->c[j]?=some y->a[j]?=some z->0 < -z - x->0<y /\ -z - x<=m * y)/\(m=0 \/ ∃ (j:Nat) (x y z:Int),p[j]?=some x/\c[j]?=some y/\a[j]?=some z/\0<y/\(m - 1) * y < -z - x)
theorem gX.start {p c a:List Int}:gX p c a 0 0:=⟨Int.le_refl _,by decide,λ j h=>absurd h (by omega),.inl rfl⟩
theorem gX.skip {p c a:List Int} {i:Nat} {m x y z:Int} (h:gX p c a i m) (ah:p[i]?=some x) (aN:a[i]?=some z) (au : ¬ 0 < -z - x):gX p c a (i+1) m:=by
 obtain ⟨af,aq,aF,aU⟩:=h;refine ⟨af,aq,λ j bj dI fs c9 cZ d9 fL hO=>?_,aU⟩;by_cases e:j=i
 ·subst e;rw [ah] at cZ;rw [aN] at fL;cases cZ;cases fL;exact absurd hO au
 ·exact aF j (by omega) dI fs c9 cZ d9 fL hO
theorem gX.never {p c a:List Int} {i:Nat} {x y z:Int} (ah:p[i]?=some x) (aL:c[i]?=some y) (aN:a[i]?=some z) (au:0 < -z - x) (lD:y<=0):o_ p c a none:=λ t=>wV ah aL aN (by
 have:=Int.mul_nonneg (Int.natCast_nonneg t) (show 0 <= -y by omega);rw [Int.mul_neg] at this;omega)
theorem SY {l y:Int} (au:0<l) (aL:0<y):l<=(l+y - 1) / y * y/\((l+y - 1) / y - 1) * y<l/\(l+y - 1) / y<=l/\0<=(l+y - 1) / y:=by
 have af:=Int.lt_ediv_add_one_mul_self (l+y - 1) aL;have aq:=Int.ediv_mul_le (l+y - 1) (show y≠0 by omega);rw [Int.add_mul,Int.one_mul] at af;refine ⟨by omega,by rw [Int.sub_mul,Int.one_mul];omega,?_,Int.ediv_nonneg (by omega) (by omega)⟩;refine Int.ediv_le_of_le_mul aL ?_;have:=Int.mul_nonneg (show 0<=l - 1 by omega) (show 0<=y - 1 by omega);rw [Int.sub_mul,Int.mul_sub,Int.one_mul,Int.mul_one] at this;omega
theorem gX.more {p c a:List Int} {i:Nat} {m x y z:Int} (h:gX p c a i m) (ah:p[i]?=some x) (aL:c[i]?=some y) (aN:a[i]?=some z) (au:0 < -z - x) (hO : -z - x<=1000) (lD:0<y):gX p c a (i+1) (if (-z - x+y - 1) / y > m then (-z - x+y - 1) / y else m):=by
 obtain ⟨af,aq,aF,aU⟩:=h;obtain ⟨hb,jg,pM,xq⟩:=SY au lD;by_cases qb:(-z - x+y - 1) / y > m
 ·rw [if_pos qb];refine ⟨xq,by omega,λ j bj dI fs c9 cZ d9 fL hO=>?_,.inr ⟨i,x,y,z,ah,aL,aN,lD,jg⟩⟩;by_cases e:j=i
  ·subst e;rw [ah] at cZ;rw [aL] at d9;rw [aN] at fL;cases cZ;cases d9;cases fL;exact ⟨lD,hb⟩
  ·obtain ⟨k1,k2⟩:=aF j (by omega) dI fs c9 cZ d9 fL hO;have:=Int.mul_le_mul_of_nonneg_right (show m<=(-z - x+y - 1) / y by omega) (show 0<=fs by omega);exact ⟨k1,by omega⟩
 ·rw [if_neg qb];refine ⟨af,aq,λ j bj dI fs c9 cZ d9 fL hO=>?_,aU⟩;by_cases e:j=i
  ·subst e;rw [ah] at cZ;rw [aL] at d9;rw [aN] at fL;cases cZ;cases d9;cases fL;have:=Int.mul_le_mul_of_nonneg_right (show (-z - x+y - 1) / y<=m by omega) (show 0<=y by omega);exact ⟨lD,by omega⟩
  ·exact aF j (by omega) dI fs c9 cZ d9 fL hO
theorem gX.less {p c a:List Int} {i:Nat} {m:Int} (h:gX p c a i m) {t:Nat} (aZ:(t:Int)<m):eh a (bP p c t)=false:=by
 obtain ⟨af,aq,aF,aU⟩:=h;rcases aU with z | ⟨j,x,y,z,ah,aL,aN,lD,hm⟩
 ·omega
 ·refine wV ah aL aN ?_;have:=Int.mul_le_mul_of_nonneg_right (show (t:Int)<=m - 1 by omega) (show 0<=y by omega);omega
theorem gX.yes {p c a:List Int} {i:Nat} {m:Int} (h:gX p c a i m) (hf:eh a (bP p c m)=true):o_ p c a (some m.toNat):=by
 have af:=h.1;have aq:=h.2.1;refine ⟨λ t aZ=>h.less (by omega),by rw [Int.toNat_of_nonneg af];exact hf,by omega⟩
theorem gX.no {p c a:List Int} {m:Int} (ay:p.length=10) (h:gX p c a 10 m) (hf:eh a (bP p c m)=false):o_ p c a none:=λ t=>by
 by_cases aZ:(t:Int)<m
 ·exact h.less aZ
 ·obtain ⟨i,x,y,z,ah,aL,aN,dk⟩:=Ze hf;obtain ⟨af,aq,aF,aU⟩:=h;refine wV ah aL aN ?_;have ax:i<10:=by
   have:=(List.getElem?_eq_some_iff.mp ah).1;omega
  by_cases au:0 < -z - x
  ·obtain ⟨k1,k2⟩:=aF i ax x y z ah aL aN au;omega
  ·have e3:y<0:=by
    by_cases q:y<0
    ·exact q
    ·have:=Int.mul_nonneg af (show 0<=y by omega);omega
   have:=Int.mul_le_mul_of_nonneg_right (show m<=(t:Int) by omega) (show 0 <= -y by omega);rw [Int.mul_neg,Int.mul_neg] at this;omega
noncomputable def yo (rows:List (List Int)) (p c:List Int) (k:Nat):Option Nat->Prop
 | none => ∀ t:Nat,cv rows (bP p c t)=some k
 | some T=>(∀ t:Nat,t<T->cv rows (bP p c t)=some k)/\cv rows (bP p c T)≠some k
theorem Jo : ∀ {rows:List (List Int)} {p:List Int} {i:Nat},cv rows p=some i -> ∀ j,j<i -> ∀ a,rows[j]?=some a->eh a p=false
 | [],_,_,h=>by cases h
 | c::r,p,i,h=>by
  unfold cv at h;by_cases ao:eh c p=true
  ·rw [if_pos ao] at h;cases h;intro j bj;omega
  ·rw [if_neg ao] at h;cases e:cv r p with
   | none=>rw [e] at h;cases h
   | some k_ =>
    rw [e] at h;have ax:k_+1=i:=Option.some.inj h;subst ax;intro j bj a av;cases j with
    | zero=>cases av;exact Bool.eq_false_iff.mpr ao
    | succ j=>exact Jo e j (by omega) a (by simpa using av)
theorem wh {rows:List (List Int)} {q c:List Int} {k:Nat} (aB:rows[k]?=some c):cv rows q=some k ↔ eh c q=true /\ ∀ j,j<k -> ∀ a,rows[j]?=some a->eh a q=false:=by
 constructor
 ·intro h;obtain ⟨cj,af,aq,_⟩:=m8 h;rw [aB] at af;cases af;exact ⟨aq,Jo h⟩
 ·rintro ⟨af,aq⟩;exact AB rows q k aq (λ cj e=>by rw [aB] at e;cases e;exact af) (List.getElem?_eq_some_iff.mp aB).1
theorem Ut {rows:List (List Int)} {p c:List Int} {k:Nat} {o:Option Nat} {os:List (Option Nat)} (aB:rows[k]?=some c) (L:tb p c o) (F : ∀ j,j<k -> ∀ a,rows[j]?=some a -> ∃ q,os[j]?=some q/\o_ p c a q) (h:(o::os).filterMap id=[]):yo rows p c k none:=λ t=>by
 have no : ∀ q∈o::os,q=none:=λ q aR=>by
  cases q with
  | none=>rfl
  | some T =>
   have:T∈(o::os).filterMap id:=List.mem_filterMap.mpr ⟨some T,aR,rfl⟩;rw [h] at this;cases this
 refine (wh aB).mpr ⟨?_,λ j bj a av=>?_⟩
 ·have:=no o List.mem_cons_self;subst this;exact L t
 ·obtain ⟨q,aR,f⟩:=F j bj a av;have:=no q (List.mem_cons_of_mem _ (List.mem_of_getElem? aR));subst this;exact f t
theorem Uu {rows:List (List Int)} {p c:List Int} {k:Nat} {o:Option Nat} {os:List (Option Nat)} (aB:rows[k]?=some c) (aO:os.length=k) (L:tb p c o) (F : ∀ j,j<k -> ∀ a,rows[j]?=some a -> ∃ q,os[j]?=some q/\o_ p c a q) {T:Nat} (h:T∈(o::os).filterMap id) (hm : ∀ a∈(o::os).filterMap id,T<=a):yo rows p c k (some T)/\((∃ x∈p,(T:Int)<=x)\/T<=1000):=by
 have at_ : ∀ q iJ,q∈o::os->q=some iJ->T<=iJ:=λ q iJ aR e=>hm iJ (List.mem_filterMap.mpr ⟨q,aR,by rw [e];rfl⟩)
 obtain ⟨q,aR,e⟩:=List.mem_filterMap.mp h;have eq:q=some T:=e;subst eq;have yW:=(List.getElem?_eq_some_iff.mp aB).1;have first : ∀ t:Nat,t<T->cv rows (bP p c t)=some k:=λ t aZ=>by
  refine (wh aB).mpr ⟨?_,λ j bj a av=>?_⟩
  ·cases o with
   | none=>exact L t
   | some m=>exact L.1 t (by have:=at_ _ m List.mem_cons_self rfl;omega)
  ·obtain ⟨a8,fV,f⟩:=F j bj a av;cases a8 with
   | none=>exact f t
   | some m=>exact f.1 t (by have:=at_ _ m (List.mem_cons_of_mem _ (List.mem_of_getElem? fV)) rfl;omega)
 rcases List.mem_cons.mp aR with z | z
 ·subst z;exact ⟨⟨first,λ y=>by have:=((wh aB).mp y).1;rw [L.2.1] at this;cases this⟩,.inl L.2.2⟩
 ·obtain ⟨j,bj⟩:=List.getElem?_of_mem z;have oY:j<k:=by
   have:=(List.getElem?_eq_some_iff.mp bj).1;omega
  obtain ⟨a8,fV,f⟩:=F j oY _ (List.getElem?_eq_getElem (by omega));rw [bj] at fV;cases fV;exact ⟨⟨first,λ y=>by have:=((wh aB).mp y).2 j oY _ (List.getElem?_eq_getElem (by omega));rw [f.2.1] at this;cases this⟩,.inr f.2.2⟩
theorem Te {p c:List Int} (s t:Int) (ay:p.length=10) (ao:c.length=10):bP (bP p c s) c t=bP p c (s+t):=by
 refine List.ext_getElem (by simp [bP,ay,ao]) λ i af aq=>?_
 simp only [bP,List.getElem_zipWith];rw [Int.add_mul];omega
theorem A8 {p c:List Int} (ay:p.length=10) (ao:c.length=10):bP p c 0=p:=by
 refine List.ext_getElem (by simp [bP,ay,ao]) λ i af aq=>?_
 simp only [bP,List.getElem_zipWith];omega
theorem wi (rows:List (List Int)) (a:Nat) (p:List Int) : ∀ b,goN rows (a+b) p=(goN rows a p).bind (goN rows b)
 | 0=>by
  show goN rows a p=(goN rows a p).bind λ q=>some q
  cases goN rows a p<;>rfl
 | b+1=>by
  show (goN rows (a+b) p).bind (eM rows)=(goN rows a p).bind λ q=>(goN rows b q).bind (eM rows)
  rw [wi rows a p b];cases goN rows a p<;>rfl
theorem Gr {rows:List (List Int)} {p c:List Int} {k:Nat} (aB:rows[k]?=some c) (ay:p.length=10) (ao:c.length=10) : ∀ (s:Nat),(∀ t:Nat,t<s->cv rows (bP p c t)=some k)->goN rows s p=some (bP p c s)
 | 0,_=>by
  show some p=_;rw [show ((0:Nat):Int)=0 from rfl,A8 ay ao]
 | s+1,h=>by
  show (goN rows s p).bind (eM rows)=_;rw [Gr aB ay ao s λ t aZ=>h t (by omega)];show eM rows (bP p c s)=_;rw [wd (h s (by omega)) aB,Te _ _ ay ao];rfl
theorem HW {rows:List (List Int)} {p q c:List Int} {k a s:Nat} (h:goN rows a p=some q) (aB:rows[k]?=some c) (ay:q.length=10) (ao:c.length=10) (aA : ∀ t:Nat,t<s->cv rows (bP q c t)=some k):goN rows (a+s) p=some (bP q c s):=by
 rw [wi,h];exact Gr aB ay ao s aA
theorem A2 {rows:List (List Int)} {p e:List Int} : ∀ {i:Nat},goN rows i p=some e -> ∀ j,j<=i -> ∃ q,goN rows j p=some q
 | 0,h,j,bj=>by
  have:j=0:=by omega
  subst this;exact ⟨e,h⟩
 | i+1,h,j,bj=>by
  by_cases z:j=i+1
  ·subst z;exact ⟨e,h⟩
  ·cases g:goN rows i p with
   | none =>
    have h':(goN rows i p).bind (eM rows)=some e:=h;rw [g] at h';cases h'
   | some q=>exact A2 g j (by omega)
end cf
namespace bC
open PySem PySem.Spec PyProof.Rows
section
variable {X:aQ} {bk:Expr}
theorem Vu (b_:X.A.units+1<cLine):dx X (compareOp .Eq) (λ x y H Q => ∃ (a b:Addr) (xs:List V),x=.ref a/\y=.ref b/\H a=some (.lst xs)/\H b=some (.lst [])/\Q (.ba (decide (xs.length=0))) H):=by
 intro pins s σ H x y v u Q I aT bb h;obtain ⟨a,b,xs,rfl,rfl,av,aa,q⟩:=h;cases aT;cases bb;obtain ⟨z,its,n,bE,_,b6⟩:=I.jy av;obtain ⟨c9,its',bS,zm,_,Mz⟩:=I.jy aa;have aE:=bE.length;have aI:=zm.length;have p1:s.heap.IsList a its.toArray:=⟨_,b6,rfl,n,rfl⟩
 have cR:s.heap.IsList b its'.toArray:=⟨_,Mz,rfl,bS,rfl⟩
 have d0:its'.toArray.size=0:=by rw [List.size_toArray,<-aI];rfl
 by_cases h0:xs.length=0
 ·rw [decide_eq_true h0] at q;have dZ:its.toArray.size=0:=by rw [List.size_toArray,<-aE];exact h0
  have:=SeqAt.RcAt.lists (A:=X.A) (s:=s) (e:=λ _=>true) p1 cR (by rw [dZ,d0]) (Nat.lt_of_succ_lt b_) λ j af _=>absurd af (by omega)
  rw [dZ] at this;exact this X.prog X.w _ _ ⟨.ba _,H,I,rfl,q⟩
 ·rw [decide_eq_false h0] at q;have dZ:its.toArray.size≠0:=by rw [List.size_toArray,<-aE];exact h0
  have:=SeqAt.RcAt.lists_lengths (A:=X.A) (s:=s) p1 cR (by rw [d0];simpa using dZ) (Nat.lt_of_succ_lt b_);exact this X.prog X.w _ _ ⟨.ba _,H,I,rfl,q⟩
end
theorem Bs {J:fC} {n:Nat} {D:Addr} {js:List (Option Nat)} {g:dT} {cT:TT} {bc:TE} {σ:St} {H1:aj} {Q:bz} (aC:n<=sizeLine) (Pv:Nat->St->aj->List V->Prop) (h0:Pv 0 (pick js σ) (upd H1 D (.lst [])) [])
  (ay : ∀ i σ' H' ys,i<=n->Pv i σ' H' ys->H' D=some (.lst ys)/\ys.length<=i) (gU : ∀ i σ' H' ys,i<n->Pv i σ' H' ys->J.go i H') (cC : ∀ σ' H' ys,Pv n σ' H' ys->J.stop n H'/\Q (.ref D) H')
  (aA : ∀ i σ' H' ys x aw,i<n->Pv i σ' H' ys->J.hq i H' x aw->g x σ' aw λ σ2 aH=>cT σ2 aH λ k bH =>
   if k=true then bc σ2 bH λ y aX=>aX D=some (.lst ys)/\Pv (i+1) σ2 (upd aX D (.lst (ys++[y]))) (ys++[y]) else bH D=some (.lst ys)/\Pv (i+1) σ2 bH ys):gJ J D js g cT bc σ H1 Q:=A1 aC Pv h0 ay gU cC aA
end bC
namespace cf
theorem U7 {rows:List (List Int)} {p r:List Int} {s:Nat} (h:goN rows s p=some r) (j:Nat):goN rows j r=goN rows (s+j) p:=by
 rw [wi,h];rfl
end cf
namespace bC
open PySem PySem.Spec PyProof.Rows
theorem WD {K:PySem.W.Frag} {a b D:Addr} {js:List (Option Nat)} {g:dT} {bc:TE} {σ:St} {H1:aj} {Q:bz} {xs ys:List V} (aC:min xs.length ys.length<=sizeLine) (Pv:Nat->St->aj->List V->Prop) (h0:Pv 0 (pick js σ) (upd H1 D (.lst [])) [])
  (au : ∀ i σ' H' zs,H' D=some (.lst zs)->Pv i σ' H' zs->aW K H' a xs/\a4 K H' b ys)
  (aA : ∀ i x y p σ' H' zs (R:St->V->aj->Prop),xs[i]?=some x->ys[i]?=some y->H' p=none->H' D=some (.lst zs)->zs.length=i->Pv i σ' H' zs->(∀ σ2 z aX,aX D=some (.lst zs)->Pv (i+1) σ2 (upd aX D (.lst (zs++[z]))) (zs++[z])->R σ2 z aX) ->
   g (.ref p) σ' (upd H' p (.tup [x,y])) λ σ2 aH=>bc σ2 aH λ z aX=>R σ2 z aX)
  (cC : ∀ σ' H' zs,H' D=some (.lst zs)->zs.length=min xs.length ys.length->Pv (min xs.length ys.length) σ' H' zs->Q (.ref D) H'):gJ (Itm K a b) D js g iy bc σ H1 Q:=by
 refine q0 aC Pv h0 (λ i σ' H' zs ax aY p=>?_) (λ σ' H' zs aY e6 c=>⟨?_,cC σ' H' zs aY e6 c⟩) λ i σ' H' zs x aw R ax aY aN p ah k=>?_
 ·obtain ⟨cn,c4⟩:=au i σ' H' zs aY p;have af:i<xs.length:=by omega
  have aq:i<ys.length:=by omega
  exact ⟨xs,ys,xs[i],ys[i],cn,c4,by simp [af],by simp [aq]⟩
 ·obtain ⟨cn,c4⟩:=au _ σ' H' zs aY c;exact ⟨xs,ys,cn,c4,by omega⟩
 ·obtain ⟨cn,c4⟩:=au i σ' H' zs aY p;obtain ⟨q,aR,rfl,dI,fs,rfl,fJ⟩:=ah;obtain ⟨ex,dP⟩:=fJ xs ys cn c4;exact aA i dI fs q σ' H' zs R ex dP aR aY aN p k
open PySem PySem.Spec PySem.SeqAt PyProof.Rows
section
variable {X:aQ}
theorem Tc {prog:Program} {w:World} {A:Around} {E:Value->Shared->Prop} {s:Shared} {l:Addr} {vs:List Value} {ns:List Int} {Q:Value->Shared->Prop} (bI:A.handled=none)
  (au:s.heap.IsTuple l vs.toArray) (ax:IntsAre vs ns) (c5:0<ns.length)
  (h : ∀ h' M (t:Tok) tk,(∀ b o,s.heap.get? b=some o->h'.get? b=some o)->M∈ns->(∀ a,a∈ns->a<=M)->Q (.int M t) { s with heap:=h',toks:=tk }) :
  wpAny (model prog w) A (call (.builtin "max") [.ref l]) Q E s:=by
 obtain ⟨xs,e⟩:=ax.allInts.items;have iY:ns=xs.toList.map (·.1):=by rw [<-ax.numsOf,<-nums_intItems,<-e]
 have hsz:0<xs.size:=by
  have aF:=c5;rw [iY,List.length_map,Array.length_toList] at aF;exact aF
 rw [e] at au;have dk:l<s.heap.objs.size:=by obtain ⟨_,e,_⟩:=au;exact Heap.lt_size e
 refine call_max_walk (wpAny_pyIter_tuple au ?_);refine ⟨_,_,_,_,_,_,_,rfl,Walks.tuple (A:=A.in1) bI _ l (Nat.ne_of_lt dk) (intItems xs),⟨⟨_,Heap.get?_push_size _ rfl,rfl,rfl⟩,au.push _⟩,λ c ao=>?_,by simpa [intItems] using hsz,CmpOf.ints_gt (numAt xs) (λ _ _=>intItems_at),λ v h' tk c0 aB=>?_⟩
 ·show c<(s.heap.push _).objs.size;rw [Heap.size_push];rcases List.mem_cons.mp ao with rfl | ao
  ·exact Nat.lt_succ_self _
  ·rcases List.mem_cons.mp ao with rfl | ao
   ·exact Nat.lt_succ_of_lt dk
   ·cases ao
 ·have a7:(intItems xs)[argBest (λ i j=>decide (numAt xs i > numAt xs j)) (xs.size - 1)]?=some v:=by simpa [intItems] using c0
  obtain ⟨t,rfl⟩:=intItems_at a7;obtain ⟨af,aq⟩:=argBest_gt (numAt xs) (xs.size - 1);refine h _ _ t tk (λ b o c7=>aB b o (λ hm=>?_) (Heap.get?_push_of_some _ c7)) ?_ λ a av=>?_
  ·rcases List.mem_cons.mp hm with aE | hm
   ·exact absurd (aE ▸ Heap.lt_size c7) (Nat.lt_irrefl _)
   ·cases hm
  ·rw [iY,numAt_eq];exact getD_mem (by rw [List.length_map,Array.length_toList];omega)
  ·rw [iY] at av;obtain ⟨j,bj,rfl⟩:=mem_getD av;rw [List.length_map,Array.length_toList] at bj;rw [<-numAt_eq];exact aq j (by omega)
theorem Bq (ao:X.calm=true):eN X (.builtin "max") (λ xs H Q => ∃ (p:Addr) (ns:List Int),xs=[.ref p]/\aW X.K H p (ns.map V.int)/\ns≠[] /\ ∀ M,M∈ns->(∀ a,a∈ns->a<=M)->Q (.int M) H):=by
 intro pins s σ H xs us Q I r h;obtain ⟨p,ns,rfl,aR,c5,q⟩:=h;obtain ⟨u,rfl,aT⟩:=vals1 r;cases aT;obtain ⟨its,bY,pl,aN⟩:=I.tuple aR;refine Tc (I.ok.hd.1 ao) pl (intsAre_of bY) (by cases ns with | nil=>exact absurd rfl c5 | cons=>simp) λ h' M t tk k gP ji=>?_
 exact ⟨.int M,H,I.kept k,⟨_,rfl⟩,q M gP ji⟩
end
end bC
namespace cf
theorem AU (R:List (List Int)) : ∀ (m:Nat) (p:List Int) (i:Nat),(fM R m p)[i]?=if i<m then (goN R i p).bind (cv R) else none
 | 0,p,i=>by rw [if_neg (Nat.not_lt_zero _)];rfl
 | m+1,p,i=>by
  cases hf:cv R p with
  | none =>
   rw [Bj hf];show none=_;cases i with
   | zero=>rw [if_pos (Nat.succ_pos _)];exact hf.symm
   | succ i =>
    rw [wJ,Bh hf];split<;>rfl
  | some k =>
   obtain ⟨c,ao,_,_⟩:=m8 hf;rw [Bk hf ao];cases i with
   | zero=>rw [if_pos (Nat.succ_pos _)];exact hf.symm
   | succ i =>
    show (fM R m (bP p c 1))[i]?=_;rw [AU R m (bP p c 1) i,wJ,wd hf ao];by_cases ax:i<m
    ·rw [if_pos ax,if_pos (by omega)];rfl
    ·rw [if_neg ax,if_neg (by omega)]
end cf
namespace uB
open PySem PyProof.Rows
theorem RT:typeLookup (.type "list_reverseiterator") (Str.ofString "__len__")=pure none:=by rw [typeLookup_type,builtinLookup_eq_fast];kernel_rfl
theorem U8:typeLookup (.type "list_reverseiterator") (Str.ofString "__length_hint__")=pure (some (.builtin "list_reverseiterator.__length_hint__")):=by rw [typeLookup_type,builtinLookup_eq_fast];kernel_rfl
theorem sub_self:isSubtype (.type "list_reverseiterator") (.type "list_reverseiterator")=pure true:=by rw [isSubtype_type];kernel_rfl
section
variable {prog:Program} {w:World} {A:Around} {E:Value->Shared->Prop} {s:Shared}
noncomputable abbrev xk (items:Array Value):Nat->Value->Prop:=λ i v=>items[items.size - 1 - i]?=some v
theorem extend {R:Result->Shared->Prop} (bI:A.handled=none) (I l:Addr) (c5:l≠I) (items:Array Value) (S:Addr) (res:Value) (c₀:Nat) (cG:s.heap.get? S=some { cls:=.type "list", data:=.seq #[] c₀ })
  (D3:S≠I) (Ny:S≠l) (f9:s.heap.IsRevIter I l ((items.size:Int) - 1)) (au:s.heap.IsList l items)
  (d7 : ∀ h' tk vo cj,(∀ b o,b≠S->b≠I->s.heap.get? b=some o->h'.get? b=some o)->h'.get? S=some { cls:=.type "list", dict:=none,data:=.seq vo cj,slots:=#[] } ->
   ItemsOf (xk items) vo items.size->R (.ok (.ret res)) { s with heap:=h',toks:=tk }) (aC:items.size<=sizeLine) :
  wpAny (model prog w) A.in1 (Builtin.List.listExtendWith (.ref S) (.ref I) res)
   (λ fin s'=>match fin with | .done f=>R (.ok f) s' | .again cj=>cj.quiet=true/\codeAny (model prog w) A cj R s') (λ e s'=>R (.error e) s') s:=by
 have jo:S∉[I,l]:=by simp [D3,Ny]
 have cz:=f9.typeIs;unfold Builtin.List.listExtendWith;refine wpAny_bind (wpAny_typeOf cz ?_);have af:Builtin.List.listSameRef (.ref S) (.ref I)=false:=by simp [Builtin.List.listSameRef,D3]
 have aq:(Value.type "list_reverseiterator" == Value.type "list")=false:=by decide
 have aF:(Value.type "list_reverseiterator" == Value.type "tuple")=false:=by decide
 simp only [af,aq,aF,Bool.or_false,Bool.false_eq_true,if_false];refine wpAny_bind (wpAny_pyIter_revIter f9 ?_);refine wpAny_bind (wpAny_holding ?_);unfold Builtin.List.listLengthHint;refine wpAny_bind (wpAny_specialOf cz RT ?_);show wpAny _ A.in1 (specialOf (Value.ref I) (Str.ofString "__length_hint__")>>=_) _ _ _;refine wpAny_bind (wpAny_specialOf cz U8 ?_)
 wp_delta
 refine wpAny_bind (wpAny_isInstance (T := "list_reverseiterator") (v:=.ref I) (b:=true) cz sub_self ?_);rw [if_neg (by decide : ¬ (!true)=true)];dsimp only;rw [if_pos (by decide +kernel)];rw [if_neg (by decide +kernel)];refine wpAny_pure ?_;rw [if_neg (by decide +kernel)];have W:=(Walks.listRev (prog:=prog) (w:=w) (A:=A.in1) bI I l c5 items).toS;refine wpAny_pure ⟨plainId_quiet F.plain_extend_loop _,codeAny_extend_loopS W aC _ jo _ items.size 0 _ _ _ rfl (Nat.zero_le _) ⟨Nat.zero_le _,by simpa using f9,au⟩ cG (ItemsOf.nil _) λ s' vo cj hm iV gZ=>?_⟩;rw [Moved.eq_with hm];refine d7 s'.heap s'.toks vo cj (λ b bJ aa NC e=>hm.heap b bJ (λ zI=>?_) e) iV gZ;rcases List.mem_cons.mp zI with b5 | zI
 ·exact aa b5
 ·exact NC (List.mem_singleton.mp zI)
end
end uB
namespace b9
open PySem bC cf
theorem w8 {t:Nat->Bool} (i:Nat):(List.range (i+1)).filter t=(List.range i).filter t++(if t i=true then [i] else []):=by
 rw [List.range_succ,List.filter_append];congr 1;by_cases z:t i=true
 ·simp [z]
 ·simp [z]
end b9
namespace bC
open PySem PySem.Spec PyProof.Rows
noncomputable def yh (x:Str):fC:=⟨λ i _=>i<x.cps.size,λ i H y H'=>H'=H /\ ∃ c,x.cps[i]?=some c/\y=.str ⟨#[c]⟩,λ i _=>x.cps.size<=i⟩
theorem Wd {c:Bool} (ed:c=true) {P:Program} {w:World} {K:PySem.W.Frag} {bk:Expr} (x:Str) (t:Tok) (it:Addr):Turn P w K c bk (yh x) [it] it (λ i h=>h.IsStrIter it "str_ascii_iterator" x t i) where
 mem:=by simp
 obj:=λ i h st b aa=>by
  have e:b=it:=by simpa using aa
  subst e;obtain ⟨o,e,c,d⟩:=st;exact ⟨o,e,λ v z=>by rw [d] at z;cases z⟩
 keep:=λ i h h' st k=>by
  obtain ⟨o,e,c,d⟩:=st;exact ⟨o,k it (by simp) o e,c,d⟩
 item:=by
  intro X c0 hw dQ nF ao i pins s σ H E I hf st aM;subst c0 hw dQ;have ax:i<x.cps.size:=aM;have ah:x.cps[i]?=some x.cps[i]:=Array.getElem?_eq_getElem ax;obtain ⟨f0,f1,f2,c2,f4,e7⟩:=hf it (by simp);refine wpAny_pyNext_ascii_item st ah λ h' gW dB=>?_
  have aJ:Inv X pins σ H { s with heap:=h',toks:=s.toks+1 }:=I.turned (λ b o aa e=>(dB.2 b (by simpa using aa)).trans e) f0 f1 c2 f4 e7;obtain ⟨o,e,c,d⟩:=id gW;exact ⟨_,rfl,vL (s:={ s with heap:=h',toks:=s.toks+1 }) e c d (by decide) ⟨.str ⟨#[x.cps[i]]⟩,H,aJ,⟨_,rfl⟩,⟨rfl,_,ah,rfl⟩,gW,λ b aa=>(hf b aa).1⟩⟩
 done:=by
  intro X c0 hw dQ nF ao i pins s σ H E I hf st aM;subst c0 hw dQ;have ax:x.cps.size<=i:=aM;obtain ⟨f0,f1,f2,c2,f4,e7⟩:=hf it (by simp);exact wpAny_pyNext_ascii_end (I.ok.hd.1 (nF.trans ed)) st (Array.getElem?_eq_none ax) λ h' c7=>⟨rfl,I.turned (t':=s.toks) (λ b o aa e=>c7 b o aa e) f0 f1 c2 f4 e7⟩
 self:=λ _ _ _ _ _ st h=>wpAny_pyIter_striter_ascii st h
section
variable {X:aQ} {bk:Expr}
noncomputable def Fj (dq:TE):TI:=λ σ H R=>dq σ H λ v H1 => ∃ x:Str,v=.str x/\x.cps.all (· < 128)=true/\R (yh x) H1
theorem R_ {l:Expr} {dq:TE} (au:bK X l dq) (ed:X.calm=true:=by rfl):kb X bk l (Fj dq):=by
 intro pins s σ H R I h;refine a_ (au pins s σ H _ I h) λ v s1 ⟨y,H1,aJ,bG,a6⟩=>?_
 obtain ⟨x,e,av,q⟩:=a6;subst e;obtain ⟨t,rfl⟩:=(show ∃ t,v=Value.str x t from bG)
 refine wpAny_pyIter_ascii av ?_;refine ⟨s1.heap.objs.size,[s1.heap.objs.size],_,_,H1,rfl,aJ.kept (t':=s1.toks) λ b o e=>Heap.get?_push_of_some _ e,Wd ed x t _,⟨_,Heap.get?_push_size _ rfl,rfl,rfl⟩,λ b aa=>?_,q⟩;have e:b=s1.heap.objs.size:=by simpa using aa
 subst e;exact aJ.nY (Nat.le_refl _) (aJ.a0.fresh (Nat.le_refl _))
theorem Ai {l:Expr} {dq:TE} (au:bg X l dq) (ed:X.calm=true:=by rfl):jK X bk l (Fj dq):=⟨R_ au.o ed⟩
theorem lY:dx X (binaryOp .Add) (λ x y H Q => ∃ a b:Str,x=.str a/\y=.str b/\a.length+b.length<=sizeLine/\Q (.str (a++b)) H):=by
 intro pins s σ H x y v u Q I aT bb h;obtain ⟨a,b,rfl,rfl,au,q⟩:=h;obtain ⟨t,rfl⟩:=(show ∃ t,v=Value.str a t from aT)
 obtain ⟨t',rfl⟩:=(show ∃ t,u=Value.str b t from bb)
 exact add_str (λ t' tk=>⟨.str _,H,I.tok _,⟨_,rfl⟩,q⟩) au
end
end bC
namespace b9
open PySem bC cf
theorem Bt {D:Addr} {js:List (Option Nat)} {cT:TT} {bc:TE} {σ:St} {H1:aj} {Q:bz} {x:Str} {σ0:St} {t:Nat->Bool} {f:Nat->V} (aC:x.cps.size<=sizeLine) (ay : ∃ u,pick js σ=u::σ0) (aY:H1 D=none)
  (aZ : ∀ (i c:Nat) (H':aj) (R:Bool->aj->Prop),aD H1 H'->x.cps[i]?=some c->(∀ aw,aD H' aw->R (t i) aw)->cT (some (.str ⟨#[c]⟩)::σ0) H' R)
  (aA : ∀ (i c:Nat) (H':aj) (R:bz),aD H1 H'->x.cps[i]?=some c->t i=true->(∀ aw,aD H' aw->R (f i) aw)->bc (some (.str ⟨#[c]⟩)::σ0) H' R)
  (q : ∀ H',aD H1 H'->H' D=some (.lst (((List.range x.cps.size).filter t).map f))->Q (.ref D) H'):gJ (yh x) D js (fO 0) cT bc σ H1 Q:=by
 obtain ⟨e_,ay⟩:=ay;refine Bs (n:=x.cps.size) aC (λ i σ' H' zs=>(∃ u:Option V,σ'=u::σ0)/\aD H1 H'/\H' D=some (.lst zs)/\zs.length<=i/\zs=((List.range i).filter t).map f) ⟨⟨e_,ay⟩,aD.new aY,br,Nat.le_refl _,rfl⟩ (λ i σ' H' zs _ ⟨_,_,aF,aU,_⟩=>⟨aF,aU⟩) (λ i σ' H' zs ax _=>ax) (λ σ' H' zs ⟨_,s',aF,_,e⟩=>⟨Nat.le_refl _,?_⟩) ?_
 ·refine q H' s' ?_;rw [aF,e]
 ·rintro i σ' H' zs v aw ax ⟨⟨u,rfl⟩,s',aF,aU,e⟩ ⟨rfl,c,ao,rfl⟩;refine aZ i c _ _ s' ao λ aH s3=>?_
  cases hl:t i with
  | true =>
   refine aA i c _ _ (s'.trans s3) ao hl λ aX s4=>⟨s4 _ _ (s3 _ _ aF),⟨_,rfl⟩,?_,br,?_,?_⟩
   ·intro c o b5;rw [a3 (b2 b5 aY)];exact s4 _ _ (s3 _ _ (s' c o b5))
   ·rw [List.length_append];show zs.length+1<=i+1;omega
   ·rw [w8,e];simp [hl]
  | false =>
   refine ⟨s3 _ _ aF,⟨_,rfl⟩,s'.trans s3,s3 _ _ aF,by omega,?_⟩;rw [w8,e];simp [hl]
end b9
namespace bC
open PySem PySem.Spec PyProof.Rows b9
section
variable {X:aQ} {cc:hG} {k:Nat} {f C:Addr} {fd:FuncData} {ag:List Str} {sp:bF} {dC:List V} {ds:List Value} {E:dF} {x m df:Str} {p pos apos pos':Pos} {e o value:Expr} {es:List Expr} {aS eT:TE} {t:cH}
theorem i_ (he:bg X e aS) (aa:attributeBase e df X.env (eval e X.env)=eval e X.env):bg X (.Attribute e df pos) (FC X.K aS df):=⟨R0 he.o aa⟩
theorem tl (av:bg X o aS) (a7:bg X value eT) (aA:swapsWith value (some (.Attribute o df pos')) pos.line X.env=pure false):fR X (.Assign [.Attribute o df pos'] value pos) (Fy X.K aS eT df):=⟨Sf av.o a7.o aA⟩
theorem gj {pl:Sem Bool} (he:bg X o aS) (c:hi X.K C) (hm:Meth X.K C m f) (F:d3 X.prog X.w X.K X.mg X.base cc k f fd ag sp) (ar:c_ k X.A) (aa:Binds X.K fd ag ds) (hd:Vals dC ds) (ah:Passes cc X E) (av:ek X (e::es) t)
  (cC:starEach (e::es) X.env=(false,eval e X.env)::starEach es X.env:=by rfl) (cW:(backTo pos (starEach es X.env)).any (·.1)=false:=by rfl)
  (aZ:eval (.Call (.Attribute o m apos) (e::es) [] pos) X.env=(do
   let cO ← eval o X.env
   standAt apos.atName
   let (f,first) ← holding [cO] (getMethod cO m pl)
   callWith pos f first (backTo pos (starEach (e::es) X.env)) (backToKw pos (keywordEach [] X.env))):=by rfl) :
  bg X (.Call (.Attribute o m apos) (e::es) [] pos) (vX C m sp dC E aS t):=⟨TG (pl:=pl) he.o c hm F ar aa hd ah av.o cC cW aZ⟩
theorem VU {pl:Sem Bool} (he:bg X o aS) (c:hi X.K C) (hm:Meth X.K C m f) (F:d3 X.prog X.w X.K X.mg X.base cc k f fd ag sp) (ar:c_ k X.A) (aa:Binds X.K fd ag ds) (hd:Vals dC ds) (ah:Passes cc X E)
  (aZ:eval (.Call (.Attribute o m apos) [] [] pos) X.env=(do
   let cO ← eval o X.env
   standAt apos.atName
   let (f,first) ← holding [cO] (getMethod cO m pl)
   callWith pos f first (backTo pos (starEach [] X.env)) (backToKw pos (keywordEach [] X.env))):=by rfl) :
  bg X (.Call (.Attribute o m apos) [] [] pos) (vX C m sp dC E aS kM):=⟨VD (pl:=pl) he.o c hm F ar aa hd ah aZ⟩
theorem T6 (M:pK X.K C f) (F:d3 X.prog X.w X.K X.mg X.base cc k f fd ag sp) (ar:c_ (k+1) X.A) (aM:c1 X x) (hm:X.mg x=some (.ref C)) (aa:Binds X.K fd ag ds) (hd:Vals dC ds) (ah:Passes cc X E)
  (av:ek X (e::es) t) (dj:(x == ("__debug__" : Str))=false:=by decide) (he:starEach (e::es) X.env=(false,eval e X.env)::starEach es X.env:=by rfl) (cW:(backTo pos (starEach es X.env)).any (·.1)=false:=by rfl) :
  bg X (.Call (.Name x p) (e::es) [] pos) (vW C sp dC E t):=⟨TF M F ar aM hm aa hd ah av.o dj he cW⟩
theorem Ib (M:pK X.K C f) (F:d3 X.prog X.w X.K X.mg X.base cc k f fd ag sp) (ar:c_ (k+1) X.A) (aM:c1 X x) (hm:X.mg x=some (.ref C)) (aa:Binds X.K fd ag ds) (hd:Vals dC ds) (ah:Passes cc X E)
  (dj:(x == ("__debug__" : Str))=false:=by decide):bg X (.Call (.Name x p) [] [] pos) (vW C sp dC E kM):=⟨VC M F ar aM hm aa hd ah dj⟩
end
noncomputable abbrev dc (x:Str):Key:=Sum.inr x
section
variable {X:aQ}
theorem Jt (b_:X.A.units+1<cLine):dx X (compareOp .NotIn) (λ y x H Q => ∃ (n:Str) (d:Addr) (kvs:List (Key×V)),y=.str n/\x=.ref d/\H d=some (.cM kvs)/\Q (.ba (!(cE kvs (dc n)).isSome)) H):=by
 intro pins s σ H y x u v Q I bb aT h;obtain ⟨n,d,kvs,rfl,rfl,hd,q⟩:=h;cases aT;exact S1 b_ I (i0.k (k:=dc n) hd) bb λ s3 bR=>⟨.ba _,H,bR,rfl,q⟩
noncomputable def SJ (fp ty:TE):TE:=λ σ H Q=>fp σ H λ x H1=>ty σ H1 λ y aw => ∃ (d:Addr) (n:Str) (kvs:List (Key×V)) (v:V),x=.ref d/\y=.str n/\aw d=some (.cM kvs)/\cE kvs (dc n)=some v/\Q v aw
theorem VR {o i:Expr} {fp ty:TE} {pos:Pos} (b_:X.A.units+1<cLine) (aO:bg X o fp) (ax:bg X i ty) (aA:zw i):bg X (.Subscript o i pos) (SJ fp ty):=⟨by
 intro pins s σ H Q I h;refine Hy PySem.F.slot_dict_getitem.lookup aA (a_ (aO.o pins s σ H _ I h) λ u s1 ⟨x,H1,aJ,aT,a6⟩=>a_ (ax.o pins s1 σ H1 _ aJ a6) λ dg s2 ⟨y,aw,bD,bb,b0⟩=>?_);obtain ⟨d,n,kvs,v,rfl,rfl,hd,a7,q⟩:=b0;obtain rfl:u=Value.ref d:=aT;have g:i0 aw d (.str n) (some v):=by rw [<-a7];exact i0.k (k:=dc n) hd
 exact ⟨JP bD g,IP b_ bD g bb λ cP s3 bR fc=>⟨v,aw,bR,fc,q⟩⟩⟩
noncomputable def SD (fp ty eT:TE):cX:=λ D σ H=>eT σ H λ v H1=>fp σ H1 λ x aw=>ty σ aw λ y aH => ∃ (d:Addr) (n:Str) (kvs:List (Key×V)),x=.ref d/\y=.str n/\aH d=some (.cM kvs)/\kvs.length<sizeLine /\ ∀ aX,b9.b3 d aH aX->aX d=some (.cM (putK kvs (dc n) v))->D.bl σ aX
theorem VW {o i value:Expr} {fp ty eT:TE} {pos pos':Pos} (b_:X.A.units+1<cLine) (aO:bg X o fp) (ax:bg X i ty) (a7:bg X value eT) (aA:swapsWith value (some (.Subscript o i pos')) pos.line X.env=pure false) :
  fR X (.Assign [.Subscript o i pos'] value pos) (SD fp ty eT):=⟨by
 intro pins s σ H D I h;refine wpAny_Assign_Subscript (a_ (a7.o pins s σ H _ I h) λ r s1 ⟨v,H1,aJ,bE,a6⟩=>a_ (aO.o pins s1 σ H1 _ aJ a6) λ u s2 ⟨x,aw,bD,aT,b0⟩=>a_ (ax.o pins s2 σ aw _ bD b0) λ dg s3 ⟨y,aH,bR,bb,ew⟩=>?_) aA;obtain ⟨d,n,kvs,rfl,rfl,hd,au,q⟩:=ew;obtain rfl:u=Value.ref d:=aT;exact Bv b_ bR (nV.k (k:=dc n) hd au) bb bE λ s4 cN=>⟨σ,_,cN,q _ b9.b3.upd br⟩⟩
noncomputable def Sv:V->List V->aj->bz->Prop:=λ x vs H Q => ∃ (d:Addr) (n:Str) (kvs:List (Key×V)) (v:V),x=.ref d/\vs=[.str n]/\H d=some (.cM kvs)/\cE kvs (dc n)=some v /\ ∀ H',b9.b3 d H H'->H' d=some (.cM (qz kvs (dc n)))->Q v H'
theorem Vh:nB X "dict.pop" Sv:=by
 intro pins s σ H x vs v us Q I aT bE h;obtain ⟨d,n,kvs,y,rfl,rfl,hd,a7,q⟩:=h;cases aT;obtain ⟨u,rfl,dA⟩:=bE.one;exact QS I hd (k:=dc n) dA a7 (.inl rfl) λ cP s' iD fc=>⟨y,_,iD,fc,q _ b9.b3.upd br⟩
noncomputable def Su:V->List V->aj->bz->Prop:=λ x vs H Q => ∃ (d:Addr) (n:Str) (kvs:List (Key×V)),x=.ref d/\vs=[.str n]/\H d=some (.cM kvs)/\Q ((cE kvs (dc n)).getD .bp) H
theorem Vg:nB X "dict.get" Su:=by
 intro pins s σ H x vs v us Q I aT bE h;obtain ⟨d,n,kvs,rfl,rfl,hd,q⟩:=h;cases aT;obtain ⟨u,rfl,dA⟩:=bE.one;obtain ⟨t,rfl⟩:=(show ∃ t,u=Value.str n t from dA)
 obtain ⟨_,hm,xs,rel,dd⟩:=tc I.a0 hd;refine call_meetsIn PySem.F.slot_dict_get dd.typeIs PySem.F.entry_dict_get (PySem.F.args_dict_get_2 _ _) (meets_dict_get (g6 X.prog X.w) d (JW X.prog X.w n t) hm) ⟨_,dd.mapOf,?_⟩;exact ⟨(cE kvs (dc n)).getD .bp,H,I.tok _,(rel.val (dc n)).getD (show RelV V.bp Value.none from rfl),q⟩
theorem Ww:eN X (.builtin "len") (λ xs H Q => ∃ (d:Addr) (kvs:List (Key×V)),xs=[V.ref d]/\H d=some (.cM kvs)/\Q (.int kvs.length) H):=by
 intro pins s σ H xs us Q I r h;obtain ⟨d,kvs,rfl,hd,q⟩:=h;obtain ⟨u,rfl,aT⟩:=vals1 r;cases aT;exact QR I (.inl hd) λ t s' iD=>⟨.int _,H,iD,⟨t,rfl⟩,q⟩
end
end bC
namespace b9
open PySem bC cf
theorem BX {K:PySem.W.Frag} {a D:Addr} {js:List (Option Nat)} {bc:TE} {σ:St} {H1:aj} {Q:bz} {xs:List V} {σ0:St} (aC:xs.length<=sizeLine) (ay : ∃ u,pick js σ=u::σ0) (aY:H1 D=none)
  (av:H1 a=some (.lst xs)) (oi:Nat->aj->List V->Prop) (h0:oi 0 (upd H1 D (.lst [])) [])
  (aB : ∀ i H' aw zs ys,H' D=some (.lst ys)->oi i H' zs->b3 D H' aw->oi i aw zs)
  (aA : ∀ (i:Nat) (x:V) (H':aj) (zs:List V) (R:bz),aD H1 H'->xs[i]?=some x->H' D=some (.lst zs)->zs.length=i->oi i H' zs->(∀ z aX,aD H' aX->oi (i+1) aX (zs++[z])->R z aX)->bc (some x::σ0) H' R)
  (q : ∀ H' zs,aD H1 H'->H' D=some (.lst zs)->zs.length=xs.length->oi xs.length H' zs->Q (.ref D) H'):gJ (mm K a) D js (fO 0) iy bc σ H1 Q:=by
 obtain ⟨e_,ay⟩:=ay;refine Bs (n:=xs.length) aC (λ i σ' H' zs=>(∃ u:Option V,σ'=u::σ0)/\aD H1 H'/\H' D=some (.lst zs)/\zs.length=i/\oi i H' zs) ⟨⟨e_,ay⟩,aD.new aY,br,rfl,h0⟩ (λ i σ' H' zs _ ⟨_,_,aF,aU,_⟩=>⟨aF,Nat.le_of_eq aU⟩) (λ i σ' H' zs ax ⟨_,s',_⟩=>⟨_,xs[i],a4.of (s' _ _ av),List.getElem?_eq_getElem ax⟩) (λ σ' H' zs ⟨_,s',aF,aU,e⟩=>⟨⟨_,a4.of (s' _ _ av),Nat.le_refl _⟩,q H' zs s' aF aU e⟩) ?_;rintro i σ' H' zs x aw ax ⟨⟨u,rfl⟩,s',aF,aU,e⟩ ⟨rfl,ah⟩;have cZ:=ah _ (a4.of (s' _ _ av));refine aA i x _ zs _ s' cZ aF aU e λ z aX s4 hh=>⟨s4 _ _ aF,⟨_,rfl⟩,?_,br,by rw [List.length_append,aU];rfl,aB _ _ _ _ _ (s4 _ _ aF) hh b3.upd⟩
 intro c o b5;rw [a3 (b2 b5 aY)];exact s4 _ _ (s' c o b5)
end b9
namespace cf
open PySem PySem.NumText
theorem Hd {α : Type} {p : α -> Bool} {l:List α} {x : α} (h:x∈l.filter p):x∈l:=(List.mem_filter.mp h).1
noncomputable abbrev bV (c:Nat):Str:=⟨#[c]⟩
noncomputable abbrev du (x:Str):List Nat:=x.cps.toList
theorem m_ (a b:Str):du (a++b)=du a++du b:=by
 show (a.cps++b.cps).toList=_;rw [Array.toList_append]
theorem px (a:Str):(du a).length=a.length:=Array.length_toList
theorem qQ {a b:Str} (h:du a=du b):a=b:=congrArg Str.mk (Array.toList_inj.mp h)
theorem Ab (a b c:Str):a++b++c=a++(b++c):=qQ (by simp only [m_,List.append_assoc])
theorem kS (a:Str):Str.empty++a=a:=qQ (by rw [m_];rfl)
theorem len_app (a b:Str):(a++b).length=a.length+b.length:=by rw [<-px,<-px,<-px,m_,List.length_append]
noncomputable def ef (c:Nat) (x:Str):Prop:=c∉du x
theorem ef.app {c:Nat} {a b:Str} (h:ef c a) (g:ef c b):ef c (a++b):=by
 unfold ef;rw [m_,List.mem_append];exact λ z=>z.elim h g
theorem G0 {c:Nat} : ∀ {p q a b:List Nat},c∉p->c∉q->p++c::a=q++c::b->p=q/\a=b
 | [],[],a,b,_,_,e=>⟨rfl,(List.cons.inj e).2⟩
 | [],y::q,a,b,_,aR,e=>absurd (List.cons.inj e).1 (λ z=>aR (z ▸ List.mem_cons_self))
 | x::p,[],a,b,ay,_,e=>absurd (List.cons.inj e).1 (λ z=>ay (z ▸ List.mem_cons_self))
 | x::p,y::q,a,b,ay,aR,e=>by
  obtain ⟨aE,aI⟩:=List.cons.inj e;obtain ⟨bG,cb⟩:=G0 (λ z=>ay (List.mem_cons_of_mem _ z)) (λ z=>aR (List.mem_cons_of_mem _ z)) aI;exact ⟨by rw [aE,bG],cb⟩
theorem kV (c:Nat) (x y:Str) (r:List Str):Str.join (bV c) (x::y::r)=x++bV c++Str.join (bV c) (y::r):=rfl
theorem qO (c:Nat) (x y:Str) (r:List Str):du (Str.join (bV c) (x::y::r))=du x++c::du (Str.join (bV c) (y::r)):=by
 rw [kV,m_,m_,List.append_assoc];rfl
theorem HZ (c:Nat) : ∀ (l m:List Str),l≠[]->m≠[]->(∀ p∈l,ef c p)->(∀ p∈m,ef c p)->Str.join (bV c) l=Str.join (bV c) m->l=m
 | [],_,h,_,_,_,_=>absurd rfl h
 | _,[],_,h,_,_,_=>absurd rfl h
 | [x],[y],_,_,_,_,e=>congrArg (λ z=>[z]) e
 | [x],y::z::r,_,_,au,_,e=>by
  exfalso;refine au x (List.mem_singleton.mpr rfl) ?_;have b5:du x=_:=congrArg du (show x=_ from e);rw [b5,qO];simp
 | x::z::r,[y],_,_,_,hm,e=>by
  exfalso;refine hm y (List.mem_singleton.mpr rfl) ?_;have b5:du y=_:=congrArg du (show y=_ from e.symm);rw [b5,qO];simp
 | x::z::r,y::u::t,_,_,au,hm,e=>by
  have b5:=congrArg du e;rw [qO,qO] at b5;obtain ⟨aE,aI⟩:=G0 (au x List.mem_cons_self) (hm y List.mem_cons_self) b5;have cI:=HZ c (z::r) (u::t) (by simp) (by simp) (λ p ay=>au p (List.mem_cons_of_mem _ ay)) (λ p ay=>hm p (List.mem_cons_of_mem _ ay)) (qQ aI);rw [qQ aE,cI]
theorem V9 (x y:Str):Txt.split x y≠[]:=by
 unfold Txt.split;split
 ·simp
 ·split
  ·simp
  ·rw [StrLaws.partsBetween_eq];obtain ⟨p,r,e⟩:=StrLaws.partsFrom_ne x y.length 0 (Builtin.Str.occurrences x y 0 x.length (x.length+1));rw [e];simp
theorem tG (c:Nat) (l:List Str) (au:l≠[]) (h : ∀ p∈l,ef c p):Txt.split (Str.join (bV c) l) (bV c)=l :=
 HZ c _ l (V9 _ _) au (StrLaws.split_free _ c) h (StrLaws.join_split _ _)
theorem We (y:Str) (l:List Str):Txt.join y l=Str.join y l:=StrLaws.glued_eq_join y l
noncomputable def bu (n:Int):Str:=Str.ofString (toString n)
theorem tj (m:Nat):du (bu (m:Int))=(Nat.toDigits 10 m).map Char.toNat:=by
 unfold bu du;rw [Str.ofString_eq_toList];show (Nat.repr m).toList.map Char.toNat=_;rw [Nat.toList_repr]
theorem S2 {c:Char} (h:c.isDigit=true):48<=c.toNat/\c.toNat<=57:=by
 unfold Char.isDigit at h;rw [Bool.and_eq_true,decide_eq_true_eq,decide_eq_true_eq] at h;exact ⟨UInt32.le_iff_toNat_le.mp h.1,UInt32.le_iff_toNat_le.mp h.2⟩
theorem v7 {n:Int} (h:0<=n):AllDigits (du (bu n)):=by
 obtain ⟨m,rfl⟩:=Int.eq_ofNat_of_zero_le h;intro c ao;rw [tj] at ao;obtain ⟨ch,jW,e⟩:=List.mem_map.mp ao;rw [<-e];exact S2 (Nat.isDigit_of_mem_toDigits (by decide) (by decide) jW)
theorem AA : ∀ d:Nat,d<10->(Nat.digitChar d).toNat=48+d:=by decide
theorem wu {m:Nat} (h:10<=m):Nat.toDigits 10 m=Nat.toDigits 10 (m / 10)++[Nat.digitChar (m % 10)]:=by
 have hm:m % 10<10:=Nat.mod_lt m (by decide);have t:=Nat.toDigits_append_toDigits (b:=10) (n:=m / 10) (d:=m % 10) (by decide) (by omega) hm;rw [Nat.div_add_mod] at t;rw [<-t,Nat.toDigits_of_lt_base hm]
theorem Wa : ∀ (m:Nat),0<m -> ∃ c r,(Nat.toDigits 10 m).map Char.toNat=c::r/\49<=c:=by
 intro m
 induction m using Nat.strongRecOn with
 | _ m cI =>
  intro h0;by_cases h:m<10
  ·rw [Nat.toDigits_of_lt_base h];exact ⟨(Nat.digitChar m).toNat,[],rfl,by rw [AA m h];omega⟩
  ·obtain ⟨c,r,e,ao⟩:=cI (m / 10) (by omega) (by omega);rw [wu (by omega),List.map_append,e];exact ⟨c,r++_,rfl,ao⟩
theorem HB : ∀ (k m:Nat),m<10 ^ (k+1)->(Nat.toDigits 10 m).length<=k+1
 | 0,m,h=>by
  rw [Nat.toDigits_of_lt_base (by omega)];exact Nat.le_refl _
 | k+1,m,h=>by
  by_cases af:m<10
  ·rw [Nat.toDigits_of_lt_base af];show 1<=_;omega
  ·have cI:=HB k (m / 10) (by rw [Nat.div_lt_iff_lt_mul (by decide)];rw [Nat.pow_succ] at h;exact h);rw [wu (by omega),List.length_append];show _+1<=_;omega
theorem Uz (m:Nat):digitsVal ((Nat.toDigits 10 m).map Char.toNat)=m:=by
 induction m using Nat.strongRecOn with
 | _ m cI =>
  by_cases h:m<10
  ·rw [Nat.toDigits_of_lt_base h];show 0 * 10+((Nat.digitChar m).toNat - 48)=m;rw [AA m h];omega
  ·rw [wu (by omega),List.map_append];show digitsVal (_++[(Nat.digitChar (m % 10)).toNat])=m;rw [digitsVal_snoc,cI (m / 10) (by omega),AA _ (by omega)];omega
theorem Hf {n:Int} (h:0<n) : ∃ c r,du (bu n)=c::r/\49<=c:=by
 obtain ⟨m,rfl⟩:=Int.eq_ofNat_of_zero_le (Int.le_of_lt h);rw [tj];exact Wa m (by omega)
theorem ip {n:Int} {k:Nat} (h:0<=n) (aC:n<((10 ^ (k+1):Nat):Int)):(bu n).length<=k+1:=by
 obtain ⟨m,rfl⟩:=Int.eq_ofNat_of_zero_le h;rw [<-px,tj,List.length_map];exact HB k m (by omega)
theorem z6 {n:Int} (h:0<=n):du (bu n)≠[]:=by
 obtain ⟨m,rfl⟩:=Int.eq_ofNat_of_zero_le h;rw [tj];by_cases h:m<10
 ·rw [Nat.toDigits_of_lt_base h];simp
 ·rw [wu (by omega)];simp
theorem AG {n:Int} (h:0<=n) (au:(bu n).length<=4300):intText? (bu n)=some n:=by
 rw [intText_digits (v7 h) (z6 h) au];obtain ⟨m,rfl⟩:=Int.eq_ofNat_of_zero_le h;show some ((digitsVal (du (bu (m:Int))):Nat):Int)=_;rw [tj,Uz]
theorem kT {n:Int} {c:Nat} (h:0<=n) (ao:c<48\/57<c):ef c (bu n):=λ z=>by
 have:=v7 h c z;omega
noncomputable def my (i j:Int):Str:=bu i++bV 47++bu j
theorem U3 (i j:Int):my i j=Str.join (bV 47) [bu i,bu j]:=rfl
theorem HU {i j:Int} (ax:0<=i) (bj:0<=j):ef 32 (my i j):=((kT ax (by omega)).app (by unfold ef du;decide)).app (kT bj (by omega))
theorem WL {i j:Int} (ax:0<=i) (bj:0<=j):Txt.split (my i j) (bV 47)=[bu i,bu j]:=by
 rw [U3];refine tG 47 _ (by simp) λ p ay=>?_
 simp only [List.mem_cons,List.not_mem_nil,or_false] at ay;rcases ay with rfl | rfl
 ·exact kT ax (by omega)
 ·exact kT bj (by omega)
theorem S4 {i j:Int} (ax:0<=i) (bj:0<=j) (af:i<=1000000000000) (aq:j<=1000000000000):(my i j).length<=27:=by
 have aE:=ip (k:=12) ax (by omega);have aI:=ip (k:=12) bj (by omega);have cx:(bV 47).length=1:=rfl;unfold my;rw [len_app,len_app];omega
noncomputable def gu (p e:Int):Str:=bu p++bV 94++bu e
theorem VN (i j:Int):gu i j=Str.join (bV 94) [bu i,bu j]:=rfl
theorem VM {i j:Int} (ax:0<=i) (bj:0<=j):ef 42 (gu i j):=((kT ax (by omega)).app (by unfold ef du;decide)).app (kT bj (by omega))
theorem Xf {i j:Int} (ax:0<=i) (bj:0<=j):Txt.split (gu i j) (bV 94)=[bu i,bu j]:=by
 rw [VN];refine tG 94 _ (by simp) λ p ay=>?_
 simp only [List.mem_cons,List.not_mem_nil,or_false] at ay;rcases ay with rfl | rfl
 ·exact kT ax (by omega)
 ·exact kT bj (by omega)
theorem Sm (i j:Int):0<(gu i j).length:=by
 have cx:(bV 94).length=1:=rfl;unfold gu;rw [len_app,len_app];omega
noncomputable def gh (l:List (Int×Int)):List Str:=(l.filter λ p=>decide (0<p.2)).map λ p=>gu p.1 p.2
noncomputable def dm (l:List (Int×Int)):Str:=if gh l=[] then bV 49 else Str.join (bV 42) (gh l)
theorem U_ {l:List Str} (h : ∀ p∈l,0<p.length):Str.join (bV 42) l=Str.empty ↔ l=[]:=by
 constructor
 ·intro e
  match l,h,e with
  | [],_,_=>rfl
  | [x],h,e =>
   have:=h x (List.mem_singleton.mpr rfl);rw [show x=Str.empty from e] at this;exact absurd this (by decide)
  | x::y::r,h,e =>
   have b5:=congrArg du e;rw [qO] at b5;exact absurd b5 (by show ¬ (_=([]:List Nat));simp)
 ·intro e;rw [e];rfl
theorem UC {l:List (Int×Int)} : ∀ p∈gh l,0<p.length:=λ p ay=>by
 obtain ⟨q,_,rfl⟩:=List.mem_map.mp ay;exact Sm _ _
end cf
namespace uB
open PySem PyProof.Rows
section
variable {prog:Program} {w:World} {A:Around} {E:Value->Shared->Prop} {s:Shared}
theorem WA {I l:Addr} {items:Array Value} {R:Result->Shared->Prop} (bI:A.handled=none) (c5:l≠I) (f9:s.heap.IsRevIter I l ((items.size:Int) - 1)) (au:s.heap.IsList l items) (aC:items.size<=sizeLine)
  (d7 : ∀ h' tk acc c,(∀ b o,b≠I->s.heap.get? b=some o->h'.get? b=some o)->h'.get? s.heap.objs.size=some { cls:=.type "list", dict:=none,data:=.seq acc c,slots:=#[] }->ItemsOf (xk items) acc items.size->R (.ok (.ret (.ref s.heap.objs.size))) { s with heap:=h',toks:=tk }) :
  codeAny (model prog w) A (.builtin "proto.collect" ⟨[.ref I],[]⟩) R s:=by
 have lt : ∀ {b:Addr} {o:Obj},s.heap.get? b=some o->s.heap.objs.size≠b:=λ e=>(Nat.ne_of_lt (Heap.lt_size e)).symm
 obtain ⟨oI,Lu,_⟩:=id f9;obtain ⟨ol,xy,_⟩:=id au;have cG:(s.heap.push { cls:=.type "list", data:=.seq #[] }).get? s.heap.objs.size=some { cls:=.type "list", data:=.seq #[] }:=Heap.get?_push_size _ rfl;refine codeAny_builtin F.entry_proto_collect ?_;rw [Around.under_plainId F.plain_proto_collect _];show wpAny _ A.in1 (newList []>>=λ z=>again (.builtin "list.__iadd__" ⟨[z,.ref I],[]⟩)) _ _ _;refine wpAny_bind (wpAny_newObj_type ?_);refine wpAny_pure ⟨plainId_quiet F.plain_list_iadd _,?_⟩;refine codeAny_builtin F.entry_list_iadd ?_;rw [Around.under_plainId F.plain_list_iadd _];show wpAny _ A.in1 (Builtin.List.listExtendWith _ (.ref I) _) _ _ _;refine extend (R:=R) (s:={ s with heap:=s.heap.push { cls:=.type "list", data:=.seq #[] } }) bI I l c5 items s.heap.objs.size _ 0 cG (lt Lu) (lt xy) (f9.at λ o e=>Heap.get?_push_of_some _ e) (au.at λ o e=>Heap.get?_push_of_some _ e) (λ h' tk acc c bZ iV gZ=>?_) aC;exact d7 h' tk acc c (λ b o aa e=>bZ b o (lt e).symm aa (Heap.get?_push_of_some _ e)) iV gZ
theorem X5 {I l:Addr} {items:Array Value} {Q:List Value->Shared->Prop} (bI:A.handled=none) (c5:l≠I) (f9:s.heap.IsRevIter I l ((items.size:Int) - 1)) (au:s.heap.IsList l items) (aC:items.size<=sizeLine)
  (eQ : ∀ h' tk acc,(∀ b o,b≠I->s.heap.get? b=some o->h'.get? b=some o)->ItemsOf (xk items) acc items.size->Q acc.toList { s with heap:=h',toks:=tk }) :
  wpAny (model prog w) A (collect (.ref I)) Q E s:=by
 unfold collect;refine wpAny_bind (wpAny_runValue (WA bI c5 f9 au aC λ h' tk acc c bZ iV gZ=>?_));show wpAny _ A (load s.heap.objs.size>>=_) _ _ _;exact wpAny_bind (wpAny_load iV (wpAny_pure (eQ h' tk acc bZ gZ)))
theorem To:(Value.type "list_reverseiterator" == Value.type "list" || Value.type "list_reverseiterator" == Value.type "tuple")=false:=by decide
theorem S8 {I l:Addr} {x y:Str} {t u:Tok} {Q:Value->Shared->Prop} (bI:A.handled=none) (c5:l≠I) (f9:s.heap.IsRevIter I l ((#[Value.str y u].size:Int) - 1)) (au:s.heap.IsList l #[.str y u])
  (eQ : ∀ h' tk,(∀ b o,b≠I->s.heap.get? b=some o->h'.get? b=some o)->Q (.str y u) { s with heap:=h',toks:=tk }) :
  wpAny (model prog w) A (call (.builtin "str.join") [.str x t,.ref I]) Q E s:=by
 refine wpAny_call (codeAny_call_builtin F.slot_str_join.plain F.entry_str_join ?_);refine F.slot_str_join.check _ _ _ _ _ _ _ _ (typeIs_str _ _ _) (F.args_str_join_2 _ _) ?_;rw [join_tree_other];refine wpAny_bind (wpAny_typeOf f9.typeIs ?_);rw [To,if_neg Bool.false_ne_true];refine wpAny_bind (wpAny_tryCatch (wpAny_pyIter_revIter f9 ?_));refine wpAny_bind (X5 (A:=A.in1) bI c5 f9 au (by show 1<=sizeLine;decide) λ h' tk acc bZ gZ=>?_);have e:acc.toList=[.str y u]:=by
  have af:acc.size=1:=gZ.1;have aq:=gZ.2 0 acc[0] (Array.getElem?_eq_getElem (by omega));have aF:Value.str y u=acc[0]:=by
   have:(#[Value.str y u])[#[Value.str y u].size - 1 - 0]?=some acc[0]:=aq;simpa using this
  apply List.ext_getElem?;intro j;cases j with
  | zero=>simp [aF,af]
  | succ j =>
   rw [List.getElem?_eq_none (by rw [Array.length_toList,af];omega),List.getElem?_eq_none (by simp)]
 rw [e];show wpAny _ _ (rule "str.join.same-object" >>= λ _=>ret (.str y u)) _ _ _;exact wpAny_bind (wpAny_rule (wpAny_pure (eQ h' tk bZ)))
end
end uB
namespace bC
open PySem PySem.Spec PyProof.Rows b9
theorem Jf : ∀ (l:List (Str×Tok)),Vals ((l.map (·.1)).map V.str) (strValues l)
 | []=>.nil
 | (x,t)::l=>.cons ⟨t,rfl⟩ (Jf l)
theorem Hx : ∀ {ys:List Str} {its:List Value},Vals (ys.map V.str) its->StrsAre its ys
 | [],_,.nil=>.nil
 | y::ys,_,.cons (r : ∃ t,_=Value.str y t) bE=>by
  obtain ⟨t,rfl⟩:=r;exact .cons y t (Hx bE)
section
variable {X:aQ}
theorem Ts:dx X (binaryOp .Mult) (λ x y H Q => ∃ (a:Str) (n:Int),x=.str a/\y=.int n/\(n=0\/n=1)/\Q (.str (if n=1 then a else Str.empty)) H):=by
 intro pins s σ H x y v u Q I aT bb h;obtain ⟨a,n,rfl,rfl,aC,q⟩:=h;obtain ⟨t,rfl⟩:=(show ∃ t,v=Value.str a t from aT)
 obtain ⟨t',rfl⟩:=(show ∃ t,u=Value.int n t from bb)
 rcases aC with rfl | rfl
 ·refine SB.mul ⟨by decide,λ z=>absurd (by decide) z,λ z=>absurd (by decide) z⟩ λ bf k=>⟨.str _,H,I.tok _,⟨bf,rfl⟩,?_⟩
  exact q
 ·refine SB.mul ⟨by decide,λ _ z=>absurd z (by simp),λ _ z=>absurd z (by simp)⟩ λ bf k=>⟨.str _,H,I.tok _,⟨bf,rfl⟩,?_⟩
  have e:Txt.mul a 1=a:=by
   unfold Txt.mul;rw [if_neg (by decide),if_pos (by simp)]
  rw [e];exact q
noncomputable def rJoin:V->List V->aj->bz->Prop:=λ x vs H Q => ∃ (y:Str) (a:Addr) (ys:List Str),x=.str y/\vs=[.ref a]/\H a=some (.lst (ys.map V.str))/\y.length<=16/\(ys.map (·.length)).sum+ys.length<=1048576/\Q (.str (Str.join y ys)) H
theorem qM:nB X "str.join" rJoin:=by
 intro pins s σ H x vs v us Q I aT bE h;obtain ⟨y,a,ys,rfl,rfl,av,aL,hw,q⟩:=h;obtain ⟨t,rfl⟩:=(show ∃ t,v=Value.str y t from aT)
 obtain ⟨u,rfl,dA⟩:=bE.one;cases dA;obtain ⟨z,its,n,zm,hlen,b6⟩:=I.jy av;refine join_listW (items:=its.toArray) ⟨_,b6,rfl,n,rfl⟩ (Hx zm) aL hw λ t' k=>⟨.str _,H,I.tok _,⟨t',rfl⟩,?_⟩
 rw [cf.We];exact q
noncomputable def Ij (to:TE) (aS:cH):TE:=λ σ H Q=>to σ H λ x H1 => ∃ e3:Str,x=.str e3/\aS σ H1 λ vs aw => ∃ (a:Addr) (y:Str),vs=[.ref a]/\aw a=some (.lst [.str y])/\Q (.str y) aw
theorem Yw {o aE:Expr} {to:TE} {aS:cH} {p apos pos cK:Pos} (ao:X.calm=true) (aM:c1 X "reversed") (hm:X.mg "reversed" = none) (aO:bK X o to) (av:gB X [aE] aS) (aA:starEach [aE] X.env=[(false,eval aE X.env)]:=by rfl)
  (aa:bootBuiltins "reversed" = some (.type "reversed"):=by decide +kernel)
  (hv:attributeBase o "join" X.env (eval o X.env)=eval o X.env:=by rfl)
  (kK:((backTo cK (starEach [.Call (.Name "reversed" p) [aE] [] pos] X.env)).all (λ x => !x.1)&&(backToKw cK (keywordEach [] X.env)).all (λ x=>x.1.isSome)
   && decide (([.Call (.Name "reversed" p) [aE] [] pos]:List Expr).length+([]:List Keyword).length+(if ([]:List Keyword).isEmpty then 0 else 1)<30))=true:=by rfl)
  (kP:(apos.endLine == cK.line)=true:=by rfl):bK X (.Call (.Attribute o "join" apos) [.Call (.Name "reversed" p) [aE] [] pos] [] cK) (Ij to aS):=by
 intro pins s σ H Q I h;refine wpAny_Call_method_late hv kK kP rfl (a_ (aO pins s σ H _ I h) λ v s1 ⟨x,H1,aJ,bG,e3,b6,a6⟩=>?_);subst b6;obtain ⟨t0,rfl⟩:=(show ∃ t,v=Value.str e3 t from bG)
 refine ⟨"str", "str.join", PySem.F.plainAttrs_str,PySem.F.slot_str_join,PySem.F.type_str_join,typeIs_str _ _ _,(λ _ e=>nomatch e),?_⟩;refine Calls.callWith_builtin rfl (Calls.evalArgs_plain ?_);refine Calls.spliced_cons ?_;refine Call_ (lS aJ aM hm aa (PyProof.Rows.callWith_type1 (a_ (av pos pins s1 σ H1 _ aJ a6) λ us s2 ⟨vs,aw,bD,cb,b0⟩=>?_) aA rfl));obtain ⟨a,y,e,cn,q⟩:=b0;subst e;obtain ⟨gp,rfl,kk⟩:=vals1 cb;cases kk;obtain ⟨z,its,n,bE,hlen,b6⟩:=bD.jy cn;obtain ⟨w0,rfl,O6⟩:=vals1 bE;obtain ⟨ty,rfl⟩:=(show ∃ t,w0=Value.str y t from O6)
 have dK:s2.heap.IsList a #[Value.str y ty]:=⟨_,b6,rfl,n,rfl⟩
 refine call_reversed_list dK ?_;refine Calls.spliced_nil ?_;have lt:a≠s2.heap.objs.size:=Nat.ne_of_lt (Heap.lt_size b6);refine uB.S8 (bD.ok.hd.1 ao) lt ⟨_,Heap.get?_push_size _ rfl,rfl,rfl⟩ (dK.at λ o e=>Heap.get?_push_of_some _ e) λ h' tk bZ=>?_
 exact ⟨.str y,aw,bD.kept (t':=tk) λ b o c7=>bZ b o (Nat.ne_of_lt (Heap.lt_size c7)) (Heap.get?_push_of_some _ c7),⟨_,rfl⟩,q⟩
theorem Yy {o aE:Expr} {to:TE} {aS:cH} {p apos pos cK:Pos} (ao:X.calm=true) (aM:c1 X "reversed") (hm:X.mg "reversed" = none) (aO:bg X o to) (av:ek X [aE] aS) (aA:starEach [aE] X.env=[(false,eval aE X.env)]:=by rfl)
  (aa:bootBuiltins "reversed" = some (.type "reversed"):=by decide +kernel)
  (hv:attributeBase o "join" X.env (eval o X.env)=eval o X.env:=by rfl)
  (kK:((backTo cK (starEach [.Call (.Name "reversed" p) [aE] [] pos] X.env)).all (λ x => !x.1)&&(backToKw cK (keywordEach [] X.env)).all (λ x=>x.1.isSome)
   && decide (([.Call (.Name "reversed" p) [aE] [] pos]:List Expr).length+([]:List Keyword).length+(if ([]:List Keyword).isEmpty then 0 else 1)<30))=true:=by rfl)
  (kP:(apos.endLine == cK.line)=true:=by rfl):bg X (.Call (.Attribute o "join" apos) [.Call (.Name "reversed" p) [aE] [] pos] [] cK) (Ij to aS):=⟨Yw ao aM hm aO.o av.o aA aa hv kK kP⟩
noncomputable def Sy:V->List V->aj->bz->Prop:=λ x vs H Q => ∃ (a y:Str),x=.str a/\vs=[.str y]/\(y.length == 0)=false/\a.length+2<=sizeLine/\gY (.lst ((Txt.split a y).map V.str)) H Q
theorem split_len (x y:Str):(Txt.split x y).length<=x.length+2:=by
 unfold Txt.split;split
 ·show 1<=_;omega
 ·split
  ·show 1<=_;omega
  ·have h:=StrLaws.occ_length_le x y 0 x.length (x.length+1);rw [StrLaws.partsBetween_eq];have : ∀ (w:Nat) (vp:List Nat) (a:Nat),(StrLaws.partsFrom x w a vp).length=vp.length+1:=by
    intro w vp
    induction vp with
    | nil=>intro a;rfl
    | cons c r cI=>intro a;show (StrLaws.partsFrom x w (c+w) r).length+1=_;rw [cI];rfl
   rw [this];omega
theorem BR {pins:List (Addr×Obj)} {s:Shared} {σ:St} {H:aj} {Q:bz} {l:List (Str×Tok)} {tk:Nat} (I:Inv X pins σ H s) (au:l.length<=sizeLine) (q:gY (.lst ((l.map (·.1)).map V.str)) H Q) :
  fB X pins σ Q (.ref s.heap.objs.size) { s with heap:=s.heap.push { cls:=.type "list", data:=.seq (strValues l).toArray },toks:=tk }:=by
 refine ⟨.ref s.heap.objs.size,_,I.laid (a:=s.heap.objs.size) (t':=tk) (λ b o c7=>Heap.get?_push_of_some _ c7) (Nat.le_refl _) (show dv X.prog X.w _ _ _ (.lst _) from ⟨?_,strValues l,0,Jf l,Heap.get?_push_size _ rfl⟩),rfl,q.at _ (I.a0.fresh (Nat.le_refl _))⟩;rw [List.length_map,List.length_map];exact au
theorem wA:nB X "str.split" Sy:=by
 intro pins s σ H x vs v us Q I aT bE h;obtain ⟨x,y,rfl,rfl,aL,aN,q⟩:=h;obtain ⟨t,rfl⟩:=(show ∃ t,v=Value.str x t from aT)
 obtain ⟨u,rfl,dA⟩:=bE.one;obtain ⟨t',rfl⟩:=(show ∃ t,u=Value.str y t from dA)
 have hlen:=split_len x y;cases af:(decide (x.length<y.length)||decide (Builtin.Str.strKind x<Builtin.Str.strKind y)) with
 | true =>
  have e:Txt.split x y=[x]:=if_pos af;rw [e] at q;exact call_meets F.slot_str_split (typeIs_str _ _ _) F.entry_str_split (F.args_str_split_2 _ _) (meets_str_split_cannot_occur x y t t' af) (BR (l:=[(x,t)]) (tk:=s.toks) I (by show 1<=sizeLine;decide) q)
 | false =>
  cases hf:(Builtin.Str.occurrences x y 0 x.length (x.length+1)).isEmpty with
  | true =>
   have e:Txt.split x y=[x]:=(if_neg (by rw [af];decide)).trans (if_pos hf);rw [e] at q;exact call_meets F.slot_str_split (typeIs_str _ _ _) F.entry_str_split (F.args_str_split_2 _ _) (meets_str_split_not_found x y t t' af aL hf) (BR (l:=[(x,t)]) (tk:=s.toks) I (by show 1<=sizeLine;decide) q)
  | false =>
   have e:Txt.split x y=Builtin.Str.partsBetween x (Builtin.Str.occurrences x y 0 x.length (x.length+1)) y.length:=(if_neg (by rw [af];decide)).trans (if_neg (by rw [hf];decide));rw [e] at q hlen;refine call_meets F.slot_str_split (typeIs_str _ _ _) F.entry_str_split (F.args_str_split_2 _ _) (meets_str_split_sep x y t t' af aL hf (by omega) (by omega)) ?_;rw [strsFrom_eq];refine BR (l:=numbered s.toks _) I ?_ ?_
   ·have:=congrArg List.length (numbered_texts s.toks (Builtin.Str.partsBetween x (Builtin.Str.occurrences x y 0 x.length (x.length+1)) y.length));rw [List.length_map] at this;omega
   ·rw [numbered_texts];exact q
theorem II:eN X (.type "int") (λ xs H Q => ∃ (x:Str) (n:Int),xs=[.str x]/\x.length<=640/\intText? x=some n/\Q (.int n) H):=by
 intro pins s σ H xs us Q I r h;obtain ⟨x,n,rfl,au,aC,q⟩:=h;obtain ⟨u,rfl,aT⟩:=vals1 r;obtain ⟨t,rfl⟩:=(show ∃ t,u=Value.str x t from aT)
 exact PySem.W.KIN.call_text aC au ⟨.int n,H,I.tok _,⟨_,rfl⟩,q⟩
noncomputable def te (x:V) (y:Str):Prop:=(x=.str y \/ ∃ i:Int,x=.int i/\i.natAbs.log2<1920/\y=cf.bu i)/\y.length<=1000000
theorem vZ {pins:List (Addr×Obj)} {s:Shared} {σ:St} {H:aj} {x:V} {v:Value} {y:Str} {R:Value->Shared->Prop} (I:Inv X pins σ H s) (r:RelV x v) (ah:te x y) (h : ∀ t s',Inv X pins σ H s'->R (.str y t) s') :
  wpAny (model X.prog X.w) X.A (formatField v Str.empty) R X.cB s:=by
 obtain ⟨ah,aN⟩:=ah;rcases ah with rfl | ⟨i,rfl,ax,rfl⟩
 ·obtain ⟨t,rfl⟩:=(show ∃ t,v=Value.str y t from r)
  exact wpAny_formatField_str (h _ _ I) (h _ _ (I.tok _)) (by rw [sizeLine_eq];omega)
 ·obtain ⟨t,rfl⟩:=(show ∃ t,v=Value.int i t from r)
  exact wpAny_formatField_int ax (h _ _ (I.tok _))
noncomputable def Ga (aS:TE) (y:Str) (bo:TE):TE:=λ σ H Q=>aS σ H λ x H1 => ∃ mf,te x mf/\bo σ H1 λ z aw => ∃ gb,te z gb/\Q (.str (mf++y++gb)) aw
theorem TC {a b:Expr} {aS bo:TE} {y:Str} {j:Nat} {p1 cR iO pos:Pos} (av:bK X a aS) (aa:bK X b bo) (aL:y.length<=1000:=by decide) :
  bK X (.JoinedStr [.FormattedValue a (-1) none p1,.Constant (.str y) j cR,.FormattedValue b (-1) none iO] pos) (Ga aS y bo):=by
 intro pins s σ H Q I h;refine wpAny_JoinedStr ?_;refine wpAny_FormattedValue_plain (a_ (av pins s σ H _ I h) λ v s1 ⟨x,H1,aJ,bG,mf,ah,a6⟩=>?_);refine vZ aJ bG ah λ t1 s2 bD=>⟨mf,t1,rfl,?_,?_⟩
 ·rw [cf.kS,sizeLine_eq];have:=ah.2;omega
 refine Calls.Constant_str ⟨y,_,rfl,?_,?_⟩
 ·rw [cf.kS,cf.len_app,sizeLine_eq];have:=ah.2;omega
 have bR:=bD.tok (s2.toks+1);refine wpAny_FormattedValue_plain (a_ (aa pins _ σ H1 _ bR a6) λ u s4 ⟨z,aw,cN,hh,gb,aN,b0⟩=>?_);refine vZ cN hh aN λ pU s5 g9=>⟨gb,pU,rfl,?_,?_⟩
 ·rw [cf.kS,cf.len_app,cf.len_app,sizeLine_eq];have:=ah.2;have:=aN.2;omega
 ·refine ⟨?_,.str _,aw,g9.tok _,⟨_,rfl⟩,?_⟩
  ·rw [cf.kS,cf.len_app,cf.len_app,sizeLine_eq];have:=ah.2;have:=aN.2;omega
  ·rw [cf.kS];exact b0
theorem Hp {a b:Expr} {aS bo:TE} {y:Str} {j:Nat} {p1 cR iO pos:Pos} (av:bg X a aS) (aa:bg X b bo) (aL:y.length<=1000:=by decide) :
  bg X (.JoinedStr [.FormattedValue a (-1) none p1,.Constant (.str y) j cR,.FormattedValue b (-1) none iO] pos) (Ga aS y bo):=⟨TC av.o aa.o aL⟩
theorem GD {K:PySem.W.Frag} {T:String} {name:Str} {id:String} {e o:Expr} {es:List Expr} {to:TE} {t:cH} {apos cK:Pos} {r:V->List V->aj->bz->Prop} (dQ:X.K=K) (fU:PlainAttrs T) (slot:Slot T name id) (su:typeOf (.builtin id)=pure (.type "method_descriptor")) (hm:nB X id r) (aO:bg X o to) (av:ek X (e::es) t)
  (hv:attributeBase o name X.env (eval o X.env)=eval o X.env:=by rfl)
  (kK:((backTo cK (starEach (e::es) X.env)).all (λ x => !x.1)&&(backToKw cK (keywordEach [] X.env)).all (λ x=>x.1.isSome)&&decide ((e::es).length+([]:List Keyword).length+(if ([]:List Keyword).isEmpty then 0 else 1)<30))=true:=by rfl)
  (kP:(apos.endLine == cK.line)=true:=by rfl) (aA:starEach (e::es) X.env=(false,eval e X.env)::starEach es X.env:=by rfl) (m4:(backTo cK (starEach es X.env)).any (·.1)=false:=by rfl) :
  bg X (.Call (.Attribute o name apos) (e::es) [] cK) (zr K T r to t):=by
 subst dQ;exact ⟨F2 fU slot su hm aO.o av.o hv kK kP aA m4⟩
noncomputable abbrev gO (n:Int):Key:=Sum.inl n
noncomputable def Sz (fp ty eT:TE):cX:=λ D σ H=>eT σ H λ v H1=>fp σ H1 λ x aw=>ty σ aw λ y aH => ∃ (d:Addr) (n:Int) (kvs:List (Key×V)),x=.ref d/\y=.int n/\aH d=some (.cM kvs)/\kvs.length<sizeLine /\ ∀ aX,b9.b3 d aH aX->aX d=some (.cM (putK kvs (gO n) v))->D.bl σ aX
theorem VV {o i value:Expr} {fp ty eT:TE} {pos pos':Pos} (b_:X.A.units+1<cLine) (aO:bg X o fp) (ax:bg X i ty) (a7:bg X value eT) (aA:swapsWith value (some (.Subscript o i pos')) pos.line X.env=pure false) :
  fR X (.Assign [.Subscript o i pos'] value pos) (Sz fp ty eT):=⟨by
 intro pins s σ H D I h;refine wpAny_Assign_Subscript (a_ (a7.o pins s σ H _ I h) λ r s1 ⟨v,H1,aJ,bE,a6⟩=>a_ (aO.o pins s1 σ H1 _ aJ a6) λ u s2 ⟨x,aw,bD,aT,b0⟩=>a_ (ax.o pins s2 σ aw _ bD b0) λ dg s3 ⟨y,aH,bR,bb,ew⟩=>?_) aA;obtain ⟨d,n,kvs,rfl,rfl,hd,au,q⟩:=ew;obtain rfl:u=Value.ref d:=aT;exact Bv b_ bR (nV.k (k:=gO n) hd au) bb bE λ s4 cN=>⟨σ,_,cN,q _ b9.b3.upd br⟩⟩
noncomputable def Ss:V->List V->aj->bz->Prop:=λ x vs H Q => ∃ (d:Addr) (n:Int) (z:V) (kvs:List (Key×V)),x=.ref d/\vs=[.int n,z]/\H d=some (.cM kvs)/\Q ((cE kvs (gO n)).getD z) H
theorem Vf:nB X "dict.get" Ss:=by
 intro pins s σ H x vs v us Q I aT bE h;obtain ⟨d,n,z,kvs,rfl,rfl,hd,q⟩:=h;cases aT;cases bE with
 | cons bG bE =>
 cases bE with
 | cons cb bE =>
 cases bE;obtain ⟨t,rfl⟩:=(show ∃ t,_=Value.int n t from bG)
 obtain ⟨_,hm,xs,rel,dd⟩:=tc I.a0 hd;refine call_meetsIn PySem.F.slot_dict_get dd.typeIs PySem.F.entry_dict_get (PySem.F.args_dict_get_3 _ _ _) (meets_dict_get_default (g6 X.prog X.w) d (JV X.prog X.w n t) hm _) ⟨_,dd.mapOf,?_⟩;exact ⟨_,H,I.tok _,(rel.val (gO n)).getD cb,q⟩
end
end bC
namespace b9
open PySem bC cf
theorem Zd {K:PySem.W.Frag} {a b D:Addr} {js:List (Option Nat)} {cT:TT} {bc:TE} {σ:St} {H1:aj} {Q:bz} {xs ys:List V} {σ0:St} (t:Nat->Bool) (f:Nat->V) (aC:min xs.length ys.length<=sizeLine) (ay : ∃ u v,pick js σ=u::v::σ0) (aY:H1 D=none)
  (av : ∀ H',aD H1 H'->aW K H' a xs) (aa : ∀ H',aD H1 H'->aW K H' b ys)
  (aZ : ∀ (i:Nat) (x y:V) (H':aj) (R:Bool->aj->Prop),aD H1 H'->xs[i]?=some x->ys[i]?=some y->R (t i) H'->cT (some x::some y::σ0) H' R)
  (aA : ∀ (i:Nat) (x y:V) (H':aj) (R:bz),aD H1 H'->xs[i]?=some x->ys[i]?=some y->t i=true->(∀ aw,aD H' aw->R (f i) aw)->bc (some x::some y::σ0) H' R)
  (q : ∀ H',aD H1 H'->H' D=some (.lst (((List.range (min xs.length ys.length)).filter t).map f))->Q (.ref D) H'):gJ (oH K a b) D js (pb K 2 (lL (fO 0) (lL (fO 1) qp))) cT bc σ H1 Q:=by
 obtain ⟨e_,v0,ay⟩:=ay;refine Bs (n:=min xs.length ys.length) aC (λ i σ' H' zs=>(∃ u v:Option V,σ'=u::v::σ0)/\aD H1 H'/\H' D=some (.lst zs)/\zs.length<=i/\zs=((List.range i).filter t).map f) ⟨⟨e_,v0,ay⟩,aD.new aY,br,Nat.le_refl _,rfl⟩ (λ i σ' H' zs _ ⟨_,_,aF,aU,_⟩=>⟨aF,aU⟩) (λ i σ' H' zs ax ⟨_,s',_⟩=>?_) (λ σ' H' zs ⟨_,s',aF,_,e⟩=>⟨?_,?_⟩) ?_
 ·exact ⟨_,_,xs[i]'(by omega),ys[i]'(by omega),av _ s',aa _ s',List.getElem?_eq_getElem (by omega),List.getElem?_eq_getElem (by omega)⟩
 ·exact ⟨_,_,av _ s',aa _ s',by omega⟩
 ·refine q H' s' ?_;rw [aF,e]
 ·rintro i σ' H' zs v aw ax ⟨⟨u,v,rfl⟩,s',aF,aU,e⟩ ⟨p,jr,rfl,x,y,rfl,fJ⟩;obtain ⟨ah,aL⟩:=fJ _ _ (av _ s') (aa _ s');refine ⟨p,_,rfl,aW.of br,rfl,_,_,rfl,_,_,rfl,rfl,?_⟩;have gS:(upd H' p (.tup [x,y])) D=some (.lst zs):=by rw [a3 (b2 aF jr)];exact aF
  have s2:aD H1 (upd H' p (.tup [x,y])):=aD.more s' jr;refine aZ i x y _ _ s2 ah aL ?_;cases hl:t i with
  | true =>
   refine aA i x y _ _ s2 ah aL hl λ aX s4=>⟨s4 _ _ gS,⟨_,_,rfl⟩,?_,br,?_,?_⟩
   ·intro c o b5;rw [a3 (b2 b5 aY)];exact s4 _ _ (s2 c o b5)
   ·rw [List.length_append];show zs.length+1<=i+1;omega
   ·rw [w8,e];simp [hl]
  | false =>
   refine ⟨gS,⟨_,_,rfl⟩,s2,gS,by omega,?_⟩;rw [w8,e];simp [hl]
theorem range_getD {α : Type} (d : α) (l:List α):l=(List.range l.length).map λ i=>l.getD i d:=by
 apply List.ext_getElem?;intro i;rcases Nat.lt_or_ge i l.length with h | h
 ·rw [List.getElem?_map,List.getElem?_range h,List.getElem?_eq_getElem h];simp [List.getD,h]
 ·rw [List.getElem?_eq_none h,List.getElem?_eq_none (by rw [List.length_map,List.length_range];exact h)]
theorem YA {α β : Type} (d : α) (t : α -> Bool) (f : α -> β) (l:List α):((List.range l.length).filter λ i=>t (l.getD i d)).map (λ i=>f (l.getD i d))=(l.filter t).map f:=by
 conv=>rhs;rw [range_getD d l]
 rw [List.filter_map,List.map_map];rfl
end b9
namespace cf
open PySem PySem.NumText
instance (x:List Nat):Decidable (AllDigits x):=by unfold AllDigits;infer_instance
noncomputable def rF (x:Str):Prop := ∀ c∈du x,c<128
theorem rF.all {x:Str} (h:rF x):x.cps.all (· < 128)=true:=by
 rw [Array.all_eq_true'];intro c ao;exact decide_eq_true (h c (Array.mem_toList_iff.mpr ao))
theorem IY {c:Nat} : ∀ {l:List Str} {y:Str},y∈l -> ∀ z∈du y,z∈du (Str.join (bV c) l)
 | [],_,h,_,_=>by cases h
 | [x],y,h,z,aN=>by
  rw [List.mem_singleton.mp h] at aN;exact aN
 | x::dI::r,y,h,z,aN=>by
  rw [qO,List.mem_append];rcases List.mem_cons.mp h with rfl | h'
  ·exact .inl aN
  ·exact .inr (List.mem_cons_of_mem _ (IY h' z aN))
noncomputable def lZ:List Int:=[2,3,5,7,11,13,17,19,23,29]
noncomputable abbrev bN (es:List Int):List (Int×Int):=lZ.zip es
theorem Ag {es:List Int} (h:es.length=10):(bN es).length=10:=by rw [List.length_zip,h];rfl
theorem Sp {es:List Int} {i:Nat} {p e:Int} (h:(bN es)[i]?=some (p,e)):lZ[i]?=some p/\es[i]?=some e:=by
 rw [List.getElem?_zip_eq_some] at h;exact h
theorem Ci : ∀ p∈lZ,2<=p/\p<=29:=by decide
noncomputable abbrev QP:List Int:=List.replicate 10 0
noncomputable def ht (l:List (Int×Int)):List (Int×Int):=l.filter λ p=>decide (0<p.2)
theorem Bl (l:List (Int×Int)):gh l=(ht l).map λ p=>gu p.1 p.2:=rfl
theorem HG {α β : Type} : ∀ (a:List α) (b:List β),List.Sublist ((a.zip b).map (·.1)) a
 | [],_=>by simp
 | x::a,[]=>by simp
 | x::a,y::b=>by simpa using HG a b
theorem Hn (es:List Int):((bN es).map (·.1)).Nodup:=(by decide:lZ.Nodup).sublist (HG _ _)
theorem Xd (es:List Int):((ht (bN es)).map (·.1)).Nodup:=(Hn es).sublist (List.filter_sublist.map _)
theorem Hb : ∀ {l:List (Int×Int)} {p e f:Int},(l.map (·.1)).Nodup->(p,e)∈l->(p,f)∈l->e=f
 | [],_,_,_,_,h,_=>by cases h
 | q::l,p,e,f,aC,af,aq=>by
  obtain ⟨cJ,dp⟩:=List.nodup_cons.mp aC;rcases List.mem_cons.mp af with dR | dR
  ·rcases List.mem_cons.mp aq with di | di
   ·rw [<-dR] at di;injection di with _ gq;exact gq.symm
   ·exact absurd (List.mem_map.mpr ⟨(p,f),di,by rw [<-dR]⟩) cJ
  ·rcases List.mem_cons.mp aq with di | di
   ·exact absurd (List.mem_map.mpr ⟨(p,e),dR,by rw [<-di]⟩) cJ
   ·exact Hb dp dR di
theorem Rg {es:List Int} (h:es.length=10) {i:Nat} (ax:i<10):(bN es)[i]?=some (lZ[i]'ax,es[i]'(by omega)):=by
 rw [List.getElem?_zip_eq_some];exact ⟨List.getElem?_eq_getElem ax,List.getElem?_eq_getElem (by omega)⟩
theorem Wm {es:List Int} (cU:es.length=10) (h0 : ∀ e∈es,0<=e) (hw:gh (bN es)=[]):es=QP:=by
 apply List.ext_getElem?;intro i;rcases Nat.lt_or_ge i 10 with ax | ax
 ·rw [List.getElem?_eq_getElem (by omega),List.getElem?_replicate,if_pos ax];have af:=h0 _ (List.getElem_mem (show i<es.length by omega));have aq : ¬ 0<es[i]'(by omega):=λ ay=>by
   have hm:(lZ[i]'ax,es[i]'(by omega))∈ht (bN es):=List.mem_filter.mpr ⟨List.mem_of_getElem? (Rg cU ax),decide_eq_true ay⟩;rw [Bl] at hw;rw [List.map_eq_nil_iff.mp hw] at hm;cases hm
  congr 1;omega
 ·rw [List.getElem?_eq_none (by omega),List.getElem?_eq_none (by rw [List.length_replicate];exact ax)]
theorem Sl (p e:Int):94∈du (gu p e):=by
 unfold gu;rw [m_,m_,List.mem_append,List.mem_append];exact .inl (.inr (by show 94∈[94];simp))
theorem Tb {l:List (Int×Int)} (h:gh l≠[]):dm l≠bV 49:=by
 unfold dm;rw [if_neg h];intro e;obtain ⟨y,aL⟩:=List.exists_mem_of_ne_nil _ h;obtain ⟨f,_,rfl⟩:=List.mem_map.mp (show y∈(l.filter λ p=>decide (0<p.2)).map λ p=>gu p.1 p.2 from aL);have:=IY (c:=42) aL 94 (Sl f.1 f.2);rw [e] at this;exact absurd this (by show ¬ 94∈[49];decide)
theorem TP {es:List Int} {q:Int×Int} (h:q∈ht (bN es)):q.1∈lZ/\0<q.2/\q.2∈es:=by
 obtain ⟨af,aq⟩:=List.mem_filter.mp h;have aF:=List.of_mem_zip (show (q.1,q.2)∈_ from af);exact ⟨aF.1,of_decide_eq_true aq,aF.2⟩
theorem TO {es:List Int} : ∀ q∈ht (bN es),0<=q.1/\0<=q.2:=λ q aR=>by
 have h:=TP aR;have:=Ci _ h.1;exact ⟨by omega,by omega⟩
open b9
end cf
namespace DR
open PySem PySem.W PyProof.Rows bC
section
variable {prog:Program} {w:World} {A:Around} {E:Value->Shared->Prop} {s:Shared}
theorem take_all {T:String} {r d:Addr} {n:Nat} {P:Nat->Value->Prop} {Dn:Heap->Prop} {R:List Value->Shared->Prop} (K:KdlSrc prog w T r d n P Dn) (bI:A.handled=none) (a0:Dn s.heap) (aC:n<=sizeLine)
  (h : ∀ (g:Heap) (tk:Nat) (acc:Array Value),(∀ b o,s.heap.get? b=some o->g.get? b=some o)->s.heap.objs.size<g.objs.size->ItemsOf P acc n->R acc.toList { s with heap:=g,toks:=tk }) :
  wpAny (model prog w) A (collect (.ref r)) R E s:=by
 have lt:=K.there _ a0;have Qu:(s.heap.push (seqObj "list" #[] 0)).get? s.heap.objs.size=some (seqObj "list" #[] 0):=Heap.get?_push_size _ rfl;have key:=kdl_extend (A:=A) (s:={ s with heap:=s.heap.push (seqObj "list" #[] 0) })
  (R:=λ (z:Result) (s':Shared) => ∃ (g:Heap) (tk:Nat) (acc:Array Value) (c:Nat),z=.ok (.ret (.ref s.heap.objs.size))/\s'={ s with heap:=g,toks:=tk }/\(∀ b o,s.heap.get? b=some o->g.get? b=some o)/\g.get? s.heap.objs.size=some { cls:=.type "list", dict:=none,data:=.seq acc c,slots:=#[] }/\ItemsOf P acc n)
  K bI (K.keep _ _ a0 λ b _ o e=>Heap.get?_push_of_some _ e) s.heap.objs.size (Nat.ne_of_gt lt.1) (Nat.ne_of_gt lt.2) (.ref s.heap.objs.size) 0 Qu
  (λ g tk acc c aB cG gZ=>⟨g,tk,acc,c,rfl,rfl,λ b o e=>aB b o (Nat.ne_of_lt (Heap.lt_size e)) (Heap.get?_push_of_some _ e),cG,gZ⟩) aC
 unfold collect;refine wpAny_bind (wpAny_runValue (codeAny_builtin entry_proto_collect' (show wpAny _ _ (do again (.builtin "list.__iadd__" ⟨[<-newList [],.ref r],[]⟩)) _ _ s from ?_)));refine wpAny_bind (wpAny_newList (wpAny_pure ⟨Code.quiet_builtin _ (by decide +kernel),codeAny_builtin entry_list_iadd' (show wpAny _ _ (Builtin.List.listExtendWith (.ref s.heap.objs.size) (.ref r) (.ref s.heap.objs.size)) _ _ { s with heap:=s.heap.push (seqObj "list" #[] 0) } from ?_)⟩));refine wpAny_mono key (λ z s' x=>?_) λ e s' x=>?_
 ·cases z with
  | again c =>
   refine ⟨x.1,codeAny_mono x.2 λ _ _ ⟨g,tk,acc,cj,aE,aI,aB,cG,gZ⟩=>?_⟩;subst aE aI;exact (show wpAny _ A (load s.heap.objs.size>>=_) _ _ _ from wpAny_bind (wpAny_load cG (wpAny_pure (h g tk acc aB (Heap.lt_size cG) gZ))))
  | done v =>
   obtain ⟨g,tk,acc,cj,aE,aI,aB,cG,gZ⟩:=x;subst aI;cases aE;exact (show wpAny _ A (load s.heap.objs.size>>=_) _ _ _ from wpAny_bind (wpAny_load cG (wpAny_pure (h g tk acc aB (Heap.lt_size cG) gZ))))
 ·obtain ⟨_,_,_,_,aE,_⟩:=x;cases aE
theorem Y5 {d:Addr} {vs:List (Key×Value)} {ns:List Str} {R:Value->Shared->Prop} (bI:A.handled=none) (lo:(d == sysModules)=false) (dd:s.heap.DictOf (g6 prog w) d vs) (aB:vs.map (·.1)=ns.map dc) (mB:ns.length<64)
  (k : ∀ (h':Heap) (tk:Nat) (p:Addr) (out:Array Value) (e:Nat) (ms:List Str),(∀ b bJ,s.heap.get? b=some bJ->h'.get? b=some bJ)->s.heap.objs.size<=p->StrsAre out.toList ms->ms.Perm ns->sortedS ms=true->h'.get? p=some (seqObj "list" out e)->R (.ref p) { s with heap:=h',toks:=tk }) :
  wpAny (model prog w) A (call (.builtin "sorted") [.ref d]) R E s:=by
 obtain ⟨ep,lr⟩:=dd.dictAt;have au:vs.length=ns.length:=by
  have:=congrArg List.length aB;simpa using this
 refine Calls.call_function_entry kind_sorted plain_sorted entry_sorted (args_sorted1 _) (show wpAny _ _ (Builtin.«sorted» _) _ _ s from ?_);unfold Builtin.«sorted»;refine wpAny_bind (m:=checkCount "sorted" 1 1 _) (wpAny_pure (wpAny_bind (take_all (A:=A.in1) (kdl_dict (knd:=g6 prog w) (kvs:=vs) (ep:=ep) lo) bI lr (by rw [au,sizeLine_eq];omega) λ af t1 acc k1 OB gZ=>wpAny_bind (wpAny_newList ?_ ?_))))
 ·have al:acc.toList.length=ns.length:=by rw [Array.length_toList,gZ.1,au]
  have at' : ∀ (j:Nat) (v:Value),acc.toList[j]?=some v -> ∃ x t,ns[j]?=some x/\v=.str x t:=λ j v a7=>by
   obtain ⟨key,x,ah,ax⟩:=gZ.2 j v (by rw [<-Array.getElem?_toList];exact a7);have aq:(ns.map dc)[j]?=some key:=by rw [<-aB,List.getElem?_map,ah];rfl
   rw [List.getElem?_map] at aq;obtain ⟨y,aL,e⟩:=Option.map_eq_some_iff.mp aq;subst e;rcases l5 (show pg (dc y) v=true from ax) with ⟨i,t,e,_⟩ | ⟨z,t,e,rfl⟩
   ·cases e
   ·cases e;exact ⟨y,t,aL,rfl⟩
  have cG:StrsAre acc.toList ns:=by
   have af:=strsAre_map acc.toList λ v a7=>by
    obtain ⟨j,bj⟩:=List.getElem?_of_mem a7;obtain ⟨x,t,_,e⟩:=at' j v bj;exact ⟨x,t,e⟩
   have e:acc.toList.map strOf=ns:=by
    apply List.ext_getElem?;intro j;rw [List.getElem?_map];cases bj:acc.toList[j]? with
    | some v =>
     obtain ⟨x,t,ah,rfl⟩:=at' j v bj;rw [ah];rfl
    | none =>
     have:=List.getElem?_eq_none_iff.mp bj;rw [List.getElem?_eq_none (by omega)];rfl
   rw [e] at af;exact af
  have MH:acc.toList.length<64:=by omega
  have yp:(af.push (seqObj "list" acc.toList.toArray 0)).get? af.objs.size=some (seqObj "list" acc.toList.toArray 0):=Heap.get?_push_size _ rfl;refine wpAny_bind (wpAny_holding (wpAny_call_entry slot_list_sort ⟨_,yp,rfl⟩ entry_list_sort (list_sort_treeK strKind_oneLt yp cG.keysOf (λ v₁ v₂ rest e=>keyKind_strs (by rw [<-e];exact cG)) MH λ gW ay aA=>⟨_,rfl,wpAny_pure ⟨_,rfl,?_⟩⟩) (args_list_sort _)));obtain ⟨ms,gP,ji,LL⟩:=sorted_out_str cG ay aA;obtain ⟨e,he⟩:=sortedHeap_at (out:=(arrOf gW).map (·.2)) yp;exact k _ t1 af.objs.size _ e ms (λ e6 bJ y=>(sortedHeap_old (Nat.ne_of_lt (Heap.lt_size (k1 e6 bJ y))) (by rw [Heap.size_push];exact Nat.lt_succ_of_lt (Heap.lt_size (k1 e6 bJ y)))).trans (Heap.get?_push_of_some _ (k1 e6 bJ y))) (Nat.le_of_lt OB) gP ji LL he
 ·rw [Array.length_toList,gZ.1,au,sizeLine_eq];omega
end
end DR
namespace bC
open PySem PySem.Spec PyProof.Rows
section
variable {X:aQ}
theorem JE : ∀ {vs:List Value} {ns:List Str},StrsAre vs ns->Vals (ns.map V.str) vs
 | _,_,.nil=>.nil
 | _,_,.cons y t h=>.cons ⟨t,rfl⟩ (JE h)
theorem ZI (ao:X.calm=true):eN X (.builtin "sorted") (λ xs H Q => ∃ (d:Addr) (kvs:List (Key×V)) (ns:List Str),xs=[V.ref d]/\H d=some (.cM kvs)/\kvs.map (·.1)=ns.map dc/\ns.length<64 /\ ∀ ms:List Str,ms.Perm ns->sortedS ms=true->gY (.lst (ms.map V.str)) H Q):=by
 intro pins s σ H xs us Q I r h;obtain ⟨d,kvs,ns,rfl,hd,aB,mB,q⟩:=h;obtain ⟨u,rfl,aT⟩:=vals1 r;cases aT;obtain ⟨_,lo,vs,rel,dd⟩:=tc I.a0 hd;refine DR.Y5 (I.ok.hd.1 ao) lo dd (by rw [<-rel.keys];exact aB) mB λ aF Pq fU out e ms old ge aO pm uo Mq=>?_
 refine ⟨.ref fU,_,I.laid (a:=fU) (t':=Pq) old ge (show dv X.prog X.w _ _ _ (.lst (ms.map V.str)) from ⟨?_,out.toList,e,JE aO,?_⟩),rfl,(q ms pm uo).at _ (I.a0.fresh ge)⟩
 ·rw [List.length_map,pm.length_eq,sizeLine_eq];omega
 ·exact Mq
end
open PySem PySem.Spec PyProof.Rows b9
end bC
namespace b9
open PySem bC
structure ra (K:PySem.W.Frag) (R:Addr->Prop) (m q:Str) (st:Stmt) (ag:List Str) where
 f:Addr
 fd:FuncData
 fn:hI K m q st f fd
 at_:R f
 bd:Binds K fd ag []
noncomputable abbrev cy (K:PySem.W.Frag) (mg:Str->Option Value) (x:Str) (st:Stmt) (ag:List Str):=ra K (λ f=>mg x=some (.ref f)) x x st ag
noncomputable abbrev jR (K:PySem.W.Frag) (C:Addr) (m q:Str) (st:Stmt) (ag:List Str):=ra K (Meth K C m) m q st ag
noncomputable abbrev yi (K:PySem.W.Frag) (C:Addr) (q:Str) (st:Stmt) (ag:List Str):=ra K (pK K C) "__init__" q st ag
noncomputable abbrev ck (P:Program) (w:World) (mg:Str->Option Value) (base:Heap) (cc:hG) (k:Nat) {K:PySem.W.Frag} {R:Addr->Prop} {m q:Str} {st:Stmt} {ag:List Str} (D:ra K R m q st ag) (sp:bF):Prop:=d3 P w K mg base cc k D.f D.fd ag sp
noncomputable abbrev jn (P:Program) (w:World) (mg:Str->Option Value) (base:Heap) (k:Nat) {K:PySem.W.Frag} {R:Addr->Prop} {m q:Str} {st:Stmt} {ag:List Str} (D:ra K R m q st ag) (sp:bF):Prop:=qv P w K mg base k D.f D.fd ag sp
theorem b4 {N P:List Str} {sc:Scope} (h:bQ N P sc:=by exact ⟨rfl,rfl,rfl,by decide +kernel,rfl,by decide +kernel,by decide +kernel⟩):bQ N P sc:=h
section
variable {K:PySem.W.Frag} {mg:Str->Option Value} {h:Heap} {x m q p p1 cR iO nu:Str} {st:Stmt} {ag:List Str} {C F D f:Addr}
noncomputable def ng (x q:Str) (st:Stmt) (ag:List Str):Prop := ∀ (cm doc pm:Value) (an:Option Addr) (a5 b1:Value) (us:List Value),us.length=ag.length->bindArgs (PySem.W.fnOf x q (jE st) (hA st) (bA st) .none cm doc pm an a5 b1) ⟨us,[]⟩=pure (ag.zip us)
theorem len0 {us:List Value} (h:us.length=0):us=[]:=List.length_eq_zero_iff.mp h
theorem kL {us:List Value} {n:Nat} (h:us.length=n+1) : ∃ u vs,us=u::vs/\vs.length=n:=by
 cases us with
 | nil=>cases h
 | cons u vs=>exact ⟨u,vs,rfl,Nat.succ.inj h⟩
theorem Mu (h : ∀ (cm doc pm:Value) (an:Option Addr) (a5 b1:Value),bindArgs (PySem.W.fnOf x q (jE st) (hA st) (bA st) .none cm doc pm an a5 b1) ⟨[],[]⟩=pure []:=by intros;rfl):ng x q st []:=λ cm doc pm an a5 b1 us au=>by
 rw [len0 au];exact h cm doc pm an a5 b1
theorem ec (h : ∀ (cm doc pm:Value) (an:Option Addr) (a5 b1 u:Value),bindArgs (PySem.W.fnOf x q (jE st) (hA st) (bA st) .none cm doc pm an a5 b1) ⟨[u],[]⟩=pure [(p,u)]:=by intros;rfl):ng x q st [p]:=λ cm doc pm an a5 b1 us au=>by
 obtain ⟨w0,v0,rfl,h0⟩:=kL au;rw [len0 h0];exact h cm doc pm an a5 b1 w0
theorem gc (h : ∀ (cm doc pm:Value) (an:Option Addr) (a5 b1 u gp:Value),bindArgs (PySem.W.fnOf x q (jE st) (hA st) (bA st) .none cm doc pm an a5 b1) ⟨[u,gp],[]⟩=pure [(p,u),(p1,gp)]:=by intros;rfl):ng x q st [p,p1]:=λ cm doc pm an a5 b1 us au=>by
 obtain ⟨w0,v0,rfl,h0⟩:=kL au;obtain ⟨jl,v1,rfl,af⟩:=kL h0;rw [len0 af];exact h cm doc pm an a5 b1 w0 jl
theorem hj (h : ∀ (cm doc pm:Value) (an:Option Addr) (a5 b1 u gp h4:Value),bindArgs (PySem.W.fnOf x q (jE st) (hA st) (bA st) .none cm doc pm an a5 b1) ⟨[u,gp,h4],[]⟩=pure [(p,u),(p1,gp),(cR,h4)]:=by intros;rfl):ng x q st [p,p1,cR]:=λ cm doc pm an a5 b1 us au=>by
 obtain ⟨w0,v0,rfl,h0⟩:=kL au;obtain ⟨jl,v1,rfl,af⟩:=kL h0;obtain ⟨fH,v2,rfl,aq⟩:=kL af;rw [len0 aq];exact h cm doc pm an a5 b1 w0 jl fH
theorem Mv (h : ∀ (cm doc pm:Value) (an:Option Addr) (a5 b1 u gp h4 lg mi:Value),bindArgs (PySem.W.fnOf x q (jE st) (hA st) (bA st) .none cm doc pm an a5 b1) ⟨[u,gp,h4,lg,mi],[]⟩=pure [(p,u),(p1,gp),(cR,h4),(iO,lg),(nu,mi)]:=by intros;rfl):ng x q st [p,p1,cR,iO,nu]:=λ cm doc pm an a5 b1 us au=>by
 obtain ⟨w0,v0,rfl,h0⟩:=kL au;obtain ⟨jl,v1,rfl,af⟩:=kL h0;obtain ⟨fH,v2,rfl,aq⟩:=kL af;obtain ⟨km,uq,rfl,aF⟩:=kL aq;obtain ⟨L0,v4,rfl,aU⟩:=kL aF;rw [len0 aU];exact h cm doc pm an a5 b1 w0 jl fH km L0
noncomputable def cg (K:PySem.W.Frag) (x:Str) (st:Stmt):Prop := ∃ f fd,PySem.W.nsIn K mainGlobals x=some (some (.ref f))/\hI K x x st f fd
theorem cg.mk {eu:Value} {de an:Option Addr} {cq:Array (Option Value)} {cm doc pm cd b1:Value} (a:PySem.W.nsIn K mainGlobals x=some (some (.ref f))) (l:K.lookup f=some ⟨eu,de,.func (PySem.W.fnOf x x (jE st) (hA st) (bA st) .none cm doc pm an cd b1),cq⟩)
  (c:PySem.W.codeIn K cd x=true) (k:PySem.W.keepIn K (.ref f)=true):cg K x st:=⟨f,_,a,Ae l c k⟩
noncomputable def cg.dd (g:cg K x st) (X:K.In h) (G:h.Ns mainGlobals mg) (b:ng x x st ag):cy K mg x st ag :=
 Classical.choice (let ⟨f,fd,a,F⟩:=g;⟨⟨f,fd,F,PySem.W.mg_of X G a,F.binds b⟩⟩)
noncomputable def f7 (K:PySem.W.Frag) (C:Addr) (m q:Str) (st:Stmt):Prop := ∃ f fd,PySem.W.findIn K (.ref C) m=some (some (.ref f))/\hI K m q st f fd/\PySem.W.isFn K (.ref f)=true
theorem f7.mk {eu:Value} {de an:Option Addr} {cq:Array (Option Value)} {cm doc pm cd b1:Value} (a:PySem.W.findIn K (.ref C) m=some (some (.ref f))) (l:K.lookup f=some ⟨eu,de,.func (PySem.W.fnOf m q (jE st) (hA st) (bA st) .none cm doc pm an cd b1),cq⟩)
  (c:PySem.W.codeIn K cd q=true) (k:PySem.W.keepIn K (.ref f)=true) (i:PySem.W.isFn K (.ref f)=true):f7 K C m q st:=⟨f,_,a,Ae l c k,i⟩
noncomputable def f7.kg (g:f7 K C m q st) (b:ng m q st ag):jR K C m q st ag :=
 Classical.choice (let ⟨f,fd,a,F,i⟩:=g;⟨⟨f,fd,F,⟨a,i,F.bZ⟩,F.binds b⟩⟩)
noncomputable def f7.Dv (g:f7 K C "__init__" q st) (c:PySem.W.makesIn K C=true) (k:PySem.W.keepIn K (.ref C)=true) (b:ng "__init__" q st ag):yi K C q st ag :=
 Classical.choice (let ⟨f,fd,a,F,i⟩:=g;⟨⟨f,fd,F,⟨c,a,i,k⟩,F.binds b⟩⟩)
structure ua (K:PySem.W.Frag) (C F:Addr):Prop where
 e:PySem.W.excIn K C hk "ValueError.__new__" = true
 u:PySem.W.mroIn K C (.ref F)=some true
 ne:C≠F
 fa:PySem.W.findIn K (.ref C) "__getattribute__" = some (some (.builtin "BaseException.__getattribute__"))
 x6:PySem.W.findIn K (.ref C) "__getattr__" = some none
 x7:PySem.W.findIn K (.ref C) "__class__" = some (some (.builtin "object.__class__"))
 ko:PySem.W.specialIn K (.builtin "object.__class__") "__get__" = some (some (.builtin "getset_descriptor.__get__"))
 lh:PySem.W.takesIn K (.builtin "object.__class__")=some true
 ur:PySem.W.mroIn K C (.type "object")=some true
 L2:PySem.W.mroIn K C (.type "BaseException")=some true
 v:PySem.W.mroIn K C (.type "ValueError")=some true
theorem ua.un (a:ua K C F):Under K C F:=⟨a.e,a.u,a.ne⟩
theorem ua.p0 (a:ua K C F):PySem.W.sW K C:=⟨PySem.W.BW a.ur,a.fa,a.x6,a.x7,a.ko,a.lh,a.ur,a.L2⟩
structure kc (K:PySem.W.Frag) (C D:Addr):Prop where
 m:PySem.W.mroIn K C (.ref D)=some false
 n:C≠D
 ty:PySem.W.typeIn K (.ref D)=some (.type "type")
 mo:PySem.W.mroIn K D (.type "object")=some true
theorem kc.k (a:kc K C D):PySem.W.kitOne K (.ref C) (.ref D)=some false:=PySem.W.WT a.ty a.mo a.m a.n
noncomputable def KF (K:PySem.W.Frag) (C D:Addr) (b:Bool):Prop:=PySem.W.kitOne K (.ref C) (.ref D)=some b
end
end b9
namespace bC
open PySem PySem.Spec PyProof.Rows
section
variable {X:aQ} {cc:hG} {k fS:Nat} {R:Addr->Prop} {m q:Str} {st:Stmt} {ag:List Str} {sp:bF} {E:dF} {x:Str} {p pos:Pos} {e:Expr} {es:List Expr} {t:cH}
theorem bw {D:b9.cy X.K X.mg x st ag} (F:d3 X.prog X.w X.K X.mg X.base cc k D.f D.fd ag sp) (ar:c_ fS X.A) (ah:Passes cc X E) (av:ek X (e::es) t) (aM:c1 X x:=by rfl) (aB:k<=fS:=by decide) (dj:(x == ("__debug__" : Str))=false:=by decide) (he:starEach (e::es) X.env=(false,eval e X.env)::starEach es X.env:=by rfl) (cW:(backTo pos (starEach es X.env)).any (·.1)=false:=by rfl):bg X (.Call (.Name x p) (e::es) [] pos) (pk sp [] E t) :=
 T4 F (ar.mono aB) aM D.at_ D.fn.bZ D.bd .nil ah av dj he cW
theorem GF {D:b9.cy X.K X.mg x st ag} (F:d3 X.prog X.w X.K X.mg X.base cc k D.f D.fd ag sp) (ar:c_ fS X.A) (ah:Passes cc X E) (aM:c1 X x:=by rfl) (aB:k<=fS:=by decide) (dj:(x == ("__debug__" : Str))=false:=by decide):bg X (.Call (.Name x p) [] [] pos) (pk sp [] E kM) :=
 VO F (ar.mono aB) aM D.at_ D.fn.bZ D.bd .nil ah dj
theorem bq {P:List Str} {sc:Scope} {x:Str} {e:Expr} {bc:TE} {pos pos':Pos} (i:Nat) (S:bQ X.N P sc) (he:bg X e bc) (ax:X.N[i]?=some x:=by rfl) (ah:Loc X.env.scope x:=by exact Or.inl rfl) (aA:swapsWith e (some (.Name x pos')) pos.line X.env=pure false:=by rfl) (hf:X.fn x=true\/X.env.scope.names.lookup x=some .local:=by first | exact .inl rfl | exact .inr rfl | assumption):fR X (.Assign [.Name x pos'] e pos) (pe bc (fO i)) :=
 tm S.eS ax ah he aA hf
theorem eD {P:List Str} {sc:Scope} {x:Str} {pos:Pos} (i:Nat) (S:bQ X.N P sc) (ax:X.N[i]?=some x:=by rfl) (ah:Loc X.env.scope x:=by exact Or.inl rfl) (hf:X.fn x=true\/X.env.scope.names.lookup x=some .local:=by first | exact .inl rfl | exact .inr rfl | assumption):kd X (.Name x pos) (fO i) :=
 l1 S.eS ax ah hf
theorem cL {r:List V->aj->bz->Prop} {id:String} (ao:eN X (.builtin id) r) (hm:X.mg x=none) (a7:bootBuiltins x=some (.builtin id)) (av:ek X (e::es) t) (aM:c1 X x:=by rfl) (aC:x ≠ "__name__" := by decide) (dj:(x == ("__debug__" : Str))=false:=by decide) (he:starEach (e::es) X.env=(false,eval e X.env)::starEach es X.env:=by rfl) (cW:(backTo pos (starEach es X.env)).any (·.1)=false:=by rfl):bg X (.Call (.Name x p) (e::es) [] pos) (qi r t) :=
 VP ao aM hm a7 av aC dj he cW
theorem fX {r:List V->aj->bz->Prop} {T:String} (ao:eN X (.type T) r) (hm:X.mg x=none) (a7:bootBuiltins x=some (.type T)) (av:ek X (e::es) t) (aM:c1 X x:=by rfl) (aC:x ≠ "__name__" := by decide) (dj:(x == ("__debug__" : Str))=false:=by decide) (he:starEach (e::es) X.env=(false,eval e X.env)::starEach es X.env:=by rfl) (cW:(backTo pos (starEach es X.env)).any (·.1)=false:=by rfl):bg X (.Call (.Name x p) (e::es) [] pos) (qi r t) :=
 Xh ao aM hm a7 av aC dj he cW
theorem eX {x:Str} {pos:Pos} (c8:decide X.N.Nodup=true:=by kernel_rfl) (ax:X.N[0]?=some x:=by rfl) (ah:Loc X.env.scope x:=by exact Or.inl rfl) (hf:X.fn x=true\/X.env.scope.names.lookup x=some .local:=by exact Or.inr rfl):kd X (.Name x pos) (fO 0) :=
 l1 (of_decide_eq_true c8) ax ah hf
theorem eU {sc:Scope} {cl:List (Str×Addr)} {N nj P:List Str} {js:List (Option Nat)} {ig:Scope} (_:bQ nj P ig) (zL : ∀ p∈cl,X.env.cells.lookup p.1=some p.2) (aO:X.env.scope=ig:=by exact rfl) (qn:closureFor sc X.env=pure cl:=by exact rfl) (aB:cl.map (·.1)=zN sc:=by exact rfl) (rW:Ay sc ig N nj js=true:=by decide +kernel) (c8:X.N=nj:=by exact rfl):qG X sc cl N js :=
 WB aO qn aB zL rW c8
end
theorem eB {n:Nat} (h:Nat.ble n 16777216=true:=by rfl):n<=sizeLine:=by rw [sizeLine_eq];exact Nat.le_of_ble_eq_true h
open PySem PySem.Spec PyProof.Rows PyProof.Rows.KTD b9
noncomputable def vN (K:PySem.W.Frag) (ss:List Str):Value->Bool
 | .ref a=>match K.lookup a with
  | some o=>o.cls == .type "tuple" && (match o.data with | .seq vs _=>strsLook vs.toList ss | _=>false)
  | none=>false
 | _=>false
noncomputable def E3 (K:PySem.W.Frag) (a:Addr) (D:List (Str×List Str)):Prop:=tabLook (vN K) (λ b=>K.lookup b) a D=true
noncomputable def PG (K:PySem.W.Frag) (ss:List Str) (v:Value):Prop := ∃ a,v=.ref a /\ ∀ H,aW K H a (ss.map V.str)
theorem JF : ∀ {vs:List Value} {ss:List Str},strsLook vs ss=true->Vals (ss.map V.str) vs
 | [],[],_=>.nil
 | [],_::_,h=>by simp [strsLook] at h
 | v::vs,[],h=>by cases v<;>simp [strsLook] at h
 | v::vs,s::ss,h=>by
  cases v with
  | str x t =>
   have h':(x == s&&strsLook vs ss)=true:=h;rw [Bool.and_eq_true] at h';obtain rfl:=beq_iff_eq.mp h'.1;exact .cons ⟨t,rfl⟩ (JF h'.2)
  | _=>simp [strsLook] at h
theorem Ug {K:PySem.W.Frag} (ss:List Str) (v:Value) (aN:ss.length<=sizeLine) (h:vN K ss v=true):PG K ss v:=by
 cases v with
 | ref a =>
  refine ⟨a,rfl,λ H=>?_⟩;have h':(match K.lookup a with | some o=>o.cls == .type "tuple" && (match o.data with | .seq vs _=>strsLook vs.toList ss | _=>false) | none=>false)=true:=h;cases au:K.lookup a with
  | none=>rw [au] at h';cases h'
  | some o =>
   rw [au] at h';have aq:=Bool.and_eq_true_iff.mp h';cases hd:o.data with
   | seq vs n =>
    have aF:=aq.2;rw [hd] at aF;have a7:=JF aF;refine .inr ⟨o,vs,n,au,beq_iff_eq.mp aq.1,hd,?_,a7⟩;have:=a7.length;rw [List.length_map] at this;rw [<-Array.length_toList];omega
   | _=>have aF:=aq.2;rw [hd] at aF;cases aF
 | _=>cases h
section
variable {prog:Program} {w:World} {A:Around} {E:Value->Shared->Prop} {s:Shared} {a:Addr} {k:Str} {tk:Tok} {R:List Str->Value->Prop} {D:List (Str×List Str)}
theorem WJ {Q:Option Value->Shared->Prop} (T:TabOf R s.heap a D)
  (a6 : ∀ d v,datumAt k D=some d->R d v->Q (some v) { s with toks:=s.toks+1 }) (b0:datumAt k D=none->Q none { s with toks:=s.toks+1 }):wpAny (model prog w) A (dictGet a (.str k tk)) Q E s:=by
 obtain ⟨-,o,es,ep,aO,-,hd,ar⟩:=T;have fin:Q ((es.toList.find? λ e=>e.key.isStr k).map (·.val)) { s with toks:=s.toks+1 }:=by
  rcases lr:datumAt k D with _ | d
  ·rw [ar.find_none lr];exact b0 lr
  ·obtain ⟨v,a7,d7⟩:=ar.find_some lr;rw [a7];exact a6 d v lr d7
 have ex:(es.all λ e=>isExactStrKey e.key)=true:=by
  have:=ar.exact;cases es with
  | mk l=>simpa using this
 have jN:(es.toList.find? λ e=>e.key.isStr k).map (·.val)=findBy (λ k v=>v.isStr k) es k:=by
  cases es with
  | mk l=>simp [findBy]
 rw [jN,findBy_of_findIdx?] at fin;unfold dictGet
 first | refine wpAny_holding (wpAny_bind ?_) | refine wpAny_bind ?_
 refine wpAny_pyHash_str (wpAny_bind (kt_dictFind_strs (s:={ s with toks:=s.toks+1 }) aO hd ex ?_));cases ax:es.findIdx? (λ e=>e.key.isStr k) with
 | none =>
  rw [ax] at fin;exact wpAny_pure fin
 | some i =>
  rw [ax] at fin;exact wpAny_bind (wpAny_dictEntries (s:={ s with toks:=s.toks+1 }) aO hd (wpAny_pure fin))
end
theorem Yo {prog:Program} {w:World} {a:Addr} {k:Str} {tk:Tok} {R:List Str->Value->Prop} {D:List (Str×List Str)}:MeetsIn prog w (Builtin.«dict.get» ⟨[.ref a,.str k tk],[]⟩) (λ _ Z s=>TabOf R s.heap a D/\(∀ d v,datumAt k D=some d->R d v->Z (.ok (.ret v)) { s with toks:=s.toks+1 }) /\
  (datumAt k D=none->Z (.ok (.ret .none)) { s with toks:=s.toks+1 })):=.of_wp λ A Z s ⟨T,a6,b0⟩=>by
 show wpAny _ _ (dictGet a (.str k tk)>>=_) _ _ s;refine wpAny_bind (WJ T (λ d v hd d7=>wpAny_pure ⟨v,rfl,a6 d v hd d7⟩) λ aC=>?_);show wpAny _ _ (Builtin.Dict.missed a (.str k tk)>>=_) _ _ _;refine wpAny_bind (wpAny_missed_other T.1 ?_);exact wpAny_pure ⟨.none,rfl,b0 aC⟩
section
variable {X:aQ} {g:Str} {a:Addr} {D:List (Str×List Str)} {e:Expr} {es:List Expr} {t:cH} {p apos cK:Pos}
theorem JN {x:Str} {d:List Str} : ∀ {D:List (Str×List Str)},datumAt x D=some d -> ∃ y,(y,d)∈D
 | [],h=>by cases h
 | (y,d')::D,h=>by
  by_cases ah:x=y
  ·rw [show datumAt x ((y,d')::D)=some d' from if_pos (decide_eq_true ah)] at h;cases h;exact ⟨y,List.mem_cons_self⟩
  ·rw [show datumAt x ((y,d')::D)=datumAt x D from if_neg (by simp [ah])] at h;obtain ⟨z,aN⟩:=JN h;exact ⟨z,List.mem_cons_of_mem _ aN⟩
noncomputable def Ux (K:PySem.W.Frag) (D:List (Str×List Str)) (t:cH):TE:=λ σ H Q=>t σ H λ vs H1 => ∃ x:Str,vs=[.str x] /\
 ((∃ ss,datumAt x D=some ss /\ ∀ t,(∀ H',aW K H' t (ss.map V.str))->Q (.ref t) H1)\/(datumAt x D=none/\Q .bp H1))
theorem Xi (hm:X.mg g=some (.ref a)) (bo:E3 X.K a D) (av:ek X (e::es) t) (aN : ∀ d∈D,d.2.length<=1000:=by decide) (aM:c1 X g:=by rfl) (dj:(g == ("__debug__" : Str))=false:=by decide)
  (hv:attributeBase (.Name g p) "get" X.env (eval (.Name g p) X.env)=eval (.Name g p) X.env:=by rfl)
  (kK:((backTo cK (starEach (e::es) X.env)).all (λ x => !x.1)&&(backToKw cK (keywordEach [] X.env)).all (λ x=>x.1.isSome)
   && decide ((e::es).length+([]:List Keyword).length+(if ([]:List Keyword).isEmpty then 0 else 1)<30))=true:=by rfl)
  (kP:(apos.endLine == cK.line)=true:=by rfl) (aA:starEach (e::es) X.env=(false,eval e X.env)::starEach es X.env:=by rfl) (m4:(backTo cK (starEach es X.env)).any (·.1)=false:=by rfl) :
  bg X (.Call (.Attribute (.Name g p) "get" apos) (e::es) [] cK) (Ux X.K D t):=⟨by
 intro pins s σ H Q I h;have T : ∀ {s:Shared} {σ:St} {H:aj},Inv X pins σ H s->TabOf (λ ss v=>vN X.K ss v=true) s.heap a D:=λ {s σ H} I=>tab_of_look (λ _ _ z=>z) (λ b o q=>I.dh b o q) bo
 have ty : ∀ {s:Shared} {σ:St} {H:aj},Inv X pins σ H s->s.TypeIs (.ref a) "dict" := λ {s σ H} I=>let ⟨_,o,_,_,aO,ao,_⟩:=T I;⟨o,aO,ao.1⟩
 refine wpAny_Call_method_late hv kK kP rfl (lX I aM hm ?_ dj);refine ⟨"dict", "dict.get", PySem.F.plainAttrs_dict,PySem.F.slot_dict_get,PySem.F.type_dict_get,ty I,λ b c7=>?_,?_⟩
 ·cases c7;exact let ⟨_,o,_,_,aO,ao,_⟩:=T I;⟨o,aO,ao.2.1⟩
 have nq:=av.o cK pins s σ H _ I h;rw [aA] at nq ⊢;refine Calls.callWith_builtin (by show (false||(backTo cK (starEach es X.env)).any (·.1))=false;rw [m4]<;>rfl) (Calls.evalArgs_plain ?_);refine a_ nq λ us s2 ⟨vs,aw,bD,cb,x,ev,b0⟩=>?_
 subst ev;obtain ⟨u,rfl,dA⟩:=cb.one;obtain ⟨tk,rfl⟩:=(show ∃ t,u=Value.str x t from dA)
 refine call_meetsIn PySem.F.slot_dict_get (ty bD) PySem.F.entry_dict_get (PySem.F.args_dict_get_2 _ _) Yo ⟨T bD,λ d v hd aB=>?_,λ aC=>?_⟩
 ·rcases b0 with ⟨ss,aE,q⟩ | ⟨aE,_⟩
  ·rw [hd] at aE;cases aE;obtain ⟨y,aL⟩:=JN hd;obtain ⟨b,rfl,aa⟩:=Ug d v (Nat.le_trans (aN _ aL) (by decide)) aB;exact ⟨.ref b,aw,bD.tok _,rfl,q b aa⟩
  ·rw [hd] at aE;cases aE
 ·rcases b0 with ⟨ss,aE,_⟩ | ⟨_,q⟩
  ·rw [aC] at aE;cases aE
  ·exact ⟨.bp,aw,bD.tok _,rfl,q⟩⟩
end
theorem Hu {X:aQ} {body:List Stmt} {h0:ExceptHandler} {aA:List ExceptHandler} {bo:cX} {pos:Pos} (aa : ∀ pins W,hJ (lO X pins W) body bo):fR X (.Try body (h0::aA) [] [] pos) bo:=⟨by
 intro pins s σ H D I h;refine wpAny_Try_except (wpAny_mono ((aa pins _).o [] s σ H D I.vY h) (λ f s1 dX=>?_) λ _ _ z=>z);cases f with
 | next=>obtain ⟨σ3,aH,cN,q⟩:=dX;exact wpAny_execs_nil ⟨σ3,aH,cN.iz,q⟩
 | brk=>obtain ⟨σ3,aH,cN,q⟩:=dX;exact ⟨σ3,aH,cN.iz,q⟩
 | cont=>obtain ⟨σ3,aH,cN,q⟩:=dX;exact ⟨σ3,aH,cN.iz,q⟩
 | ret u=>obtain ⟨v,σ3,aH,cN,bE,q⟩:=dX;exact ⟨v,σ3,aH,cN.iz,bE,q⟩⟩
noncomputable def Rl (e3:Str) (aS:TE) (y:Str) (bo:TE):TE:=λ σ H Q=>aS σ H λ x H1 => ∃ mf,te x mf/\bo σ H1 λ z aw => ∃ gb,te z gb/\Q (.str (e3++mf++y++gb)) aw
theorem Hq {X:aQ} {a b:Expr} {aS bo:TE} {e3 y:Str} {LG j:Nat} {d8 p1 cR iO pos:Pos} (av:bg X a aS) (aa:bg X b bo) (lD:e3.length<=1000:=by decide) (aL:y.length<=1000:=by decide) :
  bg X (.JoinedStr [.Constant (.str e3) LG d8,.FormattedValue a (-1) none p1,.Constant (.str y) j cR,.FormattedValue b (-1) none iO] pos) (Rl e3 aS y bo):=⟨by
 intro pins s σ H Q I h;have big : ∀ {n:Nat},n<=5000000->n<=sizeLine:=λ {n} z=>by rw [sizeLine_eq];omega
 refine wpAny_JoinedStr (Calls.Constant_str ⟨e3,_,rfl,big ?_,?_⟩)
 ·rw [cf.kS];omega
 have og:=I.tok (s.toks+1);refine wpAny_FormattedValue_plain (a_ (av.o pins _ σ H _ og h) λ v s1 ⟨x,H1,aJ,bG,mf,ah,a6⟩=>?_);have abA:=ah.2;refine vZ aJ bG ah λ t1 s2 bD=>⟨mf,t1,rfl,big ?_,?_⟩
 ·rw [cf.kS,cf.len_app];omega
 refine Calls.Constant_str ⟨y,_,rfl,big ?_,?_⟩
 ·rw [cf.kS,cf.len_app,cf.len_app];omega
 have bR:=bD.tok (s2.toks+1);refine wpAny_FormattedValue_plain (a_ (aa.o pins _ σ H1 _ bR a6) λ u s4 ⟨z,aw,cN,hh,gb,aN,b0⟩=>?_);have ez:=aN.2;refine vZ cN hh aN λ pU s5 g9=>⟨gb,pU,rfl,big ?_,big ?_,.str _,aw,g9.tok _,⟨_,rfl⟩,?_⟩
 ·rw [cf.kS,cf.len_app,cf.len_app,cf.len_app];omega
 ·rw [cf.kS,cf.len_app,cf.len_app,cf.len_app];omega
 ·rw [cf.kS];exact b0⟩
end bC
namespace cf
theorem Gx {p c:List Int} {m B:Int} (hm:m=1\/m = -1) (ao : ∀ x∈c,-40<x/\x<40) (fj : ∀ x∈p,x<=B) : ∀ x∈bP p c m,x<=B+40:=λ x ah=>by
 obtain ⟨i,ax⟩:=List.getElem?_of_mem ah;unfold bP at ax;rw [List.getElem?_zipWith] at ax;cases av:p[i]? with
 | none=>rw [av] at ax;cases ax
 | some a =>
  cases aa:c[i]? with
  | none=>rw [av,aa] at ax;cases ax
  | some b =>
   rw [av,aa] at ax;have e:a+m * b=x:=by simpa using ax
   have af:=fj a (List.mem_of_getElem? av);have aq:=ao b (List.mem_of_getElem? aa);rcases hm with rfl | rfl<;>omega
theorem v3 {rows:List (List Int)} (aa:t9 rows) {p:List Int} {B:Int} (fj : ∀ x∈p,x<=B) : ∀ {k:Nat} {q:List Int},goN rows k p=some q -> ∀ x∈q,x<=B+40 * (k:Int)
 | 0,q,h=>by
  cases h;intro x ah;have:=fj x ah;simpa using this
 | k+1,q,h=>by
  obtain ⟨r,af,aq⟩:=Option.bind_eq_some_iff.mp h;obtain ⟨i,c,_,ao,_,rfl⟩:=Bi aq;intro x ah;have:=Gx (.inl rfl) (aa c (List.mem_of_getElem? ao)) (v3 aa fj af) x ah;omega
theorem IC {rows:List (List Int)} (aa:t9 rows) (cU:oK rows) {p:List Int} (ay:p.length=10) {B:Int} (fj : ∀ x∈p,x<=B) {q:List Int} (aR:q∈j6 rows p):q.length=10 /\ ∀ x∈q,0<=x/\x<=B+40:=by
 obtain ⟨i,ax,e⟩:=List.mem_filterMap.mp aR;unfold jC at e;split at e
 ·rename_i h;cases e;have kv:i<rows.length:=List.mem_range.mp ax;have uf:rows.getD i []=rows[i]:=by rw [List.getD_eq_getElem?_getD,List.getElem?_eq_getElem kv];rfl
  have ao:rows[i]∈rows:=List.getElem_mem kv;rw [uf] at h ⊢;refine ⟨tF ay (cU _ ao),λ x ah=>⟨i8.mp h.1 x ah,Gx (.inr rfl) (aa _ ao) fj x ah⟩⟩
 ·cases e
end cf
namespace bC
open PySem PySem.Spec PyProof.Rows b9
theorem JD {h:Heap} : ∀ {ns:List Int} {us:List Value},Vals (ns.map V.int) us->ReadsAll h us (ns.map PyData.int) []
 | [],_,.nil=>.nil
 | n::ns,_,.cons r rs=>by
  obtain ⟨t,rfl⟩:=(show ∃ t,_=Value.int n t from r)
  exact ReadsAll.cons (as:=[]) (bs:=[]) (.int n t) (JD rs)
theorem Jx : ∀ ns:List Int,PyData.shownAll (ns.map PyData.int)=ns.map cf.bu
 | []=>by simp only [List.map_nil,PyData.shownAll]
 | n::ns=>by
  rw [List.map_cons,List.map_cons,<-Jx ns];simp only [PyData.shownAll,PyData.shown];rfl
theorem IB : ∀ ns:List Int,(∀ n∈ns,n.natAbs.log2<1920)->PyData.showableAll (ns.map PyData.int)=true
 | [],_=>by simp only [List.map_nil,PyData.showableAll]
 | n::ns,h=>by
  rw [List.map_cons];simp only [PyData.showableAll,PyData.showable,Bool.and_eq_true,decide_eq_true_eq];exact ⟨h n List.mem_cons_self,IB ns λ m hm=>h m (List.mem_cons_of_mem _ hm)⟩
theorem JX : ∀ ns:List Int,PyData.hasDictAll (ns.map PyData.int)=false
 | []=>by simp only [List.map_nil,PyData.hasDictAll]
 | n::ns=>by
  rw [List.map_cons];simp only [PyData.hasDictAll,PyData.hasDict,JX ns,Bool.or_self]
theorem Jn : ∀ ns:List Int,PyData.depthAll (ns.map PyData.int)<=1
 | []=>by simp only [List.map_nil,PyData.depthAll];omega
 | n::ns=>by
  rw [List.map_cons];have:=Jn ns;simp only [PyData.depthAll,PyData.depth];omega
theorem GH : ∀ ns:List Int,(∀ n∈ns,(cf.bu n).length<=100)->((ns.map cf.bu).map (·.length)).sum<=ns.length * 100
 | [],_=>Nat.le_refl _
 | n::ns,aC=>by
  have af:=aC n List.mem_cons_self;have aq:=GH ns λ m hm=>aC m (List.mem_cons_of_mem _ hm)
  simp only [List.map_cons,List.sum_cons,List.length_cons];omega
theorem Wy {X:aQ} {k:Nat} (ar:c_ k X.A):eN X (.type "str") (λ xs H Q => ∃ v,xs=[v]/\((∃ x,v=.str x/\Q (.str x) H)\/(∃ i:Int,v=.int i/\i.natAbs.log2<1920/\Q (.str (cf.bu i)) H) \/
  ∃ (a:Addr) (ns:List Int),v=.ref a/\H a=some (.tup (ns.map V.int))/\ns.length<=10/\(∀ n∈ns,n.natAbs.log2<1920/\(cf.bu n).length<=100) /\ ∀ y,Q (.str y) H)):=by
 intro pins s σ H xs us Q I r h;obtain ⟨v,rfl,h⟩:=h;obtain ⟨u,rfl,bE⟩:=vals1 r;rcases h with ⟨x,rfl,q⟩ | ⟨i,rfl,ax,q⟩ | ⟨a,ns,rfl,av,au,aC,q⟩
 ·obtain ⟨t,rfl⟩:=(show ∃ t,u=Value.str x t from bE)
  exact PySem.P.str_of_str ⟨.str x,H,I,⟨_,rfl⟩,q⟩
 ·obtain ⟨t,rfl⟩:=(show ∃ t,u=Value.int i t from bE)
  exact PySem.P.str_of_int ax ⟨.str _,H,I.tok _,⟨_,rfl⟩,q⟩
 ·cases bE;obtain ⟨z,its,rel,o,af,aq,⟨n,aF⟩,aU⟩:=(show dv X.prog X.w H s.heap a (.tup (ns.map V.int)) from I.a0 a _ av)
  refine str_of_reads (h₀:=s.heap) (d:=.tuple (ns.map PyData.int)) (as:=[]) (.tuple af aq aF (JD rel)) ?_ ?_ ar.ui ?_ (λ b o e=>e) (λ h' u tk aB=>⟨.str _,H,I.kept (t':=tk) aB,⟨_,rfl⟩,q _⟩) ?_
  ·simp only [PyData.showable];exact IB ns λ m hm=>(aC m hm).1
  ·intro e;simp only [PyData.hasDict,JX ns] at e;cases e
  ·have:=ar.un;have oq:PyData.depth (.tuple (ns.map PyData.int))<=64:=by
    have:=Jn ns;simp only [PyData.depth];omega
   omega
  ·simp only [PyData.shown];rw [Jx];unfold tupleText;have bj:=StrLaws.join_length_le (", " : Str) (ns.map cf.bu);have aA:=GH ns λ m hm=>(aC m hm).2
   have ao:((", " : String):Str).length=2:=by decide +kernel
   rw [List.length_map,ao] at bj;have aO:((("(" : String):Str)).length=1:=by decide +kernel
   rw [cf.len_app,cf.len_app,aO,sizeLine_eq];have he : ∀ b:Bool,(((if b then ",)" else ")" : String)):Str).length<=2:=by decide +kernel
   have:=he ((ns.map cf.bu).length == 1);omega
end bC
namespace b9
open PySem bC cf om
noncomputable def top (i:Nat):Stmt:=PySem.Challenge.pw_wholefract_k97_whole_a_desk_and_all.main.body.getD i (.Pass ⟨0,0,0,0⟩)
noncomputable abbrev B8:Stmt:=top 15
noncomputable abbrev Co:Stmt:=top 16
noncomputable abbrev Cu:Stmt:=top 17
noncomputable abbrev Cn:Stmt:=top 18
noncomputable abbrev C_:Stmt:=top 19
noncomputable abbrev CF:Stmt:=top 20
noncomputable abbrev CL:Stmt:=top 21
noncomputable abbrev BL:Stmt:=top 22
noncomputable abbrev CD:Stmt:=top 25
noncomputable abbrev De:Stmt:=top 26
noncomputable abbrev Am:Stmt:=top 27
noncomputable abbrev B7:Stmt:=top 28
noncomputable abbrev AN:Stmt:=top 29
noncomputable abbrev AL:Stmt:=top 30
noncomputable abbrev AO:Stmt:=top 31
noncomputable abbrev C4:Stmt:=top 32
noncomputable abbrev C3:Stmt:=top 33
noncomputable abbrev CZ:Stmt:=top 34
noncomputable abbrev An:Stmt:=top 35
noncomputable abbrev Bd:Stmt:=top 37
noncomputable abbrev B6:Stmt:=top 38
noncomputable abbrev BP:Stmt:=top 43
noncomputable abbrev Df:Stmt:=top 44
noncomputable abbrev C8:Stmt:=top 45
noncomputable abbrev C9:Stmt:=top 46
noncomputable abbrev C2:Stmt:=top 47
noncomputable abbrev Ao:Stmt:=top 48
noncomputable abbrev CN:Stmt:=top 49
noncomputable abbrev CX:Stmt:=top 50
noncomputable abbrev Cs:Stmt:=top 51
noncomputable abbrev CM:Stmt:=top 52
noncomputable abbrev BK:Stmt:=top 58
noncomputable abbrev BJ:Stmt:=top 59
noncomputable abbrev Al:Stmt:=top 62
noncomputable abbrev Ca:Stmt:=top 68
noncomputable abbrev CY:Stmt:=top 69
noncomputable abbrev CH:Stmt:=top 70
noncomputable abbrev Ct:Stmt:=top 71
noncomputable abbrev Dc:Stmt:=top 72
noncomputable abbrev CE:Stmt:=top 73
noncomputable abbrev Bc:Stmt:=top 74
noncomputable abbrev BI:Stmt:=top 75
noncomputable abbrev Bg:Stmt:=top 76
noncomputable abbrev CW:Stmt:=top 77
noncomputable abbrev Cp:Stmt:=top 79
noncomputable abbrev AM:Stmt:=top 80
noncomputable abbrev Bf:Stmt:=top 81
noncomputable abbrev BM:Stmt:=top 82
noncomputable abbrev B9:Stmt:=top 83
noncomputable abbrev B_:Stmt:=top 84
noncomputable abbrev Cq:Stmt:=top 85
noncomputable abbrev CG:Stmt:=top 86
noncomputable abbrev Cr:Stmt:=top 87
noncomputable abbrev C7:Stmt:=top 88
noncomputable abbrev Be:Stmt:=top 89
noncomputable abbrev BN:Stmt:=top 90
noncomputable abbrev BO:Stmt:=top 91
noncomputable abbrev Aa:Stmt:=top 92
noncomputable def i6 (s:Stmt) (j:Nat):Stmt:=match s with | .ClassDef _ _ _ b _ _ _ _ _ _ _=>b.getD j (.Pass ⟨0,0,0,0⟩) | s=>s
noncomputable abbrev q7:Stmt:=i6 (top 2) 0
theorem aae:bQ ["self", "steps"] ["self", "steps"] (bA q7):=b4
noncomputable abbrev CC:Stmt:=i6 (top 57) 0
noncomputable abbrev Cj:Stmt:=i6 (top 57) 1
noncomputable abbrev Ck:Stmt:=i6 (top 57) 2
noncomputable abbrev Kg:Stmt:=i6 (top 57) 3
noncomputable abbrev Kh:Stmt:=i6 (top 57) 4
noncomputable abbrev CK:Stmt:=i6 (top 57) 5
noncomputable abbrev CV:Stmt:=i6 (top 57) 6
noncomputable abbrev CA:Stmt:=i6 (top 57) 7
noncomputable abbrev C1:Stmt:=i6 (top 57) 8
noncomputable abbrev Cz:Stmt:=i6 (top 57) 9
noncomputable abbrev CB:Stmt:=i6 (top 57) 10
noncomputable abbrev Cm:Stmt:=i6 (top 67) 0
noncomputable abbrev B5:Stmt:=i6 (top 67) 1
theorem Y3:bQ ["thing"] ["thing"] (bA B8):=b4
theorem Ki:bQ ["thing"] ["thing"] (bA Co):=b4
theorem Kl:bQ ["number"] ["number"] (bA Cu):=b4
theorem tP:bQ ["prime", "number", "times", "rest"] ["prime", "number"] (bA Cn):=b4
theorem w_:bQ ["number", "rest", "prime"] ["number"] (bA C_):=b4
theorem KG:bQ ["thing"] ["thing"] (bA CF):=b4
theorem w4:bQ ["thing", "top", "bottom"] ["thing"] (bA CL):=b4
theorem YC:bQ ["thing"] ["thing"] (bA BL):=b4
theorem KD:bQ ["program"] ["program"] (bA CD):=b4
theorem xa:bQ ["fraction", "tops", "bottoms"] ["fraction"] (bA De):=b4
theorem AP:bQ ["changes", "powers", "change", "power"] ["changes", "powers"] (bA Am):=b4
theorem Cw:bQ ["rows", "powers", "number", "changes"] ["rows", "powers"] (bA B7):=b4
theorem Ie:bQ ["powers", "changes", "many"] ["powers", "changes", "many"] (bA AN):=b4
theorem qU:bQ ["program", "powers", "many", "rows", "reached", "done", "number"] ["program", "powers", "many"] (bA AL):=b4
theorem qW:bQ ["program", "powers", "many", "rows", "reached", "used", "number"] ["program", "powers", "many"] (bA AO):=b4
theorem tW:bQ ["rows", "powers", "number", "used", "ends"] ["rows", "powers", "number"] (bA C4):=b4
theorem K4:bQ ["powers", "used"] ["powers", "used"] (bA C3):=b4
theorem pF:bQ ["powers", "used", "ahead", "many", "power", "change", "change_ahead", "lacking"] ["powers", "used", "ahead"] (bA CZ):=b4
theorem f5:bQ ["program", "powers", "many", "rows", "reached", "done", "stretches", "number", "steps"] ["program", "powers", "many"] (bA An):=b4
theorem Xm:bQ ["program", "powers"] ["program", "powers"] (bA Bd):=b4
theorem tL:bQ ["rows", "powers", "found", "number", "changes", "ahead"] ["rows", "powers"] (bA B6):=b4
theorem Jw:bQ ["program"] ["program"] (bA BP):=b4
theorem Dg:bQ ["fraction", "top", "bottom"] ["fraction"] (bA Df):=b4
theorem w9:bQ ["number", "block", "rest", "blocks"] ["number"] (bA C8):=b4
theorem Dd:bQ ["powers", "words"] ["powers"] (bA C9):=b4
theorem K3:bQ ["prime", "power", "often"] ["prime", "power"] (bA C2):=b4
theorem AQ:bQ ["text", "program"] ["text"] (bA Ao):=b4
theorem C0:bQ ["text", "powers"] ["text"] (bA CN):=b4
theorem tV:bQ ["text", "found", "word", "pair"] ["text"] (bA CX):=b4
theorem Kk:bQ ["word", "sign", "parts"] ["word", "sign"] (bA Cs):=b4
theorem KS:bQ ["text"] ["text"] (bA CM):=b4
theorem Jv:bQ ["thing"] ["thing"] (bA BK):=b4
theorem Ju:bQ ["program", "powers", "many", "rest"] ["program", "powers", "many"] (bA BJ):=b4
theorem pw:bQ ["program", "powers", "most", "rows", "seen", "reached", "done", "number"] ["program", "powers", "most"] (bA Al):=b4
theorem J1:bQ ["row", "words"] ["row"] (bA Ca):=b4
theorem aaq:bQ ["words"] ["words"] (bA CY):=b4
theorem CP:bQ ["words", "kinds"] ["words"] (bA CH):=b4
theorem Zv:bQ ["kind", "word"] ["kind", "word"] (bA Ct):=b4
theorem aaK:bQ ["word"] ["word"] (bA Dc):=b4
theorem CO:bQ ["word", "most", "number"] ["word", "most"] (bA CE):=b4
theorem wK:bQ ["bench", "word", "parts", "name", "powers"] ["bench", "word", "parts"] (bA Bc):=b4
theorem YB:bQ ["bench", "word", "parts"] ["bench", "word", "parts"] (bA BI):=b4
theorem Xn:bQ ["words"] ["words"] (bA Bg):=b4
theorem w6:bQ ["told", "steps", "powers", "length"] ["told"] (bA CW):=b4
theorem Zu:bQ ["script", "k"] ["script", "k"] (bA Cp):=b4
theorem qV:bQ ["cell", "number", "j", "more"] ["cell"] (bA AM):=b4
theorem I9:bQ ["pot", "far", "found"] ["pot", "far"] (bA Bf):=b4
theorem Cb:bQ ["pot", "wide", "found", "k"] ["pot", "wide"] (bA BM):=b4
theorem J0:bQ ["pot", "wide"] ["pot"] (bA B9):=b4
theorem Y4:bQ [] [] (bA B_):=b4
theorem j_:bQ ["line", "found", "prime", "often", "turn"] ["line"] (bA Cq):=b4
theorem l8:bQ ["pot", "places", "found", "turn", "place", "top", "bottom"] ["pot", "places"] (bA CG):=b4
theorem Kj:bQ ["pot", "places", "most"] ["pot", "places", "most"] (bA Cr):=b4
theorem jI:bQ ["pot", "places", "most", "found", "some", "k", "sides", "turn", "line", "lap", "less", "top"] ["pot", "places", "most"] (bA C7):=b4
theorem BQ:bQ ["pot", "places", "most", "found", "place"] ["pot", "places", "most"] (bA Be):=b4
theorem Cc:bQ ["found", "parts"] ["found"] (bA BN):=b4
theorem Cd:bQ ["desk", "name", "program", "line", "most", "some"] ["desk", "name", "program", "line", "most"] (bA BO):=b4
theorem hX:bQ ["script", "k", "pot", "places", "program", "line", "desk", "all_steps", "steps", "turn", "share", "due", "now", "most", "other"] ["script"] (bA Aa):=b4
theorem ZW:bQ ["self", "program"] ["self", "program"] (bA CC):=b4
theorem Zs:bQ ["self", "name", "powers"] ["self", "name", "powers"] (bA Cj):=b4
theorem CI:bQ ["self", "name", "many", "begin", "end"] ["self", "name", "many"] (bA Ck):=b4
theorem aad:bQ ["self"] ["self"] (bA CK):=b4
theorem aap:bQ ["self", "name"] ["self", "name"] (bA CV):=b4
theorem ZU:bQ ["self", "name"] ["self", "name"] (bA CA):=b4
theorem aaz:bQ ["self", "name"] ["self", "name"] (bA C1):=b4
theorem ZT:bQ ["self", "name", "what"] ["self", "name", "what"] (bA Cz):=b4
theorem ZV:bQ ["self", "name", "what"] ["self", "name", "what"] (bA CB):=b4
theorem Zt:bQ ["self"] ["self"] (bA Cm):=b4
theorem Cv:bQ ["self", "row", "words", "parts"] ["self", "row"] (bA B5):=b4
set_option genInjectivity false in
set_option genSizeOfSpec false in
structure bt (K:W.Frag) (mg:Str->Option Value) where
 qZ:cy K mg "is_whole" B8 ["thing"]
 JG:cy K mg "is_powers" Co ["thing"]
 oc:cy K mg "powers_of" Cu ["number"]
 tI:cy K mg "how_often" Cn ["prime", "number"]
 q9:cy K mg "without_primes" C_ ["number"]
 J6:cy K mg "is_program" CF ["thing"]
 Kq:cy K mg "is_fraction" CL ["thing"]
 Iu:cy K mg "is_term" BL ["thing"]
 q5:cy K mg "changes_of" CD ["program"]
 tX:cy K mg "fraction_changes" De ["fraction"]
 n5:cy K mg "fits" Am ["changes", "powers"]
 qY:cy K mg "first_of" B7 ["rows", "powers"]
 m7:cy K mg "moved" AN ["powers", "changes", "many"]
 GL:cy K mg "after" AL ["program", "powers", "many"]
 GO:cy K mg "trail" AO ["program", "powers", "many"]
 q8:cy K mg "stretch_steps" C4 ["rows", "powers", "number"]
 tU:cy K mg "steps_to_lack" C3 ["powers", "used"]
 tT:cy K mg "steps_to_fit" CZ ["powers", "used", "ahead"]
 lP:cy K mg "leap" An ["program", "powers", "many"]
 HI:cy K mg "before" Bd ["program", "powers"]
 Jh:cy K mg "ahead_by" B6 ["rows", "powers"]
 Iz:cy K mg "written" BP ["program"]
 Lb:cy K mg "fraction_written" Df ["fraction"]
 K0:cy K mg "number_written" C8 ["number"]
 K1:cy K mg "powers_written" C9 ["powers"]
 KU:cy K mg "power_written" C2 ["prime", "power"]
 Gi:cy K mg "read" Ao ["text"]
 Ks:cy K mg "powers_read" CN ["text"]
 KL:cy K mg "product_read" CX ["text"]
 JJ:cy K mg "pair_read" Cs ["word", "sign"]
 Kr:cy K mg "number_read" CM ["text"]
 It:cy K mg "is_name" BK ["thing"]
 Ir:cy K mg "gone_on" BJ ["program", "powers", "many"]
 Gh:cy K mg "fate" Al ["program", "powers", "most"]
 Jk:cy K mg "words_of" Ca ["row"]
 KN:cy K mg "program_read" CY ["words"]
 J8:cy K mg "parts_read" CH ["words"]
 JK:cy K mg "part_read" Ct ["kind", "word"]
 K7:cy K mg "put_powers_read" Dc ["word"]
 J5:cy K mg "count_read" CE ["word", "most"]
 HH:cy K mg "answer" Bc ["bench", "word", "parts"]
 Iq:cy K mg "do_deed" BI ["bench", "word", "parts"]
 HK:cy K mg "listed" Bg ["words"]
 KJ:cy K mg "fate_written" CW ["told"]
 JH:cy K mg "_law_cell_at" Cp ["script", "k"]
 GN:cy K mg "_law_pot" AM ["cell"]
 A0:cy K mg "_law_take" Bf ["pot", "far"]
 Iv:cy K mg "_law_order" BM ["pot", "wide"]
 Ji:cy K mg "_law_places" B9 ["pot"]
 Jj:cy K mg "_law_primes" B_ []
 wU:cy K mg "_law_product" Cq ["line"]
 J7:cy K mg "_law_fraction" CG ["pot", "places"]
 JI:cy K mg "_law_program" Cr ["pot", "places", "most"]
 KZ:cy K mg "_law_calm_program" C7 ["pot", "places", "most"]
 HJ:cy K mg "_law_line" Be ["pot", "places", "most"]
 Iw:cy K mg "_law_shown" BN ["found"]
 Iy:cy K mg "_law_tells" BO ["desk", "name", "program", "line", "most"]
 tM:Addr
 acn:mg "FractError" = some (.ref tM)
 fQ:Addr
 ab_:mg "AtRest" = some (.ref fQ)
 HP:Addr
 acd:mg "NoText" = some (.ref HP)
 Jl:Addr
 acg:mg "NoNumber" = some (.ref Jl)
 IH:Addr
 acf:mg "TooMany" = some (.ref IH)
 JL:Addr
 aci:mg "NoProgram" = some (.ref JL)
 Jm:Addr
 ach:mg "NoPowers" = some (.ref Jm)
 HO:Addr
 acb:mg "NoName" = some (.ref HO)
 HN:Addr
 aca:mg "NoDeed" = some (.ref HN)
 GV:Addr
 ab8:mg "NoRow" = some (.ref GV)
 gA:Addr
 S9:mg "Bench" = some (.ref gA)
 hy:Addr
 Gu:mg "Desk" = some (.ref hy)
 acm:vk K mg "FractError" tM
 CJ:Addr
 CR:FuncData
 l2:ma K mg "AtRest" fQ tM CJ
 tu:hI K "__init__" "AtRest.__init__" q7 CJ CR
 UJ:Binds K CR ["self", "steps"] []
 ace:RA K fQ tM
 Bp:W.findIn K (.ref fQ) "steps" = some none
 ab9:W.kitOne K (.ref fQ) (.type "ValueError")=some true
 acp:KF K fQ fQ true
 KX:KF K fQ HP false
 K9:KF K fQ Jl false
 K2:KF K fQ IH false
 Ld:KF K fQ JL false
 K_:KF K fQ Jm false
 KW:KF K fQ HO false
 KV:KF K fQ HN false
 KR:KF K fQ GV false
 e5:hi K gA
 Kp:lR K gA "deeds"
 nf:lR K gA "held"
 w5:lR K gA "program"
 wZ:yi K gA "Bench.__init__" CC ["self", "program"]
 wQ:jR K gA "put" "Bench.put" Cj ["self", "name", "powers"]
 wR:jR K gA "run" "Bench.run" Ck ["self", "name", "many"]
 acj:jR K gA "drop" "Bench.drop" Kg ["self", "name"]
 ack:jR K gA "undo" "Bench.undo" Kh ["self"]
 w2:jR K gA "names" "Bench.names" CK ["self"]
 w3:jR K gA "powers" "Bench.powers" CV ["self", "name"]
 wX:jR K gA "gone" "Bench.gone" CA ["self", "name"]
 od:jR K gA "held_by" "Bench.held_by" C1 ["self", "name"]
 q4:jR K gA "done" "Bench.done" Cz ["self", "name", "what"]
 wY:jR K gA "hold" "Bench.hold" CB ["self", "name", "what"]
 il:hi K hy
 wW:lR K hy "bench"
 q3:yi K hy "Desk.__init__" Cm ["self"]
 fA:jR K hy "say" "Desk.say" B5 ["self", "row"]
 fy:mg "len" = none
 l7:mg "isinstance" = none
 vR:mg "int" = none
 RR:mg "bool" = none
 ix:mg "tuple" = none
 iw:mg "range" = none
 n4:mg "max" = none
 qE:mg "min" = none
 qD:mg "all" = none
 j4:mg "zip" = none
 kQ:mg "str" = none
 H4:mg "sorted" = none
 JU:mg "enumerate" = none
 Yj:mg "reversed" = none
 aco:mg "ValueError" = none
 hC:Addr
 nc:mg "PRIMES" = some (.ref hC)
 j9 : ∀ H,aW K H hC [.int 2,.int 3,.int 5,.int 7,.int 11,.int 13,.int 17,.int 19,.int 23,.int 29]
 C5 : ∃ t,mg "MOST_FRACTIONS" = some (.int 16 t)
 Ce : ∃ t,mg "MOST_TERM" = some (.int 1000000000000 t)
 w7 : ∃ t,mg "MOST_STRETCHES" = some (.int 2000 t)
 wI : ∃ t,mg "FIGURES" = some (.str "0123456789" t)
 CS : ∃ t,mg "MOST_FIGURES" = some (.int 13 t)
 w1 : ∃ t,mg "MOST_POWER" = some (.int 1000000 t)
 Bw : ∃ t,mg "LETTERS" = some (.str "abcdefghijklmnopqrstuvwxyz" t)
 CT : ∃ t,mg "MOST_LETTERS" = some (.int 8 t)
 Cx : ∃ t,mg "MOST_NAMES" = some (.int 12 t)
 Cy : ∃ t,mg "MOST_STEPS" = some (.int 400 t)
 BY : ∃ t,mg "MOST_RUN" = some (.int 1000000000000000000 t)
 Dh : ∃ t,mg "MOST_COUNT_FIGURES" = some (.int 19 t)
 GR:Addr
 AD:mg "PARTS" = some (.ref GR)
 Uy:E3 K GR [("put", ["name", "powers"]),("drop", ["name"]),("undo", []),("run", ["name", "run count"]),("show", ["name"]),("gone", ["name"]),("names", []),("fate", ["name", "fate count"]),("ahead", ["name"])]
section
variable {P:Program} {w:World} {K:PySem.W.Frag} {mg:Str->Option Value} {base:Heap}
noncomputable def Xv:bF:=λ vs H Q _ => ∃ (a:Addr) (n h9:Int),vs=[.ref a,.int h9]/\H a=some (.lst [.int n])/\0<h9/\h9<1073741824/\Q (.int (n % h9)) (upd H a (.lst [.int (n / h9)]))
theorem nd (T:bt K mg):ck P w mg base bX 1 T.A0 Xv:=by
 refine T.A0.fn.cD I9 (λ vs H Q E h=>?_) (λ a5 A outer s H vs Q E ar h=>?_)
 ·obtain ⟨a,n,h9,rfl,_⟩:=h;rfl
 ·obtain ⟨a,n,h9,rfl,av,h0,af,q⟩:=h;refine ⟨_,(aK (bq 2 I9 (bU n7 (cQ fg (ae 0) aV (λ _ _=>rfl)) (ae 1)))
   (aK (qK (bU tr (cQ fg (ae 0) aV (λ _ _=>rfl)) (ae 1)) (qI (ae 0) aV set_list))
   (aP (bx (ae 2))))),?_⟩
  refine ⟨_,rfl,a,_,_,_,rfl,rfl,a4.of av,rfl,_,rfl,_,_,rfl,rfl,h0,?_⟩;refine ⟨_,rfl,a,_,_,_,rfl,rfl,a4.of av,rfl,_,rfl,_,_,rfl,rfl,⟨h0,af⟩,_,rfl,a,_,_,0,rfl,rfl,av,rfl,?_⟩;exact ⟨_,rfl,q⟩
noncomputable def Zz (K:PySem.W.Frag):bF:=λ vs H Q _ => ∃ (a:Addr) (ns:List Int) (k:Int),vs=[.ref a,.int k]/\a4 K H a (ns.map V.int)/\0<=k /\ ∀ c:Int,Q (.int c) H
theorem Zp (T:bt K mg):ck P w mg base bX 1 T.JH (Zz K):=by
 refine T.JH.fn.cD Zu (λ vs H Q E h=>?_) (λ a5 A outer s H vs Q E ar h=>?_)
 ·obtain ⟨a,ns,k,rfl,_⟩:=h;rfl
 ·obtain ⟨a,ns,k,rfl,cG,h0,q⟩:=h;refine ⟨_,(aK (b7 (bO kR (ae 1) (cL g7 T.fy fw (ai (ae 0) az)) (bM _))
    (aP (bx (cQ fg (ae 0) (ae 1) (λ _ _=>rfl))))
    b8)
   (aP (bx aV))),?_⟩
  refine ⟨_,rfl,_,rfl,a,_,rfl,.inl cG,_,_,rfl,rfl,_,rfl,?_⟩;refine eg (λ dk=>?_) (λ _=>q 0);have P7:k<((ns.map V.int).length:Int):=by simpa using dk
  rw [List.length_map] at P7;have aB:k.toNat<ns.length:=by omega
  have e:(ns.map V.int)[k.toNat]?=some (V.int ns[k.toNat]):=by rw [List.getElem?_map,List.getElem?_eq_getElem aB];rfl
  exact ⟨_,rfl,_,rfl,a,_,_,_,rfl,rfl,cG,g5 h0 e,q _⟩
noncomputable def V5:bF:=λ vs H Q _ => ∃ c:Int,vs=[.int c] /\ ∀ (n:Int) (p:Addr),H p=none->Q (.ref p) (upd H p (.lst [.int n]))
theorem Vq (T:bt K mg):ck P w mg base bX 1 T.GN V5:=by
 refine T.GN.fn.cD qV (λ vs H Q E h=>?_) (λ a5 A outer s H vs Q E ar h=>?_)
 ·obtain ⟨c,rfl,_⟩:=h;rfl
 ·obtain ⟨c,rfl,q⟩:=h;refine ⟨_,(aK (b7 (bO vS (ae 0) (bU v8 aV aV) (bM _))
    (aP (bx (v_ (ai (bU i9 (ae 0) (bU v8 aV aV)) az))))
    b8)
   (aK (bq 1 qV aV)
   (aK (fZ PassesOwn.never rfl (jb rfl T.iw (ai aV az)) (eD 2 qV)
    (aK (bq 3 qV (bU n7 (bU n8 (bU ff (bU ff (bU n7 (ae 0) aV) (bU n8 aV (ae 2))) aV) aV) aV))
   (aK (bq 3 qV (bU n7 (bU ff (bU ff (bU n8 (ae 3) (ae 3)) (bU n8 aV (ae 2))) aV) aV))
   (aP (bq 1 qV (bU ff (bU n8 (ae 1) aV) (ae 3)))))))
   (aP (bx (v_ (ai (ae 1) az))))))),?_⟩
  refine ⟨_,rfl,_,_,rfl,rfl,⟨by decide,by decide,by decide⟩,_,_,rfl,rfl,_,rfl,?_⟩;refine eg (λ _=>?_) (λ _=>?_)
  ·refine ⟨_,rfl,_,_,rfl,rfl,⟨by decide,by decide,by decide⟩,_,_,rfl,rfl,eB,λ p ay=>?_⟩;exact q _ p ay
  ·refine ⟨64,rfl,by decide,by decide,jG (n:=64) (λ i σ aw => ∃ (n:Int) (u v:Option V),σ=[some (.int c),some (.int n),u,v]/\aw=H) ⟨0,none,none,rfl,rfl⟩ ?_ ?_⟩
   ·rintro i σ aw ax ⟨n,u,v,rfl,rfl⟩;refine ⟨_,rfl,_,_,rfl,rfl,(by show (0:Int)<2147483629;decide),_,rfl,_,_,rfl,rfl,.inl ⟨by decide,by decide⟩,_,_,rfl,rfl,_,_,rfl,rfl,_,_,rfl,rfl,.inr ⟨by decide,by decide⟩,_,_,rfl,rfl,(by show (0:Int)<2147483647;decide),?_⟩;refine ⟨_,rfl,_,rfl,_,_,rfl,rfl,.inl ?_,_,rfl,_,_,rfl,rfl,.inl ⟨by decide,by decide⟩,_,_,rfl,rfl,_,_,rfl,rfl,_,_,rfl,rfl,(by show (0:Int)<2147483587;decide),?_⟩
    ·have af:=Int.emod_nonneg ((c % 2147483629+7919 * (0+(i:Int))+1) * 48271) (show (2147483647:Int)≠0 by decide);have aq:=Int.emod_lt_of_pos ((c % 2147483629+7919 * (0+(i:Int))+1) * 48271) (show (0:Int)<2147483647 by decide);exact ⟨by omega,by omega⟩
    refine ⟨_,rfl,_,_,rfl,rfl,.inr ⟨by decide,by decide⟩,_,rfl,_,_,rfl,rfl,?_⟩;exact ⟨_,_,_,rfl,rfl⟩
   ·rintro σ aw ⟨n,u,v,rfl,rfl⟩;exact ⟨_,rfl,eB,λ p ay=>q n p ay⟩
noncomputable def YJ:bF:=λ vs H Q _ => ∃ (a:Addr) (n kn:Int),vs=[.ref a,.int kn]/\H a=some (.lst [.int n])/\0<=kn/\kn<=100 /\
 ∀ (p:Addr) (H':aj) (bS:Int) (ns:List Int),H p=none->b3 a H H'->H' a=some (.lst [.int bS])->H' p=some (.tup (ns.map V.int))->ns.length=kn.toNat->(∀ m∈ns,0<=m/\m<kn)->Q (.ref p) H'
theorem Yu (T:bt K mg):ck P w mg base bX 2 T.Iv YJ:=by
 refine T.Iv.fn.cD Cb (λ vs H Q E h=>?_) (λ a5 A outer s H vs Q E ar h=>?_)
 ·obtain ⟨a,n,kn,rfl,_⟩:=h;rfl
 ·obtain ⟨a,n,kn,rfl,av,h0,af,q⟩:=h;refine ⟨_,(aK (bq 2 Cb (v_ az))
   (aK (fZ PassesOwn.never rfl (jb rfl T.iw (ai (ae 1) az)) (eD 3 Cb)
    (aP (hB (g4 PySem.F.plainAttrs_list PySem.F.slot_list_insert PySem.F.type_list_insert WZ (ae 2) (ai (bw (nd T) ar a9 (ai (ae 0) (ai (bU ff (ae 3) aV) az))) (ai (ae 3) az))))))
   (aP (bx (fX tQ T.ix iv (ai (ae 2) az)))))),?_⟩
  refine ⟨eB,λ l au=>?_⟩;have gH:a≠l:=b2 av au;refine ⟨_,rfl,kn,rfl,by omega,by omega,jG (n:=kn.toNat) (λ i σ aw => ∃ (bS:Int) (ns:List Int) (u:Option V),σ=[some (.ref a),some (.int kn),some (.ref l),u]/\b3 a H aw/\aw a=some (.lst [.int bS])/\aw l=some (.lst (ns.map V.int))/\ns.length=i /\ ∀ m∈ns,0<=m/\m<kn)
   ⟨n,[],none,rfl,λ b o _ e=>by rw [a3 (b2 e au)];exact e,by rw [a3 gH];exact av,br,rfl,λ m hm=>absurd hm (by simp)⟩ ?_ ?_⟩
  ·rintro i σ aw ax ⟨bS,ns,u,rfl,cS,eK,fb,aC,hm⟩;refine ⟨_,rfl,.inl ⟨rfl,_,a4.of fb⟩,_,rfl,_,rfl,_,_,rfl,rfl,a,bS,_,rfl,eK,by omega,by omega,_,rfl,l,_,_,_,rfl,rfl,by rw [a3 gH.symm];exact fb,?_,?_,?_,?_⟩
   ·exact Int.emod_nonneg _ (by omega)
   ·have:=Int.emod_lt_of_pos bS (show (0:Int)<0+(i:Int)+1 by omega);omega
   ·rw [List.length_map,aC,sizeLine_eq];omega
   ·refine ⟨bS / (0+(i:Int)+1),ns.take (min (bS % (0+(i:Int)+1)).toNat (ns.map V.int).length)++(0+(i:Int))::ns.drop (min (bS % (0+(i:Int)+1)).toNat (ns.map V.int).length),_,rfl,?_,?_,?_,?_,?_⟩
    ·intro b o nb e;rw [a3 (b2 e au),a3 nb];exact cS b o nb e
    ·rw [a3 gH,br]
    ·rw [br,List.map_append,List.map_cons,List.map_take,List.map_drop]
    ·rw [List.length_append,List.length_cons,List.length_take,List.length_drop,List.length_map,aC];omega
    ·intro m qc;rcases List.mem_append.mp qc with z | z
     ·exact hm m (List.mem_of_mem_take z)
     ·rcases List.mem_cons.mp z with z | z
      ·rw [z];omega
      ·exact hm m (List.mem_of_mem_drop z)
  ·rintro σ aw ⟨bS,ns,u,rfl,cS,eK,fb,aC,hm⟩;refine ⟨_,rfl,l,_,rfl,.inl ⟨a4.of fb,λ p ay=>?_⟩⟩;have sI:p≠a:=λ z=>by rw [z,eK] at ay;cases ay
   refine q p _ bS ns (cS.free ay sI) (cS.new ay) ?_ br aC hm;rw [a3 sI.symm];exact eK
noncomputable def Y7:bF:=λ vs H Q _ => ∃ (a:Addr) (n:Int),vs=[.ref a]/\H a=some (.lst [.int n]) /\
 ∀ (p:Addr) (H':aj) (bS:Int) (ns:List Int),b3 a H H'->H' a=some (.lst [.int bS])->H' p=some (.tup (ns.map V.int))->1<=ns.length->ns.length<=5->(∀ m∈ns,0<=m/\m<10)->Q (.ref p) H'
theorem Y1 (T:bt K mg):ck P w mg base bX 3 T.Ji Y7:=by
 refine T.Ji.fn.cD J0 (λ vs H Q E h=>?_) (λ a5 A outer s H vs Q E ar h=>?_)
 ·obtain ⟨a,n,rfl,_⟩:=h;rfl
 ·obtain ⟨a,n,rfl,av,q⟩:=h;refine ⟨_,(aK (bq 1 J0 (bU ff aV (bw (nd T) ar a9 (ai (ae 0) (ai aV az)))))
   (aK (b7 (bO eW (bw (nd T) ar a9 (ai (ae 0) (ai aV az))) aV (bM _))
    (aP (bx (fX (aau rfl) T.ix iv (ai (fX X2 T.iw SW (ai (ae 1) az)) az))))
    b8)
   (aP (bx (wB Ul (bw (Yu T) ar a9 (ai (ae 0) (ai aV az))) wm (wo (ae 1))))))),?_⟩
  refine ⟨_,rfl,a,n,5,rfl,av,by decide,by decide,_,_,rfl,rfl,?_⟩;refine ⟨_,rfl,a,_,2,rfl,br,by decide,by decide,rfl,_,rfl,?_⟩;have ou:=Int.emod_nonneg n (show (5:Int)≠0 by decide);have g1:=Int.emod_lt_of_pos n (show (0:Int)<5 by decide);refine eg (λ _=>?_) (λ _=>?_)
  ·refine ⟨_,rfl,_,rfl,λ p ay=>⟨p,_,rfl,br,by omega,by omega,λ l au=>?_⟩⟩;have sI:p≠a:=λ z=>by rw [z,br] at ay;cases ay
   have zg:l≠a:=λ z=>by rw [z,a3 sI.symm,br] at au;cases au
   refine q l _ (n / 5 / 2) ((List.range (1+n % 5).toNat).map λ i=>((i:Nat):Int)) (((b3.upd.set).new ay).new au) ?_ ?_ ?_ ?_ ?_
   ·rw [a3 zg.symm,a3 sI.symm,br]
   ·rw [br,List.map_map];rfl
   ·rw [List.length_map,List.length_range];omega
   ·rw [List.length_map,List.length_range];omega
   ·intro m hm;obtain ⟨i,ax,rfl⟩:=List.mem_map.mp hm;have:=List.mem_range.mp ax;omega
  ·refine ⟨_,rfl,a,_,10,rfl,br,by decide,by decide,λ p H' bS ns ay cS gF jr hlen hm=>?_⟩;have mX:ns.length=10:=hlen;refine ⟨_,rfl,_,rfl,.inl ⟨p,_,rfl,aW.of jr,?_,λ l au=>?_⟩⟩
   ·rintro ⟨_,h⟩;rw [wb (by omega),List.length_map] at h;omega
   have zg:l≠a:=λ z=>by rw [z,gF] at au;cases au
   have eP:b3 a H (upd (upd H a (.lst [.int (n / 5)])) a (.lst [.int (n / 5 / 2)])):=b3.upd.set;have dO:b3 a H H':=eP.trans cS;refine q l _ bS (ns.take (1+n % 5).toNat) (dO.new au) ?_ ?_ ?_ ?_ ?_
   ·rw [a3 zg.symm];exact gF
   ·rw [br,HR (by omega),List.map_take]
   ·rw [List.length_take];omega
   ·rw [List.length_take];omega
   ·intro m qc;exact hm m (List.mem_of_mem_take qc)
noncomputable def en:List V:=[.int 2,.int 3,.int 5,.int 7,.int 11,.int 13,.int 17,.int 19,.int 23,.int 29]
noncomputable def Y8:bF:=λ vs H Q _=>vs=[] /\ ∀ p,H p=none->Q (.ref p) (upd H p (.tup en))
theorem JZ (T:bt K mg):ck P w mg base bX 1 T.Jj Y8:=by
 refine T.Jj.fn.cD Y4 (λ vs H Q E h=>?_) (λ a5 A outer s H vs Q E ar h=>?_)
 ·obtain ⟨rfl,_⟩:=h;rfl
 ·obtain ⟨rfl,q⟩:=h;refine ⟨_,(aP (bx (GG (ai aV (ai aV (ai aV (ai aV (ai aV (ai aV (ai aV (ai aV (ai aV (ai aV az))))))))))))),?_⟩;exact ⟨eB,λ p ay=>q p ay⟩
theorem tK {i:Nat} {x:V} (h:en[i]?=some x) : ∃ p:Nat,x=.int (p:Int)/\ei[i]?=some p/\p<30:=by
 match i,h with
 | 0,h=>cases h;exact ⟨2,rfl,rfl,by decide⟩
 | 1,h=>cases h;exact ⟨3,rfl,rfl,by decide⟩
 | 2,h=>cases h;exact ⟨5,rfl,rfl,by decide⟩
 | 3,h=>cases h;exact ⟨7,rfl,rfl,by decide⟩
 | 4,h=>cases h;exact ⟨11,rfl,rfl,by decide⟩
 | 5,h=>cases h;exact ⟨13,rfl,rfl,by decide⟩
 | 6,h=>cases h;exact ⟨17,rfl,rfl,by decide⟩
 | 7,h=>cases h;exact ⟨19,rfl,rfl,by decide⟩
 | 8,h=>cases h;exact ⟨23,rfl,rfl,by decide⟩
 | 9,h=>cases h;exact ⟨29,rfl,rfl,by decide⟩
 | (k+10),h=>cases h
theorem B4 : ∀ (ag es:List Nat) (i p e:Nat),ag[i]?=some p->es[i]?=some e->hx (ag.take (i+1)) (es.take (i+1))=hx (ag.take i) (es.take i) * p ^ e
 | [],_,_,_,_,h,_=>by cases h
 | _,[],_,_,_,_,h=>by cases h
 | d8::ag,b6::es,0,p,e,h,h'=>by
  have z:d8=p:=Option.some.inj h;have c9:b6=e:=Option.some.inj h';subst z;subst c9;show d8 ^ b6 * 1=1 * d8 ^ b6;omega
 | d8::ag,b6::es,i+1,p,e,h,h'=>by
  show d8 ^ b6 * hx (ag.take (i+1)) (es.take (i+1))=d8 ^ b6 * hx (ag.take i) (es.take i) * p ^ e;rw [B4 ag es i p e h h',Nat.mul_assoc]
noncomputable def ZA (K:PySem.W.Frag):bF:=λ vs H Q _ => ∃ (b:Addr) (es:List Int),vs=[.ref b]/\aW K H b (es.map V.int)/\es.length=10/\(∀ e∈es,0<=e/\e<2 ^ 62) /\ ∀ H',aD H H'->Q (.int (prod (es.map Int.toNat):Nat)) H'
theorem Ke (T:bt K mg):ck P w mg base bX 2 T.wU (ZA K):=by
 refine T.wU.fn.cD j_ (λ vs H Q E h=>?_) (λ a5 A outer s H vs Q E ar h=>?_)
 ·obtain ⟨b,es,rfl,_⟩:=h;rfl
 ·obtain ⟨b,es,rfl,aa,he,hm,q⟩:=h;refine ⟨_,(aK (bq 1 j_ aV)
   (aK (fZ PassesOwn.never rfl (qJ rfl rfl T.j4 (ai (GF (JZ T) ar a9) (ai (ae 0) az))) (pq rfl (eE (eD 2 j_) (eE (eD 3 j_) ja)))
    (aP (fZ PassesOwn.never rfl (jb rfl T.iw (ai (ae 3) az)) (eD 4 j_)
    (aP (bq 1 j_ (bU n8 (ae 1) (ae 2)))))))
   (aP (bx (ae 1))))),?_⟩
  refine ⟨rfl,λ t aZ=>⟨_,rfl,t,b,rfl,⟨_,aW.of br⟩,⟨_,aD.tup (aD.new aZ) aa⟩,?_⟩⟩;have cW:en.length=10:=rfl;have yR:(es.map V.int).length=10:=by rw [List.length_map];exact he
  refine G6 (xs:=en) (ys:=es.map V.int) (λ i σ aw=>(∃ u v x:Option V,σ=[some (.ref b),some (.int (hx (ei.take i) ((es.map Int.toNat).take i):Nat)),u,v,x])/\aD (upd H t (.tup en)) aw) ⟨⟨none,none,none,rfl⟩,aD.refl _⟩ ?_ ?_ ?_
  ·rintro i σ aw ax ⟨_,s2⟩;exact ⟨aW.of (s2 _ _ br),aD.tup s2 (aD.tup (aD.new aZ) aa)⟩
  ·rintro i x y z σ aw ah aL aN ⟨⟨u,v,dI,rfl⟩,s2⟩;obtain ⟨p,rfl,ay,qq⟩:=tK ah;obtain ⟨e,rfl,mG⟩:=hY aL;obtain ⟨b6,aE⟩:=hm e (List.mem_of_getElem? mG);refine ⟨z,_,rfl,aW.of br,rfl,_,_,rfl,_,_,rfl,rfl,?_⟩;refine ⟨_,rfl,e,rfl,by omega,aE,jG (n:=e.toNat) (λ j σ aH=>(∃ x:Option V,σ=[some (.ref b),some (.int ((hx (ei.take i) ((es.map Int.toNat).take i) * p ^ j:Nat):Int)),some (.int p),some (.int e),x])/\aD (upd H t (.tup en)) aH) ⟨⟨dI,by rw [Nat.pow_zero,Nat.mul_one];rfl⟩,aD.more s2 aN⟩ ?_ ?_⟩
   ·rintro j σ aH bj ⟨⟨fa,rfl⟩,s3⟩;refine ⟨_,rfl,_,rfl,_,_,rfl,rfl,.inr ⟨by omega,by omega⟩,⟨some (.int (0+(j:Int))),?_⟩,s3⟩;rw [Nat.pow_succ,<-Nat.mul_assoc,Int.natCast_mul _ p];rfl
   ·rintro σ aH ⟨⟨fa,rfl⟩,s3⟩;refine ⟨⟨some (.int p),some (.int e),fa,?_⟩,s3⟩;have zE:(es.map Int.toNat)[i]?=some e.toNat:=by rw [List.getElem?_map,mG];rfl
    rw [B4 ei (es.map Int.toNat) i p e.toNat ay zE]
  ·rintro σ aw ⟨⟨u,v,x,rfl⟩,s2⟩;have aI:min en.length (es.map V.int).length=10:=by rw [cW,yR];rfl
   refine ⟨_,rfl,?_⟩;rw [aI];have dR:ei.take 10=ei:=rfl;have di:(es.map Int.toNat).take 10=es.map Int.toNat:=List.take_of_length_le (by rw [List.length_map,he];exact Nat.le_refl _);rw [dR,di];exact q aw ((aD.new aZ).trans s2)
noncomputable def DK (a b l:Addr) (H:aj) (fD cd:Nat) (σ:St) (aw:aj):Prop := ∃ (bS:Int) (xs:List Int) (u v t1 bf:Option V),σ=[some (.ref a),some (.ref b),some (.ref l),u,v,t1,bf]/\b3 a H aw/\aw a=some (.lst [.int bS])/\aw l=some (.lst (xs.map V.int))/\xs.length=10/\(ups xs).sum<=fD/\(downs xs).sum<=cd
noncomputable def mM:V->V
 | .int j=>.int (if j > 0 then j else 0)
 | v=>v
noncomputable def qg:V->V
 | .int j=>.int (if 0 - j > 0 then 0 - j else 0)
 | v=>v
theorem Th (xs:List Int):(xs.map V.int).map mM=(xs.map λ x=>if x > 0 then x else 0).map V.int:=by rw [List.map_map,List.map_map];rfl
theorem Ti (xs:List Int):(xs.map V.int).map qg=(xs.map λ x=>if 0 - x > 0 then 0 - x else 0).map V.int:=by rw [List.map_map,List.map_map];rfl
theorem SP (xs:List Int):(xs.map λ x=>if x > 0 then x else 0).map Int.toNat=ups xs:=by
 rw [List.map_map];refine List.map_congr_left λ x _=>?_
 show (if x > 0 then x else 0).toNat=x.toNat;split<;>omega
theorem UT (xs:List Int):(xs.map λ x=>if 0 - x > 0 then 0 - x else 0).map Int.toNat=downs xs:=by
 rw [List.map_map];refine List.map_congr_left λ x _=>?_
 show (if 0 - x > 0 then 0 - x else 0).toNat=(-x).toNat;split<;>omega
theorem B1 : ∀ {l:List Nat} {x:Nat},x∈l->x<=l.sum
 | [],_,h=>by cases h
 | y::r,x,h=>by
  rw [List.sum_cons];rcases List.mem_cons.mp h with z | z
  ·omega
  ·have:=B1 z;omega
noncomputable def Z0:bF:=λ vs H Q _ => ∃ (a b:Addr) (n:Int) (ns:List Int),vs=[.ref a,.ref b]/\H a=some (.lst [.int n])/\H b=some (.tup (ns.map V.int))/\1<=ns.length/\ns.length<=10/\(∀ m∈ns,0<=m/\m<10) /\
 ∀ (p:Addr) (H':aj) (bS i j:Int),b3 a H H'->H' a=some (.lst [.int bS])->H' p=some (.tup [.int i,.int j])->fx i j=true->Q (.ref p) H'
theorem ZR (T:bt K mg):ck P w mg base bX 3 T.J7 Z0:=by
 refine T.J7.fn.cD l8 (λ vs H Q E h=>?_) (λ a5 A outer s H vs Q E ar h=>?_)
 ·obtain ⟨a,b,n,ns,rfl,_⟩:=h;rfl
 ·obtain ⟨a,b,n,ns,rfl,av,aa,uX,hP,hm,q⟩:=h;refine ⟨_,(aK (bq 2 l8 (bU GA (v_ (ai aV az)) aV))
   (aK (fZ PassesOwn.never rfl (jb rfl T.iw (ai (bw (nd T) ar a9 (ai (ae 0) (ai aV az))) az)) (eD 3 l8)
    (aK (bq 4 l8 (cQ fe (ae 1) (bw (nd T) ar a9 (ai (ae 0) (ai (cL g7 T.fy fw (ai (ae 1) az)) az))) (λ _ _=>rfl)))
   (aP (qK (bU ff (cQ fg (ae 2) (ae 4) (λ _ _=>rfl)) aV) (qI (ae 2) (ae 4) set_list)))))
   (aK (fZ PassesOwn.never rfl (jb rfl T.iw (ai (bw (nd T) ar a9 (ai (ae 0) (ai aV az))) az)) (eD 3 l8)
    (aK (bq 4 l8 (cQ fe (ae 1) (bw (nd T) ar a9 (ai (ae 0) (ai (cL g7 T.fy fw (ai (ae 1) az)) az))) (λ _ _=>rfl)))
   (aP (qK (bU i9 (cQ fg (ae 2) (ae 4) (λ _ _=>rfl)) aV) (qI (ae 2) (ae 4) set_list)))))
   (aK (bq 5 l8 (fX tQ T.ix iv (ai (fP (eU l8 (N:=["one"]) (js:=[none]) (List.forall_mem_nil _)) rfl (ob (ae 2)) (λ _ _ _ _=>eX) (λ _ _ _ _=>fz)
     (λ _ _ _ _=>(cL (tA rfl) T.n4 n2 (ai aV (ai (ae 0) az))))) az)))
   (aK (bq 6 l8 (fX tQ T.ix iv (ai (fP (eU l8 (N:=["one"]) (js:=[none]) (List.forall_mem_nil _)) rfl (ob (ae 2)) (λ _ _ _ _=>eX) (λ _ _ _ _=>fz)
     (λ _ _ _ _=>(cL (tA rfl) T.n4 n2 (ai aV (ai (bU i9 aV (ae 0)) az))))) az)))
   (aP (bx (GG (ai (bw (Ke T) ar a9 (ai (ae 5) az)) (ai (bw (Ke T) ar a9 (ai (ae 6) az)) az)))))))))),?_⟩
  refine ⟨eB,λ la kz=>⟨la,10,_,rfl,rfl,br,by decide,by decide,by decide,λ l au=>?_⟩⟩;have ie:b≠a:=dN aa av nofun;have Es:a≠la:=b2 av kz;have gH:a≠l:=b2 (by rw [a3 Es];exact av) au;have eP:b3 a H (upd (upd H la (.lst [.int 0])) l (.lst (List.replicate (10:Int).toNat [V.int 0]).flatten)):=((b3.refl a H).new kz).new au;have sh:H l=none:=by
   have:=au;unfold upd at this;split at this
   ·cases this
   ·exact this
  have turn : ∀ (aw:aj) (bS:Int),b3 a H aw->aw a=some (.lst [.int bS]) -> ∃ m:Int,0<=m/\m<10/\0<=bS % ((ns.map V.int).length:Int)/\(ns.map V.int)[(bS % ((ns.map V.int).length:Int)).toNat]?=some (.int m):=by
   intro aw bS _ _;have Oz:((ns.map V.int).length:Int)=(ns.length:Int):=by rw [List.length_map]
   rw [Oz];have ou:=Int.emod_nonneg bS (show (ns.length:Int)≠0 by omega);have g1:=Int.emod_lt_of_pos bS (show (0:Int)<ns.length by omega);have aB:(bS % (ns.length:Int)).toNat<ns.length:=by omega
   obtain ⟨m0,gP⟩:=hm _ (List.getElem_mem aB);exact ⟨ns[(bS % (ns.length:Int)).toNat],m0,gP,ou,by rw [List.getElem?_map,List.getElem?_eq_getElem aB];rfl⟩
  have ab5:((ns.map V.int).length:Int)=(ns.length:Int):=by rw [List.length_map]
  have abE:=Int.emod_nonneg n (show (4:Int)≠0 by decide);have abF:=Int.emod_lt_of_pos n (show (0:Int)<4 by decide);refine ⟨_,rfl,a,n,4,rfl,(by rw [a3 gH,a3 Es];exact av),by decide,by decide,_,rfl,by omega,by omega,jG (n:=(n % 4).toNat) (λ i σ aw=>DK a b l H i 0 σ aw) ?_ ?_ ?_⟩
  ·exact ⟨n / 4,List.replicate 10 0,none,none,none,none,rfl,eP.set,br,by rw [a3 gH.symm,br];rfl,rfl,by decide,by decide⟩
  ·rintro i σ aw ax ⟨bS,xs,u,v,t1,bf,rfl,cS,eK,fb,ah,b_,hd⟩;obtain ⟨m,m0,gP,ou,nZ⟩:=turn aw bS cS eK;have iW:aw b=some (.tup (ns.map V.int)):=cS b _ ie aa;refine ⟨_,rfl,_,rfl,_,rfl,b,_,rfl,.inr (aW.of iW),a,bS,_,rfl,eK,by omega,by omega,b,_,_,_,rfl,rfl,aW.of (by rw [a3 ie];exact iW),g5 ou nZ,?_⟩;have ly:(upd aw a (.lst [.int (bS / ((ns.map V.int).length:Int))])) l=some (.lst (xs.map V.int)):=by rw [a3 gH.symm];exact fb
   have y0:m.toNat<xs.length:=by omega
   have ic:xs[m.toNat]?=some xs[m.toNat]:=List.getElem?_eq_getElem y0;have y9:(xs.map V.int)[m.toNat]?=some (.int xs[m.toNat]):=by rw [List.getElem?_map,ic];rfl
   refine ⟨_,rfl,_,rfl,l,_,_,_,rfl,rfl,a4.of ly,g5 m0 y9,_,_,rfl,rfl,_,rfl,_,rfl,l,_,_,_,rfl,rfl,ly,th m0 (by rw [List.length_map,ah];omega),?_⟩;refine ⟨bS / ((ns.map V.int).length:Int),xs.set m.toNat (xs[m.toNat]+1),_,_,t1,bf,rfl,?_,?_,?_,?_,?_,?_⟩
   ·intro c o eR e;rw [a3 (b2 e sh),a3 eR];exact cS c o eR e
   ·rw [a3 gH,br]
   ·rw [br,List.map_set]
   ·rw [List.length_set];exact ah
   ·exact Nat.le_trans (GJ ic) (by omega)
   ·exact Nat.le_trans (UU ic) hd
  rintro σ aw ⟨bS,xs,u,v,t1,bf,rfl,cS,eK,fb,ah,b_,hd⟩;have abG:=Int.emod_nonneg bS (show (4:Int)≠0 by decide);have abH:=Int.emod_lt_of_pos bS (show (0:Int)<4 by decide);refine ⟨_,rfl,a,bS,4,rfl,eK,by decide,by decide,_,rfl,by omega,by omega,jG (n:=(bS % 4).toNat) (λ i σ aw=>DK a b l H 3 i σ aw) ?_ ?_ ?_⟩
  ·exact ⟨bS / 4,xs,u,v,t1,bf,rfl,cS.set,br,by rw [a3 gH.symm];exact fb,ah,by omega,hd⟩
  ·clear b_ hd ah fb eK cS;rintro i σ aw ax ⟨bS,xs,u,v,t1,bf,rfl,cS,eK,fb,ah,b_,hd⟩;obtain ⟨m,m0,gP,ou,nZ⟩:=turn aw bS cS eK;have iW:aw b=some (.tup (ns.map V.int)):=cS b _ ie aa;refine ⟨_,rfl,_,rfl,_,rfl,b,_,rfl,.inr (aW.of iW),a,bS,_,rfl,eK,by omega,by omega,b,_,_,_,rfl,rfl,aW.of (by rw [a3 ie];exact iW),g5 ou nZ,?_⟩;have ly:(upd aw a (.lst [.int (bS / ((ns.map V.int).length:Int))])) l=some (.lst (xs.map V.int)):=by rw [a3 gH.symm];exact fb
   have y0:m.toNat<xs.length:=by omega
   have ic:xs[m.toNat]?=some xs[m.toNat]:=List.getElem?_eq_getElem y0;have y9:(xs.map V.int)[m.toNat]?=some (.int xs[m.toNat]):=by rw [List.getElem?_map,ic];rfl
   refine ⟨_,rfl,_,rfl,l,_,_,_,rfl,rfl,a4.of ly,g5 m0 y9,_,_,rfl,rfl,_,rfl,_,rfl,l,_,_,_,rfl,rfl,ly,th m0 (by rw [List.length_map,ah];omega),?_⟩;refine ⟨bS / ((ns.map V.int).length:Int),xs.set m.toNat (xs[m.toNat] - 1),_,_,t1,bf,rfl,?_,?_,?_,?_,?_,?_⟩
   ·intro c o eR e;rw [a3 (b2 e sh),a3 eR];exact cS c o eR e
   ·rw [a3 gH,br]
   ·rw [br,List.map_set]
   ·rw [List.length_set];exact ah
   ·exact Nat.le_trans (Wg ic) b_
   ·exact Nat.le_trans (X7 ic) (by omega)
  clear b_ hd ah fb eK cS;rintro σ aw ⟨bS,xs,u,v,t1,bf,rfl,cS,eK,fb,ah,b_,hd⟩;have gf:(downs xs).sum<=3:=by omega
  refine ⟨_,rfl,l,rfl,⟨_,a4.of fb⟩,λ D aY=>Kt (xs:=xs.map V.int) (f:=mM) rfl (by rw [List.length_map,ah];decide) aY (a4.of fb) ?_ ⟨D,_,rfl,.inl ⟨a4.of br,λ t aZ=>?_⟩⟩⟩
  ·intro x H' R ic r;obtain ⟨j,_,rfl⟩:=List.mem_map.mp ic;exact ⟨_,rfl,_,_,rfl,r⟩
  have sg:(upd (upd aw D (.lst ((xs.map V.int).map mM))) t (.tup ((xs.map V.int).map mM))) l=some (.lst (xs.map V.int)):=(aD.more (aD.new aY) aZ) _ _ fb;refine ⟨_,rfl,l,rfl,⟨_,a4.of sg⟩,λ xc cV=>Kt (xs:=xs.map V.int) (f:=qg) rfl (by rw [List.length_map,ah];decide) cV (a4.of sg) ?_ ⟨xc,_,rfl,.inl ⟨a4.of br,λ t' sr=>?_⟩⟩⟩
  ·intro x H' R ic r;obtain ⟨j,_,rfl⟩:=List.mem_map.mp ic;exact ⟨_,rfl,_,_,rfl,rfl,_,_,rfl,r⟩
  have s4:aD aw (upd (upd (upd (upd aw D (.lst ((xs.map V.int).map mM))) t (.tup ((xs.map V.int).map mM))) xc (.lst ((xs.map V.int).map qg))) t' (.tup ((xs.map V.int).map qg))):=aD.more (aD.more (aD.more (aD.new aY) aZ) cV) sr;have Od:(upd (upd (upd (upd aw D (.lst ((xs.map V.int).map mM))) t (.tup ((xs.map V.int).map mM))) xc (.lst ((xs.map V.int).map qg))) t' (.tup ((xs.map V.int).map qg))) t=some (.tup ((xs.map V.int).map mM)):=(aD.more (aD.new cV) sr) _ _ br;refine ⟨_,rfl,t,xs.map λ x=>if x > 0 then x else 0,rfl,?_,by rw [List.length_map];exact ah,?_,λ bH s5=>⟨_,rfl,t',xs.map λ x=>if 0 - x > 0 then 0 - x else 0,rfl,?_,by rw [List.length_map];exact ah,?_,λ dD cp=>⟨eB,λ p ay=>?_⟩⟩⟩
  ·rw [<-Th];exact aW.of Od
  ·intro e he;obtain ⟨x,ic,rfl⟩:=List.mem_map.mp he;have:=B1 (List.mem_map_of_mem (f:=Int.toNat) ic);have aF:(xs.map Int.toNat).sum<=3:=b_;split<;>omega
  ·rw [<-Ti];exact aW.of (s5 _ _ br)
  ·intro e he;obtain ⟨x,ic,rfl⟩:=List.mem_map.mp he;have:=B1 (List.mem_map_of_mem (f:=λ x:Int=>(-x).toNat) ic);have aF:(xs.map λ x:Int=>(-x).toNat).sum<=3:=gf;split<;>omega
  ·have EH:aD aw dD:=(s4.trans s5).trans cp;refine q p _ bS _ _ ((cS.trans (b3.of EH)).new ay) ?_ br ?_
   ·exact (aD.new ay) _ _ (EH _ _ eK)
   ·rw [SP,UT];exact JR b_ gf
noncomputable def jB (H:aj) (x:V):Prop := ∃ (c:Addr) (i j:Int),x=.ref c/\H c=some (.tup [.int i,.int j])/\fx i j=true
theorem jB.hV {H H':aj} {x:V} (a:Addr) (n:Int) (h:jB H x) (av:H a=some (.lst [.int n])) (cS:b3 a H H'):jB H' x:=by
 obtain ⟨c,i,j,rfl,ao,f⟩:=h;exact ⟨c,i,j,rfl,cS c _ (dN ao av nofun) ao,f⟩
noncomputable def Km:bF:=λ vs H Q _ => ∃ (a b:Addr) (n most:Int) (ns:List Int),vs=[.ref a,.ref b,.int most]/\H a=some (.lst [.int n])/\H b=some (.tup (ns.map V.int))/\1<=ns.length/\ns.length<=10/\(∀ m∈ns,0<=m/\m<10)/\1<=most/\most<=16 /\
 ∀ (p:Addr) (H':aj) (bS:Int) (xs:List V),b3 a H H'->H' a=some (.lst [.int bS])->H' p=some (.tup xs)->1<=xs.length->(xs.length:Int)<=most->(∀ x∈xs,jB H' x)->Q (.ref p) H'
theorem Zq (T:bt K mg):ck P w mg base bX 4 T.JI Km:=by
 refine T.JI.fn.cD Kj (λ vs H Q E h=>?_) (λ a5 A outer s H vs Q E ar h=>?_)
 ·obtain ⟨a,b,n,most,ns,rfl,_⟩:=h;rfl
 ·obtain ⟨a,b,n,most,ns,rfl,av,aa,uX,hP,hm,k1,k2,q⟩:=h;refine ⟨_,(aP (bx (fX tQ T.ix iv (ai (fP (eU Kj (N:=["k", "pot", "places"]) (js:=[none,some 0,some 1]) (List.forall_mem_cons.mpr ⟨rfl,(List.forall_mem_cons.mpr ⟨rfl,(List.forall_mem_nil _)⟩)⟩)) rfl (jb rfl T.iw (ai (bU ff aV (bw (nd T) ar a9 (ai (ae 0) (ai (ae 2) az)))) az)) (λ _ _ _ _=>eX) (λ _ _ _ _=>fz)
     (λ _ _ _ _=>(bw (ZR T) ar a9 (ai (ae 1) (ai (ae 2) az))))) az)))),?_⟩
  have ie:b≠a:=dN aa av nofun;have ou:=Int.emod_nonneg n (show most≠0 by omega);have g1:=Int.emod_lt_of_pos n (show 0<most by omega);refine ⟨_,rfl,_,rfl,a,n,most,rfl,av,by omega,by omega,_,_,rfl,rfl,_,rfl,by omega,by omega,λ D aY=>?_⟩;have u5:D≠a:=λ z=>by rw [z,br] at aY;cases aY
  have Nq:H D=none:=by rw [a3 u5] at aY;exact aY
  refine X6 (n:=(1+n % most).toNat) (by rw [sizeLine_eq];omega) (λ i σ' H' ys=>(∃ (u:Option V) (bS:Int),σ'=[u,some (.ref a),some (.ref b)]/\H' a=some (.lst [.int bS]))/\b3 a H H' /\ ∀ y∈ys,jB H' y) ⟨⟨none,n / most,rfl,by rw [a3 u5.symm,br]⟩,(b3.upd).new aY,λ y aL=>absurd aL (by simp)⟩ ?_ ?_
  ·rintro i σ' H' ys R ax cV fK ⟨⟨u,bS,rfl,gF⟩,cS,aL⟩ k;have hl:=cS b _ ie aa;refine ⟨_,rfl,_,rfl,a,b,bS,ns,rfl,gF,hl,uX,hP,hm,λ p aX gn xG LH yq jU Ee f4=>?_⟩;have oT:aX D=some (.lst ys):=yq D _ u5 cV;have bZ : ∀ c o,c≠D->aX c=some o->(upd aX D (.lst (ys++[V.ref p]))) c=some o:=λ c o eR e=>by rw [a3 eR];exact e
   have OP:p≠D:=dN Ee oT nofun;refine k _ _ _ oT ⟨⟨_,gn,rfl,bZ _ _ u5.symm jU⟩,?_,?_⟩
   ·intro c o eR e;exact bZ c o (b2 e Nq) (yq c o eR (cS c o eR e))
   ·intro y Oi;rcases List.mem_append.mp Oi with z | z
    ·obtain ⟨c,k_,nr,rfl,ao,f⟩:=jB.hV a bS (aL y z) gF yq;exact ⟨c,k_,nr,rfl,bZ _ _ (dN ao oT nofun) ao,f⟩
    ·rw [List.mem_singleton] at z;subst z;exact ⟨p,xG,LH,rfl,bZ _ _ OP Ee,f4⟩
  ·rintro σ' H' ys cV fK ⟨⟨u,bS,rfl,gF⟩,cS,aL⟩;refine ⟨D,_,rfl,.inl ⟨a4.of cV,λ p ay=>?_⟩⟩;refine q p _ bS ys (cS.new ay) ((aD.new ay) _ _ gF) br (by rw [fK];omega) (by rw [fK];omega) λ x ah=>?_
   obtain ⟨c,k_,nr,rfl,ao,f⟩:=aL x ah;exact ⟨c,k_,nr,rfl,(aD.new ay) _ _ ao,f⟩
noncomputable def YK:bF:=λ vs H Q _ => ∃ (a:Addr) (n h9:Int),vs=[.ref a,.int h9]/\H a=some (.lst [.int n])/\0<h9/\h9<1073741824 /\
 ∀ (r bS:Int) (H':aj),0<=r->r<h9->b3 a H H'->H' a=some (.lst [.int bS])->Q (.int r) H'
theorem l4 (T:bt K mg):ck P w mg base bX 1 T.A0 YK :=
 (nd T).imp λ vs H Q E ⟨a,n,h9,e,av,h0,af,q⟩=>⟨a,n,h9,e,av,h0,af,q _ (n / h9) _ (Int.emod_nonneg n (by omega)) (Int.emod_lt_of_pos n h0) b3.upd br⟩
noncomputable def Xu:bF:=λ vs H Q _ => ∃ (a b:Addr) (n most:Int) (ns:List Int),vs=[.ref a,.ref b,.int most]/\H a=some (.lst [.int n])/\H b=some (.tup (ns.map V.int))/\ns.length<=10/\(∀ m∈ns,0<=m/\m<10)/\0<=most/\most<=1000000 /\
 ∀ (p:Addr) (H':aj) (bS:Int) (es:List Int),b3 a H H'->H' a=some (.lst [.int bS])->H' p=some (.tup (es.map V.int))->es.length=10->(∀ e∈es,0<=e/\e<=most)->Q (.ref p) H'
theorem mem_set {α : Type} {xs:List α} {i:Nat} {v x : α} (h:x∈xs.set i v):x=v\/x∈xs:=(List.mem_or_eq_of_mem_set h).elim .inr .inl
theorem W9 (T:bt K mg):ck P w mg base bX 2 T.HJ Xu:=by
 refine T.HJ.fn.cD BQ (λ vs H Q E h=>?_) (λ a5 A outer s H vs Q E ar h=>?_)
 ·obtain ⟨a,b,n,most,ns,rfl,_⟩:=h;rfl
 ·obtain ⟨a,b,n,most,ns,rfl,av,aa,aC,hm,m0,gP,q⟩:=h;refine ⟨_,(aK (bq 3 BQ (bU H6 (l0 (ai aV az)) aV))
   (aK (fZ PassesOwn.never rfl (lV (ae 1)) (eD 4 BQ)
    (aP (qK (bw (l4 T) ar a9 (ai (ae 0) (ai (bU ff (ae 2) aV) az))) (qI (ae 3) (ae 4) set_list))))
   (aK (b7 (bO eW (bw (l4 T) ar a9 (ai (ae 0) (ai aV az))) aV (bM _))
    (aP (qK (bw (l4 T) ar a9 (ai (ae 0) (ai (bU ff (ae 2) aV) az))) (qI (ae 3) (bw (l4 T) ar a9 (ai (ae 0) (ai aV az))) set_list)))
    b8)
   (aP (bx (fX pE T.ix iv (ai (ae 3) az))))))),?_⟩
  have ie:b≠a:=dN aa av nofun;refine ⟨eB,λ la H1 f1 s1 kz=>⟨la,10,_,rfl,rfl,kz,by decide,by decide,by decide,λ l aw f2 s2 au=>?_⟩⟩;have gH:a≠l:=b2 (s1 _ _ av) f2;have sh:H l=none:=s1.free f2;refine ⟨_,rfl,b,rfl,⟨_,aW.of (s2 _ _ (s1 _ _ aa))⟩,G5 (xs:=ns.map V.int) (λ i σ aH => ∃ (bS:Int) (es:List Int) (u:Option V),σ=[some (.ref a),some (.ref b),some (.int most),some (.ref l),u]/\b3 a H aH/\aH a=some (.lst [.int bS])/\aH l=some (.lst (es.map V.int))/\es.length=10 /\ ∀ e∈es,0<=e/\e<=most)
   ⟨n,List.replicate 10 0,none,rfl,b3.of (s1.trans s2),s2 _ _ (s1 _ _ av),au,rfl,λ e he=>by rw [(List.mem_replicate.mp he).2];omega⟩ (λ i σ aH _ ⟨_,_,_,_,cS,_⟩=>aW.of (cS _ _ ie aa)) ?_ ?_⟩
  ·rintro i x σ aH ah ⟨bS,es,u,rfl,cS,p9,ly,he,dr⟩;obtain ⟨m,rfl,N1⟩:=hY ah;obtain ⟨k0,k1⟩:=hm m (List.mem_of_getElem? N1);refine ⟨_,rfl,_,rfl,_,_,rfl,rfl,a,bS,_,rfl,p9,by omega,by omega,λ r dp aX md bG fh jU=>?_⟩;refine ⟨_,rfl,_,rfl,l,_,_,_,rfl,rfl,fh _ _ gH.symm ly,th k0 (by rw [List.length_map,he];omega),⟨dp,es.set m.toNat r,_,rfl,?_,?_,?_,?_,?_⟩⟩
   ·intro c o eR e;rw [a3 (b2 e sh)];exact fh c o eR (cS c o eR e)
   ·rw [a3 gH];exact jU
   ·rw [br,List.map_set]
   ·rw [List.length_set];exact he
   ·intro e yZ;rcases mem_set yZ with z | z
    ·rw [z];omega
    ·exact dr e z
  rintro σ aH ⟨bS,es,u,rfl,cS,p9,ly,he,dr⟩;have fin : ∀ (bH:aj) (jk:Int) (kr:List Int),b3 a H bH->bH a=some (.lst [.int jk])->bH l=some (.lst (kr.map V.int))->kr.length=10->(∀ e∈kr,0<=e/\e<=most) -> ∀ p H',bH p=none->aD bH H'->H' p=some (.tup (kr.map V.int))->Q (.ref p) H' :=
   λ bH jk kr Mw jV abr yQ P0 p H' bh sp ay=>q p H' jk kr (Mw.trans (b3.of sp)) (sp _ _ jV) ay yQ P0
  refine ⟨_,rfl,a,bS,6,rfl,p9,by decide,by decide,λ r dp aX md bG fh jU=>⟨rfl,_,rfl,eg (λ _=>?_) (λ _=>?_)⟩⟩
  ·refine ⟨_,rfl,_,rfl,_,_,rfl,rfl,a,dp,_,rfl,jU,by omega,by omega,λ hD e9 bH EA abS d6 jV=>?_⟩;refine ⟨_,rfl,_,rfl,a,e9,10,rfl,jV,by decide,by decide,λ hh gn dD O1 abT kf NA=>?_⟩;have NZ:dD l=some (.lst (es.map V.int)):=kf _ _ gH.symm (d6 _ _ gH.symm (fh _ _ gH.symm ly));refine ⟨l,_,_,_,rfl,rfl,NZ,th O1 (by rw [List.length_map,he];omega),?_⟩;refine ⟨_,rfl,l,_,rfl,a4.of br,?_⟩;rw [<-List.map_set];refine fin _ gn (es.set hh.toNat hD) ?_ ?_ ?_ ?_ ?_
   ·intro c o eR e;rw [a3 (b2 e sh)];exact kf c o eR (d6 c o eR (fh c o eR (cS c o eR e)))
   ·rw [a3 gH];exact NA
   ·rw [br]
   ·rw [List.length_set];exact he
   ·intro e yZ;rcases mem_set yZ with z | z
    ·rw [z];omega
    ·exact dr e z
  ·have sg:aX l=some (.lst (es.map V.int)):=fh _ _ gH.symm ly;exact ⟨_,rfl,l,_,rfl,a4.of sg,fin aX dp es (cS.trans fh) jU sg he dr⟩
noncomputable def Ii:bF:=λ vs H Q _ => ∃ v,vs=[v]/\gy H v/\Q (.ba (sx v)) H
theorem Kc (T:bt K mg):jn P w mg base 1 T.qZ Ii:=by
 refine T.qZ.fn.jt Y3 (λ vs H Q E h=>?_) (λ a5 A outer s H vs Q E ar h=>?_)
 ·obtain ⟨v,rfl,_⟩:=h;rfl
 ·obtain ⟨v,rfl,k,q⟩:=h;refine ⟨_,(aP (bx (GC (cL l3 T.l7 l6 (ai (ae 0) (ai (lN (by rfl) T.vR vK) az))) (Ah (Sq (cL l3 T.l7 l6 (ai (ae 0) (ai (lN (by rfl) T.RR RC) az)))))))),?_⟩;obtain ⟨t,ty,e⟩:=Q5 (K:=K) k;obtain ⟨t',Pt,b5⟩:=Q4 (K:=K) k;rw [<-RJ] at q;refine ⟨v,rfl,v, "int", t,_,rfl,ty,e,_,rfl,?_⟩;cases ax:y_ v with
  | false =>
   rw [ax] at q;exact bB q
  | true =>
   rw [ax] at q;exact c6 ⟨v,rfl,v, "bool", t',_,rfl,Pt,b5,_,rfl,q⟩
theorem JY (T:bt K mg):ck P w mg base bX 1 T.qZ Ii:=(Kc T).fn
noncomputable def natAt (σ:St) (i:Nat):Nat:=match σ[i]? with
 | some (some (.int r))=>r.toNat
 | _=>0
theorem tp {i j:Int} (h:decide (V.int i=V.int j)=true):i=j:=by
 have:=of_decide_eq_true h;injection this
theorem G9 {i j:Int} (h : ¬ decide (V.int i=V.int j)=true):i≠j:=λ z=>h (decide_eq_true (by rw [z]))
theorem Y_ : ∀ (ag:List Nat) (i p n:Nat),ag[i]?=some p->jD (ag.take (i+1)) n=strip p (jD (ag.take i) n):=by
 intro ag i p n h;unfold jD;rw [List.take_add_one,h,List.foldl_append];rfl
noncomputable def La:bF:=λ vs H Q _ => ∃ m:Int,vs=[.int m]/\1<=m/\Q (.int (kW m.toNat:Nat)) H
theorem Lc (T:bt K mg):jn P w mg base 1 T.q9 La:=by
 refine T.q9.fn.jt w_ (λ vs H Q E h=>?_) (λ a5 A outer s H vs Q E ar h=>?_)
 ·obtain ⟨m,rfl,_⟩:=h;rfl
 ·obtain ⟨m,rfl,hm,q⟩:=h;refine ⟨_,(aK (bq 1 w_ (ae 0))
   (aK (fZ PassesOwn.never rfl (lV (ps (v:=.ref T.hC) (by rfl) T.nc rfl)) (eD 2 w_)
    (aP (qT PassesOwn.never (bO eW (bU n7 (ae 1) (ae 2)) aV (bM _))
    (aP (bq 1 w_ (bU tr (ae 1) (ae 2)))))))
   (aP (bx (ae 1))))),?_⟩
  refine ⟨_,rfl,T.hC,rfl,⟨en,T.j9 H⟩,G5 (xs:=en) (λ i σ aw=>(∃ u:Option V,σ=[some (.int m),some (.int (jD (ei.take i) m.toNat:Nat)),u])/\aw=H) ⟨⟨none,?_⟩,rfl⟩ (λ i σ aw _ _=>T.j9 aw) ?_ ?_⟩
  ·show [some (V.int m),some (V.int m),none]=_;rw [show jD (ei.take 0) m.toNat=m.toNat from rfl,Int.toNat_of_nonneg (by omega)]
  ·rintro i x σ aw ah ⟨⟨u,rfl⟩,rfl⟩;obtain ⟨p,rfl,ay,qq⟩:=tK ah;have gG:2<=p:=m6 p (List.mem_of_getElem? ay);have lI:1<=jD (ei.take i) m.toNat:=JA _ (λ r ar=>m6 r (List.mem_of_mem_take ar)) _ (by omega);refine qX (λ σ aH => ∃ r:Nat,σ=[some (.int m),some (.int (r:Int)),some (.int (p:Int))]/\1<=r/\strip p r=strip p (jD (ei.take i) m.toNat)/\aH=aw) (λ σ _=>natAt σ 1) ⟨_,rfl,lI,rfl,rfl⟩ ?_;rintro σ aH ⟨r,rfl,ee,mI,rfl⟩;refine ⟨_,rfl,_,rfl,_,_,rfl,rfl,(by show (0:Int)<p;omega),rfl,_,rfl,eg (λ h=>?_) (λ h=>?_)⟩
   ·have h0:(r:Int) % (p:Int)=0:=tp h;have mz:r % p=0:=by omega
    refine sS ⟨_,rfl,_,rfl,_,_,rfl,rfl,⟨by omega,by omega⟩,?_⟩;refine ⟨⟨r / p,?_,wO ee mz,by rw [<-wN gG ee mz];exact mI,rfl⟩,?_⟩
    ·rw [Int.natCast_ediv];rfl
    ·show ((r:Int) / (p:Int)).toNat<((r:Int)).toNat;rw [<-Int.natCast_ediv,Int.toNat_natCast,Int.toNat_natCast];exact Nat.div_lt_self ee gG
   ·have h0 : ¬ (r:Int) % (p:Int)=0:=G9 h;have mz:r % p≠0:=by omega
    refine ⟨⟨some (.int (p:Int)),?_⟩,rfl⟩;rw [Y_ ei i p _ ay,<-mI,tD mz]
  ·rintro σ aw ⟨⟨u,rfl⟩,rfl⟩;exact ⟨_,rfl,q⟩
theorem aaF (T:bt K mg):ck P w mg base bX 1 T.q9 La:=(Lc T).fn
noncomputable def Zx:bF:=λ vs H Q _ => ∃ (p:Nat) (m:Int),vs=[.int (p:Int),.int m]/\2<=p/\p<30/\1<=m/\Q (.int (cnt p m.toNat:Nat)) H
theorem ZN (T:bt K mg):jn P w mg base 1 T.tI Zx:=by
 refine T.tI.fn.jt tP (λ vs H Q E h=>?_) (λ a5 A outer s H vs Q E ar h=>?_)
 ·obtain ⟨p,m,rfl,_⟩:=h;rfl
 ·obtain ⟨p,m,rfl,gG,qq,hm,q⟩:=h;refine ⟨_,(aK (bq 2 tP aV)
   (aK (bq 3 tP (ae 1))
   (aK (qT PassesOwn.never (bO eW (bU n7 (ae 3) (ae 0)) aV (bM _))
    (aK (bq 3 tP (bU tr (ae 3) (ae 0)))
   (aP (bq 2 tP (bU ff (ae 2) aV)))))
   (aP (bx (ae 2)))))),?_⟩
  refine ⟨_,rfl,?_⟩;refine qX (λ σ aH => ∃ o r:Nat,σ=[some (.int (p:Int)),some (.int m),some (.int (o:Int)),some (.int (r:Int))]/\1<=r/\o+cnt p r=cnt p m.toNat/\aH=H) (λ σ _=>natAt σ 3) ⟨0,m.toNat,by rw [Int.toNat_of_nonneg (by omega)];rfl,by omega,Nat.zero_add _,rfl⟩ ?_;rintro σ aH ⟨o,r,rfl,ee,y5,rfl⟩;refine ⟨_,rfl,_,rfl,_,_,rfl,rfl,(by show (0:Int)<p;omega),rfl,_,rfl,eg (λ h=>?_) (λ h=>?_)⟩
  ·have h0:(r:Int) % (p:Int)=0:=tp h;have mz:r % p=0:=by omega
   refine sS ⟨_,rfl,_,rfl,_,_,rfl,rfl,⟨by omega,by omega⟩,_,rfl,_,_,rfl,rfl,?_⟩;refine ⟨⟨o+1,r / p,?_,wO ee mz,by rw [GX gG ee mz] at y5;omega,rfl⟩,?_⟩
   ·rw [Int.natCast_ediv,Int.natCast_add];rfl
   ·show ((r:Int) / (p:Int)).toNat<((r:Int)).toNat;rw [<-Int.natCast_ediv,Int.toNat_natCast,Int.toNat_natCast];exact Nat.div_lt_self ee gG
  ·have h0 : ¬ (r:Int) % (p:Int)=0:=G9 h;have mz:r % p≠0:=by omega
   rw [GY mz,Nat.add_zero] at y5;subst y5;exact ⟨_,rfl,q⟩
noncomputable def ZE:bF:=λ vs H Q _ => ∃ i:Int,vs=[.int i]/\1<=i/\kW i.toNat=1 /\ ∀ p H',aD H H'->H' p=some (tupI (gi (lU i.toNat)))->Q (.ref p) H'
theorem Kx (T:bt K mg):jn P w mg base 2 T.oc ZE:=by
 refine T.oc.fn.jt Kl (λ vs H Q E h=>?_) (λ a5 A outer s H vs Q E ar h=>?_)
 ·obtain ⟨i,rfl,_⟩:=h;rfl
 ·obtain ⟨i,rfl,af,aN,q⟩:=h;refine ⟨_,(aK (b7 (eG.pt (fY (gz (f3 (iA (Kc T) (ar.mono (by decide)) rfl rfl T.qZ.at_ T.qZ.fn.bZ T.qZ.bd (ai (ae 0) az)))) (fY (bO kR (ae 0) aV (bM _)) (hz (bO ik (iA (Lc T) (ar.mono (by decide)) rfl rfl T.q9.at_ T.q9.fn.bZ T.q9.bd (ai (ae 0) az)) aV (bM _))))))
    (aP eZ)
    b8)
   (aP (bx (fX pE T.ix iv (ai (fP (eU Kl (N:=["prime", "number"]) (js:=[none,some 0]) (List.forall_mem_cons.mpr ⟨rfl,(List.forall_mem_nil _)⟩)) rfl (lV (ps (v:=.ref T.hC) (by rfl) T.nc rfl)) (λ _ _ _ _=>eX) (λ _ _ _ _=>fz)
     (λ _ _ _ _=>(iA (ZN T) (ar.mono (by decide)) rfl rfl T.tI.at_ T.tI.fn.bZ T.tI.bd (ai (ae 0) (ai (ae 1) az))))) az))))),?_⟩
  refine ⟨_,rfl,_,rfl,trivial,_,rfl,bB ?_⟩;refine ⟨_,rfl,_,_,rfl,rfl,_,rfl,?_⟩;rw [decide_eq_false (show ¬ i<1 by omega)];refine bB ⟨_,rfl,i,rfl,af,rfl,_,rfl,?_⟩;rw [aN];refine bB ?_;refine ⟨T.hC,rfl,⟨en,T.j9 H⟩,λ D aY=>J_ (xs:=en) (f:=λ v=>match v with | .int p=>V.int (cnt p.toNat i.toNat:Nat) | v=>v) rfl (by decide) aY (T.j9 H) ?_ ?_⟩
  ·intro x H' R ah r;obtain ⟨z,aN⟩:=List.getElem?_of_mem ah;obtain ⟨p,rfl,ay,qq⟩:=tK aN;have gG:2<=p:=m6 p (List.mem_of_getElem? ay);refine ⟨_,rfl,_,rfl,p,i,rfl,gG,qq,by omega,?_⟩;have cb:R (V.int (cnt ((p:Int).toNat) i.toNat:Nat)) H':=r;rw [Int.toNat_natCast] at cb;exact cb
  ·refine ⟨D,_,rfl,a4.of br,λ p H' bh sp ay=>q p H' ((aD.new aY).trans sp) ?_⟩;rw [ay];rfl
theorem UI (n d:Nat):List.zipWith (λ x y:Int=>x - y) (gi (lU n)) (gi (lU d))=chg n d:=by
 unfold gi chg;rw [List.zipWith_map]
noncomputable def aaN:bF:=λ vs H Q _ => ∃ (b:Addr) (i j:Int),vs=[.ref b]/\H b=some (.tup [.int i,.int j])/\fx i j=true /\ ∀ p H',aD H H'->H' p=some (tupI (chg i.toNat j.toNat))->Q (.ref p) H'
theorem aaP (T:bt K mg):jn P w mg base 3 T.tX aaN:=by
 refine T.tX.fn.jt xa (λ vs H Q E h=>?_) (λ a5 A outer s H vs Q E ar h=>?_)
 ·obtain ⟨b,i,j,rfl,_⟩:=h;rfl
 ·obtain ⟨b,i,j,rfl,aa,hf,q⟩:=h;refine ⟨_,(aK (bq 1 xa (iA (Kx T) (ar.mono (by decide)) rfl rfl T.oc.at_ T.oc.fn.bZ T.oc.bd (ai (cQ fe (ae 0) aV (λ _ _=>rfl)) az)))
   (aK (bq 2 xa (iA (Kx T) (ar.mono (by decide)) rfl rfl T.oc.at_ T.oc.fn.bZ T.oc.bd (ai (cQ fe (ae 0) aV (λ _ _=>rfl)) az)))
   (aP (bx (fX pE T.ix iv (ai (fP (eU xa (N:=["top", "bottom"]) (js:=[none,none]) (List.forall_mem_nil _)) rfl (qJ rfl rfl T.j4 (ai (ae 1) (ai (ae 2) az))) (λ _ _ _ _=>(oa (K:=K) (n:=2) rfl rfl (eE eX (eE (l1 (i:=1) (show List.Nodup (["top", "bottom"]:List Str) from by decide +kernel) rfl (Or.inl rfl) (Or.inr rfl)) ja)))) (λ _ _ _ _=>fz)
     (λ _ _ _ _=>(bU i9 (ae 0) (ae 1)))) az)))))),?_⟩
  obtain ⟨⟨er,hg⟩,⟨cY,dn⟩⟩:=JQ hf;refine ⟨_,rfl,b,_,_,_,rfl,rfl,aW.of aa,rfl,i,rfl,er,hg,λ p1 H1 s1 sm=>?_⟩;refine ⟨_,rfl,b,_,_,_,rfl,rfl,aW.of (s1 _ _ aa),rfl,j,rfl,cY,dn,λ cR aw s2 gG=>?_⟩;refine ⟨_,rfl,_,rfl,p1,cR,rfl,⟨_,aW.of (s2 _ _ sm)⟩,⟨_,aW.of gG⟩,λ D aY=>?_⟩;refine Kv (f:=λ x y=>x - y) (σ0:=[]) (xs:=gi (lU i.toNat)) (ys:=gi (lU j.toNat)) (by simp [gi,lU,ei];decide) ⟨_,_,rfl⟩ aY (s2 _ _ sm) gG (λ x y H' R _ _ r=>⟨_,rfl,_,rfl,_,_,rfl,rfl,r⟩) λ aH s3 aF=>?_
  refine ⟨D,_,rfl,a4.of aF,λ p aX bh s4 ay=>q p aX (((s1.trans s2).trans s3).trans s4) ?_⟩;rw [ay,UI]
noncomputable def KH:bF:=λ vs H Q _ => ∃ (b:Addr) (xs:List V) (ak:List (Int×Int)),vs=[.ref b]/\H b=some (.tup xs)/\eC H xs ak/\xs.length<=1000 /\
 ∀ l H' ys,H l=none->aD H H'->H' l=some (.lst ys)->dy H' ys (rowsOf ak)->Q (.ref l) H'
theorem KP (T:bt K mg):jn P w mg base 4 T.q5 KH:=by
 refine T.q5.fn.jt KD (λ vs H Q E h=>?_) (λ a5 A outer s H vs Q E ar h=>?_)
 ·obtain ⟨b,xs,ak,rfl,_⟩:=h;rfl
 ·obtain ⟨b,xs,ak,rfl,aa,hf,au,q⟩:=h;refine ⟨_,(aP (bx (fP (eU KD (N:=["fraction"]) (js:=[none]) (List.forall_mem_nil _)) rfl (lV (ae 0)) (λ _ _ _ _=>eX) (λ _ _ _ _=>fz)
     (λ _ _ _ _=>(iA (aaP T) (ar.mono (by decide)) rfl rfl T.tX.at_ T.tX.fn.bZ T.tX.bd (ai (ae 0) az)))))),?_⟩
  refine ⟨_,rfl,b,rfl,⟨_,aW.of aa⟩,λ D aY=>?_⟩;refine qS (xs:=xs) (by rw [sizeLine_eq];omega) (λ i σ' H' ys=>(∃ u:Option V,σ'=[u])/\aD H H'/\dy H' ys ((rowsOf ak).take i)) ⟨⟨_,rfl⟩,aD.new aY,dy.nil⟩ (λ i σ' H' ys _ _ ⟨_,s',_⟩=>aW.of (s' _ _ aa)) ?_ ?_
  ·rintro i x σ' H' ys R ah cV fK ⟨⟨u,rfl⟩,s',fW⟩ et;obtain ⟨a,d,c,f1,rfl,ao,f4⟩:=hf.2 i x ah;refine ⟨_,rfl,c,a,d,rfl,s' _ _ ao,f4,λ p aw s2 ay=>?_⟩;refine et _ _ _ (s2 _ _ cV) ⟨⟨_,rfl⟩,?_,?_⟩
   ·intro e o da;rw [a3 (b2 da aY)];exact s2 _ _ (s' _ _ da)
   ·have aE:(rowsOf ak)[i]?=some (chg a.toNat d.toNat):=by unfold rowsOf;rw [List.getElem?_map,f1];rfl
    rw [List.take_add_one,aE];exact dy.but ((fW.same s2).app (dy.one ⟨p,rfl,ay⟩)) (s2 _ _ cV) b3.upd
  ·rintro σ' H' ys cV fK ⟨_,s',fW⟩;rw [List.take_of_length_le (by rw [pC,<-hf.1];exact Nat.le_refl _)] at fW;exact q D H' ys aY s' cV fW
theorem tR (T:bt K mg):ck P w mg base bX 4 T.q5 KH:=(KP T).fn
noncomputable def Uq:bF:=λ vs H Q _ => ∃ (a b:Addr) (cs ag:List Int),vs=[.ref a,.ref b]/\H a=some (tupI cs)/\H b=some (tupI ag) /\ ∀ H',aD H H'->Q (.ba (eh cs ag)) H'
theorem S3 {cs ag:List Int} {i:Nat} {a b:Int} (af:cs[i]?=some a) (aq:ag[i]?=some b) (h:b+a<0):eh cs ag=false:=by
 rw [Bool.eq_false_iff];intro z;have:=wH.mp z i a b af aq;omega
theorem H5 (T:bt K mg):jn P w mg base 1 T.n5 Uq:=by
 refine T.n5.fn.jt AP (λ vs H Q E h=>?_) (λ a5 A outer s H vs Q E ar h=>?_)
 ·obtain ⟨a,b,cs,ag,rfl,_⟩:=h;rfl
 ·obtain ⟨a,b,cs,ag,rfl,av,aa,q⟩:=h;refine ⟨_,(aK (fZ PassesOwn.never rfl (qJ rfl rfl T.j4 (ai (ae 0) (ai (ae 1) az))) (pq rfl (eE (eD 2 AP) (eE (eD 3 AP) ja)))
    (aP (b7 (bO kR (bU ff (ae 3) (ae 2)) aV (bM _))
    (aP (bx i7))
    b8)))
   (aP (bx i7))),?_⟩
  refine ⟨_,rfl,_,rfl,a,b,rfl,⟨_,aW.of av⟩,⟨_,aW.of aa⟩,?_⟩;refine G6 (xs:=cs.map V.int) (ys:=ag.map V.int) (λ i σ aw=>(∃ u v:Option V,σ=[some (.ref a),some (.ref b),u,v])/\aD H aw /\ ∀ j,j<i -> ∀ x y,cs[j]?=some x->ag[j]?=some y->0<=y+x) ⟨⟨none,none,rfl⟩,aD.refl H,λ j bj=>by omega⟩ (λ i σ aw _ ⟨_,s2,_⟩=>⟨aW.of (s2 _ _ av),aW.of (s2 _ _ aa)⟩) ?_ ?_
  ·rintro i x y p σ aw ah aL ay ⟨⟨u,v,rfl⟩,s2,g0⟩;obtain ⟨x,rfl,cZ⟩:=hY ah;obtain ⟨y,rfl,d9⟩:=hY aL;refine ⟨p,_,rfl,aW.of br,rfl,_,_,rfl,_,_,rfl,rfl,?_⟩;refine ⟨_,rfl,_,rfl,_,_,rfl,rfl,_,_,rfl,rfl,_,rfl,eg (λ h=>?_) (λ h=>?_)⟩
   ·have h0:y+x<0:=of_decide_eq_true h;have a8:=q _ (aD.more (o:=.tup [.int x,.int y]) s2 ay);rw [S3 cZ d9 h0] at a8;exact a8
   ·have h0 : ¬ y+x<0:=λ z=>h (decide_eq_true z)
    refine ⟨⟨_,_,rfl⟩,aD.more s2 ay,λ j bj dI fs aE aI=>?_⟩;by_cases sf:j=i
    ·subst sf;rw [cZ] at aE;rw [d9] at aI;cases aE;cases aI;omega
    ·exact g0 j (by omega) dI fs aE aI
  ·rintro σ aw ⟨⟨u,v,rfl⟩,s2,g0⟩;have a8:=q aw s2;rw [wH.mpr λ j x y aE aI=>g0 j ?_ x y aE aI] at a8
   ·exact a8
   ·have af:=(List.getElem?_eq_some_iff.mp aE).1;have aq:=(List.getElem?_eq_some_iff.mp aI).1;rw [List.length_map,List.length_map];omega
noncomputable def J2:bF:=λ vs H Q _ => ∃ (l b:Addr) (ys:List V) (rows:List (List Int)) (ag:List Int),vs=[.ref l,.ref b]/\H l=some (.lst ys)/\dy H ys rows/\H b=some (tupI ag) /\ ∀ H',aD H H'->Q (jz (cv rows ag)) H'
theorem Kb (T:bt K mg):jn P w mg base 2 T.qY J2:=by
 refine T.qY.fn.jt Cw (λ vs H Q E h=>?_) (λ a5 A outer s H vs Q E ar h=>?_)
 ·obtain ⟨l,b,ys,rows,ag,rfl,_⟩:=h;rfl
 ·obtain ⟨l,b,ys,rows,ag,rfl,au,mI,aa,q⟩:=h;refine ⟨_,(aK (fZ PassesOwn.never rfl (Hs rfl rfl T.JU (ai (ae 0) az)) (pq rfl (eE (eD 2 Cw) (eE (eD 3 Cw) ja)))
    (aP (b7 (f3 (iA (H5 T) (ar.mono (by decide)) rfl rfl T.n5.at_ T.n5.fn.bZ T.n5.bd (ai (ae 3) (ai (ae 1) az))))
    (aP (bx (ae 2)))
    b8)))
   (aP (bx iq))),?_⟩
  refine ⟨_,rfl,l,ys,rfl,au,?_⟩;refine HS (xs:=ys) (λ i σ aw=>(∃ u v:Option V,σ=[some (.ref l),some (.ref b),u,v])/\aD H aw /\ ∀ j,j<i -> ∀ c,rows[j]?=some c->eh c ag=false) ⟨⟨none,none,rfl⟩,aD.refl H,λ j bj=>by omega⟩ (λ i σ aw _ ⟨_,s2,_⟩=>s2 _ _ au) ?_ ?_
  ·rintro i x p σ aw ah ay ⟨⟨u,v,rfl⟩,s2,g0⟩;obtain ⟨c,a,ao,rfl,av⟩:=mI.at ah;have s3:=aD.more (o:=.tup [.int (i:Int),.ref a]) s2 ay;refine ⟨p,_,rfl,aW.of br,rfl,_,_,rfl,_,_,rfl,rfl,?_⟩;refine ⟨_,rfl,_,rfl,a,b,c,ag,rfl,s3 _ _ av,s3 _ _ aa,λ aX s4=>⟨_,rfl,eg (λ h=>?_) (λ h=>?_)⟩⟩
   ·have a8:=q aX (s3.trans s4);rw [AB rows ag i g0 (λ cj e=>by rw [ao] at e;cases e;exact h) (List.getElem?_eq_some_iff.mp ao).1] at a8;exact ⟨_,rfl,a8⟩
   ·refine ⟨⟨_,_,rfl⟩,s3.trans s4,λ j bj cj e=>?_⟩;by_cases sf:j=i
    ·subst sf;rw [ao] at e;cases e;cases z:eh c ag with
     | true=>exact absurd z h
     | false=>rfl
    ·exact g0 j (by omega) cj e
  ·rintro σ aw ⟨⟨u,v,rfl⟩,s2,g0⟩;have a8:=q aw s2;rw [IT rows ag λ j c e=>g0 j (by rw [mI.1];exact (List.getElem?_eq_some_iff.mp e).1) c e] at a8;exact a8
theorem tJ (T:bt K mg):ck P w mg base bX 2 T.qY J2:=(Kb T).fn
noncomputable def Ih:bF:=λ vs H Q _ => ∃ (a b:Addr) (ag cs:List Int) (m:Int),vs=[.ref a,.ref b,.int m]/\H a=some (tupI ag)/\H b=some (tupI cs)/\(-(2 ^ 64)<m/\m<2 ^ 64)/\ag.length<=1000 /\ ∀ p H',aD H H'->H' p=some (tupI (bP ag cs m))->Q (.ref p) H'
theorem BD (T:bt K mg):jn P w mg base 1 T.m7 Ih:=by
 refine T.m7.fn.jt Ie (λ vs H Q E h=>?_) (λ a5 A outer s H vs Q E ar h=>?_)
 ·obtain ⟨a,b,ag,cs,m,rfl,_⟩:=h;rfl
 ·obtain ⟨a,b,ag,cs,m,rfl,av,aa,hm,au,q⟩:=h;refine ⟨_,(aP (bx (fX pE T.ix iv (ai (fP (eU Ie (N:=["power", "change", "many"]) (js:=[none,none,some 2]) (List.forall_mem_cons.mpr ⟨rfl,(List.forall_mem_nil _)⟩)) rfl (qJ rfl rfl T.j4 (ai (ae 0) (ai (ae 1) az))) (λ _ _ _ _=>(oa (K:=K) (n:=2) rfl rfl (eE eX (eE (l1 (i:=1) (show List.Nodup (["power", "change", "many"]:List Str) from by decide +kernel) rfl (Or.inl rfl) (Or.inr rfl)) ja)))) (λ _ _ _ _=>fz)
     (λ _ _ _ _=>(bU ff (ae 0) (bU n8 (ae 2) (ae 1))))) az)))),?_⟩
  refine ⟨_,rfl,_,rfl,a,b,rfl,⟨_,aW.of av⟩,⟨_,aW.of aa⟩,λ D aY=>?_⟩;refine Kv (f:=λ x y=>x+m * y) (σ0:=[some (.int m)]) (xs:=ag) (ys:=cs) (by rw [sizeLine_eq];omega) ⟨_,_,rfl⟩ aY av aa (λ x y H' R _ _ r=>⟨_,rfl,_,rfl,_,rfl,_,_,rfl,rfl,.inl hm,_,_,rfl,rfl,r⟩) λ aH s3 aF=>?_
  exact ⟨D,_,rfl,a4.of aF,λ p aX bh s4 ay=>q p aX (s3.trans s4) ay⟩
theorem tv (T:bt K mg):ck P w mg base bX 1 T.m7 Ih:=(BD T).fn
theorem G8 {rows:List (List Int)} {p:List Int} : ∀ {k j:Nat} {q:List Int},goN rows k p=some q->j<=k -> ∃ r,goN rows j p=some r
 | 0,j,q,h,bj=>by rw [show j=0 by omega];exact ⟨q,h⟩
 | k+1,j,q,h,bj=>by
  by_cases e:j=k+1
  ·rw [e];exact ⟨q,h⟩
  ·obtain ⟨r,af,_⟩:=Option.bind_eq_some_iff.mp h;exact G8 af (by omega)
noncomputable def V1:bF:=λ vs H Q _ => ∃ (b a:Addr) (xs:List V) (ak:List (Int×Int)) (ag r:List Int) (m:Int),vs=[.ref b,.ref a,.int m]/\H b=some (.tup xs)/\eC H xs ak/\xs.length<=1000/\H a=some (tupI ag)/\ag.length=10/\nn ag=true/\0<=m/\m<2 ^ 62/\goN (rowsOf ak) m.toNat ag=some r /\
 ∀ a8 H',aD H H'->H' a8=some (tupI r)->Q (.ref a8) H'
theorem Vp (T:bt K mg):ck P w mg base bX 5 T.GL V1:=by
 refine T.GL.fn.cD qU (λ vs H Q E h=>?_) (λ a5 A outer s H vs Q E ar h=>?_)
 ·obtain ⟨b,a,xs,ak,ag,r,m,rfl,_⟩:=h;rfl
 ·obtain ⟨b,a,xs,ak,ag,r,m,rfl,aa,hf,au,av,d4,d1,m0,jj,gU,q⟩:=h;refine ⟨_,(aK (bq 3 qU (bw (tR T) ar a9 (ai (ae 0) az)))
   (aK (bq 4 qU (ae 1))
   (aK (fZ PassesOwn.never rfl (jb rfl T.iw (ai (ae 2) az)) (eD 5 qU)
    (aK (bq 6 qU (bw (tJ T) ar a9 (ai (ae 3) (ai (ae 4) az))))
   (aK (b7 (bO lT (ae 6) iq (bM _))
    (aP eZ)
    b8)
   (aP (bq 4 qU (bw (tv T) ar a9 (ai (ae 4) (ai (cQ fg (ae 3) (ae 6) (λ _ _=>rfl)) (ai aV az)))))))))
   (aP (bx (ae 4)))))),?_⟩
  refine ⟨_,rfl,b,xs,ak,rfl,aa,hf,au,λ l H1 ys df s1 dt ee=>?_⟩;refine ⟨_,rfl,_,rfl,m,rfl,by omega,jj,jG (n:=m.toNat) (λ i σ aH => ∃ (c:Addr) (cur:List Int) (u v:Option V),σ=[some (.ref b),some (.ref a),some (.int m),some (.ref l),some (.ref c),u,v]/\aD H1 aH/\aH c=some (tupI cur)/\goN (rowsOf ak) i ag=some cur)
   ⟨a,ag,none,none,rfl,aD.refl H1,s1 _ _ av,rfl⟩ ?_ ?_⟩
  ·rintro i σ aH ax ⟨c,cur,u,v,rfl,s3,iX,ia⟩;obtain ⟨bl,Ec⟩:=G8 (j:=i+1) gU (by omega);have cC:eM (rowsOf ak) cur=some bl:=by
    have:(goN (rowsOf ak) i ag).bind (eM (rowsOf ak))=some bl:=Ec;rw [ia] at this;exact this
   obtain ⟨k,d,af,aq,_,aU⟩:=Bi cC;obtain ⟨x,e,ah,rfl,he⟩:=(ee.same s3).of aq;have uI:=(m3 (jH ak) d4 d1 ia).1;refine ⟨_,rfl,_,rfl,l,c,ys,rowsOf ak,cur,rfl,s3 _ _ dt,ee.same s3,iX,λ aX s4=>?_⟩;rw [af];refine ⟨_,rfl,rfl,_,rfl,bB ⟨_,rfl,_,rfl,_,rfl,l,_,_,_,rfl,rfl,a4.of (s4 _ _ (s3 _ _ dt)),g5 (Int.natCast_nonneg k) (by rw [Int.toNat_natCast];exact ah),c,e,cur,d,1,rfl,s4 _ _ iX,s4 _ _ he,⟨by decide,by decide⟩,by omega,λ p dD cp lA=>?_⟩⟩;rw [<-aU] at lA;exact ⟨p,bl,_,_,rfl,(s3.trans s4).trans cp,lA,Ec⟩
  ·rintro σ aH ⟨c,cur,u,v,rfl,s3,iX,ia⟩;rw [gU] at ia;cases ia;exact ⟨_,rfl,q c aH (s1.trans s3) iX⟩
noncomputable def vP (H:aj) (a:Addr):Nat:=match H a with
 | some (.lst xs)=>xs.length
 | _=>0
noncomputable def V8:bF:=λ vs H Q _ => ∃ (b a:Addr) (xs:List V) (ak:List (Int×Int)) (ag:List Int) (m:Int),vs=[.ref b,.ref a,.int m]/\H b=some (.tup xs)/\eC H xs ak/\xs.length<=1000/\H a=some (tupI ag)/\ag.length=10/\0<=m/\m<=1000 /\
 ∀ a8 H',H a8=none->aD H H'->H' a8=some (.lst ((gi (fM (rowsOf ak) m.toNat ag)).map V.int))->Q (.ref a8) H'
theorem Vs (T:bt K mg):ck P w mg base bX 5 T.GO V8:=by
 refine T.GO.fn.cD qW (λ vs H Q E h=>?_) (λ a5 A outer s H vs Q E ar h=>?_)
 ·obtain ⟨b,a,xs,ak,ag,m,rfl,_⟩:=h;rfl
 ·obtain ⟨b,a,xs,ak,ag,m,rfl,aa,hf,au,av,d4,m0,jj,q⟩:=h;refine ⟨_,(aK (bq 3 qW (bw (tR T) ar a9 (ai (ae 0) az)))
   (aK (bq 4 qW (ae 1))
   (aK (bq 5 qW (l0 az))
   (aK (qT PassesOwn.never (bO kR (cL g7 T.fy fw (ai (ae 5) az)) (ae 2) (bM _))
    (aK (bq 6 qW (bw (tJ T) ar a9 (ai (ae 3) (ai (ae 4) az))))
   (aK (b7 (bO lT (ae 6) iq (bM _))
    (aP (bx (ae 5)))
    b8)
   (aK (hB (g4 PySem.F.plainAttrs_list PySem.F.slot_list_append PySem.F.type_list_append q2 (ae 5) (ai (ae 6) az)))
   (aP (bq 4 qW (bw (tv T) ar a9 (ai (ae 4) (ai (cQ fg (ae 3) (ae 6) (λ _ _=>rfl)) (ai aV az))))))))))
   (aP (bx (ae 5))))))),?_⟩
  refine ⟨_,rfl,b,xs,ak,rfl,aa,hf,au,λ l H1 ys df s1 dt ee=>?_⟩;refine ⟨_,rfl,eB,λ e_ aw f2 s2 Of=>?_⟩;refine qX (λ σ aH => ∃ (r:Addr) (ws:List Nat) (cur:List Int) (v:Option V),σ=[some (.ref b),some (.ref a),some (.int m),some (.ref l),some (.ref r),some (.ref e_),v]/\aD H1 aH/\aH e_=some (.lst ((gi ws).map V.int))/\aH r=some (tupI cur)/\cur.length=10/\ws.length<=m.toNat/\ws++fM (rowsOf ak) (m.toNat - ws.length) cur=fM (rowsOf ak) m.toNat ag)
   (λ _ aH=>m.toNat - vP aH e_) ⟨a,[],ag,none,rfl,s2,Of,s2 _ _ (s1 _ _ av),d4,Nat.zero_le _,rfl⟩ ?_
  rintro σ aH ⟨r,ws,cur,v,rfl,s3,nH,kD,uI,iZ,qe⟩;have si:(((gi ws).map V.int).length:Int)=(ws.length:Int):=by rw [List.length_map];unfold gi;rw [List.length_map]
  refine ⟨_,rfl,e_,_,rfl,.inl (a4.of nH),_,rfl,_,_,rfl,rfl,_,rfl,eg (λ h=>?_) (λ h=>?_)⟩
  ·have h0:(((gi ws).map V.int).length:Int)<m:=of_decide_eq_true h;rw [si] at h0;obtain ⟨d,hd⟩ : ∃ d,m.toNat - ws.length=d+1:=⟨m.toNat - ws.length - 1,by omega⟩
   refine sS ⟨_,rfl,_,rfl,l,r,ys,rowsOf ak,cur,rfl,s3 _ _ dt,ee.same s3,kD,λ aX s4=>?_⟩;cases gw:cv (rowsOf ak) cur with
   | none =>
    refine ⟨_,rfl,rfl,_,rfl,c6 ⟨_,rfl,?_⟩⟩;rw [Bj gw,List.append_nil] at qe;rw [<-qe] at q;exact q e_ aX (s1.free f2) ((s1.trans s3).trans s4) (s4 _ _ nH)
   | some k =>
    obtain ⟨c,ao,_,aB⟩:=m8 gw;obtain ⟨x,e,ah,rfl,he⟩:=(ee.same s3).of ao;refine ⟨_,rfl,rfl,_,rfl,bB ⟨_,rfl,.inl ⟨rfl,_,a4.of (s4 _ _ nH)⟩,_,rfl,e_,_,_,rfl,rfl,s4 _ _ nH,?_,λ bH d6 bW=>?_⟩⟩
    ·rw [List.length_map];unfold gi;rw [List.length_map,sizeLine_eq];omega
    have bZ : ∀ c o,H1 c=some o->bH c=some o:=λ c o da=>d6 c o (λ z=>by rw [z,f2] at da;cases da) (s4 _ _ (s3 _ _ da))
    have OR:r≠e_:=dN kD nH nofun;have OK:e≠e_:=dN he nH nofun;have yQ:bH e=some (tupI c):=d6 _ _ OK (s4 _ _ he);refine ⟨_,rfl,_,rfl,_,rfl,l,_,_,_,rfl,rfl,a4.of (bZ _ _ dt),g5 (Int.natCast_nonneg k) (by rw [Int.toNat_natCast];exact ah),r,e,cur,c,1,rfl,d6 _ _ OR (s4 _ _ kD),yQ,⟨by decide,by decide⟩,by omega,λ p dD cp lA=>?_⟩;refine ⟨⟨p,ws++[k],bP cur c 1,_,rfl,?_,?_,lA,tF uI (jH ak c (List.mem_of_getElem? ao)),by rw [List.length_append];show ws.length+1<=_;omega,?_⟩,?_⟩
    ·exact λ c o da=>cp _ _ (bZ c o da)
    ·rw [cp _ _ bW];unfold gi;rw [List.map_append,List.map_append];rfl
    ·rw [hd,Bk gw ao] at qe;rw [List.length_append,show m.toNat - (ws.length + [k].length)=d by show m.toNat - (ws.length+1)=d;omega,List.append_assoc];exact qe
    ·show m.toNat - vP dD e_<m.toNat - vP aH e_;unfold vP;rw [cp _ _ bW,nH];show m.toNat - ((gi ws).map V.int++[V.int (k:Int)]).length<m.toNat - ((gi ws).map V.int).length;have:((gi ws).map V.int).length=ws.length:=by rw [List.length_map];unfold gi;rw [List.length_map]
     rw [List.length_append,this];show m.toNat - (ws.length+1)<m.toNat - ws.length;omega
  ·have h0 : ¬ (((gi ws).map V.int).length:Int)<m:=λ z=>h (decide_eq_true z)
   rw [si] at h0;rw [show m.toNat - ws.length=0 by omega] at qe;have Qg:ws=fM (rowsOf ak) m.toNat ag:=by rw [<-qe];show ws=ws++[];rw [List.append_nil]
   rw [<-Qg] at q;exact ⟨_,rfl,q e_ aH (s1.free f2) (s1.trans s3) nH⟩
noncomputable def DJ (H:aj) (v:V):pI->Prop
 | .round b l => ∃ a,v=.ref a/\H a=some (.tup [.str "round", .int (b:Int),.int (l:Int)])
 | .rests n c => ∃ a d,v=.ref a/\H a=some (.tup [.str "rests", .int (n:Int),.ref d])/\H d=some (tupI c)
 | .hW => ∃ a,v=.ref a/\H a=some (.tup [.str "open"])
structure mZ (rows:List (List Int)) (ag:List Int) (i:Nat) (kvs:List (List Key×V)):Prop where
 len:kvs.length<=i
 out : ∀ e v,cE kvs (gD e)=some v -> ∃ j:Nat,j<i/\v=.int (j:Int)/\goN rows j ag=some e
 Ek : ∀ (j:Nat),j<i -> ∀ e,goN rows j ag=some e -> ∃ v,cE kvs (gD e)=some v
theorem mZ.nil {rows:List (List Int)} {ag:List Int}:mZ rows ag 0 []:=⟨Nat.le_refl _,(λ e v h=>by cases h),(λ j h=>by omega)⟩
theorem mZ.put {rows:List (List Int)} {ag cur:List Int} {i:Nat} {kvs:List (List Key×V)} (S:mZ rows ag i kvs) (ao:goN rows i ag=some cur):mZ rows ag (i+1) (putK kvs (gD cur) (.int (i:Int))):=by
 refine ⟨?_,λ e v h=>?_,λ j bj e he=>?_⟩
 ·have:=Cg kvs (gD cur) (.int (i:Int));have:=S.len;omega
 ·by_cases z:e=cur
  ·subst z;rw [KI] at h;exact ⟨i,by omega,(Option.some.inj h).symm,ao⟩
  ·rw [J4 z] at h;obtain ⟨j,af,aq⟩:=S.out e v h;exact ⟨j,by omega,aq⟩
 ·by_cases z:e=cur
  ·subst z;exact ⟨_,KI⟩
  ·rw [J4 z];by_cases sf:j=i
   ·subst sf;rw [ao] at he;exact absurd (Option.some.inj he).symm z
   ·exact S.Ek j (by omega) e he
theorem mZ.fresh {rows:List (List Int)} {ag cur:List Int} {i:Nat} {kvs:List (List Key×V)} (S:mZ rows ag i kvs) (D:rI rows ag i) (ao:goN rows i ag=some cur) (aC:cE kvs (gD cur)=none):rI rows ag (i+1):=λ j k oY aB e=>by
 by_cases NW:k=i
 ·subst NW;rw [ao] at e;obtain ⟨v,a7⟩:=S.Ek j oY cur e;rw [aC] at a7;cases a7
 ·exact D j k oY (by omega) e
noncomputable def Up:bF:=λ vs H Q _ => ∃ (b a:Addr) (xs:List V) (ak:List (Int×Int)) (ag:List Int) (m:Int),vs=[.ref b,.ref a,.int m]/\H b=some (.tup xs)/\eC H xs ak/\xs.length<=1000/\H a=some (tupI ag)/\ag.length=10/\nn ag=true/\0<=m/\m<=1000 /\
 ∀ v H' o,aD H H'->qu (rowsOf ak) m.toNat ag o->DJ H' v o->Q v H'
theorem Hh (T:bt K mg):ck P w mg base bX 5 T.Gh Up:=by
 refine T.Gh.fn.cD pw (λ vs H Q E h=>?_) (λ a5 A outer s H vs Q E ar h=>?_)
 ·obtain ⟨b,a,xs,ak,ag,m,rfl,_⟩:=h;rfl
 ·obtain ⟨b,a,xs,ak,ag,m,rfl,aa,hf,au,av,d4,d1,m0,jj,q⟩:=h;refine ⟨_,(aK (bq 3 pw (bw (tR T) ar a9 (ai (ae 0) az)))
   (aK (bq 4 pw VS)
   (aK (bq 5 pw (ae 1))
   (aK (fZ PassesOwn.never rfl (jb rfl T.iw (ai (bU ff (ae 2) aV) az)) (eD 6 pw)
    (aK (b7 (bO (RX (lM ar)) (ae 5) (ae 4) (by with_unfolding_all rfl))
    (aP (bx (j7 (ai cF (ai (Ho (lM ar) (ae 4) (ae 5) (λ _ _=>rfl)) (ai (bU i9 (ae 6) (Ho (lM ar) (ae 4) (ae 5) (λ _ _=>rfl))) az))))))
    b8)
   (aK (bq 7 pw (bw (tJ T) ar a9 (ai (ae 3) (ai (ae 5) az))))
   (aK (b7 (bO lT (ae 7) iq (bM _))
    (aP (bx (j7 (ai cF (ai (ae 6) (ai (ae 5) az))))))
    b8)
   (aK (T9 (lM ar) (ae 4) (ae 5) (ae 6) rfl)
   (aP (bq 5 pw (bw (tv T) ar a9 (ai (ae 5) (ai (cQ fg (ae 3) (ae 7) (λ _ _=>rfl)) (ai aV az)))))))))))
   (aP (bx (j7 (ai cF az)))))))),?_⟩
  refine ⟨_,rfl,b,xs,ak,rfl,aa,hf,au,λ l H1 ys df s1 dt ee=>?_⟩;refine λ d aw f2 s2 hd2=>?_
  have fd:H d=none:=s1.free f2;have R:=jH ak;refine ⟨_,rfl,_,rfl,_,_,rfl,rfl,m+1,rfl,by omega,by omega,jG (n:=(m+1).toNat) (λ i σ aH => ∃ (c:Addr) (cur:List Int) (kvs:List (List Key×V)) (u v:Option V),σ=[some (.ref b),some (.ref a),some (.int m),some (.ref l),some (.ref d),some (.ref c),u,v]/\aD H1 aH/\aH d=some (.eI kvs)/\aH c=some (tupI cur)/\goN (rowsOf ak) i ag=some cur/\rI (rowsOf ak) ag i/\mZ (rowsOf ak) ag i kvs)
   ⟨a,ag,[],none,none,rfl,s2,hd2,s2 _ _ (s1 _ _ av),rfl,λ _ _ _ h=>by omega,mZ.nil⟩ ?_ ?_⟩
  ·rintro i σ aH ax ⟨c,cur,kvs,u,v,rfl,s3,gf,iX,ia,mC,r3⟩;have i1:=m3 R d4 d1 ia;refine ⟨_,rfl,_,rfl,c,d,cur,kvs,rfl,rfl,iX,gf,_,rfl,?_⟩;cases a7:cE kvs (gD cur) with
   | some v0 =>
    obtain ⟨j,bj,rfl,NP⟩:=r3.out cur v0 a7;refine c6 ?_;refine ⟨_,rfl,_,rfl,d,c,cur,kvs,_,rfl,rfl,gf,iX,a7,_,rfl,_,rfl,_,rfl,d,c,cur,kvs,_,rfl,rfl,gf,iX,a7,_,_,rfl,rfl,eB,λ t aX f4 s4 aZ=>?_⟩;refine q (.ref t) aX (.round j (i - j)) ((s1.trans s3).trans s4) ⟨by omega,by omega,⟨cur,NP,by rw [show j+(i - j)=i by omega];exact ia⟩,by rw [show j+(i - j)=i by omega];exact mC⟩ ⟨t,rfl,?_⟩;rw [aZ];show some (dz.tup [_,_,V.int (0+(i:Int) - (j:Int))])=_;rw [show (0+(i:Int) - (j:Int))=((i - j:Nat):Int) by omega]
   | none =>
    refine bB ?_;have oT:=r3.fresh mC ia a7;refine ⟨_,rfl,_,rfl,l,c,ys,rowsOf ak,cur,rfl,s3 _ _ dt,ee.same s3,iX,λ aX s4=>?_⟩;cases gw:cv (rowsOf ak) cur with
    | none =>
     refine ⟨_,rfl,rfl,_,rfl,c6 ⟨_,rfl,_,rfl,eB,λ t bH e7 s5 aZ=>?_⟩⟩;refine q (.ref t) bH (.rests i cur) (((s1.trans s3).trans s4).trans s5) ⟨by omega,ia,gw⟩ ⟨t,c,rfl,?_,s5 _ _ (s4 _ _ iX)⟩;rw [aZ,Int.zero_add]
    | some k =>
     obtain ⟨hb,D4,_,aB⟩:=m8 gw;obtain ⟨x,e,ah,rfl,he⟩:=(ee.same s3).of D4;have cC:=wd gw D4;refine ⟨_,rfl,rfl,_,rfl,bB ⟨_,rfl,_,rfl,_,rfl,d,c,cur,kvs,rfl,rfl,s4 _ _ gf,s4 _ _ iX,(by have:=r3.len;rw [sizeLine_eq];omega),λ bH d6 bW=>?_⟩⟩;have bZ:aD H1 bH:=λ c o da=>d6 c o (λ z=>by rw [z,f2] at da;cases da) (s4 _ _ (s3 _ _ da))
     have OH:c≠d:=dN iX gf nofun;have OJ:e≠d:=dN he gf nofun;refine ⟨_,rfl,_,rfl,_,rfl,l,_,_,_,rfl,rfl,a4.of (bZ _ _ dt),g5 (Int.natCast_nonneg k) (by rw [Int.toNat_natCast];exact ah),c,e,cur,hb,1,rfl,d6 _ _ OH (s4 _ _ iX),d6 _ _ OJ (s4 _ _ he),⟨by decide,by decide⟩,by omega,λ p dD cp lA=>?_⟩;refine ⟨p,bP cur hb 1,_,_,_,rfl,bZ.trans cp,cp _ _ bW,lA,?_,oT,?_⟩
     ·show (goN (rowsOf ak) i ag).bind _=_;rw [ia];exact cC
     ·rw [Int.zero_add];exact r3.put ia
  ·rintro σ aH ⟨c,cur,kvs,u,v,rfl,s3,gf,iX,ia,mC,r3⟩;have em:(m+1).toNat=m.toNat+1:=by omega
   rw [em] at ia mC;exact ⟨eB,λ t aX f4 s4 aZ=>q (.ref t) aX .hW ((s1.trans s3).trans s4) ⟨⟨cur,ia⟩,mC⟩ ⟨t,rfl,aZ⟩⟩
noncomputable def aaB:bF:=λ vs H Q _ => ∃ (a b:Addr) (ag cs:List Int),vs=[.ref a,.ref b]/\H a=some (tupI ag)/\H b=some (tupI cs)/\ag.length=10/\cs.length=10/\nn ag=true/\(∀ x∈cs,-40<x/\x<40) /\ ∀ H' o,aD H H'->tb ag cs o->Q (jz o) H'
theorem aaD (T:bt K mg):jn P w mg base 1 T.tU aaB:=by
 refine T.tU.fn.jt K4 (λ vs H Q E h=>?_) (λ a5 A outer s H vs Q E ar h=>?_)
 ·obtain ⟨a,b,ag,cs,rfl,_⟩:=h;rfl
 ·obtain ⟨a,b,ag,cs,rfl,av,aa,d4,i1,d1,r7,q⟩:=h;refine ⟨_,(aP (bx (Hr rfl (by rfl) T.qE qx (ai (fP (eU K4 (N:=["power", "change"]) (js:=[none,none]) (List.forall_mem_nil _)) rfl (qJ rfl rfl T.j4 (ai (ae 0) (ai (ae 1) az))) (λ _ _ _ _=>(oa (K:=K) (n:=2) rfl rfl (eE eX (eE (l1 (i:=1) (show List.Nodup (["power", "change"]:List Str) from by decide +kernel) rfl (Or.inl rfl) (Or.inr rfl)) ja)))) (λ _ _ _ _=>(AJ (bO kR (ae 1) aV (bM _))))
     (λ _ _ _ _=>(bU tr (ae 0) (z9 As (ae 1))))) az)))),?_⟩
  refine ⟨_,rfl,_,rfl,a,b,rfl,⟨_,aW.of av⟩,⟨_,aW.of aa⟩,λ D aY=>?_⟩;refine YU (K:=K) (t:=λ _ y=>decide (y<0)) (f:=λ x y=>x / (-y)) (σ0:=[]) (xs:=ag) (ys:=cs) (by rw [d4,i1,sizeLine_eq];decide) ⟨_,_,rfl⟩ aY av aa (λ x y H' R _ _ r=>⟨_,rfl,_,_,rfl,rfl,_,rfl,r⟩) (λ x y H' R _ aL aZ r=>?_) λ H1 s1 af=>?_
  ·have af:y<0:=of_decide_eq_true aZ;have aq:=r7 y aL;exact ⟨_,rfl,_,rfl,_,rfl,_,_,rfl,rfl,⟨by omega,by omega⟩,r⟩
  ·refine ⟨D,tf ag cs,rfl,a4.of af,λ e=>q H1 none s1 (WU d1 e),λ M gP ji=>?_⟩;obtain ⟨rf,L⟩:=WV d1 gP ji;have:=q H1 _ s1 L;rw [show jz (some M.toNat)=V.int M by show V.int (M.toNat:Int)=_;rw [Int.toNat_of_nonneg rf]] at this;exact this
noncomputable def aat:bF:=λ vs H Q _ => ∃ (a b c:Addr) (ag cs ds:List Int),vs=[.ref a,.ref b,.ref c]/\H a=some (tupI ag)/\H b=some (tupI cs)/\H c=some (tupI ds)/\ag.length=10/\cs.length=10/\ds.length=10/\nn ag=true/\(∀ x∈cs,-40<x/\x<40)/\(∀ x∈ds,-40<x/\x<40) /\ ∀ H' o,aD H H'->o_ ag cs ds o->Q (jz o) H'
theorem aaw (T:bt K mg):jn P w mg base 2 T.tT aat:=by
 refine T.tT.fn.jt pF (λ vs H Q E h=>?_) (λ a5 A outer s H vs Q E ar h=>?_)
 ·obtain ⟨a,b,c,ag,cs,ds,rfl,_⟩:=h;rfl
 ·obtain ⟨a,b,c,ag,cs,ds,rfl,av,aa,ao,d4,i1,PV,d1,r7,dj,q⟩:=h;refine ⟨_,(aK (bq 3 pF aV)
   (aK (fZ PassesOwn.never rfl (T7 rfl rfl T.j4 (ai (ae 0) (ai (ae 1) (ai (ae 2) az)))) (pq rfl (eE (eD 4 pF) (eE (eD 5 pF) (eE (eD 6 pF) ja))))
    (aK (bq 7 pF (bU i9 (z9 As (ae 6)) (ae 4)))
   (aP (b7 (bO jA (ae 7) aV (bM _))
    (aK (b7 (bO F1 (ae 5) aV (bM _))
    (aP (bx iq))
    b8)
   (aP (bq 3 pF (cL (tA rfl) T.n4 n2 (ai (ae 3) (ai (bU tr (bU i9 (bU ff (ae 7) (ae 5)) aV) (ae 5)) az))))))
    b8))))
   (aK (b7 (f3 (iA (H5 T) (ar.mono (by decide)) rfl rfl T.n5.at_ T.n5.fn.bZ T.n5.bd (ai (ae 2) (ai (iA (BD T) (ar.mono (by decide)) rfl rfl T.m7.at_ T.m7.fn.bZ T.m7.bd (ai (ae 0) (ai (ae 1) (ai (ae 3) az)))) az))))
    (aP (bx (ae 3)))
    b8)
   (aP (bx iq))))),?_⟩
  refine ⟨_,rfl,_,rfl,_,rfl,a,b,c,rfl,⟨_,aW.of av⟩,⟨_,aW.of aa⟩,⟨_,aW.of ao⟩,?_⟩;refine U1 (K:=K) (xs:=ag.map V.int) (ys:=cs.map V.int) (zs:=ds.map V.int) (by rw [List.length_map,List.length_map,d4,i1]) (by rw [List.length_map,List.length_map,d4,PV]) (λ i σ aw => ∃ (m:Int) (gp h4 lg mi:Option V),σ=[some (.ref a),some (.ref b),some (.ref c),some (.int m),gp,h4,lg,mi]/\aD H aw/\gX ag cs ds i m) ⟨0,none,none,none,none,rfl,aD.refl H,gX.start⟩ (λ i σ aw _ ⟨_,_,_,_,_,_,s2,_⟩=>⟨aW.of (s2 _ _ av),aW.of (s2 _ _ aa),aW.of (s2 _ _ ao)⟩) ?_ ?_
  ·rintro i x y z p σ aw ah aL aN ay ⟨m,gp,h4,lg,mi,rfl,s2,f9⟩;obtain ⟨x,rfl,cZ⟩:=hY ah;obtain ⟨y,rfl,d9⟩:=hY aL;obtain ⟨z,rfl,fL⟩:=hY aN;have s3:aD H (upd aw p (.tup [.int x,.int y,.int z])):=aD.more s2 ay;have aa6:=dj z (List.mem_of_getElem? fL);have aa5:=r7 y (List.mem_of_getElem? d9);have x0:=i8.mp d1 x (List.mem_of_getElem? cZ);refine ⟨p,_,rfl,aW.of br,rfl,_,_,rfl,_,_,rfl,_,_,rfl,rfl,?_⟩;refine ⟨_,rfl,_,rfl,_,rfl,_,_,rfl,rfl,?_⟩;refine ⟨_,rfl,_,_,rfl,rfl,_,rfl,eg (λ h=>?_) (λ h=>?_)⟩
   ·have au:0 < -z - x:=of_decide_eq_true h;refine ⟨_,rfl,_,_,rfl,rfl,_,rfl,eg (λ h'=>?_) (λ h'=>?_)⟩
    ·exact q _ none s3 (gX.never cZ d9 fL au (of_decide_eq_true h'))
    ·have lD:0<y:=by
      have : ¬ y<=0:=λ w=>h' (decide_eq_true w)
      omega
     exact ⟨_,rfl,_,rfl,_,rfl,_,_,rfl,rfl,_,_,rfl,rfl,_,rfl,_,_,rfl,rfl,⟨lD,by omega⟩,_,_,rfl,_,_,_,_,_,rfl,s3,f9.more cZ d9 fL au (by omega) lD⟩
   ·exact ⟨m,_,_,_,_,rfl,s3,f9.skip (y:=y) cZ fL λ w=>h (decide_eq_true w)⟩
  ·rintro σ aw ⟨m,gp,h4,lg,mi,rfl,s2,f9⟩;rw [List.length_map,d4] at f9;have h0:=f9.1;have af:=f9.2.1;refine ⟨_,rfl,_,rfl,_,rfl,_,rfl,a,b,ag,cs,m,rfl,s2 _ _ av,s2 _ _ aa,⟨by omega,by omega⟩,by omega,λ r aH s3 aF=>?_⟩;refine ⟨c,r,ds,bP ag cs m,rfl,s3 _ _ (s2 _ _ ao),aF,λ aX s4=>?_⟩;have nN:=(s2.trans s3).trans s4;refine ⟨_,rfl,eg (λ h=>?_) (λ h=>?_)⟩
   ·have:=q aX _ nN (f9.yes h);rw [show jz (some m.toNat)=V.int m by show V.int (m.toNat:Int)=_;rw [Int.toNat_of_nonneg h0]] at this;exact ⟨_,rfl,this⟩
   ·exact q aX none nN (f9.no d4 (Bool.eq_false_iff.mpr h))
theorem B2 : ∀ (os:List (Option Nat)),(os.map jz).filter (λ v => !decide (v=V.bp))=((os.filterMap id).map λ n:Nat=>(n:Int)).map V.int
 | []=>rfl
 | none::os=>by
  show (os.map jz).filter _=_;rw [B2 os];rfl
 | some n::os=>by
  show V.int (n:Int)::(os.map jz).filter _=_;rw [B2 os];rfl
noncomputable def K6:bF:=λ vs H Q _ => ∃ (l a:Addr) (ys:List V) (rows:List (List Int)) (ag c:List Int) (k:Nat),vs=[.ref l,.ref a,.int (k:Int)]/\H l=some (.lst ys)/\dy H ys rows/\ys.length<=1000/\H a=some (tupI ag)/\ag.length=10/\nn ag=true/\oK rows/\t9 rows/\rows[k]?=some c /\
 ∀ H' o,aD H H'->yo rows ag c k o->(∀ T,o=some T->(∃ x∈ag,(T:Int)<=x)\/T<=1000)->Q (jz o) H'
theorem K8 (T:bt K mg):jn P w mg base 3 T.q8 K6:=by
 refine T.q8.fn.jt tW (λ vs H Q E h=>?_) (λ a5 A outer s H vs Q E ar h=>?_)
 ·obtain ⟨l,a,ys,rows,ag,c,k,rfl,_⟩:=h;rfl
 ·obtain ⟨l,a,ys,rows,ag,c,k,rfl,au,d7,fK,av,d4,d1,R,B,aB,q⟩:=h;refine ⟨_,(aK (tm (i:=3) tW.eS rfl (Or.inr rfl) (cQ fg (ae 0) (ae 2) (λ _ _=>rfl)))
   (aK (bq 4 tW (bU Vt (l0 (ai (iA (aaD T) (ar.mono (by decide)) rfl rfl T.tU.at_ T.tU.fn.bZ T.tU.bd (ai (ae 1) (ai (ae 3) az))) az)) (fP (eU tW (N:=["ahead", "powers", "used"]) (js:=[none,some 1,some 3]) (List.forall_mem_cons.mpr ⟨rfl,(List.forall_mem_cons.mpr ⟨rfl,(List.forall_mem_nil _)⟩)⟩)) rfl (ob (wB AR (ae 0) wm (wo (ae 2)))) (λ _ _ _ _=>eX) (λ _ _ _ _=>fz)
     (λ _ _ _ _=>(iA (aaw T) (ar.mono (by decide)) rfl rfl T.tT.at_ T.tT.fn.bZ T.tT.bd (ai (ae 1) (ai (ae 2) (ai (ae 0) az))))))))
   (aP (bx (Hr rfl (by rfl) T.qE qx (ai (fP (eU tW (N:=["end"]) (js:=[none]) (List.forall_mem_nil _)) rfl (ob (ae 4)) (λ _ _ _ _=>eX) (λ _ _ _ _=>(AJ (bO Tt (ae 0) iq (bM _))))
     (λ _ _ _ _=>(ae 0))) az)))))),?_⟩
  obtain ⟨x,e,ah,rfl,he⟩:=d7.of aB;have ed:=List.mem_of_getElem? aB;have yW:=(List.getElem?_eq_some_iff.mp aB).1;refine ⟨_,rfl,_,rfl,l,_,_,_,rfl,rfl,a4.of au,g5 (Int.natCast_nonneg k) (by rw [Int.toNat_natCast];exact ah),?_⟩;refine ⟨_,rfl,_,rfl,a,e,ag,c,rfl,av,he,d4,R c ed,d1,B c ed,λ H1 o s1 dK=>?_⟩;refine ⟨eB,λ dZ aw f2 s2 dt=>?_⟩;have o7:=s1.trans s2;refine ⟨_,rfl,_,rfl,_,rfl,l,ys,rfl,a4.of (o7 _ _ au),λ d hd=>?_⟩;rw [HR (Int.natCast_nonneg k),Int.toNat_natCast];have s3:aD aw (upd aw d (.lst (ys.take k))):=aD.new hd;have nG:(ys.take k).length=k:=by rw [List.length_take,d7.1];omega
  refine ⟨d,rfl,⟨_,a4.of br⟩,λ D aY=>?_⟩;refine IM (K:=K) (xs:=ys.take k) (by rw [nG,sizeLine_eq,<-d7.1] at *;omega) (λ i σ' H' zs=>(∃ u:Option V,σ'=[u,some (.ref a),some (.ref e)])/\aD (upd aw d (.lst (ys.take k))) H' /\ ∃ os:List (Option Nat),zs=os.map jz/\os.length=i /\ ∀ j,j<i -> ∀ r,rows[j]?=some r -> ∃ z,os[j]?=some z/\o_ ag c r z) ⟨⟨_,rfl⟩,aD.new aY,[],rfl,rfl,λ j bj=>absurd bj (by omega)⟩ (λ i σ' H' zs _ _ ⟨_,s',_⟩=>a4.of (s' _ _ br)) ?_ ?_
  ·rintro j x σ' H' zs Dp cZ cV ez ⟨⟨u,rfl⟩,s',os,rfl,kB,ea⟩ et;have oY:j<k:=by
    have:=(List.getElem?_eq_some_iff.mp cZ).1;omega
   have fJ:ys[j]?=some x:=by rw [List.getElem?_take_of_lt oY] at cZ;exact cZ
   obtain ⟨r,kk,ee,rfl,N6⟩:=d7.at fJ;have Eg:=List.mem_of_getElem? ee;have xT:aD H H':=(o7.trans s3).trans s';refine ⟨_,rfl,_,rfl,_,rfl,a,e,kk,ag,c,r,rfl,xT _ _ av,xT _ _ he,xT _ _ N6,d4,R c ed,R r Eg,d1,B c ed,B r Eg,λ aX z s4 aN=>?_⟩;refine et _ _ _ (s4 _ _ cV) ⟨⟨_,rfl⟩,?_,os++[z],?_,?_,?_⟩
   ·intro jg Dw aI;rw [a3 (b2 aI aY)];exact s4 _ _ (s' jg Dw aI)
   ·rw [List.map_append];rfl
   ·rw [List.length_append,kB];rfl
   ·intro i ax bY fW;by_cases NS:i<j
    ·obtain ⟨c9,af,aq⟩:=ea i NS bY fW;exact ⟨c9,by rw [List.getElem?_append_left (by omega)];exact af,aq⟩
    ·have:i=j:=by omega
     subst this;rw [ee] at fW;cases fW;exact ⟨z,by rw [<-kB,List.getElem?_concat_length],aN⟩
  ·rintro σ' aX zs oT ez ⟨_,s4,os,rfl,kB,ea⟩;rw [nG] at kB ea;have nN:=s3.trans s4;refine ⟨dZ,D,_,_,rfl,rfl,nN _ _ dt,oT,?_,λ Lx bH e7 s5 bW=>?_⟩
   ·rw [List.length_map,kB,sizeLine_eq];show 1+k<=_;have:=d7.1;omega
   have EC:aD H bH:=(o7.trans nN).trans s5;refine ⟨_,rfl,Lx,rfl,⟨_,a4.of bW⟩,λ xe gS=>?_⟩;refine Zc (K:=K) (t:=λ v => !decide (v=V.bp)) (σ0:=[]) (xs:=(o::os).map jz) ?_ ⟨_,rfl⟩ gS bW (λ x H' Dp _ _ r=>⟨_,rfl,rfl,_,rfl,r⟩) (λ x H' Dp _ _ _ r=>⟨_,rfl,r⟩) λ dD cp dV=>?_
   ·rw [List.length_map,List.length_cons,kB,sizeLine_eq];have:=d7.1;omega
   rw [B2] at dV;refine ⟨xe,_,rfl,a4.of dV,λ rn=>?_,λ M gP ji=>?_⟩
   ·exact q dD none (EC.trans cp) (Ut aB dK ea (List.map_eq_nil_iff.mp rn)) (λ T z=>by cases z)
   ·obtain ⟨n,aC,rfl⟩:=List.mem_map.mp gP;obtain ⟨af,aq⟩:=Uu aB kB dK ea aC λ b aa=>by
     have:=ji (b:Int) (List.mem_map_of_mem aa);omega
    exact q dD (some n) (EC.trans cp) af (λ T z=>by cases z;exact aq)
theorem aay (T:bt K mg):ck P w mg base bX 3 T.q8 K6:=(K8 T).fn
theorem HA {i:Int} (h:gL i=true):i<=1000000000000:=by
 unfold gL at h;simp only [Bool.and_eq_true,decide_eq_true_eq] at h;exact h.1.2
theorem U4 {i j:Int} (h:fx i j=true):i<=1000000000000/\j<=1000000000000:=by
 unfold fx at h;simp only [Bool.and_eq_true] at h;exact ⟨HA h.1.1,HA h.1.2⟩
theorem pv {H:aj} {xs:List V} {ak:List (Int×Int)} (hf:eC H xs ak):t9 (rowsOf ak):=λ c ao x ah=>by
 obtain ⟨⟨i,j⟩,hm,rfl⟩:=List.mem_map.mp ao;obtain ⟨k,aB⟩:=List.getElem?_of_mem hm;have yW:k<xs.length:=by rw [hf.1];exact (List.getElem?_eq_some_iff.mp aB).1
 obtain ⟨k_,nr,a,af,_,_,f⟩:=hf.2 k _ (List.getElem?_eq_getElem yW);rw [aB] at af;cases af;obtain ⟨⟨er,_⟩,⟨cY,_⟩⟩:=JQ f;obtain ⟨aaV,aaW⟩:=U4 f;exact RD (by omega) (by omega) (by omega) (by omega) ah
noncomputable def intOf:Option (Option V)->Nat
 | some (some (V.int i))=>i.toNat
 | _=>0
noncomputable def E4 (σ:St):Nat:=intOf σ[5]?
noncomputable def V6:bF:=λ vs H Q _ => ∃ (b a:Addr) (xs:List V) (ak:List (Int×Int)) (ag nz:List Int) (m:Int),vs=[.ref b,.ref a,.int m]/\H b=some (.tup xs)/\eC H xs ak/\xs.length<=1000/\H a=some (tupI ag)/\ag.length=10/\nn ag=true/\0<=m/\m<=2000/\goN (rowsOf ak) m.toNat ag=some nz /\
 ∀ a8 H',aD H H'->H' a8=some (tupI nz)->Q (.ref a8) H'
theorem Vo (T:bt K mg):jn P w mg base 5 T.lP V6:=by
 refine T.lP.fn.jt f5 (λ vs H Q E h=>?_) (λ a5 A outer s H vs Q E ar h=>?_)
 ·obtain ⟨b,a,xs,ak,ag,nz,m,rfl,_⟩:=h;rfl
 ·obtain ⟨b,a,xs,ak,ag,nz,m,rfl,aa,hf,au,av,d4,d1,m0,jj,gU,q⟩:=h;refine ⟨_,(aK (bq 3 f5 (iA (KP T) (ar.mono (by decide)) rfl rfl T.q5.at_ T.q5.fn.bZ T.q5.bd (ai (ae 0) az)))
   (aK (bq 4 f5 (ae 1))
   (aK (bq 5 f5 aV)
   (aK (bq 6 f5 aV)
   (aK (qT PassesOwn.never (bO kR (ae 5) (ae 2) (bM _))
    (aK (bq 7 f5 (iA (Kb T) (ar.mono (by decide)) rfl rfl T.qY.at_ T.qY.fn.bZ T.qY.bd (ai (ae 3) (ai (ae 4) az))))
   (aK (b7 (bO lT (ae 7) iq (bM _))
    (aP eZ)
    b8)
   (aK (b7 (bO eW (ae 6) (j8 (by rfl) T.w7) (bM _))
    (aP eZ)
    b8)
   (aK (bq 8 f5 (iA (K8 T) (ar.mono (by decide)) rfl rfl T.q8.at_ T.q8.fn.bZ T.q8.bd (ai (ae 3) (ai (ae 4) (ai (ae 7) az)))))
   (aK (Aj (eG.pt (fY (bO lT (ae 8) iq (bM _)) (hz (bO jA (ae 8) (bU i9 (ae 2) (ae 5)) (bM _)))))
    (aP (bq 8 f5 (bU i9 (ae 2) (ae 5))))
    b8)
   (aK (bq 4 f5 (iA (BD T) (ar.mono (by decide)) rfl rfl T.m7.at_ T.m7.fn.bZ T.m7.bd (ai (ae 4) (ai (cQ fg (ae 3) (ae 7) (λ _ _=>rfl)) (ai (ae 8) az)))))
   (aK (bq 5 f5 (bU ff (ae 5) (ae 8)))
   (aP (bq 6 f5 (bU ff (ae 6) aV)))))))))))
   (aP (bx (ae 4)))))))),?_⟩
  refine ⟨_,rfl,b,xs,ak,rfl,aa,hf,au,λ l H1 ys df s1 dt ee=>?_⟩;have R:=jH ak;have B:=pv hf;have fK:ys.length<=1000:=by rw [ee.1,pC,<-hf.1];exact au
  refine ⟨_,rfl,?_⟩;refine qX (λ σ aH => ∃ (fD:Addr) (cur:List Int) (d st:Nat) (u v:Option V),σ=[some (.ref b),some (.ref a),some (.int m),some (.ref l),some (.ref fD),some (.int (d:Int)),some (.int (st:Int)),u,v]/\aD H1 aH/\aH fD=some (tupI cur)/\goN (rowsOf ak) d ag=some cur/\(d:Int)<=m/\st<=d)
   (λ σ _=>m.toNat - E4 σ) ⟨a,ag,0,0,none,none,rfl,aD.refl H1,s1 _ _ av,rfl,m0,Nat.le_refl _⟩ ?_
  rintro σ aH ⟨fD,cur,d,st,u,v,rfl,s3,mF,aM,NJ,N_⟩;have i1:=m3 R d4 d1 aM;refine ⟨_,rfl,_,rfl,_,_,rfl,rfl,_,rfl,eg (λ h=>?_) (λ h=>?_)⟩
  ·have h0:(d:Int)<m:=of_decide_eq_true h;refine sS ⟨_,rfl,_,rfl,l,fD,ys,rowsOf ak,cur,rfl,s3 _ _ dt,ee.same s3,mF,λ aX s4=>?_⟩;cases gw:cv (rowsOf ak) cur with
   | none =>
    have:=pB aM gw gU;omega
   | some k =>
    obtain ⟨c,ao,_,aB⟩:=m8 gw;obtain ⟨x,e,ah,rfl,he⟩:=(ee.same s3).of ao;have nD:=R c (List.mem_of_getElem? ao);refine ⟨_,rfl,rfl,_,rfl,bB ⟨_,rfl,rfl,_,rfl,?_⟩⟩;rw [decide_eq_false (show ¬ V.int (st:Int)=V.int 2000 from λ z=>by injection z with z;omega)];refine bB ?_;refine ⟨_,rfl,_,rfl,_,rfl,l,fD,ys,rowsOf ak,cur,c,k,rfl,s4 _ _ (s3 _ _ dt),(ee.same s3).same s4,fK,s4 _ _ mF,i1.1,i1.2,R,B,ao,λ bH o s5 cG cz=>?_⟩;have mP:=s4.trans s5;have oW:cv (rowsOf ak) (bP cur c (0:Nat))=some k:=by rw [show ((0:Nat):Int)=0 from rfl,A8 i1.1 nD];exact gw
    refine ⟨λ σ' H' => ∃ ey:Nat,σ'=[some (.ref b),some (.ref a),some (.int m),some (.ref l),some (.ref fD),some (.int (d:Int)),some (.int (st:Int)),some (.int (k:Int)),some (.int (ey:Int))]/\bH=H'/\1<=ey/\(d:Int)+ey<=m /\ ∀ t:Nat,t<ey->cv (rowsOf ak) (bP cur c t)=some k,?_,?_⟩
    ·have all : ∀ (σ':St),σ'=[some (.ref b),some (.ref a),some (.int m),some (.ref l),some (.ref fD),some (.int (d:Int)),some (.int (st:Int)),some (.int (k:Int)),some (.int (m - (d:Int)))]->(∀ t:Nat,(t:Int)<m - d->cv (rowsOf ak) (bP cur c t)=some k) -> ∃ ey:Nat,σ'=[some (.ref b),some (.ref a),some (.int m),some (.ref l),some (.ref fD),some (.int (d:Int)),some (.int (st:Int)),some (.int (k:Int)),some (.int (ey:Int))]/\bH=bH/\1<=ey/\(d:Int)+ey<=m /\ ∀ t:Nat,t<ey->cv (rowsOf ak) (bP cur c t)=some k:=λ σ' eσ g0=>by
      refine ⟨(m - d).toNat,?_,rfl,by omega,by omega,λ t aZ=>g0 t (by omega)⟩;rw [eσ,Int.toNat_of_nonneg (by omega)]
     cases o with
     | none =>
      exact ⟨_,rfl,rfl,_,rfl,c6 (c6 ⟨_,rfl,_,rfl,_,_,rfl,rfl,all _ rfl λ t _=>cG t⟩)⟩
     | some iJ =>
      refine ⟨_,rfl,rfl,_,rfl,bB ⟨_,rfl,_,rfl,_,rfl,_,_,rfl,rfl,_,_,rfl,rfl,_,rfl,eg (λ h'=>?_) (λ h'=>?_)⟩⟩
      ·have qb:(iJ:Int) > m - d:=of_decide_eq_true h';exact ⟨_,rfl,_,rfl,_,_,rfl,rfl,all _ rfl λ t aZ=>cG.1 t (by omega)⟩
      ·have qb : ¬ (iJ:Int) > m - d:=λ z=>h' (decide_eq_true z)
       refine ⟨iJ,rfl,rfl,?_,by omega,cG.1⟩;by_cases z:iJ=0
       ·subst z;exact absurd oW cG.2
       ·omega
    rintro σ' H' ⟨ey,rfl,rfl,lC,fu,g0⟩;refine ⟨_,rfl,_,rfl,_,rfl,l,_,_,_,rfl,rfl,a4.of (mP _ _ (s3 _ _ dt)),g5 (Int.natCast_nonneg k) (by rw [Int.toNat_natCast];exact ah),_,rfl,fD,e,cur,c,(ey:Int),rfl,mP _ _ mF,mP _ _ he,⟨by omega,by omega⟩,by omega,λ p dD cp lA=>?_⟩;refine ⟨_,rfl,_,rfl,_,_,rfl,rfl,_,rfl,_,_,rfl,rfl,⟨p,bP cur c ey,d+ey,st+1,_,_,rfl,(s3.trans mP).trans cp,lA,HW aM ao i1.1 nD g0,by omega,by omega⟩,?_⟩;show m.toNat - ((d:Int)+(ey:Int)).toNat<m.toNat - ((d:Int)).toNat;omega
  ·have h0 : ¬ (d:Int)<m:=λ z=>h (decide_eq_true z)
   have e:d=m.toNat:=by omega
   subst e;rw [gU] at aM;cases aM;exact ⟨_,rfl,q fD aH (s1.trans s3) mF⟩
theorem aaa (T:bt K mg):d3 P w K mg base bX 1 T.CJ T.CR ["self", "steps"] (AS T.fQ "steps"):=by
 refine T.tu.cD aae (λ vs H Q E h=>?_) (λ a5 A outer s H vs Q E ar h=>?_)
 ·obtain ⟨e,t,v,rfl,_⟩:=h;rfl
 ·obtain ⟨e,t,v,rfl,he,q⟩:=h;refine ⟨_,(aP (T_ rfl (ae 0) (ae 1) rfl)),?_⟩;obtain ⟨cd,hb,jg,pM⟩:=T.l2.cls;refine ⟨_,rfl,_,rfl,e,T.fQ,T.tM,t,cd,rfl,he,hb,jg,pM,T.l2.p0.bJ,T.l2.xU,?_,λ aG gr=>q aG gr⟩;show PySem.W.takerIn K T.fQ "steps" = some none;unfold PySem.W.takerIn;rw [T.Bp];rfl
noncomputable def V7 (C:Addr):bF:=λ vs H Q E => ∃ (b a:Addr) (xs:List V) (ak:List (Int×Int)) (ag:List Int) (m:Int),vs=[.ref b,.ref a,.int m]/\H b=some (.tup xs)/\eC H xs ak/\xs.length<=1000/\H a=some (tupI ag)/\ag.length=10/\nn ag=true/\0<=m/\m<=2000 /\
 (∀ r,goN (rowsOf ak) m.toNat ag=some r -> ∀ a8 H',aD H H'->H' a8=some (tupI r)->Q (.ref a8) H') /\
 (∀ (n:Nat) r,n<m.toNat->goN (rowsOf ak) n ag=some r->cv (rowsOf ak) r=none -> ∀ aG H',aD H H'->H' aG=some (.h5 [("steps", .int (n:Int))])->E (.ref C) (some aG) H')
theorem Vr (T:bt K mg):ck P w mg base (rG P w) 5 T.lP (V7 T.fQ):=by
 refine T.lP.fn.OV f5 (λ vs H Q E h=>?_) (λ a5 A outer s H vs Q E ar h=>?_)
 ·obtain ⟨b,a,xs,ak,ag,m,rfl,_⟩:=h;rfl
 ·obtain ⟨b,a,xs,ak,ag,m,rfl,aa,hf,au,av,d4,d1,m0,jj,a6,b0⟩:=h;refine ⟨_,(aK (bq 3 f5 (bw (tR T) ar a9 (ai (ae 0) az)))
   (aK (bq 4 f5 (ae 1))
   (aK (bq 5 f5 aV)
   (aK (bq 6 f5 aV)
   (aK (qT PassesOwn.leaving (bO kR (ae 5) (ae 2) (bM _))
    (aK (bq 7 f5 (bw (tJ T) ar a9 (ai (ae 3) (ai (ae 4) az))))
   (aK (b7 (bO lT (ae 7) iq (bM _))
    (aP (Xk SQ rfl rfl T.l2 (aaa T) (ar.mono (by decide)) T.UJ (by rfl) (ai (ae 5) az)))
    b8)
   (aK (b7 (bO eW (ae 6) (j8 (by rfl) T.w7) (bM _))
    (aP eZ)
    b8)
   (aK (bq 8 f5 (bw (aay T) ar a9 (ai (ae 3) (ai (ae 4) (ai (ae 7) az)))))
   (aK (Aj (eG.pt (fY (bO lT (ae 8) iq (bM _)) (hz (bO jA (ae 8) (bU i9 (ae 2) (ae 5)) (bM _)))))
    (aP (bq 8 f5 (bU i9 (ae 2) (ae 5))))
    b8)
   (aK (bq 4 f5 (bw (tv T) ar a9 (ai (ae 4) (ai (cQ fg (ae 3) (ae 7) (λ _ _=>rfl)) (ai (ae 8) az)))))
   (aK (bq 5 f5 (bU ff (ae 5) (ae 8)))
   (aP (bq 6 f5 (bU ff (ae 6) aV)))))))))))
   (aP (bx (ae 4)))))))),?_⟩
  refine ⟨_,rfl,b,xs,ak,rfl,aa,hf,au,λ l H1 ys df s1 dt ee=>?_⟩;have R:=jH ak;have B:=pv hf;have fK:ys.length<=1000:=by rw [ee.1,pC,<-hf.1];exact au
  refine ⟨_,rfl,?_⟩;refine qX (λ σ aH => ∃ (fD:Addr) (cur:List Int) (d st:Nat) (u v:Option V),σ=[some (.ref b),some (.ref a),some (.int m),some (.ref l),some (.ref fD),some (.int (d:Int)),some (.int (st:Int)),u,v]/\aD H1 aH/\aH fD=some (tupI cur)/\goN (rowsOf ak) d ag=some cur/\(d:Int)<=m/\st<=d)
   (λ σ _=>m.toNat - E4 σ) ⟨a,ag,0,0,none,none,rfl,aD.refl H1,s1 _ _ av,rfl,m0,Nat.le_refl _⟩ ?_
  rintro σ aH ⟨fD,cur,d,st,u,v,rfl,s3,mF,aM,NJ,N_⟩;have i1:=m3 R d4 d1 aM;refine ⟨_,rfl,_,rfl,_,_,rfl,rfl,_,rfl,eg (λ h=>?_) (λ h=>?_)⟩
  ·have h0:(d:Int)<m:=of_decide_eq_true h;refine sS ⟨_,rfl,_,rfl,l,fD,ys,rowsOf ak,cur,rfl,s3 _ _ dt,ee.same s3,mF,λ aX s4=>?_⟩;cases gw:cv (rowsOf ak) cur with
   | none =>
    refine ⟨_,rfl,rfl,_,rfl,c6 ⟨_,rfl,_,rfl,λ aG bH s5 gr=>?_⟩⟩;exact b0 d cur (by omega) aM gw aG bH (((s1.trans s3).trans s4).trans s5) gr
   | some k =>
    obtain ⟨c,ao,_,aB⟩:=m8 gw;obtain ⟨x,e,ah,rfl,he⟩:=(ee.same s3).of ao;have nD:=R c (List.mem_of_getElem? ao);refine ⟨_,rfl,rfl,_,rfl,bB ⟨_,rfl,rfl,_,rfl,?_⟩⟩;rw [decide_eq_false (show ¬ V.int (st:Int)=V.int 2000 from λ z=>by injection z with z;omega)];refine bB ?_;refine ⟨_,rfl,_,rfl,_,rfl,l,fD,ys,rowsOf ak,cur,c,k,rfl,s4 _ _ (s3 _ _ dt),(ee.same s3).same s4,fK,s4 _ _ mF,i1.1,i1.2,R,B,ao,λ bH o s5 cG cz=>?_⟩;have mP:=s4.trans s5;have oW:cv (rowsOf ak) (bP cur c (0:Nat))=some k:=by rw [show ((0:Nat):Int)=0 from rfl,A8 i1.1 nD];exact gw
    refine ⟨λ σ' H' => ∃ ey:Nat,σ'=[some (.ref b),some (.ref a),some (.int m),some (.ref l),some (.ref fD),some (.int (d:Int)),some (.int (st:Int)),some (.int (k:Int)),some (.int (ey:Int))]/\bH=H'/\1<=ey/\(d:Int)+ey<=m /\ ∀ t:Nat,t<ey->cv (rowsOf ak) (bP cur c t)=some k,?_,?_⟩
    ·have all : ∀ (σ':St),σ'=[some (.ref b),some (.ref a),some (.int m),some (.ref l),some (.ref fD),some (.int (d:Int)),some (.int (st:Int)),some (.int (k:Int)),some (.int (m - (d:Int)))]->(∀ t:Nat,(t:Int)<m - d->cv (rowsOf ak) (bP cur c t)=some k) -> ∃ ey:Nat,σ'=[some (.ref b),some (.ref a),some (.int m),some (.ref l),some (.ref fD),some (.int (d:Int)),some (.int (st:Int)),some (.int (k:Int)),some (.int (ey:Int))]/\bH=bH/\1<=ey/\(d:Int)+ey<=m /\ ∀ t:Nat,t<ey->cv (rowsOf ak) (bP cur c t)=some k:=λ σ' eσ g0=>by
      refine ⟨(m - d).toNat,?_,rfl,by omega,by omega,λ t aZ=>g0 t (by omega)⟩;rw [eσ,Int.toNat_of_nonneg (by omega)]
     cases o with
     | none =>
      exact ⟨_,rfl,rfl,_,rfl,c6 (c6 ⟨_,rfl,_,rfl,_,_,rfl,rfl,all _ rfl λ t _=>cG t⟩)⟩
     | some iJ =>
      refine ⟨_,rfl,rfl,_,rfl,bB ⟨_,rfl,_,rfl,_,rfl,_,_,rfl,rfl,_,_,rfl,rfl,_,rfl,eg (λ h'=>?_) (λ h'=>?_)⟩⟩
      ·have qb:(iJ:Int) > m - d:=of_decide_eq_true h';exact ⟨_,rfl,_,rfl,_,_,rfl,rfl,all _ rfl λ t aZ=>cG.1 t (by omega)⟩
      ·have qb : ¬ (iJ:Int) > m - d:=λ z=>h' (decide_eq_true z)
       refine ⟨iJ,rfl,rfl,?_,by omega,cG.1⟩;by_cases z:iJ=0
       ·subst z;exact absurd oW cG.2
       ·omega
    rintro σ' H' ⟨ey,rfl,rfl,lC,fu,g0⟩;refine ⟨_,rfl,_,rfl,_,rfl,l,_,_,_,rfl,rfl,a4.of (mP _ _ (s3 _ _ dt)),g5 (Int.natCast_nonneg k) (by rw [Int.toNat_natCast];exact ah),_,rfl,fD,e,cur,c,(ey:Int),rfl,mP _ _ mF,mP _ _ he,⟨by omega,by omega⟩,by omega,λ p dD cp lA=>?_⟩;refine ⟨_,rfl,_,rfl,_,_,rfl,rfl,_,rfl,_,_,rfl,rfl,⟨p,bP cur c ey,d+ey,st+1,_,_,rfl,(s3.trans mP).trans cp,lA,HW aM ao i1.1 nD g0,by omega,by omega⟩,?_⟩;show m.toNat - ((d:Int)+(ey:Int)).toNat<m.toNat - ((d:Int)).toNat;omega
  ·have h0 : ¬ (d:Int)<m:=λ z=>h (decide_eq_true z)
   have e:d=m.toNat:=by omega
   subst e;exact ⟨_,rfl,a6 cur aM fD aH (s1.trans s3) mF⟩
noncomputable def Rr (T:bt K mg) (H:aj) (b a:Addr) (ak:List (Int×Int)) (ag:List Int) (m:Int):St->dF:=λ σ Lh d H1=>σ=[some (.ref b),some (.ref a),some (.int m),none]/\Lh=.ref T.fQ /\ ∃ (aG:Addr) (n:Nat) (r:List Int),d=some aG/\H1 aG=some (.h5 [("steps", .int (n:Int))])/\aD H H1/\n<m.toNat/\goN (rowsOf ak) n ag=some r/\cv (rowsOf ak) r=none
noncomputable def YF:bF:=λ vs H Q _ => ∃ (b a:Addr) (xs:List V) (ak:List (Int×Int)) (ag:List Int) (m:Int),vs=[.ref b,.ref a,.int m]/\H b=some (.tup xs)/\eC H xs ak/\xs.length<=1000/\H a=some (tupI ag)/\ag.length=10/\nn ag=true/\0<=m/\m<=2000 /\
 ∀ (k:Nat) r t a8 H',k<=m.toNat->goN (rowsOf ak) k ag=some r->(k=m.toNat\/cv (rowsOf ak) r=none)->aD H H'->H' t=some (.tup [.int (k:Int),.ref a8])->H' a8=some (tupI r)->Q (.ref t) H'
theorem Ys (T:bt K mg):ck P w mg base bX 7 T.Ir YF:=by
 refine T.Ir.fn.cD Ju (λ vs H Q E h=>?_) (λ a5 A outer s H vs Q E ar h=>?_)
 ·obtain ⟨b,a,xs,ak,ag,m,rfl,_⟩:=h;rfl
 ·obtain ⟨b,a,xs,ak,ag,m,rfl,aa,hf,au,av,d4,d1,m0,jj,q⟩:=h;refine ⟨_,(aP (Ua (E:=(Rr T H b a ak ag m)) (i:=3) rfl rfl rfl T.l2.at_ (Yn T.l2) (by rfl) Ju.eS rfl rfl (λ _ _ x8=>(aP (bx (j7 (ai (cL (tA rfl) T.n4 n2 (ai (ae 2) (ai aV az))) (ai (Xg (Vr T) (ar.mono (by decide)) rfl x8 rfl T.lP.at_ T.lP.fn.bZ T.lP.bd (ai (ae 0) (ai (ae 1) (ai (ae 2) az)))) az))))))
    (λ _=>(aP (bx (j7 (ai (Ia (K:=K) rfl (ae 3) (by rfl)) (ai (VQ (Vo T) ((ar.mark _).mono (by decide)) rfl rfl T.lP.at_ T.lP.fn.bZ T.lP.bd (ai (ae 0) (ai (ae 1) (ai (Ia (K:=K) rfl (ae 3) (by rfl)) az)))) az)))))))),?_⟩
  refine ⟨⟨_,rfl,_,_,rfl,_,rfl,_,rfl,_,rfl,b,a,xs,ak,ag,m,rfl,aa,hf,au,av,d4,d1,m0,jj,λ r aM a8 H1 s1 fV=>?_,λ n r aC aM yS aG H' s' gr=>⟨rfl,rfl,aG,n,r,rfl,gr,s',aC,aM,yS⟩⟩,?_⟩
  ·refine ⟨eB,λ t aw f2 s2 aZ=>?_⟩;refine q m.toNat r t a8 aw (Nat.le_refl _) aM (.inl rfl) (s1.trans s2) ?_ (s2 _ _ fV);rw [aZ];show some (dz.tup [V.int (if (0:Int) > m then 0 else m),_])=_;rw [if_neg (by omega),Int.toNat_of_nonneg m0]
  ·rintro C d H1 σ1 ⟨rfl,fk,aG,n,r,rfl,gr,s1,aC,aM,yS⟩;cases fk;refine ⟨rfl,λ e he hσ=>?_⟩;have s2:aD H1 (upd H1 e (nW e T.fQ (some aG))):=aD.new he;have hd2:=s2 _ _ gr;have gm:H e=none:=s1.free he;refine ⟨_,rfl,e,T.fQ,aG,_,_,rfl,br,hd2,T.l2.p0,T.l2.hd,T.Bp,rfl,_,rfl,_,rfl,_,rfl,e,T.fQ,aG,_,_,rfl,br,hd2,T.l2.p0,T.l2.hd,T.Bp,rfl,⟨_,_,br⟩,λ aw aq k2=>?_⟩;have vb:aD H aw:=λ c o gC=>by
    have eR:c≠e:=λ z=>by rw [z,gm] at gC;cases gC
    rw [k2 c eR,a3 eR];exact s1 _ _ gC
   refine ⟨b,a,xs,ak,ag,r,(n:Int),rfl,vb _ _ aa,hf.same vb,au,vb _ _ av,d4,d1,by omega,by omega,by rw [Int.toNat_natCast];exact aM,λ a8 aH s3 fV=>?_⟩;refine ⟨eB,λ t aX f4 s4 aZ=>?_⟩;exact q n r t a8 aX (by omega) aM (.inr yS) ((vb.trans s3).trans s4) aZ (s4 _ _ fV)
end
noncomputable def qB (c:Nat):Bool:=decide (97<=c/\c<=122)
theorem lets (c:Nat):decide (c∈(("abcdefghijklmnopqrstuvwxyz" : String):Str).cps.toList)=qB c:=by
 have e:(("abcdefghijklmnopqrstuvwxyz" : String):Str).cps.toList=List.range' 97 26:=by decide +kernel
 rw [e];unfold qB;exact decide_eq_decide.mpr (List.mem_range'_1.trans ⟨λ h=>⟨h.1,by omega⟩,λ h=>⟨h.1,by omega⟩⟩)
theorem Uk (x:Str) (t:Nat->Bool):(((List.range x.cps.size).map λ i=>t (x.cps.getD i 0)).all id)=(du x).all t:=by
 have e:du x=(List.range x.cps.size).map λ i=>x.cps.getD i 0:=by
  apply List.ext_getElem?;intro i;rcases Nat.lt_or_ge i x.cps.size with h | h
  ·rw [List.getElem?_map,List.getElem?_range h];simp [du,h]
  ·rw [List.getElem?_eq_none (by show x.cps.toList.length<=i;rw [Array.length_toList];exact h),List.getElem?_eq_none (by rw [List.length_map,List.length_range];exact h)]
 rw [e,List.all_map,List.all_map];rfl
section
variable {P:Program} {w:World} {K:PySem.W.Frag} {mg:Str->Option Value} {base:Heap}
noncomputable def m2:V->Bool
 | .int i=>gL i
 | _=>false
noncomputable def YI:bF:=λ vs H Q _ => ∃ v,vs=[v]/\gy H v/\Q (.ba (m2 v)) H
theorem Jq (T:bt K mg):ck P w mg base bX 2 T.Iu YI:=by
 refine T.Iu.fn.cD YC (λ vs H Q E h=>?_) (λ a5 A outer s H vs Q E ar h=>?_)
 ·obtain ⟨v,rfl,_⟩:=h;rfl
 ·obtain ⟨v,rfl,k,q⟩:=h;refine ⟨_,(aK (b7 (eG.pt (fY (gz (f3 (bw (JY T) ar a9 (ai (ae 0) az)))) (fY (bO kR (ae 0) aV (bM _)) (hz (bO jA (ae 0) (j8 (by rfl) T.Ce) (bM _))))))
    (aP (bx i7))
    b8)
   (aP (bx (m9 eW (bw (aaF T) ar a9 (ai (ae 0) az)) aV (bM _))))),?_⟩
  refine ⟨_,rfl,v,rfl,k,_,rfl,?_⟩;cases hw:sx v with
  | false =>
   refine c6 (c6 ?_);have e:m2 v=false:=by cases v<;>first | rfl | cases hw
   rw [e] at q;exact q
  | true =>
   obtain ⟨i,rfl⟩:=G_ hw;refine bB ⟨_,rfl,_,_,rfl,rfl,_,rfl,eg (λ h=>?_) (λ h=>⟨_,rfl,_,_,rfl,rfl,_,rfl,eg (λ h'=>?_) (λ h'=>?_)⟩)⟩
   ·have af:i<1:=of_decide_eq_true h;have e:m2 (.int i)=false:=by
     show (decide (1<=i)&&decide (i<=1000000000000)&&decide (kW i.toNat=1))=false;rw [decide_eq_false (by omega : ¬ 1<=i)];rfl
    rw [e] at q;exact c6 q
   ·have af:1000000000000<i:=of_decide_eq_true h';have e:m2 (.int i)=false:=by
     show (decide (1<=i)&&decide (i<=1000000000000)&&decide (kW i.toNat=1))=false;rw [decide_eq_false (by omega : ¬ i<=1000000000000),Bool.and_false];rfl
    rw [e] at q;exact q
   ·have af : ¬ i<1:=λ z=>h (decide_eq_true z)
    have aq : ¬ 1000000000000<i:=λ z=>h' (decide_eq_true z)
    refine ⟨_,rfl,i,rfl,by omega,rfl,?_⟩;have e:m2 (.int i)=decide (V.int (kW i.toNat:Nat)=V.int 1):=by
     show (decide (1<=i)&&decide (i<=1000000000000)&&decide (kW i.toNat=1))=_;rw [decide_eq_true (by omega:1<=i),decide_eq_true (by omega:i<=1000000000000),Bool.and_self,Bool.true_and];by_cases z:kW i.toNat=1
     ·rw [z];rfl
     ·rw [decide_eq_false z,decide_eq_false];intro y;injection y with y;omega
    rw [e] at q;exact q
noncomputable def gK (H:aj) (v:V):Bool:=match gs H v with
 | some [.int i,.int j]=>fx i j
 | _=>false
theorem X0 (i j:Nat):((en.map λ v=>match v with | .int p=>V.ba ((!decide (V.int ((i:Int) % p)=V.int 0)) || !decide (V.int ((j:Int) % p)=V.int 0)) | v=>v))=(ei.map λ p=>(i % p != 0||j % p != 0)).map V.ba:=by
 have e : ∀ (a p:Nat),(!decide (V.int ((a:Int) % (p:Int))=V.int 0))=(a % p != 0):=by
  intro a p;by_cases z:a % p=0
  ·have:(a:Int) % (p:Int)=0:=by omega
   rw [this,z];rfl
  ·have:(a:Int) % (p:Int)≠0:=by omega
   rw [decide_eq_false (λ y=>this (by injection y))];have:(a % p != 0)=true:=by simpa using z
   rw [this];rfl
 have aI:en=ei.map λ p=>V.int ((p:Nat):Int):=rfl
 rw [aI,List.map_map,List.map_map];refine List.map_congr_left λ p _=>?_
 show V.ba ((!decide (V.int ((i:Int) % (p:Int))=V.int 0)) || !decide (V.int ((j:Int) % (p:Int))=V.int 0))=V.ba (i % p != 0||j % p != 0);rw [e,e]
noncomputable def aaf:bF:=λ vs H Q _ => ∃ v,vs=[v]/\jw H v /\ ∀ H',aD H H'->Q (.ba (gK H v)) H'
theorem aab (T:bt K mg):ck P w mg base bX 3 T.Kq aaf:=by
 refine T.Kq.fn.cD w4 (λ vs H Q E h=>?_) (λ a5 A outer s H vs Q E ar h=>?_)
 ·obtain ⟨v,rfl,_⟩:=h;rfl
 ·obtain ⟨v,rfl,⟨k,bZ⟩,q⟩:=h;refine ⟨_,(aK (b7 (eG.pt (fY (gz (f3 (cL l3 T.l7 l6 (ai (ae 0) (ai (lN (by rfl) T.ix iv) az))))) (hz (bO ik (cL g7 T.fy fw (ai (ae 0) az)) aV (bM _)))))
    (aP (bx i7))
    b8)
   (aK (tm (i:=1) w4.eS rfl (Or.inr rfl) (cQ fe (ae 0) aV (λ _ _=>rfl)))
   (aK (tm (i:=2) w4.eS rfl (Or.inr rfl) (cQ fe (ae 0) aV (λ _ _=>rfl)))
   (aK (b7 (eG.pt (fY (gz (f3 (bw (Jq T) ar a9 (ai (ae 1) az)))) (hz (gz (f3 (bw (Jq T) ar a9 (ai (ae 2) az)))))))
    (aP (bx i7))
    b8)
   (aP (bx (cL (qR rfl) T.qD qw (ai (fP (eU w4 (N:=["prime", "top", "bottom"]) (js:=[none,some 1,some 2]) (List.forall_mem_cons.mpr ⟨rfl,(List.forall_mem_cons.mpr ⟨rfl,(List.forall_mem_nil _)⟩)⟩)) rfl (lV (ps (v:=.ref T.hC) (by rfl) T.nc rfl)) (λ _ _ _ _=>eX) (λ _ _ _ _=>fz)
     (λ _ _ _ _=>(Rh (m9 ik (bU n7 (ae 1) (ae 0)) aV (bM _)) (Ah (m9 ik (bU n7 (ae 2) (ae 0)) aV (bM _)))))) az)))))))),?_⟩
  obtain ⟨t,ty,e⟩:=z3 (K:=K) k;refine ⟨_,rfl,v, "tuple", t,_,rfl,ty,e,_,rfl,?_⟩;cases cz:gs H v with
  | none =>
   refine c6 (c6 ?_);have a8:=q H (aD.refl H);rw [show gK H v=false by unfold gK;rw [cz]] at a8;exact a8
  | some xs =>
   obtain ⟨a,rfl,av⟩:=A6 cz;obtain ⟨au,aB⟩:=bZ xs cz;refine bB ⟨_,rfl,a,xs,rfl,.inr (aW.of av),rfl,_,rfl,eg (λ h=>?_) (λ h=>?_)⟩
   ·have a8:=q H (aD.refl H);have aI:xs.length≠2:=λ z=>by
     rw [z] at h;exact absurd h (by decide)
    rw [show gK H (.ref a)=false by
     unfold gK;rw [cz];split
     ·rename_i i j z;cases z;exact absurd rfl aI
     ·rfl] at a8
    exact a8
   ·have aI:xs.length=2:=by
     have h':decide (V.int (xs.length:Int)=V.int 2)=true:=by
      cases z:decide (V.int (xs.length:Int)=V.int 2) with
      | true=>rfl
      | false=>rw [z] at h;exact absurd rfl h
     have:=tp h';omega
    match xs,aI,cz,av,aB with
    | [x,y],_,cz,av,aB =>
     have rr:gy H x:=aB x (by simp);have LJ:gy H y:=aB y (by simp);refine ⟨_,rfl,a,_,_,x,rfl,rfl,aW.of av,rfl,?_⟩;refine ⟨_,rfl,a,_,_,y,rfl,rfl,aW.of av,rfl,?_⟩;have Dt : ∀ {b:Bool},m2 x=false\/m2 y=false->gK H (.ref a)=false:=by
      intro _ z;unfold gK;rw [cz];split
      ·rename_i i j di;cases di;show (gL i&&gL j&&qN i.toNat j.toNat)=false;rcases z with z | z
       ·rw [show gL i=false from z];rfl
       ·rw [show gL j=false from z,Bool.and_false];rfl
      ·rfl
     refine ⟨_,rfl,x,rfl,rr,_,rfl,?_⟩;cases xX:m2 x with
     | false =>
      refine c6 (c6 ?_);have a8:=q H (aD.refl H);rw [Dt (b:=true) (.inl xX)] at a8;exact a8
     | true =>
      refine bB ⟨_,rfl,y,rfl,LJ,_,rfl,?_⟩;cases bf:m2 y with
      | false =>
       refine c6 ?_;have a8:=q H (aD.refl H);rw [Dt (b:=true) (.inr bf)] at a8;exact a8
      | true =>
       refine bB ?_;obtain ⟨i,rfl⟩ : ∃ i,x=.int i:=by cases x<;>first | exact ⟨_,rfl⟩ | cases xX
       obtain ⟨j,rfl⟩ : ∃ j,y=.int j:=by cases y<;>first | exact ⟨_,rfl⟩ | cases bf
       have oC:gL i=true:=xX;have ju:gL j=true:=bf;have er:1<=i:=by
        unfold gL at oC;simp only [Bool.and_eq_true,decide_eq_true_eq] at oC;exact oC.1.1
       have cY:1<=j:=by
        unfold gL at ju;simp only [Bool.and_eq_true,decide_eq_true_eq] at ju;exact ju.1.1
       refine ⟨T.hC,rfl,⟨en,T.j9 H⟩,λ D aY=>J_ (xs:=en) (f:=λ v=>match v with | .int p=>V.ba ((!decide (V.int ((i.toNat:Int) % p)=V.int 0)) || !decide (V.int ((j.toNat:Int) % p)=V.int 0)) | v=>v) rfl (by decide) aY (T.j9 H) ?_ ?_⟩
       ·intro x H' R ah r;obtain ⟨z,aN⟩:=List.getElem?_of_mem ah;obtain ⟨p,rfl,ay,qq⟩:=tK aN;have gG:2<=p:=m6 p (List.mem_of_getElem? ay);have xw:((i.toNat:Nat):Int)=i:=Int.toNat_of_nonneg (by omega);have ro:((j.toNat:Nat):Int)=j:=Int.toNat_of_nonneg (by omega);have bY:R (V.ba ((!decide (V.int (i % (p:Int))=V.int 0)) || !decide (V.int (j % (p:Int))=V.int 0))) H':=by
         have cb:R (V.ba ((!decide (V.int ((i.toNat:Int) % (p:Int))=V.int 0)) || !decide (V.int ((j.toNat:Int) % (p:Int))=V.int 0))) H':=r;rw [xw,ro] at cb;exact cb
        refine ⟨_,rfl,_,rfl,_,_,rfl,rfl,(by show (0:Int)<p;omega),rfl,_,rfl,?_⟩;cases z:decide (V.int (i % (p:Int))=V.int 0) with
        | false =>
         rw [z] at bY;exact c6 bY
        | true =>
         rw [z] at bY;exact bB ⟨_,rfl,_,rfl,_,_,rfl,rfl,(by show (0:Int)<p;omega),rfl,bY⟩
       ·rw [X0];refine ⟨D,_,rfl,a4.of br,?_⟩;have cx:gK H (.ref a)=(ei.map λ p=>(i.toNat % p != 0||j.toNat % p != 0)).all id:=by
         unfold gK;rw [cz];show (gL i&&gL j&&qN i.toNat j.toNat)=_;rw [oC,ju,Bool.and_self,Bool.true_and];rw [List.all_map];rfl
        rw [cx] at q;exact q _ (aD.new aY)
theorem aD.gs {H H':aj} (s:aD H H') {v:V} (k:gy H v):b9.gs H' v=b9.gs H v:=(j1.of s).gs k
theorem aD.jw {H H':aj} (s:aD H H') {v:V} (k:b9.jw H v):b9.jw H' v:=(j1.of s).jw k
theorem aD.gK {H H':aj} (s:aD H H') {v:V} (k:gy H v):b9.gK H' v=b9.gK H v:=by
 unfold b9.gK;rw [aD.gs s k]
noncomputable def pj (H:aj) (v:V):Bool:=match gs H v with
 | some xs=>decide (1<=xs.length)&&decide (xs.length<=16)&&xs.all (gK H)
 | none=>false
noncomputable def ZZ:bF:=λ vs H Q _ => ∃ v,vs=[v]/\zt H v /\ ∀ H',aD H H'->Q (.ba (pj H v)) H'
theorem KA (T:bt K mg):ck P w mg base bX 4 T.J6 ZZ:=by
 refine T.J6.fn.cD KG (λ vs H Q E h=>?_) (λ a5 A outer s H vs Q E ar h=>?_)
 ·obtain ⟨v,rfl,_⟩:=h;rfl
 ·obtain ⟨v,rfl,⟨k,bZ⟩,q⟩:=h;refine ⟨_,(aK (b7 (eG.pt (fY (gz (f3 (cL l3 T.l7 l6 (ai (ae 0) (ai (lN (by rfl) T.ix iv) az))))) (fY (bO kR (cL g7 T.fy fw (ai (ae 0) az)) aV (bM _)) (hz (bO jA (cL g7 T.fy fw (ai (ae 0) az)) (j8 (by rfl) T.C5) (bM _))))))
    (aP (bx i7))
    b8)
   (aP (bx (cL (qR rfl) T.qD qw (ai (fP (eU KG (N:=["part"]) (js:=[none]) (List.forall_mem_nil _)) rfl (lV (ae 0)) (λ _ _ _ _=>eX) (λ _ _ _ _=>fz)
     (λ _ _ _ _=>(bw (aab T) ar a9 (ai (ae 0) az)))) az))))),?_⟩
  obtain ⟨t,ty,e⟩:=z3 (K:=K) k;refine ⟨_,rfl,v, "tuple", t,_,rfl,ty,e,_,rfl,?_⟩;cases cz:gs H v with
  | none =>
   refine c6 (c6 ?_);have a8:=q H (aD.refl H);rw [show pj H v=false by unfold pj;rw [cz]] at a8;exact a8
  | some xs =>
   obtain ⟨a,rfl,av⟩:=A6 cz;obtain ⟨au,aB⟩:=bZ xs cz;have fE:pj H (.ref a)=(decide (1<=xs.length)&&decide (xs.length<=16)&&xs.all (gK H)):=by unfold pj;rw [cz]
   refine bB ⟨_,rfl,a,xs,rfl,.inr (aW.of av),_,_,rfl,rfl,_,rfl,eg (λ h=>?_) (λ h=>⟨_,rfl,a,xs,rfl,.inr (aW.of av),_,_,rfl,rfl,_,rfl,eg (λ h'=>?_) (λ h'=>?_)⟩)⟩
   ·have af:(xs.length:Int)<1:=of_decide_eq_true h;have a8:=q H (aD.refl H);rw [fE,decide_eq_false (by omega : ¬ 1<=xs.length)] at a8;exact c6 a8
   ·have af:(16:Int)<xs.length:=of_decide_eq_true h';have a8:=q H (aD.refl H);rw [fE,decide_eq_false (by omega : ¬ xs.length<=16),Bool.and_false] at a8;exact a8
   ·have af : ¬ (xs.length:Int)<1:=λ z=>h (decide_eq_true z)
    have aq : ¬ (16:Int)<xs.length:=λ z=>h' (decide_eq_true z)
    refine ⟨_,rfl,a,rfl,⟨_,aW.of av⟩,λ D aY=>qS (K:=K) (a:=a) (xs:=xs) (by rw [sizeLine_eq];omega) (λ i σ' H' ys=>(∃ u:Option V,σ'=[u])/\aD H H'/\ys=((xs.take i).map (gK H)).map V.ba) ⟨⟨_,rfl⟩,aD.new aY,rfl⟩ (λ i σ' H' ys _ _ ⟨_,s',_⟩=>aW.of (s' _ _ av)) ?_ ?_⟩
    ·rintro i x σ' H' ys R ah cV fK ⟨⟨u,rfl⟩,s',rfl⟩ et;obtain ⟨rr,_⟩:=id (aB x (List.mem_of_getElem? ah));refine ⟨_,rfl,x,rfl,aD.jw s' (aB x (List.mem_of_getElem? ah)),λ aX s4=>et _ _ _ (s4 _ _ cV) ⟨⟨_,rfl⟩,?_,?_⟩⟩
     ·intro b o c7;rw [a3 (b2 c7 aY)];exact s4 _ _ (s' _ _ c7)
     ·rw [aD.gK s' rr,pD ah,List.map_append];rfl
    ·rintro σ' H' ys cV fK ⟨_,s',rfl⟩;refine ⟨D,_,rfl,a4.of cV,?_⟩;have a8:=q H' s';rw [fE,decide_eq_true (by omega:1<=xs.length),decide_eq_true (by omega:xs.length<=16),Bool.and_self,Bool.true_and] at a8;rw [List.take_length,List.all_map];exact a8
noncomputable def n1:V->Bool
 | .int i=>decide (0<=i)
 | _=>false
noncomputable def ph (H:aj) (v:V):Bool:=match gs H v with
 | some xs=>decide (xs.length=10)&&xs.all n1
 | none=>false
noncomputable def Zy:bF:=λ vs H Q _ => ∃ v,vs=[v]/\jw H v /\ ∀ H',aD H H'->Q (.ba (ph H v)) H'
theorem Zo (T:bt K mg):ck P w mg base bX 2 T.JG Zy:=by
 refine T.JG.fn.cD Ki (λ vs H Q E h=>?_) (λ a5 A outer s H vs Q E ar h=>?_)
 ·obtain ⟨v,rfl,_⟩:=h;rfl
 ·obtain ⟨v,rfl,⟨k,bZ⟩,q⟩:=h;refine ⟨_,(aK (b7 (eG.pt (fY (gz (f3 (cL l3 T.l7 l6 (ai (ae 0) (ai (lN (by rfl) T.ix iv) az))))) (hz (bO ik (cL g7 T.fy fw (ai (ae 0) az)) (cL g7 T.fy fw (ai (ps (v:=.ref T.hC) (by rfl) T.nc rfl) az)) (bM _)))))
    (aP (bx i7))
    b8)
   (aP (bx (cL (qR rfl) T.qD qw (ai (fP (eU Ki (N:=["part"]) (js:=[none]) (List.forall_mem_nil _)) rfl (lV (ae 0)) (λ _ _ _ _=>eX) (λ _ _ _ _=>fz)
     (λ _ _ _ _=>(GC (bw (JY T) ar a9 (ai (ae 0) az)) (Ah (m9 vS (ae 0) aV (bM _)))))) az))))),?_⟩
  obtain ⟨t,ty,e⟩:=z3 (K:=K) k;refine ⟨_,rfl,v, "tuple", t,_,rfl,ty,e,_,rfl,?_⟩;cases cz:gs H v with
  | none =>
   refine c6 (c6 ?_);have a8:=q H (aD.refl H);rw [show ph H v=false by unfold ph;rw [cz]] at a8;exact a8
  | some xs =>
   obtain ⟨a,rfl,av⟩:=A6 cz;obtain ⟨au,aB⟩:=bZ xs cz;have fE:ph H (.ref a)=(decide (xs.length=10)&&xs.all n1):=by unfold ph;rw [cz]
   refine bB ⟨_,rfl,a,xs,rfl,.inr (aW.of av),T.hC,_,rfl,.inr (T.j9 H),rfl,_,rfl,eg (λ h=>?_) (λ h=>?_)⟩
   ·have aI:xs.length≠10:=λ z=>by
     rw [z] at h;exact absurd h (by decide)
    have a8:=q H (aD.refl H);rw [fE,decide_eq_false aI] at a8;exact a8
   ·have aI:xs.length=10:=by
     have h':decide (V.int (xs.length:Int)=V.int 10)=true:=by
      cases z:decide (V.int (xs.length:Int)=V.int 10) with
      | true=>rfl
      | false=>exact absurd (show (!decide (V.int (xs.length:Int)=V.int 10))=true by rw [z];rfl) h
     have:=tp h';omega
    refine ⟨_,rfl,a,rfl,⟨_,aW.of av⟩,λ D aY=>Ku (xs:=xs) (f:=λ v=>.ba (n1 v)) rfl (by rw [aI];decide) aY (aW.of av) ?_ ⟨D,xs.map n1,rfl,?_,?_⟩⟩
    ·intro x H' R s' ah r;refine ⟨_,rfl,x,rfl,aD.kind s' (aB x ah),_,rfl,?_⟩;cases hw:sx x with
     | false =>
      refine bB ?_;have cx:n1 x=false:=by cases x<;>first | rfl | cases hw
      have cb:R (.ba (n1 x)) H':=r;rw [cx] at cb;exact cb
     | true =>
      obtain ⟨n,rfl⟩:=G_ hw;exact c6 ⟨_,rfl,_,_,rfl,rfl,r⟩
    ·rw [List.map_map];exact a4.of br
    ·have a8:=q _ (aD.new (o:=.lst (xs.map λ v=>V.ba (n1 v))) aY);rw [fE,decide_eq_true aI,Bool.true_and] at a8;rw [List.all_map];exact a8
noncomputable def vJ (x:Str):Prop:=rF x/\1<=x.length/\x.length<=8/\(du x).all qB=true
noncomputable def YH:bF:=λ vs H Q _ => ∃ x:Str,vs=[.str x]/\vJ x /\ ∀ H',aD H H'->Q (.ba true) H'
theorem Yt (T:bt K mg):ck P w mg base bX 1 T.It YH:=by
 refine T.It.fn.cD Jv (λ vs H Q E h=>?_) (λ a5 A outer s H vs Q E ar h=>?_)
 ·obtain ⟨x,rfl,_⟩:=h;rfl
 ·obtain ⟨x,rfl,⟨av,af,jh,au⟩,q⟩:=h;refine ⟨_,(aK (b7 (eG.pt (fY (gz (f3 (cL l3 T.l7 l6 (ai (ae 0) (ai (lN (by rfl) T.kQ kO) az))))) (fY (bO kR (cL tN T.fy fw (ai (ae 0) az)) aV (bM _)) (hz (bO jA (cL tN T.fy fw (ai (ae 0) az)) (j8 (by rfl) T.CT) (bM _))))))
    (aP (bx i7))
    b8)
   (aP (bx (cL (qR rfl) T.qD qw (ai (fP (eU Jv (N:=["sign"]) (js:=[none]) (List.forall_mem_nil _)) rfl (Ai (ae 0)) (λ _ _ _ _=>eX) (λ _ _ _ _=>fz)
     (λ _ _ _ _=>(m9 BE (ae 0) (Bb (by rfl) T.Bw) (by with_unfolding_all rfl)))) az))))),?_⟩
  have aN:x.length<=sizeLine:=by rw [sizeLine_eq];omega
  refine ⟨_,rfl,.str x, "str", _,true,rfl,.str x,by kernel_rfl,_,rfl,bB ⟨_,rfl,_,rfl,aN,_,_,rfl,rfl,_,rfl,?_⟩⟩;rw [decide_eq_false (show ¬ (x.length:Int)<1 by omega)];refine bB ⟨_,rfl,_,rfl,aN,_,_,rfl,rfl,_,rfl,?_⟩;rw [decide_eq_false (show ¬ (x.length:Int) > 8 by omega)];refine bB ⟨_,rfl,_,rfl,av.all,λ D aY=>Bt (x:=x) (σ0:=[]) (t:=λ _=>true) (f:=λ i=>V.ba (qB (x.cps.getD i 0))) (by show x.length<=_;exact aN) ⟨_,rfl⟩ aY (λ i c H' R s' ao r=>r H' (aD.refl _)) (λ i c H' R s' ao aZ r=>?_) λ H1 s1 p8=>?_⟩
  ·have e:x.cps.getD i 0=c:=by rw [Array.getD_eq_getD_getElem?,ao];rfl
   have bY:=r H' (aD.refl _);rw [e] at bY;refine ⟨_,rfl,_,_,rfl,rfl,?_⟩;rw [show (⟨#[c]⟩:Str)=bV c from rfl,StrLaws.found_one,lets];exact bY
  ·have e:(((List.range x.cps.size).filter λ _=>true).map λ i=>V.ba (qB (x.cps.getD i 0)))=((List.range x.cps.size).map λ i=>qB (x.cps.getD i 0)).map V.ba:=by
    rw [List.filter_eq_self.mpr (λ _ _=>rfl),List.map_map];rfl
   rw [e] at p8;refine ⟨D,_,rfl,a4.of p8,?_⟩;rw [Uk,au];exact q H1 s1
structure gk (T:bt K mg) (H:aj) (bn pr hd dl:Addr) (kvs:List (Key×V)) (ds:List V):Prop where
 at_ : ∃ aG,H bn=some (.ins T.gA aG [("program", .ref pr),("held", .ref hd),("deeds", .ref dl)])
 hd:H hd=some (.cM kvs)
 dl:H dl=some (.lst ds)
theorem gk.same {T:bt K mg} {H H':aj} {bn pr hd dl:Addr} {kvs:List (Key×V)} {ds:List V} (b:gk T H bn pr hd dl kvs ds) (s:aD H H'):gk T H' bn pr hd dl kvs ds :=
 ⟨let ⟨aG,h⟩:=b.at_;⟨aG,s _ _ h⟩,s _ _ b.hd,s _ _ b.dl⟩
noncomputable def FU (kvs:List (Key×V)) (x:Str):V->List (Key×V)
 | .bp=>qz kvs (dc x)
 | w=>putK kvs (dc x) w
noncomputable def uz (a b:Addr) (H H':aj):Prop := ∀ c o,c≠a->c≠b->H c=some o->H' c=some o
noncomputable def Ur (T:bt K mg):bF:=λ vs H Q _ => ∃ (bn pr hd dl:Addr) (kvs:List (Key×V)) (ds:List V) (x:Str) (w:V),vs=[.ref bn,.str x,w]/\gk T H bn pr hd dl kvs ds/\kvs.length<=100/\((w=.bp /\ ∃ v,cE kvs (dc x)=some v) \/ ∃ t,w=.ref t) /\
 ∀ H',b3 hd H H'->H' hd=some (.cM (FU kvs x w))->Q .bp H'
theorem ZP (T:bt K mg):ck P w mg base bX 1 T.wY (Ur T):=by
 refine T.wY.fn.cD ZV (λ vs H Q E h=>?_) (λ a5 A outer s H vs Q E ar h=>?_)
 ·obtain ⟨bn,pr,hd,dl,kvs,ds,x,w,rfl,_⟩:=h;rfl
 ·obtain ⟨bn,pr,hd,dl,kvs,ds,x,w,rfl,B,aB,hw,q⟩:=h;refine ⟨_,(aP (b7 (bO lT (ae 2) iq (bM _))
    (aP (hB (g4 PySem.F.plainAttrs_dict PySem.F.slot_dict_pop PySem.F.type_dict_pop Vh (i_ (ae 0) (by rfl)) (ai (ae 1) az))))
    (aP (VW (lM ar) (i_ (ae 0) (by rfl)) (ae 1) (ae 2) rfl)))),?_⟩
  obtain ⟨aG,aa⟩:=B.at_;rcases hw with ⟨rfl,v,a7⟩ | ⟨t,rfl⟩
  ·refine ⟨_,rfl,rfl,_,rfl,c6 ⟨_,rfl,bn,_,aG,_,_,rfl,aa,T.e5,T.nf,rfl,?_,_,rfl,hd,x,kvs,v,rfl,rfl,B.hd,a7,λ H' e6 h'=>q H' e6 h'⟩⟩;exact .inr (.inr (.inl ⟨rfl,.inl ⟨kvs,B.hd⟩⟩))
  ·refine ⟨_,rfl,rfl,_,rfl,bB ⟨_,rfl,_,rfl,bn,_,aG,_,_,rfl,aa,T.e5,T.nf,rfl,_,rfl,hd,x,kvs,rfl,rfl,B.hd,by rw [sizeLine_eq];omega,λ H' e6 h'=>q H' e6 h'⟩⟩
noncomputable def Uo (T:bt K mg):bF:=λ vs H Q _ => ∃ (bn pr hd dl:Addr) (kvs:List (Key×V)) (ds:List V) (x:Str) (w:V),vs=[.ref bn,.str x,w]/\gk T H bn pr hd dl kvs ds/\kvs.length<=100/\ds.length<=1000/\((w=.bp /\ ∃ v,cE kvs (dc x)=some v) \/ ∃ t,w=.ref t) /\
 ∀ t H',uz hd dl H H'->H' t=some (.tup [.str x,(cE kvs (dc x)).getD .bp])->gk T H' bn pr hd dl (FU kvs x w) (ds++[.ref t])->Q .bp H'
theorem Ky (T:bt K mg):ck P w mg base bX 2 T.q4 (Uo T):=by
 refine T.q4.fn.cD ZT (λ vs H Q E h=>?_) (λ a5 A outer s H vs Q E ar h=>?_)
 ·obtain ⟨bn,pr,hd,dl,kvs,ds,x,w,rfl,_⟩:=h;rfl
 ·obtain ⟨bn,pr,hd,dl,kvs,ds,x,w,rfl,B,aB,jX,hw,q⟩:=h;refine ⟨_,(aK (hB (g4 PySem.F.plainAttrs_list PySem.F.slot_list_append PySem.F.type_list_append q2 (i_ (ae 0) (by rfl)) (ai (j7 (ai (ae 1) (ai (g4 PySem.F.plainAttrs_dict PySem.F.slot_dict_get PySem.F.type_dict_get Vg (i_ (ae 0) (by rfl)) (ai (ae 1) az)) az))) az)))
   (aP (hB (gj (ae 0) T.e5 T.wY.at_ (ZP T) (ar.mono (by decide)) T.wY.bd .nil a9 (ai (ae 1) (ai (ae 2) az)))))),?_⟩
  obtain ⟨aG,aa⟩:=B.at_;have Ew:hd≠dl:=dN B.hd B.dl nofun;have OE:bn≠dl:=dN aa B.dl nofun;have OF:bn≠hd:=dN aa B.hd nofun;refine ⟨_,rfl,bn,_,aG,_,_,rfl,aa,T.e5,T.Kp,rfl,.inl ⟨rfl,_,a4.of B.dl⟩,_,rfl,_,rfl,bn,_,aG,_,_,rfl,aa,T.e5,T.nf,rfl,.inr (.inr (.inl ⟨rfl,.inl ⟨kvs,B.hd⟩⟩)),_,rfl,hd,x,kvs,rfl,rfl,B.hd,eB,λ t H1 f1 s1 aZ=>?_⟩;refine ⟨dl,ds,_,rfl,rfl,s1 _ _ B.dl,by rw [sizeLine_eq];omega,λ aw dO aq=>?_⟩;have OT:t≠dl:=λ z=>by rw [z,B.dl] at f1;cases f1
  have OU:t≠hd:=λ z=>by rw [z,B.hd] at f1;cases f1
  have iB:gk T aw bn pr hd dl kvs (ds++[.ref t]):=⟨⟨aG,dO _ _ OE (s1 _ _ aa)⟩,dO _ _ Ew (s1 _ _ B.hd),aq⟩
  obtain ⟨DT,iW⟩:=iB.at_;refine ⟨_,rfl,bn,DT,_,rfl,iW,rfl,_,rfl,_,rfl,bn,pr,hd,dl,kvs,_,x,w,rfl,iB,aB,hw,λ aH dU aF=>?_⟩;refine q t aH (λ c o cJ dp gC=>dU _ _ cJ (dO _ _ dp (s1 _ _ gC))) (dU _ _ OU (dO _ _ OT aZ)) ⟨⟨DT,dU _ _ OF iW⟩,aF,dU _ _ (Ne.symm Ew) iB.dl⟩
noncomputable def YG (T:bt K mg):bF:=λ vs H Q _ => ∃ (bn pr hd dl:Addr) (kvs:List (Key×V)) (ds:List V) (x:Str) (v:V),vs=[.ref bn,.str x]/\gk T H bn pr hd dl kvs ds/\cE kvs (dc x)=some v/\Q v H
theorem C6 (T:bt K mg):ck P w mg base bX 1 T.od (YG T):=by
 refine T.od.fn.cD aaz (λ vs H Q E h=>?_) (λ a5 A outer s H vs Q E ar h=>?_)
 ·obtain ⟨bn,pr,hd,dl,kvs,ds,x,w,rfl,_⟩:=h;rfl
 ·obtain ⟨bn,pr,hd,dl,kvs,ds,x,v,rfl,B,a7,q⟩:=h;refine ⟨_,(aK (b7 (eG.pt (fY (gz (f3 (cL l3 T.l7 l6 (ai (ae 1) (ai (lN (by rfl) T.kQ kO) az))))) (hz (bO (Jt (lM ar)) (ae 1) (i_ (ae 0) (by rfl)) (by with_unfolding_all rfl)))))
    (aP eZ)
    b8)
   (aP (bx (VR (lM ar) (i_ (ae 0) (by rfl)) (ae 1) (λ _ _=>rfl))))),?_⟩
  obtain ⟨aG,aa⟩:=B.at_;refine ⟨_,rfl,.str x, "str", _,true,rfl,.str x,by kernel_rfl,_,rfl,bB ⟨_,rfl,_,rfl,bn,_,aG,_,_,rfl,aa,T.e5,T.nf,rfl,x,hd,kvs,rfl,rfl,B.hd,_,rfl,?_⟩⟩;rw [a7];exact bB ⟨_,rfl,bn,_,aG,_,_,rfl,aa,T.e5,T.nf,rfl,_,rfl,hd,x,kvs,v,rfl,rfl,B.hd,a7,q⟩
noncomputable def Un (T:bt K mg):bF:=λ vs H Q _ => ∃ (bn pr hd dl:Addr) (kvs:List (Key×V)) (ds:List V) (x:Str) (w:Addr) (a b:V),vs=[.ref bn,.str x]/\gk T H bn pr hd dl kvs ds/\cE kvs (dc x)=some (.ref w)/\H w=some (.tup [a,b])/\Q a H
theorem aal (T:bt K mg):ck P w mg base bX 2 T.w3 (Un T):=by
 refine T.w3.fn.cD aap (λ vs H Q E h=>?_) (λ a5 A outer s H vs Q E ar h=>?_)
 ·obtain ⟨bn,pr,hd,dl,kvs,ds,x,w,a,b,rfl,_⟩:=h;rfl
 ·obtain ⟨bn,pr,hd,dl,kvs,ds,x,w,a,b,rfl,B,a7,hw,q⟩:=h;refine ⟨_,(aP (bx (cQ fe (gj (ae 0) T.e5 T.od.at_ (C6 T) (ar.mono (by decide)) T.od.bd .nil a9 (ai (ae 1) az)) aV (λ _ _=>rfl)))),?_⟩;obtain ⟨aG,aa⟩:=B.at_;exact ⟨_,rfl,bn,aG,_,rfl,aa,rfl,_,rfl,bn,pr,hd,dl,kvs,ds,x,_,rfl,B,a7,w,_,_,_,rfl,rfl,aW.of hw,rfl,q⟩
noncomputable def V2 (T:bt K mg):bF:=λ vs H Q _ => ∃ (bn pr hd dl:Addr) (kvs:List (Key×V)) (ds:List V) (x:Str) (w:Addr) (a b:V),vs=[.ref bn,.str x]/\gk T H bn pr hd dl kvs ds/\cE kvs (dc x)=some (.ref w)/\H w=some (.tup [a,b])/\Q b H
theorem ZO (T:bt K mg):ck P w mg base bX 2 T.wX (V2 T):=by
 refine T.wX.fn.cD ZU (λ vs H Q E h=>?_) (λ a5 A outer s H vs Q E ar h=>?_)
 ·obtain ⟨bn,pr,hd,dl,kvs,ds,x,w,a,b,rfl,_⟩:=h;rfl
 ·obtain ⟨bn,pr,hd,dl,kvs,ds,x,w,a,b,rfl,B,a7,hw,q⟩:=h;refine ⟨_,(aP (bx (cQ fe (gj (ae 0) T.e5 T.od.at_ (C6 T) (ar.mono (by decide)) T.od.bd .nil a9 (ai (ae 1) az)) aV (λ _ _=>rfl)))),?_⟩;obtain ⟨aG,aa⟩:=B.at_;exact ⟨_,rfl,bn,aG,_,rfl,aa,rfl,_,rfl,bn,pr,hd,dl,kvs,ds,x,_,rfl,B,a7,w,_,_,_,rfl,rfl,aW.of hw,rfl,q⟩
noncomputable def Xt (T:bt K mg):bF:=λ vs H Q _ => ∃ (bn pr hd dl:Addr) (kvs:List (Key×V)) (ds:List V) (ns:List Str),vs=[.ref bn]/\gk T H bn pr hd dl kvs ds/\kvs.map (·.1)=ns.map dc/\ns.length<64 /\ ∀ ms:List Str,ms.Perm ns->PyProof.Rows.sortedS ms=true -> ∀ l H',H l=none->aD H H'->H' l=some (.lst (ms.map V.str))->Q (.ref l) H'
theorem Z_ (T:bt K mg):ck P w mg base bX 1 T.w2 (Xt T):=by
 refine T.w2.fn.cD aad (λ vs H Q E h=>?_) (λ a5 A outer s H vs Q E ar h=>?_)
 ·obtain ⟨bn,pr,hd,dl,kvs,ds,ns,rfl,_⟩:=h;rfl
 ·obtain ⟨bn,pr,hd,dl,kvs,ds,ns,rfl,B,aB,mB,q⟩:=h;refine ⟨_,(aP (bx (cL (ZI rfl) T.H4 HM (ai (i_ (ae 0) (by rfl)) az)))),?_⟩;obtain ⟨aG,aa⟩:=B.at_;exact ⟨_,rfl,bn,_,aG,_,_,rfl,aa,T.e5,T.nf,rfl,hd,kvs,ns,rfl,B.hd,aB,mB,λ ms pm uo l H' f s' e=>q ms pm uo l H' f s' e⟩
noncomputable def ts (T:bt K mg):bF:=λ vs H Q _ => ∃ (bn pr hd dl a:Addr) (kvs:List (Key×V)) (ds:List V) (x:Str) (ag:List Int),vs=[.ref bn,.str x,.ref a]/\gk T H bn pr hd dl kvs ds/\kvs.length<12/\ds.length<=1000/\vJ x/\H a=some (tupI ag)/\ag.length=10/\(∀ i∈ag,0<=i/\i<=1000000) /\
 ∀ t w H',uz hd dl H H'->H' w=some (.tup [.ref a,.int 0])->H' t=some (.tup [.str x,(cE kvs (dc x)).getD .bp])->gk T H' bn pr hd dl (putK kvs (dc x) (.ref w)) (ds++[.ref t])->Q .bp H'
theorem Zm (T:bt K mg):ck P w mg base bX 3 T.wQ (ts T):=by
 refine T.wQ.fn.cD Zs (λ vs H Q E h=>?_) (λ a5 A outer s H vs Q E ar h=>?_)
 ·obtain ⟨bn,pr,hd,dl,a,kvs,ds,x,ag,rfl,_⟩:=h;rfl
 ·obtain ⟨bn,pr,hd,dl,a,kvs,ds,x,ag,rfl,B,aB,jX,ah,av,d4,ay,q⟩:=h;refine ⟨_,(aK (b7 (gz (f3 (bw (Yt T) ar a9 (ai (ae 1) az))))
    (aP eZ)
    b8)
   (aK (b7 (eG.pt (fY (gz (f3 (bw (Zo T) ar a9 (ai (ae 2) az)))) (hz (bO jA (cL (Bq rfl) T.n4 n2 (ai (ae 2) az)) (j8 (by rfl) T.w1) (bM _)))))
    (aP eZ)
    b8)
   (aK (Aj (eG.pt (Ak (bO (Jt (lM ar)) (ae 1) (i_ (ae 0) (by rfl)) (by with_unfolding_all rfl)) (AK (bO eW (cL Ww T.fy fw (ai (i_ (ae 0) (by rfl)) az)) (j8 (by rfl) T.Cx) (bM _)))))
    (aP eZ)
    b8)
   (aP (hB (gj (ae 0) T.e5 T.q4.at_ (Ky T) (ar.mono (by decide)) T.q4.bd .nil a9 (ai (ae 1) (ai (j7 (ai (ae 2) (ai aV az))) az)))))))),?_⟩
  refine ⟨_,rfl,x,rfl,ah,λ H1 s1=>⟨_,rfl,bB ?_⟩⟩;have ka:=B.same s1;have hM:=s1 _ _ av;have Qa:ph H1 (.ref a)=true:=by
   unfold ph;rw [qL hM];show (decide ((ag.map V.int).length=10)&&(ag.map V.int).all n1)=true;rw [List.length_map,decide_eq_true d4,Bool.true_and,List.all_map,List.all_eq_true];intro i ax;exact decide_eq_true (ay i ax).1
  refine ⟨_,rfl,.ref a,rfl,?_,λ aw s2=>⟨_,rfl,?_⟩⟩
  ·exact HF hM (by rw [List.length_map];omega) λ y aL=>by obtain ⟨i,_,rfl⟩:=List.mem_map.mp aL;trivial
  rw [Qa];refine bB ⟨_,rfl,a,ag,rfl,aW.of (s2 _ _ hM),(by intro z;rw [z] at d4;cases d4),λ M k9 _=>⟨_,_,rfl,rfl,_,rfl,?_⟩⟩;rw [decide_eq_false (show ¬ M > 1000000 from by have:=(ay M k9).2;omega)];refine bB ?_;have iB:=ka.same s2;obtain ⟨aG,aa⟩:=iB.at_;refine ⟨λ σ' H'=>σ'=[some (.ref bn),some (.str x),some (.ref a)]/\aw=H',?_,?_⟩
  ·refine ⟨_,rfl,_,rfl,bn,_,aG,_,_,rfl,aa,T.e5,T.nf,rfl,x,hd,kvs,rfl,rfl,iB.hd,_,rfl,?_⟩;cases aA:(cE kvs (dc x)).isSome with
   | true=>exact bB (bB ⟨rfl,rfl⟩)
   | false =>
    refine c6 ⟨_,rfl,bn,_,aG,_,_,rfl,aa,T.e5,T.nf,rfl,hd,kvs,rfl,iB.hd,rfl,_,rfl,?_⟩;rw [decide_eq_false (show ¬ V.int (kvs.length:Int)=V.int 12 from λ z=>by injection z with z;omega)];exact bB ⟨rfl,rfl⟩
  ·rintro σ' H' ⟨rfl,rfl⟩;refine ⟨_,rfl,bn,aG,_,rfl,aa,rfl,_,rfl,_,rfl,eB,λ w aH c2 s3 hw=>?_⟩;refine ⟨bn,pr,hd,dl,kvs,ds,x,.ref w,rfl,iB.same s3,by omega,jX,.inr ⟨w,rfl⟩,λ t aX pQ aZ q_=>?_⟩;have zh:w≠dl:=λ z=>by rw [z,iB.dl] at c2;cases c2
   have zi:w≠hd:=λ z=>by rw [z,iB.hd] at c2;cases c2
   exact q t w aX (λ c o cJ dp gC=>pQ _ _ cJ dp (s3 _ _ (s2 _ _ (s1 _ _ gC)))) (pQ _ _ zi zh hw) aZ q_
noncomputable def wt (T:bt K mg):bF:=λ vs H Q _ => ∃ (bn pr hd dl:Addr) (kvs:List (Key×V)) (ds:List V) (x:Str) (w a:Addr) (xs:List V) (ak:List (Int×Int)) (ag:List Int) (n m:Int),vs=[.ref bn,.str x,.int m]/\gk T H bn pr hd dl kvs ds/\kvs.length<=100/\ds.length<=1000 /\
 H pr=some (.tup xs)/\eC H xs ak/\xs.length<=1000/\cE kvs (dc x)=some (.ref w)/\H w=some (.tup [.ref a,.int n])/\H a=some (tupI ag)/\ag.length=10/\nn ag=true/\0<=m/\m<=2000 /\
 ∀ (k:Nat) r a8 cP t H',k<=m.toNat->goN (rowsOf ak) k ag=some r->(k=m.toNat\/cv (rowsOf ak) r=none)->uz hd dl H H'->H' a8=some (tupI r)->H' cP=some (.tup [.ref a8,.int (n+(k:Int))])->H' t=some (.tup [.str x,.ref w]) ->
  gk T H' bn pr hd dl (putK kvs (dc x) (.ref cP)) (ds++[.ref t])->Q (.int (k:Int)) H'
theorem Zn (T:bt K mg):ck P w mg base bX 8 T.wR (wt T):=by
 refine T.wR.fn.cD CI (λ vs H Q E h=>?_) (λ a5 A outer s H vs Q E ar h=>?_)
 ·obtain ⟨bn,pr,hd,dl,kvs,ds,x,w,a,xs,ak,ag,n,m,rfl,_⟩:=h;rfl
 ·obtain ⟨bn,pr,hd,dl,kvs,ds,x,w,a,xs,ak,ag,n,m,rfl,B,aB,jX,lB,hf,au,a7,hw,av,d4,d1,m0,jj,q⟩:=h;refine ⟨_,(aK (bq 3 CI (gj (ae 0) T.e5 T.od.at_ (C6 T) (ar.mono (by decide)) T.od.bd .nil a9 (ai (ae 1) az)))
   (aK (bq 4 CI (bw (Ys T) ar a9 (ai (i_ (ae 0) (by rfl)) (ai (cQ fe (ae 3) aV (λ _ _=>rfl)) (ai (ae 2) az)))))
   (aK (hB (gj (ae 0) T.e5 T.q4.at_ (Ky T) (ar.mono (by decide)) T.q4.bd .nil a9 (ai (ae 1) (ai (j7 (ai (cQ fe (ae 4) aV (λ _ _=>rfl)) (ai (bU ff (cQ fe (ae 3) aV (λ _ _=>rfl)) (cQ fe (ae 4) aV (λ _ _=>rfl))) az))) az))))
   (aP (bx (cQ fe (ae 4) aV (λ _ _=>rfl))))))),?_⟩
  obtain ⟨aG,aa⟩:=B.at_;refine ⟨_,rfl,bn,aG,_,rfl,aa,rfl,_,rfl,bn,pr,hd,dl,kvs,ds,x,_,rfl,B,a7,?_⟩;refine ⟨_,rfl,bn,_,aG,_,_,rfl,aa,T.e5,T.w5,rfl,_,rfl,w,_,_,_,rfl,rfl,aW.of hw,rfl,_,rfl,pr,a,xs,ak,ag,m,rfl,lB,hf,au,av,d4,d1,m0,jj,λ k r e a8 H1 k1 aM N3 s1 he fV=>?_⟩;have ka:=B.same s1;refine ⟨_,rfl,bn,aG,_,rfl,s1 _ _ aa,rfl,_,rfl,_,rfl,e,_,_,_,rfl,rfl,aW.of he,rfl,_,rfl,w,_,_,_,rfl,rfl,aW.of (s1 _ _ hw),rfl,_,rfl,e,_,_,_,rfl,rfl,aW.of he,rfl,_,_,rfl,rfl,eB,λ cP aw f2 s2 Og=>?_⟩;have iB:=ka.same s2;refine ⟨bn,pr,hd,dl,kvs,ds,x,.ref cP,rfl,iB,aB,jX,.inr ⟨cP,rfl⟩,λ t aH k3 aZ Lf=>?_⟩;rw [a7] at aZ;have zh:cP≠dl:=λ z=>by rw [z,ka.dl] at f2;cases f2
  have zi:cP≠hd:=λ z=>by rw [z,ka.hd] at f2;cases f2
  have bZ : ∀ {c:Addr} {xs:List V},aw c=some (.tup xs)->aH c=some (.tup xs):=λ {c xs} ao=>k3 _ _ (dN ao iB.hd nofun) (dN ao iB.dl nofun) ao
  refine ⟨_,rfl,e,_,_,_,rfl,rfl,aW.of (bZ (s2 _ _ he)),rfl,?_⟩;exact q k r a8 cP t aH k1 aM N3 (λ c o cJ dp gC=>k3 _ _ cJ dp (s2 _ _ (s1 _ _ gC))) (bZ (s2 _ _ fV)) (k3 _ _ zi zh Og) aZ Lf
end
theorem I7 {H:aj} {p:Addr} {xs:List V} (h:H p=some (.tup xs)) (af:1<=xs.length) (aq:xs.length<=16) (hf : ∀ x∈xs,jB H x):pj H (.ref p)=true:=by
 unfold pj;rw [qL h];show (decide _&&decide _&&xs.all (gK H))=true;rw [decide_eq_true af,decide_eq_true aq];refine List.all_eq_true.mpr λ x ah=>?_
 obtain ⟨c,i,j,rfl,ao,f⟩:=hf x ah;unfold gK;rw [qL ao];exact f
theorem Ip {H:aj} {p:Addr} {xs:List V} (h:H p=some (.tup xs)) (aq:xs.length<=16) (hf : ∀ x∈xs,jB H x):zt H (.ref p) :=
 UD h (by omega) λ x ah=>by
  obtain ⟨c,i,j,rfl,ao,f⟩:=hf x ah;exact HF ao (by simp) (all2 trivial trivial)
section
variable {P:Program} {w:World} {K:PySem.W.Frag} {mg:Str->Option Value} {base:Heap}
noncomputable def V3 (T:bt K mg):bF:=λ vs H Q _ => ∃ (bn aG pr:Addr) (xs:List V),vs=[.ref bn,.ref pr]/\H bn=some (.ins T.gA aG [])/\H pr=some (.tup xs)/\1<=xs.length/\xs.length<=16/\(∀ x∈xs,jB H x) /\
 ∀ hd dl H',b3 bn H H'->H hd=none->H dl=none->gk T H' bn pr hd dl [] []->Q .bp H'
theorem ZQ (T:bt K mg):ck P w mg base bX 5 T.wZ (V3 T):=by
 refine T.wZ.fn.cD ZW (λ vs H Q E h=>?_) (λ a5 A outer s H vs Q E ar h=>?_)
 ·obtain ⟨bn,aG,pr,xs,rfl,_⟩:=h;rfl
 ·obtain ⟨bn,aG,pr,xs,rfl,aa,lB,eJ,EU,ft,q⟩:=h;refine ⟨_,(aK (b7 (gz (f3 (bw (KA T) ar a9 (ai (ae 1) az))))
    (aP eZ)
    b8)
   (aK (tl (ae 0) (ae 1) rfl)
   (aK (tl (ae 0) H_ rfl)
   (aP (tl (ae 0) (l0 az) rfl))))),?_⟩
  refine ⟨_,rfl,.ref pr,rfl,Ip lB EU ft,λ H1 s1=>⟨_,rfl,?_⟩⟩;rw [I7 lB eJ EU ft];refine bB ⟨_,rfl,_,rfl,bn,_,aG,_,rfl,s1 _ _ aa,T.e5,T.w5,by decide,?_⟩;refine λ hd aw f2 s2 aq=>⟨_,rfl,bn,_,aG,_,rfl,s2 _ _ br,T.e5,T.nf,(by show (1:Nat)<1000;decide),?_⟩
  refine ⟨eB,λ dl aH c2 s3 aF=>⟨_,rfl,bn,_,aG,_,rfl,s3 _ _ br,T.e5,T.Kp,(by show (2:Nat)<1000;decide),?_⟩⟩;have u9:hd≠bn:=λ z=>by rw [z,br] at f2;cases f2
  have zf:dl≠bn:=λ z=>by rw [z,br] at c2;cases c2
  have abN:dl≠hd:=λ z=>by rw [z,a3 u9,aq] at c2;cases c2
  have oR:H hd=none:=s1.free (by rw [a3 u9] at f2;exact f2);have mw:H dl=none:=by
   rw [a3 zf] at c2;have g:=s2.free c2;rw [a3 zf] at g;exact s1.free g
  refine q hd dl _ (λ c o eR gC=>?_) oR mw ⟨⟨aG,br⟩,?_,?_⟩
  ·rw [a3 eR];refine s3 _ _ ?_;rw [a3 eR];refine s2 _ _ ?_;rw [a3 eR];exact s1 _ _ gC
  ·rw [a3 u9];refine s3 _ _ ?_;rw [a3 u9];exact aq
  ·rw [a3 zf];exact aF
end
theorem EG:(("/" : String):Str)=bV 47:=by decide +kernel
theorem EI:(("^" : String):Str)=bV 94:=by decide +kernel
theorem EF:(("*" : String):Str)=bV 42:=by decide +kernel
theorem kG:((" " : String):Str)=bV 32:=by decide +kernel
theorem zq:(("1" : String):Str)=bV 49:=by decide +kernel
theorem zp:(("0" : String):Str)=bV 48:=by decide +kernel
theorem OX:(10:Int) ^ (60:Int).toNat=10 ^ 60:=by decide
theorem Gw {n:Int} (h0:0<=n) (af:n<10 ^ 60):n.natAbs.log2<1920:=by
 by_cases z:n.natAbs=0
 ·rw [z];decide
 ·rw [Nat.log2_lt z];have:n.natAbs<10 ^ 60:=by omega
  exact Nat.lt_trans this (by decide)
theorem s9 {n:Int} (h0:0<=n) (af:n<10 ^ 60):(bu n).length<=60:=ip (k:=59) h0 (by show n<((10 ^ 60:Nat):Int);omega)
theorem BF:en=lZ.map V.int:=rfl
theorem Hl {p e:Int} (ay:0<=p/\p<=29) (he:0<=e/\e<10 ^ 60):(gu p e).length<=63:=by
 have aE:=ip (k:=1) ay.1 (by show p<((100:Nat):Int);omega);have aI:=s9 he.1 he.2;have cx:(bV 94).length=1:=rfl;unfold gu;rw [len_app,len_app];omega
theorem pz {B:Nat} : ∀ (l:List Str),(∀ y∈l,y.length<=B)->(l.map (·.length)).sum<=l.length * B
 | [],_=>Nat.zero_le _
 | y::l,h=>by
  have cI:=pz l λ z aN=>h z (List.mem_cons_of_mem _ aN)
  have af:=h y List.mem_cons_self;show y.length+(l.map (·.length)).sum<=(l.length+1) * B;rw [Nat.add_mul];omega
theorem Au {l:List (Int×Int)} (au : ∀ q∈l,(0<=q.1/\q.1<=29)/\0<=q.2/\q.2<10 ^ 60) : ∀ y∈gh l,y.length<=63:=λ y aL=>by
 obtain ⟨q,aR,rfl⟩:=List.mem_map.mp aL;have:=au q (Hd aR);exact Hl this.1 this.2
theorem AY (l:List (Int×Int)):(gh l).length<=l.length:=by
 unfold gh;rw [List.length_map];exact List.length_filter_le _ _
theorem z8 {es:List Int} (h : ∀ e∈es,0<=e/\e<10 ^ 60) : ∀ q∈bN es,(0<=q.1/\q.1<=29)/\0<=q.2/\q.2<10 ^ 60:=λ q aR=>by
 obtain ⟨p,e⟩:=q;have af:=List.of_mem_zip aR;have:=Ci p af.1;exact ⟨⟨by omega,this.2⟩,h e af.2⟩
section
variable {P:Program} {w:World} {K:PySem.W.Frag} {mg:Str->Option Value} {base:Heap}
noncomputable def aaG:bF:=λ vs H Q _ => ∃ n:Int,vs=[.int n]/\0<=n/\n<10 ^ 60 /\ ∀ H',aD H H'->Q (.str (bu n)) H'
theorem pG (T:bt K mg):ck P w mg base bX 1 T.K0 aaG:=by
 refine T.K0.fn.cD w9 (λ vs H Q E h=>?_) (λ a5 A outer s H vs Q E ar h=>?_)
 ·obtain ⟨n,rfl,_⟩:=h;rfl
 ·obtain ⟨n,rfl,h0,af,q⟩:=h;refine ⟨_,(aK (bq 1 w9 (bU v8 aV aV))
   (aK (bq 2 w9 (ae 0))
   (aK (bq 3 w9 (l0 az))
   (aK (qT PassesOwn.never (bO vS (ae 2) (ae 1) (bM _))
    (aK eZ
   (aP eZ)))
   (aK (hB (g4 PySem.F.plainAttrs_list PySem.F.slot_list_append PySem.F.type_list_append q2 (ae 3) (ai (fX tO T.kQ kO (ai (ae 2) az)) az)))
   (aP (bx (Yy rfl (by rfl) T.Yj cF (ai (ae 3) az))))))))),?_⟩
  refine ⟨_,_,rfl,rfl,⟨by decide,by decide,by decide⟩,?_⟩;refine ⟨_,rfl,?_⟩;refine ⟨eB,λ l H1 au s1 aE=>?_⟩;refine qX (λ σ aw => ∃ B:Int,σ=[some (.int n),some (.int B),some (.int n),some (.ref l)]/\B=10 ^ 60/\aw=H1) (λ _ _=>0) ⟨_,rfl,OX,rfl⟩ ?_;rintro σ aw ⟨B,rfl,fj,rfl⟩;refine ⟨_,rfl,_,rfl,_,_,rfl,rfl,_,rfl,eg (λ h=>?_) (λ h=>?_)⟩
  ·have:=of_decide_eq_true h;omega
  ·refine ⟨_,rfl,.inl ⟨rfl,_,a4.of aE⟩,_,rfl,n,rfl,Gw h0 af,l,_,_,rfl,rfl,aE,(by show 0<sizeLine;decide),λ aH dU aF=>?_⟩;exact ⟨_,rfl,_,rfl,l,_,rfl,aF,q _ λ c o e=>dU _ _ (b2 e au) (s1 _ _ e)⟩
noncomputable def aaO:bF:=λ vs H Q _ => ∃ (c:Addr) (i j:Int),vs=[.ref c]/\H c=some (.tup [.int i,.int j])/\(0<=i/\i<10 ^ 60)/\(0<=j/\j<10 ^ 60) /\ ∀ H',aD H H'->Q (.str (my i j)) H'
theorem aaM (T:bt K mg):ck P w mg base bX 2 T.Lb aaO:=by
 refine T.Lb.fn.cD Dg (λ vs H Q E h=>?_) (λ a5 A outer s H vs Q E ar h=>?_)
 ·obtain ⟨c,i,j,rfl,_⟩:=h;rfl
 ·obtain ⟨c,i,j,rfl,ao,ax,bj,q⟩:=h;refine ⟨_,(aK (bq 1 Dg (bw (pG T) ar a9 (ai (cQ fe (ae 0) aV (λ _ _=>rfl)) az)))
   (aK (bq 2 Dg (bw (pG T) ar a9 (ai (cQ fe (ae 0) aV (λ _ _=>rfl)) az)))
   (aP (bx (Hp (ae 1) (ae 2)))))),?_⟩
  refine ⟨_,rfl,c,_,_,_,rfl,rfl,aW.of ao,rfl,i,rfl,ax.1,ax.2,λ H1 s1=>?_⟩;refine ⟨_,rfl,c,_,_,_,rfl,rfl,aW.of (s1 _ _ ao),rfl,j,rfl,bj.1,bj.2,λ aw s2=>?_⟩;have aE:=s9 ax.1 ax.2;have aI:=s9 bj.1 bj.2;refine ⟨_,rfl,bu i,⟨.inl rfl,by omega⟩,_,rfl,bu j,⟨.inl rfl,by omega⟩,?_⟩;have a8:=q aw (s1.trans s2);rw [EG];exact a8
noncomputable def h7 (H:aj) (xs:List V) (ak:List (Int×Int)):Prop:=xs.length=ak.length /\ ∀ (k:Nat) x,xs[k]?=some x -> ∃ c i j,x=.ref c/\H c=some (.tup [.int i,.int j])/\ak[k]?=some (i,j)
theorem h7.same {H H':aj} {xs:List V} {ak:List (Int×Int)} (h:h7 H xs ak) (s:aD H H'):h7 H' xs ak:=⟨h.1,λ k x ah=>by
 obtain ⟨c,i,j,aE,aI,cx⟩:=h.2 k x ah;exact ⟨c,i,j,aE,s _ _ aI,cx⟩⟩
theorem h7.but {H H':aj} {xs:List V} {ak:List (Int×Int)} {a:Addr} {ys:List V} (h:h7 H xs ak) (av:H a=some (.lst ys)) (s:b3 a H H'):h7 H' xs ak:=⟨h.1,λ k x ah=>by
 obtain ⟨c,i,j,aE,aI,cx⟩:=h.2 k x ah;exact ⟨c,i,j,aE,s _ _ (λ z=>by rw [z,av] at aI;cases aI) aI,cx⟩⟩
theorem h7.PN {H:aj} {xs:List V} {ak:List (Int×Int)} (h:h7 H xs ak) (hf : ∀ f∈ak,fx f.1 f.2=true) : ∀ x∈xs,jB H x:=λ x ah=>by
 obtain ⟨k,aB⟩:=List.getElem?_of_mem ah;obtain ⟨c,i,j,aE,aI,cx⟩:=h.2 k x aB;exact ⟨c,i,j,aE,aI,hf _ (List.mem_of_getElem? cx)⟩
theorem tB {i j:Int} (h:fx i j=true):(1<=i/\i<=1000000000000)/\1<=j/\j<=1000000000000:=by
 unfold fx gL at h;simp only [Bool.and_eq_true,decide_eq_true_eq] at h;exact ⟨h.1.1.1,h.1.2.1⟩
noncomputable abbrev eL (ak:List (Int×Int)):List Str:=ak.map λ f=>my f.1 f.2
theorem v9 {ak:List (Int×Int)} (hf : ∀ f∈ak,fx f.1 f.2=true) : ∀ y∈eL ak,y.length<=27:=λ y aL=>by
 obtain ⟨f,hm,rfl⟩:=List.mem_map.mp aL;have:=tB (hf f hm);exact S4 (by omega) (by omega) (by omega) (by omega)
noncomputable def YM:bF:=λ vs H Q _ => ∃ (p:Addr) (xs:List V) (ak:List (Int×Int)),vs=[.ref p]/\H p=some (.tup xs)/\xs.length<=16/\h7 H xs ak/\(∀ f∈ak,fx f.1 f.2=true) /\ ∀ H',aD H H'->Q (.str (Str.join (bV 32) (eL ak))) H'
theorem Js (T:bt K mg):ck P w mg base bX 3 T.Iz YM:=by
 refine T.Iz.fn.cD Jw (λ vs H Q E h=>?_) (λ a5 A outer s H vs Q E ar h=>?_)
 ·obtain ⟨p,xs,ak,rfl,_⟩:=h;rfl
 ·obtain ⟨p,xs,ak,rfl,ay,au,ea,hf,q⟩:=h;refine ⟨_,(aP (bx (g4 PySem.F.plainAttrs_str PySem.F.slot_str_join PySem.F.type_str_join qM cF (ai (fP (eU Jw (N:=["fraction"]) (js:=[none]) (List.forall_mem_nil _)) rfl (lV (ae 0)) (λ _ _ _ _=>eX) (λ _ _ _ _=>fz)
     (λ _ _ _ _=>(bw (aaM T) ar a9 (ai (ae 0) az)))) az)))),?_⟩
  refine ⟨rfl,_,rfl,p,rfl,⟨_,aW.of ay⟩,λ D aY=>qS (K:=K) (a:=p) (xs:=xs) (by rw [sizeLine_eq];omega) (λ i σ' H' ys=>(∃ u:Option V,σ'=[u])/\aD H H'/\ys=(eL (ak.take i)).map V.str) ⟨⟨_,rfl⟩,aD.new aY,rfl⟩ (λ i σ' H' ys _ _ ⟨_,s',_⟩=>aW.of (s' _ _ ay)) ?_ ?_⟩
  ·rintro i x σ' H' ys R ah cV fK ⟨⟨u,rfl⟩,s',rfl⟩ et;obtain ⟨c,er,cY,rfl,aI,cx⟩:=ea.2 i x ah;have fr:=tB (hf _ (List.mem_of_getElem? cx));refine ⟨_,rfl,c,er,cY,rfl,s' _ _ aI,⟨by omega,by omega⟩,⟨by omega,by omega⟩,λ aX s4=>et _ _ _ (s4 _ _ cV) ⟨⟨_,rfl⟩,?_,?_⟩⟩
   ·intro b o c7;rw [a3 (b2 c7 aY)];exact s4 _ _ (s' _ _ c7)
   ·unfold eL;rw [pD cx,List.map_append];rfl
  ·rintro σ' H' ys cV fK ⟨_,s',rfl⟩;have e:ak.take xs.length=ak:=List.take_of_length_le (by rw [ea.1];exact Nat.le_refl _);rw [e] at cV;have aa:=pz _ (v9 hf);have hlen:(eL ak).length<=16:=by rw [List.length_map,<-ea.1];exact au
   refine ⟨_,D,eL ak,rfl,rfl,cV,by decide,by omega,?_⟩;rw [kG];exact q H' s'
noncomputable def aaA:bF:=λ vs H Q _ => ∃ (p e:Int),vs=[.int p,.int e]/\(0<=p/\p<=29)/\(0<=e/\e<10 ^ 60) /\ ∀ H',aD H H'->Q (.str (gu p e)) H'
theorem aax (T:bt K mg):ck P w mg base bX 2 T.KU aaA:=by
 refine T.KU.fn.cD K3 (λ vs H Q E h=>?_) (λ a5 A outer s H vs Q E ar h=>?_)
 ·obtain ⟨p,e,rfl,_⟩:=h;rfl
 ·obtain ⟨p,e,rfl,ay,he,q⟩:=h;refine ⟨_,(aK (bq 2 K3 (bw (pG T) ar a9 (ai (ae 1) az)))
   (aP (bx (Hp (ae 0) (ae 2))))),?_⟩
  refine ⟨_,rfl,e,rfl,he.1,he.2,λ H1 s1=>?_⟩;have aE:=s9 (n:=p) ay.1 (by omega);have aI:=s9 he.1 he.2;refine ⟨_,rfl,bu p,⟨.inr ⟨p,rfl,Gw ay.1 (by omega),rfl⟩,by omega⟩,_,rfl,bu e,⟨.inl rfl,by omega⟩,?_⟩;have a8:=q H1 s1;rw [EI];exact a8
noncomputable def aaH:bF:=λ vs H Q _ => ∃ (a:Addr) (es:List Int),vs=[.ref a]/\H a=some (.tup (es.map V.int))/\es.length=10/\(∀ e∈es,0<=e/\e<10 ^ 60) /\ ∀ H',aD H H'->Q (.str (dm (bN es))) H'
theorem oe (T:bt K mg):ck P w mg base bX 3 T.K1 aaH:=by
 refine T.K1.fn.cD Dd (λ vs H Q E h=>?_) (λ a5 A outer s H vs Q E ar h=>?_)
 ·obtain ⟨a,es,rfl,_⟩:=h;rfl
 ·obtain ⟨a,es,rfl,av,cU,dr,q⟩:=h;refine ⟨_,(aK (wq (i:=1) Dd.eS rfl (Or.inl rfl) (eU Dd (N:=["prime", "power"]) (js:=[none,none]) (List.forall_mem_nil _)) rfl (qJ rfl rfl T.j4 (ai (ps (v:=.ref T.hC) (by rfl) T.nc rfl) (ai (ae 0) az))) (λ _ _ _ _=>(oa (K:=K) (n:=2) rfl rfl (eE eX (eE (l1 (i:=1) (show List.Nodup (["prime", "power"]:List Str) from by decide +kernel) rfl (Or.inl rfl) (Or.inr rfl)) ja)))) (λ _ _ _ _=>(AJ (bO jA (ae 1) aV (bM _))))
     (λ _ _ _ _=>(bw (aax T) ar a9 (ai (ae 0) (ai (ae 1) az)))))
   (aK (b7 (bO eW (cL g7 T.fy fw (ai (ae 1) az)) aV (bM _))
    (aP (bx cF))
    b8)
   (aP (bx (g4 PySem.F.plainAttrs_str PySem.F.slot_str_join PySem.F.type_str_join qM cF (ai (ae 1) az)))))),?_⟩
  refine ⟨_,rfl,T.hC,a,rfl,⟨_,T.j9 H⟩,⟨_,aW.of av⟩,λ D aY=>?_⟩;have ez:=Ag cU;have get : ∀ {i:Nat} {x y:V},en[i]?=some x->(es.map V.int)[i]?=some y -> ∃ p e,x=.int p/\y=.int e/\(bN es)[i]?=some (p,e):=λ {i x y} ah aL=>by
   rw [BF] at ah;obtain ⟨p,rfl,ay⟩:=hY ah;obtain ⟨e,rfl,he⟩:=hY aL;exact ⟨p,e,rfl,rfl,by rw [List.getElem?_zip_eq_some];exact ⟨ay,he⟩⟩
  have a0:=z8 dr;refine Zd (K:=K) (σ0:=[]) (xs:=en) (ys:=es.map V.int) (λ i=>decide (0<((bN es).getD i (0,0)).2)) (λ i=>V.str (gu ((bN es).getD i (0,0)).1 ((bN es).getD i (0,0)).2)) (by rw [List.length_map,cU];decide) ⟨_,_,rfl⟩ aY (λ H' s'=>T.j9 H') (λ H' s'=>aW.of (s' _ _ av)) (λ i x y H' R s' ah aL r=>?_) (λ i x y H' R s' ah aL aZ r=>?_) λ H1 s1 af=>?_
  ·obtain ⟨p,e,rfl,rfl,aN⟩:=get ah aL;have xv:(bN es).getD i (0,0)=(p,e):=by simp [List.getD,aN]
   have bY:R (decide (0<((bN es).getD i (0,0)).2)) H':=r;rw [xv] at bY;exact ⟨_,rfl,_,_,rfl,rfl,_,rfl,bY⟩
  ·obtain ⟨p,e,rfl,rfl,aN⟩:=get ah aL;have xv:(bN es).getD i (0,0)=(p,e):=by simp [List.getD,aN]
   have bY : ∀ aw,aD H' aw->R (V.str (gu ((bN es).getD i (0,0)).1 ((bN es).getD i (0,0)).2)) aw:=r;rw [xv] at bY;have:=a0 _ (List.mem_of_getElem? aN);exact ⟨_,rfl,_,rfl,p,e,rfl,this.1,this.2,bY⟩
  have aI:min en.length (es.map V.int).length=(bN es).length:=by rw [ez,List.length_map,cU];rfl
  have cx:((List.range (min en.length (es.map V.int).length)).filter λ i=>decide (0<((bN es).getD i (0,0)).2)).map (λ i=>V.str (gu ((bN es).getD i (0,0)).1 ((bN es).getD i (0,0)).2))=(gh (bN es)).map V.str:=by
   rw [aI,YA (0,0) (λ p:Int×Int=>decide (0<p.2)) (λ p=>V.str (gu p.1 p.2))];unfold gh;rw [List.map_map];rfl
  rw [cx] at af;have aa:=pz _ (Au a0);have iZ:=AY (bN es);have a8:=q H1 s1;refine ⟨_,rfl,D,_,rfl,.inl (a4.of af),rfl,_,rfl,eg (λ h=>?_) (λ h=>?_)⟩
  ·have gN:gh (bN es)=[]:=by
    have:=tp h;rw [List.length_map] at this;exact List.eq_nil_of_length_eq_zero (by omega)
   unfold dm at a8;rw [if_pos gN] at a8;rw [zq];exact a8
  ·have gN:gh (bN es)≠[]:=λ z=>by
    rw [z] at h;exact h (by decide)
   unfold dm at a8;rw [if_neg gN] at a8;refine ⟨rfl,_,rfl,_,D,gh (bN es),rfl,rfl,af,by decide,by omega,?_⟩;rw [EF];exact a8
end
open PySem bC cf om PySem.NumText
theorem E6 : ∀ c:Nat,48<=c->c<=57->c∈(("0123456789" : String):Str).cps.toList:=by
 intro c af aq;have e:(("0123456789" : String):Str).cps.toList=[48,49,50,51,52,53,54,55,56,57]:=by decide +kernel
 rw [e];simp only [List.mem_cons,List.not_mem_nil,or_false];omega
section
variable {P:Program} {w:World} {K:PySem.W.Frag} {mg:Str->Option Value} {base:Heap}
noncomputable def aag:bF:=λ vs H Q _ => ∃ n:Int,vs=[.str (bu n)]/\1<=n/\n<=1000000000000 /\ ∀ H',aD H H'->Q (.int n) H'
theorem KQ (T:bt K mg):ck P w mg base bX 1 T.Kr aag:=by
 refine T.Kr.fn.cD KS (λ vs H Q E h=>?_) (λ a5 A outer s H vs Q E ar h=>?_)
 ·obtain ⟨n,rfl,_⟩:=h;rfl
 ·obtain ⟨n,rfl,h0,af,q⟩:=h;refine ⟨_,(aK (b7 (eG.pt (fY (bO kR (cL tN T.fy fw (ai (ae 0) az)) aV (bM _)) (fY (bO jA (cL tN T.fy fw (ai (ae 0) az)) (j8 (by rfl) T.CS) (bM _)) (hz (bO eW (cQ Gs (ae 0) aV (λ _ _=>rfl)) cF (bM _))))))
    (aP eZ)
    b8)
   (aK (b7 (gz (f3 (cL (qR rfl) T.qD qw (ai (fP (eU KS (N:=["sign"]) (js:=[none]) (List.forall_mem_nil _)) rfl (Ai (ae 0)) (λ _ _ _ _=>eX) (λ _ _ _ _=>fz)
     (λ _ _ _ _=>(m9 BE (ae 0) (Bb (by rfl) T.wI) (by with_unfolding_all rfl)))) az))))
    (aP eZ)
    b8)
   (aP (bx (fX II T.vR vK (ai (ae 0) az)))))),?_⟩
  obtain ⟨c,r,ao,abZ⟩:=Hf (n:=n) (by omega);have P5:(bu n).length<=13:=ip (k:=12) (by omega) (by omega);have dt:1<=(bu n).length:=by rw [<-px,ao];simp
  have sY:=v7 (n:=n) (by omega);have aN:(bu n).length<=sizeLine:=by rw [sizeLine_eq];omega
  have lr:ll (bu n).cps.toList 0=some c:=by
   rw [show (bu n).cps.toList=c::r from ao];exact g5 (by decide) rfl
  refine ⟨_,rfl,_,rfl,aN,_,_,rfl,rfl,_,rfl,eg (λ h=>?_) (λ h=>⟨_,rfl,_,rfl,aN,_,_,rfl,rfl,_,rfl,eg (λ h'=>?_) (λ h'=>⟨_,rfl,_,_,c,rfl,rfl,aN,lr,rfl,_,rfl,eg (λ aq=>?_) (λ aq=>?_)⟩)⟩)⟩
  ·have:=of_decide_eq_true h;omega
  ·have:=of_decide_eq_true h';omega
  ·exfalso;have e:=of_decide_eq_true aq;rw [zp] at e;have aE:(⟨#[c]⟩:Str)=bV 48:=by injection e
   have aI:[c]=[48]:=congrArg du aE;have cx:c=48:=by injection aI
   omega
  ·have zC:(bu n).cps.all (· < 128)=true:=by
    rw [Array.all_eq_true'];intro x ah;have:=sY x (Array.mem_toList_iff.mpr ah);exact decide_eq_true (by omega)
   refine ⟨_,rfl,_,rfl,zC,λ D aY=>Bt (x:=bu n) (σ0:=[]) (t:=λ _=>true) (f:=λ _=>V.ba true) (by show (bu n).length<=_;exact aN) ⟨_,rfl⟩ aY (λ i c H' R s' ao r=>r H' (aD.refl _)) (λ i c H' R s' ao aZ r=>?_) λ H1 s1 af=>?_⟩
   ·have hd:=sY c (List.mem_of_getElem? (show (bu n).cps.toList[i]?=some c by rw [<-ao];simp));refine ⟨_,rfl,_,_,rfl,rfl,?_⟩;rw [show (⟨#[c]⟩:Str)=bV c from rfl,StrLaws.found_one,decide_eq_true (E6 c hd.1 hd.2)];exact r H' (aD.refl _)
   ·have e:(((List.range (bu n).cps.size).filter λ _=>true).map λ _=>V.ba true)=(((List.range (bu n).cps.size).filter λ _=>true).map λ _=>true).map V.ba:=by
     rw [List.map_map];rfl
    rw [e] at af;refine ⟨D,_,rfl,a4.of af,_,rfl,?_⟩;rw [show ((((List.range (bu n).cps.size).filter λ _=>true).map λ _=>true).all id)=true by rw [List.all_map];exact List.all_eq_true.mpr λ _ _=>rfl];exact bB ⟨_,rfl,bu n,n,rfl,by omega,AG (by omega) (by omega),q H1 s1⟩
noncomputable def ZC:bF:=λ vs H Q _ => ∃ (x y:Str) (i j:Int),vs=[.str x,.str y]/\(y.length == 0)=false/\x.length<=1000/\Txt.split x y=[bu i,bu j]/\(1<=i/\i<=1000000000000)/\(1<=j/\j<=1000000000000)/\gY (.tup [.int i,.int j]) H Q
theorem Kf (T:bt K mg):ck P w mg base bX 2 T.JJ ZC:=by
 refine T.JJ.fn.cD Kk (λ vs H Q E h=>?_) (λ a5 A outer s H vs Q E ar h=>?_)
 ·obtain ⟨x,y,i,j,rfl,_⟩:=h;rfl
 ·obtain ⟨x,y,i,j,rfl,aL,ah,aA,ax,bj,q⟩:=h;refine ⟨_,(aK (bq 2 Kk (g4 PySem.F.plainAttrs_str PySem.F.slot_str_split PySem.F.type_str_split wA (ae 0) (ai (ae 1) az)))
   (aK (b7 (bO ik (cL g7 T.fy fw (ai (ae 2) az)) aV (bM _))
    (aP eZ)
    b8)
   (aP (bx (j7 (ai (bw (KQ T) ar a9 (ai (cQ fg (ae 2) aV (λ _ _=>rfl)) az)) (ai (bw (KQ T) ar a9 (ai (cQ fg (ae 2) aV (λ _ _=>rfl)) az)) az))))))),?_⟩
  refine ⟨_,rfl,rfl,_,rfl,x,y,rfl,rfl,aL,by rw [sizeLine_eq];omega,λ l H1 f1 s1 aE=>?_⟩;rw [aA] at aE;refine ⟨_,rfl,l,_,rfl,.inl (a4.of aE),rfl,_,rfl,bB ?_⟩;refine ⟨_,rfl,l,_,_,_,rfl,rfl,a4.of aE,rfl,i,rfl,ax.1,ax.2,λ aw s2=>?_⟩;refine ⟨_,rfl,l,_,_,_,rfl,rfl,a4.of (s2 _ _ aE),rfl,j,rfl,bj.1,bj.2,λ aH s3=>?_⟩;exact ⟨eB,λ p aX f4 s4 gN=>q p aX ((s1.trans (s2.trans s3)).free f4) ((s1.trans (s2.trans s3)).trans s4) gN⟩
theorem wz (c:Nat) (l:List Str) {B:Nat} (h : ∀ y∈l,y.length<=B):(Str.join (bV c) l).length<=l.length * (B+1):=by
 have af:=StrLaws.join_length_le (bV c) l;have aq:=pz l h;have aF:(bV c).length=1:=rfl;rw [aF] at af;rw [Nat.mul_add];omega
noncomputable def Us:bF:=λ vs H Q _ => ∃ (ak:List (Int×Int)),vs=[.str (Str.join (bV 32) (eL ak))]/\1<=ak.length/\ak.length<=16/\(∀ f∈ak,fx f.1 f.2=true) /\ ∀ p xs H',aD H H'->H' p=some (.tup xs)->h7 H' xs ak->Q (.ref p) H'
theorem Tr (T:bt K mg):ck P w mg base bX 5 T.Gi Us:=by
 refine T.Gi.fn.cD AQ (λ vs H Q E h=>?_) (λ a5 A outer s H vs Q E ar h=>?_)
 ·obtain ⟨ak,rfl,_⟩:=h;rfl
 ·obtain ⟨ak,rfl,dt,ab0,hf,q⟩:=h;refine ⟨_,(aK (b7 (gz (f3 (cL l3 T.l7 l6 (ai (ae 0) (ai (lN (by rfl) T.kQ kO) az)))))
    (aP eZ)
    b8)
   (aK (bq 1 AQ (fX pE T.ix iv (ai (fP (eU AQ (N:=["word"]) (js:=[none]) (List.forall_mem_nil _)) rfl (ob (g4 PySem.F.plainAttrs_str PySem.F.slot_str_split PySem.F.type_str_split wA (ae 0) (ai cF az))) (λ _ _ _ _=>eX) (λ _ _ _ _=>fz)
     (λ _ _ _ _=>(bw (Kf T) ar a9 (ai (ae 0) (ai cF az))))) az)))
   (aK (b7 (gz (f3 (bw (KA T) ar a9 (ai (ae 1) az))))
    (aP eZ)
    b8)
   (aP (bx (ae 1)))))),?_⟩
  obtain ⟨gE,tys,es⟩:=z2 (K:=K) (H:=H) (v:=.str (Str.join (bV 32) (eL ak))) trivial;refine ⟨_,rfl,_, "str", gE,_,rfl,tys,es,_,rfl,bB ?_⟩;have gd:=v9 hf;have ib:=wz 32 _ gd;have cW:(eL ak).length=ak.length:=List.length_map ..;have dX:Txt.split (Str.join (bV 32) (eL ak)) (bV 32)=eL ak:=tG 32 _ (λ z=>by rw [z] at cW;simp at cW;omega) λ y aL=>by
   obtain ⟨f,hm,rfl⟩:=List.mem_map.mp aL;have:=tB (hf f hm);exact HU (by omega) (by omega)
  refine ⟨_,rfl,rfl,_,_,rfl,rfl,by decide,by rw [sizeLine_eq];rw [cW] at ib;omega,λ l H1 f1 s1 aE=>?_⟩;rw [kG,dX] at aE;refine ⟨l,rfl,⟨_,a4.of aE⟩,λ D aY=>?_⟩;refine BX (K:=K) (a:=l) (σ0:=[]) (xs:=(eL ak).map V.str) (by rw [sizeLine_eq,List.length_map,cW];omega) ⟨_,rfl⟩ aY aE (λ i H' zs=>h7 H' zs (ak.take i)) ⟨rfl,λ k x e=>by cases e⟩ (λ i H' aw zs ys cV ar b=>ar.but cV b) (λ i x H' zs R s' ah cV ez ar et=>?_) λ aw zs s2 gS ez ar=>?_
  ·obtain ⟨f,ku,rfl⟩ : ∃ f,ak[i]?=some f/\x=.str (my f.1 f.2):=by
    rw [List.getElem?_map,List.getElem?_map] at ah;cases ku:ak[i]? with
    | none=>rw [ku] at ah;cases ah
    | some f=>rw [ku] at ah;exact ⟨f,rfl,(Option.some.inj ah).symm⟩
   have uV:=List.mem_of_getElem? ku;have fr:=tB (hf f uV);refine ⟨_,rfl,_,_,f.1,f.2,rfl,by decide,Nat.le_trans (gd _ (List.mem_map.mpr ⟨f,uV,rfl⟩)) (by decide),by rw [EG];exact WL (by omega) (by omega),fr.1,fr.2,λ p aX f4 s4 gN=>et _ _ s4 ?_⟩;have N4:=ar.same s4;have nG:ak.take (i+1)=ak.take i++[f]:=by rw [List.take_add_one,ku];rfl
   have D_:(ak.take i).length=i:=by rw [<-ar.1,ez]
   refine ⟨by rw [nG,List.length_append,List.length_append,ar.1];rfl,λ k y aL=>?_⟩;rw [nG];rcases Nat.lt_or_ge k zs.length with aB | aB
   ·rw [List.getElem?_append_left aB] at aL;obtain ⟨c,er,cY,g1,g2,g3⟩:=N4.2 k y aL;exact ⟨c,er,cY,g1,g2,by rw [List.getElem?_append_left (by rw [<-ar.1];exact aB)];exact g3⟩
   ·rw [List.getElem?_append_right aB] at aL;have NT:k=zs.length:=by
     cases NX:k - zs.length with
     | zero=>omega
     | succ m=>rw [NX] at aL;cases aL
    subst NT;rw [Nat.sub_self] at aL;cases aL;exact ⟨p,f.1,f.2,rfl,gN,by rw [List.getElem?_append_right (by rw [D_,ez];exact Nat.le_refl _),D_,ez,Nat.sub_self];rfl⟩
  ·have k7:ak.take ((eL ak).map V.str).length=ak:=List.take_of_length_le (by rw [List.length_map,cW];exact Nat.le_refl _);rw [k7] at ar;refine ⟨D,_,rfl,a4.of gS,λ p aH c2 s3 cx=>?_⟩;have kD:=ar.same s3;have fi:=kD.PN hf;have dR:zs.length=ak.length:=ar.1;refine ⟨_,rfl,_,rfl,Ip cx (by omega) fi,λ aX s4=>⟨_,rfl,?_⟩⟩;rw [I7 cx (by omega) (by omega) fi];exact bB ⟨_,rfl,q p zs aX (s1.trans (s2.trans (s3.trans s4))) (s4 _ _ cx) (kD.same s4)⟩
noncomputable def j2 (l:List (Int×Int)) (kvs:List (Key×V)):List (Key×V):=l.foldl (λ k p=>putK k (gO p.1) (.int p.2)) kvs
theorem Ba {p:Int} : ∀ {l:List (Int×Int)} {kvs:List (Key×V)},p∉l.map (·.1)->cE (j2 l kvs) (gO p)=cE kvs (gO p)
 | [],_,_=>rfl
 | q::l,kvs,h=>by
  show cE (j2 l (putK kvs (gO q.1) (.int q.2))) (gO p)=_;rw [Ba (λ z=>h (List.mem_cons_of_mem _ z)),wF,if_neg];intro e;injection e with e;exact h (by rw [e];exact List.mem_cons_self)
theorem Hk {p e:Int} : ∀ {l:List (Int×Int)} {kvs:List (Key×V)},(l.map (·.1)).Nodup->(p,e)∈l->cE (j2 l kvs) (gO p)=some (.int e)
 | [],_,_,h=>by cases h
 | q::l,kvs,aC,h=>by
  obtain ⟨cJ,dp⟩:=List.nodup_cons.mp aC;show cE (j2 l (putK kvs (gO q.1) (.int q.2))) (gO p)=_;rcases List.mem_cons.mp h with z | z
  ·subst z;rw [Ba cJ,wF,if_pos rfl]
  ·exact Hk dp z
theorem H9 : ∀ {l:List (Int×Int)} {kvs:List (Key×V)},(j2 l kvs).length<=kvs.length+l.length
 | [],_=>Nat.le_refl _
 | q::l,kvs=>by
  have h:=H9 (l:=l) (kvs:=putK kvs (gO q.1) (.int q.2));have aq:(putK kvs (gO q.1) (.int q.2)).length<=kvs.length+1:=by
   unfold putK;split
   ·rw [List.length_map];omega
   ·rw [List.length_append];exact Nat.le_refl _
  show (j2 l (putK kvs (gO q.1) (.int q.2))).length<=kvs.length+(l.length+1);omega
theorem T2 {es:List Int} (h0 : ∀ e∈es,0<=e) {i:Nat} {p e:Int} (h:(bN es)[i]?=some (p,e)):(cE (j2 (ht (bN es)) []) (gO p)).getD (.int 0)=V.int e:=by
 have hm:=List.mem_of_getElem? h;have he:=h0 e (List.mem_of_getElem? (Sp h).2);by_cases ay:0<e
 ·rw [Hk (Xd es) (List.mem_filter.mpr ⟨hm,decide_eq_true ay⟩)];rfl
 ·rw [Ba (λ z=>?_)]
  ·show V.int 0=V.int e;rw [show e=0 by omega]
  ·obtain ⟨⟨fT,f⟩,hf,aI⟩:=List.mem_map.mp z;cases aI;obtain ⟨aF,aU⟩:=List.mem_filter.mp hf;have:=Hb (Hn es) hm aF;have bW:0<f:=of_decide_eq_true aU;omega
noncomputable def aar:bF:=λ vs H Q _ => ∃ (es:List Int),vs=[.str (Str.join (bV 42) (gh (bN es)))]/\gh (bN es)≠[]/\es.length=10/\(∀ e∈es,0<=e/\e<=1000000) /\ ∀ p H',aD H H'->H' p=some (.tup (es.map V.int))->Q (.ref p) H'
theorem aan (T:bt K mg):ck P w mg base bX 3 T.KL aar:=by
 refine T.KL.fn.cD tV (λ vs H Q E h=>?_) (λ a5 A outer s H vs Q E ar h=>?_)
 ·obtain ⟨es,rfl,_⟩:=h;rfl
 ·obtain ⟨es,rfl,c5,cU,dr,q⟩:=h;refine ⟨_,(aK (tm (i:=1) tV.eS rfl (Or.inr rfl) H_)
   (aK (fZ PassesOwn.never rfl (ob (g4 PySem.F.plainAttrs_str PySem.F.slot_str_split PySem.F.type_str_split wA (ae 0) (ai cF az))) (eD 2 tV)
    (aK (bq 3 tV (bw (Kf T) ar a9 (ai (ae 2) (ai cF az))))
   (aP (VV (lM ar) (ae 1) (cQ fe (ae 3) aV (λ _ _=>rfl)) (cQ fe (ae 3) aV (λ _ _=>rfl)) rfl))))
   (aP (bx (fX pE T.ix iv (ai (fP (eU tV (N:=["prime", "found"]) (js:=[none,some 1]) (List.forall_mem_cons.mpr ⟨rfl,(List.forall_mem_nil _)⟩)) rfl (lV (ps (v:=.ref T.hC) (by rfl) T.nc rfl)) (λ _ _ _ _=>eX) (λ _ _ _ _=>fz)
     (λ _ _ _ _=>(GD (K:=K) rfl PySem.F.plainAttrs_dict PySem.F.slot_dict_get PySem.F.type_dict_get Vf (ae 1) (ai (ae 0) (ai aV az))))) az)))))),?_⟩
  have a0:=z8 (es:=es) λ e he=>⟨(dr e he).1,by have:=(dr e he).2;omega⟩
  have gd:=Au a0;have ib:=wz 42 _ gd;have iZ:=AY (bN es);rw [Ag cU] at iZ;have dX:Txt.split (Str.join (bV 42) (gh (bN es))) (bV 42)=gh (bN es):=tG 42 _ c5 λ y aL=>by
   obtain ⟨f,hm,rfl⟩:=List.mem_map.mp aL;have:=a0 f (Hd hm);exact VM this.1.1 this.2.1
  refine λ d H1 f1 s1 aE=>?_
  refine ⟨_,rfl,rfl,_,_,rfl,rfl,by decide,by rw [sizeLine_eq];omega,λ l aw f2 s2 aI=>?_⟩;rw [EF,dX,Bl,List.map_map] at aI;have hd2:=s2 _ _ aE;have fd:H d=none:=f1;have OM:l≠d:=λ z=>by rw [z,aE] at f2;cases f2
  have cW:(ht (bN es)).length<=10:=by rw [Bl,List.length_map] at iZ;exact iZ
  refine ⟨l,rfl,⟨_,a4.of aI⟩,U0 (xs:=(ht (bN es)).map (V.str ∘ λ p=>gu p.1 p.2)) (λ i σ aH=>(∃ u v:Option V,σ=[some (.str (Str.join (bV 42) (gh (bN es)))),some (.ref d),u,v])/\b3 d aw aH/\aH d=some (.cM (j2 ((ht (bN es)).take i) []))) ⟨⟨none,none,rfl⟩,b3.of (aD.refl _),hd2⟩ (λ i σ aH _ ⟨_,dU,_⟩=>a4.of (dU _ _ OM aI)) ?_ ?_⟩
  ·rintro i x σ aH ah ⟨⟨u,v,rfl⟩,dU,gf⟩;obtain ⟨f,ku,rfl⟩ : ∃ f,(ht (bN es))[i]?=some f/\x=.str (gu f.1 f.2):=by
    rw [List.getElem?_map] at ah;cases ku:(ht (bN es))[i]? with
    | none=>rw [ku] at ah;cases ah
    | some f=>rw [ku] at ah;exact ⟨f,rfl,(Option.some.inj ah).symm⟩
   have uV:=List.mem_of_getElem? ku;obtain ⟨zG,lI⟩:=List.mem_filter.mp uV;have ab6:0<f.2:=of_decide_eq_true lI;have Ds:=a0 f zG;have gm:=dr f.2 (List.of_mem_zip (show (f.1,f.2)∈_ from zG)).2;have bh:=Ci f.1 (List.of_mem_zip (show (f.1,f.2)∈_ from zG)).1;refine ⟨_,rfl,_,_,f.1,f.2,rfl,by decide,Nat.le_trans (Hl Ds.1 Ds.2) (by decide),by rw [EI];exact Xf (by omega) (by omega),⟨by omega,by omega⟩,⟨by omega,by omega⟩,λ pr aX f4 s4 gN=>?_⟩;refine ⟨_,rfl,pr,_,_,_,rfl,rfl,aW.of gN,rfl,_,rfl,_,rfl,pr,_,_,_,rfl,rfl,aW.of gN,rfl,d,f.1,_,rfl,rfl,s4 _ _ gf,?_,λ bH d6 bW=>⟨⟨_,_,rfl⟩,dU.trans ((b3.of s4).trans d6),?_⟩⟩
   ·have:=H9 (l:=(ht (bN es)).take i) (kvs:=[]);have aq:((ht (bN es)).take i).length<=10:=by rw [List.length_take];omega
    rw [sizeLine_eq];show (j2 ((ht (bN es)).take i) []).length<_;simp only [List.length_nil] at this;omega
   ·rw [bW,List.take_add_one,ku];unfold j2;rw [Option.toList_some,List.foldl_append];rfl
  ·rintro σ aH ⟨⟨u,v,rfl⟩,dU,gf⟩;rw [List.length_map,List.take_length] at gf;have O7:aD H aH:=λ c o e=>dU _ _ (b2 e fd) ((s1.trans s2) _ _ e)
   refine ⟨T.hC,rfl,⟨en,T.j9 aH⟩,λ D aY=>Ku (K:=K) (a:=T.hC) (xs:=en) (σ0:=[some (.ref d)]) (f:=λ v=>match v with | .int p=>(cE (j2 (ht (bN es)) []) (gO p)).getD (.int 0) | v=>v) rfl (by decide) aY (T.j9 aH) ?_ ?_⟩
   ·intro x H' R s' ah r;rw [BF] at ah;obtain ⟨p,_,rfl⟩:=List.mem_map.mp ah;exact ⟨_,rfl,.inr (.inr (.inl ⟨rfl,.inl ⟨_,s' _ _ gf⟩⟩)),_,rfl,d,p,_,_,rfl,rfl,s' _ _ gf,r⟩
   ·have e:(en.map λ v=>match v with | .int p=>(cE (j2 (ht (bN es)) []) (gO p)).getD (.int 0) | v=>v)=es.map V.int:=by
     apply List.ext_getElem?;intro i;rcases Nat.lt_or_ge i 10 with ax | ax
     ·have aN:(bN es)[i]?=some (lZ[i]'ax,es[i]'(by omega)):=by
       rw [List.getElem?_zip_eq_some];exact ⟨List.getElem?_eq_getElem ax,List.getElem?_eq_getElem (by omega)⟩
      rw [BF,List.map_map,List.getElem?_map,List.getElem?_map,List.getElem?_eq_getElem (show i<lZ.length from ax),List.getElem?_eq_getElem (show i<es.length by omega)];exact congrArg some (T2 (λ e he=>(dr e he).1) aN)
     ·rw [List.getElem?_eq_none (by rw [List.length_map];exact ax),List.getElem?_eq_none (by rw [List.length_map];omega)]
    rw [e];exact ⟨D,_,rfl,a4.of br,λ p bH e7 s5 k7=>q p bH ((O7.trans (aD.new aY)).trans s5) k7⟩
noncomputable def aah:bF:=λ vs H Q _ => ∃ (es:List Int),vs=[.str (dm (bN es))]/\es.length=10/\(∀ e∈es,0<=e/\e<=1000000) /\ ∀ p H',aD H H'->H' p=some (.tup (es.map V.int))->Q (.ref p) H'
theorem aac (T:bt K mg):ck P w mg base bX 4 T.Ks aah:=by
 refine T.Ks.fn.cD C0 (λ vs H Q E h=>?_) (λ a5 A outer s H vs Q E ar h=>?_)
 ·obtain ⟨es,rfl,_⟩:=h;rfl
 ·obtain ⟨es,rfl,cU,dr,q⟩:=h;refine ⟨_,(aK (b7 (gz (f3 (cL l3 T.l7 l6 (ai (ae 0) (ai (lN (by rfl) T.kQ kO) az)))))
    (aP eZ)
    b8)
   (aK (bq 1 C0 (bU Vv (j7 (ai aV az)) (cL g7 T.fy fw (ai (ps (v:=.ref T.hC) (by rfl) T.nc rfl) az))))
   (aK (b7 (bO ik (ae 0) cF (bM _))
    (aP (bq 1 C0 (bw (aan T) ar a9 (ai (ae 0) az))))
    b8)
   (aK (b7 (eG.pt (fY (bO jA (cL (Bq rfl) T.n4 n2 (ai (ae 1) az)) (j8 (by rfl) T.w1) (bM _)) (hz (bO ik (bw (oe T) ar a9 (ai (ae 1) az)) (ae 0) (bM _)))))
    (aP eZ)
    b8)
   (aP (bx (ae 1))))))),?_⟩
  obtain ⟨gE,tys,ME⟩:=z2 (K:=K) (H:=H) (v:=.str (dm (bN es))) trivial;refine ⟨_,rfl,_, "str", gE,_,rfl,tys,ME,_,rfl,bB ?_⟩;have Ff : ∀ e∈es,0<=e/\e<10 ^ 60:=λ e he=>⟨(dr e he).1,by have:=(dr e he).2;omega⟩
  refine ⟨eB,λ t0 H1 f1 s1 aE=>?_⟩;refine ⟨T.hC,en,rfl,.inr (T.j9 H1),t0,_,_,rfl,rfl,aE,by simp,by decide,by decide,by decide,λ z aw f2 s2 aI=>?_⟩;have D9:es≠[]:=λ z=>by rw [z] at cU;cases cU
  refine ⟨_,rfl,rfl,_,rfl,?_⟩;by_cases hw:gh (bN es)=[]
  ·have xA:dm (bN es)=bV 49:=by unfold dm;rw [if_pos hw]
   have ot:(List.replicate (((en.length:Nat):Int)).toNat [V.int 0]).flatten=es.map V.int:=by
    rw [Wm cU (λ e he=>(dr e he).1) hw];rfl
   rw [ot] at aI;rw [show decide (V.str (dm (bN es))=V.str ("1" : String))=true by rw [xA,zq];exact decide_eq_true rfl];refine bB ?_;refine ⟨_,rfl,z,es,rfl,aW.of aI,D9,λ M k9 _=>⟨_,_,rfl,rfl,_,rfl,eg (λ h=>?_) (λ h=>?_)⟩⟩
   ·have:=of_decide_eq_true h;have:=(dr M k9).2;omega
   ·refine ⟨_,rfl,z,es,rfl,aI,cU,Ff,λ bH s5=>⟨_,rfl,rfl,_,rfl,?_⟩⟩;rw [decide_eq_true rfl];exact bB ⟨_,rfl,q z bH ((s1.trans s2).trans s5) (s5 _ _ aI)⟩
  ·have xA:dm (bN es)=Str.join (bV 42) (gh (bN es)):=by unfold dm;rw [if_neg hw]
   rw [show decide (V.str (dm (bN es))=V.str ("1" : String))=false by
    rw [zq];exact decide_eq_false λ e=>Tb hw (by injection e)]
   refine c6 ?_;refine ⟨_,rfl,es,by rw [xA];rfl,hw,cU,dr,λ p aH s3 cx=>?_⟩;refine ⟨_,rfl,p,es,rfl,aW.of cx,D9,λ M k9 _=>⟨_,_,rfl,rfl,_,rfl,eg (λ h=>?_) (λ h=>?_)⟩⟩
   ·have:=of_decide_eq_true h;have:=(dr M k9).2;omega
   ·refine ⟨_,rfl,p,es,rfl,cx,cU,Ff,λ bH s5=>⟨_,rfl,rfl,_,rfl,?_⟩⟩;rw [decide_eq_true rfl];exact bB ⟨_,rfl,q p bH (((s1.trans s2).trans s3).trans s5) (s5 _ _ cx)⟩
theorem eY {x y:Str} (h:x≠y):decide (V.str x=V.str y)=false:=decide_eq_false λ z=>by injection z with z;exact h z
noncomputable def p5 (ws:List Str):Prop:=ws≠[]/\ws.length<=100/\(∀ x∈ws,ef 32 x/\0<x.length)/\(Str.join (bV 32) ws).length<=100000
noncomputable def Y9:bF:=λ vs H Q _ => ∃ ws:List Str,vs=[.str (Str.join (bV 32) ws)]/\p5 ws/\gY (.lst (ws.map V.str)) H Q
theorem Y2 (T:bt K mg):ck P w mg base bX 1 T.Jk Y9:=by
 refine T.Jk.fn.cD J1 (λ vs H Q E h=>?_) (λ a5 A outer s H vs Q E ar h=>?_)
 ·obtain ⟨ws,rfl,_⟩:=h;rfl
 ·obtain ⟨ws,rfl,hw,q⟩:=h;refine ⟨_,(aK (b7 (gz (f3 (cL l3 T.l7 l6 (ai (ae 0) (ai (lN (by rfl) T.kQ kO) az)))))
    (aP eZ)
    b8)
   (aK (bq 1 J1 (g4 PySem.F.plainAttrs_str PySem.F.slot_str_split PySem.F.type_str_split wA (ae 0) (ai cF az)))
   (aK (b7 (bO I6 cF (ae 1) (by with_unfolding_all rfl))
    (aP eZ)
    b8)
   (aP (bx (ae 1)))))),?_⟩
  obtain ⟨h0,abY,Eh,hlen⟩:=hw;obtain ⟨gE,tys,es⟩:=z2 (K:=K) (H:=H) (v:=.str (Str.join (bV 32) ws)) trivial;refine ⟨_,rfl,_, "str", gE,_,rfl,tys,es,_,rfl,bB ?_⟩;refine ⟨_,rfl,rfl,_,_,rfl,rfl,by decide,by rw [sizeLine_eq];omega,λ l H1 f1 s1 aE=>?_⟩;rw [kG,tG 32 ws h0 λ y aL=>(Eh y aL).1] at aE;refine ⟨_,rfl,l,_,rfl,.inl (a4.of aE),rfl,List.all_eq_true.mpr λ y aL=>?_,_,rfl,?_⟩
  ·obtain ⟨z,_,rfl⟩:=List.mem_map.mp aL;rfl
  ·have y1:jZ (.str ("" : Str)) (ws.map V.str)=false:=by
    rw [Bool.eq_false_iff];intro z;obtain ⟨y,aL,e⟩:=List.any_eq_true.mp z;obtain ⟨x,ah,rfl⟩:=List.mem_map.mp aL;have aE:x=("" : Str):=by simpa [mv] using e
    have:=(Eh x ah).2;rw [aE] at this;exact absurd this (by decide)
   show (if jZ (.str ("" : Str)) (ws.map V.str)=true then _ else _);rw [y1];exact bB ⟨_,rfl,q l H1 f1 s1 aE⟩
noncomputable def aas:bF:=λ vs H Q _ => ∃ (l:Addr) (ak:List (Int×Int)),vs=[.ref l]/\H l=some (.lst ((eL ak).map V.str))/\1<=ak.length/\ak.length<=16/\(∀ f∈ak,fx f.1 f.2=true) /\ ∀ p xs H',aD H H'->H' p=some (.tup xs)->h7 H' xs ak->Q (.ref p) H'
theorem aao (T:bt K mg):ck P w mg base bX 6 T.KN aas:=by
 refine T.KN.fn.cD aaq (λ vs H Q E h=>?_) (λ a5 A outer s H vs Q E ar h=>?_)
 ·obtain ⟨l,ak,rfl,_⟩:=h;rfl
 ·obtain ⟨l,ak,rfl,au,af,uL,hf,q⟩:=h;refine ⟨_,(aP (Hu (λ _ _=>(aP (bx (bw (Tr T) ar a9 (ai (GD (K:=K) rfl PySem.F.plainAttrs_str PySem.F.slot_str_join PySem.F.type_str_join qM cF (ai (ae 0) az)) az))))))),?_⟩;have gd:=v9 hf;have cW:(eL ak).length=ak.length:=List.length_map ..;have qr:=pz _ gd;refine ⟨rfl,_,rfl,_,l,eL ak,rfl,rfl,au,by decide,?_,ak,?_,af,uL,hf,q⟩
  ·rw [cW] at qr ⊢;omega
  ·rw [kG];rfl
noncomputable def ZY:bF:=λ vs H Q _ => ∃ (n m:Int),vs=[.str (bu n),.int m]/\0<=n/\n<=m/\n<=1000000000000/\m<=1000000000000000000 /\ ∀ H',aD H H'->Q (.int n) H'
theorem Kz (T:bt K mg):ck P w mg base bX 1 T.J5 ZY:=by
 refine T.J5.fn.cD CO (λ vs H Q E h=>?_) (λ a5 A outer s H vs Q E ar h=>?_)
 ·obtain ⟨n,m,rfl,_⟩:=h;rfl
 ·obtain ⟨n,m,rfl,h0,hm,p7,ab2,q⟩:=h;refine ⟨_,(aK (b7 (eG.pt (fY (bO jA (cL tN T.fy fw (ai (ae 0) az)) (j8 (by rfl) T.Dh) (bM _)) (hz (gz (f3 (cL (qR rfl) T.qD qw (ai (fP (eU CO (N:=["sign"]) (js:=[none]) (List.forall_mem_nil _)) rfl (Ai (ae 0)) (λ _ _ _ _=>eX) (λ _ _ _ _=>fz)
     (λ _ _ _ _=>(m9 BE (ae 0) (Bb (by rfl) T.wI) (by with_unfolding_all rfl)))) az)))))))
    (aP eZ)
    b8)
   (aK (b7 (eG.pt (Ak (bO eW (cQ Gs (ae 0) aV (λ _ _=>rfl)) cF (bM _)) (AK (bO ik (ae 0) cF (bM _)))))
    (aP eZ)
    b8)
   (aK (bq 2 CO (fX II T.vR vK (ai (ae 0) az)))
   (aK (b7 (bO jA (ae 2) (ae 1) (bM _))
    (aP eZ)
    b8)
   (aP (bx (ae 2))))))),?_⟩
  have P5:(bu n).length<=13:=ip (k:=12) (by omega) (by omega);have sY:=v7 (n:=n) (by omega);have aN:(bu n).length<=sizeLine:=by rw [sizeLine_eq];omega
  have zC:(bu n).cps.all (· < 128)=true:=by
   rw [Array.all_eq_true'];intro x ah;have:=sY x (Array.mem_toList_iff.mpr ah);exact decide_eq_true (by omega)
  refine ⟨_,rfl,_,rfl,aN,_,_,rfl,rfl,_,rfl,eg (λ h=>?_) (λ h=>?_)⟩
  ·have:=of_decide_eq_true h;omega
  refine ⟨_,rfl,_,rfl,zC,λ D aY=>Bt (x:=bu n) (σ0:=[]) (t:=λ _=>true) (f:=λ _=>V.ba true) (by show (bu n).length<=_;exact aN) ⟨_,rfl⟩ aY (λ i c H' R s' ao r=>r H' (aD.refl _)) (λ i c H' R s' ao aZ r=>?_) λ H1 s1 af=>?_⟩
  ·have hd:=sY c (List.mem_of_getElem? (show (bu n).cps.toList[i]?=some c by rw [<-ao];simp));refine ⟨_,rfl,_,_,rfl,rfl,?_⟩;rw [show (⟨#[c]⟩:Str)=bV c from rfl,StrLaws.found_one,decide_eq_true (E6 c hd.1 hd.2)];exact r H' (aD.refl _)
  ·have e:(((List.range (bu n).cps.size).filter λ _=>true).map λ _=>V.ba true)=(((List.range (bu n).cps.size).filter λ _=>true).map λ _=>true).map V.ba:=by
    rw [List.map_map];rfl
   rw [e] at af;refine ⟨D,_,rfl,a4.of af,_,rfl,?_⟩;rw [show ((((List.range (bu n).cps.size).filter λ _=>true).map λ _=>true).all id)=true by rw [List.all_map];exact List.all_eq_true.mpr λ _ _=>rfl];refine bB ?_;obtain ⟨c,r,ao⟩ : ∃ c r,du (bu n)=c::r:=by
    cases aA:du (bu n) with
    | nil=>exact absurd aA (z6 (by omega))
    | cons c r=>exact ⟨c,r,rfl⟩
   have lr:ll (bu n).cps.toList 0=some c:=by
    rw [show (bu n).cps.toList=c::r from ao];exact g5 (by decide) rfl
   refine ⟨_,rfl,_,_,c,rfl,rfl,aN,lr,rfl,_,rfl,?_⟩;by_cases aC:n=0
   ·subst aC;have b6:bu 0=("0" : Str):=by decide +kernel
    have PT:c=48:=by
     have:du (bu 0)=[48]:=by rw [b6];decide +kernel
     rw [this] at ao;injection ao with ao;exact ao.symm
    rw [decide_eq_true (show V.str (⟨#[c]⟩:Str)=V.str ("0" : Str) by rw [PT,zp])];refine c6 ⟨_,rfl,rfl,_,rfl,?_⟩;rw [decide_eq_true (show V.str (bu 0)=V.str ("0" : Str) by rw [b6])];refine bB ⟨_,rfl,bu 0,0,rfl,by omega,AG (by omega) (by omega),_,rfl,_,rfl,_,_,rfl,rfl,_,rfl,?_⟩;rw [decide_eq_false (show ¬ m<0 by omega)];exact bB ⟨_,rfl,q H1 s1⟩
   ·obtain ⟨cj,bY,mE,DY⟩:=Hf (n:=n) (by omega);have gC:cj=c:=by rw [ao] at mE;injection mE with a;exact a.symm
    rw [decide_eq_false (show ¬ V.str (⟨#[c]⟩:Str)=V.str ("0" : Str) from λ e=>by
     rw [zp] at e;have aE:(⟨#[c]⟩:Str)=bV 48:=by injection e
     have aI:[c]=[48]:=congrArg du aE;have cx:c=48:=by injection aI
     omega)]
    refine bB (bB ⟨_,rfl,bu n,n,rfl,by omega,AG (by omega) (by omega),_,rfl,_,rfl,_,_,rfl,rfl,_,rfl,?_⟩);rw [decide_eq_false (show ¬ m<n by omega)];exact bB ⟨_,rfl,q H1 s1⟩
noncomputable def aaL:bF:=λ vs H Q _ => ∃ (es:List Int),vs=[.str (dm (bN es))]/\es.length=10/\(∀ e∈es,0<=e/\e<=1000000) /\ ∀ p H',aD H H'->H' p=some (.tup (es.map V.int))->Q (.ref p) H'
theorem aaJ (T:bt K mg):ck P w mg base bX 5 T.K7 aaL:=by
 refine T.K7.fn.cD aaK (λ vs H Q E h=>?_) (λ a5 A outer s H vs Q E ar h=>?_)
 ·obtain ⟨es,rfl,_⟩:=h;rfl
 ·obtain ⟨es,rfl,cU,dr,q⟩:=h;refine ⟨_,(aP (Hu (λ _ _=>(aP (bx (bw (aac T) ar a9 (ai (ae 0) az))))))),?_⟩;exact ⟨_,rfl,es,rfl,cU,dr,q⟩
noncomputable def ZD:bF:=λ vs H Q _ => ∃ (dW x:Str),vs=[.str dW,.str x] /\
 ((dW = "name" /\ Q (.str x) H)\/(dW = "powers" /\ ∃ es:List Int,x=dm (bN es)/\es.length=10/\(∀ e∈es,0<=e/\e<=1000000) /\ ∀ p H',aD H H'->H' p=some (.tup (es.map V.int))->Q (.ref p) H') \/
 ((dW = "run count" \/ dW = "fate count") /\ ∃ n:Int,x=bu n/\0<=n/\n<=400 /\ ∀ H',aD H H'->Q (.int n) H'))
theorem Zr (T:bt K mg):ck P w mg base bX 6 T.JK ZD:=by
 refine T.JK.fn.cD Zv (λ vs H Q E h=>?_) (λ a5 A outer s H vs Q E ar h=>?_)
 ·obtain ⟨dW,x,rfl,_⟩:=h;rfl
 ·obtain ⟨dW,x,rfl,h⟩:=h;refine ⟨_,(aK (b7 (bO eW (ae 0) cF (bM _))
    (aP (bx (bw (aaJ T) ar a9 (ai (ae 1) az))))
    b8)
   (aK (b7 (bO eW (ae 0) cF (bM _))
    (aP (bx (bw (Kz T) ar a9 (ai (ae 1) (ai (j8 (by rfl) T.BY) az)))))
    b8)
   (aK (b7 (bO eW (ae 0) cF (bM _))
    (aP (bx (bw (Kz T) ar a9 (ai (ae 1) (ai (j8 (by rfl) T.Cy) az)))))
    b8)
   (aP (bx (ae 1)))))),?_⟩
  rcases h with ⟨rfl,q⟩ | ⟨rfl,es,rfl,cU,dr,q⟩ | ⟨aB,n,rfl,h0,aU,q⟩
  ·refine ⟨_,rfl,rfl,_,rfl,?_⟩;rw [eY (show ("name" : Str) ≠ "powers" by decide)];refine bB ⟨_,rfl,rfl,_,rfl,?_⟩;rw [eY (show ("name" : Str) ≠ "run count" by decide)];refine bB ⟨_,rfl,rfl,_,rfl,?_⟩;rw [eY (show ("name" : Str) ≠ "fate count" by decide)];exact bB ⟨_,rfl,q⟩
  ·refine ⟨_,rfl,rfl,_,rfl,?_⟩;rw [decide_eq_true rfl];exact c6 ⟨_,rfl,es,rfl,cU,dr,q⟩
  ·rcases aB with rfl | rfl
   ·refine ⟨_,rfl,rfl,_,rfl,?_⟩;rw [eY (show ("run count" : Str) ≠ "powers" by decide)];refine bB ⟨_,rfl,rfl,_,rfl,?_⟩;rw [decide_eq_true rfl];exact c6 ⟨_,rfl,n,_,rfl,h0,by omega,by omega,by omega,q⟩
   ·refine ⟨_,rfl,rfl,_,rfl,?_⟩;rw [eY (show ("fate count" : Str) ≠ "powers" by decide)];refine bB ⟨_,rfl,rfl,_,rfl,?_⟩;rw [eY (show ("fate count" : Str) ≠ "run count" by decide)];refine bB ⟨_,rfl,rfl,_,rfl,?_⟩;rw [decide_eq_true rfl];exact c6 ⟨_,rfl,n,_,rfl,h0,by omega,by omega,by omega,q⟩
inductive d_ where
 | nm (x:Str)
 | oy (es:List Int)
 | b1 (n:Int)
noncomputable def d_.word:d_->Str
 | .nm x=>x
 | .oy es=>dm (bN es)
 | .b1 n=>bu n
noncomputable def d_.fits (dW:Str):d_->Prop
 | .nm _=>dW = "name"
 | .oy es=>dW = "powers" /\ es.length=10 /\ ∀ e∈es,0<=e/\e<=1000000
 | .b1 n=>(dW = "run count" \/ dW = "fate count")/\0<=n/\n<=400
noncomputable def d_.val (H:aj) (z:V):d_->Prop
 | .nm x=>z=.str x
 | .oy es => ∃ p,z=.ref p/\H p=some (.tup (es.map V.int))
 | .b1 n=>z=.int n
theorem d_.val.nI {H H':aj} {z:V} (k : ∀ c xs,H c=some (.tup xs)->H' c=some (.tup xs)) : ∀ {d:d_},d.val H z->d.val H' z
 | .nm _,h=>h
 | .oy _,⟨p,e,h⟩=>⟨p,e,k _ _ h⟩
 | .b1 _,h=>h
noncomputable def rR (H:aj) (zs:List V) (ds:List d_):Prop:=zs.length=ds.length /\ ∀ (i:Nat) (z:V) (d:d_),zs[i]?=some z->ds[i]?=some d->d.val H z
noncomputable def zU:List (Str×List Str):=[("put", ["name", "powers"]),("drop", ["name"]),("undo", []),("run", ["name", "run count"]),("show", ["name"]),("gone", ["name"]),("names", []),("fate", ["name", "fate count"]),("ahead", ["name"])]
noncomputable def Z2:bF:=λ vs H Q _ => ∃ (l:Addr) (w0:Str) (hR:List Str) (ds:List d_),vs=[.ref l]/\H l=some (.lst ((w0::ds.map d_.word).map V.str))/\PyProof.Rows.KTD.datumAt w0 zU=some hR/\hR.length=ds.length/\ds.length<=2/\(∀ (i:Nat) (dW:Str) (d:d_),hR[i]?=some dW->ds[i]?=some d->d.fits dW) /\
 ∀ a8 zs H',H a8=none->aD H H'->H' a8=some (.lst zs)->rR H' zs ds->Q (.ref a8) H'
theorem ZS (T:bt K mg):ck P w mg base bX 7 T.J8 Z2:=by
 refine T.J8.fn.cD CP (λ vs H Q E h=>?_) (λ a5 A outer s H vs Q E ar h=>?_)
 ·obtain ⟨l,w0,hR,ds,rfl,_⟩:=h;rfl
 ·obtain ⟨l,w0,hR,ds,rfl,au,aB,hlen,aq,pd,q⟩:=h;refine ⟨_,(aK (bq 1 CP (Xi T.AD T.Uy (ai (cQ fg (ae 0) aV (λ _ _=>rfl)) az)))
   (aK (b7 (eG.pt (fY (bO lT (ae 1) iq (bM _)) (hz (bO ik (cL g7 T.fy fw (ai (ae 0) az)) (bU ff (cL g7 T.fy fw (ai (ae 1) az)) aV) (bM _)))))
    (aP eZ)
    b8)
   (aP (bx (fP (eU CP (N:=["kind", "word"]) (js:=[none,none]) (List.forall_mem_nil _)) rfl (Ht rfl rfl T.j4 (ai (ae 1) (ai (wB AR (ae 0) (wo aV) wm) az))) (λ _ _ _ _=>(oa (K:=K) (n:=2) rfl rfl (eE eX (eE (l1 (i:=1) (show List.Nodup (["kind", "word"]:List Str) from by decide +kernel) rfl (Or.inl rfl) (Or.inr rfl)) ja)))) (λ _ _ _ _=>fz)
     (λ _ _ _ _=>(bw (Zr T) ar a9 (ai (ae 0) (ai (ae 1) az))))))))),?_⟩
  refine ⟨_,rfl,l,_,_,.str w0,rfl,rfl,a4.of au,g5 (by decide) rfl,w0,rfl,.inl ⟨hR,aB,λ t aZ=>?_⟩⟩;have yX : ∀ H',aW K H' t (hR.map V.str):=aZ;refine ⟨_,rfl,rfl,_,rfl,bB ⟨_,rfl,l,_,rfl,.inl (a4.of au),_,rfl,t,_,rfl,.inr (yX H),_,_,rfl,rfl,rfl,_,rfl,?_⟩⟩;rw [decide_eq_true (show V.int _=V.int _ by simp [hlen])];refine bB ?_;refine ⟨_,rfl,_,rfl,1,rfl,l,_,rfl,a4.of au,λ d0 fb=>⟨t,d0,rfl,⟨_,yX _⟩,⟨_,a4.of br⟩,λ D aY=>?_⟩⟩;have PL:hU ((w0::ds.map d_.word).map V.str) (some 1) none=(ds.map d_.word).map V.str:=by
   unfold hU;rw [wb (by decide),List.map_cons,List.length_cons,show min (1:Int).toNat (((ds.map d_.word).map V.str).length+1)=1 by show min 1 _=1;omega];show (((ds.map d_.word).map V.str).take _)=_;exact List.take_of_length_le (Nat.le_refl _)
  have s2:aD H (upd H d0 (.lst (hU ((w0::ds.map d_.word).map V.str) (some 1) none))):=aD.new fb;rw [PL] at aY s2 ⊢;have abK:D≠d0:=λ z=>by rw [z,br] at aY;cases aY
  refine WD (K:=K) (a:=t) (b:=d0) (xs:=hR.map V.str) (ys:=(ds.map d_.word).map V.str) (by rw [sizeLine_eq];simp;omega) (λ i σ' H' zs=>(∃ u v:Option V,σ'=[u,v])/\aD (upd H d0 (.lst ((ds.map d_.word).map V.str))) H'/\rR H' zs (ds.take i)) ⟨⟨_,_,rfl⟩,aD.new aY,rfl,λ i z d h=>by cases h⟩ (λ i σ' H' zs _ h=>⟨yX _,a4.of (h.2.1 _ _ br)⟩) ?_ ?_
  ·rintro i x y p σ' H' zs R ah aL ay cV ez ⟨⟨u,v,rfl⟩,s',fE⟩ et;obtain ⟨dW,NU,rfl⟩ : ∃ dW,hR[i]?=some dW/\V.str dW=x:=by rw [List.getElem?_map] at ah;exact Option.map_eq_some_iff.mp ah
   obtain ⟨d,hd,rfl⟩ : ∃ d,ds[i]?=some d/\V.str d.word=y:=by
    rw [List.map_map,List.getElem?_map] at aL;exact Option.map_eq_some_iff.mp aL
   have oX:=pd i dW d NU hd;refine ⟨p,_,rfl,aW.of br,rfl,_,_,rfl,_,_,rfl,rfl,?_⟩;have sp:aD H' (upd H' p (.tup [V.str dW,V.str d.word])):=aD.new ay;have abL:D≠p:=λ z=>by rw [<-z,cV] at ay;cases ay
   have fin : ∀ z aX,aD (upd H' p (.tup [V.str dW,V.str d.word])) aX->d.val aX z->R [some (.str dW),some (.str d.word)] z aX:=λ z aX s4 a7=>by
    have nM:aD H' aX:=sp.trans s4;refine et _ z aX (nM _ _ cV) ⟨⟨_,_,rfl⟩,λ c o e=>?_,?_⟩
    ·rw [a3 (b2 e aY)];exact nM _ _ (s' _ _ e)
    ·have kt : ∀ c xs,aX c=some (.tup xs)->(upd aX D (.lst (zs++[z]))) c=some (.tup xs):=λ c xs h=>by
      rw [a3 (dN h (nM _ _ cV) nofun)];exact h
     rw [List.take_add_one,hd];refine ⟨by rw [List.length_append,List.length_append,fE.1];rfl,λ j c9 d' fL gT=>?_⟩;rcases Nat.lt_or_ge j zs.length with bj | bj
     ·rw [List.getElem?_append_left bj] at fL;rw [List.getElem?_append_left (by rw [<-fE.1];exact bj)] at gT;exact (((fE.2 j c9 d' fL gT).nI λ c xs h=>nM _ _ h).nI kt)
     ·have ro:j=zs.length:=by
       have:=(List.getElem?_eq_some_iff.mp fL).1;rw [List.length_append] at this;have af:[z].length=1:=rfl;omega
      subst ro;rw [List.getElem?_append_right (Nat.le_refl _),Nat.sub_self] at fL;rw [fE.1,List.getElem?_append_right (Nat.le_refl _),Nat.sub_self] at gT;cases fL;cases gT;exact a7.nI kt
   refine ⟨_,rfl,_,rfl,dW,d.word,rfl,?_⟩;cases d with
   | nm x=>exact .inl ⟨oX,fin _ _ (aD.refl _) rfl⟩
   | oy es=>exact .inr (.inl ⟨oX.1,es,rfl,oX.2.1,oX.2.2,λ fT aX s4 aU=>fin _ aX s4 ⟨fT,rfl,aU⟩⟩)
   | b1 n=>exact .inr (.inr ⟨oX.1,n,rfl,oX.2.1,oX.2.2,λ aX s4=>fin _ aX s4 rfl⟩)
  ·rintro σ' H' zs cV ez ⟨_,s',fE⟩;have em:min (hR.map V.str).length ((ds.map d_.word).map V.str).length=ds.length:=by simp [hlen]
   rw [em,List.take_length] at fE;exact q D zs H' (s2.free aY) (s2.trans s') cV fE
end
noncomputable def s8 (ys:List Str):Str:=if ys=[] then "none" else Str.join (bV 32) ys
noncomputable def DW:pI->Str
 | .hW => "open"
 | .rests n c => "rests " ++ bu (n:Int) ++ " " ++ dm (bN c)
 | .round b l => "round " ++ bu (b:Int) ++ " " ++ bu (l:Int)
noncomputable def Mi:pI->Prop
 | .hW=>True
 | .rests n c=>(n:Int)<10 ^ 60/\c.length=10 /\ ∀ e∈c,0<=e/\e<10 ^ 60
 | .round b l=>(b:Int)<10 ^ 60/\(l:Int)<10 ^ 60
section
variable {P:Program} {w:World} {K:PySem.W.Frag} {mg:Str->Option Value} {base:Heap}
noncomputable def Xw:bF:=λ vs H Q _ => ∃ (l:Addr) (ys:List Str),vs=[.ref l]/\H l=some (.lst (ys.map V.str))/\(ys.map (·.length)).sum+ys.length<=1048576/\Q (.str (s8 ys)) H
theorem I5 (T:bt K mg):ck P w mg base bX 1 T.HK Xw:=by
 refine T.HK.fn.cD Xn (λ vs H Q E h=>?_) (λ a5 A outer s H vs Q E ar h=>?_)
 ·obtain ⟨l,ys,rfl,_⟩:=h;rfl
 ·obtain ⟨l,ys,rfl,au,aA,q⟩:=h;refine ⟨_,(aP (bx (VT (bO jA (cL g7 T.fy fw (ai (ae 0) az)) aV (bM _)) (g4 PySem.F.plainAttrs_str PySem.F.slot_str_join PySem.F.type_str_join qM cF (ai (ae 0) az)) cF))),?_⟩;refine ⟨_,rfl,l,_,rfl,.inl (a4.of au),_,_,rfl,rfl,_,rfl,?_⟩;unfold s8 at q;by_cases h0:ys=[]
  ·subst h0;exact bB q
  ·rw [if_neg h0] at q;have ay:0<ys.length:=List.length_pos_iff.mpr h0;rw [decide_eq_true (show (0:Int)<((ys.map V.str).length:Int) by rw [List.length_map];omega)];refine c6 ⟨rfl,_,rfl,_,l,ys,rfl,rfl,au,by decide,aA,?_⟩;rw [kG];exact q
theorem tq {es:List Int} (cU:es.length=10) (dr : ∀ e∈es,0<=e/\e<10 ^ 60):(dm (bN es)).length<=700:=by
 have a0:=z8 (es:=es) λ e he=>⟨(dr e he).1,(dr e he).2⟩
 have gd:=Au a0;have ib:=wz 42 _ gd;have iZ:=AY (bN es);rw [Ag cU] at iZ;unfold dm;split
 ·decide
 ·have:=Nat.mul_le_mul_right (63+1) iZ;omega
noncomputable def KY:bF:=λ vs H Q _ => ∃ (v:V) (o:pI),vs=[v]/\DJ H v o/\Mi o /\ ∀ H',aD H H'->Q (.str (DW o)) H'
theorem aam (T:bt K mg):ck P w mg base bX 4 T.KJ KY:=by
 refine T.KJ.fn.cD w6 (λ vs H Q E h=>?_) (λ a5 A outer s H vs Q E ar h=>?_)
 ·obtain ⟨v,o,rfl,_⟩:=h;rfl
 ·obtain ⟨v,o,rfl,iM,fj,q⟩:=h;refine ⟨_,(aK (b7 (bO eW (cQ fe (ae 0) aV (λ _ _=>rfl)) cF (bM _))
    (aP (bx cF))
    b8)
   (aK (bq 1 w6 (bw (pG T) ar a9 (ai (cQ fe (ae 0) aV (λ _ _=>rfl)) az)))
   (aK (b7 (bO eW (cQ fe (ae 0) aV (λ _ _=>rfl)) cF (bM _))
    (aK (bq 2 w6 (bw (oe T) ar a9 (ai (cQ fe (ae 0) aV (λ _ _=>rfl)) az)))
   (aP (bx (Hq (ae 1) (ae 2)))))
    b8)
   (aK (bq 3 w6 (bw (pG T) ar a9 (ai (cQ fe (ae 0) aV (λ _ _=>rfl)) az)))
   (aP (bx (Hq (ae 1) (ae 3)))))))),?_⟩
  cases o with
  | hW =>
   obtain ⟨a,rfl,av⟩:=iM;refine ⟨_,rfl,a,_,_,_,rfl,rfl,aW.of av,rfl,rfl,_,rfl,?_⟩;rw [decide_eq_true rfl];exact c6 (q H (aD.refl _))
  | rests n c =>
   obtain ⟨a,d,rfl,av,hd⟩:=iM;obtain ⟨eP,dO,dU⟩:=fj;refine ⟨_,rfl,a,_,_,_,rfl,rfl,aW.of av,rfl,rfl,_,rfl,?_⟩;rw [eY (show ("rests" : Str) ≠ "open" by decide)];refine bB ⟨_,rfl,a,_,_,_,rfl,rfl,aW.of av,rfl,(n:Int),rfl,by omega,eP,λ H1 s1=>?_⟩;refine ⟨_,rfl,a,_,_,_,rfl,rfl,aW.of (s1 _ _ av),rfl,rfl,_,rfl,?_⟩;rw [decide_eq_true rfl];refine c6 ⟨_,rfl,a,_,_,_,rfl,rfl,aW.of (s1 _ _ av),rfl,d,c,rfl,s1 _ _ hd,dO,dU,λ aw s2=>?_⟩;have dt:(bu (n:Int)).length<=61:=ip (k:=60) (by omega) (by omega);have fb:=tq dO dU;refine ⟨_,rfl,_,⟨.inl rfl,by omega⟩,_,rfl,_,⟨.inl rfl,by omega⟩,q aw (s1.trans s2)⟩
  | round b l =>
   obtain ⟨a,rfl,av⟩:=iM;obtain ⟨eP,dO⟩:=fj;refine ⟨_,rfl,a,_,_,_,rfl,rfl,aW.of av,rfl,rfl,_,rfl,?_⟩;rw [eY (show ("round" : Str) ≠ "open" by decide)];refine bB ⟨_,rfl,a,_,_,_,rfl,rfl,aW.of av,rfl,(b:Int),rfl,by omega,eP,λ H1 s1=>?_⟩;refine ⟨_,rfl,a,_,_,_,rfl,rfl,aW.of (s1 _ _ av),rfl,rfl,_,rfl,?_⟩;rw [eY (show ("round" : Str) ≠ "rests" by decide)];refine bB ⟨_,rfl,a,_,_,_,rfl,rfl,aW.of (s1 _ _ av),rfl,(l:Int),rfl,by omega,dO,λ aw s2=>?_⟩;have dt:(bu (b:Int)).length<=61:=ip (k:=60) (by omega) (by omega);have fb:(bu (l:Int)).length<=61:=ip (k:=60) (by omega) (by omega);exact ⟨_,rfl,_,⟨.inl rfl,by omega⟩,_,rfl,_,⟨.inl rfl,by omega⟩,q aw (s1.trans s2)⟩
noncomputable def Y6:bF:=λ vs H Q _ => ∃ (l b:Addr) (ys:List V) (rows:List (List Int)) (ag:List Int),vs=[.ref l,.ref b]/\H l=some (.lst ys)/\dy H ys rows/\oK rows/\H b=some (tupI ag)/\ag.length=10/\rows.length<=1000 /\
 ∀ a8 H' zs,H a8=none->aD H H'->H' a8=some (.lst zs)->dy H' zs (j6 rows ag)->Q (.ref a8) H'
theorem W4 {p:List Int} {M:Int} (af:M∈p) (aq : ∀ a∈p,M<=a):nn p=decide (0<=M):=by
 by_cases h:0<=M
 ·rw [decide_eq_true h,i8];intro x ah;have:=aq x ah;omega
 ·rw [decide_eq_false h,Bool.eq_false_iff];intro z;exact h (i8.mp z M af)
theorem Y0 (T:bt K mg):ck P w mg base bX 3 T.Jh Y6:=by
 refine T.Jh.fn.cD tL (λ vs H Q E h=>?_) (λ a5 A outer s H vs Q E ar h=>?_)
 ·obtain ⟨l,b,ys,rows,ag,rfl,_⟩:=h;rfl
 ·obtain ⟨l,b,ys,rows,ag,rfl,au,mI,cU,aa,d4,hlen,q⟩:=h;refine ⟨_,(aK (bq 2 tL (l0 az))
   (aK (fZ PassesOwn.never rfl (Hs rfl rfl T.JU (ai (ae 0) az)) (pq rfl (eE (eD 3 tL) (eE (eD 4 tL) ja)))
    (aK (bq 5 tL (bw (tv T) ar a9 (ai (ae 1) (ai (ae 4) (ai (z9 As aV) az)))))
   (aP (b7 (eG.pt (Ak (bO vS (cL (Wx rfl) T.qE qx (ai (ae 5) az)) aV (bM _)) (AK (bO eW (bw (tJ T) ar a9 (ai (ae 0) (ai (ae 5) az))) (ae 3) (bM _)))))
    (aP (hB (g4 PySem.F.plainAttrs_list PySem.F.slot_list_append PySem.F.type_list_append q2 (ae 2) (ai (ae 5) az))))
    b8))))
   (aP (bx (ae 2))))),?_⟩
  refine ⟨eB,λ f H1 f1 s1 uU=>?_⟩;refine ⟨_,rfl,l,ys,rfl,s1 _ _ au,?_⟩;refine HS (xs:=ys) (λ i σ aw=>(∃ u v x:Option V,σ=[some (.ref l),some (.ref b),some (.ref f),u,v,x])/\aD H aw /\ ∃ zs,aw f=some (.lst zs)/\dy aw zs ((List.range i).filterMap (jC rows ag)))
   ⟨⟨none,none,none,rfl⟩,s1,[],uU,dy.nil⟩ (λ i σ aw _ ⟨_,s2,_⟩=>s2 _ _ au) ?_ ?_
  ·rintro i x p σ aw ah ay ⟨⟨u,v,dI,rfl⟩,s2,zs,jq,lE⟩;obtain ⟨c,a,ao,rfl,av⟩:=mI.at ah;have uI:c.length=10:=cU c (List.mem_of_getElem? ao);have sp:=aD.new (o:=.tup [.int (i:Int),.ref a]) ay;have s3:=s2.trans sp;refine ⟨p,_,rfl,aW.of br,rfl,_,_,rfl,_,_,rfl,rfl,?_⟩;refine ⟨_,rfl,_,rfl,_,rfl,b,a,ag,c,-1,rfl,s3 _ _ aa,s3 _ _ av,⟨by decide,by decide⟩,by omega,λ w aX s4 hw=>?_⟩;have Ep:(bP ag c (-1)).length=10:=tF d4 uI;have ue:(List.range (i+1)).filterMap (jC rows ag)=(List.range i).filterMap (jC rows ag)++(jC rows ag i).toList:=by
    rw [List.range_succ,List.filterMap_append];cases e:jC rows ag i<;>simp [e]
   have xu:jC rows ag i=if nn (bP ag c (-1))=true/\cv rows (bP ag c (-1))=some i then some (bP ag c (-1)) else none:=by
    unfold jC;rw [tn ao]
   have s5:=s3.trans s4;have ez:zs.length<=i:=by
    rw [lE.1];exact Nat.le_trans (List.length_filterMap_le _ _) (by rw [List.length_range];exact Nat.le_refl _)
   have ax:i<rows.length:=(List.getElem?_eq_some_iff.mp ao).1;have skip:jC rows ag i=none -> ∀ dD,aD aX dD->(∃ u v x:Option V,[some (V.ref l),some (.ref b),some (.ref f),some (.int (i:Int)),some (.ref a),some (.ref w)]=[some (.ref l),some (.ref b),some (.ref f),u,v,x])/\aD H dD /\ ∃ zs,dD f=some (.lst zs)/\dy dD zs ((List.range (i+1)).filterMap (jC rows ag)):=by
    intro e dD cp;refine ⟨⟨_,_,_,rfl⟩,s5.trans cp,zs,cp _ _ (s4 _ _ (sp _ _ jq)),?_⟩;rw [ue,e];show dy dD zs (_++[]);rw [List.append_nil];exact ((lE.same sp).same s4).same cp
   refine ⟨_,rfl,w,bP ag c (-1),rfl,aW.of hw,(by intro z;rw [z] at Ep;cases Ep),λ M gP ji=>⟨_,_,rfl,rfl,_,rfl,?_⟩⟩;have Lv:=W4 gP ji;rw [<-Lv];cases d1:nn (bP ag c (-1)) with
   | false =>
    refine bB ?_;exact skip (by rw [xu,d1,if_neg (by rintro ⟨z,_⟩;cases z)]) aX (aD.refl aX)
   | true =>
    refine c6 ⟨_,rfl,_,rfl,l,w,ys,rows,bP ag c (-1),rfl,s5 _ _ au,mI.same s5,hw,λ dD cp=>⟨_,rfl,?_,_,rfl,?_⟩⟩
    ·cases cv rows (bP ag c (-1))<;>rfl
    ·by_cases gw:cv rows (bP ag c (-1))=some i
     ·rw [gw];rw [show decide (jz (some i)=V.int (i:Int))=true from decide_eq_true rfl];refine c6 ⟨_,rfl,.inl ⟨rfl,_,a4.of (cp _ _ (s4 _ _ (sp _ _ jq)))⟩,_,rfl,f,zs,.ref w,rfl,rfl,cp _ _ (s4 _ _ (sp _ _ jq)),by rw [sizeLine_eq];omega,λ ej jf rp=>?_⟩;refine ⟨⟨_,_,_,rfl⟩,?_,_,rp,?_⟩
      ·intro d o da;exact jf d o (λ z=>by rw [z,f1] at da;cases da) (cp _ _ (s5 _ _ da))
      ·rw [ue,xu,d1,if_pos ⟨rfl,gw⟩];have N5:=((lE.same sp).same s4).same cp;exact dy.but (N5.app (dy.one ⟨w,rfl,cp _ _ hw⟩)) (cp _ _ (s4 _ _ (sp _ _ jq))) jf
     ·rw [show decide (jz (cv rows (bP ag c (-1)))=V.int (i:Int))=false from decide_eq_false λ z=>gw ?_]
      ·exact bB (skip (by rw [xu,if_neg (by rintro ⟨_,z⟩;exact gw z)]) dD cp)
      ·cases e:cv rows (bP ag c (-1)) with
       | none=>rw [e] at z;cases z
       | some k =>
        rw [e] at z;have c9:(k:Int)=(i:Int):=by injection z
        rw [show k=i by omega]
  ·rintro σ aw ⟨⟨u,v,dI,rfl⟩,s2,zs,jq,lE⟩;rw [mI.1] at lE;exact ⟨_,rfl,q f aw zs f1 s2 jq lE⟩
noncomputable def Xs:bF:=λ vs H Q _ => ∃ (b a:Addr) (xs:List V) (ak:List (Int×Int)) (ag:List Int),vs=[.ref b,.ref a]/\H b=some (.tup xs)/\eC H xs ak/\xs.length<=16/\H a=some (tupI ag)/\ag.length=10 /\
 ∀ a8 H' zs,H a8=none->aD H H'->H' a8=some (.lst zs)->dy H' zs (j3 (j6 (rowsOf ak) ag))->Q (.ref a8) H'
theorem I4 (T:bt K mg):ck P w mg base bX 5 T.HI Xs:=by
 refine T.HI.fn.cD Xm (λ vs H Q E h=>?_) (λ a5 A outer s H vs Q E ar h=>?_)
 ·obtain ⟨b,a,xs,ak,ag,rfl,_⟩:=h;rfl
 ·obtain ⟨b,a,xs,ak,ag,rfl,aa,hf,au,av,d4,q⟩:=h;refine ⟨_,(aP (bx (cL Zb T.H4 HM (ai (bw (Y0 T) ar a9 (ai (bw (tR T) ar a9 (ai (ae 0) az)) (ai (ae 1) az))) az)))),?_⟩;refine ⟨_,rfl,b,xs,ak,rfl,aa,hf,by omega,λ l H1 ys df s1 dt ee=>?_⟩;refine ⟨_,rfl,l,a,ys,rowsOf ak,ag,rfl,dt,ee,jH ak,s1 _ _ av,d4,by rw [pC,<-hf.1];omega,λ a8 aw zs aaU s2 y4 lE=>?_⟩;have abu:zs.length<=16:=by
   rw [lE.1];exact Nat.le_trans (BV _ _) (by rw [pC,<-hf.1];exact au)
  refine ⟨a8,zs,_,rfl,y4,lE,λ c ao z=>?_,by omega,λ r aH c2 s3 kD=>?_⟩
  ·have:=(Wq (jH ak) d4 ao).2.1;rw [z] at this;cases this
  ·exact q r aH _ (s1.free (s2.free c2)) ((s1.trans s2).trans s3) kD (lE.same s3).Pl
noncomputable def YE (T:bt K mg):bF:=λ vs H Q _ => ∃ (bn l p:Addr) (x:Str),vs=[.ref bn,.str "put", .ref l]/\H l=some (.lst [.str x,.ref p])/\(∃ aG df,H bn=some (.ins T.gA aG df)/\df.lookup ("put" : Str)=none)/\ts T [.ref bn,.str x,.ref p] H (λ _ H'=>Q .bp H') jc
theorem Yr (T:bt K mg):ck P w mg base bX 4 T.Iq (YE T):=by
 refine T.Iq.fn.cD YB (λ vs H Q E h=>?_) (λ a5 A outer s H vs Q E ar h=>?_)
 ·obtain ⟨bn,l,p,x,rfl,_⟩:=h;rfl
 ·obtain ⟨bn,l,p,x,rfl,au,⟨aG,df,aa,dZ⟩,h⟩:=h;refine ⟨_,(aP (b7 (bO eW (ae 1) cF (bM _))
    (aP (hB (gj (ae 0) T.e5 T.wQ.at_ (Zm T) (ar.mono (by decide)) T.wQ.bd .nil a9 (ai (cQ fg (ae 2) aV (λ _ _=>rfl)) (ai (cQ fg (ae 2) aV (λ _ _=>rfl)) az)))))
    (aP eZ))),?_⟩
  refine ⟨_,rfl,rfl,_,rfl,?_⟩;rw [decide_eq_true rfl];exact c6 ⟨_,rfl,bn,aG,df,rfl,aa,dZ,_,rfl,l,_,_,_,rfl,rfl,a4.of au,rfl,_,rfl,l,_,_,_,rfl,rfl,a4.of au,rfl,h⟩
theorem Ws {T:bt K mg} {H H1:aj} {vs:List V} {Q:bz} {E:dF} (s:aD H H1) (h:ts T vs H Q E):ts T vs H1 Q E:=by
 obtain ⟨bn,pr,hd,dl,a,kvs,ds,x,ag,rfl,B,af,aq,aF,aU,bW,dV,q⟩:=h;exact ⟨bn,pr,hd,dl,a,kvs,ds,x,ag,rfl,B.same s,af,aq,aF,s _ _ aU,bW,dV,λ t w H' k hw aZ xb=>q t w H' (λ c o cJ dp e=>k _ _ cJ dp (s _ _ e)) hw aZ xb⟩
theorem Wt {T:bt K mg} {H H1:aj} {vs:List V} {Q:bz} {E:dF} (s:aD H H1) (h:wt T vs H Q E):wt T vs H1 Q E:=by
 obtain ⟨bn,pr,hd,dl,kvs,ds,x,w,a,xs,ak,ag,n,m,rfl,B,af,aq,aF,aU,bW,dV,rp,jh,ov,cU,yy,p7,q⟩:=h;exact ⟨bn,pr,hd,dl,kvs,ds,x,w,a,xs,ak,ag,n,m,rfl,B.same s,af,aq,s _ _ aF,aU.same s,bW,dV,s _ _ rp,s _ _ jh,ov,cU,yy,p7,λ k r a8 cP t H' dR di gq fS ml oD rE x_=>q k r a8 cP t H' dR di gq (λ c o cJ dp e=>fS _ _ cJ dp (s _ _ e)) ml oD rE x_⟩
noncomputable def wL (T:bt K mg):bF:=λ vs H Q _ => ∃ (bn l pr hd dl:Addr) (word:Str) (zs:List V) (kvs:List (Key×V)) (ds:List V),vs=[.ref bn,.str word,.ref l]/\H l=some (.lst zs)/\gk T H bn pr hd dl kvs ds /\
 ((word = "put" /\ ∃ x p,zs=[.str x,.ref p]/\ts T [.ref bn,.str x,.ref p] H (λ _ H'=>Q (.str "ok") H') jc) \/
 (word = "names" /\ ∃ x:Str,kvs.map (·.1)=[dc x]/\x.length<=8 /\ ∀ H',aD H H'->Q (.str x) H') \/
 (word = "run" /\ ∃ (x:Str) (m:Int),zs=[.str x,.int m]/\wt T [.ref bn,.str x,.int m] H (λ v H' => ∃ k:Nat,v=.int (k:Int)/\k<=2000 /\ ∀ DL,aD H' DL->Q (.str (bu (k:Int))) DL) jc) \/
 (∃ (x:Str) (w a:Addr) (n:Int) (ag:List Int),cE kvs (dc x)=some (.ref w)/\H w=some (.tup [.ref a,.int n])/\H a=some (tupI ag)/\ag.length=10/\(∀ e∈ag,0<=e/\e<=1000000000)/\0<=n/\n<=1000000000 /\
    ((word = "gone" /\ zs=[.str x] /\ ∀ H',aD H H'->Q (.str (bu n)) H')\/(word = "show" /\ zs=[.str x] /\ ∀ H',aD H H'->Q (.str (dm (bN ag))) H') \/
   (∃ (xs:List V) (ak:List (Int×Int)),H pr=some (.tup xs)/\eC H xs ak/\xs.length<=16 /\
    ((word = "fate" /\ ∃ m:Int,zs=[.str x,.int m]/\0<=m/\m<=400 /\ ∀ o H',aD H H'->qu (rowsOf ak) m.toNat ag o->Q (.str (DW o)) H') \/
      (word = "ahead" /\ zs=[.str x] /\ ∀ H',aD H H'->Q (.str (s8 ((j3 (j6 (rowsOf ak) ag)).map λ q=>dm (bN q)))) H'))))))
theorem W8 (T:bt K mg):ck P w mg base bX 9 T.HH (wL T):=by
 refine T.HH.fn.cD wK (λ vs H Q E h=>?_) (λ a5 A outer s H vs Q E ar h=>?_)
 ·obtain ⟨bn,l,pr,hd,dl,word,zs,kvs,ds,rfl,_⟩:=h;rfl
 ·obtain ⟨bn,l,pr,hd,dl,word,zs,kvs,ds,rfl,au,B,h⟩:=h;refine ⟨_,(aK (b7 (bO I6 (ae 1) (j7 (ai cF (ai cF (ai cF az)))) (by with_unfolding_all rfl))
    (aK (hB (bw (Yr T) ar a9 (ai (ae 0) (ai (ae 1) (ai (ae 2) az)))))
   (aP (bx cF)))
    b8)
   (aK (b7 (bO eW (ae 1) cF (bM _))
    (aP (bx (bw (I5 T) ar a9 (ai (VU (ae 0) T.e5 T.w2.at_ (Z_ T) (ar.mono (by decide)) T.w2.bd .nil a9) az))))
    b8)
   (aK (bq 3 wK (cQ fg (ae 2) aV (λ _ _=>rfl)))
   (aK (b7 (bO eW (ae 1) cF (bM _))
    (aP (bx (bw (pG T) ar a9 (ai (gj (ae 0) T.e5 T.wR.at_ (Zn T) (ar.mono (by decide)) T.wR.bd .nil a9 (ai (ae 3) (ai (cQ fg (ae 2) aV (λ _ _=>rfl)) az))) az))))
    b8)
   (aK (b7 (bO eW (ae 1) cF (bM _))
    (aP (bx (bw (pG T) ar a9 (ai (gj (ae 0) T.e5 T.wX.at_ (ZO T) (ar.mono (by decide)) T.wX.bd .nil a9 (ai (ae 3) az)) az))))
    b8)
   (aK (bq 4 wK (gj (ae 0) T.e5 T.w3.at_ (aal T) (ar.mono (by decide)) T.w3.bd .nil a9 (ai (ae 3) az)))
   (aK (b7 (bO eW (ae 1) cF (bM _))
    (aP (bx (bw (oe T) ar a9 (ai (ae 4) az))))
    b8)
   (aK (b7 (bO eW (ae 1) cF (bM _))
    (aP (bx (bw (aam T) ar a9 (ai (bw (Hh T) ar a9 (ai (i_ (ae 0) (by rfl)) (ai (ae 4) (ai (cQ fg (ae 2) aV (λ _ _=>rfl)) az)))) az))))
    b8)
   (aP (bx (bw (I5 T) ar a9 (ai (fP (eU wK (N:=["found"]) (js:=[none]) (List.forall_mem_nil _)) rfl (ob (bw (I4 T) ar a9 (ai (i_ (ae 0) (by rfl)) (ai (ae 4) az)))) (λ _ _ _ _=>eX) (λ _ _ _ _=>fz)
     (λ _ _ _ _=>(bw (oe T) ar a9 (ai (ae 0) az)))) az)))))))))))),?_⟩
  obtain ⟨aG,aa⟩:=B.at_;refine ⟨_,rfl,eB,λ t H1 f1 s1 af=>⟨t,_,rfl,.inr (aW.of af),rfl,rfl,_,rfl,?_⟩⟩;have dt:=s1 _ _ au;have ka:=B.same s1;have mD:=s1 _ _ aa;show (if jZ (.str word) [V.str "put", V.str "drop", V.str "undo"]=true then _ else _);rcases h with ⟨rfl,x,p,rfl,h⟩ | ⟨rfl,x,aB,ah,q⟩ | ⟨rfl,x,m,rfl,h⟩ | ⟨x,cP,a,n,ag,a7,hw,av,cU,kC,jP,xI,h⟩
  ·rw [show jZ (.str ("put" : Str)) [V.str "put", V.str "drop", V.str "undo"]=true by decide +kernel];refine c6 ⟨_,rfl,_,rfl,_,rfl,bn,l,p,x,rfl,dt,⟨aG,_,mD,rfl⟩,?_⟩;exact Ws s1 h
  ·rw [show jZ (.str ("names" : Str)) [V.str "put", V.str "drop", V.str "undo"]=false by decide +kernel];refine bB ⟨_,rfl,rfl,_,rfl,?_⟩;rw [decide_eq_true rfl];refine c6 ⟨_,rfl,bn,aG,_,rfl,mD,rfl,bn,pr,hd,dl,kvs,ds,[x],rfl,ka,aB,(by show 1<64;decide),λ ms pm uo d0 aw f2 s2 aq=>?_⟩;obtain rfl:=List.perm_singleton.mp pm;exact ⟨d0,[x],rfl,aq,by show x.length+0+1<=_;omega,q aw (s1.trans s2)⟩
  ·rw [show jZ (.str ("run" : Str)) [V.str "put", V.str "drop", V.str "undo"]=false by decide +kernel];refine bB ⟨_,rfl,rfl,_,rfl,?_⟩;rw [eY (show ("run" : Str) ≠ "names" by decide)];refine bB ⟨_,rfl,l,_,_,_,rfl,rfl,a4.of dt,rfl,_,rfl,rfl,_,rfl,?_⟩;rw [decide_eq_true rfl];refine c6 ⟨_,rfl,bn,aG,_,rfl,mD,rfl,_,rfl,_,rfl,l,_,_,_,rfl,rfl,a4.of dt,rfl,?_⟩;obtain ⟨mn,o6,gT,oP,vy,uK,dI,cP,a,xs,ak,ag,n,cu,e,xb,dR,di,gq,ml,oD,rE,x_,L9,L_,Pz,PA,PB,q⟩:=Wt s1 h;refine ⟨mn,o6,gT,oP,vy,uK,dI,cP,a,xs,ak,ag,n,cu,e,xb,dR,di,gq,ml,oD,rE,x_,L9,L_,Pz,PA,PB,λ k r a8 fH bf H' ko lh L5 fS L6 x9 L7 rD=>?_⟩;obtain ⟨k2,xx,aB,q⟩:=q k r a8 fH bf H' ko lh L5 fS L6 x9 L7 rD;cases xx;exact ⟨_,rfl,by omega,by omega,q⟩
  ·have u0:=s1 _ _ hw;have hM:=s1 _ _ av;have Qc : ∀ e∈ag,0<=e/\e<10 ^ 60:=λ e he=>⟨(kC e he).1,by have:=(kC e he).2;omega⟩
   have d1:nn ag=true:=i8.mpr λ e he=>(kC e he).1
   rcases h with ⟨rfl,rfl,q⟩ | ⟨rfl,rfl,q⟩ | ⟨xs,ak,lB,hf,Qj,h⟩
   ·rw [show jZ (.str ("gone" : Str)) [V.str "put", V.str "drop", V.str "undo"]=false by decide +kernel];refine bB ⟨_,rfl,rfl,_,rfl,?_⟩;rw [eY (show ("gone" : Str) ≠ "names" by decide)];refine bB ⟨_,rfl,l,_,_,_,rfl,rfl,a4.of dt,rfl,_,rfl,rfl,_,rfl,?_⟩;rw [eY (show ("gone" : Str) ≠ "run" by decide)];refine bB ⟨_,rfl,rfl,_,rfl,?_⟩;rw [decide_eq_true rfl];exact c6 ⟨_,rfl,bn,aG,_,rfl,mD,rfl,_,rfl,bn,pr,hd,dl,kvs,ds,x,cP,_,_,rfl,ka,a7,u0,n,rfl,jP,by omega,λ aw s2=>q aw (s1.trans s2)⟩
   ·rw [show jZ (.str ("show" : Str)) [V.str "put", V.str "drop", V.str "undo"]=false by decide +kernel];refine bB ⟨_,rfl,rfl,_,rfl,?_⟩;rw [eY (show ("show" : Str) ≠ "names" by decide)];refine bB ⟨_,rfl,l,_,_,_,rfl,rfl,a4.of dt,rfl,_,rfl,rfl,_,rfl,?_⟩;rw [eY (show ("show" : Str) ≠ "run" by decide)];refine bB ⟨_,rfl,rfl,_,rfl,?_⟩;rw [eY (show ("show" : Str) ≠ "gone" by decide)];refine bB ⟨_,rfl,bn,aG,_,rfl,mD,rfl,_,rfl,bn,pr,hd,dl,kvs,ds,x,cP,_,_,rfl,ka,a7,u0,_,rfl,rfl,_,rfl,?_⟩;rw [decide_eq_true rfl];exact c6 ⟨_,rfl,a,ag,rfl,hM,cU,Qc,λ aw s2=>q aw (s1.trans s2)⟩
   ·rcases h with ⟨rfl,m,rfl,m0,jj,q⟩ | ⟨rfl,rfl,q⟩
    ·rw [show jZ (.str ("fate" : Str)) [V.str "put", V.str "drop", V.str "undo"]=false by decide +kernel];refine bB ⟨_,rfl,rfl,_,rfl,?_⟩;rw [eY (show ("fate" : Str) ≠ "names" by decide)];refine bB ⟨_,rfl,l,_,_,_,rfl,rfl,a4.of dt,rfl,_,rfl,rfl,_,rfl,?_⟩;rw [eY (show ("fate" : Str) ≠ "run" by decide)];refine bB ⟨_,rfl,rfl,_,rfl,?_⟩;rw [eY (show ("fate" : Str) ≠ "gone" by decide)];refine bB ⟨_,rfl,bn,aG,_,rfl,mD,rfl,_,rfl,bn,pr,hd,dl,kvs,ds,x,cP,_,_,rfl,ka,a7,u0,_,rfl,rfl,_,rfl,?_⟩;rw [eY (show ("fate" : Str) ≠ "show" by decide)];refine bB ⟨_,rfl,rfl,_,rfl,?_⟩;rw [decide_eq_true rfl];refine c6 ⟨_,rfl,bn,_,aG,_,_,rfl,mD,T.e5,T.w5,rfl,_,rfl,_,rfl,l,_,_,_,rfl,rfl,a4.of dt,rfl,pr,a,xs,ak,ag,m,rfl,s1 _ _ lB,hf.same s1,by omega,hM,cU,d1,m0,by omega,λ v aw o s2 ea iM=>?_⟩;refine ⟨v,o,rfl,iM,?_,λ aH s3=>q o aH ((s1.trans s2).trans s3) ea⟩;cases o with
     | hW=>trivial
     | rests k c =>
      obtain ⟨k1,k2,_⟩:=ea;have aM:=m3 (jH ak) cU d1 k2;have gd:=v3 (pv hf) (λ e he=>(kC e he).2) k2;exact ⟨by omega,aM.1,λ e he=>⟨i8.mp aM.2 e he,by have:=gd e he;omega⟩⟩
     | round b ow =>
      obtain ⟨k1,k2,_⟩:=ea;exact ⟨by omega,by omega⟩
    ·rw [show jZ (.str ("ahead" : Str)) [V.str "put", V.str "drop", V.str "undo"]=false by decide +kernel];refine bB ⟨_,rfl,rfl,_,rfl,?_⟩;rw [eY (show ("ahead" : Str) ≠ "names" by decide)];refine bB ⟨_,rfl,l,_,_,_,rfl,rfl,a4.of dt,rfl,_,rfl,rfl,_,rfl,?_⟩;rw [eY (show ("ahead" : Str) ≠ "run" by decide)];refine bB ⟨_,rfl,rfl,_,rfl,?_⟩;rw [eY (show ("ahead" : Str) ≠ "gone" by decide)];refine bB ⟨_,rfl,bn,aG,_,rfl,mD,rfl,_,rfl,bn,pr,hd,dl,kvs,ds,x,cP,_,_,rfl,ka,a7,u0,_,rfl,rfl,_,rfl,?_⟩;rw [eY (show ("ahead" : Str) ≠ "show" by decide)];refine bB ⟨_,rfl,rfl,_,rfl,?_⟩;rw [eY (show ("ahead" : Str) ≠ "fate" by decide)];refine bB ⟨_,rfl,bn,_,aG,_,_,rfl,mD,T.e5,T.w5,rfl,_,rfl,pr,a,xs,ak,ag,rfl,s1 _ _ lB,hf.same s1,Qj,hM,cU,λ a8 aw rs f2 s2 aq d7=>?_⟩;have so:(j3 (j6 (rowsOf ak) ag)).length<=16:=by
      rw [(wM _).length_eq];have:=BV (rowsOf ak) ag;rw [pC,<-hf.1] at this;omega
     have gd : ∀ q∈j3 (j6 (rowsOf ak) ag),q.length=10 /\ ∀ e∈q,0<=e/\e<10 ^ 60:=λ q aR=>by
      have:=IC (pv hf) (jH ak) cU (λ e he=>(kC e he).2) ((wM _).mem_iff.mp aR);exact ⟨this.1,λ e he=>⟨(this.2 e he).1,by have:=(this.2 e he).2;omega⟩⟩
     generalize j3 (j6 (rowsOf ak) ag)=ha at *;refine ⟨a8,rfl,⟨_,a4.of aq⟩,λ D aY=>BX (K:=K) (a:=a8) (σ0:=[]) (xs:=rs) (by rw [sizeLine_eq,d7.1];omega) ⟨_,rfl⟩ aY aq (λ i H' zs=>zs=((ha.take i).map λ q=>dm (bN q)).map V.str) rfl (λ i H' aH zs ys _ e _=>e) (λ i y H' zs R s' aL cV ez fW et=>?_) λ aH zs s3 mC ez fW=>?_⟩
     ·obtain ⟨c,ao,z,rfl,aN⟩:=d7.2 i y aL;have iW:=gd c (List.mem_of_getElem? ao);refine ⟨_,rfl,z,c,rfl,s' _ _ aN,iW.1,iW.2,λ aX s4=>et _ aX s4 ?_⟩;subst fW;rw [pD ao,List.map_append];rfl
     ·rw [d7.1,List.take_length] at fW;subst fW;refine ⟨D,ha.map λ q=>dm (bN q),rfl,mC,?_,q aH ((s1.trans s2).trans s3)⟩;have qr:=pz (ha.map λ q=>dm (bN q)) (B:=700) λ y aL=>by
       obtain ⟨q,aR,rfl⟩:=List.mem_map.mp aL;exact tq (gd q aR).1 (gd q aR).2
      rw [List.length_map] at qr ⊢;have:=Nat.mul_le_mul_right 700 so;omega
end
theorem h7.PO {H:aj} {xs:List V} {ak:List (Int×Int)} (h:h7 H xs ak) (hf : ∀ f∈ak,fx f.1 f.2=true):eC H xs ak:=⟨h.1,λ k x ah=>by
 obtain ⟨c,i,j,aE,aI,cx⟩:=h.2 k x ah;exact ⟨i,j,c,cx,aE,aI,hf (i,j) (List.mem_of_getElem? cx)⟩⟩
theorem S5 {H:aj} {xs:List V} {ak:List (Int×Int)} (h:eC H xs ak) : ∀ x∈xs,jB H x:=λ x ah=>by
 obtain ⟨k,aB⟩:=List.getElem?_of_mem ah;obtain ⟨i,j,c,_,e,ao,f⟩:=h.2 k x aB;exact ⟨c,i,j,e,ao,f⟩
theorem PJ {x:V} {xs:List V}:hU (x::xs) (some 1) none=xs:=by
 unfold hU;rw [wb (by decide),List.length_cons,show min (1:Int).toNat (xs.length+1)=1 by show min 1 _=1;omega];show xs.take _=_;exact List.take_of_length_le (Nat.le_refl _)
section
variable {P:Program} {w:World} {K:PySem.W.Frag} {mg:Str->Option Value} {base:Heap}
noncomputable def V4 (T:bt K mg):bF:=λ vs H Q _ => ∃ (bL aG:Addr),vs=[.ref bL]/\H bL=some (.ins T.hy aG [])/\Q .bp (upd H bL (.ins T.hy aG [("bench", .bp)]))
theorem Kd (T:bt K mg):ck P w mg base bX 1 T.q3 (V4 T):=by
 refine T.q3.fn.cD Zt (λ vs H Q E h=>?_) (λ a5 A outer s H vs Q E ar h=>?_)
 ·obtain ⟨bL,aG,rfl,_⟩:=h;rfl
 ·obtain ⟨bL,aG,rfl,aB,q⟩:=h;refine ⟨_,(aP (tl (ae 0) iq rfl)),?_⟩;exact ⟨_,rfl,bL,_,aG,_,rfl,aB,T.il,T.wW,by decide,q⟩
noncomputable def Ap (T:bt K mg):bF:=λ vs H Q _ => ∃ (bL aG:Addr) (bv:V) (ws:List Str),vs=[.ref bL,.str (Str.join (bV 32) ws)]/\p5 ws/\H bL=some (.ins T.hy aG [("bench", bv)]) /\
 ((∃ ak:List (Int×Int),ws=("program" : Str)::eL ak/\1<=ak.length/\ak.length<=16/\(∀ f∈ak,fx f.1 f.2=true) /\
   ∀ pr bn hd dl xs H',b3 bL H H'->H' bL=some (.ins T.hy aG [("bench", .ref bn)])->gk T H' bn pr hd dl [] []->H hd=none->H dl=none->H bn=none->H' pr=some (.tup xs)->eC H' xs ak->xs.length<=16->Q (.str "ok") H') \/
 (∃ (bn:Addr) (w0:Str) (hR:List Str) (ds:List d_),bv=.ref bn/\ws=w0::ds.map d_.word/\w0 ≠ "program" /\ PyProof.Rows.KTD.datumAt w0 zU=some hR/\hR.length=ds.length/\ds.length<=2/\(∀ (i:Nat) (dW:Str) (d:d_),hR[i]?=some dW->ds[i]?=some d->d.fits dW) /\
   ∀ l zs H',aD H H'->H' l=some (.lst zs)->rR H' zs ds->wL T [.ref bn,.str w0,.ref l] H' Q jc))
theorem kY (T:bt K mg):ck P w mg base bX 10 T.fA (Ap T):=by
 refine T.fA.fn.cD Cv (λ vs H Q E h=>?_) (λ a5 A outer s H vs Q E ar h=>?_)
 ·obtain ⟨bL,aG,bv,ws,rfl,_⟩:=h;rfl
 ·obtain ⟨bL,aG,bv,ws,rfl,hw,aB,h⟩:=h;refine ⟨_,(aK (bq 2 Cv (bw (Y2 T) ar a9 (ai (ae 1) az)))
   (aK (b7 (bO eW (cQ fg (ae 2) aV (λ _ _=>rfl)) cF (bM _))
    (aK (tl (ae 0) (T6 T.wZ.at_ (ZQ T) (ar.mono (by decide)) rfl T.S9 T.wZ.bd .nil a9 (ai (bw (aao T) ar a9 (ai (wB AR (ae 2) (wo aV) wm) az)) az)) rfl)
   (aP (bx cF)))
    b8)
   (aK (bq 3 Cv (bw (ZS T) ar a9 (ai (ae 2) az)))
   (aK (b7 (bO lT (i_ (ae 0) (by rfl)) iq (bM _))
    (aP eZ)
    b8)
   (aP (bx (bw (W8 T) ar a9 (ai (i_ (ae 0) (by rfl)) (ai (cQ fg (ae 2) aV (λ _ _=>rfl)) (ai (ae 3) az)))))))))),?_⟩
  refine ⟨_,rfl,ws,rfl,hw,λ l H1 f1 s1 af=>?_⟩;have Ea:=s1 _ _ aB;rcases h with ⟨ak,rfl,uU,zF,ft,q⟩ | ⟨bn,w0,hR,ds,rfl,rfl,c5,hd,hlen,aq,pd,q⟩
  ·refine ⟨_,rfl,l,_,_,_,rfl,rfl,a4.of af,g5 (by decide) rfl,rfl,_,rfl,?_⟩;rw [decide_eq_true rfl];refine c6 ⟨_,rfl,1,rfl,l,_,rfl,a4.of af,λ d0 fb=>?_⟩;have s2:aD H1 (upd H1 d0 (.lst (hU ((("program" : Str)::eL ak).map V.str) (some 1) none))):=aD.new fb;have aI:(upd H1 d0 (.lst (hU ((("program" : Str)::eL ak).map V.str) (some 1) none))) d0=some (.lst ((eL ak).map V.str)):=by rw [br,List.map_cons,PJ]
   generalize upd H1 d0 (.lst (hU ((("program" : Str)::eL ak).map V.str) (some 1) none))=aw at s2 aI;refine ⟨d0,ak,rfl,aI,uU,zF,ft,λ pr xs aH s3 lB dK=>?_⟩;have ea:=dK.PO ft;have kF:=(s1.trans s2).trans s3;refine λ bn yr jN fd eS=>?_
   have oj:aD aH (upd (upd aH yr (.own bn)) bn (.ins T.gA yr [])):=λ cj o e=>by
    rw [a3 (b2 e jN),a3 (b2 e fd)];exact e
   refine ⟨bn,yr,pr,xs,rfl,br,oj _ _ lB,by rw [ea.1];exact uU,by rw [ea.1];exact zF,S5 (ea.same oj),λ hd dl aX fh oR mw q_=>⟨rfl,?_⟩⟩;have xm:aD aH aX:=λ cj o e=>fh _ _ (b2 e jN) (oj _ _ e)
   have nM:=kF.trans xm;refine ⟨_,rfl,bL,_,aG,_,rfl,nM _ _ aB,T.il,T.wW,(by show (1:Nat)<1000;decide),?_⟩;obtain ⟨My,aa⟩:=q_.at_;have ne1:bn≠bL:=λ z=>by rw [z] at jN;rw [kF _ _ aB] at jN;cases jN
   have ne2:hd≠bL:=λ z=>by rw [z,oj _ _ (kF _ _ aB)] at oR;cases oR
   have ne3:dl≠bL:=λ z=>by rw [z,oj _ _ (kF _ _ aB)] at mw;cases mw
   have kt : ∀ c ys,aX c=some (.tup ys)->(upd aX bL (.ins T.hy aG (hu "bench" (.ref bn) [("bench", bv)]))) c=some (.tup ys):=λ c ys h=>by
    rw [a3 (dN h (nM _ _ aB) nofun)];exact h
   refine q pr bn hd dl xs _ (λ c o eR e=>?_) br ⟨⟨My,?_⟩,?_,?_⟩ (kF.free (oj.free oR)) (kF.free (oj.free mw)) (kF.free jN) (kt _ _ (xm _ _ lB)) ⟨ea.1,λ k x ah=>?_⟩ (by rw [ea.1];exact zF)
   ·rw [a3 eR];exact nM _ _ e
   ·rw [a3 ne1];exact aa
   ·rw [a3 ne2];exact q_.hd
   ·rw [a3 ne3];exact q_.dl
   ·obtain ⟨i,j,c,dR,di,gq,ml⟩:=ea.2 k x ah;exact ⟨i,j,c,dR,di,kt _ _ (xm _ _ gq),ml⟩
  ·refine ⟨_,rfl,l,_,_,_,rfl,rfl,a4.of af,g5 (by decide) rfl,rfl,_,rfl,?_⟩;rw [eY c5];refine bB ⟨_,rfl,l,w0,hR,ds,rfl,af,hd,hlen,aq,pd,λ a8 zs aw f2 s2 mA fE=>?_⟩;have Eb:=s2 _ _ Ea;refine ⟨_,rfl,bL,_,aG,_,_,rfl,Eb,T.il,T.wW,rfl,rfl,_,rfl,bB ?_⟩;exact ⟨_,rfl,bL,_,aG,_,_,rfl,Eb,T.il,T.wW,rfl,_,rfl,l,_,_,_,rfl,rfl,a4.of (s2 _ _ af),g5 (by decide) rfl,_,rfl,q a8 zs aw (s1.trans s2) mA fE⟩
theorem z4 (x dI y z:Str) (ah:dI=x++bV 32):Str.join (bV 32) [x,y,z]=dI++y++(" " : Str)++z:=by
 rw [kV,kV,show Str.join (bV 32) [z]=z from rfl,ah,kG];simp only [Ab]
theorem Fo {ys:List Str} (h:ys.length=3) : ∃ a b c,ys=[a,b,c]:=by
 match ys,h with
 | [a,b,c],_=>exact ⟨a,b,c,rfl⟩
theorem Q6 (a iK x:Str) (h:iK=a++bV 32):iK++x=Str.join (bV 32) [a,x]:=by
 rw [kV,show Str.join (bV 32) [x]=x from rfl,h]
theorem RK (a iK x y:Str) (h:iK=a++bV 32):iK++x++(" " : Str)++y=Str.join (bV 32) [a,x,y]:=(z4 a iK x y h).symm
theorem Gy {n:Int} (h:0<=n):0<(bu n).length:=by
 rw [<-px];exact List.length_pos_iff.mpr (z6 h)
theorem Er {n:Int} (h:0<=n) (af:n<1000):ef 32 (bu n)/\0<(bu n).length/\(bu n).length<=1000:=⟨kT h (by omega),Gy h,by have:=ip (k:=2) h (by omega);omega⟩
theorem vQ {m:Int} (h:m.natAbs<1024):m.natAbs.log2<1920:=by
 by_cases aB:m.natAbs=0
 ·rw [aB];decide
 ·have:=(Nat.log2_lt (k:=10) aB).mpr h;omega
noncomputable def oJ (x:Str):Prop:=ef 32 x/\0<x.length/\x.length<=8
theorem QM {a:Str} (av:ef 32 a/\0<a.length/\a.length<=20):p5 [a]:=⟨by simp,by show 1<=100;decide,λ y aL=>by rw [List.mem_singleton.mp aL];exact ⟨av.1,av.2.1⟩,by show a.length<=_;have:=av.2.2;omega⟩
theorem QN {a x:Str} (av:ef 32 a/\0<a.length/\a.length<=20) (ah:oJ x):p5 [a,x]:=by
 refine ⟨by simp,by show 2<=100;decide,λ y aL=>?_,?_⟩
 ·simp only [List.mem_cons,List.not_mem_nil,or_false] at aL;rcases aL with rfl | rfl
  ·exact ⟨av.1,av.2.1⟩
  ·exact ⟨ah.1,ah.2.1⟩
 ·rw [kV,len_app,len_app];show a.length+1+x.length<=_;have:=av.2.2;have:=ah.2.2;omega
theorem QO {a x y:Str} (av:ef 32 a/\0<a.length/\a.length<=20) (ah:oJ x) (aL:ef 32 y/\0<y.length/\y.length<=1000):p5 [a,x,y]:=by
 refine ⟨by simp,by show 3<=100;decide,λ z aN=>?_,?_⟩
 ·simp only [List.mem_cons,List.not_mem_nil,or_false] at aN;rcases aN with rfl | rfl | rfl
  ·exact ⟨av.1,av.2.1⟩
  ·exact ⟨ah.1,ah.2.1⟩
  ·exact ⟨aL.1,aL.2.1⟩
 ·rw [kV,kV,len_app,len_app,len_app,len_app];show a.length+1+(x.length+1+y.length)<=_;have:=av.2.2;have:=ah.2.2;have:=aL.2.2;omega
theorem QU {x:Str} : ∀ (i:Nat) (dW:Str) (d:d_),(["name"]:List Str)[i]?=some dW->[d_.nm x][i]?=some d->d.fits dW
 | 0,_,_,af,aq=>by cases af;cases aq;rfl
 | i+1,_,_,af,_=>by cases af
theorem QV {x:Str} {k2:Str} {d2:d_} (h:d2.fits k2) : ∀ (i:Nat) (dW:Str) (d:d_),([("name" : Str),k2])[i]?=some dW->[d_.nm x,d2][i]?=some d->d.fits dW
 | 0,_,_,af,aq=>by cases af;cases aq;rfl
 | 1,_,_,af,aq=>by cases af;cases aq;exact h
 | i+2,_,_,af,_=>by cases af
theorem OY {H:aj} {zs:List V} {x:Str} (h:rR H zs [.nm x]):zs=[.str x]:=by
 obtain ⟨z,rfl⟩:=List.length_eq_one_iff.mp h.1;rw [show z=.str x from h.2 0 z _ rfl rfl]
theorem OZ {H:aj} {zs:List V} {x:Str} {d:d_} (h:rR H zs [.nm x,d]) : ∃ z,zs=[.str x,z]/\d.val H z:=by
 match zs,h with
 | [a,b],h=>exact ⟨b,by rw [show a=.str x from h.2 0 a _ rfl rfl],h.2 1 b d rfl rfl⟩
theorem QK {zs:List V} {xs:List V} (au:zs.length=xs.length) (aN : ∀ (j:Nat) (z:V),zs[j]?=some z -> ∃ y:Str,z=.str y/\(∀ x,xs[j]?=some (.str x)->y=x)/\(∀ k,xs[j]?=some (.int k)->y=bu k)) : ∃ ys:List Str,zs=ys.map V.str/\ys.length=xs.length /\ ∀ (j:Nat) (y:Str),ys[j]?=some y->(∀ x,xs[j]?=some (.str x)->y=x)/\(∀ k,xs[j]?=some (.int k)->y=bu k):=by
 let f:V->Str:=λ z=>match z with | .str y=>y | _=>("" : Str)
 refine ⟨zs.map f,?_,by rw [List.length_map];exact au,λ j y aL=>?_⟩
 ·rw [List.map_map]
  conv=>lhs;rw [<-List.map_id zs]
  refine List.map_congr_left λ z hm=>?_
  obtain ⟨j,bj⟩:=List.getElem?_of_mem hm;obtain ⟨y,rfl,_⟩:=aN j z bj;rfl
 ·rw [List.getElem?_map] at aL;obtain ⟨z,bj,e⟩:=Option.map_eq_some_iff.mp aL;obtain ⟨fs,rfl,af,aq⟩:=aN j z bj;obtain rfl:fs=y:=e;exact ⟨af,aq⟩
theorem Yv (T:bt K mg):ck P w mg base bX 4 T.Iw KY:=by
 refine T.Iw.fn.cD Cc (λ vs H Q E h=>?_) (λ a5 A outer s H vs Q E ar h=>?_)
 ·obtain ⟨v,o,rfl,_⟩:=h;rfl
 ·obtain ⟨v,o,rfl,iM,fj,q⟩:=h;refine ⟨_,(aK (wq (i:=1) Cc.eS rfl (Or.inl rfl) (eU Cc (N:=["part"]) (js:=[none]) (List.forall_mem_nil _)) rfl (lV (ae 0)) (λ _ _ _ _=>eX) (λ _ _ _ _=>fz)
     (λ _ _ _ _=>(fX (Wy ar) T.kQ kO (ai (ae 0) az))))
   (aK (b7 (bO eW (cQ fe (ae 0) aV (λ _ _=>rfl)) cF (bM _))
    (aP (qK (bw (oe T) ar a9 (ai (cQ fe (ae 0) aV (λ _ _=>rfl)) az)) (qI (ae 1) aV set_list)))
    b8)
   (aP (bx (g4 PySem.F.plainAttrs_str PySem.F.slot_str_join PySem.F.type_str_join qM cF (ai (ae 1) az)))))),?_⟩
  obtain ⟨a,xs,rfl,av,aF,N9⟩ : ∃ (a:Addr) (xs:List V),v=.ref a/\H a=some (.tup xs)/\xs.length<=3/\(∀ (j:Nat) (z:V),xs[j]?=some z->(∃ x:Str,z=.str x)\/(∃ k:Nat,z=.int (k:Int)/\(k:Int)<10 ^ 60) \/ ∃ (d:Addr) (c:List Int),z=.ref d/\H d=some (tupI c)/\c.length=10 /\ ∀ e∈c,0<=e/\e<10 ^ 60):=by
   cases o with
   | hW =>
    obtain ⟨a,rfl,av⟩:=iM;refine ⟨a,_,rfl,av,by decide,λ j z h=>?_⟩;rcases List.mem_singleton.mp (List.mem_of_getElem? h) with rfl;exact .inl ⟨_,rfl⟩
   | rests n c =>
    obtain ⟨a,d,rfl,av,hd⟩:=iM;refine ⟨a,_,rfl,av,by show 3<=3;decide,λ j z h=>?_⟩;have hm:=List.mem_of_getElem? h;simp only [List.mem_cons,List.not_mem_nil,or_false] at hm;rcases hm with rfl | rfl | rfl
    ·exact .inl ⟨_,rfl⟩
    ·exact .inr (.inl ⟨n,rfl,fj.1⟩)
    ·exact .inr (.inr ⟨d,c,rfl,hd,fj.2.1,fj.2.2⟩)
   | round b l =>
    obtain ⟨a,rfl,av⟩:=iM;refine ⟨a,_,rfl,av,by show 3<=3;decide,λ j z h=>?_⟩;have hm:=List.mem_of_getElem? h;simp only [List.mem_cons,List.not_mem_nil,or_false] at hm;rcases hm with rfl | rfl | rfl
    ·exact .inl ⟨_,rfl⟩
    ·exact .inr (.inl ⟨b,rfl,fj.1⟩)
    ·exact .inr (.inl ⟨l,rfl,fj.2⟩)
  have Du : ∀ k:Int,0<=k->k<10 ^ 60->k.natAbs.log2<1920:=λ k h0 af=>by
   have:k.natAbs<2 ^ 1920:=Nat.lt_of_lt_of_le (show k.natAbs<10 ^ 60 by omega) (by decide +kernel);by_cases aB:k.natAbs=0
   ·rw [aB];decide
   ·exact (Nat.log2_lt aB).mpr this
  refine ⟨_,rfl,a,rfl,⟨_,aW.of av⟩,λ D aY=>?_⟩;refine qS (K:=K) (a:=a) (xs:=xs) (by rw [sizeLine_eq];omega) (λ i σ' H' zs=>(∃ u:Option V,σ'=[u])/\aD H H'/\zs.length=i /\ ∀ (j:Nat) (z:V),zs[j]?=some z -> ∃ y:Str,z=.str y/\(∀ x,xs[j]?=some (.str x)->y=x)/\(∀ k,xs[j]?=some (.int k)->y=bu k)) ⟨⟨_,rfl⟩,aD.new aY,rfl,λ j z h=>by cases h⟩ (λ i σ' H' zs _ _ h=>aW.of (h.2.1 _ _ av)) ?_ ?_
  ·rintro i x σ' H' zs R ah cV ez ⟨⟨u,rfl⟩,s',au,aN⟩ et;have fin : ∀ y:Str,(∀ dI,xs[i]?=some (.str dI)->y=dI)->(∀ k,xs[i]?=some (.int k)->y=bu k)->R [some x] (.str y) H':=λ y af aq=>by
    refine et _ _ _ cV ⟨⟨_,rfl⟩,λ c o e=>?_,by rw [List.length_append,au];rfl,λ j z h=>?_⟩
    ·rw [a3 (b2 e aY)];exact s' _ _ e
    ·rcases Nat.lt_or_ge j zs.length with bj | bj
     ·rw [List.getElem?_append_left bj] at h;exact aN j z h
     ·have ro:j=i:=by
       have:=(List.getElem?_eq_some_iff.mp h).1;rw [List.length_append] at this;have af:[V.str y].length=1:=rfl;omega
      subst ro;rw [List.getElem?_append_right bj,au,Nat.sub_self] at h;cases h;exact ⟨y,rfl,af,aq⟩
   refine ⟨_,rfl,x,rfl,?_⟩;rcases N9 i x ah with ⟨dI,rfl⟩ | ⟨k,rfl,aB⟩ | ⟨d,c,rfl,hd,ao,he⟩
   ·exact .inl ⟨dI,rfl,fin dI (λ y h=>by rw [ah] at h;cases h;rfl) λ k h=>by rw [ah] at h;cases h⟩
   ·exact .inr (.inl ⟨k,rfl,Du _ (by omega) aB,fin _ (λ y h=>by rw [ah] at h;cases h) λ fS h=>by rw [ah] at h;cases h;rfl⟩)
   ·refine .inr (.inr ⟨d,c,rfl,s' _ _ hd,by omega,λ b5 h'=>⟨Du _ (he b5 h').1 (he b5 h').2,Nat.le_trans (ip (k:=60) (he b5 h').1 (by have:=(he b5 h').2;omega)) (by decide)⟩,λ y=>fin y (λ y h=>by rw [ah] at h;cases h) λ fS h=>by rw [ah] at h;cases h⟩)
  ·rintro σ' H1 zs p8 ez ⟨_,s1,au,aN⟩;obtain ⟨ys,rfl,fK,aL⟩:=QK (by rw [au]) aN;have hM:=s1 _ _ av;cases o with
   | hW =>
    obtain ⟨iK,dG,gF⟩:=iM;cases dG;rw [av] at gF;cases gF;obtain ⟨e3,rfl⟩ : ∃ e3,ys=[e3]:=List.length_eq_one_iff.mp fK;obtain rfl:=(aL 0 e3 rfl).1 _ rfl;refine ⟨_,rfl,a,_,_,_,rfl,rfl,aW.of hM,rfl,rfl,_,rfl,?_⟩;rw [eY (show ("open" : Str) ≠ "rests" by decide)];exact bB ⟨rfl,_,rfl,_,D,["open"],rfl,rfl,p8,by decide,by decide,q H1 s1⟩
   | rests n c =>
    obtain ⟨iK,d,dG,gF,hd⟩:=iM;cases dG;rw [av] at gF;cases gF;obtain ⟨eP,dO,dU⟩:=fj;obtain ⟨e3,ko,lh,rfl⟩ : ∃ e3 ko lh,ys=[e3,ko,lh]:=Fo fK;obtain rfl:=(aL 0 e3 rfl).1 _ rfl;obtain rfl:=(aL 1 ko rfl).2 _ rfl;refine ⟨_,rfl,a,_,_,_,rfl,rfl,aW.of hM,rfl,rfl,_,rfl,?_⟩;rw [decide_eq_true rfl];refine c6 ⟨_,rfl,a,_,_,_,rfl,rfl,aW.of hM,rfl,d,c,rfl,s1 _ _ hd,dO,dU,λ aw s2=>?_⟩;have gS:=s2 _ _ p8;refine ⟨_,rfl,D,_,2,2,rfl,rfl,gS,rfl,?_⟩;have dt:(bu (n:Int)).length<=61:=ip (k:=60) (by omega) (by omega);have fb:=tq dO dU;refine ⟨rfl,_,rfl,_,D,[("rests" : Str),bu (n:Int),dm (bN c)],rfl,rfl,br,by decide,?_,?_⟩
    ·show 5+((bu (n:Int)).length+((dm (bN c)).length+0))+3<=_;omega
    ·rw [kG,z4 "rests" "rests " _ _ (by decide +kernel)];refine q _ λ cj o e=>?_
     rw [a3 (b2 e (by exact aY))];exact s2 _ _ (s1 _ _ e)
   | round b l =>
    obtain ⟨iK,dG,gF⟩:=iM;cases dG;rw [av] at gF;cases gF;obtain ⟨eP,dO⟩:=fj;obtain ⟨e3,ko,lh,rfl⟩ : ∃ e3 ko lh,ys=[e3,ko,lh]:=Fo fK;obtain rfl:=(aL 0 e3 rfl).1 _ rfl;obtain rfl:=(aL 1 ko rfl).2 _ rfl;obtain rfl:=(aL 2 lh rfl).2 _ rfl;refine ⟨_,rfl,a,_,_,_,rfl,rfl,aW.of hM,rfl,rfl,_,rfl,?_⟩;rw [eY (show ("round" : Str) ≠ "rests" by decide)];have dt:(bu (b:Int)).length<=61:=ip (k:=60) (by omega) (by omega);have fb:(bu (l:Int)).length<=61:=ip (k:=60) (by omega) (by omega);refine bB ⟨rfl,_,rfl,_,D,[("round" : Str),bu (b:Int),bu (l:Int)],rfl,rfl,p8,by decide,?_,?_⟩
    ·show 5+((bu (b:Int)).length+((bu (l:Int)).length+0))+3<=_;omega
    ·rw [kG,z4 "round" "round " _ _ (by decide +kernel)];exact q H1 s1
structure pf (T:bt K mg) (H:aj) (bL aG bn pr hd dl:Addr) (xs:List V) (ak:List (Int×Int)) (kvs:List (Key×V)) (ds:List V):Prop where
 bL:H bL=some (.ins T.hy aG [("bench", .ref bn)])
 B:gk T H bn pr hd dl kvs ds
 pr:H pr=some (.tup xs)
 f:eC H xs ak
 l:xs.length<=16
theorem pf.same {T:bt K mg} {H H':aj} {bL aG bn pr hd dl:Addr} {xs:List V} {ak:List (Int×Int)} {kvs:List (Key×V)} {ds:List V} (b:pf T H bL aG bn pr hd dl xs ak kvs ds) (s:aD H H'):pf T H' bL aG bn pr hd dl xs ak kvs ds :=
 ⟨s _ _ b.bL,b.B.same s,s _ _ b.pr,b.f.same s,b.l⟩
noncomputable def DB (w0:Str) (l:List Str):Bool:=decide (32∉du w0/\0<w0.length/\w0.length<=20/\w0 ≠ "program" /\ PyProof.Rows.KTD.datumAt w0 zU=some l)
theorem vC {T:bt K mg} {H:aj} {Q:bz} {E:dF} {bL aG bn pr hd dl:Addr} {xs:List V} {ak:List (Int×Int)} {kvs:List (Key×V)} {ds:List V} (D:pf T H bL aG bn pr hd dl xs ak kvs ds) {w0 x r:Str} (ah:oJ x) (h : ∀ l H',aD H H'->H' l=some (.lst [.str x])->wL T [.ref bn,.str w0,.ref l] H' Q jc) (hw:DB w0 ["name"]=true:=by decide +kernel) (e:r=Str.join (bV 32) [w0,x]:=by decide +kernel):Ap T [.ref bL,.str r] H Q E:=by
 obtain ⟨a,b,c,d,f⟩:=of_decide_eq_true hw;subst e;refine ⟨bL,aG,.ref bn,[w0,x],rfl,QN ⟨a,b,c⟩ ah,D.bL,.inr ⟨bn,w0,["name"],[.nm x],rfl,rfl,d,f,rfl,by show 1<=2;decide,QU,λ l zs H' s h' fE=>?_⟩⟩;obtain rfl:=OY fE;exact h l H' s h'
theorem vD {T:bt K mg} {H:aj} {Q:bz} {E:dF} {bL aG bn pr hd dl:Addr} {xs:List V} {ak:List (Int×Int)} {kvs:List (Key×V)} {ds:List V} (D:pf T H bL aG bn pr hd dl xs ak kvs ds) {w0 x r k2:Str} {d2:d_} (ah:oJ x) (aL:ef 32 d2.word/\0<d2.word.length/\d2.word.length<=1000) (aq:d2.fits k2) (h : ∀ l z H',aD H H'->H' l=some (.lst [.str x,z])->d2.val H' z->wL T [.ref bn,.str w0,.ref l] H' Q jc) (e:r=Str.join (bV 32) [w0,x,d2.word]) (hw:DB w0 ["name", k2]=true:=by decide +kernel):Ap T [.ref bL,.str r] H Q E:=by
 obtain ⟨a,b,c,d,f⟩:=of_decide_eq_true hw;subst e;refine ⟨bL,aG,.ref bn,[w0,x,d2.word],rfl,QO ⟨a,b,c⟩ ah aL,D.bL,.inr ⟨bn,w0,["name", k2],[.nm x,d2],rfl,rfl,d,f,rfl,by show 2<=2;decide,QV aq,λ l zs H' s h' fE=>?_⟩⟩;obtain ⟨z,rfl,aN⟩:=OZ fE;exact h l z H' s h' aN
noncomputable def YL (T:bt K mg):bF:=λ vs H Q _ => ∃ (bL aG bn pr hd dl cR a2 w a:Addr) (xs ys:List V) (ak:List (Int×Int)) (kvs:List (Key×V)) (ds:List V) (x:Str) (n m:Int) (ag:List Int),vs=[.ref bL,.str x,.ref cR,.ref a2,.int m]/\pf T H bL aG bn pr hd dl xs ak kvs ds/\oJ x /\
 H cR=some (.tup ys)/\eC H ys ak/\H a2=some (tupI ag)/\cE kvs (dc x)=some (.ref w)/\H w=some (.tup [.ref a,.int n])/\H a=some (tupI ag)/\ag.length=10/\(∀ e∈ag,0<=e/\e<=1000000000)/\0<=n/\n<=1000000000/\0<=m/\m<=400 /\ ∀ H',aD H H'->Q (.ba true) H'
theorem Jr (T:bt K mg):ck P w mg base bX 12 T.Iy (YL T):=by
 refine T.Iy.fn.cD Cd (λ vs H Q E h=>?_) (λ a5 A outer s H vs Q E ar h=>?_)
 ·obtain ⟨bL,aG,bn,pr,hd,dl,cR,a2,w,a,xs,ys,ak,kvs,ds,x,n,m,ag,rfl,_⟩:=h;rfl
 ·obtain ⟨bL,aG,bn,pr,hd,dl,cR,a2,w,a,xs,ys,ak,kvs,ds,x,n,m,ag,rfl,D,ah,gG,jq,eK,a7,hw,av,cU,kC,jP,xI,m0,jj,q⟩:=h;refine ⟨_,(aK (wq (i:=5) Cd.eS rfl (Or.inl rfl) (eU Cd (N:=["one"]) (js:=[none]) (List.forall_mem_nil _)) rfl (ob (bw (I4 T) ar a9 (ai (ae 2) (ai (ae 3) az)))) (λ _ _ _ _=>eX) (λ _ _ _ _=>fz)
     (λ _ _ _ _=>(bw (oe T) ar a9 (ai (ae 0) az))))
   (aK (b7 (bO ik (gj (ae 0) T.il T.fA.at_ (kY T) (ar.mono (by decide)) T.fA.bd .nil a9 (ai (bU lY cF (ae 1)) az)) (bU lY (g4 PySem.F.plainAttrs_str PySem.F.slot_str_join PySem.F.type_str_join qM cF (ai (ae 5) az)) (bU Ts cF (fX Wv T.vR vK (ai (m9 (Vu (lM ar)) (ae 5) (l0 az) (bM _)) az)))) (bM _))
    (aP (bx i7))
    b8)
   (aP (bx (m9 eW (gj (ae 0) T.il T.fA.at_ (kY T) (ar.mono (by decide)) T.fA.bd .nil a9 (ai (bU lY (bU lY (bU lY cF (ae 1)) cF) (fX tO T.kQ kO (ai (ae 4) az))) az)) (bw (Yv T) ar a9 (ai (bw (Hh T) ar a9 (ai (ae 2) (ai (ae 3) (ai (ae 4) az)))) az)) (bM _)))))),?_⟩
  have Qk:ys.length<=16:=by rw [jq.1,<-D.f.1];exact D.l
  refine ⟨_,rfl,_,rfl,cR,a2,ys,ak,ag,rfl,gG,jq,Qk,eK,cU,λ a8 H1 rs f1 s1 af d7=>?_⟩;have so:(j3 (j6 (rowsOf ak) ag)).length<=16:=by
   rw [(wM _).length_eq];have:=BV (rowsOf ak) ag;rw [pC,<-jq.1] at this;omega
  have gd : ∀ q∈j3 (j6 (rowsOf ak) ag),q.length=10 /\ ∀ e∈q,0<=e/\e<10 ^ 60:=λ q aR=>by
   have:=IC (pv jq) (jH ak) cU (λ e he=>(kC e he).2) ((wM _).mem_iff.mp aR);exact ⟨this.1,λ e he=>⟨(this.2 e he).1,by have:=(this.2 e he).2;omega⟩⟩
  have Nx : ∃ ha,ha=j3 (j6 (rowsOf ak) ag):=⟨_,rfl⟩
  obtain ⟨ha,DU⟩:=Nx;rw [<-DU] at d7 so gd;refine ⟨a8,rfl,⟨_,a4.of af⟩,λ Dj aY=>BX (K:=K) (a:=a8) (σ0:=[]) (xs:=rs) (by rw [sizeLine_eq,d7.1];omega) ⟨_,rfl⟩ aY af (λ i H' zs=>zs=((ha.take i).map λ q=>dm (bN q)).map V.str) rfl (λ i H' aH zs ys _ e _=>e) (λ i y H' zs R s' aL cV ez fW et=>?_) λ aw zs s2 gS ez fW=>?_⟩
  ·obtain ⟨c,ao,z,rfl,aN⟩:=d7.2 i y aL;have iW:=gd c (List.mem_of_getElem? ao);refine ⟨_,rfl,z,c,rfl,s' _ _ aN,iW.1,iW.2,λ aX s4=>et _ aX s4 ?_⟩;subst fW;rw [pD ao,List.map_append];rfl
  rw [d7.1,List.take_length] at fW;subst fW;have qr:=pz (ha.map λ q=>dm (bN q)) (B:=700) λ y aL=>by
   obtain ⟨q,aR,rfl⟩:=List.mem_map.mp aL;exact tq (gd q aR).1 (gd q aR).2
  have ib:((ha.map λ q=>dm (bN q)).map (·.length)).sum+(ha.map λ q=>dm (bN q)).length<=1048576:=by
   rw [List.length_map] at qr ⊢;have:=Nat.mul_le_mul_right 700 so;omega
  have xl:=s1.trans s2;have t2:=D.same xl;have hsz : ∀ {n:Nat},n<=1000000->n<=sizeLine:=λ {n} h=>by rw [sizeLine_eq];omega
  refine ⟨_,rfl,bL,aG,_,rfl,t2.bL,rfl,_,rfl, "ahead ", x,rfl,rfl,hsz (by have:=ah.2.2;show 6+x.length<=_;omega),?_⟩;unfold kM;refine vC t2 ah (λ l aH s3 aF=>?_) (e:=Q6 "ahead" "ahead " x (by decide +kernel));have pH:=t2.same s3;have Dq:=xl.trans s3;refine ⟨bn,l,pr,hd,dl, "ahead", _,kvs,ds,rfl,aF,pH.B,.inr (.inr (.inr ⟨x,w,a,n,ag,a7,Dq _ _ hw,Dq _ _ av,cU,kC,jP,xI,.inr (.inr ⟨xs,ak,pH.pr,pH.f,pH.l,.inr ⟨rfl,rfl,λ aX s4=>?_⟩⟩)⟩))⟩;rw [<-DU];have oL:=s3.trans s4;refine ⟨rfl,_,rfl,_,Dj,ha.map λ q=>dm (bN q),rfl,rfl,oL _ _ gS,by decide,ib,?_⟩;have abq:(Str.join (bV 32) (ha.map λ q=>dm (bN q))).length<=100000:=by
   have:=StrLaws.join_length_le (bV 32) (ha.map λ q=>dm (bN q));have aE:(bV 32).length=1:=rfl;rw [aE,Nat.mul_one] at this;rw [List.length_map] at qr this;have aq:=Nat.mul_le_mul_right 700 so;omega
  have xy:s8 (ha.map λ q=>dm (bN q))=Str.join (bV 32) (ha.map λ q=>dm (bN q))++(if (if decide (((ha.map λ q=>dm (bN q)).map V.str).length=0)=true then (1:Int) else 0)=1 then ("none" : Str) else Str.empty):=by
   unfold s8;by_cases aC:ha=[]
   ·subst aC;decide +kernel
   ·rw [if_neg (by simpa using aC),decide_eq_false (by simpa using aC),if_neg (by decide)];exact qQ (by rw [m_];exact (List.append_nil _).symm)
  refine ⟨_,rfl,eB,λ k7 bH e7 s5 bW=>⟨Dj,k7,_,rfl,rfl,s5 _ _ (oL _ _ gS),bW,.inr ⟨_,rfl,_,_,rfl,rfl,?_,_,_,rfl,rfl,?_,rfl,_,rfl,?_⟩⟩⟩
  ·split
   ·exact .inr rfl
   ·exact .inl rfl
  ·rw [kG];refine hsz ?_;split
   ·show _+4<=_;omega
   ·show _+0<=_;omega
  rw [kG,<-xy,decide_eq_true rfl];refine bB ?_;have ri:aD aw bH:=oL.trans s5;have Mo:=xl.trans ri;have xf:=t2.same ri;refine ⟨_,rfl,bL,aG,_,rfl,xf.bL,rfl,_,rfl, "fate ", x,rfl,rfl,hsz (by have:=ah.2.2;show 5+x.length<=_;omega),_,_,rfl,rfl,?_,_,rfl,_,rfl,?_,_,bu m,rfl,rfl,?_,?_⟩
  ·rw [len_app];exact hsz (by have:=ah.2.2;show 5+x.length+1<=_;omega)
  ·exact vQ (by omega)
  ·rw [len_app,len_app];have:=ip (k:=2) m0 (by omega);exact hsz (by have:=ah.2.2;show 5+x.length+1+_<=_;omega)
  refine vD xf (d2:=.b1 m) ah (Er m0 (by omega)) ⟨.inr rfl,m0,jj⟩ (λ l z dD cp dV aN=>?_) (by rw [<-kG];exact RK "fate" "fate " x (bu m) (by decide +kernel));cases aN;have tZ:=xf.same cp;have yk:=Mo.trans cp;refine ⟨bn,l,pr,hd,dl, "fate", _,kvs,ds,rfl,dV,tZ.B,.inr (.inr (.inr ⟨x,w,a,n,ag,a7,yk _ _ hw,yk _ _ av,cU,kC,jP,xI,.inr (.inr ⟨xs,ak,tZ.pr,tZ.f,tZ.l,.inl ⟨rfl,m,rfl,m0,jj,λ o ej fm ea=>?_⟩⟩)⟩))⟩;have uC:=yk.trans fm;have d1:nn ag=true:=i8.mpr λ e he=>(kC e he).1
  refine ⟨_,rfl,_,rfl,_,rfl,cR,a2,ys,ak,ag,m,rfl,uC _ _ gG,jq.same uC,by omega,uC _ _ eK,cU,d1,m0,by omega,λ v l9 eb gQ Nr iM=>?_⟩;obtain rfl:=qu.uniq ea Nr;refine ⟨v,o,rfl,iM,?_,λ nh hE=>⟨rfl,?_⟩⟩
  ·cases o with
   | hW=>trivial
   | rests k c =>
    obtain ⟨k1,k2,_⟩:=ea;have aM:=m3 (jH ak) cU d1 k2;have gd:=v3 (pv jq) (λ e he=>(kC e he).2) k2;exact ⟨by omega,aM.1,λ e he=>⟨i8.mp aM.2 e he,by have:=gd e he;omega⟩⟩
   | round b ow =>
    obtain ⟨k1,k2,_⟩:=ea;exact ⟨by omega,by omega⟩
  ·rw [decide_eq_true rfl];exact q nh ((uC.trans gQ).trans hE)
noncomputable def Z1:bF:=λ vs H Q _ => ∃ (b:Addr) (es:List Int),vs=[.ref b]/\H b=some (.lst (es.map V.int))/\es.length=10/\(∀ e∈es,0<=e/\e<2 ^ 62) /\ ∀ H',aD H H'->Q (.int (prod (es.map Int.toNat):Nat)) H'
theorem KC (T:bt K mg):ck P w mg base bX 2 T.wU Z1:=by
 refine T.wU.fn.cD j_ (λ vs H Q E h=>?_) (λ a5 A outer s H vs Q E ar h=>?_)
 ·obtain ⟨b,es,rfl,_⟩:=h;rfl
 ·obtain ⟨b,es,rfl,aa,he,hm,q⟩:=h;refine ⟨_,(aK (bq 1 j_ aV)
   (aK (fZ PassesOwn.never rfl (Ht rfl rfl T.j4 (ai (GF (JZ T) ar a9) (ai (ae 0) az))) (pq rfl (eE (eD 2 j_) (eE (eD 3 j_) ja)))
    (aP (fZ PassesOwn.never rfl (jb rfl T.iw (ai (ae 3) az)) (eD 4 j_)
    (aP (bq 1 j_ (bU n8 (ae 1) (ae 2)))))))
   (aP (bx (ae 1))))),?_⟩
  refine ⟨rfl,λ t aZ=>⟨_,rfl,t,b,rfl,⟨_,aW.of br⟩,⟨_,a4.of ((aD.new aZ) _ _ aa)⟩,?_⟩⟩;have cW:en.length=10:=rfl;have yR:(es.map V.int).length=10:=by rw [List.length_map];exact he
  refine U2 (xs:=en) (ys:=es.map V.int) (λ i σ aw=>(∃ u v x:Option V,σ=[some (.ref b),some (.int (hx (ei.take i) ((es.map Int.toNat).take i):Nat)),u,v,x])/\aD (upd H t (.tup en)) aw) ⟨⟨none,none,none,rfl⟩,aD.refl _⟩ ?_ ?_ ?_
  ·rintro i σ aw ax ⟨_,s2⟩;exact ⟨aW.of (s2 _ _ br),a4.of (s2 _ _ ((aD.new aZ) _ _ aa))⟩
  ·rintro i x y z σ aw ah aL aN ⟨⟨u,v,dI,rfl⟩,s2⟩;obtain ⟨p,rfl,ay,qq⟩:=tK ah;obtain ⟨e,rfl,mG⟩:=hY aL;obtain ⟨b6,aE⟩:=hm e (List.mem_of_getElem? mG);refine ⟨z,_,rfl,aW.of br,rfl,_,_,rfl,_,_,rfl,rfl,?_⟩;refine ⟨_,rfl,e,rfl,by omega,aE,jG (n:=e.toNat) (λ j σ aH=>(∃ x:Option V,σ=[some (.ref b),some (.int ((hx (ei.take i) ((es.map Int.toNat).take i) * p ^ j:Nat):Int)),some (.int p),some (.int e),x])/\aD (upd H t (.tup en)) aH) ⟨⟨dI,by rw [Nat.pow_zero,Nat.mul_one];rfl⟩,aD.more s2 aN⟩ ?_ ?_⟩
   ·rintro j σ aH bj ⟨⟨fa,rfl⟩,s3⟩;refine ⟨_,rfl,_,rfl,_,_,rfl,rfl,.inr ⟨by omega,by omega⟩,⟨some (.int (0+(j:Int))),?_⟩,s3⟩;rw [Nat.pow_succ,<-Nat.mul_assoc,Int.natCast_mul _ p];rfl
   ·rintro σ aH ⟨⟨fa,rfl⟩,s3⟩;refine ⟨⟨some (.int p),some (.int e),fa,?_⟩,s3⟩;have zE:(es.map Int.toNat)[i]?=some e.toNat:=by rw [List.getElem?_map,mG];rfl
    rw [B4 ei (es.map Int.toNat) i p e.toNat ay zE]
  ·rintro σ aw ⟨⟨u,v,x,rfl⟩,s2⟩;have aI:min en.length (es.map V.int).length=10:=by rw [cW,yR];rfl
   refine ⟨_,rfl,?_⟩;rw [aI];have dR:ei.take 10=ei:=rfl;have di:(es.map Int.toNat).take 10=es.map Int.toNat:=List.take_of_length_le (by rw [List.length_map,he];exact Nat.le_refl _);rw [dR,di];exact q aw ((aD.new aZ).trans s2)
noncomputable def QQ (H:aj) (z:V):Prop := ∃ (l:Addr) (s:List Int),z=.ref l/\H l=some (.lst (s.map V.int))/\s.length=10/\(∀ e∈s,0<=e)/\(ups s).sum<=2
theorem aaE (T:bt K mg):ck P w mg base bX 5 T.KZ Km:=by
 refine T.KZ.fn.cD jI (λ vs H Q E h=>?_) (λ a5 A outer s H vs Q E ar h=>?_)
 ·obtain ⟨a,b,n,most,ns,rfl,_⟩:=h;rfl
 ·obtain ⟨a,b,n,most,ns,rfl,av,aa,uX,hP,hm,k1,k2,q⟩:=h;refine ⟨_,(aK (bq 3 jI (bw (Zq T) ar a9 (ai (ae 0) (ai (ae 1) (ai (ae 2) az)))))
   (aK (b7 (bO eW (bw (l4 T) ar a9 (ai (ae 0) (ai aV az))) aV (bM _))
    (aP (bx (ae 3)))
    b8)
   (aK (bq 4 jI (l0 az))
   (aK (fZ PassesOwn.never rfl (jb rfl T.iw (ai (bU ff aV (bw (l4 T) ar a9 (ai (ae 0) (ai (ae 2) az)))) az)) (eD 5 jI)
    (aK (bq 6 jI (l0 az))
   (aK (fZ PassesOwn.never rfl (jb rfl T.iw (ai aV az)) (eD 7 jI)
    (aK (bq 8 jI (bU H6 (l0 (ai aV az)) aV))
   (aK (fZ PassesOwn.never rfl (jb rfl T.iw (ai (bU ff aV (bw (l4 T) ar a9 (ai (ae 0) (ai aV az)))) az)) (eD 9 jI)
    (aP (T8 (ae 8) (cQ fe (ae 1) (bw (l4 T) ar a9 (ai (ae 0) (ai (cL g7 T.fy fw (ai (ae 1) az)) az))) (λ _ _=>rfl)) aV)))
   (aP (hB (g4 PySem.F.plainAttrs_list PySem.F.slot_list_append PySem.F.type_list_append q2 (ae 6) (ai (ae 8) az)))))))
   (aK (wq (i:=10) jI.eS rfl (Or.inl rfl) (eU jI (N:=["one", "other"]) (js:=[none,none]) (List.forall_mem_nil _)) rfl (AI rfl rfl T.j4 (ai (cQ fg (ae 6) aV (λ _ _=>rfl)) (ai (cQ fg (ae 6) aV (λ _ _=>rfl)) az))) (λ _ _ _ _=>(oa (K:=K) (n:=2) rfl rfl (eE eX (eE (l1 (i:=1) (show List.Nodup (["one", "other"]:List Str) from by decide +kernel) rfl (Or.inl rfl) (Or.inr rfl)) ja)))) (λ _ _ _ _=>fz)
     (λ _ _ _ _=>(cL (Br rfl) T.qE qx (ai (ae 0) (ai (ae 1) az)))))
   (aK (bq 11 jI (bw (KC T) ar a9 (ai (fP (eU jI (N:=["one", "other"]) (js:=[none,none]) (List.forall_mem_nil _)) rfl (AI rfl rfl T.j4 (ai (cQ fg (ae 6) aV (λ _ _=>rfl)) (ai (ae 10) az))) (λ _ _ _ _=>(oa (K:=K) (n:=2) rfl rfl (eE eX (eE (l1 (i:=1) (show List.Nodup (["one", "other"]:List Str) from by decide +kernel) rfl (Or.inl rfl) (Or.inr rfl)) ja)))) (λ _ _ _ _=>fz)
     (λ _ _ _ _=>(bU i9 (ae 0) (ae 1)))) az)))
   (aP (hB (g4 PySem.F.plainAttrs_list PySem.F.slot_list_append PySem.F.type_list_append q2 (ae 4) (ai (j7 (ai (ae 11) (ai (bw (KC T) ar a9 (ai (fP (eU jI (N:=["one", "other"]) (js:=[none,none]) (List.forall_mem_nil _)) rfl (AI rfl rfl T.j4 (ai (cQ fg (ae 6) aV (λ _ _=>rfl)) (ai (ae 10) az))) (λ _ _ _ _=>(oa (K:=K) (n:=2) rfl rfl (eE eX (eE (l1 (i:=1) (show List.Nodup (["one", "other"]:List Str) from by decide +kernel) rfl (Or.inl rfl) (Or.inr rfl)) ja)))) (λ _ _ _ _=>fz)
     (λ _ _ _ _=>(bU i9 (ae 0) (ae 1)))) az)) az))) az)))))))))
   (aP (bx (fX pE T.ix iv (ai (ae 4) az)))))))),?_⟩
  have ie:b≠a:=dN aa av nofun;refine ⟨_,rfl,_,rfl,_,rfl,a,b,n,most,ns,rfl,av,aa,uX,hP,hm,k1,k2,λ p H1 cJ xs eP hM sm eJ uu ft=>?_⟩;refine ⟨_,rfl,a,cJ,3,rfl,hM,by decide,by decide,λ r dp aw md aa1 dO eK=>⟨rfl,_,rfl,eg (λ h=>?_) (λ h=>?_)⟩⟩
  ·exact ⟨_,rfl,q p aw dp xs (eP.trans dO) eK (dO _ _ (dN sm hM nofun) sm) eJ uu λ x ah=>jB.hV a cJ (ft x ah) hM dO⟩
  refine ⟨eB,λ f_ aH c2 s3 Qe=>?_⟩;have dU:b3 a H aH:=(eP.trans dO).trans (b3.of s3);have MJ:H f_=none:=(eP.trans dO).QW eK c2;have vA:f_≠a:=λ z=>by rw [z,eK] at c2;cases c2
  refine ⟨_,rfl,_,rfl,a,dp,most,rfl,s3 _ _ eK,by omega,by omega,λ bY gn aX abP abU fh jU=>⟨_,_,rfl,rfl,_,rfl,by omega,by omega,?_⟩⟩;refine jG (n:=(1+bY).toNat) (λ i σ bH => ∃ (jk:Int) (ys:List V) (pW pX pY u8 pZ nR nS:Option V),σ=[some (.ref a),some (.ref b),some (.int most),some (.ref p),some (.ref f_),pW,pX,pY,u8,pZ,nR,nS]/\b3 a H bH/\bH a=some (.lst [.int jk])/\bH f_=some (.lst ys)/\ys.length=i /\ ∀ y∈ys,jB bH y)
   ⟨gn,[],none,none,none,none,none,none,none,rfl,dU.trans fh,jU,fh _ _ vA Qe,rfl,λ y aL=>absurd aL (by simp)⟩ ?_ ?_
  ·rintro i σ bH ax ⟨jk,ys,pW,pX,pY,u8,pZ,nR,nS,rfl,d6,jV,s7,fK,yU⟩;refine ⟨eB,λ iQ dD pO cp vu=>?_⟩;have zQ:iQ≠a:=λ z=>by rw [z,jV] at pO;cases pO
   have Qz:f_≠iQ:=λ z=>by rw [<-z,s7] at pO;cases pO
   refine ⟨2,rfl,by decide,by decide,jG (n:=2) (λ j σ ej => ∃ (kh:Int) (zs:List V) (x1 x2 x3:Option V),σ=[some (.ref a),some (.ref b),some (.int most),some (.ref p),some (.ref f_),some (.int (0+(i:Int))),some (.ref iQ),x1,x2,x3,nR,nS]/\E0 a iQ dD ej/\ej a=some (.lst [.int kh])/\ej iQ=some (.lst zs)/\zs.length=j /\ ∀ z∈zs,QQ ej z)
    ⟨jk,[],_,_,_,rfl,λ c o _ _ e=>e,cp _ _ jV,vu,rfl,λ y aL=>absurd aL (by simp)⟩ ?_ ?_⟩
   ·rintro j σ ej bj ⟨kh,zs,x1,x2,x3,rfl,jf,r6,n0,ez,u1⟩;refine ⟨eB,λ la l9 f8 gQ jh=>⟨la,10,_,rfl,rfl,jh,by decide,by decide,by decide,λ ln nh Ly hE ov=>?_⟩⟩;have vd:=gQ.trans hE;have rZ:ej ln=none:=gQ.free Ly;have zP:ln≠a:=λ z=>by rw [z,r6] at rZ;cases rZ
    have Ft:ln≠iQ:=λ z=>by rw [z,n0] at rZ;cases rZ
    refine ⟨_,rfl,a,kh,2,rfl,vd _ _ r6,by decide,by decide,λ cb OC ux abQ abR uH PQ=>⟨_,_,rfl,rfl,_,rfl,by omega,by omega,?_⟩⟩;have zZ:ux ln=some (.lst ((List.replicate 10 (0:Int)).map V.int)):=uH _ _ zP ov;have E9:ux b=some (.tup (ns.map V.int)):=by
     refine uH _ _ ie (vd _ _ (jf _ _ ie ?_ (cp _ _ (d6 _ _ ie aa))));exact λ z=>by rw [<-z] at vu;rw [cp _ _ (d6 _ _ ie aa)] at vu;cases vu
    refine jG (n:=(1+cb).toNat) (λ t σ oE => ∃ (sA:Int) (es:List Int) (x5:Option V),σ=[some (.ref a),some (.ref b),some (.int most),some (.ref p),some (.ref f_),some (.int (0+(i:Int))),some (.ref iQ),some (.int (0+(j:Int))),some (.ref ln),x5,nR,nS]/\E0 a ln ux oE/\oE a=some (.lst [.int sA])/\oE ln=some (.lst (es.map V.int))/\es.length=10/\(∀ e∈es,0<=e)/\(ups es).sum<=t)
     ⟨OC,List.replicate 10 0,_,rfl,λ c o _ _ e=>e,PQ,zZ,rfl,by decide,by decide⟩ ?_ ?_
    ·rintro t σ oE aZ ⟨sA,es,x5,rfl,rV,zB,z0,dr,uT,NL⟩;have OG:b≠ln:=λ z=>by rw [<-z,E9] at zZ;cases zZ
     have E_:=rV _ _ ie OG E9;refine ⟨_,rfl,_,rfl,_,rfl,_,rfl,b,_,rfl,.inr (aW.of E_),a,sA,_,rfl,zB,by rw [List.length_map];omega,by rw [List.length_map];omega,λ hD OD ye EA O0 oM PR=>?_⟩;rw [List.length_map] at O0;have kD:hD.toNat<ns.length:=by omega
     obtain ⟨Ey,abO⟩:=hm _ (List.getElem_mem kD);have PS:=oM _ _ ie E_;have FT:=oM _ _ zP z0;have hQ:(ns[hD.toNat]).toNat<es.length:=by omega
     have nZ:(es.map V.int)[(ns[hD.toNat]).toNat]?=some (.int es[(ns[hD.toNat]).toNat]):=by rw [List.getElem?_map,List.getElem?_eq_getElem hQ];rfl
     refine ⟨b,_,_,.int ns[hD.toNat],rfl,rfl,aW.of PS,g5 EA (by rw [List.getElem?_map,List.getElem?_eq_getElem kD];rfl),?_⟩;refine ⟨ln,_,_,_,rfl,rfl,FT,Ey,nZ,_,_,rfl,rfl,ln,_,_,_,rfl,rfl,FT,th Ey (by rw [List.length_map];omega),?_⟩;refine ⟨OD,es.set (ns[hD.toNat]).toNat (es[(ns[hD.toNat]).toNat]+1),_,rfl,?_,?_,?_,?_,?_,?_⟩
     ·intro c o na nl e;rw [a3 nl];exact oM _ _ na (rV _ _ na nl e)
     ·rw [a3 zP.symm];exact PR
     ·rw [br,List.map_set]
     ·rw [List.length_set];exact dr
     ·intro e he;rcases List.mem_or_eq_of_mem_set he with z | z
      ·exact uT e z
      ·have:=uT _ (List.getElem_mem hQ);omega
     ·have:=GJ (List.getElem?_eq_getElem hQ);omega
    ·rintro σ oE ⟨sA,es,x5,rfl,rV,zB,z0,dr,uT,NL⟩;have FV:oE iQ=some (.lst zs):=rV _ _ zQ Ft.symm (uH _ _ zQ (vd _ _ n0));refine ⟨_,rfl,.inl ⟨rfl,_,a4.of FV⟩,_,rfl,iQ,_,_,rfl,rfl,FV,by rw [sizeLine_eq];omega,λ ye oM p7=>?_⟩;have keep : ∀ c o,c≠a->c≠iQ->ej c=some o->ye c=some o:=λ c o na eS e =>
      oM _ _ eS (rV _ _ na (λ z=>by rw [z,rZ] at e;cases e) (uH _ _ na (vd _ _ e)))
     refine ⟨sA,zs++[.ref ln],_,_,_,rfl,λ c o na eS e=>keep c o na eS (jf c o na eS e),oM _ _ zQ.symm zB,p7,by rw [List.length_append,ez];rfl,λ z aN=>?_⟩;rcases List.mem_append.mp aN with c9 | c9
     ·obtain ⟨l,s',rfl,au,r⟩:=u1 z c9;refine ⟨l,s',rfl,keep l _ ?_ ?_ au,r⟩
      ·intro y;rw [y,r6] at au;have cU:=r.1;have:(s'.map V.int).length=1:=by injection au with z;injection z with z;rw [<-z];rfl
       rw [List.length_map] at this;omega
      ·intro y;rw [y,n0] at au;have cU:=r.1;have:(s'.map V.int).length=zs.length:=by injection au with z;injection z with z;rw [<-z]
       rw [List.length_map,ez] at this;omega
     ·rw [List.mem_singleton] at c9;subst c9;exact ⟨ln,es,rfl,oM _ _ Ft z0,dr,uT,by omega⟩
   ·rintro σ ej ⟨kh,zs,x1,x2,x3,rfl,jf,r6,n0,ez,u1⟩
    match zs,ez with
    | [L8,dR],_ =>
     obtain ⟨la,t0,rfl,kz,vE,Pm,Pn⟩:=u1 L8 (by simp);obtain ⟨dZ,t1,rfl,dt,vF,Po,Pp⟩:=u1 dR (by simp);have uW:(List.zipWith gV t0 t1).length=10:=by rw [List.length_zipWith,vE,vF];rfl
     refine ⟨_,rfl,iQ,_,_,_,rfl,rfl,a4.of n0,rfl,_,rfl,iQ,_,_,_,rfl,rfl,a4.of n0,rfl,la,dZ,_,_,rfl,kz,dt,λ D aY=>?_⟩;refine CQ (K:=K) (f:=gV) (σ0:=[]) (xs:=t0) (ys:=t1) (by rw [vE,vF,sizeLine_eq];decide) ⟨_,_,rfl⟩ aY kz dt (λ x y H' R _ _ r=>⟨_,rfl,_,rfl,_,_,rfl,r⟩) λ l9 gQ jh=>?_
     refine ⟨_,rfl,iQ,_,_,_,rfl,rfl,a4.of (gQ _ _ n0),rfl,_,rfl,la,D,_,_,rfl,gQ _ _ kz,jh,λ xe gS=>?_⟩;refine CQ (K:=K) (f:=hS) (σ0:=[]) (xs:=t0) (ys:=List.zipWith gV t0 t1) (by rw [vE,uW,sizeLine_eq];decide) ⟨_,_,rfl⟩ gS (gQ _ _ kz) jh (λ x y H' R _ _ r=>⟨_,rfl,_,rfl,_,_,rfl,rfl,r⟩) λ nh hE ov=>?_
     have LY:=Nat.le_trans (HD t0 t1 Po) Pn;have Pk:=Nat.le_trans (IQ t0 t1 Pm) Pp;refine ⟨xe,_,rfl,ov,by rw [List.length_zipWith,vE,uW];rfl,Gk (λ e he=>RE he) (by rw [zW];exact LY) (by decide),λ t4 lb=>?_⟩;have sN:=(gQ.trans hE).trans lb;have ab7:f_≠a:=vA;have zK:ej f_=some (.lst ys):=jf _ _ vA Qz (cp _ _ s7);refine ⟨_,rfl,.inl ⟨rfl,_,a4.of (sN _ _ zK)⟩,_,rfl,_,rfl,iQ,_,_,_,rfl,rfl,a4.of (sN _ _ n0),rfl,_,rfl,dZ,D,_,_,rfl,sN _ _ dt,lb _ _ (hE _ _ jh),λ pH mC=>?_⟩;refine CQ (K:=K) (f:=hS) (σ0:=[]) (xs:=t1) (ys:=List.zipWith gV t0 t1) (by rw [vF,uW,sizeLine_eq];decide) ⟨_,_,rfl⟩ mC (sN _ _ dt) (lb _ _ (hE _ _ jh)) (λ x y H' R _ _ r=>⟨_,rfl,_,rfl,_,_,rfl,rfl,r⟩) λ pJ sB fj=>?_
     refine ⟨pH,_,rfl,fj,by rw [List.length_zipWith,vF,uW];rfl,Gk (λ e he=>RF he) (by rw [zX];exact Pk) (by decide),λ aaR LW=>?_⟩;have Ph:=(sN.trans sB).trans LW;refine ⟨eB,λ xW aaS aaT LX cV=>?_⟩;have ve:=Ph.trans LX;refine ⟨f_,ys,_,rfl,rfl,ve _ _ zK,by rw [sizeLine_eq];omega,λ Lj xp hZ=>?_⟩;rw [zW,zX] at cV;have keep : ∀ c o,c≠a->c≠f_->bH c=some o->Lj c=some o:=λ c o na nm e =>
      xp _ _ nm (ve _ _ (jf _ _ na (λ z=>by rw [z,pO] at e;cases e) (cp _ _ e)))
     refine ⟨kh,ys++[.ref xW],_,_,_,_,_,_,_,rfl,λ c o na e=>keep c o na (λ z=>by rw [z,MJ] at e;cases e) (d6 c o na e),xp _ _ vA.symm (ve _ _ r6),hZ,by rw [List.length_append,fK];rfl,λ y aL=>?_⟩;rcases List.mem_append.mp aL with c9 | c9
     ·obtain ⟨c,k_,nr,rfl,ao,f⟩:=yU y c9;exact ⟨c,k_,nr,rfl,keep _ _ (dN ao jV nofun) (dN ao s7 nofun) ao,f⟩
     ·rw [List.mem_singleton] at c9;subst c9;exact ⟨xW,_,_,rfl,xp _ _ (dN cV (ve _ _ zK) nofun) cV,JR (by omega) (by omega)⟩
  ·rintro σ bH ⟨jk,ys,pW,pX,pY,u8,pZ,nR,nS,rfl,d6,jV,s7,fK,yU⟩;refine ⟨_,rfl,f_,ys,rfl,a4.of s7,λ fT dD pO cp dV=>?_⟩;refine q fT dD jk ys (d6.trans (b3.of cp)) (cp _ _ jV) dV (by rw [fK];omega) (by rw [fK];omega) λ x ah=>?_
   obtain ⟨c,k_,nr,rfl,ao,f⟩:=yU x ah;exact ⟨c,k_,nr,rfl,cp _ _ ao,f⟩
end
theorem IS {c d:Nat} (h:c≠d) : ∀ (l:List Str),(∀ y∈l,ef c y)->ef c (Str.join (bV d) l)
 | [],_=>by intro z;cases z
 | [x],g=>g x (by simp)
 | x::y::r,g=>by
  rw [kV];exact ((g x (by simp)).app (by unfold ef;rw [show du (bV d)=[d] from rfl];simpa using h)).app (IS h (y::r) λ z aN=>g z (by simp only [List.mem_cons] at aN ⊢;exact .inr aN))
theorem FZ {es:List Int} (cU:es.length=10) (dr : ∀ e∈es,0<=e/\e<10 ^ 60):ef 32 (dm (bN es))/\0<(dm (bN es)).length/\(dm (bN es)).length<=1000:=by
 refine ⟨?_,?_,Nat.le_trans (tq cU dr) (by decide)⟩
 ·unfold dm;split
  ·unfold ef;decide
  ·refine IS (by decide) _ λ y aL=>?_
   obtain ⟨f,hm,rfl⟩:=List.mem_map.mp (show y∈(ht (bN es)).map λ p=>gu p.1 p.2 from aL);have:=TO f hm;exact ((kT this.1 (by omega)).app (by unfold ef du;decide)).app (kT this.2 (by omega))
 ·unfold dm;split
  ·decide
  ·next aC =>
   refine Nat.pos_of_ne_zero λ z=>aC ((U_ UC).mp (qQ ?_))
   rw [<-px] at z;rw [List.length_eq_zero_iff.mp z];rfl
theorem BH {ak:List (Int×Int)} (h:1<=ak.length):("program " : Str)++Str.join (bV 32) (eL ak)=Str.join (bV 32) (("program" : Str)::eL ak):=by
 match ak,h with
 | f::r,_ =>
  rw [show (("program" : Str)::eL (f::r))=("program" : Str)::my f.1 f.2::eL r from rfl,kV,show ("program " : Str)=("program" : Str)++bV 32 by decide +kernel];rfl
theorem Sd {ak:List (Int×Int)} (uL:ak.length<=16) (hf : ∀ f∈ak,fx f.1 f.2=true):p5 (("program" : Str)::eL ak):=by
 have au:(("program" : Str)::eL ak).length<=17:=by rw [List.length_cons,List.length_map];omega
 refine ⟨by simp,by omega,λ y aL=>?_,?_⟩
 ·rcases List.mem_cons.mp aL with rfl | aL
  ·exact ⟨by unfold ef;decide +kernel,by decide +kernel⟩
  ·obtain ⟨f,hm,rfl⟩:=List.mem_map.mp aL;have:=tB (hf f hm);refine ⟨HU (by omega) (by omega),?_⟩;show 0<(bu f.1++bV 47++bu f.2).length;rw [len_app,len_app];have:=Gy (n:=f.1) (by omega);omega
 ·have:=wz 32 (("program" : Str)::eL ak) (B:=27) λ y aL=>by
   rcases List.mem_cons.mp aL with rfl | aL
   ·decide +kernel
   ·exact v9 hf y aL
  have:=Nat.mul_le_mul_right (27+1) au;omega
theorem z5 (a b iK x:Str) (h:iK=a++bV 32++(b++bV 32)):iK++x=Str.join (bV 32) [a,b,x]:=by
 rw [kV,kV,show Str.join (bV 32) [x]=x from rfl,h,Ab,Ab]
theorem HV {H:aj} {xs:List V} {ak:List (Int×Int)} (h:eC H xs ak):h7 H xs ak /\ ∀ f∈ak,fx f.1 f.2=true:=by
 refine ⟨⟨h.1,λ k x ah=>?_⟩,λ f hf=>?_⟩
 ·obtain ⟨i,j,c,aE,aI,cx,_⟩:=h.2 k x ah;exact ⟨c,i,j,aI,cx,aE⟩
 ·obtain ⟨k,aB⟩:=List.getElem?_of_mem hf;have au:=(List.getElem?_eq_some_iff.mp aB).1;rw [<-h.1] at au;obtain ⟨i,j,c,aE,aI,cx,gN⟩:=h.2 k _ (List.getElem?_eq_getElem au);rw [aB] at aE;cases aE;exact gN
theorem SN {R:List (List Int)} {m j:Nat} {p q:List Int} (h:goN R j p=some q) (bj:j<=m):j<=(fM R m p).length:=by
 rcases Nat.lt_or_ge (fM R m p).length j with au | au
 ·exfalso;have e:=AU R m p (fM R m p).length;rw [List.getElem?_eq_none (Nat.le_refl _),if_pos (by omega)] at e;obtain ⟨a6,af⟩:=A2 h (fM R m p).length (by omega);obtain ⟨b0,aq⟩:=A2 h ((fM R m p).length+1) (by omega);rw [af] at e;have b5:cv R a6=none:=e.symm;rw [wi,af,Option.bind_some,wJ,Bh b5] at aq;cases aq
 ·exact au
theorem Wc {R:List (List Int)} {m j:Nat} {p q:List Int} (h:goN R j p=some q) (ar:cv R q=none):(fM R m p).length<=j:=by
 rcases Nat.lt_or_ge j (fM R m p).length with au | au
 ·exfalso;have e:=AU R m p j;rw [List.getElem?_eq_getElem au] at e;split at e
  ·rw [h,Option.bind_some,ar] at e;cases e
  ·cases e
 ·exact au
noncomputable def rN (H H':aj):Prop := ∀ c xs,H c=some (.tup xs)->H' c=some (.tup xs)
theorem eC.nI {H H':aj} {xs:List V} {ak:List (Int×Int)} (h:eC H xs ak) (k:rN H H'):eC H' xs ak:=⟨h.1,λ i x ah=>by
 obtain ⟨a,b,c,af,aq,aF,aU⟩:=h.2 i x ah;exact ⟨a,b,c,af,aq,k _ _ aF,aU⟩⟩
theorem a4.f_ {K:PySem.W.Frag} {H H':aj} {a:Addr} {xs:List V} (cG:a4 K H a xs) (s:aD H H'):a4 K H' a xs:=by
 rcases cG with (h | ⟨u,h⟩) | h
 ·exact .inl (.inl (s _ _ h))
 ·exact .inl (.inr ⟨u,s _ _ h⟩)
 ·exact .inr h
section
variable {P:Program} {w:World} {K:PySem.W.Frag} {mg:Str->Option Value} {base:Heap}
structure jJ (T:bt K mg) (g8:aj) (pt d8 ln bL aG bn pr hd dl:Addr) (xs zs:List V) (ak:List (Int×Int)) (es:List Int) (H:aj) (kvs:List (Key×V)) (ds:List V):Prop where
 D:pf T H bL aG bn pr hd dl zs ak kvs ds
 hQ : ∃ n:Int,H pt=some (.lst [.int n])
 sJ:pt≠dl
 jY:H d8=some (.tup xs)
 f:eC H xs ak
 ib:H ln=some (tupI es)
 old:aD g8 H
 f1:g8 pt=none
 f2:g8 hd=none
 c2:g8 dl=none
variable {T:bt K mg} {g8 H H':aj} {pt d8 ln bL aG bn pr hd dl:Addr} {xs zs:List V} {ak:List (Int×Int)} {es:List Int} {kvs vy:List (Key×V)} {ds uK:List V}
theorem jJ.same (d:jJ T g8 pt d8 ln bL aG bn pr hd dl xs zs ak es H kvs ds) (s:aD H H'):jJ T g8 pt d8 ln bL aG bn pr hd dl xs zs ak es H' kvs ds :=
 ⟨d.D.same s,let ⟨n,h⟩:=d.hQ;⟨n,s _ _ h⟩,d.sJ,s _ _ d.jY,d.f.same s,s _ _ d.ib,d.old.trans s,d.f1,d.f2,d.c2⟩
theorem jJ.Ez (d:jJ T g8 pt d8 ln bL aG bn pr hd dl xs zs ak es H kvs ds) (b:b3 pt H H') {bS:Int} (h':H' pt=some (.lst [.int bS])):rN H H'/\jJ T g8 pt d8 ln bL aG bn pr hd dl xs zs ak es H' kvs ds:=by
 obtain ⟨n,ay⟩:=d.hQ;have kt:rN H H':=λ c xs e=>b _ _ (dN e ay nofun) e
 obtain ⟨iU,aa⟩:=d.D.B.at_;exact ⟨kt,⟨b _ _ (dN d.D.bL ay nofun) d.D.bL,⟨⟨iU,b _ _ (dN aa ay nofun) aa⟩,b _ _ (dN d.D.B.hd ay nofun) d.D.B.hd,b _ _ (Ne.symm d.sJ) d.D.B.dl⟩,kt _ _ d.D.pr,d.D.f.nI kt,d.D.l⟩,
  ⟨_,h'⟩,d.sJ,kt _ _ d.jY,d.f.nI kt,kt _ _ d.ib,λ c o e=>b _ _ (b2 e d.f1) (d.old _ _ e),d.f1,d.f2,d.c2⟩
theorem jJ.zz (d:jJ T g8 pt d8 ln bL aG bn pr hd dl xs zs ak es H kvs ds) (b:uz hd dl H H') (B:gk T H' bn pr hd dl vy uK):rN H H'/\jJ T g8 pt d8 ln bL aG bn pr hd dl xs zs ak es H' vy uK:=by
 obtain ⟨n,ay⟩:=d.hQ;have bI:=d.D.B.hd;have au:=d.D.B.dl;have kt:rN H H':=λ c xs e=>b _ _ (dN e bI nofun) (dN e au nofun) e
 exact ⟨kt,⟨b _ _ (dN d.D.bL bI nofun) (dN d.D.bL au nofun) d.D.bL,B,kt _ _ d.D.pr,d.D.f.nI kt,d.D.l⟩,
  ⟨n,b _ _ (dN ay bI nofun) d.sJ ay⟩,d.sJ,kt _ _ d.jY,d.f.nI kt,kt _ _ d.ib,λ c o e=>b _ _ (b2 e d.f2) (b2 e d.c2) (d.old _ _ e),d.f1,d.f2,d.c2⟩
theorem ON:vJ "one" := ⟨by unfold rF;decide +kernel,by decide +kernel,by decide +kernel,by decide +kernel⟩
theorem OO:vJ "two" := ⟨by unfold rF;decide +kernel,by decide +kernel,by decide +kernel,by decide +kernel⟩
theorem qh:oJ "one" := ⟨by unfold ef;decide +kernel,by decide +kernel,by decide +kernel⟩
theorem Ex:oJ "two" := ⟨by unfold ef;decide +kernel,by decide +kernel,by decide +kernel⟩
theorem QC (x:Str) (v u:V):putK [(dc x,v)] (dc x) u=[(dc x,u)]:=by
 unfold putK;rw [if_pos (by rw [tx,jF rfl];rfl)];show [if dc x=dc x then (dc x,u) else (dc x,v)]=_;rw [if_pos rfl]
theorem qt (x:Str) (v:V):cE [(dc x,v)] (dc x)=some v:=jF rfl
end
section
variable {P:Program} {w:World} {K:PySem.W.Frag} {mg:Str->Option Value} {base:Heap}
noncomputable abbrev vx:Nat:=13
noncomputable def wc (K:PySem.W.Frag):bF:=λ vs H Q _ => ∃ (a:Addr) (ns:List Int),vs=[.ref a]/\a4 K H a (ns.map V.int)/\ns.length<=63 /\ ∀ H',Q (.ba true) H'
theorem RV (T:bt K mg) {f:Addr} {fd:FuncData} (F:hI K "law" "law" Aa f fd):d3 P w K mg base bX vx f fd ["script"] (wc K):=by
 refine F.cD hX (λ vs H Q E h=>?_) (λ a5 A outer s H vs Q E ar h=>?_)
 ·obtain ⟨a,ns,rfl,_⟩:=h;rfl
 ·obtain ⟨a,ns,rfl,cG,hlen,q⟩:=h;refine ⟨_,(aK (fZ PassesOwn.never rfl (jb rfl T.iw (ai (cL (tA rfl) T.n4 n2 (ai aV (ai (cL (Br rfl) T.qE qx (ai (cL g7 T.fy fw (ai (ae 0) az)) (ai aV az))) az))) az)) (eD 1 hX)
    (aK (bq 2 hX (bw (Vq T) ar a9 (ai (bw (Zp T) ar a9 (ai (ae 0) (ai (ae 1) az))) az)))
   (aK (bq 3 hX (bw (Y1 T) ar a9 (ai (ae 2) az)))
   (aK (bq 4 hX (bw (aaE T) ar a9 (ai (ae 2) (ai (ae 3) (ai aV az)))))
   (aK (bq 5 hX (bw (W9 T) ar a9 (ai (ae 2) (ai (ae 3) (ai aV az)))))
   (aK (bq 6 hX (Ib T.q3.at_ (Kd T) (ar.mono (by decide)) rfl T.Gu T.q3.bd .nil a9))
   (aK (hB (gj (ae 6) T.il T.fA.at_ (kY T) (ar.mono (by decide)) T.fA.bd .nil a9 (ai (bU lY cF (bw (Js T) ar a9 (ai (ae 4) az))) az)))
   (aK (hB (gj (ae 6) T.il T.fA.at_ (kY T) (ar.mono (by decide)) T.fA.bd .nil a9 (ai (bU lY cF (bw (oe T) ar a9 (ai (ae 5) az))) az)))
   (aK (bq 7 hX (cL g7 T.fy fw (ai (bw (Vs T) ar a9 (ai (ae 4) (ai (ae 5) (ai aV az)))) az)))
   (aK (bq 8 hX aV)
   (aK (fZ PassesOwn.never rfl (jb rfl T.iw (ai aV az)) (eD 9 hX)
    (aK (bq 10 hX (bw (l4 T) ar a9 (ai (ae 2) (ai aV az))))
   (aK (bq 11 hX (cL (Br rfl) T.qE qx (ai (ae 10) (ai (bU i9 (ae 7) (ae 8)) az))))
   (aK (b7 (bO ik (gj (ae 6) T.il T.fA.at_ (kY T) (ar.mono (by decide)) T.fA.bd .nil a9 (ai (bU lY cF (fX tO T.kQ kO (ai (ae 10) az))) az)) (fX tO T.kQ kO (ai (ae 11) az)) (bM _))
    (aP (bx i7))
    b8)
   (aP (bq 8 hX (bU ff (ae 8) (ae 11))))))))
   (aK (bq 12 hX (bw (Vp T) ar a9 (ai (ae 4) (ai (ae 5) (ai (ae 8) az)))))
   (aK (bq 13 hX (bw (l4 T) ar a9 (ai (ae 2) (ai aV az))))
   (aK (b7 (eG.pt (fY (bO ik (gj (ae 6) T.il T.fA.at_ (kY T) (ar.mono (by decide)) T.fA.bd .nil a9 (ai cF az)) (bw (oe T) ar a9 (ai (ae 12) az)) (bM _)) (hz (bO ik (gj (ae 6) T.il T.fA.at_ (kY T) (ar.mono (by decide)) T.fA.bd .nil a9 (ai cF az)) (fX tO T.kQ kO (ai (ae 8) az)) (bM _)))))
    (aP (bx i7))
    b8)
   (aK (b7 (gz (f3 (bw (Jr T) ar a9 (ai (ae 6) (ai cF (ai (ae 4) (ai (ae 12) (ai (ae 13) az))))))))
    (aP (bx i7))
    b8)
   (aP (b7 (bO F1 (cL (Bq rfl) T.n4 n2 (ai (ae 12) az)) (bU v8 aV aV) (bM _))
    (aK (bq 14 hX (Ib T.q3.at_ (Kd T) (ar.mono (by decide)) rfl T.Gu T.q3.bd .nil a9))
   (aK (hB (gj (ae 14) T.il T.fA.at_ (kY T) (ar.mono (by decide)) T.fA.bd .nil a9 (ai (bU lY cF (bw (Js T) ar a9 (ai (ae 4) az))) az)))
   (aK (hB (gj (ae 14) T.il T.fA.at_ (kY T) (ar.mono (by decide)) T.fA.bd .nil a9 (ai (bU lY cF (gj (ae 6) T.il T.fA.at_ (kY T) (ar.mono (by decide)) T.fA.bd .nil a9 (ai cF az))) az)))
   (aP (b7 (eG.pt (fY (gz (f3 (bw (Jr T) ar a9 (ai (ae 14) (ai cF (ai (ae 4) (ai (ae 12) (ai (ae 13) az)))))))) (hz (bO ik (gj (ae 14) T.il T.fA.at_ (kY T) (ar.mono (by decide)) T.fA.bd .nil a9 (ai cF az)) cF (bM _)))))
    (aP (bx i7))
    b8)))))
    b8)))))))))))))))))
   (aP (bx i7))),?_⟩
  refine ⟨_,rfl,a,_,rfl,.inl cG,_,_,rfl,_,_,rfl,?_⟩;generalize hm:(if (if (6:Int)<((ns.map V.int).length:Int) then (6:Int) else ((ns.map V.int).length:Int)) > 1 then (if (6:Int)<((ns.map V.int).length:Int) then (6:Int) else ((ns.map V.int).length:Int)) else 1)=m;have abv:0<=m/\m<=6:=by
   rw [<-hm];split<;>split<;>omega
  have hsz : ∀ {n:Nat},n<=1000000->n<=sizeLine:=λ {n} h=>by rw [sizeLine_eq];omega
  refine ⟨m,rfl,by omega,by omega,jG (n:=m.toNat) (λ i σ aw=>(∃ gp h4 lg mi pW pX pY u8 pZ nR nS ER ES ET:Option V,σ=[some (.ref a),gp,h4,lg,mi,pW,pX,pY,u8,pZ,nR,nS,ER,ES,ET])/\a4 K aw a (ns.map V.int)) ⟨⟨none,none,none,none,none,none,none,none,none,none,none,none,none,none,rfl⟩,cG⟩ ?_ ?_⟩
  ·rintro i σ aw ax ⟨⟨gp,h4,lg,mi,pW,pX,pY,u8,pZ,nR,nS,ER,ES,ET,rfl⟩,uP⟩;refine ⟨_,rfl,_,rfl,a,ns,_,rfl,uP,by omega,λ c=>⟨c,rfl,λ n pt hQ=>?_⟩⟩;refine ⟨_,rfl,pt,n,rfl,br,λ pl aH e9 ag dU p9 y3 dZ aaX hm=>?_⟩;refine ⟨_,rfl,_,rfl,pt,pl,e9,8,ag,rfl,p9,y3,dZ,by omega,hm,by decide,by decide,λ d8 aX gn xs fh jU jY eJ abW ft=>?_⟩;have Qx:pl≠pt:=dN y3 p9 nofun;obtain ⟨ak,P2⟩:=G7 ft;have abz:xs.length<=8:=by omega
   have OQ:d8≠pt:=dN jY jU nofun;refine ⟨_,rfl,_,rfl,pt,pl,gn,8,ag,rfl,jU,fh _ _ Qx y3,by omega,hm,by decide,by decide,λ ln bH jk es d6 jV ib mX dr=>?_⟩;have d1:nn es=true:=i8.mpr λ e he=>(dr e he).1
   have FQ : ∀ e∈es,0<=e/\e<10 ^ 60:=λ e he=>⟨(dr e he).1,by have:=(dr e he).2;omega⟩
   have Fh:bH d8=some (.tup xs):=d6 _ _ OQ jY;have zH:eC bH xs ak:=P2.but jU d6;have fj:=(dU.trans fh).trans d6;have ri:aD aw bH:=λ cj o e=>fj cj o (b2 e hQ) (by rw [a3 (b2 e hQ)];exact e)
   refine λ bL aG jN fd eS=>⟨bL,aG,rfl,br,rfl,?_⟩
   obtain ⟨dD,yt⟩ : ∃ dD,dD=upd (upd (upd bH aG (.own bL)) bL (.ins T.hy aG [])) bL (.ins T.hy aG [("bench", .bp)]):=⟨_,rfl⟩
   rw [<-yt];have xn:aD bH dD:=λ cj o e=>by
    rw [yt,a3 (b2 e jN),a3 (b2 e jN),a3 (b2 e fd)];exact e
   have Fd:dD bL=some (.ins T.hy aG [("bench", .bp)]):=by rw [yt];exact br
   obtain ⟨Nt,r_⟩:=HV (zH.same xn);have abo:ak.length=xs.length:=zH.1.symm;have hw:=Sd (by omega) r_;have iZ:=hw.2.2.2;rw [<-BH (by omega),len_app] at iZ;refine ⟨_,rfl,bL,aG,_,rfl,Fd,rfl,_,rfl,d8,xs,ak,rfl,xn _ _ Fh,by omega,Nt,r_,λ ej fm=>⟨"program ", _,rfl,rfl,hsz (by omega),?_⟩⟩;rw [BH (by omega)];refine ⟨bL,aG,.bp,_,rfl,hw,fm _ _ Fd,.inl ⟨ak,rfl,by omega,by omega,r_,λ pr bn hd dl zs l9 Ll PX Lg oR mw abl Qb NM Qm=>?_⟩⟩;have yn:=xn.trans fm;have DQ:=ri.trans yn;have nb : ∀ {cj:Addr} {H:aj},aD aw H->H cj=none->aw cj=none:=λ {cj H} s h=>by
    cases e:aw cj with
    | none=>rfl
    | some o=>rw [s _ _ e] at h;cases h
   have rU:aD bH l9:=λ cj o e=>Ll _ _ (b2 e jN) (yn _ _ e)
   have xg:jJ T aw pt d8 ln bL aG bn pr hd dl xs zs ak es l9 [] []:=⟨⟨PX,Lg,Qb,NM,Qm⟩,⟨_,rU _ _ jV⟩,b2 (yn _ _ jV) mw,rU _ _ Fh,zH.same rU,rU _ _ ib,ri.trans rU,hQ,nb DQ oR,nb DQ mw⟩
   have si:=FZ mX FQ;refine ⟨_,rfl,bL,aG,_,rfl,xg.D.bL,rfl,_,rfl,ln,es,rfl,xg.ib,mX,FQ,λ nh hE=>⟨"put one ", _,rfl,rfl,hsz (by have:=si.2.2;show 8+_<=_;omega),?_⟩⟩;have Dk:=xg.same hE;unfold kM;refine vD Dk.D (d2:=.oy es) qh si ⟨rfl,mX,λ e he=>⟨(dr e he).1,by have:=(dr e he).2;omega⟩⟩ (λ l z ux O8 cU aN=>?_) (z5 "put" "one" "put one " _ (by decide +kernel));obtain ⟨p,rfl,ay⟩:=aN;have ya:=Dk.same O8;refine ⟨bn,l,pr,hd,dl, "put", _,[],[],rfl,cU,ya.D.B,.inl ⟨rfl, "one", p,rfl,bn,pr,hd,dl,p,[],[], "one", es,rfl,ya.D.B,by show 0<12;decide,by show 0<=1000;decide,ON,ay,mX,λ e he=>⟨(dr e he).1,by have:=(dr e he).2;omega⟩,λ t jl oE Qp Qh ab3 Ma=>?_⟩⟩;obtain ⟨Ow,uv⟩:=ya.zz Qp Ma;refine ⟨_,rfl,_,rfl,d8,ln,xs,ak,es,60,rfl,uv.jY,uv.f,by omega,uv.ib,mX,by decide,by decide,λ a8 ye abj o7 aR=>⟨a8,_,rfl,.inl (a4.of aR),?_⟩⟩;have Me:=uv.same o7;have ue:((gi (fM (rowsOf ak) (60:Int).toNat es)).map V.int).length=(fM (rowsOf ak) 60 es).length:=by
    rw [List.length_map];unfold gi;rw [List.length_map];rfl
   rw [ue];obtain ⟨L,dK⟩ : ∃ L,L=(fM (rowsOf ak) 60 es).length:=⟨_,rfl⟩
   rw [<-dK];have abh:L<=60:=by rw [dK];exact HC _ _ _
   refine ⟨3,rfl,by decide,by decide,jG (n:=3) (λ j σ H => ∃ (st:Nat) (cur:List Int) (fH a2:Addr) (ds:List V) (v1 v2 uq v4 xZ v6:Option V),σ=[some (.ref a),some (.int (0+(i:Int))),some (.ref pt),some (.ref pl),some (.ref d8),some (.ref ln),some (.ref bL),some (.int (L:Int)),some (.int (st:Int)),v1,v2,uq,v4,xZ,v6] /\
    jJ T aw pt d8 ln bL aG bn pr hd dl xs zs ak es H [(dc "one", .ref fH)] ds/\H fH=some (.tup [.ref a2,.int (st:Int)])/\H a2=some (tupI cur)/\goN (rowsOf ak) st es=some cur/\st<=20 * j/\ds.length<=1+j) ⟨0,es,jl,p,_,_,_,_,_,_,_,rfl,Me,o7 _ _ Qh,o7 _ _ (Ow _ _ ay),rfl,by omega,by show 1<=_;omega⟩ ?_ ?_⟩
   ·rintro j σ H bj ⟨st,cur,fH,a2,ds,v1,v2,uq,v4,xZ,v6,rfl,D,y7,eK,gU,cC,jX⟩;obtain ⟨bS,oZ⟩:=D.hQ;refine ⟨_,rfl,pt,bS,21,rfl,oZ,by decide,by decide,λ r dp Mj md bG Mr hP=>?_⟩;obtain ⟨En,p2⟩:=D.Ez Mr hP;have ij:=m3 (jH ak) mX d1 gU;refine ⟨_,rfl,_,rfl,_,rfl,_,_,rfl,rfl,_,_,rfl,?_⟩;obtain ⟨xt,yO⟩ : ∃ xt,xt=(if ((L:Int) - (st:Int))<r then ((L:Int) - (st:Int)) else r):=⟨_,rfl⟩
    rw [<-yO];have uZ:=Er md (by omega);refine ⟨_,rfl,bL,aG,_,rfl,p2.D.bL,rfl,_,rfl,r,rfl,vQ (by omega), "run one ", bu r,rfl,rfl,hsz (by have:=uZ.2.2;show 8+_<=_;omega),?_⟩;refine vD p2.D (d2:=.b1 r) qh uZ ⟨.inl rfl,md,by omega⟩ (λ l z Mk zo yz aN=>?_) (z5 "run" "one" "run one " _ (by decide +kernel));cases aN;have hH:=p2.same zo;refine ⟨bn,l,pr,hd,dl, "run", _,_,_,rfl,yz,hH.D.B,.inr (.inr (.inl ⟨rfl, "one", r,rfl,bn,pr,hd,dl,_,ds, "one", fH,a2,zs,ak,cur,(st:Int),r,rfl,hH.D.B,by show 1<=100;decide,by omega,hH.D.pr,hH.D.f,by have:=hH.D.l;omega,qt _ _,zo _ _ (En _ _ y7),zo _ _ (En _ _ eK),ij.1,ij.2,md,by omega,λ k bY b0 km t3 Ml aB NQ NV Qq y4 Oh abx Mb=>⟨k,rfl,by omega,λ Mm sM=>?_⟩⟩))⟩;obtain ⟨abD,uw⟩:=hH.zz Qq Mb;rw [QC] at uw;have DD:=uw.same sM;have sd:goN (rowsOf ak) (st+k) es=some bY:=by rw [<-U7 gU];exact NQ
    have Ea:st+k<=L:=by rw [dK];exact SN sd (by omega)
    have xx:xt=(k:Int):=by
     rcases NV with h | h
     ·rw [yO];split<;>omega
     ·have:=Wc (m:=60) sd h;rw [<-dK] at this;rw [yO];split<;>omega
    rw [xx];refine ⟨_,rfl,_,rfl,vQ (by omega),rfl,_,rfl,?_⟩;rw [decide_eq_true (show V.str (bu (k:Int))=V.str (Str.ofString (toString (k:Int))) from rfl)];refine bB ⟨_,rfl,_,rfl,_,_,rfl,rfl,st+k,bY,km,b0,_,_,_,_,_,_,_,rfl,DD,?_,sM _ _ y4,sd,by omega,?_⟩
    ·rw [Int.natCast_add];exact sM _ _ Oh
    ·rw [List.length_append];show _+1<=_;omega
   ·rintro σ H ⟨st,cur,fH,a2,ds,v1,v2,uq,v4,xZ,v6,rfl,D,y7,eK,gU,cC,jX⟩;have ij:=m3 (jH ak) mX d1 gU;have r7:=v3 (pv D.f) (λ e he=>(dr e he).2) gU;have nC : ∀ e∈cur,0<=e/\e<=1000000000:=λ e he=>⟨i8.mp ij.2 e he,by have:=r7 e he;omega⟩
    have Fb : ∀ e∈cur,0<=e/\e<10 ^ 60:=λ e he=>⟨(nC e he).1,by have:=(nC e he).2;omega⟩
    refine ⟨_,rfl,_,rfl,_,rfl,d8,ln,xs,ak,es,cur,(st:Int),rfl,D.jY,D.f,by omega,D.ib,mX,d1,by omega,by omega,by rw [Int.toNat_natCast];exact gU,λ nw Mj kF uZ=>?_⟩;have p2:=D.same kF;obtain ⟨bS,oZ⟩:=p2.hQ;refine ⟨_,rfl,pt,bS,101,rfl,oZ,by decide,by decide,λ mo dp Mk md bG Ms hP=>?_⟩;obtain ⟨zb,hH⟩:=p2.Ez Ms hP;have vw:=zb _ _ (kF _ _ y7);have vq:=zb _ _ (kF _ _ eK);have vr:=zb _ _ uZ;refine ⟨_,rfl,bL,aG,_,rfl,hH.D.bL,rfl,?_⟩;unfold vV gR;refine vC hH.D (r := "show one") (w0 := "show") qh λ l Ml vc yA=>?_
    have uw:=hH.same vc;refine ⟨bn,l,pr,hd,dl, "show", _,_,_,rfl,yA,uw.D.B,.inr (.inr (.inr ⟨"one", fH,a2,st,cur,qt _ _,vc _ _ vw,vc _ _ vq,ij.1,nC,by omega,by omega,.inr (.inl ⟨rfl,rfl,λ Mm sM=>?_⟩)⟩))⟩;have yl:=vc.trans sM;have DD:=hH.same yl;refine ⟨_,rfl,nw,cur,rfl,yl _ _ vr,ij.1,Fb,λ aa7 O9=>?_⟩;have DO:=yl.trans O9;have DE:=hH.same DO;refine ⟨rfl,_,rfl,?_⟩;rw [decide_eq_true rfl];refine bB ⟨_,rfl,bL,aG,_,rfl,DE.D.bL,rfl,?_⟩;refine vC DE.D (r := "gone one") (w0 := "gone") qh λ l aa8 O_ yB=>?_
    have uD:=DO.trans O_;have Mf:=hH.same uD;refine ⟨bn,l,pr,hd,dl, "gone", _,_,_,rfl,yB,Mf.D.B,.inr (.inr (.inr ⟨"one", fH,a2,st,cur,qt _ _,uD _ _ vw,uD _ _ vq,ij.1,nC,by omega,by omega,.inl ⟨rfl,rfl,λ aa9 Pa=>?_⟩⟩))⟩;have rT:=uD.trans Pa;have yb:=hH.same rT;refine ⟨_,rfl,_,rfl,vQ (by omega),rfl,_,rfl,?_⟩;rw [decide_eq_true (show V.str (bu (st:Int))=V.str (Str.ofString (toString (st:Int))) from rfl)];refine bB ⟨_,rfl,_,rfl,_,rfl,_,rfl,bL,aG,bn,pr,hd,dl,d8,nw,fH,a2,zs,xs,ak,_,ds, "one", (st:Int),mo,cur,rfl,yb.D,qh,yb.jY,yb.f,rT _ _ vr,qt _ _,rT _ _ vw,rT _ _ vq,ij.1,nC,by omega,by omega,md,by omega,λ yf Pb=>?_⟩;have ym:=rT.trans Pb;have rH:=hH.same ym;refine ⟨_,rfl,bB ⟨_,rfl,nw,cur,rfl,aW.of (ym _ _ vr),by intro z;rw [z] at ij;exact absurd ij.1 (by decide),λ M k9 hle=>?_⟩⟩;refine ⟨10,6,rfl,rfl,⟨by decide,by decide,by decide⟩,_,_,rfl,rfl,_,rfl,?_⟩;rw [show (10:Int) ^ (6:Int).toNat=1000000 by decide];by_cases D1:M<=1000000
    ·rw [decide_eq_true D1];refine c6 ?_;refine λ jS iU yw MG abM=>⟨jS,iU,rfl,br,rfl,?_⟩
     obtain ⟨uy,zA⟩ : ∃ uy,uy=upd (upd (upd yf iU (.own jS)) jS (.ins T.hy iU [])) jS (.ins T.hy iU [("bench", .bp)]):=⟨_,rfl⟩
     rw [<-zA];have ED:aD yf uy:=λ cj o e=>by
      rw [zA,a3 (b2 e yw),a3 (b2 e yw),a3 (b2 e MG)];exact e
     have FO:uy jS=some (.ins T.hy iU [("bench", .bp)]):=by rw [zA];exact br
     have DF:=rH.same ED;refine ⟨_,rfl,jS,iU,_,rfl,FO,rfl,_,rfl,d8,xs,ak,rfl,DF.jY,by omega,(HV DF.f).1,r_,λ aa_ EE=>⟨"program ", _,rfl,rfl,hsz (by omega),?_⟩⟩;rw [BH (by omega)];refine ⟨jS,iU,.bp,_,rfl,hw,EE _ _ FO,.inl ⟨ak,rfl,by omega,by omega,r_,λ o6 mn gT oP EX DM Mt FP Mc PM E5 abX QZ P1 Q0=>?_⟩⟩;have z_:=ED.trans EE;have F6:aD yf DM:=λ cj o e=>Mt _ _ (b2 e yw) (z_ _ _ e)
     have DG:=rH.same z_;have p3:=rH.same F6;have DP:=ym.trans F6;obtain ⟨abJ,P8⟩:=rH.hQ;have Mh:jJ T aw pt d8 nw jS iU mn o6 gT oP xs EX ak cur DM [] []:=⟨⟨FP,Mc,QZ,P1,Q0⟩,p3.hQ,b2 (z_ _ _ P8) E5,p3.jY,p3.f,DP _ _ vr,p3.old,hQ,nb DG.old PM,nb DG.old E5⟩
     refine ⟨_,rfl,jS,iU,_,rfl,FP,rfl,_,rfl,bL,aG,_,rfl,p3.D.bL,rfl,?_⟩;refine vC p3.D (r := "show one") (w0 := "show") qh λ d0 aba nN yC=>?_
     have oL:=DP.trans nN;have Mg:=hH.same oL;refine ⟨bn,d0,pr,hd,dl, "show", _,_,_,rfl,yC,Mg.D.B,.inr (.inr (.inr ⟨"one", fH,a2,st,cur,qt _ _,oL _ _ vw,oL _ _ vq,ij.1,nC,by omega,by omega,.inr (.inl ⟨rfl,rfl,λ abb Pc=>?_⟩)⟩))⟩;have Fg:=FZ ij.1 Fb;have DH:=(Mh.same nN).same Pc;refine ⟨"put two ", _,rfl,rfl,hsz (by have:=Fg.2.2;show 8+_<=_;omega),?_⟩;have D5 : ∀ e∈cur,0<=e/\e<=1000000:=λ e he=>⟨(nC e he).1,by have:=hle e he;omega⟩
     refine vD DH.D (d2:=.oy cur) Ex Fg ⟨rfl,ij.1,D5⟩ (λ rt z abc Pd yD aN=>?_) (z5 "put" "two" "put two " _ (by decide +kernel));obtain ⟨cR,rfl,gG⟩:=aN;have yc:=DH.same Pd;refine ⟨mn,rt,o6,gT,oP, "put", _,[],[],rfl,yD,yc.D.B,.inl ⟨rfl, "two", cR,rfl,mn,o6,gT,oP,cR,[],[], "two", cur,rfl,yc.D.B,by show 0<12;decide,by show 0<=1000;decide,OO,gG,ij.1,D5,λ t' km abd Qr Qi ab4 Md=>?_⟩⟩;obtain ⟨Ox,rJ⟩:=yc.zz Qr Md;refine ⟨_,rfl,_,rfl,_,rfl,_,rfl,jS,iU,mn,o6,gT,oP,d8,nw,km,cR,EX,xs,ak,_,_, "two", 0,mo,cur,rfl,rJ.D,Ex,rJ.jY,rJ.f,rJ.ib,qt _ _,Qi,Ox _ _ gG,ij.1,nC,by decide,by decide,md,by omega,λ abe Pe=>?_⟩;have yd:=rJ.same Pe;refine ⟨_,rfl,bB ⟨_,rfl,jS,iU,_,rfl,yd.D.bL,rfl,?_⟩⟩;rw [show ("names" : Str)=Str.join (bV 32) ["names"] from rfl];refine ⟨jS,iU,.ref mn,["names"],rfl,QM ⟨by unfold ef;decide +kernel,by decide +kernel,by decide +kernel⟩,yd.D.bL,.inr ⟨mn, "names", [],[],rfl,rfl,by decide,by decide +kernel,rfl,by show 0<=2;decide,(λ i dW d h=>by simp at h),λ LK PC abf Pf yE fE=>?_⟩⟩;have DI:=yd.same Pf;refine ⟨mn,LK,o6,gT,oP, "names", _,_,_,rfl,yE,DI.D.B,.inr (.inl ⟨rfl, "two", rfl,by decide +kernel,λ abg Pg=>⟨rfl,_,rfl,?_⟩⟩)⟩;rw [decide_eq_true rfl];exact bB ⟨⟨_,_,_,_,_,_,_,_,_,_,_,_,_,_,rfl⟩,a4.f_ uP (DI.same Pg).old⟩
    ·rw [decide_eq_false D1];exact bB ⟨⟨_,_,_,_,_,_,_,_,_,_,_,_,_,_,rfl⟩,a4.f_ uP rH.old⟩
  ·rintro σ aw ⟨_,uP⟩;exact q aw
end
theorem all_mk {l:W.OpenLaw} {w:World} {K:W.Frag} {h:Heap} {mg:Str->Option Value} {fi q6 f6 A5 BZ Bx Cf B0 A4 A3 AE gM n6 wG tu:Addr} (X:K.In h) (G:h.Ns mainGlobals mg) (NN:mg "law" = some (.ref fi))
  {W3 Xj:Str} {Wu:List Value} {Xr:List Str} {YN:List Value} {Wo:Bool} {X4:Option Bool} {WI W6 Wr:Option Addr} {Yc Yd Ye Yf Yg:Option Value} {WO WH Xc IK WE:Value} {Xp:Array (Option Value)}
  {Bm:Addr} {Xz XA XB XC XD XE XF XG XH XI:Tok} {Vi:Nat} {US:Option Addr} {Xq:Array (Option Value)}
  {AZ:Addr}
  (h0:cg K "is_whole" B8)
  (af:cg K "is_powers" Co)
  (aq:cg K "powers_of" Cu)
  (aF:cg K "how_often" Cn)
  (aU:cg K "without_primes" C_)
  (bW:cg K "is_program" CF)
  (dV:cg K "is_fraction" CL)
  (rp:cg K "is_term" BL)
  (jh:cg K "changes_of" CD)
  (ov:cg K "fraction_changes" De)
  (cU:cg K "fits" Am)
  (yy:cg K "first_of" B7)
  (p7:cg K "moved" AN)
  (ML:cg K "after" AL)
  (yz:cg K "trail" AO)
  (yA:cg K "stretch_steps" C4)
  (uL:cg K "steps_to_lack" C3)
  (MM:cg K "steps_to_fit" CZ)
  (yB:cg K "leap" An)
  (MN:cg K "before" Bd)
  (MO:cg K "ahead_by" B6)
  (MP:cg K "written" BP)
  (MQ:cg K "fraction_written" Df)
  (MR:cg K "number_written" C8)
  (yC:cg K "powers_written" C9)
  (MS:cg K "power_written" C2)
  (yD:cg K "read" Ao)
  (MT:cg K "powers_read" CN)
  (MU:cg K "product_read" CX)
  (yE:cg K "pair_read" Cs)
  (MV:cg K "number_read" CM)
  (MW:cg K "is_name" BK)
  (MX:cg K "gone_on" BJ)
  (MY:cg K "fate" Al)
  (MZ:cg K "words_of" Ca)
  (M0:cg K "program_read" CY)
  (M1:cg K "parts_read" CH)
  (M3:cg K "part_read" Ct)
  (M4:cg K "put_powers_read" Dc)
  (M5:cg K "count_read" CE)
  (M6:cg K "answer" Bc)
  (M7:cg K "do_deed" BI)
  (M8:cg K "listed" Bg)
  (M9:cg K "fate_written" CW)
  (M_:cg K "_law_cell_at" Cp)
  (Na:cg K "_law_pot" AM)
  (Nb:cg K "_law_take" Bf)
  (Nc:cg K "_law_order" BM)
  (Nd:cg K "_law_places" B9)
  (DY:cg K "_law_primes" B_)
  (Nf:cg K "_law_product" Cq)
  (Ng:cg K "_law_fraction" CG)
  (Nh:cg K "_law_program" Cr)
  (Ni:cg K "_law_calm_program" C7)
  (Nj:cg K "_law_line" Be)
  (Nk:cg K "_law_shown" BN)
  (Nl:cg K "_law_tells" BO)
  (Nm:cg K "law" Aa)
  (J9:W.nsIn K mainGlobals "FractError" = some (some (.ref q6)))
  (HL:W.nsIn K mainGlobals "AtRest" = some (some (.ref f6)))
  (UM:W.nsIn K mainGlobals "NoText" = some (some (.ref A5)))
  (XX:W.nsIn K mainGlobals "NoNumber" = some (some (.ref BZ)))
  (Wn:W.nsIn K mainGlobals "TooMany" = some (some (.ref Bx)))
  (YS:W.nsIn K mainGlobals "NoProgram" = some (some (.ref Cf)))
  (XY:W.nsIn K mainGlobals "NoPowers" = some (some (.ref B0)))
  (UL:W.nsIn K mainGlobals "NoName" = some (some (.ref A4)))
  (UK:W.nsIn K mainGlobals "NoDeed" = some (some (.ref A3)))
  (SU:W.nsIn K mainGlobals "NoRow" = some (some (.ref AE)))
  (SS:W.nsIn K mainGlobals "Bench" = some (some (.ref gM)))
  (RB:W.nsIn K mainGlobals "Desk" = some (some (.ref n6)))
  (Ka:W.excIn K q6 hk "ValueError.__new__" = true)
  (KX:kc K f6 A5)
  (K9:kc K f6 BZ)
  (K2:kc K f6 Bx)
  (Ld:kc K f6 Cf)
  (K_:kc K f6 B0)
  (KW:kc K f6 A4)
  (KV:kc K f6 A3)
  (KR:kc K f6 AE)
  (IZ:K.lookup f6=some (excClassObj W3 Xj f6 tu Wu (.ref q6::hk) true Xr YN Wo X4 WI Yc Yd Ye Yf Yg "ValueError.__new__"))
  (W5:W.nsOkIn K tu=true)
  (W2:W.nsIn K tu "__init__" = some (some (.ref wG)))
  (I0:K.lookup wG=some ⟨.type "function", W6,.func (W.fnOf "__init__" "AtRest.__init__" (jE q7) (hA q7) (bA q7) .none WO WH Xc Wr IK WE),Xp⟩)
  (Wz:W.codeIn K IK "AtRest.__init__" = true)
  (WS:W.keepIn K (.ref wG)=true)
  (Wf:W.mroIn K f6 (.ref q6)=some true)
  (W0:f6≠q6)
  (XQ:W.findIn K (.ref f6) "__getattribute__" = some (some (.builtin "BaseException.__getattribute__")))
  (XR:W.findIn K (.ref f6) "__getattr__" = some none)
  (XS:W.findIn K (.ref f6) "__class__" = some (some (.builtin "object.__class__")))
  (XU:W.specialIn K (.builtin "object.__class__") "__get__" = some (some (.builtin "getset_descriptor.__get__")))
  (XW:W.takesIn K (.builtin "object.__class__")=some true)
  (Jg:W.mroIn K f6 (.type "object")=some true)
  (XT:W.mroIn K f6 (.type "BaseException")=some true)
  (Wh:W.mroIn K f6 (.type "ValueError")=some true)
  (Xl:W.findIn K (.ref f6) "__setattr__" = some (some (.builtin "object.__setattr__")))
  (WK:W.findIn K (.ref f6) "steps" = some none)
  (UO:hi K gM)
  (WY:W.makesIn K gM=true)
  (Va:W.keepIn K (.ref gM)=true)
  (Z8:W.findIn K (.ref gM) "deeds" = some none)
  (ZK:W.findIn K (.ref gM) "held" = some none)
  (aav:W.findIn K (.ref gM) "program" = some none)
  (Zj:f7 K gM "__init__" "Bench.__init__" CC)
  (YV:f7 K gM "put" "Bench.put" Cj)
  (YW:f7 K gM "run" "Bench.run" Ck)
  (Zg:f7 K gM "drop" "Bench.drop" Kg)
  (Zk:f7 K gM "undo" "Bench.undo" Kh)
  (ZJ:f7 K gM "names" "Bench.names" CK)
  (Z7:f7 K gM "powers" "Bench.powers" CV)
  (Zh:f7 K gM "gone" "Bench.gone" CA)
  (aak:f7 K gM "held_by" "Bench.held_by" C1)
  (Zf:f7 K gM "done" "Bench.done" Cz)
  (Zi:f7 K gM "hold" "Bench.hold" CB)
  (S0:hi K n6)
  (Ve:W.makesIn K n6=true)
  (S_:W.keepIn K (.ref n6)=true)
  (ZL:W.findIn K (.ref n6) "bench" = some none)
  (YX:f7 K n6 "__init__" "Desk.__init__" Cm)
  (Yi:f7 K n6 "say" "Desk.say" B5)
  (Rv:W.nsIn K mainGlobals "len" = some none)
  (ZH:W.nsIn K mainGlobals "isinstance" = some none)
  (Ru:W.nsIn K mainGlobals "int" = some none)
  (SR:W.nsIn K mainGlobals "bool" = some none)
  (UH:W.nsIn K mainGlobals "tuple" = some none)
  (UG:W.nsIn K mainGlobals "range" = some none)
  (Rw:W.nsIn K mainGlobals "max" = some none)
  (Rx:W.nsIn K mainGlobals "min" = some none)
  (Rt:W.nsIn K mainGlobals "all" = some none)
  (Rz:W.nsIn K mainGlobals "zip" = some none)
  (Ry:W.nsIn K mainGlobals "str" = some none)
  (Wl:W.nsIn K mainGlobals "sorted" = some none)
  (Za:W.nsIn K mainGlobals "enumerate" = some none)
  (YR:W.nsIn K mainGlobals "reversed" = some none)
  (ZG:W.nsIn K mainGlobals "ValueError" = some none)
  (C5 : ∃ t,W.nsIn K mainGlobals "MOST_FRACTIONS" = some (some (.int 16 t)))
  (Ce : ∃ t,W.nsIn K mainGlobals "MOST_TERM" = some (some (.int 1000000000000 t)))
  (w7 : ∃ t,W.nsIn K mainGlobals "MOST_STRETCHES" = some (some (.int 2000 t)))
  (wI : ∃ t,W.nsIn K mainGlobals "FIGURES" = some (some (.str "0123456789" t)))
  (CS : ∃ t,W.nsIn K mainGlobals "MOST_FIGURES" = some (some (.int 13 t)))
  (w1 : ∃ t,W.nsIn K mainGlobals "MOST_POWER" = some (some (.int 1000000 t)))
  (Bw : ∃ t,W.nsIn K mainGlobals "LETTERS" = some (some (.str "abcdefghijklmnopqrstuvwxyz" t)))
  (CT : ∃ t,W.nsIn K mainGlobals "MOST_LETTERS" = some (some (.int 8 t)))
  (Cx : ∃ t,W.nsIn K mainGlobals "MOST_NAMES" = some (some (.int 12 t)))
  (Cy : ∃ t,W.nsIn K mainGlobals "MOST_STEPS" = some (some (.int 400 t)))
  (BY : ∃ t,W.nsIn K mainGlobals "MOST_RUN" = some (some (.int 1000000000000000000 t)))
  (Dh : ∃ t,W.nsIn K mainGlobals "MOST_COUNT_FIGURES" = some (some (.int 19 t)))
  (nc:W.nsIn K mainGlobals "PRIMES" = some (some (.ref Bm)))
  (Wk:K.lookup Bm=some ⟨.type "tuple", US,.seq #[.int 2 Xz,.int 3 XA,.int 5 XB,.int 7 XC,.int 11 XD,.int 13 XE,.int 17 XF,.int 19 XG,.int 23 XH,.int 29 XI] Vi,Xq⟩)
  (AD:W.nsIn K mainGlobals "PARTS" = some (some (.ref AZ)))
  (UE:PyProof.Rows.KTD.tabLook (vN K) (λ b=>K.lookup b) AZ [("put", ["name", "powers"]),("drop", ["name"]),("undo", []),("run", ["name", "run count"]),("show", ["name"]),("gone", ["name"]),("names", []),("fate", ["name", "fate count"]),("ahead", ["name"])]=true) :
  ∃ fd:FuncData,(∀ (s:Shared) (v:Value),BindsTo s fd ⟨[v],[]⟩ [("script", v)]) /\ ∀ base:Heap,K.In base->base.Ns mainGlobals mg->d3 l.prog w K mg base bX vx fi fd ["script"] (wc K):=by
 obtain ⟨df,mw,al,F⟩:=Nm;have e:=NN.symm.trans (W.mg_of X G al);cases e;have IA:=Ae (st:=q7) I0 Wz WS;have T:bt K mg:=⟨h0.dd X G ec,af.dd X G ec,aq.dd X G ec,aF.dd X G gc,aU.dd X G ec,bW.dd X G ec,dV.dd X G ec,rp.dd X G ec,jh.dd X G ec,ov.dd X G ec,cU.dd X G gc,yy.dd X G gc,p7.dd X G hj,ML.dd X G hj,yz.dd X G hj,yA.dd X G hj,uL.dd X G gc,MM.dd X G hj,yB.dd X G hj,MN.dd X G gc,MO.dd X G gc,MP.dd X G ec,MQ.dd X G ec,MR.dd X G ec,yC.dd X G ec,MS.dd X G gc,yD.dd X G ec,MT.dd X G ec,MU.dd X G ec,yE.dd X G gc,MV.dd X G ec,MW.dd X G ec,MX.dd X G hj,MY.dd X G hj,MZ.dd X G ec,M0.dd X G ec,M1.dd X G ec,M3.dd X G gc,M4.dd X G ec,M5.dd X G gc,M6.dd X G hj,M7.dd X G hj,M8.dd X G ec,M9.dd X G ec,M_.dd X G gc,Na.dd X G ec,Nb.dd X G gc,Nc.dd X G gc,Nd.dd X G ec,DY.dd X G Mu,Nf.dd X G ec,Ng.dd X G gc,Nh.dd X G hj,Ni.dd X G hj,Nj.dd X G hj,Nk.dd X G ec,Nl.dd X G Mv,q6,W.mg_of X G J9,f6,W.mg_of X G HL,A5,W.mg_of X G UM,BZ,W.mg_of X G XX,Bx,W.mg_of X G Wn,Cf,W.mg_of X G YS,B0,W.mg_of X G XY,A4,W.mg_of X G UL,A3,W.mg_of X G UK,AE,W.mg_of X G SU,gM,W.mg_of X G SS,n6,W.mg_of X G RB,⟨W.mg_of X G J9,Ka⟩,wG,_,⟨W.mg_of X G HL,⟨_,_,_,_,_,_,_,_,_,_,_,_,_,_,IZ,W5,W2⟩,Ka,⟨W.BW Jg,XQ,XR,XS,XU,XW,Jg,XT⟩,Xl,⟨_,I0,rfl⟩⟩,IA,IA.binds gc,⟨⟨_,_,_,_,_,_,_,_,_,_,_,_,_,_,_,_,IZ⟩,Wf,W0⟩,WK,W.Ta Wh,W.Vb,KX.k,K9.k,K2.k,Ld.k,K_.k,KW.k,KV.k,KR.k,UO,Z8,ZK,aav,Zj.Dv WY Va gc,YV.kg hj,YW.kg hj,Zg.kg gc,Zk.kg ec,ZJ.kg ec,Z7.kg gc,Zh.kg gc,aak.kg gc,Zf.kg hj,Zi.kg hj,S0,ZL,YX.Dv Ve S_ ec,Yi.kg gc,W.mg_none_of X G Rv,W.mg_none_of X G ZH,W.mg_none_of X G Ru,W.mg_none_of X G SR,W.mg_none_of X G UH,W.mg_none_of X G UG,W.mg_none_of X G Rw,W.mg_none_of X G Rx,W.mg_none_of X G Rt,W.mg_none_of X G Rz,W.mg_none_of X G Ry,W.mg_none_of X G Wl,W.mg_none_of X G Za,W.mg_none_of X G YR,W.mg_none_of X G ZG,Bm,W.mg_of X G nc,λ H=>.inr ⟨_,_,_,Wk,rfl,rfl,eB,(.cons ⟨_,rfl⟩ (.cons ⟨_,rfl⟩ (.cons ⟨_,rfl⟩ (.cons ⟨_,rfl⟩ (.cons ⟨_,rfl⟩ (.cons ⟨_,rfl⟩ (.cons ⟨_,rfl⟩ (.cons ⟨_,rfl⟩ (.cons ⟨_,rfl⟩ (.cons ⟨_,rfl⟩ .nil))))))))))⟩,C5.imp λ _=>W.mg_of X G,Ce.imp λ _=>W.mg_of X G,w7.imp λ _=>W.mg_of X G,wI.imp λ _=>W.mg_of X G,CS.imp λ _=>W.mg_of X G,w1.imp λ _=>W.mg_of X G,Bw.imp λ _=>W.mg_of X G,CT.imp λ _=>W.mg_of X G,Cx.imp λ _=>W.mg_of X G,Cy.imp λ _=>W.mg_of X G,BY.imp λ _=>W.mg_of X G,Dh.imp λ _=>W.mg_of X G,AZ,W.mg_of X G AD,UE⟩
 have Li:=F;obtain ⟨_,_,_,_,_,_,_,_,_,rfl,_,_⟩:=F.ex;exact ⟨_,λ s v=>.of_eq rfl,λ base _ _=>RV T Li⟩
theorem walk {l:PySem.W.OpenLaw} {q:Program} {loose:List Str} {pL:(Str->Option Value)->Heap->Prop} {nk:World->Heap->Prop} {d:DefRec} {K:Params->PySem.W.Frag} (aC:l.most=some 63) (r9:d.params.defaults=[])
  (xF : ∀ (w:World) (h:Heap),nk w h->(K w.params).In h)
  (F : ∀ (w:World) (mg:Str->Option Value) (fi:Addr) (h:Heap),(K w.params).In h->h.Ns mainGlobals mg->mg d.name=some (.ref fi) ->
   ∃ fd:FuncData,(∀ (s:Shared) (u:Value),BindsTo s fd ⟨[u],[]⟩ [("script", u)]) /\ ∀ base:Heap,(K w.params).In base->base.Ns mainGlobals mg->d3 l.prog w (K w.params) mg base bX vx fi fd ["script"] (wc (K w.params))) :
  PySem.W.WalkO q loose pL nk l.row.toRowW d [] (λ f vs=>PySem.call f vs) :=
 bC.UB (n:=63) (k:=vx) (x := "script") (cc:=λ _=>bX) (sp:=λ w=>wc (K w.params)) aC (by decide) r9 ⟨rfl,by decide,by decide,rfl⟩ xF F (λ _ _ a ns au _ cG=>⟨a,ns,rfl,cG,au,λ _=>rfl⟩) λ _ _ _ _ _ z=>z
end b9
open PySem PySem.W PyProof.Rows
namespace PySem.W.Fast
theorem tw10017754228189924040:True:=trivial
theorem tw10022078482580904471:True:=trivial
theorem tw10519614876818625923:True:=trivial
theorem tw10653865684795561737:True:=trivial
theorem tw10674094948049720614:True:=trivial
theorem tw10770903554737381642:True:=trivial
theorem tw10788749218237021932:True:=trivial
theorem tw10832089441150705889:True:=trivial
theorem tw11077172367074043052:True:=trivial
theorem tw11110939406660474841:True:=trivial
theorem tw11217364960067907818:True:=trivial
theorem tw11274166574010572495:True:=trivial
theorem tw11397328994003043316:True:=trivial
theorem tw11400180437860570007:True:=trivial
theorem tw11407145043071721546:True:=trivial
theorem tw11546019657652124310:True:=trivial
theorem tw11688288847313075828:True:=trivial
theorem tw11861832457229757761:True:=trivial
theorem tw11911625077998115847:True:=trivial
theorem tw11940737295140590190:True:=trivial
theorem tw11968999677386261779:True:=trivial
theorem tw12101999460426933092:True:=trivial
theorem tw12198980864251096952:True:=trivial
theorem tw12264834452194277134:True:=trivial
theorem tw12366058547060865505:True:=trivial
theorem tw12369308664739360130:True:=trivial
theorem tw12376919876748323531:True:=trivial
theorem tw12474154688913249591:True:=trivial
theorem tw12504980443410699409:True:=trivial
theorem tw12518186608586590147:True:=trivial
theorem tw12611089464674124973:True:=trivial
theorem tw127478981940453958:True:=trivial
theorem tw12751166060647344182:True:=trivial
theorem tw12975738227399771068:True:=trivial
theorem tw13226753386809239192:True:=trivial
theorem tw13252499266129221818:True:=trivial
theorem tw13380509206188295348:True:=trivial
theorem tw13476581557045525972:True:=trivial
theorem tw13545691695451928603:True:=trivial
theorem tw13561855498182430869:True:=trivial
theorem tw13651303892184752847:True:=trivial
theorem tw13818775356260243416:True:=trivial
theorem tw13897010026833580545:True:=trivial
theorem tw1396084891859368184:True:=trivial
theorem tw14047586417083654063:True:=trivial
theorem tw14080963648735777277:True:=trivial
theorem tw14102075516434010686:True:=trivial
theorem tw14161712987878194444:True:=trivial
theorem tw14219871454148115930:True:=trivial
theorem tw14262291192822613399:True:=trivial
theorem tw14420752014236855825:True:=trivial
theorem tw14463507230596715966:True:=trivial
theorem tw14512843892009442377:True:=trivial
theorem tw14519384451533341736:True:=trivial
theorem tw14519651823014646940:True:=trivial
theorem tw14545966330462760993:True:=trivial
theorem tw14669445623600897474:True:=trivial
theorem tw14745409448559551721:True:=trivial
theorem tw14869018298030610829:True:=trivial
theorem tw14892882278890705466:True:=trivial
theorem tw14945475588130403242:True:=trivial
theorem tw14986035681624331147:True:=trivial
theorem tw14991003215115882642:True:=trivial
theorem tw14999598137845695465:True:=trivial
theorem tw1509814827114924550:True:=trivial
theorem tw15135381032281877123:True:=trivial
theorem tw15215990278514387425:True:=trivial
theorem tw15286738096488122313:True:=trivial
theorem tw1529791538528531739:True:=trivial
theorem tw15785412094292002261:True:=trivial
theorem tw15836777594662165798:True:=trivial
theorem tw1590160264621919806:True:=trivial
theorem tw15926451991731410962:True:=trivial
theorem tw16196033317868895733:True:=trivial
theorem tw16213528422245295478:True:=trivial
theorem tw16336787625222944009:True:=trivial
theorem tw16361182426748749451:True:=trivial
theorem tw1637690312318865439:True:=trivial
theorem tw16432737699575422727:True:=trivial
theorem tw16600437859829992730:True:=trivial
theorem tw16687056154300866394:True:=trivial
theorem tw16698065510522327528:True:=trivial
theorem tw16765921498958607017:True:=trivial
theorem tw16856986623341887380:True:=trivial
theorem tw16931639876811730104:True:=trivial
theorem tw16941799373688416979:True:=trivial
theorem tw16943420205953569247:True:=trivial
theorem tw17000138925445895782:True:=trivial
theorem tw17098104607879672765:True:=trivial
theorem tw17128946091476615283:True:=trivial
theorem tw17172546235967409159:True:=trivial
theorem tw17310696427291466123:True:=trivial
theorem tw17339745445132536221:True:=trivial
theorem tw1742253185621534243:True:=trivial
theorem tw17487557847550889421:True:=trivial
theorem tw17588316691016983831:True:=trivial
theorem tw1785387856458768751:True:=trivial
theorem tw18075662528712681075:True:=trivial
theorem tw18104793209261901405:True:=trivial
theorem tw18297362450663667767:True:=trivial
theorem tw18332427369555973931:True:=trivial
theorem tw18415722481936946303:True:=trivial
theorem tw1964497499335470159:True:=trivial
theorem tw202790826543902114:True:=trivial
theorem tw208295341448263449:True:=trivial
theorem tw212801680604628976:True:=trivial
theorem tw2148284810744936410:True:=trivial
theorem tw2174216919801479689:True:=trivial
theorem tw2395592125103815257:True:=trivial
theorem tw2446091974449563613:True:=trivial
theorem tw2493624390080619345:True:=trivial
theorem tw2535123953161365860:True:=trivial
theorem tw2667227519079381305:True:=trivial
theorem tw2762560587607701374:True:=trivial
theorem tw281103577139057872:True:=trivial
theorem tw2918323899123663786:True:=trivial
theorem tw3039855458980869332:True:=trivial
theorem tw3132234142071840390:True:=trivial
theorem tw3135106814281986847:True:=trivial
theorem tw3230794245212459375:True:=trivial
theorem tw3341573472379559984:True:=trivial
theorem tw347659288944452904:True:=trivial
theorem tw360815556018393274:True:=trivial
theorem tw389045175086949859:True:=trivial
theorem tw4006205509361549112:True:=trivial
theorem tw4071310701744114626:True:=trivial
theorem tw4112537683444698603:True:=trivial
theorem tw4130616001090120487:True:=trivial
theorem tw4157647457717137639:True:=trivial
theorem tw4205243731975619718:True:=trivial
theorem tw4584603716864287202:True:=trivial
theorem tw4599560683588128435:True:=trivial
theorem tw4779816214307208937:True:=trivial
theorem tw4816475322574034900:True:=trivial
theorem tw4822006855880425354:True:=trivial
theorem tw4842286872616415805:True:=trivial
theorem tw4990315747510781886:True:=trivial
theorem tw5081422514070029480:True:=trivial
theorem tw509452781279672922:True:=trivial
theorem tw5451557727670948512:True:=trivial
theorem tw5666195035908843259:True:=trivial
theorem tw6043755162630454538:True:=trivial
theorem tw6060732042574351453:True:=trivial
theorem tw6103849648352535014:True:=trivial
theorem tw6152337360256867326:True:=trivial
theorem tw6225834766556617054:True:=trivial
theorem tw6317993462930122116:True:=trivial
theorem tw6401005079503797650:True:=trivial
theorem tw6484820222602432378:True:=trivial
theorem tw6588227277094578858:True:=trivial
theorem tw6616594170518347095:True:=trivial
theorem tw6681849918261261032:True:=trivial
theorem tw6781394903299073683:True:=trivial
theorem tw6925918619726844442:True:=trivial
theorem tw6988813192471171520:True:=trivial
theorem tw6993333778619804226:True:=trivial
theorem tw7006263452523860424:True:=trivial
theorem tw7077028398937731953:True:=trivial
theorem tw7161296529521502133:True:=trivial
theorem tw7228154047358503659:True:=trivial
theorem tw7279401301447858207:True:=trivial
theorem tw7339265525891242735:True:=trivial
theorem tw7354603140927072193:True:=trivial
theorem tw7371841270969909876:True:=trivial
theorem tw7514979498729637754:True:=trivial
theorem tw7562452521186129788:True:=trivial
theorem tw7688655662316694147:True:=trivial
theorem tw773206413131504301:True:=trivial
theorem tw7771608596929064037:True:=trivial
theorem tw7786088253266609996:True:=trivial
theorem tw7857987627496047161:True:=trivial
theorem tw78688259987256695:True:=trivial
theorem tw7924919176596839685:True:=trivial
theorem tw7971613823717670488:True:=trivial
theorem tw8012780236699443094:True:=trivial
theorem tw8159820480868416501:True:=trivial
theorem tw8181331881583161230:True:=trivial
theorem tw8182851143547595982:True:=trivial
theorem tw8251157567268638287:True:=trivial
theorem tw8368901137070850452:True:=trivial
theorem tw8379536482818631917:True:=trivial
theorem tw8416155377899427493:True:=trivial
theorem tw8422593260336587455:True:=trivial
theorem tw8627332143292979369:True:=trivial
theorem tw867621857506694101:True:=trivial
theorem tw8707482410208872857:True:=trivial
theorem tw8813246460709296906:True:=trivial
theorem tw8872764083462442903:True:=trivial
theorem tw8895519322399433558:True:=trivial
theorem tw8952302233562137530:True:=trivial
theorem tw9101357524261469017:True:=trivial
theorem tw9103667368204391475:True:=trivial
theorem tw9111143939165378809:True:=trivial
theorem tw9127823263732153254:True:=trivial
theorem tw9152539025789075391:True:=trivial
theorem tw9222963487713932357:True:=trivial
theorem tw9241637952621687752:True:=trivial
theorem tw9252596947913429811:True:=trivial
theorem tw9344059638108222044:True:=trivial
theorem tw9388419462482726908:True:=trivial
theorem tw9390964825716450736:True:=trivial
theorem tw9445843799389261973:True:=trivial
theorem tw9523255302820954855:True:=trivial
theorem tw955536615971928255:True:=trivial
theorem tw9642765853082512900:True:=trivial
theorem tw9870821533536550077:True:=trivial
theorem tw9881981231297288218:True:=trivial
theorem tw9924512401433036067:True:=trivial
end PySem.W.Fast
set_option maxRecDepth 100000 in
set_option maxHeartbeats 0 in
theorem PySem.Challenge.cw_wholefract_k97_whole_a_desk_and_all_holds : PySem.Challenge.rw_wholefract_k97_whole_a_desk_and_all.Holds := by
 w_on;o_law;k_head;(case hw=>w_witness2)
 k_fill
 refine b9.walk (l:=PySem.Challenge.rw_wholefract_k97_whole_a_desk_and_all) rfl rfl (λ w h Y=>PySem.W.kIn_of Y) ?F
 case F =>
  intro w mg fi h jd G sj;refine' b9.all_mk jd G sj ?_ ?_ ?_ ?_ ?_ ?_ ?_ ?_ ?_ ?_ ?_ ?_ ?_ ?_ ?_ ?_ ?_ ?_ ?_ ?_ ?_ ?_ ?_ ?_ ?_ ?_ ?_ ?_ ?_ ?_ ?_ ?_ ?_ ?_ ?_ ?_ ?_ ?_ ?_ ?_ ?_ ?_ ?_ ?_ ?_ ?_ ?_ ?_ ?_ ?_ ?_ ?_ ?_ ?_ ?_ ?_ ?_ ?_ ?_ ?_ ?_ ?_ ?_ ?_ ?_ ?_ ?_ ?_ ?_ ?_ ?_ ?_ ?_ ?_ ?_ ?_ ?_ ?_ ?_ ?_ ?_ ?_ ?_ ?_ ?_ ?_ ?_ ?_ ?_ ?_ ?_ ?_ ?_ ?_ ?_ ?_ ?_ ?_ ?_ ?_ ?_ ?_ ?_ ?_ ?_ ?_ ?_ ?_ ?_ ?_ ?_ ?_ ?_ ?_ ?_ ?_ ?_ ?_ ?_ ?_ ?_ ?_ ?_ ?_ ?_ ?_ ?_ ?_ ?_ ?_ ?_ ?_ ?_ ?_ ?_ ?_ ?_ ?_ ?_ ?_ ?_ ?_ ?_ ?_ ?_ ?_ ?_ ?_ ?_ ?_ ?_
  all_goals try (show b9.cg _ _ _;exact b9.cg.mk (by k_is) (by k_is) (by k_is) (by k_is))
  iterate 3 (all_goals try k_is)
  all_goals try (show b9.kc _ _ _;exact ⟨by k_is,by decide,by k_is,by k_is⟩)
  all_goals try (show bC.hi _ _;exact ⟨by k_is,by k_is,by k_is,by k_is⟩)
  all_goals try (show b9.f7 _ _ _ _ _;exact b9.f7.mk (by k_is) (by k_is) (by k_is) (by k_is) (by k_is))
  all_goals try (show Exists _;exact ⟨_,by k_is⟩)
  all_goals try k_exc
  all_goals try decide
  all_goals try kernel_rfl
  all_goals k_is
