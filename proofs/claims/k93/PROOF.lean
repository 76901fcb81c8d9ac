import PyProof.Rows.All
import Wide.All
import PyProof.EqAt
import PyProof.WalkInts
import OpenK.AllK
import Wide.FinOn
import Lean
import PyProof.EqKinds
import PyProof.TupleCall
import PyProof.EnumMake
import PyProof.Draws
import PyProof.Rows.MatchSeqLen
import PyProof.StrLawsTight
import PyProof.StrLawsChain
import KE.IntTextText
import PyProof.JoinWalk
import PyProof.Rows.StrWeight2
import PyProof.StrBlock2
import PyProof.FString
import PyProof.StrLawsOcc
import KE.KIntText
import PyProof.SliceStr2
import PyProof.FString5
import KE.KDictSum
import PyProof.Rows.SortStr
import PySem.Challenge.RW_wholefract_k93_whole_a_bench_and_steps
set_option Elab.async false
set_option linter.all false
set_option maxRecDepth 100000
set_option maxHeartbeats 4000000
namespace Hd
open PySem PyProof.Rows
def In (A:Around) (h:Heap):Prop:=A.handled=none \/ ∃ (e:Addr) (oe:Obj) (vs:Array Value),A.handled=some (.ref e)/\h.get? e=some oe/\oe.data=.fields vs/\vs[2]?=some .none
theorem In.kept {A:Around} {h g:Heap} (a:In A h) (k : ∀ b o,h.get? b=some o->g.get? b=some o):In A g :=
 a.imp id λ ⟨e,oe,vs,h1,h2,r⟩=>⟨e,oe,vs,h1,k _ _ h2,r⟩
theorem In.but {A:Around} {h g:Heap} {j:Addr} {o:Obj} (a:In A h) (ho:h.get? j=some o) (no : ∀ vs,o.data=.fields vs->vs[2]?≠some .none) (k:Heap.ExtBut j h g):In A g :=
 a.imp id λ ⟨e,oe,vs,h1,h2,h3,h4⟩=>⟨e,oe,vs,h1,k e oe (λ z=>by subst z;rw [ho] at h2;cases h2;exact no vs h3 h4) h2,h3,h4⟩
theorem two_no {a b:Value} : ∀ vs,Data.fields #[a,b]=Data.fields vs->vs[2]?≠some .none:=λ vs e=>by
 injection e with e
 subst e
 exact λ z=>nomatch z
theorem notNone (t:Addr) : ¬ ((Value.ref t == Value.none)=true):=Bool.false_ne_true
section
variable {prog:Program} {w:World} {A:Around} {E:Value->Shared->Prop} {s:Shared}
theorem new_some {α : Type} {a h:Addr} {o oh:Obj} {vs hs:Array Value} {Q : α -> Shared->Prop} (hh:A.handled=some (.ref h)) (ne:h≠a)
  (ho:s.heap.get? a=some o) (hd:o.data=.fields vs) (hz:2<vs.size) (hoh:s.heap.get? h=some oh) (hdh:oh.data=.fields hs) (h2:hs[2]?=some .none)
  (q:E (.ref a) { s with heap:=s.heap.update a (Obj.mapFields (·.setIfInBounds 2 (.ref h))) }):wpAny (model prog w) A (raiseNew (.ref a):Sem α) Q E s:=by
 unfold raiseNew
 refine wpAny_bind (wpAny_handled ?_)
 rw [hh]
 dsimp only
 rw [if_pos (by simpa using ne)]
 refine wpAny_bind (wpAny_holding (runValue_entry (b:=Builtin.«proto.unchain») (entryFor_of_tree (by kernel_rfl)) ?_))
 unfold Builtin.«proto.unchain»
 dsimp only
 refine wpAny_bind (wpAny_field hoh hdh h2 ?_)
 rw [if_pos (show (Value.none == Value.none)=true from rfl)]
 refine wpAny_pure ⟨.none,rfl,?_⟩
 refine wpAny_bind ?_
 unfold updateField
 refine wpAny_bind (wpAny_load ho ?_)
 rw [hd]
 dsimp only
 rw [if_pos hz]
 refine wpAny_update ho ?_
 exact wpAny_throw q
theorem stop {α : Type} {Q : α -> Shared->Prop} (hh:In A s.heap)
  (q : ∀ g e,(∀ b o,s.heap.get? b=some o->g.get? b=some o)->(∃ o,g.get? e=some o/\o.cls=.type "StopIteration")->E (.ref e) { s with heap:=g }) :
  wpAny (model prog w) A ((newExc (.type "StopIteration") []>>=λ x=>raiseNew x):Sem α) Q E s:=by
 refine wpAny_bind ?_
 simp only [newExc,newTuple]
 refine wpAny_bind (wpAny_newObj_type (wpAny_bind (m:=firstArgMember _ _) (wpAny_of_eq (a:=Value.none) (by first | rfl | (simp only [firstArgMember];rfl)) (wpAny_newObj_type ?_ (by size_fits)))) (by size_fits))
 rcases hh with hh | ⟨e,oe,vs,h1,h2,h3,h4⟩
 ·exact wpAny_raiseNew_none hh (q _ _ (λ b o y=>Heap.get?_push_of_some _ (Heap.get?_push_of_some _ y)) ⟨_,Heap.get?_push_size _ rfl,rfl⟩)
 ·have lt:=Heap.lt_size h2
  refine new_some h1 (Nat.ne_of_lt (Nat.lt_of_lt_of_le lt (by rw [Heap.size_push];exact Nat.le_succ _))) (Heap.get?_push_size _ rfl) rfl (by simp;omega) (Heap.get?_push_of_some _ (Heap.get?_push_of_some _ h2)) h3 h4 ?_
  refine q _ _ (λ b o y=>?_) ⟨_,Heap.get?_update_self _ (Heap.get?_push_size _ rfl) (Obj.isFreed_of_fields (Obj.data_mapFields rfl _)),(Obj.cls_mapFields ..).trans rfl⟩
  have lb:=Heap.lt_size y
  refine (Heap.get?_update_other _ _ ?_).trans (Heap.get?_push_of_some _ (Heap.get?_push_of_some _ y))
  intro z
  rw [Heap.size_push] at z
  subst z
  exact Nat.lt_irrefl _ (Nat.lt_of_succ_lt lb)
theorem list_next {it l:Addr} {i:Nat} {items:Array Value} {Q:Fin->Shared->Prop} (hh:In A s.heap) (hit:s.heap.IsListIter it l i) (hl:s.heap.IsList l items) (hx:items[i]?=none)
  (q : ∀ g e,Heap.ExtBut it s.heap g->(∃ o,g.get? e=some o/\o.cls=.type "StopIteration")->E (.ref e) { s with heap:=g }) :
  wpAny (model prog w) A (Builtin.«list_iterator.__next__» ⟨[.ref it],[]⟩) Q E s:=by
 obtain ⟨o,ho,hc,hd⟩:=id hit
 obtain ⟨ol,hol,_,nl,hdl⟩:=hl
 show wpAny _ _ (field (.ref it) 0>>=_) _ _ s
 refine wpAny_bind (wpAny_field ho hd (x:=.ref l) rfl ?_)
 show wpAny _ _ (ite ((Value.ref l == Value.none)=true) _ _) _ _ s
 rw [if_neg (notNone _)]
 show wpAny _ _ (field (.ref it) 1>>=_) _ _ s
 refine wpAny_bind (wpAny_field ho hd (x:=.int i 0) rfl ?_)
 show wpAny _ _ (seqItems? (.ref l)>>=_) _ _ s
 refine wpAny_bind (wpAny_seqItems hol hdl ?_)
 simp only [Int.toNat_natCast,hx]
 refine wpAny_bind (wpAny_rule (wpAny_bind (wpAny_setField ho hd (by simp) ?_)))
 have k:=(Heap.SameBut.update s.heap it (Obj.mapFields (·.setIfInBounds 0 .none))).extBut
 exact stop (hh.but ho (by rw [hd];exact two_no) k) λ g e kp x=>q g e (λ b o nb y=>kp b o (k b o nb y)) x
theorem tup_next {it t:Addr} {i:Nat} {items:Array Value} {Q:Fin->Shared->Prop} (hh:In A s.heap) (hit:s.heap.IsTupleIter it t i) (hl:s.heap.IsTuple t items) (hx:items[i]?=none)
  (q : ∀ g e,Heap.ExtBut it s.heap g->(∃ o,g.get? e=some o/\o.cls=.type "StopIteration")->E (.ref e) { s with heap:=g }) :
  wpAny (model prog w) A (Builtin.«tuple_iterator.__next__» ⟨[.ref it],[]⟩) Q E s:=by
 obtain ⟨o,ho,hc,hd⟩:=id hit
 obtain ⟨ol,hol,_,nl,hdl⟩:=hl
 show wpAny _ _ (field (.ref it) 0>>=_) _ _ s
 refine wpAny_bind (wpAny_field ho hd (x:=.ref t) rfl ?_)
 show wpAny _ _ (ite ((Value.ref t == Value.none)=true) _ _) _ _ s
 rw [if_neg (notNone _)]
 show wpAny _ _ (field (.ref it) 1>>=_) _ _ s
 refine wpAny_bind (wpAny_field ho hd (x:=.int i 0) rfl ?_)
 show wpAny _ _ (seqItems? (.ref t)>>=_) _ _ s
 refine wpAny_bind (wpAny_seqItems hol hdl ?_)
 simp only [Int.toNat_natCast,hx]
 refine wpAny_bind (wpAny_rule (wpAny_bind (wpAny_setField ho hd (by simp) ?_)))
 have k:=(Heap.SameBut.update s.heap it (Obj.mapFields (·.setIfInBounds 0 .none))).extBut
 exact stop (hh.but ho (by rw [hd];exact two_no) k) λ g e kp x=>q g e (λ b o nb y=>kp b o (k b o nb y)) x
theorem list_end {it l:Addr} {i:Nat} {items:Array Value} {Q:Option Value->Shared->Prop} (hh:In A s.heap) (hit:s.heap.IsListIter it l i) (hl:s.heap.IsList l items) (hx:items[i]?=none)
  (q : ∀ g,Heap.ExtBut it s.heap g->Q none { s with heap:=g }):wpAny (model prog w) A (pyNext (.ref it)) Q E s:=by
 unfold pyNext
 refine wpAny_bind (wpAny_attempt (wpAny_callSpecial?_slot (name:=Str.ofString "__next__") hit.typeIs slot_listiter_next (wpAny_call_entry slot_listiter_next hit.typeIs entry_listiter_next ?_ (args_listiter_next _))))
 exact list_next (A:=A.in1) hh hit hl hx λ g e kp ⟨o,ho,hc⟩=>wpAny_bind (wpAny_isInstance (T := "StopIteration") (b:=true) ⟨o,ho,hc⟩ isSubtype_stop (wpAny_pure (q g kp)))
theorem tup_end {it t:Addr} {i:Nat} {items:Array Value} {Q:Option Value->Shared->Prop} (hh:In A s.heap) (hit:s.heap.IsTupleIter it t i) (hl:s.heap.IsTuple t items) (hx:items[i]?=none)
  (q : ∀ g,Heap.ExtBut it s.heap g->Q none { s with heap:=g }):wpAny (model prog w) A (pyNext (.ref it)) Q E s:=by
 unfold pyNext
 refine wpAny_bind (wpAny_attempt (wpAny_callSpecial?_slot (name:=Str.ofString "__next__") hit.typeIs F.slot_tuple_iterator_next (wpAny_call_entry F.slot_tuple_iterator_next hit.typeIs F.entry_tuple_iterator_next ?_ (F.args_tuple_iterator_next_1 _))))
 exact tup_next (A:=A.in1) hh hit hl hx λ g e kp ⟨o,ho,hc⟩=>wpAny_bind (wpAny_isInstance (T := "StopIteration") (b:=true) ⟨o,ho,hc⟩ isSubtype_stop (wpAny_pure (q g kp)))
theorem list_pull {it l:Addr} {i:Nat} {items:Array Value} {Q:Value->Shared->Prop} (hh:In A s.heap) (hit:s.heap.IsListIter it l i) (hl:s.heap.IsList l items) (hx:items[i]?=none)
  (q : ∀ g e,Heap.ExtBut it s.heap g->(∃ o,g.get? e=some o/\o.cls=.type "StopIteration")->E (.ref e) { s with heap:=g }):wpAny (model prog w) A (Builtin.SmallTypes.nextOf (.ref it)) Q E s:=by
 unfold Builtin.SmallTypes.nextOf
 exact wpAny_bind (wpAny_callSpecial?_slot (name:=Str.ofString "__next__") hit.typeIs slot_listiter_next (wpAny_call_entry slot_listiter_next hit.typeIs entry_listiter_next (list_next (A:=A.in1) hh hit hl hx q) (args_listiter_next _)))
theorem tup_pull {it t:Addr} {i:Nat} {items:Array Value} {Q:Value->Shared->Prop} (hh:In A s.heap) (hit:s.heap.IsTupleIter it t i) (hl:s.heap.IsTuple t items) (hx:items[i]?=none)
  (q : ∀ g e,Heap.ExtBut it s.heap g->(∃ o,g.get? e=some o/\o.cls=.type "StopIteration")->E (.ref e) { s with heap:=g }):wpAny (model prog w) A (Builtin.SmallTypes.nextOf (.ref it)) Q E s:=by
 unfold Builtin.SmallTypes.nextOf
 exact wpAny_bind (wpAny_callSpecial?_slot (name:=Str.ofString "__next__") hit.typeIs F.slot_tuple_iterator_next (wpAny_call_entry F.slot_tuple_iterator_next hit.typeIs F.entry_tuple_iterator_next (tup_next (A:=A.in1) hh hit hl hx q) (F.args_tuple_iterator_next_1 _)))
theorem enum_end {e it l:Addr} {i:Nat} {items:Array Value} {old:Value} {Q:Option Value->Shared->Prop} (hh:In A s.heap) (he:IsEnum s.heap e it i old) (hit:s.heap.IsListIter it l i) (hl:s.heap.IsList l items) (hx:items[i]?=none)
  (q : ∀ g,Heap.ExtBut it s.heap g->Q none { s with heap:=g }):wpAny (model prog w) A (pyNext (.ref e)) Q E s:=by
 have ty:s.TypeIs (.ref e) "enumerate" := ⟨_,he,rfl⟩
 unfold pyNext
 refine wpAny_bind (wpAny_attempt (wpAny_callSpecial?_slot (name:=Str.ofString "__next__") ty F.slot_enumerate_next (wpAny_call_entry F.slot_enumerate_next ty F.entry_enumerate_next ?_ (F.args_enumerate_next_1 _))))
 show wpAny _ _ (field (.ref e) 2>>=_) _ _ _
 refine wpAny_bind (wpAny_field he rfl (x:=.ref it) rfl (wpAny_bind (list_pull (A:=A.in1) hh hit hl hx λ g x kp ⟨o,ho,hc⟩=>?_)))
 exact wpAny_bind (wpAny_isInstance (T := "StopIteration") (b:=true) ⟨o,ho,hc⟩ isSubtype_stop (wpAny_pure (q _ kp)))
theorem items {t:Addr} {items:Array Value} {Q:List Value->Shared->Prop} (hh:In A s.heap) (ht:IsTup s.heap t items)
  (q : ∀ g,Heap.ExtBut s.heap.objs.size s.heap g->Q items.toList { s with heap:=g }):wpAny (model prog w) A (unpackItems (.ref t) items.size none) Q E s:=by
 have lt:t≠s.heap.objs.size:=by
  obtain ⟨o,ho,_⟩:=ht
  exact Nat.ne_of_lt (Heap.lt_size ho)
 unfold unpackItems
 refine wpAny_bind ?_
 unfold notIterableAtAll
 refine wpAny_bind (wpAny_specialOf ht.typeIs slot_tuple_iter.lookup (wpAny_pure ?_))
 simp only [Bool.false_eq_true,if_false]
 refine wpAny_bind (wpAny_holding (iter_tuple ht (wpAny_bind (wpAny_holding (draw_tuple lt items.size 0 _ _ ⟨_,Heap.get?_push_size _ rfl,rfl,rfl⟩ (ht.push _) (by omega) λ g1 it1 s1=>?_)))))
 rw [show List.take items.size (List.drop 0 items.toList)=items.toList by rw [List.drop_zero];exact List.take_of_length_le (by simp),if_neg (by simp)]
 have t1:IsTup g1 t items:=(ht.push _).extBut s1.extBut lt
 have kp : ∀ b o,s.heap.get? b=some o->g1.get? b=some o:=λ b o y=>s1.extBut b o (Nat.ne_of_lt (Heap.lt_size y)) (Heap.get?_push_of_some _ y)
 refine wpAny_bind (wpAny_holding (tup_end (hh.kept kp) (show Heap.IsTupleIter g1 s.heap.objs.size t (0+items.size) from it1) (show Heap.IsTuple g1 t items from t1) (by simp) λ g2 e2=>?_))
 simp only [Option.isSome_none,Bool.false_eq_true,if_false]
 exact wpAny_pure (q g2 λ b o nb y=>e2 b o nb (kp b o y))
theorem to_tuple {env:Env} {elts:List Expr} {k} {pos:Pos} {t:Addr} {items:Array Value} {Q:Unit->Shared->Prop} (hh:In A s.heap) (ht:IsTup s.heap t items)
  (hn:(assignEach elts env).length=items.size) (hs:(assignEach elts env).findIdx? (·.1)=none)
  (h : ∀ g,Heap.ExtBut s.heap.objs.size s.heap g->wpAny (model prog w) A (assignInOrder ((assignEach elts env).map (·.2)) items.toList) Q E { s with heap:=g }) :
  wpAny (model prog w) A (assign (.Tuple elts k pos) env (.ref t)) Q E s:=by
 rw [assign_Tuple]
 refine wpAny_bind (wpAny_standAt ?_)
 unfold unpack
 rw [hn,hs]
 exact wpAny_bind (wpAny_holding (Hd.items hh ht h))
end
theorem walk_list {prog:Program} {w:World} {A:Around} {e:Addr} {oe:Obj} {vs:Array Value} (h1:A.handled=some (.ref e)) (h3:oe.data=.fields vs) (h4:vs[2]?=some .none) (I ax:Addr) (hne:ax≠I) (hee:e≠I) (items:Array Value) :
  Walks prog w A I [I,ax,e] [I] items.size (λ i v=>items[i]?=some v) (λ i h=>h.IsListIter I ax i/\h.IsList ax items/\h.get? e=some oe) where
 sub:=λ b hb=>by simp at hb;simp [hb]
 frame:=λ _ _ _ st hk=>⟨st.1.at λ o y=>hk I (by simp) o y,st.2.1.at λ o y=>hk ax (by simp) o y,hk e (by simp) _ st.2.2⟩
 item:=λ i s Q E hi st hQ=>by
  refine wpAny_pyNext_list_item st.1 st.2.1 (x:=items[i]) (by simp [hi]) λ g it' sb=>?_
  exact hQ _ g s.toks (by simp [hi]) ⟨it',st.2.1.extBut sb.extBut hne,sb.extBut _ _ hee st.2.2⟩ λ b o hb y=>sb.extBut b o (λ z=>hb (by simp [z])) y
 done:=λ s Q E st hQ=>list_end (.inr ⟨e,oe,vs,h1,st.2.2,h3,h4⟩) st.1 st.2.1 (by simp) λ g eb=>hQ g s.toks λ b o hb y=>eb b o (λ z=>hb (by simp [z])) y
 self:=λ _ _ _ _ st hQ=>wpAny_pyIter_listiter st.1 hQ
theorem walk_tuple {prog:Program} {w:World} {A:Around} {e:Addr} {oe:Obj} {vs:Array Value} (h1:A.handled=some (.ref e)) (h3:oe.data=.fields vs) (h4:vs[2]?=some .none) (I ax:Addr) (hne:ax≠I) (hee:e≠I) (items:Array Value) :
  Walks prog w A I [I,ax,e] [I] items.size (λ i v=>items[i]?=some v) (λ i h=>h.IsTupleIter I ax i/\h.IsTuple ax items/\h.get? e=some oe) where
 sub:=λ b hb=>by simp at hb;simp [hb]
 frame:=λ _ _ _ st hk=>⟨st.1.at λ o y=>hk I (by simp) o y,st.2.1.at λ o y=>hk ax (by simp) o y,hk e (by simp) _ st.2.2⟩
 item:=λ i s Q E hi st hQ=>by
  refine wpAny_pyNext_tuple_item st.1 st.2.1 (x:=items[i]) (by simp [hi]) λ g it' sb=>?_
  exact hQ _ g s.toks (by simp [hi]) ⟨it',st.2.1.extBut sb.extBut hne,sb.extBut _ _ hee st.2.2⟩ λ b o hb y=>sb.extBut b o (λ z=>hb (by simp [z])) y
 done:=λ s Q E st hQ=>tup_end (.inr ⟨e,oe,vs,h1,st.2.2,h3,h4⟩) st.1 st.2.1 (by simp) λ g eb=>hQ g s.toks λ b o hb y=>eb b o (λ z=>hb (by simp [z])) y
 self:=λ _ _ _ _ st hQ=>wpAny_pyIter_tupleiter st.1 hQ
section
variable {prog:Program} {w:World} {A:Around} {E:Value->Shared->Prop} {s:Shared}
theorem max2 {a b:Int} {t u:Tok} {Q:Value->Shared->Prop} (hh:In A s.heap)
  (h : ∀ g tk,(∀ c o,s.heap.get? c=some o->g.get? c=some o)->Q (if b > a then .int b u else .int a t) { s with heap:=g,toks:=tk }) :
  wpAny (model prog w) A (call (.builtin "max") [.int a t,.int b u]) Q E s:=by
 rcases hh with hh | ⟨e,oe,vs,h1,h2,h3,h4⟩
 ·exact max_two_ints hh h
 have hT:(s.heap.push { cls:=.type "tuple", data:=.seq #[.int a t,.int b u] }).IsTuple s.heap.objs.size (intItems #[(a,t),(b,u)]):=⟨_,Heap.get?_push_size _ rfl,rfl,0,by simp [intItems]⟩
 have lt:=Heap.lt_size h2
 have hsz:(s.heap.push { cls:=.type "tuple", data:=.seq #[.int a t,.int b u] }).objs.size=s.heap.objs.size+1:=Heap.size_push ..
 refine call_max_two (wpAny_pyIter_tuple hT ⟨_,[_,s.heap.objs.size,e],[_],_,_,_,_,rfl,walk_tuple (A:=A.in1) h1 h3 h4 _ s.heap.objs.size (by rw [hsz];exact Nat.ne_of_lt (Nat.lt_succ_self _)) (by rw [hsz];exact Nat.ne_of_lt (Nat.lt_succ_of_lt lt)) (intItems #[(a,t),(b,u)]),
  ⟨⟨_,Heap.get?_push_size _ rfl,rfl,rfl⟩,hT.push _,Heap.get?_push_of_some _ (Heap.get?_push_of_some _ h2)⟩,λ c hc=>?_,by simp [intItems],CmpOf.ints_gt (numAt #[(a,t),(b,u)]) (λ _ _=>intItems_at),λ v g tk hP hk=>?_⟩)
 ·have hs2:((s.heap.push { cls:=.type "tuple", data:=.seq #[.int a t,.int b u] }).push { cls:=.type "tuple_iterator", data:=.fields #[.ref s.heap.objs.size,.int 0 0] }).objs.size=s.heap.objs.size+2:=by rw [Heap.size_push,hsz]
  show c<((s.heap.push _).push _).objs.size
  rw [hs2]
  simp only [List.mem_cons,List.not_mem_nil,or_false,hsz] at hc
  rcases hc with hc | hc | hc
  ·rw [hc];exact Nat.lt_succ_self _
  ·rw [hc];exact Nat.lt_succ_of_lt (Nat.lt_succ_self _)
  ·rw [hc];exact Nat.lt_succ_of_lt (Nat.lt_succ_of_lt lt)
 ·have hold : ∀ c o,s.heap.get? c=some o->g.get? c=some o:=λ c o y=>hk c o (λ hm=>by
   have e1:=List.mem_singleton.mp hm
   have:=Heap.lt_size y
   rw [e1,hsz] at this
   exact Nat.lt_irrefl _ (Nat.lt_of_succ_lt this)) (Heap.get?_push_of_some _ (Heap.get?_push_of_some _ y))
  have hP':(intItems #[(a,t),(b,u)])[argBest (λ i j=>decide (numAt #[(a,t),(b,u)] i > numAt #[(a,t),(b,u)] j)) 1]?=some v:=by
   have hsz2:(intItems #[(a,t),(b,u)]).size - 1=1:=by simp [intItems]
   rw [<-hsz2];exact hP
  have hv:v=if b > a then Value.int b u else Value.int a t:=by
   by_cases hba:b > a
   ·rw [show argBest (λ i j=>decide (numAt #[(a,t),(b,u)] i > numAt #[(a,t),(b,u)] j)) 1=1 by simp [argBest,numAt,hba]] at hP'
    simpa [intItems,hba] using hP'.symm
   ·rw [show argBest (λ i j=>decide (numAt #[(a,t),(b,u)] i > numAt #[(a,t),(b,u)] j)) 1=0 by simp [argBest,numAt,hba]] at hP'
    simpa [intItems,hba] using hP'.symm
  rw [hv]
  exact h g tk hold
end
end Hd
namespace L2
open PySem PySem.Spec PyProof.Rows
abbrev Key:=Sum Int Str
def keyIs:Key->Value->Bool
 | .inl k,v=>Value.isInt k v
 | .inr x,v=>Value.isStrOf x v
def keyH (w:World):Key->Int
 | .inl k=>hashInt k
 | .inr x=>hashStr w x
theorem keyIs_shape : ∀ {k:Key} {v:Value},keyIs k v=true->(∃ i t,k=Sum.inl i/\v=Value.int i t)\/(∃ x t,k=Sum.inr x/\v=Value.str x t)
 | .inl i,v,h=>by
  obtain ⟨t,e⟩:=Value.isInt_shape (k:=i) (v:=v) h
  exact .inl ⟨i,t,rfl,e⟩
 | .inr x,v,h=>by
  obtain ⟨t,e⟩:=Value.isStrOf_shape (x:=x) (v:=v) h
  exact .inr ⟨x,t,rfl,e⟩
theorem keyIs_int (i:Int) (t:Tok):keyIs (.inl i) (.int i t)=true:=by simp [keyIs,Value.isInt]
theorem keyIs_str (x:Str) (t:Tok):keyIs (.inr x) (.str x t)=true:=by simp [keyIs,Value.isStrOf]
theorem key_ll (a b:Int):decide ((Sum.inl a:Key)=Sum.inl b)=(a == b):=by
 by_cases e:a=b
 ·subst e;simp
 ·have h : ¬ (Sum.inl a:Key)=Sum.inl b:=λ q=>e (Sum.inl.inj q)
  rw [decide_eq_false h]
  exact (beq_eq_false_iff_ne.mpr e).symm
theorem key_rr (a b:Str):decide ((Sum.inr a:Key)=Sum.inr b)=decide (a=b):=by
 by_cases e:a=b
 ·subst e;simp
 ·have h : ¬ (Sum.inr a:Key)=Sum.inr b:=λ q=>e (Sum.inr.inj q)
  rw [decide_eq_false h,decide_eq_false e]
theorem key_lr (a:Int) (b:Str):decide ((Sum.inl a:Key)=Sum.inr b)=false:=decide_eq_false (λ q=>nomatch q)
theorem key_rl (a:Str) (b:Int):decide ((Sum.inr a:Key)=Sum.inl b)=false:=decide_eq_false (λ q=>nomatch q)
def mixKind (prog:Program) (w:World):PySem.KeyKind prog w Key where
 is:=keyIs
 hash:=keyH w
 inj:=λ v a b ha hb=>by
  rcases keyIs_shape ha with ⟨i,t,rfl,rfl⟩ | ⟨x,t,rfl,rfl⟩
  ·rcases keyIs_shape hb with ⟨j,u,rfl,e⟩ | ⟨y,u,rfl,e⟩
   ·injection e with e1 _;rw [e1]
   ·exact nomatch e
  ·rcases keyIs_shape hb with ⟨j,u,rfl,e⟩ | ⟨y,u,rfl,e⟩
   ·exact nomatch e
   ·injection e with e1 _;rw [e1]
 byValue:=λ k v h=>by
  rcases keyIs_shape h with ⟨i,t,rfl,rfl⟩ | ⟨x,t,rfl,rfl⟩<;>rfl
 pyHash:=λ hv h=>by
  rcases keyIs_shape hv with ⟨i,t,rfl,rfl⟩ | ⟨x,t,rfl,rfl⟩
  ·exact wpAny_pyHash_int h
  ·exact wpAny_pyHash_str h
 eqBool:=λ hu hv h=>by
  rcases keyIs_shape hu with ⟨i,t,rfl,rfl⟩ | ⟨x,t,rfl,rfl⟩
  ·rcases keyIs_shape hv with ⟨j,u,rfl,rfl⟩ | ⟨y,u,rfl,rfl⟩
   ·rw [key_ll] at h;exact wpAny_eqBool_int h
   ·rw [key_lr] at h;exact SeqAt.EqAt.int_str i t y u _ _ _ _ h
  ·rcases keyIs_shape hv with ⟨j,u,rfl,rfl⟩ | ⟨y,u,rfl,rfl⟩
   ·rw [key_rl] at h;exact SeqAt.EqAt.str_int x t j u _ _ _ _ h
   ·rw [key_rr] at h;exact wpAny_eqBool_str h
 «strs» := λ k x t v h=>by
  rcases keyIs_shape h with ⟨i,u,rfl,e⟩ | ⟨y,u,rfl,e⟩
  ·exact nomatch e
  ·injection e with e1 _
   subst e1
   cases v<;>rfl
theorem mixKind_int (prog:Program) (w:World) (i:Int) (t:Tok):(mixKind prog w).is (.inl i) (.int i t)=true:=keyIs_int i t
theorem mixKind_str (prog:Program) (w:World) (x:Str) (t:Tok):(mixKind prog w).is (.inr x) (.str x t)=true:=keyIs_str x t
inductive V where
 | non | bl (b:Bool) | int (i:Int) | str (x:Str) | byt (b:Array UInt8) | flt (b:UInt64) | ref (a:Addr) | ty (n:String)
 deriving DecidableEq
def RelV:V->Value->Prop
 | .non,u=>u=Value.none
 | .bl b,u=>u=Value.bool b
 | .int i,u => ∃ t,u=Value.int i t
 | .str x,u => ∃ t,u=Value.str x t
 | .byt b,u => ∃ t,u=Value.bytes b t
 | .flt b,u => ∃ t,u=Value.float b t
 | .ref a,u=>u=Value.ref a
 | .ty n,u=>u=Value.type n
abbrev Vals:List V->List Value->Prop:=Paired RelV
theorem Vals.length {xs:List V} {us:List Value} (r:Vals xs us):xs.length=us.length:=Paired.length r
theorem Vals.get : ∀ {xs:List V} {us:List Value} {i:Nat} {x:V},Vals xs us->xs[i]?=some x -> ∃ u,us[i]?=some u/\RelV x u
 | _,_,_,_,.nil,e=>by simp at e
 | _,_,0,_,.cons r _,e=>by simp at e;subst e;exact ⟨_,rfl,r⟩
 | _,_,i+1,x,.cons _ t,e=>by
  obtain ⟨u,h1,h2⟩:=Vals.get (i:=i) (x:=x) t (by simpa using e)
  exact ⟨u,by simpa using h1,h2⟩
theorem Vals.set {x:V} {u:Value} (r:RelV x u) : ∀ {xs:List V} {us:List Value} (i:Nat),Vals xs us->Vals (xs.set i x) (us.set i u)
 | _,_,_,.nil=>.nil
 | _,_,0,.cons _ t=>.cons r t
 | _,_,i+1,.cons q t=>.cons q (Vals.set r i t)
theorem Vals.append : ∀ {xs ys:List V} {us ws:List Value},Vals xs us->Vals ys ws->Vals (xs++ys) (us++ws)
 | _,_,_,_,.nil,s=>s
 | _,_,_,_,.cons r t,s=>.cons r (Vals.append t s)
theorem Vals.take : ∀ {xs:List V} {us:List Value} (n:Nat),Vals xs us->Vals (xs.take n) (us.take n)
 | _,_,0,_=>.nil
 | _,_,_+1,.nil=>.nil
 | _,_,n+1,.cons r t=>.cons r (Vals.take n t)
theorem Vals.drop : ∀ {xs:List V} {us:List Value} (n:Nat),Vals xs us->Vals (xs.drop n) (us.drop n)
 | _,_,0,r=>r
 | _,_,_+1,.nil=>.nil
 | _,_,n+1,.cons _ t=>Vals.drop n t
def RelO:Option V->Option Value->Prop
 | some v,some u=>RelV v u
 | none,none=>True
 | _,_=>False
def KV {κ : Type}:List (κ × V)->List (κ × Value)->Prop:=Paired λ (p : κ × V) (q : κ × Value)=>p.1=q.1/\RelV p.2 q.2
def kV:Key->V
 | .inl i=>.int i
 | .inr x=>.str x
inductive HO where
 | lst (xs:List V)
 | tup (xs:List V)
 | dK (kvs:List (Key×V)) | dT (kvs:List (List Key×V))
 | set (S:Int->Bool) (n:Nat)
 | ins (C dx:Addr) (fs:List (Str×V))
 | own (x:Addr)
 | xd (fs:List (Str×V))
 | met (f x:Addr)
 | rng (lo hi:Int)
 | frz (o:Obj) (u:HO)
 | tbl (ps:Array Value)
 | ext (φ : Heap->Prop)
abbrev Hp:=Addr->Option HO
def upd (H:Hp) (a:Addr) (o:HO):Hp:=λ b=>if b=a then some o else H b
theorem upd_same {H:Hp} {a:Addr} {o:HO}:upd H a o a=some o:=by unfold upd;rw [if_pos rfl]
theorem upd_ne {H:Hp} {a b:Addr} {o:HO} (h:b≠a):upd H a o b=H b:=by unfold upd;rw [if_neg h]
theorem upd_upd {H:Hp} {a:Addr} {o u:HO}:upd (upd H a o) a u=upd H a u:=by
 funext b;unfold upd;split<;>rfl
theorem ne_of {H:Hp} {a b:Addr} {o u:HO} (h:H a=some o) (h':H b=some u) (d:o≠u):a≠b:=by
 intro e;subst e;rw [h] at h';exact d (Option.some.inj h')
theorem ne_of_none {H:Hp} {a b:Addr} {o:HO} (h:H a=some o) (h':H b=none):a≠b:=by
 intro e;subst e;rw [h] at h';cases h'
section
variable (P:Program) (w:World)
def IsTupD (h:Heap) (a:Addr) (items:Array Value):Prop := ∃ o,h.get? a=some o/\o.cls=.type "tuple" /\ (∃ n,o.data=.seq items n)/\o.dict=none
theorem IsTupD.up {h:Heap} {a:Addr} {items:Array Value}:IsTupD h a items->IsTup h a items:=λ ⟨o,e,c,d,_⟩=>⟨o,e,c,d⟩
theorem IsTupD.lt {h:Heap} {a:Addr} {items:Array Value}:IsTupD h a items->a<h.objs.size:=λ ⟨_,e,_⟩=>Heap.lt_size e
theorem IsTupD.new (h:Heap) (items:Array Value):IsTupD (h.push { cls:=.type "tuple", data:=.seq items }) h.objs.size items:=⟨_,Heap.get?_push_size _ rfl,rfl,⟨_,rfl⟩,rfl⟩
def ObjOk (H:Hp) (h:Heap) (a:Addr):HO->Prop
 | .lst xs=>xs.length<=sizeLine /\ ∃ (its:List Value) (n:Nat),Vals xs its/\h.get? a=some { cls:=.type "list", data:=.seq its.toArray n }
 | .tup xs=>xs.length<=sizeLine /\ ∃ its:List Value,Vals xs its/\IsTupD h a its.toArray
 | .dK kvs=>kvs.length<=sizeLine/\(a == sysModules)=false /\ ∃ vs,KV kvs vs/\h.DictOf (mixKind P w) a vs
 | .dT kvs=>kvs.length<=sizeLine/\(a == sysModules)=false /\ ∃ xs:List (List Key×Addr×Value),
   Paired (λ (p:List Key×V) (q:List Key×Addr×Value)=>p.1=q.1/\H q.2.1=some (.tup (p.1.map kV))/\RelV p.2 q.2.2) kvs xs /\
   ∃ o es ep,h.get? a=some o/\o.ExactDict/\o.data=.dict es ep/\es.toList=xs.map (entryOfKey (tupleKind (mixKind P w)))/\(xs.map (·.1)).Nodup
 | .set S n=>h.SetOf (intKind P w) a S n
 | .ins C dx fs=>H dx=some (.own a)/\fs.length<=1000/\dx≠a/\h.get? a=some (PySem.W.instObj C dx) /\
   ∃ mA,h.Ns1 dx mA/\(∀ f,RelO (fs.lookup f) (mA f))/\PySem.Within mA (fs.map (·.1))
 | .own _ => ∃ o,h.get? a=some o
 | .xd fs => ∃ mA,h.Ns1 a mA /\ ∀ f,RelO (fs.lookup f) (mA f)
 | .rng lo hi => ∃ t u v,h.get? a=some { cls:=.type "range", data:=.fields #[.int lo t,.int hi u,.int 1 v] }
 | .frz o u=>h.get? a=some o/\ObjOk H h a u
 | .tbl ps=>h.get? a=some { cls:=.none,data:=.fields ps }
 | .met f x=>h.get? a=some (PySem.W.methodObj (.ref f) (.ref x))
 | .ext φ => φ h/\(∃ o,h.get? a=some o) /\ ∀ h1 h2:Heap,φ h1->(∀ o,h1.get? a=some o->h2.get? a=some o) -> φ h2
def HOk (H:Hp) (h:Heap):Prop := ∀ a o,H a=some o->ObjOk P w H h a o
end
section
variable {P:Program} {w:World} {H H':Hp} {h h':Heap} {a:Addr} {o:HO}
theorem ObjOk.lt (x:ObjOk P w H h a o):a<h.objs.size:=by
 cases o with
 | lst xs=>obtain ⟨_,_,_,_,e⟩:=x;exact Heap.lt_size e
 | tup xs=>obtain ⟨_,_,_,p⟩:=x;exact p.lt
 | dK kvs=>obtain ⟨_,_,_,_,o,_,_,e,_⟩:=x;exact Heap.lt_size e
 | dT kvs=>obtain ⟨_,_,_,_,o,_,_,e,_⟩:=x;exact Heap.lt_size e
 | set S n=>obtain ⟨o,_,_,_,e,_⟩:=x;exact Heap.lt_size e
 | ins C dx fs=>obtain ⟨_,_,_,e,_⟩:=x;exact Heap.lt_size e
 | own y=>obtain ⟨_,e⟩:=x;exact Heap.lt_size e
 | xd fs=>obtain ⟨_,⟨_,_,_,e,_⟩,_⟩:=x;exact Heap.lt_size e
 | rng lo hi=>obtain ⟨_,_,_,e⟩:=x;exact Heap.lt_size e
 | frz ob u=>obtain ⟨e,_⟩:=x;exact Heap.lt_size e
 | tbl ps=>exact Heap.lt_size (show h.get? a=some _ from x)
 | met f y=>exact Heap.lt_size (show h.get? a=some _ from x)
 | ext φ => obtain ⟨_,⟨_,e⟩,_⟩:=x;exact Heap.lt_size e
theorem Paired.mapP {α β : Type} {F G : α -> β -> Prop} : ∀ {l₁:List α} {l₂:List β},Paired F l₁ l₂->(∀ a b,F a b->G a b)->Paired G l₁ l₂
 | _,_,.nil,_=>.nil
 | _,_,.cons r t,f=>.cons (f _ _ r) (Paired.mapP t f)
theorem ObjOk.stay (x:ObjOk P w H h a o) (k : ∀ b u,(b=a\/H b=some (.own a))->h.get? b=some u->h'.get? b=some u)
  (ho : ∀ b,H b=some (.own a)->H' b=some (.own a)) (ht : ∀ b xs,H b=some (.tup xs)->H' b=some (.tup xs)):ObjOk P w H' h' a o:=by
 induction o with
 | lst xs=>obtain ⟨z,its,n,r,e⟩:=x;exact ⟨z,its,n,r,k _ _ (.inl rfl) e⟩
 | tup xs=>obtain ⟨z,its,r,ob,e,c⟩:=x;exact ⟨z,its,r,ob,k _ _ (.inl rfl) e,c⟩
 | dK kvs=>obtain ⟨z,y,vs,r,ob,es,ep,e,c⟩:=x;exact ⟨z,y,vs,r,ob,es,ep,k _ _ (.inl rfl) e,c⟩
 | dT kvs =>
  obtain ⟨z,y,xs,r,ob,es,ep,e,c⟩:=x
  exact ⟨z,y,xs,Paired.mapP r λ p q z=>⟨z.1,ht _ _ z.2.1,z.2.2⟩,ob,es,ep,k _ _ (.inl rfl) e,c⟩
 | set S n=>obtain ⟨ob,es,ep,t,e,c⟩:=x;exact ⟨ob,es,ep,t,k _ _ (.inl rfl) e,c⟩
 | ins C dx fs =>
  obtain ⟨d,z,ne,e,mA,⟨od,es,ep,e2,c⟩,r⟩:=x
  exact ⟨ho _ d,z,ne,k _ _ (.inl rfl) e,mA,⟨od,es,ep,k _ _ (.inr d) e2,c⟩,r⟩
 | own y=>obtain ⟨ob,e⟩:=x;exact ⟨ob,k _ _ (.inl rfl) e⟩
 | xd fs=>obtain ⟨mA,⟨od,es,ep,e,c⟩,r⟩:=x;exact ⟨mA,⟨od,es,ep,k _ _ (.inl rfl) e,c⟩,r⟩
 | rng lo hi=>obtain ⟨t,u,v,e⟩:=x;exact ⟨t,u,v,k _ _ (.inl rfl) e⟩
 | frz ob u ih=>obtain ⟨e,q⟩:=x;exact ⟨k _ _ (.inl rfl) e,ih q⟩
 | tbl ps =>
  have e:h.get? a=some { cls:=.none,data:=.fields ps }:=x
  show h'.get? a=some { cls:=.none,data:=.fields ps }
  exact k a _ (.inl rfl) e
 | met f y =>
  have e:h.get? a=some (PySem.W.methodObj (.ref f) (.ref y)):=x
  show h'.get? a=some (PySem.W.methodObj (.ref f) (.ref y))
  exact k a _ (.inl rfl) e
 | ext φ => obtain ⟨p,⟨o,e⟩,st⟩:=x;exact ⟨st _ _ p λ o q=>k _ _ (.inl rfl) q,⟨o,k _ _ (.inl rfl) e⟩,st⟩
theorem HOk.lt (x:HOk P w H h) (e:H a=some o):a<h.objs.size:=(x a o e).lt
theorem HOk.fresh (x:HOk P w H h) (e:h.objs.size<=a):H a=none:=by
 cases q:H a with
 | none=>rfl
 | some u=>exact absurd (Nat.lt_of_lt_of_le (x.lt q) e) (Nat.lt_irrefl _)
theorem HOk.kept (x:HOk P w H h) (k : ∀ b u,h.get? b=some u->h'.get? b=some u):HOk P w H h':=λ a o e =>
 (x a o e).stay (λ b u _ q=>k b u q) (λ _ q=>q) λ _ _ q=>q
theorem HOk.laid (x:HOk P w H h) (k : ∀ b u,h.get? b=some u->h'.get? b=some u) (hp:h.objs.size<=a) (new:ObjOk P w (upd H a o) h' a o):HOk P w (upd H a o) h':=λ b u e=>by
 have hn:=x.fresh hp
 by_cases hb:b=a
 ·subst hb;rw [upd_same] at e;cases e;exact new
 ·rw [upd_ne hb] at e
  exact (x b u e).stay (λ c v _ q=>k c v q) (λ c q=>by rw [upd_ne (ne_of_none q hn)];exact q) λ c xs q=>by rw [upd_ne (ne_of_none q hn)];exact q
end
def Rd (H:Hp) (a:Addr) (u:HO):Prop:=H a=some u \/ ∃ o,H a=some (.frz o u)
theorem Rd.ok {P:Program} {w:World} {H:Hp} {h:Heap} {a:Addr} {u:HO} (r:Rd H a u) (x:HOk P w H h):ObjOk P w H h a u:=by
 rcases r with r | ⟨o,r⟩
 ·exact x a u r
 ·obtain ⟨_,q⟩:=x a _ r
  exact q
def Mut:Option HO->Prop
 | some (.lst _)=>True
 | some (.dK _)=>True
 | some (.dT _)=>True
 | some (.set _ _)=>True
 | some (.ins _ _ _)=>True
 | some (.ext _)=>True
 | _=>False
section
variable {P:Program} {w:World} {H:Hp} {h h':Heap} {x e:Addr} {o':HO}
theorem HOk.write (ok:HOk P w H h) (mu:Mut (H x)) (he:e=x\/H e=some (.own x)) (k : ∀ b u,b≠e->h.get? b=some u->h'.get? b=some u) (heo : ∃ u,h'.get? e=some u)
  (new:ObjOk P w (upd H x o') h' x o'):HOk P w (upd H x o') h':=λ b u q=>by
 have nown : ∀ c y,H c=some (.own y)->c≠x:=λ c y r z=>by subst z;rw [r] at mu;exact mu
 have ntup : ∀ c xs,H c=some (.tup xs)->c≠x:=λ c xs r z=>by subst z;rw [r] at mu;exact mu
 by_cases hb:b=x
 ·subst hb;rw [upd_same] at q;cases q;exact new
 ·rw [upd_ne hb] at q
  by_cases hbe:b=e
  ·have q':H b=some (.own x):=by
    rcases he with z | z
    ·exact absurd (hbe.trans z) hb
    ·rw [hbe];exact z
   rw [q] at q';cases q'
   obtain ⟨v,hv⟩:=heo
   exact ⟨v,by rw [hbe];exact hv⟩
  ·refine (ok b u q).stay (λ c v hc r=>k c v ?_ r) (λ c r=>by rw [upd_ne (nown c b r)];exact r) λ c xs r=>by rw [upd_ne (ntup c xs r)];exact r
   rcases hc with rfl | hc
   ·exact hbe
   ·rintro rfl
    rcases he with z | z
    ·exact nown c b hc z
    ·rw [hc] at z;cases z;exact hb rfl
end
structure Un (fs ex:List Addr) (H H':Hp) (h h':Heap):Prop where
 keep : ∀ b o,h.get? b=some o->H b=none->b∉fs->b∉ex->h'.get? b=some o
 slot : ∀ b o,h.get? b=some o->H b=none->b∈fs->b∉ex -> ∃ sl,h'.get? b=some { o with slots:=sl }
 free : ∀ b o,h.get? b=some o->H b=none->b∉ex->H' b=none
 there : ∀ b o,h.get? b=some o->b∉ex -> ∃ o',h'.get? b=some o'
 tups : ∀ b xs,H b=some (.tup xs)->H' b=some (.tup xs)
 frzs : ∀ b o u,H b=some (.frz o u)->H' b=some (.frz o u)
 tbls : ∀ b ps,H b=some (.tbl ps) -> ∃ more,H' b=some (.tbl (ps++more))
section
variable {fs fs' ex ex':List Addr} {H H1 H2:Hp} {h h1 h2 h':Heap} {a x e:Addr} {o:HO}
theorem Un.any (u:Un fs ex H H1 h h1) {b:Addr} {ob:Obj} (q:h.get? b=some ob) (n:H b=none) (hx:b∉ex) : ∃ sl,h1.get? b=some { ob with slots:=sl }:=by
 by_cases hb:b∈fs
 ·exact u.slot b ob q n hb hx
 ·exact ⟨ob.slots,u.keep b ob q n hb hx⟩
theorem Un.kept (k : ∀ b u,h.get? b=some u->h'.get? b=some u):Un fs ex H H h h' :=
 ⟨λ b ob q _ _ _=>k b ob q,λ b ob q _ _ _=>⟨ob.slots,k b ob q⟩,λ _ _ _ n _=>n,λ b ob q _=>⟨ob,k b ob q⟩,λ _ _ q=>q,λ _ _ _ q=>q,λ _ ps q=>⟨#[],by rw [q];simp⟩⟩
theorem Un.refl:Un fs ex H H h h:=Un.kept λ _ _ q=>q
theorem Un.laid (k : ∀ b u,h.get? b=some u->h'.get? b=some u) (hp:h.objs.size<=a) (hn:H a=none):Un fs ex H (upd H a o) h h' where
 keep:=λ b u q _ _ _=>k b u q
 slot:=λ b u q _ _ _=>⟨u.slots,k b u q⟩
 free:=λ b u q n _=>by rw [upd_ne (Nat.ne_of_lt (Nat.lt_of_lt_of_le (Heap.lt_size q) hp))];exact n
 there:=λ b u q _=>⟨u,k b u q⟩
 tups:=λ b xs q=>by rw [upd_ne (ne_of_none q hn)];exact q
 frzs:=λ b u xs q=>by rw [upd_ne (ne_of_none q hn)];exact q
 tbls:=λ b ps q=>⟨#[],by rw [upd_ne (ne_of_none q hn),q];simp⟩
theorem Un.write (mu:Mut (H x)) (he:e=x\/H e=some (.own x)) (k : ∀ b u,b≠e->h.get? b=some u->h'.get? b=some u) (heo : ∃ u,h'.get? e=some u):Un fs ex H (upd H x o) h h':=by
 have hx : ∀ b,H b=none->b≠x:=λ b n z=>by subst z;rw [n] at mu;exact mu
 have hb : ∀ b,H b=none->b≠e:=λ b n z=>by
  subst z
  rcases he with r | r
  ·exact hx b n r
  ·rw [n] at r;cases r
 have hm : ∀ b u,H b=some u -> ¬ Mut (some u)->b≠x:=λ b u q nm z=>by subst z;rw [q] at mu;exact nm mu
 refine ⟨λ b u q n _ _=>k b u (hb b n) q,λ b u q n _ _=>⟨u.slots,k b u (hb b n) q⟩,λ b u q n _=>by rw [upd_ne (hx b n)];exact n,λ b u q _=>?_,
  λ b xs q=>by rw [upd_ne (hm b _ q λ z=>z)];exact q,λ b u xs q=>by rw [upd_ne (hm b _ q λ z=>z)];exact q,λ b ps q=>⟨#[],by rw [upd_ne (hm b _ q λ z=>z),q];simp⟩⟩
 by_cases hbe:b=e
 ·subst hbe;exact heo
 ·exact ⟨u,k b u hbe q⟩
end
def trk (h:Heap) (H:Hp):List Addr:=(List.range h.objs.size).filter λ a=>(H a).isSome
def hidT (h:Heap) (H:Hp):Heap:=PySem.W.hideAll h (trk h H)
theorem hidT_size (h:Heap) (H:Hp):(hidT h H).objs.size=h.objs.size:=PySem.W.hideAll_size _ _
theorem hidT_get {h:Heap} {H:Hp} {b:Addr} {o:Obj} (e:h.get? b=some o) (n:H b=none):(hidT h H).get? b=some o :=
 PySem.W.hideAll_get _ e λ hm=>by
  have q:(H b).isSome=true:=(List.mem_filter.mp hm).2
  rw [n] at q;simp at q
theorem of_hidT {h:Heap} {H:Hp} {b:Addr} {o:Obj} (e:(hidT h H).get? b=some o):h.get? b=some o/\H b=none:=by
 have e':h.get? b=some o:=PySem.W.of_hideAll (trk h H) e
 refine ⟨e',?_⟩
 cases q:H b with
 | none=>rfl
 | some x =>
  have hm:b∈trk h H:=List.mem_filter.mpr ⟨List.mem_range.mpr (Heap.lt_size e'),by simp [q]⟩
  have z:(hidT h H).get? b=none:=PySem.W.hideAll_none (trk h H) hm
  rw [z] at e;cases e
structure Mod (K:PySem.W.Frag) (mg:Str->Option Value) (base:Heap):Prop where
 kin:K.In base
 glob:base.Ns mainGlobals mg
 blt : ∃ mb,base.Ns builtinsNs mb /\ ∀ x:Str,x ≠ "__name__" -> mb x=bootBuiltins x
 nolimit:base.NoLimit
structure Cx where
 prog:Program
 w:World
 K:PySem.W.Frag
 mg:Str->Option Value
 base:Heap
 A:Around
 N:List Str
 s₀:Shared
 H₀:Hp
 env:Env
 outer:List Env
 stack:List Env
 ex:List Addr
 fn:Str->Bool
 calm:Bool
 warm:Bool
 pn:List (Addr×Obj)
 xe:Value->Shared->Prop
def frs (l:List Env):List Addr:=l.filterMap (·.frame)
abbrev Cx.fs (X:Cx):List Addr:=frs X.outer
def Vis (sc:Scope) (x:Str):Prop:=sc.names.lookup x=some .local\/sc.names.lookup x=some .cell\/sc.names.lookup x=some .free
def Loc (sc:Scope) (x:Str):Prop:=sc.names.lookup x=some .local\/sc.names.lookup x=some .cell
def Look (env:Env) (h:Heap) (m:Str->Option Value) (x:Str) (u:Value):Prop :=
 (env.kindOf x=some .local/\m x=some u)\/((env.kindOf x=some .cell\/env.kindOf x=some .free) /\ ∃ c,env.cells.lookup x=some c/\h.IsCell c (some u))
def HdIn (A:Around) (h:Heap) (H:Hp) (fs ex:List Addr):Prop :=
 A.handled=none \/ ∃ (e:Addr) (oe:Obj) (vs:Array Value),A.handled=some (.ref e)/\h.get? e=some oe/\H e=none/\e∉fs/\e∉ex/\oe.data=.fields vs/\vs[2]?=some .none
structure Cx.Ok (X:Cx):Prop where
 mod:Mod X.K X.mg X.base
 kind:X.env.scope.kind=.function
 glob:X.env.globals=mainGlobals
 blt:X.env.builtins=builtinsNs
 above:X.s₀.heap.objs.size<=X.env.locals
 inj : ∀ x y c,X.env.cells.lookup x=some c->X.env.cells.lookup y=some c->x=y
 has : ∀ x,(X.env.kindOf x=some .cell\/X.env.kindOf x=some .free) -> ∃ c,X.env.cells.lookup x=some c
 cab : ∀ x c,X.fn x=true->X.env.cells.lookup x=some c->X.s₀.heap.objs.size<=c
 hd:(X.calm=true->X.A.handled=none)/\(X.warm=true->HdIn X.A X.s₀.heap X.H₀ X.fs X.ex)
 frames:X.A.frames=some X.stack
 stk:X.stack=X.outer\/(X.stack=X.env::X.outer/\X.env.frame=some X.env.locals)
 exf : ∀ b∈X.ex,b≠X.env.locals /\ ∀ x c,X.env.cells.lookup x=some c->c≠b
 bs : ∀ b o,X.base.get? b=some o->X.s₀.heap.get? b=some o/\X.H₀ b=none
 bsz:X.base.objs.size<=X.s₀.heap.objs.size
 noex : ∀ b o,X.base.get? b=some o->b∉X.ex
 exfs : ∀ b∈X.ex,b∉X.fs
 funs:X.s₀.heap.FunFrames X.base X.outer
 frf : ∀ b∈X.fs,X.H₀ b=none
structure Inv (X:Cx) (pins:List (Addr×Obj)) (σ:List (Option V)) (H:Hp) (s:Shared):Prop where
 ok:X.Ok
 os:s.os=X.s₀.os
 bare:AllBare s.gens
 base:Un X.fs X.ex X.H₀ H X.s₀.heap s.heap
 loc : ∃ m,s.heap.Ns X.env.locals m /\ ∀ (i:Nat) (x:Str) (v:V),X.N[i]?=some x->σ[i]?=some (some v)->Vis X.env.scope x -> ∃ u,RelV v u/\Look X.env s.heap m x u
 cell : ∀ x c,X.env.cells.lookup x=some c -> ∃ v,s.heap.IsCell c v
 free:H X.env.locals=none
 freeC : ∀ x c,X.env.cells.lookup x=some c->H c=none
 pin : ∀ p∈X.pn++pins,s.heap.get? p.1=some p.2/\H p.1=none/\p.1≠X.env.locals/\p.1∉X.fs /\ ∀ v,p.2.data≠.cell v
 hok:HOk X.prog X.w H s.heap
 len:σ.length=X.N.length
section
variable {X:Cx} {pins:List (Addr×Obj)} {σ:List (Option V)} {H H':Hp} {s:Shared} {h':Heap}
theorem Cx.Ok.nofr (ok:X.Ok) {b:Addr} {o:Obj} (e:X.base.get? b=some o):b∉X.fs:=λ hb=>by
 have:=(ok.funs.mem hb).1
 rw [e] at this;cases this
theorem Inv.bs (I:Inv X pins σ H s) : ∀ b o,X.base.get? b=some o->s.heap.get? b=some o/\H b=none:=λ b o e =>
 ⟨I.base.keep b o (I.ok.bs b o e).1 (I.ok.bs b o e).2 (I.ok.nofr e) (I.ok.noex b o e),I.base.free b o (I.ok.bs b o e).1 (I.ok.bs b o e).2 (I.ok.noex b o e)⟩
theorem Inv.bk (I:Inv X pins σ H s) : ∀ b o,X.base.get? b=some o->s.heap.get? b=some o:=λ b o e=>(I.bs b o e).1
theorem Inv.mod (I:Inv X pins σ H s):Mod X.K X.mg X.base:=I.ok.mod
theorem Inv.hdIn (I:Inv X pins σ H s) (hw:X.warm=true):HdIn X.A s.heap H X.fs X.ex :=
 (I.ok.hd.2 hw).imp id λ ⟨e,oe,vs,h1,h2,h3,h4,h5,r⟩=>⟨e,oe,vs,h1,I.base.keep e oe h2 h3 h4 h5,I.base.free e oe h2 h3 h5,h4,h5,r⟩
theorem Inv.hin (I:Inv X pins σ H s) (hw:X.warm=true):Hd.In X.A s.heap :=
 (I.hdIn hw).imp id λ ⟨e,oe,vs,h1,h2,_,_,_,r⟩=>⟨e,oe,vs,h1,h2,r⟩
theorem Inv.kIn (I:Inv X pins σ H s):X.K.In s.heap:=I.ok.mod.kin.keeps I.bk
theorem Inv.lt (I:Inv X pins σ H s):X.env.locals<s.heap.objs.size:=let ⟨_,hn,_⟩:=I.loc;hn.lt
theorem Inv.sz (I:Inv X pins σ H s):X.s₀.heap.objs.size<=s.heap.objs.size:=Nat.le_trans I.ok.above (Nat.le_of_lt I.lt)
theorem Inv.nofs (I:Inv X pins σ H s) {a:Addr} (h:s.heap.objs.size<=a):a∉X.fs:=λ hb=>by
 obtain ⟨_,o,ho,_⟩:=I.ok.funs.mem hb
 exact absurd (Nat.lt_of_lt_of_le (Heap.lt_size ho) (Nat.le_trans I.sz h)) (Nat.lt_irrefl _)
theorem Inv.cne (I:Inv X pins σ H s) : ∀ x c,X.env.cells.lookup x=some c->c≠X.env.locals:=λ x c e z=>by
 obtain ⟨v,o,ho,hd⟩:=I.cell x c e
 obtain ⟨m,⟨o',es,ep,ho',hd',_⟩,_⟩:=I.loc
 rw [z,ho'] at ho;cases ho;rw [hd'] at hd;cases hd
theorem Inv.funs (I:Inv X pins σ H s):s.heap.FunFrames X.base X.outer:=by
 have all : ∀ (l:List Env),(∀ b∈frs l,b∈X.fs)->X.s₀.heap.FunFrames X.base l->s.heap.FunFrames X.base l:=by
  intro l
  induction l with
  | nil=>intro _ _;trivial
  | cons env r ih =>
   intro hs hl
   obtain ⟨hk,⟨L,o,hf,hn,ho,hd⟩,hr⟩:=hl
   have hL:L∈X.fs:=hs L (by unfold frs;rw [List.filterMap_cons,hf];exact List.mem_cons_self)
   obtain ⟨sl,e⟩:=I.base.slot L o ho (I.ok.frf L hL) hL λ z=>I.ok.exfs L z hL
   exact ⟨hk,⟨L,_,hf,hn,e,hd⟩,ih (λ b hb=>hs b (by unfold frs;rw [List.filterMap_cons,hf];exact List.mem_cons_of_mem _ hb)) hr⟩
 exact all X.outer (λ _ hb=>hb) I.ok.funs
theorem Inv.stack (I:Inv X pins σ H s):s.heap.FunFrames X.base X.stack:=by
 rcases I.ok.stk with e | ⟨e,hf⟩
 ·rw [e];exact I.funs
 ·rw [e]
  obtain ⟨m,hn,_⟩:=I.loc
  refine .cons (by rw [I.ok.kind];decide) hf hn ?_ I.funs
  exact Heap.get?_none_of_le (Nat.le_trans I.ok.bsz I.ok.above)
theorem Inv.stkSub (I:Inv X pins σ H s) : ∀ b∈frs X.stack,b∈X.env.locals::X.fs:=λ b hb=>by
 rcases I.ok.stk with e | ⟨e,hf⟩
 ·rw [e] at hb;exact List.mem_cons_of_mem _ hb
 ·rw [e] at hb
  unfold frs at hb
  rw [List.filterMap_cons,hf] at hb
  exact hb
theorem Inv.hdC {fp:List Addr} (I:Inv X pins σ H s) (hw:X.warm=true) (f : ∀ b∈fp,b∈X.ex\/X.s₀.heap.objs.size<=b):HdIn X.A s.heap H (frs X.stack) fp :=
 (I.ok.hd.2 hw).imp id λ ⟨e,oe,vs,h1,h2,h3,h4,h5,r⟩=>⟨e,oe,vs,h1,I.base.keep e oe h2 h3 h4 h5,I.base.free e oe h2 h3 h5,
  λ z=>(List.mem_cons.mp (I.stkSub e z)).elim (λ q=>absurd (Nat.lt_of_lt_of_le (Heap.lt_size h2) (by rw [q];exact I.ok.above)) (Nat.lt_irrefl _)) h4,
  λ z=>(f e z).elim h5 λ q=>absurd (Nat.lt_of_lt_of_le (Heap.lt_size h2) q) (Nat.lt_irrefl _),r⟩
theorem Inv.stkFree (I:Inv X pins σ H s) : ∀ b∈frs X.stack,H b=none:=λ b hb=>by
 rcases List.mem_cons.mp (I.stkSub b hb) with e | hb
 ·rw [e];exact I.free
 ·obtain ⟨_,o,ho,_⟩:=I.ok.funs.mem hb
  exact I.base.free b o ho (I.ok.frf b hb) λ z=>I.ok.exfs b z hb
theorem Inv.step {g':Array GenState} {t':Nat} {d':Drawn} {ch:List Addr} (I:Inv X pins σ H s)
  (hch : ∀ b∈ch,(b∈X.ex\/X.s₀.heap.objs.size<=b)/\b≠X.env.locals/\(∀ x c,X.env.cells.lookup x=some c->c≠b) /\ ∀ p∈X.pn++pins,p.1≠b)
  (keep : ∀ b o,b≠X.env.locals->b∉X.fs->b∉ch->s.heap.get? b=some o->H b=none->h'.get? b=some o)
  (slot : ∀ b o,b≠X.env.locals->b∈X.fs->b∉ch->s.heap.get? b=some o->H b=none -> ∃ sl,h'.get? b=some { o with slots:=sl }) (free : ∀ b o,b∉ch->s.heap.get? b=some o->H b=none->H' b=none)
  (there : ∀ b o,b∉ch->s.heap.get? b=some o -> ∃ o',h'.get? b=some o')
  (tups : ∀ b xs,H b=some (.tup xs)->H' b=some (.tup xs)) (frzs : ∀ b o u,H b=some (.frz o u)->H' b=some (.frz o u)) (tbls : ∀ b ps,H b=some (.tbl ps) -> ∃ more,H' b=some (.tbl (ps++more)))
  (ns : ∀ m,s.heap.Ns X.env.locals m->h'.Ns X.env.locals m) (hok:HOk X.prog X.w H' h') (hg:AllBare g') :
  Inv X pins σ H' { s with heap:=h',gens:=g',drawn:=d',toks:=t' }:=by
 have neL : ∀ b o,X.s₀.heap.get? b=some o->b≠X.env.locals:=λ b o e=>Nat.ne_of_lt (Nat.lt_of_lt_of_le (Heap.lt_size e) I.ok.above)
 have neC : ∀ b o,X.s₀.heap.get? b=some o->b∉X.ex->b∉ch:=λ b o e hx hb=>by
  rcases (hch b hb).1 with z | z
  ·exact hx z
  ·exact absurd (Nat.lt_of_lt_of_le (Heap.lt_size e) z) (Nat.lt_irrefl _)
 have cellK : ∀ x c,X.env.cells.lookup x=some c -> ∀ v,s.heap.IsCell c v->h'.IsCell c v:=λ x c e v ⟨o,ho,hd⟩=>by
  have nch:c∉ch:=λ z=>(hch c z).2.2.1 x c e rfl
  by_cases hc:c∈X.fs
  ·obtain ⟨sl,q⟩:=slot c o (I.cne x c e) hc nch ho (I.freeC x c e)
   exact ⟨_,q,hd⟩
  ·exact ⟨o,keep c o (I.cne x c e) hc nch ho (I.freeC x c e),hd⟩
 refine ⟨I.ok,I.os,hg,⟨λ b o e n hb hx=>?_,λ b o e n hb hx=>?_,λ b o e n hx=>?_,λ b o e hx=>?_,λ b xs e=>tups b xs (I.base.tups b xs e),λ b o xs e=>frzs b o xs (I.base.frzs b o xs e),λ b ps e=>?_⟩,?_,λ x c e=>?_,?_,λ x c e=>?_,λ p hp=>?_,hok,I.len⟩
 ·exact keep b o (neL b o e) hb (neC b o e hx) (I.base.keep b o e n hb hx) (I.base.free b o e n hx)
 ·obtain ⟨sl,e1⟩:=I.base.slot b o e n hb hx
  obtain ⟨sl',e2⟩:=slot b _ (neL b o e) hb (neC b o e hx) e1 (I.base.free b o e n hx)
  exact ⟨sl',e2⟩
 ·obtain ⟨o',e1⟩:=I.base.there b o e hx
  exact free b o' (neC b o e hx) e1 (I.base.free b o e n hx)
 ·obtain ⟨o',e1⟩:=I.base.there b o e hx
  exact there b o' (neC b o e hx) e1
 ·obtain ⟨m1,e1⟩:=I.base.tbls b ps e
  obtain ⟨m2,e2⟩:=tbls b _ e1
  exact ⟨m1++m2,by rw [e2,Array.append_assoc]⟩
 ·obtain ⟨m,hn,hl⟩:=I.loc
  refine ⟨m,ns m hn,λ i x v e1 e2 e3=>?_⟩
  obtain ⟨u,r,l⟩:=hl i x v e1 e2 e3
  refine ⟨u,r,?_⟩
  rcases l with l | ⟨k,c,e,z⟩
  ·exact .inl l
  ·exact .inr ⟨k,c,e,cellK x c e _ z⟩
 ·obtain ⟨v,z⟩:=I.cell x c e
  exact ⟨v,cellK x c e v z⟩
 ·obtain ⟨m,⟨o,_,_,ho,_⟩,_⟩:=I.loc
  exact free _ o (λ z=>(hch _ z).2.1 rfl) ho I.free
 ·obtain ⟨v,o,ho,hd⟩:=I.cell x c e
  exact free c o (λ z=>(hch c z).2.2.1 x c e rfl) ho (I.freeC x c e)
 ·obtain ⟨e,n,ne,nf,d⟩:=I.pin p hp
  have nch:p.1∉ch:=λ z=>(hch p.1 z).2.2.2 p hp rfl
  exact ⟨keep p.1 p.2 ne nf nch e n,free p.1 p.2 nch e n,ne,nf,d⟩
theorem Inv.un {t':Nat} (I:Inv X pins σ H s) (u:Un X.fs [] H H' s.heap h') (hok:HOk X.prog X.w H' h'):Inv X pins σ H' { s with heap:=h',toks:=t' }:=by
 obtain ⟨m,⟨o,es,ep,ho,r⟩,_⟩:=id I.loc
 obtain ⟨sl,hL⟩:=u.any ho I.free (by simp)
 exact I.step (g':=s.gens) (d':=s.drawn) (ch:=[]) (λ _ z=>nomatch z) (λ b o _ hb _ e n=>u.keep b o e n hb (by simp)) (λ b o _ hb _ e n=>u.slot b o e n hb (by simp)) (λ b o _ e n=>u.free b o e n (by simp)) (λ b o _ e=>u.there b o e (by simp)) u.tups u.frzs u.tbls (λ m' hm=>by
  obtain ⟨o',es',ep',ho',r'⟩:=hm
  rw [ho] at ho';cases ho'
  exact ⟨_,es',ep',hL,r'⟩) hok I.bare
theorem Inv.call {g':Array GenState} {t':Nat} {d':Drawn} {ch:List Addr} (I:Inv X pins σ H s) (u:Un (frs X.stack) ch H H' s.heap h') (hok:HOk X.prog X.w H' h') (hg:AllBare g')
  (hch : ∀ b∈ch,(b∈X.ex\/X.s₀.heap.objs.size<=b)/\b≠X.env.locals/\(∀ x c,X.env.cells.lookup x=some c->c≠b) /\ ∀ p∈X.pn++pins,p.1≠b) :
  Inv X pins σ H' { s with heap:=h',gens:=g',drawn:=d',toks:=t' }:=by
 obtain ⟨m,⟨o,es,ep,ho,r⟩,_⟩:=id I.loc
 obtain ⟨sl,hL⟩:=u.any ho I.free λ z=>(hch _ z).2.1 rfl
 exact I.step (ch:=ch) hch (λ b o hL hb hc e n=>u.keep b o e n (λ z=>(List.mem_cons.mp (I.stkSub b z)).elim hL hb) hc) (λ b o _ _ hc e n=>u.any e n hc) (λ b o hc e n=>u.free b o e n hc) (λ b o hc e=>u.there b o e hc) u.tups u.frzs u.tbls (λ m' hm=>by
  obtain ⟨o',es',ep',ho',r'⟩:=hm
  rw [ho] at ho';cases ho'
  exact ⟨_,es',ep',hL,r'⟩) hok hg
theorem Inv.turned {t':Nat} {it:Addr} (I:Inv X pins σ H s) (k : ∀ b o,b≠it->s.heap.get? b=some o->h'.get? b=some o) (hn:H it=none) (hL:it≠X.env.locals)
  (h1:it∈X.ex\/X.s₀.heap.objs.size<=it) (h2 : ∀ x c,X.env.cells.lookup x=some c->c≠it) (h3 : ∀ p∈X.pn++pins,p.1≠it):Inv X pins σ H { s with heap:=h',toks:=t' }:=by
 have nit : ∀ b u,H b=some u->b≠it:=λ b u e z=>by rw [z,hn] at e;cases e
 refine I.step (g':=s.gens) (d':=s.drawn) (ch:=[it]) (λ b hb=>?_) (λ b o _ _ hc e _=>k b o (λ z=>hc (by simp [z])) e) (λ b o _ _ hc e _=>⟨o.slots,k b o (λ z=>hc (by simp [z])) e⟩) (λ _ _ _ _ n=>n)
  (λ b o hc e=>⟨o,k b o (λ z=>hc (by simp [z])) e⟩) (λ _ _ e=>e) (λ _ _ _ e=>e) (λ b ps e=>⟨#[],by rw [e];simp⟩) (λ m hm=>?_) (λ b u e=>?_) I.bare
 ·have e:b=it:=by simpa using hb
  subst e
  exact ⟨h1,hL,h2,h3⟩
 ·obtain ⟨o,es,ep,ho,r⟩:=hm
  exact ⟨o,es,ep,k _ o (Ne.symm hL) ho,r⟩
 ·refine (I.hok b u e).stay (λ c v hc q=>k c v ?_ q) (λ _ q=>q) λ _ _ q=>q
  rcases hc with z | z
  ·rw [z];exact nit b u e
  ·exact nit c _ z
theorem Inv.tok (I:Inv X pins σ H s) (t:Nat):Inv X pins σ H { s with toks:=t }:=I.un (h':=s.heap) (t':=t) Un.refl I.hok
theorem Inv.kept {t':Nat} (I:Inv X pins σ H s) (k : ∀ b u,s.heap.get? b=some u->h'.get? b=some u):Inv X pins σ H { s with heap:=h',toks:=t' }:=I.un (Un.kept k) (I.hok.kept k)
theorem Inv.laid {a:Addr} {o:HO} {t':Nat} (I:Inv X pins σ H s) (k : ∀ b u,s.heap.get? b=some u->h'.get? b=some u) (hp:s.heap.objs.size<=a) (new:ObjOk X.prog X.w (upd H a o) h' a o) :
  Inv X pins σ (upd H a o) { s with heap:=h',toks:=t' }:=I.un (Un.laid k hp (I.hok.fresh hp)) (I.hok.laid k hp new)
theorem Inv.write {x e:Addr} {o:HO} {t':Nat} (I:Inv X pins σ H s) (mu:Mut (H x)) (he:e=x\/H e=some (.own x)) (k : ∀ b u,b≠e->s.heap.get? b=some u->h'.get? b=some u) (heo : ∃ u,h'.get? e=some u)
  (new:ObjOk X.prog X.w (upd H x o) h' x o):Inv X pins σ (upd H x o) { s with heap:=h',toks:=t' }:=I.un (Un.write mu he k heo) (I.hok.write mu he k heo new)
theorem Inv.pins_of {pins':List (Addr×Obj)} (I:Inv X pins σ H s) (h : ∀ p∈pins',s.heap.get? p.1=some p.2/\H p.1=none/\p.1≠X.env.locals/\p.1∉X.fs /\ ∀ v,p.2.data≠.cell v):Inv X pins' σ H s :=
 ⟨I.ok,I.os,I.bare,I.base,I.loc,I.cell,I.free,I.freeC,λ p hp=>(List.mem_append.mp hp).elim (λ z=>I.pin p (List.mem_append_left _ z)) (h p),I.hok,I.len⟩
theorem nodup_ix {N:List Str} (hN:N.Nodup) {i j:Nat} {x:Str} (a:N[i]?=some x) (b:N[j]?=some x):i=j:=by
 obtain ⟨h1,e1⟩:=List.getElem?_eq_some_iff.mp a
 obtain ⟨h2,e2⟩:=List.getElem?_eq_some_iff.mp b
 exact (List.getElem_inj hN).mp (e1.trans e2.symm)
theorem store_ok2 {M:Model} {A:Around} {E:Value->Shared->Prop} {i:Nat} {x:Str} {v:V} {u:Value} {Q:Unit->Shared->Prop} (I:Inv X pins σ H s) (hN:X.N.Nodup) (hi:X.N[i]?=some x) (hx:Loc X.env.scope x) (r:RelV v u)
  (h : ∀ s',Inv X pins (σ.set i (some v)) H s'->(∃ a,Heap.SameBut a s.heap s'.heap/\(a=X.env.locals\/X.env.cells.lookup x=some a))->Q () s') (hf:X.fn x=true\/X.env.scope.names.lookup x=some .local:=by first | exact .inl rfl | exact .inr rfl | assumption):wpAny M A (storeName X.env x u) Q E s:=by
 obtain ⟨m,hn,hl⟩:=id I.loc
 have hcls:(X.env.scope.kind == .class||(X.env.scope.kind == .module&&X.env.locals != X.env.globals))=false:=by rw [I.ok.kind];rfl
 have hiσ:i < σ.length:=by rw [I.len];exact (List.getElem?_eq_some_iff.mp hi).1
 have cne:=I.cne
 have tracked : ∀ {a:Addr} {h':Heap},(∃ o,s.heap.get? a=some o/\H a=none)->Heap.SameBut a s.heap h'->HOk X.prog X.w H h':=λ {a h'} ha hs b ob e=>by
  obtain ⟨_,_,hfree⟩:=ha
  refine (I.hok b ob e).stay (λ c w' hc q=>(hs.2 c ?_).trans q) (λ _ q=>q) λ _ _ q=>q
  rintro rfl
  rcases hc with rfl | hc
  ·rw [hfree] at e;cases e
  ·rw [hfree] at hc;cases hc
 rcases hx with hk | hk
 ·refine wpAny_storeName_local hk hn (λ h' hn' hs=>?_) hcls
  obtain ⟨oL,_,_,hoL,_⟩:=id hn
  refine h _ ⟨I.ok,I.os,I.bare,⟨λ b o e n hb hx=>?_,λ b o e n hb hx=>?_,I.base.free,λ b o e hx=>?_,I.base.tups,I.base.frzs,I.base.tbls⟩,⟨_,hn',λ j y v' e1 e2 e3=>?_⟩,λ y c e=>?_,I.free,I.freeC,λ p hp=>?_,tracked ⟨oL,hoL,I.free⟩ hs,by simpa using I.len⟩ ⟨_,hs,.inl rfl⟩
  ·exact (hs.2 b (Nat.ne_of_lt (Nat.lt_of_lt_of_le (Heap.lt_size e) I.ok.above))).trans (I.base.keep b o e n hb hx)
  ·obtain ⟨sl,e1⟩:=I.base.slot b o e n hb hx
   exact ⟨sl,(hs.2 b (Nat.ne_of_lt (Nat.lt_of_lt_of_le (Heap.lt_size e) I.ok.above))).trans e1⟩
  ·obtain ⟨o',e1⟩:=I.base.there b o e hx
   exact ⟨o',(hs.2 b (Nat.ne_of_lt (Nat.lt_of_lt_of_le (Heap.lt_size e) I.ok.above))).trans e1⟩
  ·by_cases hj:j=i
   ·subst hj
    rw [hi] at e1;cases e1
    rw [List.getElem?_set_self hiσ] at e2
    cases e2
    exact ⟨u,r,.inl ⟨hk,by simp⟩⟩
   ·rw [List.getElem?_set_ne (Ne.symm hj)] at e2
    obtain ⟨u',r',q⟩:=hl j y v' e1 e2 e3
    refine ⟨u',r',?_⟩
    rcases q with ⟨k,e⟩ | ⟨k,c,e,z⟩
    ·refine .inl ⟨k,?_⟩
     have:y≠x:=λ e=>hj (nodup_ix hN e1 (e ▸ hi))
     simp [this,e]
    ·exact .inr ⟨k,c,e,z.sameBut hs (cne y c e)⟩
  ·obtain ⟨w',z⟩:=I.cell y c e
   exact ⟨w',z.sameBut hs (cne y c e)⟩
  ·obtain ⟨e,n,ne,nf,d⟩:=I.pin p hp
   exact ⟨(hs.2 p.1 ne).trans e,n,ne,nf,d⟩
 ·have hfn:X.fn x=true:=by
   rcases hf with z | z
   ·exact z
   ·rw [z] at hk;cases hk
  obtain ⟨c,hc⟩:=I.ok.has x (.inl hk)
  obtain ⟨w',z⟩:=I.cell x c hc
  refine wpAny_storeName_cell I.ok.kind hk hc z (λ h' hc' hs=>?_)
  obtain ⟨oc,hoc,hocd⟩:=id z
  refine h { s with heap:=h' } ⟨I.ok,I.os,I.bare,⟨λ b o e n hb hx=>?_,λ b o e n hb hx=>?_,I.base.free,λ b o e hx=>?_,I.base.tups,I.base.frzs,I.base.tbls⟩,⟨m,hn.sameBut hs (Ne.symm (cne x c hc)),λ j y v' e1 e2 e3=>?_⟩,λ y c' e=>?_,I.free,I.freeC,λ p hp=>?_,tracked ⟨oc,hoc,I.freeC x c hc⟩ hs,by simpa using I.len⟩ ⟨c,hs,.inr hc⟩
  ·exact (hs.2 b (Nat.ne_of_lt (Nat.lt_of_lt_of_le (Heap.lt_size e) (I.ok.cab x c hfn hc)))).trans (I.base.keep b o e n hb hx)
  ·obtain ⟨sl,e1⟩:=I.base.slot b o e n hb hx
   exact ⟨sl,(hs.2 b (Nat.ne_of_lt (Nat.lt_of_lt_of_le (Heap.lt_size e) (I.ok.cab x c hfn hc)))).trans e1⟩
  ·obtain ⟨o',e1⟩:=I.base.there b o e hx
   exact ⟨o',(hs.2 b (Nat.ne_of_lt (Nat.lt_of_lt_of_le (Heap.lt_size e) (I.ok.cab x c hfn hc)))).trans e1⟩
  ·by_cases hj:j=i
   ·subst hj
    rw [hi] at e1;cases e1
    rw [List.getElem?_set_self hiσ] at e2
    cases e2
    exact ⟨u,r,.inr ⟨.inl hk,c,hc,hc'⟩⟩
   ·rw [List.getElem?_set_ne (Ne.symm hj)] at e2
    obtain ⟨u',r',q⟩:=hl j y v' e1 e2 e3
    refine ⟨u',r',?_⟩
    rcases q with q | ⟨k,c',e,z'⟩
    ·exact .inl q
    ·refine .inr ⟨k,c',e,z'.sameBut hs ?_⟩
     rintro rfl
     exact hj (nodup_ix hN e1 (I.ok.inj _ _ _ e hc ▸ hi))
  ·by_cases hcc:c'=c
   ·subst hcc;exact ⟨_,hc'⟩
   ·obtain ⟨w2,z2⟩:=I.cell y c' e
    exact ⟨w2,z2.sameBut hs hcc⟩
  ·obtain ⟨e,n,ne,nf,d⟩:=I.pin p hp
   refine ⟨(hs.2 p.1 ?_).trans e,n,ne,nf,d⟩
   intro q
   rw [q,hoc] at e
   have q':oc=p.2:=Option.some.inj e
   exact d w' (by rw [<-q'];exact hocd)
theorem store_ok {M:Model} {A:Around} {E:Value->Shared->Prop} {i:Nat} {x:Str} {v:V} {u:Value} {Q:Unit->Shared->Prop} (I:Inv X pins σ H s) (hN:X.N.Nodup) (hi:X.N[i]?=some x) (hx:Loc X.env.scope x) (r:RelV v u)
  (h : ∀ s',Inv X pins (σ.set i (some v)) H s'->Q () s') (hf:X.fn x=true\/X.env.scope.names.lookup x=some .local:=by first | exact .inl rfl | exact .inr rfl | assumption):wpAny M A (storeName X.env x u) Q E s :=
 store_ok2 I hN hi hx r (λ s' I' _=>h s' I') hf
theorem Inv.call' {s':Shared} {ch:List Addr} (I:Inv X pins σ H s) (ho:s'.os=s.os) (u:Un (frs X.stack) ch H H' s.heap s'.heap) (hok:HOk X.prog X.w H' s'.heap) (hg:AllBare s'.gens)
  (hch : ∀ b∈ch,(b∈X.ex\/X.s₀.heap.objs.size<=b)/\b≠X.env.locals/\(∀ x c,X.env.cells.lookup x=some c->c≠b) /\ ∀ p∈X.pn++pins,p.1≠b):Inv X pins σ H' s':=by
 obtain ⟨h',g',d',t',o'⟩:=s'
 have e:o'=s.os:=ho
 subst e
 exact I.call (g':=g') (t':=t') (d':=d') u hok hg hch
end
abbrev XK:=Value->Option Addr->Hp->Prop
abbrev St:=List (Option V)
abbrev VK:=V->Hp->Prop
abbrev TE:=St->Hp->VK->Prop
abbrev TT:=St->Hp->(Bool->Hp->Prop)->Prop
abbrev TA:=St->Hp->(List V->Hp->Prop)->Prop
structure Ends where
 nx:St->Hp->Prop
 rt:VK
 bk:St->Hp->Prop:=λ _ _=>False
 ct:St->Hp->Prop:=λ _ _=>False
abbrev TS:=Ends->St->Hp->Prop
def EP (X:Cx) (pins:List (Addr×Obj)) (σ:St) (Q:VK) (u:Value) (s':Shared):Prop := ∃ v H',Inv X pins σ H' s'/\RelV v u/\Q v H'
def TP (X:Cx) (pins:List (Addr×Obj)) (σ:St) (Q:Bool->Hp->Prop) (b:Bool) (s':Shared):Prop := ∃ H',Inv X pins σ H' s'/\Q b H'
def AP (X:Cx) (pins:List (Addr×Obj)) (σ:St) (Q:List V->Hp->Prop) (us:List Value) (s':Shared):Prop := ∃ vs H',Inv X pins σ H' s'/\Vals vs us/\Q vs H'
def SP (X:Cx) (pins:List (Addr×Obj)) (D:Ends) (f:Flow) (s':Shared):Prop :=
 match f with
 | .next => ∃ σ' H',Inv X pins σ' H' s'/\D.nx σ' H'
 | .brk => ∃ σ' H',Inv X pins σ' H' s'/\D.bk σ' H'
 | .cont => ∃ σ' H',Inv X pins σ' H' s'/\D.ct σ' H'
 | .ret u => ∃ v σ' H',Inv X pins σ' H' s'/\RelV v u/\D.rt v H'
def PE (X:Cx) (e:Expr) (t:TE):Prop :=
 ∀ (pins:List (Addr×Obj)) (s:Shared) (σ:St) (H:Hp) (Q:VK),Inv X pins σ H s->t σ H Q->wpAny (model X.prog X.w) X.A (eval e X.env) (EP X pins σ Q) X.xe s
def PT (X:Cx) (e:Expr) (t:TT):Prop :=
 ∀ (pins:List (Addr×Obj)) (s:Shared) (σ:St) (H:Hp) (Q:Bool->Hp->Prop),Inv X pins σ H s->t σ H Q->wpAny (model X.prog X.w) X.A (isTrue e X.env (eval e X.env)) (TP X pins σ Q) X.xe s
def PW (X:Cx) (e:Expr) (t:TT):Prop :=
 ∀ (whole:Sem Value) (pins:List (Addr×Obj)) (s:Shared) (σ:St) (H:Hp) (Q:Bool->Hp->Prop),Inv X pins σ H s->t σ H Q->wpAny (model X.prog X.w) X.A (isTrue e X.env whole) (TP X pins σ Q) X.xe s
theorem PW.pt {X:Cx} {e:Expr} {t:TT} (h:PW X e t):PT X e t:=h _
def PA (X:Cx) (es:List Expr) (t:TA):Prop :=
 ∀ (pos:Pos) (pins:List (Addr×Obj)) (s:Shared) (σ:St) (H:Hp) (Q:List V->Hp->Prop),Inv X pins σ H s->t σ H Q->wpAny (model X.prog X.w) X.A (spliced (backTo pos (starEach es X.env))) (AP X pins σ Q) X.xe s
def PS (X:Cx) (st:Stmt) (t:TS):Prop :=
 ∀ (pins:List (Addr×Obj)) (s:Shared) (σ:St) (H:Hp) (D:Ends),Inv X pins σ H s->t D σ H->wpAny (model X.prog X.w) X.A (exec st X.env) (SP X pins D) X.xe s
def PSs (X:Cx) (st:List Stmt) (t:TS):Prop :=
 ∀ (pins:List (Addr×Obj)) (s:Shared) (σ:St) (H:Hp) (D:Ends),Inv X pins σ H s->t D σ H->wpAny (model X.prog X.w) X.A (execs st X.env) (SP X pins D) X.xe s
theorem thn {α : Type} {t:Sem α} {Q Q' : α -> Shared->Prop} {M:Model} {A:Around} {E:Value->Shared->Prop} {s:Shared} (h:wpAny M A t Q E s) (hQ : ∀ a s,Q a s->Q' a s):wpAny M A t Q' E s:=wpAny_mono h hQ λ _ _ x=>x
section
variable {X:Cx}
def tVar (i:Nat):TE:=λ σ H Q => ∃ v,σ[i]?=some (some v)/\Q v H
def tC (v:V):TE:=λ _ H Q=>Q v H
theorem pe_var {i:Nat} {x:Str} {pos:Pos} (hN:X.N[i]?=some x) (hv:Vis X.env.scope x) (hd:(x == ("__debug__" : Str))=false:=by decide) (hcd:(x == ("__classdict__" : Str))=false:=by decide):PE X (.Name x pos) (tVar i):=by
 intro pins s σ H Q I h
 obtain ⟨v,e,h⟩:=h
 obtain ⟨m,hn,hl⟩:=I.loc
 obtain ⟨u,r,l⟩:=hl i x v hN e hv
 have fin:EP X pins σ Q u s:=⟨v,H,I,r,h⟩
 rcases l with ⟨hk,hm⟩ | ⟨hk,c,hc,hcell⟩
 ·exact wpAny_Name (wpAny_loadName_local I.ok.kind hk hn hm fin) hd
 ·rcases hk with hk | hk
  ·exact wpAny_Name (wpAny_loadName_cell I.ok.kind hk hc hcell fin) hd
  ·exact wpAny_Name (wpAny_loadName_free I.ok.kind hk hc hcell fin hcd) hd
theorem pe_int {i j pos}:PE X (.Constant (.int i) j pos) (tC (.int i)):=λ _ _ _ H _ I h=>wpAny_Constant_int ⟨.int i,H,I.tok _,⟨_,rfl⟩,h⟩
theorem pe_bl {b j pos}:PE X (.Constant (.bool b) j pos) (tC (.bl b)):=λ _ _ _ H _ I h=>Constant_bool ⟨.bl b,H,I,rfl,h⟩
theorem pe_non {j pos}:PE X (.Constant .none j pos) (tC .non):=λ _ _ _ H _ I h=>Constant_none ⟨.non,H,I,rfl,h⟩
theorem pe_str {x j pos}:PE X (.Constant (.str x) j pos) (tC (.str x)):=λ _ _ _ H _ I h=>Calls.Constant_str ⟨.str x,H,I.tok _,⟨_,rfl⟩,h⟩
def Gl (X:Cx) (x:Str):Prop:=X.env.kindOf x=some .globalImplicit
theorem ld_glob {E:Value->Shared->Prop} {pins:List (Addr×Obj)} {s:Shared} {σ:St} {H:Hp} {x:Str} {u:Value} {pos:Pos} {Q:Value->Shared->Prop} (I:Inv X pins σ H s) (hg:Gl X x) (hm:X.mg x=some u) (h:Q u s)
  (hd:(x == ("__debug__" : Str))=false:=by decide):wpAny (model X.prog X.w) X.A (eval (.Name x pos) X.env) Q E s :=
 Calls.Name_function_global I.ok.kind hg (Calls.loadGlobal_global (by rw [I.ok.glob];exact I.mod.glob.keeps I.bk) hm h) hd
theorem ld_blt {E:Value->Shared->Prop} {pins:List (Addr×Obj)} {s:Shared} {σ:St} {H:Hp} {x:Str} {u:Value} {pos:Pos} {Q:Value->Shared->Prop} (I:Inv X pins σ H s) (hg:Gl X x) (hm:X.mg x=none) (hv:bootBuiltins x=some u) (h:Q u s)
  (hn:x ≠ "__name__" := by decide) (hd:(x == ("__debug__" : Str))=false:=by decide):wpAny (model X.prog X.w) X.A (eval (.Name x pos) X.env) Q E s:=by
 obtain ⟨mb,h1,h2⟩:=I.mod.blt
 exact Calls.Name_function_global I.ok.kind hg (Calls.loadGlobal_builtin (by rw [I.ok.glob];exact I.mod.glob.keeps I.bk) hm (by rw [I.ok.blt];exact h1.keeps I.bk) ((h2 x hn).trans hv) h) hd
theorem pe_glob {x:Str} {v:V} {u:Value} {pos:Pos} (hg:Gl X x) (hm:X.mg x=some u) (r:RelV v u) (hd:(x == ("__debug__" : Str))=false:=by decide):PE X (.Name x pos) (tC v) :=
 λ _ _ _ H _ I h=>ld_glob I hg hm ⟨v,H,I,r,h⟩ hd
theorem pe_bltn {x:Str} {v:V} {u:Value} {pos:Pos} (hg:Gl X x) (hm:X.mg x=none) (hv:bootBuiltins x=some u) (r:RelV v u) (hn:x ≠ "__name__" := by decide) (hd:(x == ("__debug__" : Str))=false:=by decide):PE X (.Name x pos) (tC v) :=
 λ _ _ _ H _ I h=>ld_blt I hg hm hv ⟨v,H,I,r,h⟩ hn hd
variable {a b:Expr} {ta tb:TE} {pos:Pos}
def tB (t:TE):TT:=λ σ H Q=>t σ H λ x H1 => ∃ c,x=.bl c/\Q c H1
theorem pt_val {e:Expr} {t:TE} (h:PE X e t) (he : ∀ whole,isTrue e X.env whole=(do let v ← whole;standAt e.pos;holding [v] (truthy v)):=by intro _;rfl):PT X e (tB t):=by
 intro pins s σ H Q I hw
 refine isTrue_plain (thn (h pins s σ H _ I hw) λ v s1 ⟨x,H1,I1,r1,q1⟩=>?_) (he _)
 obtain ⟨d,rfl,q⟩:=q1
 cases r1
 exact wpAny_truthy_bool ⟨H1,I1,q⟩
variable {tA tB':TT} {rest:List Expr}
def tAnd (t u:TT):TT:=λ σ H Q=>t σ H λ c H1=>if c=true then u σ H1 Q else Q false H1
def tOr (t u:TT):TT:=λ σ H Q=>t σ H λ c H1=>if c=true then Q true H1 else u σ H1 Q
def tNot (t:TT):TT:=λ σ H Q=>t σ H λ c H1=>Q (!c) H1
theorem pw_and1 (ha:PT X a tA):PW X (.BoolOp .And [a] pos) tA:=by
 intro wh pins s σ H Q I h
 refine isTrue_and (thn (ha pins s σ H Q I h) λ c s1 e=>?_)
 cases c with
 | true=>exact isTrue_and_nil e
 | false=>exact e
theorem pw_or1 (ha:PT X a tA):PW X (.BoolOp .Or [a] pos) tA:=by
 intro wh pins s σ H Q I h
 refine isTrue_or (thn (ha pins s σ H Q I h) λ c s1 e=>?_)
 cases c with
 | false=>exact isTrue_or_nil e
 | true=>exact e
theorem pw_and (ha:PT X a tA) (hb:PW X (.BoolOp .And (b::rest) pos) tB'):PW X (.BoolOp .And (a::b::rest) pos) (tAnd tA tB'):=by
 intro wh pins s σ H Q I h
 refine isTrue_and (thn (ha pins s σ H _ I h) λ c s1 ⟨H1,I1,q1⟩=>?_)
 cases c with
 | true=>exact hb wh pins s1 σ H1 Q I1 q1
 | false=>exact ⟨H1,I1,q1⟩
theorem pw_or (ha:PT X a tA) (hb:PW X (.BoolOp .Or (b::rest) pos) tB'):PW X (.BoolOp .Or (a::b::rest) pos) (tOr tA tB'):=by
 intro wh pins s σ H Q I h
 refine isTrue_or (thn (ha pins s σ H _ I h) λ c s1 ⟨H1,I1,q1⟩=>?_)
 cases c with
 | true=>exact ⟨H1,I1,q1⟩
 | false=>exact hb wh pins s1 σ H1 Q I1 q1
theorem pt_not (ha:PT X a tA):PT X (.UnaryOp .Not a pos) (tNot tA):=by
 intro pins s σ H Q I h
 exact isTrue_not (ha pins s σ H (λ c H1=>Q (!c) H1) I h)
def tAndV (ta tb:TE):TE:=λ σ H Q=>ta σ H λ x H1 => ∃ c,x=.bl c/\if c=true then tb σ H1 Q else Q (.bl false) H1
def tOrV (ta tb:TE):TE:=λ σ H Q=>ta σ H λ x H1 => ∃ c,x=.bl c/\if c=true then Q (.bl true) H1 else tb σ H1 Q
def tNotV (ta:TE):TE:=λ σ H Q=>ta σ H λ x H1 => ∃ c,x=.bl c/\Q (.bl (!c)) H1
theorem pe_one {op} {t:TE} (h:PE X a t):PE X (.BoolOp op [a] pos) t:=λ pins s σ H Q I hw=>BoolOp_one (h pins s σ H Q I hw)
theorem pe_and (ha:PE X a ta) (hb:PE X (.BoolOp .And (b::rest) pos) tb):PE X (.BoolOp .And (a::b::rest) pos) (tAndV ta tb):=by
 intro pins s σ H Q I h
 refine BoolOp_and (thn (ha pins s σ H _ I h) λ v s1 ⟨x,H1,I1,r1,q1⟩=>?_)
 obtain ⟨c,rfl,q1⟩:=q1
 cases r1
 refine wpAny_truthy_bool ?_
 cases c with
 | true=>exact hb pins s1 σ H1 Q I1 q1
 | false=>exact ⟨.bl false,H1,I1,rfl,q1⟩
theorem pe_or (ha:PE X a ta) (hb:PE X (.BoolOp .Or (b::rest) pos) tb):PE X (.BoolOp .Or (a::b::rest) pos) (tOrV ta tb):=by
 intro pins s σ H Q I h
 refine BoolOp_or (thn (ha pins s σ H _ I h) λ v s1 ⟨x,H1,I1,r1,q1⟩=>?_)
 obtain ⟨c,rfl,q1⟩:=q1
 cases r1
 refine wpAny_truthy_bool ?_
 cases c with
 | false=>exact hb pins s1 σ H1 Q I1 q1
 | true=>exact ⟨.bl true,H1,I1,rfl,q1⟩
theorem pe_not (ha:PE X a ta):PE X (.UnaryOp .Not a pos) (tNotV ta):=by
 intro pins s σ H Q I h
 refine UnaryOp_ (thn (ha pins s σ H _ I h) λ v s1 ⟨x,H1,I1,r1,q1⟩=>?_)
 obtain ⟨c,rfl,q1⟩:=q1
 cases r1
 exact not_of (wpAny_truthy_bool ⟨.bl (!c),H1,I1,rfl,q1⟩)
end
def SqL (K:PySem.W.Frag) (H:Hp) (a:Addr) (xs:List V):Prop :=
 Rd H a (.lst xs) \/
  ∃ (o:Obj) (its:Array Value) (n:Nat),K.lookup a=some o/\o.cls=.type "list" /\ o.dict=none/\o.data=.seq its n/\its.size<=sizeLine/\Vals xs its.toList
def SqT (K:PySem.W.Frag) (H:Hp) (a:Addr) (xs:List V):Prop :=
 Rd H a (.tup xs) \/
  ∃ (o:Obj) (its:Array Value) (n:Nat),K.lookup a=some o/\o.cls=.type "tuple" /\ o.data=.seq its n/\its.size<=sizeLine/\Vals xs its.toList
def absV:Value->Option V
 | .none=>some .non
 | .bool b=>some (.bl b)
 | .int i _=>some (.int i)
 | .str x _=>some (.str x)
 | .bytes b _=>some (.byt b)
 | .float b _=>some (.flt b)
 | .ref a=>some (.ref a)
 | .type n=>some (.ty n)
 | _=>none
theorem RelV.abs {x:V} {u:Value} (r:RelV x u):absV u=some x:=by
 cases x with
 | non=>cases r;rfl
 | bl _=>cases r;rfl
 | int _=>obtain ⟨t,rfl⟩:=r;rfl
 | str _=>obtain ⟨t,rfl⟩:=r;rfl
 | byt _=>obtain ⟨t,rfl⟩:=r;rfl
 | flt _=>obtain ⟨t,rfl⟩:=r;rfl
 | ref _=>cases r;rfl
 | ty _=>cases r;rfl
theorem RelV.inj {x y:V} {u:Value} (r:RelV x u) (q:RelV y u):x=y:=Option.some.inj (r.abs.symm.trans q.abs)
theorem Vals.inj : ∀ {xs ys:List V} {us:List Value},Vals xs us->Vals ys us->xs=ys
 | _,_,_,.nil,.nil=>rfl
 | _,_,_,.cons r t,.cons r' t'=>by rw [r.inj r',Vals.inj t t']
section
variable {X:Cx} {pins:List (Addr×Obj)} {σ:St} {H:Hp} {s:Shared} {a:Addr} {xs ys:List V}
theorem SqL.of {K:PySem.W.Frag} (h:H a=some (.lst xs)):SqL K H a xs:=.inl (.inl h)
theorem SqT.of {K:PySem.W.Frag} (h:H a=some (.tup xs)):SqT K H a xs:=.inl (.inl h)
theorem Inv.list (I:Inv X pins σ H s) (h:SqL X.K H a xs) : ∃ its:List Value,Vals xs its/\PlainL s.heap a its.toArray/\xs.length<=sizeLine:=by
 rcases h with h | ⟨o,its,n,hk,hc,hd,hs,hz,r⟩
 ·obtain ⟨z,its,n,r,e⟩:=h.ok I.hok
  exact ⟨its,r,⟨_,n,e,rfl,rfl,rfl⟩,z⟩
 ·refine ⟨its.toList,r,⟨o,n,I.kIn a o hk,hc,hd,by simpa using hs⟩,?_⟩
  have e:=r.length
  simp only [Array.length_toList] at e
  omega
theorem Inv.tuple (I:Inv X pins σ H s) (h:SqT X.K H a xs) : ∃ its:List Value,Vals xs its/\IsTup s.heap a its.toArray/\xs.length<=sizeLine:=by
 rcases h with h | ⟨o,its,n,hk,hc,hs,hz,r⟩
 ·obtain ⟨z,its,r,p⟩:=h.ok I.hok
  exact ⟨its,r,p.up,z⟩
 ·refine ⟨its.toList,r,⟨o,I.kIn a o hk,hc,n,by simpa using hs⟩,?_⟩
  have e:=r.length
  simp only [Array.length_toList] at e
  omega
theorem Inv.list_inj (I:Inv X pins σ H s) (h:SqL X.K H a xs) (h':SqL X.K H a ys):xs=ys:=by
 obtain ⟨its,r,⟨o,n,e,_,_,d⟩,_⟩:=I.list h
 obtain ⟨its',r',⟨o',n',e',_,_,d'⟩,_⟩:=I.list h'
 rw [e] at e';cases e'
 rw [d] at d'
 injection d' with d1 _
 have:its=its':=by simpa using congrArg Array.toList d1
 subst this
 exact r.inj r'
theorem Inv.tuple_inj (I:Inv X pins σ H s) (h:SqT X.K H a xs) (h':SqT X.K H a ys):xs=ys:=by
 obtain ⟨its,r,⟨o,e,_,n,d⟩,_⟩:=I.tuple h
 obtain ⟨its',r',⟨o',e',_,n',d'⟩,_⟩:=I.tuple h'
 rw [e] at e';cases e'
 rw [d] at d'
 injection d' with d1 _
 have:its=its':=by simpa using congrArg Array.toList d1
 subst this
 exact r.inj r'
end
abbrev Cx.wish (X:Cx) (E:Value->Shared->Prop):Cx:={ X with xe:=E }
abbrev Cx.nox (X:Cx):Cx:=X.wish λ _ _=>False
theorem Cx.Ok.wish {X:Cx} (ok:X.Ok) (E:Value->Shared->Prop):(X.wish E).Ok :=
 ⟨ok.mod,ok.kind,ok.glob,ok.blt,ok.above,ok.inj,ok.has,ok.cab,ok.hd,ok.frames,ok.stk,ok.exf,ok.bs,ok.bsz,ok.noex,ok.exfs,ok.funs,ok.frf⟩
theorem Cx.Ok.unwish {X:Cx} {E:Value->Shared->Prop} (ok:(X.wish E).Ok):X.Ok :=
 ⟨ok.mod,ok.kind,ok.glob,ok.blt,ok.above,ok.inj,ok.has,ok.cab,ok.hd,ok.frames,ok.stk,ok.exf,ok.bs,ok.bsz,ok.noex,ok.exfs,ok.funs,ok.frf⟩
section
variable {X:Cx} {pins:List (Addr×Obj)} {σ:St} {H:Hp} {s:Shared} {E:Value->Shared->Prop}
theorem Inv.wish (I:Inv X pins σ H s) (E:Value->Shared->Prop):Inv (X.wish E) pins σ H s:=⟨I.ok.wish E,I.os,I.bare,I.base,I.loc,I.cell,I.free,I.freeC,I.pin,I.hok,I.len⟩
theorem Inv.unwish (I:Inv (X.wish E) pins σ H s):Inv X pins σ H s:=⟨I.ok.unwish,I.os,I.bare,I.base,I.loc,I.cell,I.free,I.freeC,I.pin,I.hok,I.len⟩
theorem SP.unwish {D:Ends} {f:Flow} {s':Shared} (h:SP (X.wish E) pins D f s'):SP X pins D f s':=by
 cases f with
 | next=>obtain ⟨σ',H',I,q⟩:=h;exact ⟨σ',H',I.unwish,q⟩
 | brk=>obtain ⟨σ',H',I,q⟩:=h;exact ⟨σ',H',I.unwish,q⟩
 | cont=>obtain ⟨σ',H',I,q⟩:=h;exact ⟨σ',H',I.unwish,q⟩
 | ret u=>obtain ⟨v,σ',H',I,r,q⟩:=h;exact ⟨v,σ',H',I.unwish,r,q⟩
theorem PSs.nox {st:List Stmt} {t:TS} (h:PSs X.nox st t):PSs X st t:=λ pins s σ H D I hw =>
 wpAny_mono (h pins s σ H D (I.wish _) hw) (λ _ _ q=>q.unwish) λ _ _ z=>False.elim z
end
section
variable {X:Cx} {st:Stmt} {rest:List Stmt} {t u:TS} {e:Expr} {te:TE} {pos:Pos}
def tNext:TS:=λ D σ H=>D.nx σ H
def tSeq (t u:TS):TS:=λ D σ H=>t { D with nx:=u D } σ H
theorem pss_nil:PSs X [] tNext:=λ _ _ σ H _ I h=>wpAny_execs_nil ⟨σ,H,I,h⟩
theorem pss_cons (h1:PS X st t) (h2:PSs X rest u):PSs X (st::rest) (tSeq t u):=by
 intro pins s σ H D I h
 refine wpAny_execs_cons (thn (h1 pins s σ H { D with nx:=u D } I h) λ f s1 q=>?_)
 cases f with
 | next =>
  obtain ⟨σ',H',I',q⟩:=q
  exact h2 pins s1 σ' H' D I' q
 | ret v=>exact q
 | brk=>exact q
 | cont=>exact q
theorem pss_one (h1:PS X st t):PSs X [st] t:=by
 intro pins s σ H D I h
 refine wpAny_execs_cons (thn (h1 pins s σ H D I h) λ f s1 q=>?_)
 cases f with
 | next=>exact wpAny_execs_nil q
 | ret v=>exact q
 | brk=>exact q
 | cont=>exact q
theorem Inv.quiet {pins:List (Addr×Obj)} {σ:St} {H:Hp} {s:Shared} (I:Inv X pins σ H s):interactive X.env=false:=by simp [interactive,I.ok.kind]
def tDrop (te:TE):TS:=λ D σ H=>te σ H λ _ H1=>D.nx σ H1
theorem ps_expr (he:PE X e te) (hs:swapsWith e none pos.line X.env=pure false:=by rfl):PS X (.Expr e pos) (tDrop te):=by
 intro pins s σ H D I h
 exact wpAny_Expr_any (thn (he pins s σ H _ I h) λ v s1 ⟨x,H1,I1,r1,q1⟩=>⟨σ,H1,I1,q1⟩) I.quiet hs
def tRet (te:TE):TS:=λ D σ H=>te σ H D.rt
theorem ps_ret (he:PE X e te):PS X (.Return (some e) pos) (tRet te):=by
 intro pins s σ H D I h
 exact wpAny_Return_some (thn (he pins s σ H _ I h) λ v s1 ⟨x,H1,I1,r1,q1⟩=>⟨x,σ,H1,I1,r1,q1⟩)
def tIfS (c:TT) (t u:TS):TS:=λ D σ H=>c σ H λ b H1=>if b=true then t D σ H1 else u D σ H1
theorem ps_if {c:Expr} {a b:List Stmt} {tc:TT} (hc:PT X c tc) (ha:PSs X a t) (hb:PSs X b u):PS X (.If c a b pos) (tIfS tc t u):=by
 intro pins s σ H D I h
 refine wpAny_If (thn (hc pins s σ H _ I h) λ d s1 ⟨H1,I1,q1⟩=>?_)
 cases d with
 | true=>exact ha pins s1 σ H1 D I1 q1
 | false=>exact hb pins s1 σ H1 D I1 q1
def tNever:TS:=λ _ _ _=>False
theorem ps_never:PS X st tNever:=λ _ _ _ _ _ _ h=>h.elim
end
abbrev TG:=V->St->Hp->(St->Hp->Prop)->Prop
abbrev TGs:=List V->St->Hp->(St->Hp->Prop)->Prop
def PG (X:Cx) (target:Expr) (t:TG):Prop :=
 ∀ (pins:List (Addr×Obj)) (s:Shared) (σ:St) (H:Hp) (v:V) (u:Value) (Q:St->Hp->Prop),Inv X pins σ H s->RelV v u->t v σ H Q ->
  wpAny (model X.prog X.w) X.A (assign target X.env u) (λ _ s' => ∃ σ' H',Inv X pins σ' H' s'/\Q σ' H') X.xe s
def PGs (X:Cx) (ts:List Expr) (t:TGs):Prop :=
 ∀ (pins:List (Addr×Obj)) (s:Shared) (σ:St) (H:Hp) (vs:List V) (us:List Value) (Q:St->Hp->Prop),Inv X pins σ H s->Vals vs us->t vs σ H Q ->
  wpAny (model X.prog X.w) X.A (assignInOrder ((assignEach ts X.env).map (·.2)) us) (λ _ s' => ∃ σ' H',Inv X pins σ' H' s'/\Q σ' H') X.xe s
abbrev TSet:=V->V->V->Hp->(Hp->Prop)->Prop
def PSet (X:Cx) (t:TSet):Prop :=
 ∀ (pins:List (Addr×Obj)) (s:Shared) (σ:St) (H:Hp) (o i v:V) (ov iv u:Value) (Q:Hp->Prop),Inv X pins σ H s->RelV o ov->RelV i iv->RelV v u->t o i v H Q ->
  wpAny (model X.prog X.w) X.A (setItem ov iv u) (λ _ s' => ∃ H',Inv X pins σ H' s'/\Q H') X.xe s
abbrev TIp:=V->V->Hp->VK->Prop
def PIp (X:Cx) (op:Operator) (t:TIp):Prop :=
 ∀ (pins:List (Addr×Obj)) (s:Shared) (σ:St) (H:Hp) (x y:V) (v u:Value) (Q:VK),Inv X pins σ H s->RelV x v->RelV y u->t x y H Q ->
  wpAny (model X.prog X.w) X.A (inplaceOp op v u) (EP X pins σ Q) X.xe s
section
variable {X:Cx} {pos:Pos}
def gName (i:Nat):TG:=λ v σ H Q=>Q (σ.set i (some v)) H
theorem pg_name {i:Nat} {x:Str} (hN:X.N.Nodup) (hi:X.N[i]?=some x) (hx:Loc X.env.scope x) (hf:X.fn x=true\/X.env.scope.names.lookup x=some .local:=by first | exact .inl rfl | exact .inr rfl | assumption):PG X (.Name x pos) (gName i):=by
 intro pins s σ H v u Q I r h
 exact wpAny_assign_Name (store_ok I hN hi hx r (λ s' I'=>⟨_,H,I',h⟩) hf)
def gNil:TGs:=λ vs σ H Q=>vs=[]/\Q σ H
def gCons (t:TG) (u:TGs):TGs:=λ vs σ H Q => ∃ v r,vs=v::r/\t v σ H λ σ' H'=>u r σ' H' Q
theorem pgs_nil:PGs X [] gNil:=by
 intro pins s σ H vs us Q I r h
 obtain ⟨e,h⟩:=h
 subst e
 cases r
 exact assignInOrder_nil ⟨σ,H,I,h⟩
theorem pgs_cons {e:Expr} {es:List Expr} {t:TG} {u:TGs} (h1:PG X e t) (h2:PGs X es u)
  (hs:(assignEach (e::es) X.env).map (·.2)=assign e X.env::(assignEach es X.env).map (·.2):=by rfl):PGs X (e::es) (gCons t u):=by
 intro pins s σ H vs us Q I r h
 obtain ⟨v,vr,e1,h⟩:=h
 subst e1
 cases r with
 | cons r rr =>
  rw [hs]
  refine assignInOrder_cons (thn (h1 pins s σ H _ _ _ I r h) λ _ s1 ⟨σ1,H1,I1,q1⟩=>?_)
  exact h2 pins s1 σ1 H1 _ _ Q I1 rr q1
def gTup (K:PySem.W.Frag) (n:Nat) (t:TGs):TG:=λ v σ H Q => ∃ a xs,v=.ref a/\SqT K H a xs/\xs.length=n/\t xs σ H Q
theorem pg_tup {es:List Expr} {k:Nat} {t:TGs} {n:Nat} (hc:X.warm=true) (h:PGs X es t)
  (hn:(assignEach es X.env).length=n:=by rfl) (hst:(assignEach es X.env).findIdx? (·.1)=none:=by rfl):PG X (.Tuple es k pos) (gTup X.K n t):=by
 intro pins s σ H v u Q I r hw
 obtain ⟨a,xs,e1,hq,hl,hw⟩:=hw
 subst e1
 cases r
 obtain ⟨its,rv,ht,hz⟩:=I.tuple hq
 refine Hd.to_tuple (I.hin hc) ht (by simp [hn,<-hl,rv.length]) hst λ h' hx=>?_
 have I1:Inv X pins σ H { s with heap:=h' }:=I.kept (t':=s.toks) λ b o e=>hx b o (Nat.ne_of_lt (Heap.lt_size e)) e
 exact h pins _ σ H xs _ Q I1 (by simpa using rv) hw
def gSub (to ti:TE) (t:TSet):TG:=λ v σ H Q=>to σ H λ o H1=>ti σ H1 λ i H2=>t o i v H2 λ H3=>Q σ H3
theorem pg_sub {o i:Expr} {to ti:TE} {t:TSet} (ho:PE X o to) (hi:PE X i ti) (hs:PSet X t)
  (ha : ∀ v,assign (.Subscript o i pos) X.env v=(do
   let ov ← holding [v] (eval o X.env)
   let iv ← holding [v,ov] (eval i X.env)
   standAt pos
   holding [v,ov,iv] (setItem ov iv v)
   release [v,ov,iv] []):=by intro _;rfl):PG X (.Subscript o i pos) (gSub to ti t):=by
 intro pins s σ H v u Q I r h
 rw [ha]
 refine wpAny_bind (wpAny_holding (thn (ho pins s σ H _ I h) λ ov s1 ⟨x,H1,I1,r1,q1⟩=>?_))
 refine wpAny_bind (wpAny_holding (thn (hi pins s1 σ H1 _ I1 q1) λ iv s2 ⟨y,H2,I2,r2,q2⟩=>?_))
 refine wpAny_bind (wpAny_standAt (wpAny_bind (wpAny_holding (thn (hs pins s2 σ H2 x y v ov iv u _ I2 r1 r2 r q2) λ _ s3 ⟨H3,I3,q3⟩=>?_))))
 exact wpAny_release ⟨σ,H3,I3,q3⟩
def tAsg (te:TE) (g:TG):TS:=λ D σ H=>te σ H λ x H1=>g x σ H1 D.nx
theorem ps_asg {tg e:Expr} {te:TE} {g:TG} (he:PE X e te) (hg:PG X tg g) (hs:swapsWithSole [tg] e pos.line X.env=pure false:=by rfl) (hw:swappedStores [tg] e X.env=pure none:=by rfl)
  (h1:(assignEach [tg] X.env).map (·.2)=[assign tg X.env]:=by rfl):PS X (.Assign [tg] e pos) (tAsg te g):=by
 intro pins s σ H D I h
 refine wpAny_Assign_stores (thn (he pins s σ H _ I h) λ v s1 ⟨x,H1,I1,r1,q1⟩=>?_) hs hw
 rw [h1]
 exact thn (hg pins s1 σ H1 x v _ I1 r1 q1) λ _ s2 q=>q
theorem ps_set {i:Nat} {x:Str} {e:Expr} {te:TE} {pos':Pos} (hN:X.N.Nodup) (hi:X.N[i]?=some x) (hx:Loc X.env.scope x) (he:PE X e te) (hs:swapsWith e (some (.Name x pos')) pos.line X.env=pure false:=by rfl) (hf:X.fn x=true\/X.env.scope.names.lookup x=some .local:=by first | exact .inl rfl | exact .inr rfl | assumption) :
  PS X (.Assign [.Name x pos'] e pos) (tAsg te (gName i)):=by
 intro pins s σ H D I h
 refine wpAny_Assign_Name (thn (he pins s σ H _ I h) λ v s1 ⟨y,H1,I1,r1,q1⟩=>?_) hs
 exact store_ok I1 hN hi hx r1 (λ s2 I2=>⟨_,H1,I2,q1⟩) hf
def tAugS (to ti te:TE) (tget:V->V->Hp->VK->Prop) (tip:TIp) (tset:TSet):TS:=λ D σ H=>to σ H λ o H1=>ti σ H1 λ i H2=>tget o i H2 λ x H3=>te σ H3 λ y H4=>tip x y H4 λ z H5=>tset o i z H5 λ H6=>D.nx σ H6
def PGet (X:Cx) (t:V->V->Hp->VK->Prop):Prop :=
 ∀ (pins:List (Addr×Obj)) (s:Shared) (σ:St) (H:Hp) (o i:V) (ov iv:Value) (Q:VK),Inv X pins σ H s->RelV o ov->RelV i iv->t o i H Q ->
  wpAny (model X.prog X.w) X.A (getItem ov iv) (EP X pins σ Q) X.xe s
theorem ps_augS {o i e:Expr} {to ti te:TE} {tget:V->V->Hp->VK->Prop} {tip:TIp} {tset:TSet} {op:Operator} {tpos:Pos} (ho:PE X o to) (hi:PE X i ti) (hg:PGet X tget) (he:PE X e te) (hp:PIp X op tip) (hs:PSet X tset)
  (ha : ∀ ov iv new,augStore i ov iv new=(do holding [new,ov,iv] (setItem ov iv new);release [new,ov,iv] [];pure .next):=by intros;rfl):PS X (.AugAssign (.Subscript o i tpos) op e pos) (tAugS to ti te tget tip tset):=by
 intro pins s σ H D I h
 refine wpAny_AugAssign_SubscriptAny (thn (ho pins s σ H _ I h) λ ov s1 ⟨x1,H1,I1,r1,q1⟩=>?_) ha
 refine thn (hi pins s1 σ H1 _ I1 q1) λ iv s2 ⟨x2,H2,I2,r2,q2⟩=>?_
 refine thn (hg pins s2 σ H2 x1 x2 ov iv _ I2 r1 r2 q2) λ old s3 ⟨x3,H3,I3,r3,q3⟩=>?_
 refine thn (he pins s3 σ H3 _ I3 q3) λ v s4 ⟨x4,H4,I4,r4,q4⟩=>?_
 refine thn (hp pins s4 σ H4 x3 x4 old v _ I4 r3 r4 q4) λ new s5 ⟨x5,H5,I5,r5,q5⟩=>?_
 exact thn (hs pins s5 σ H5 x1 x2 x5 ov iv new _ I5 r1 r2 r5 q5) λ _ s6 ⟨H6,I6,q6⟩=>⟨σ,H6,I6,q6⟩
def ipI (f:Int->Int->Int):TIp:=λ x y H Q => ∃ i j,x=.int i/\y=.int j/\Q (.int (f i j)) H
theorem ip_add:PIp X .Add (ipI λ i j=>i+j):=by
 intro pins s σ H x y v u Q I r1 r2 h
 obtain ⟨i,j,e1,e2,q⟩:=h
 subst e1;subst e2
 obtain ⟨t,rfl⟩:=r1
 obtain ⟨t',rfl⟩:=r2
 exact iadd_int ⟨.int _,H,I.tok _,⟨_,rfl⟩,q⟩
end
section
variable {X:Cx} {pos:Pos}
def tWhile (c:TT) (tb:TS):TS:=λ D σ H => ∃ W:Nat->St->Hp->Prop,(∃ m,W m σ H) /\ ∀ m σ H,W m σ H ->
 c σ H λ b H1=>if b=true then ∃ N:St->Hp->Prop,(∀ σ' H',N σ' H' -> ∃ m',m'<m/\W m' σ' H')/\tb { D with nx:=N,ct:=N,bk:=D.nx } σ H1 else D.nx σ H1
theorem ps_while {c:Expr} {body:List Stmt} {tc:TT} {tb:TS} (hp:PassesOwn (model X.prog X.w) X.A X.env X.xe) (hc:PT X c tc) (hb:PSs X body tb):PS X (.While c body [] pos) (tWhile tc tb):=by
 intro pins s σ H D I h
 obtain ⟨W,⟨m0,w0⟩,turn⟩:=h
 refine wpAny_While (codeAny_whileLoop (λ n s' => ∃ σ' H',Inv X pins σ' H' s'/\W n σ' H') ?_ m0 ⟨σ,H,I,w0⟩)
 rintro n s1 ⟨σ1,H1,I1,w1⟩
 refine wpAny_passesOwn hp (thn (hc pins s1 σ1 H1 _ I1 (turn n σ1 H1 w1)) λ b s2 ⟨H2,I2,q2⟩=>?_)
 cases b with
 | true =>
  obtain ⟨N,hN,q2⟩:=q2
  rw [if_pos rfl]
  refine wpAny_passesOwn hp (thn (hb pins s2 σ1 H2 _ I2 q2) λ f s3 q3=>?_)
  cases f with
  | next =>
   obtain ⟨σ3,H3,I3,n3⟩:=q3
   obtain ⟨m',hm,w3⟩:=hN σ3 H3 n3
   exact ⟨m',hm,σ3,H3,I3,w3⟩
  | cont =>
   obtain ⟨σ3,H3,I3,n3⟩:=q3
   obtain ⟨m',hm,w3⟩:=hN σ3 H3 n3
   exact ⟨m',hm,σ3,H3,I3,w3⟩
  | brk=>exact q3
  | ret v=>exact q3
 | false =>
  rw [if_neg Bool.false_ne_true]
  exact wpAny_execs_nil ⟨σ1,H2,I2,q2⟩
end
structure It where
 go:Nat->Hp->Prop
 yld:Nat->Hp->V->Hp->Prop
 stop:Nat->Hp->Prop
def FpOk (X:Cx) (pins:List (Addr×Obj)) (H:Hp) (b:Addr):Prop :=
 H b=none/\b≠X.env.locals/\b∉X.fs/\(b∈X.ex\/X.s₀.heap.objs.size<=b)/\(∀ x c,X.env.cells.lookup x=some c->c≠b) /\ ∀ p∈X.pn++pins,p.1≠b
theorem Inv.fpOk {X:Cx} {pins:List (Addr×Obj)} {σ:St} {H H':Hp} {s:Shared} {b:Addr} (I:Inv X pins σ H s) (hb:s.heap.objs.size<=b) (hn:H' b=none):FpOk X pins H' b:=by
 refine ⟨hn,Nat.ne_of_gt (Nat.lt_of_lt_of_le I.lt hb),I.nofs hb,.inr (Nat.le_trans I.sz hb),λ x c e z=>?_,λ p hp z=>?_⟩
 ·obtain ⟨v,q⟩:=I.cell x c e
  exact absurd (Nat.lt_of_lt_of_le q.lt (by rw [z];exact hb)) (Nat.lt_irrefl _)
 ·exact absurd (Nat.lt_of_lt_of_le (Heap.lt_size (I.pin p hp).1) (by rw [z];exact hb)) (Nat.lt_irrefl _)
structure Turn (P:Program) (w:World) (K:PySem.W.Frag) (c:Bool) (tg:Expr) (J:It) (fp:List Addr) (it:Addr) (tn:Nat->Heap->Prop):Prop where
 mem:it∈fp
 obj : ∀ i h,tn i h -> ∀ b∈fp,∃ o,h.get? b=some o /\ ∀ v,o.data≠.cell v
 keep : ∀ i h h',tn i h->(∀ b∈fp,∀ o,h.get? b=some o->h'.get? b=some o)->tn i h'
 item : ∀ (X:Cx),X.prog=P->X.w=w->X.K=K->X.calm=c->X.warm=true -> ∀ (i:Nat) (pins:List (Addr×Obj)) (s:Shared) (σ:St) (H:Hp) (E:Value->Shared->Prop),Inv X pins σ H s->(∀ b∈fp,FpOk X pins H b)->tn i s.heap->J.go i H ->
  wpAny (model P w) X.A (pyNext (.ref it)) (λ r s1 => ∃ u,r=some u /\
   wpAny (model P w) X.A (letOwnedTupleGo tg (.ref it) u) (λ _ s2 => ∃ x H',Inv X pins σ H' s2/\RelV x u/\J.yld i H x H'/\tn (i+1) s2.heap /\ ∀ b∈fp,H' b=none) E s1) E s
 done : ∀ (X:Cx),X.prog=P->X.w=w->X.K=K->X.calm=c->X.warm=true -> ∀ (i:Nat) (pins:List (Addr×Obj)) (s:Shared) (σ:St) (H:Hp) (E:Value->Shared->Prop),Inv X pins σ H s->(∀ b∈fp,FpOk X pins H b)->tn i s.heap->J.stop i H ->
  wpAny (model P w) X.A (pyNext (.ref it)) (λ r s1=>r=none/\Inv X pins σ H s1) E s
 self : ∀ (A:Around) (i:Nat) (s:Shared) (Q:Value->Shared->Prop) (E:Value->Shared->Prop),tn i s.heap->Q (.ref it) s->wpAny (model P w) A (pyIter (.ref it)) Q E s
abbrev TI:=St->Hp->(It->Hp->Prop)->Prop
def PIE (X:Cx) (pins:List (Addr×Obj)) (σ:St) (tg:Expr) (R:It->Hp->Prop) (itv:Value) (s2:Shared):Prop :=
 ∃ (it:Addr) (fp:List Addr) (tn:Nat->Heap->Prop) (J:It) (H':Hp),itv=.ref it/\Inv X pins σ H' s2/\Turn X.prog X.w X.K X.calm tg J fp it tn/\tn 0 s2.heap/\(∀ b∈fp,FpOk X pins H' b)/\R J H'
def PI (X:Cx) (tg iter:Expr) (wi:TI):Prop :=
 ∀ (pins:List (Addr×Obj)) (s:Shared) (σ:St) (H:Hp) (R:It->Hp->Prop),Inv X pins σ H s->wi σ H R ->
  wpAny (model X.prog X.w) X.A (eval iter X.env) (λ v s1=>wpAny (model X.prog X.w) X.A (pyIter v) (PIE X pins σ tg R) X.xe s1) X.xe s
theorem go_of {M:Model} {A:Around} {E:Value->Shared->Prop} {s:Shared} {tg:Expr} {it:Addr} {u:Value} {o:Obj} {n:String} {vs:Array Value} {Q:Unit->Shared->Prop} (ho:s.heap.get? it=some o) (hc:o.cls=.type n) (hd:o.data=.fields vs)
  (hn:["enumerate", "zip", "dict_itemiterator", "dict_reverseitemiterator", "odict_iterator", "itertools.zip_longest", "itertools.pairwise"].contains n=false) (hQ:Q () s):wpAny M A (letOwnedTupleGo tg (.ref it) u) Q E s:=by
 unfold letOwnedTupleGo
 cases tg<;>first
  | exact wpAny_pure hQ
  | (cases u<;>first
    | exact wpAny_pure hQ
    | (refine wpAny_bind (wpAny_load ho ?_)
       rw [hc,hd]
       show wpAny M A (if (["enumerate", "zip", "dict_itemiterator", "dict_reverseitemiterator", "odict_iterator", "itertools.zip_longest", "itertools.pairwise"].contains n&&vs[0]? == some (rawInt _))=true then _ else _) Q E s
       rw [if_neg (by intro h;rw [hn,Bool.false_and] at h;cases h)]
       exact wpAny_pure hQ))
def Itl (K:PySem.W.Frag) (a:Addr):It :=
 ⟨λ i H => ∃ xs x,SqL K H a xs/\xs[i]?=some x,λ i H x H'=>H'=H /\ ∀ xs,SqL K H a xs->xs[i]?=some x,λ i H => ∃ xs,SqL K H a xs/\xs.length<=i⟩
def Itt (K:PySem.W.Frag) (a:Addr):It :=
 ⟨λ i H => ∃ xs x,SqT K H a xs/\xs[i]?=some x,λ i H x H'=>H'=H /\ ∀ xs,SqT K H a xs->xs[i]?=some x,λ i H => ∃ xs,SqT K H a xs/\xs.length<=i⟩
def Itr (lo:Int) (n:Nat):It:=⟨λ i _=>i<n,λ i H x H'=>H'=H/\x=.int (lo+i),λ i _=>n<=i⟩
theorem turn_list {c:Bool} {P:Program} {w:World} {K:PySem.W.Frag} {tg:Expr} (a it:Addr):Turn P w K c tg (Itl K a) [it] it (λ i h=>h.IsListIter it a i) where
 mem:=by simp
 obj:=λ i h st b hb=>by
  have e:b=it:=by simpa using hb
  subst e
  obtain ⟨o,e,c,d⟩:=st
  exact ⟨o,e,λ v z=>by rw [d] at z;cases z⟩
 keep:=λ i h h' st k=>st.at λ o e=>k it (by simp) o e
 item:=by
  intro X hP hw hK hk hc i pins s σ H E I hf st hg
  subst hP hw hK
  obtain ⟨xs,x,hq,hx⟩:=hg
  obtain ⟨its,rv,p,hz⟩:=I.list hq
  obtain ⟨u,hu,ru⟩:=rv.get hx
  obtain ⟨f0,f1,f2,f3,f4,f5⟩:=hf it (by simp)
  refine wpAny_pyNext_list_item st p.isList (x:=u) (by simpa using hu) λ h' st' sb=>?_
  have I1:Inv X pins σ H { s with heap:=h' }:=I.turned (t':=s.toks) (λ b o hb e=>(sb.2 b hb).trans e) f0 f1 f3 f4 f5
  obtain ⟨o,e,c,d⟩:=id st'
  exact ⟨u,rfl,go_of (s:={ s with heap:=h' }) e c d (by decide) ⟨x,H,I1,ru,⟨rfl,λ ys hy=>by rw [I.list_inj hy hq];exact hx⟩,st',λ b hb=>(hf b hb).1⟩⟩
 done:=by
  intro X hP hw hK hk hc i pins s σ H E I hf st hg
  subst hP hw hK
  obtain ⟨xs,hq,hx⟩:=hg
  obtain ⟨its,rv,p,hz⟩:=I.list hq
  obtain ⟨f0,f1,f2,f3,f4,f5⟩:=hf it (by simp)
  have hl:=rv.length
  exact Hd.list_end (I.hin hc) st p.isList (by simp;omega) λ h' eb=>⟨rfl,I.turned (t':=s.toks) (λ b o hb e=>eb b o hb e) f0 f1 f3 f4 f5⟩
 self:=λ _ _ _ _ _ st h=>wpAny_pyIter_listiter st h
theorem turn_tuple {c:Bool} {P:Program} {w:World} {K:PySem.W.Frag} {tg:Expr} (a it:Addr):Turn P w K c tg (Itt K a) [it] it (λ i h=>h.IsTupleIter it a i) where
 mem:=by simp
 obj:=λ i h st b hb=>by
  have e:b=it:=by simpa using hb
  subst e
  obtain ⟨o,e,c,d⟩:=st
  exact ⟨o,e,λ v z=>by rw [d] at z;cases z⟩
 keep:=λ i h h' st k=>st.at λ o e=>k it (by simp) o e
 item:=by
  intro X hP hw hK hk hc i pins s σ H E I hf st hg
  subst hP hw hK
  obtain ⟨xs,x,hq,hx⟩:=hg
  obtain ⟨its,rv,p,hz⟩:=I.tuple hq
  obtain ⟨u,hu,ru⟩:=rv.get hx
  obtain ⟨f0,f1,f2,f3,f4,f5⟩:=hf it (by simp)
  refine wpAny_pyNext_tuple_item st (show s.heap.IsTuple a its.toArray from p) (x:=u) (by simpa using hu) λ h' st' sb=>?_
  have I1:Inv X pins σ H { s with heap:=h' }:=I.turned (t':=s.toks) (λ b o hb e=>(sb.2 b hb).trans e) f0 f1 f3 f4 f5
  obtain ⟨o,e,c,d⟩:=id st'
  exact ⟨u,rfl,go_of (s:={ s with heap:=h' }) e c d (by decide) ⟨x,H,I1,ru,⟨rfl,λ ys hy=>by rw [I.tuple_inj hy hq];exact hx⟩,st',λ b hb=>(hf b hb).1⟩⟩
 done:=by
  intro X hP hw hK hk hc i pins s σ H E I hf st hg
  subst hP hw hK
  obtain ⟨xs,hq,hx⟩:=hg
  obtain ⟨its,rv,p,hz⟩:=I.tuple hq
  obtain ⟨f0,f1,f2,f3,f4,f5⟩:=hf it (by simp)
  have hl:=rv.length
  exact Hd.tup_end (I.hin hc) st (show s.heap.IsTuple a its.toArray from p) (by simp;omega) λ h' eb=>⟨rfl,I.turned (t':=s.toks) (λ b o hb e=>eb b o hb e) f0 f1 f3 f4 f5⟩
 self:=λ _ _ _ _ _ st h=>wpAny_pyIter_tupleiter st h
theorem turn_range {c:Bool} (hcm:c=true) {P:Program} {w:World} {K:PySem.W.Frag} {tg:Expr} (it:Addr) (lo:Int) (n:Nat):Turn P w K c tg (Itr lo n) [it] it (λ i h=>IsRangeIter h it (lo+(i:Nat) * 1) ((n:Int) - (i:Nat)) 1) where
 mem:=by simp
 obj:=λ i h st b hb=>by
  have e:b=it:=by simpa using hb
  subst e
  exact ⟨_,st,λ v z=>by
   have z':Data.fields _=Data.cell v:=z
   cases z'⟩
 keep:=λ i h h' st k=>k it (by simp) _ st
 item:=by
  intro X hP hw hK hk hc i pins s σ H E I hf st hg
  subst hP hw hK
  obtain ⟨f0,f1,f2,f3,f4,f5⟩:=hf it (by simp)
  have W:=Walks.range (prog:=X.prog) (w:=X.w) (I.ok.hd.1 (hk.trans hcm)) it lo 1 n
  refine W.item i s _ _ hg st λ v h' tk hv st' kk=>?_
  obtain ⟨t,rfl⟩:=hv
  have I1:Inv X pins σ H { s with heap:=h',toks:=tk }:=I.turned (λ b o hb e=>kk b o (by simpa using hb) e) f0 f1 f3 f4 f5
  refine ⟨_,rfl,go_of (s:={ s with heap:=h',toks:=tk }) (n := "range_iterator") st' rfl rfl (by decide) ⟨.int (lo+i),H,I1,⟨t,?_⟩,⟨rfl,rfl⟩,st',λ b hb=>(hf b hb).1⟩⟩
  rw [Int.mul_one]
 done:=by
  intro X hP hw hK hk hc i pins s σ H E I hf st hg
  subst hP hw hK
  obtain ⟨f0,f1,f2,f3,f4,f5⟩:=hf it (by simp)
  exact wpAny_pyNext_range_end (I.ok.hd.1 (hk.trans hcm)) st (by have:n<=i:=hg;omega) λ h' eb=>⟨rfl,I.turned (t':=s.toks) (λ b o hb e=>eb b o hb e) f0 f1 f3 f4 f5⟩
 self:=λ _ _ _ _ _ st h=>wpAny_pyIter_rangeiter st h
section
variable {X:Cx} {tg:Expr}
def iList (K:PySem.W.Frag) (tl:TE):TI:=λ σ H R=>tl σ H λ x H1 => ∃ a,x=.ref a/\(∃ xs,SqL K H1 a xs)/\R (Itl K a) H1
def iTup (K:PySem.W.Frag) (tl:TE):TI:=λ σ H R=>tl σ H λ x H1 => ∃ a,x=.ref a/\(∃ xs,SqT K H1 a xs)/\R (Itt K a) H1
theorem pi_list {l:Expr} {tl:TE} (hl:PE X l tl):PI X tg l (iList X.K tl):=by
 intro pins s σ H R I h
 refine thn (hl pins s σ H _ I h) λ v s1 ⟨x,H1,I1,r1,q1⟩=>?_
 obtain ⟨a,e,⟨xs,hq⟩,q⟩:=q1
 subst e
 cases r1
 obtain ⟨its,rv,p,hz⟩:=I1.list hq
 refine wpAny_pyIter_list p.isList ?_
 refine ⟨s1.heap.objs.size,[s1.heap.objs.size],_,_,H1,rfl,I1.kept (t':=s1.toks) λ b o e=>Heap.get?_push_of_some _ e,turn_list a _,⟨_,Heap.get?_push_size _ rfl,rfl,rfl⟩,λ b hb=>?_,q⟩
 have e:b=s1.heap.objs.size:=by simpa using hb
 subst e
 exact I1.fpOk (Nat.le_refl _) (I1.hok.fresh (Nat.le_refl _))
theorem pi_tup {l:Expr} {tl:TE} (hl:PE X l tl):PI X tg l (iTup X.K tl):=by
 intro pins s σ H R I h
 refine thn (hl pins s σ H _ I h) λ v s1 ⟨x,H1,I1,r1,q1⟩=>?_
 obtain ⟨a,e,⟨xs,hq⟩,q⟩:=q1
 subst e
 cases r1
 obtain ⟨its,rv,p,hz⟩:=I1.tuple hq
 refine wpAny_pyIter_tuple (show s1.heap.IsTuple a its.toArray from p) ?_
 refine ⟨s1.heap.objs.size,[s1.heap.objs.size],_,_,H1,rfl,I1.kept (t':=s1.toks) λ b o e=>Heap.get?_push_of_some _ e,turn_tuple a _,⟨_,Heap.get?_push_size _ rfl,rfl,rfl⟩,λ b hb=>?_,q⟩
 have e:b=s1.heap.objs.size:=by simpa using hb
 subst e
 exact I1.fpOk (Nat.le_refl _) (I1.hok.fresh (Nat.le_refl _))
theorem range_it (hcm:X.calm=true) {pins:List (Addr×Obj)} {σ:St} {H:Hp} {s:Shared} {R:It->Hp->Prop} {E:Value->Shared->Prop} {lo hi:Int} {t u v:Tok} {tk:Nat} (I:Inv X pins σ H s) (h1 : -(2 ^ 62)<=lo) (h2:lo<2 ^ 62) (h3 : -(2 ^ 62)<=hi) (h4:hi<2 ^ 62)
  (q:R (Itr lo (hi - lo).toNat) H):wpAny (model X.prog X.w) X.A (pyIter (.ref s.heap.objs.size)) (PIE X pins σ tg R) E { s with heap:=s.heap.push { cls:=.type "range", data:=.fields #[.int lo t,.int hi u,.int 1 v] },toks:=tk }:=by
 refine wpAny_pyIter_range (IsRange.new ..) (small_one h1 h2 h3 h4) ?_
 have I1:Inv X pins σ H { s with heap:=s.heap.push { cls:=.type "range", data:=.fields #[.int lo t,.int hi u,.int 1 v] },toks:=tk }:=I.kept λ b o e=>Heap.get?_push_of_some _ e
 refine ⟨(s.heap.push { cls:=.type "range", data:=.fields #[.int lo t,.int hi u,.int 1 v] }).objs.size,[(s.heap.push { cls:=.type "range", data:=.fields #[.int lo t,.int hi u,.int 1 v] }).objs.size],_,_,H,rfl,
  I1.kept (t':=tk) λ b o e=>Heap.get?_push_of_some _ e,turn_range hcm _ lo (hi - lo).toNat,?_,λ b hb=>?_,q⟩
 ·have e1:lo+((0:Nat):Int) * 1=lo:=by simp
  have e2:(((hi - lo).toNat:Nat):Int) - ((0:Nat):Int)=Builtin.Range.rangeSize lo hi 1:=by rw [rangeSize_one];split<;>omega
  show IsRangeIter _ _ (lo+((0:Nat):Int) * 1) ((((hi - lo).toNat:Nat):Int) - ((0:Nat):Int)) 1
  rw [e1,e2]
  exact Heap.get?_push_size _ rfl
 ·have e:b=(s.heap.push { cls:=.type "range", data:=.fields #[.int lo t,.int hi u,.int 1 v] }).objs.size:=by simpa using hb
  subst e
  exact I1.fpOk (Nat.le_refl _) (I1.hok.fresh (Nat.le_refl _))
def iRng1 (ta:TA):TI:=λ σ H R=>ta σ H λ vs H1 => ∃ j:Int,vs=[.int j] /\ -(2 ^ 62)<=j/\j<2 ^ 62/\R (Itr 0 j.toNat) H1
theorem pi_range1 {a:Expr} {ta:TA} {p pos:Pos} (hg:Gl X "range") (hm:X.mg "range" = none) (ha:PA X [a] ta) (hs:starEach [a] X.env=[(false,eval a X.env)]:=by rfl) (hcm:X.calm=true:=by rfl):PI X tg (.Call (.Name "range" p) [a] [] pos) (iRng1 ta):=by
 intro pins s σ H R I h
 refine Call_ (ld_blt I hg hm boot_range (PyProof.Rows.callWith_type1 (thn (ha pos pins s σ H _ I h) λ us s1 ⟨vs,H1,I1,r1,q1⟩=>?_) hs rfl))
 obtain ⟨j,e,q1,q2,q⟩:=q1
 subst e
 cases r1 with
 | cons r rr =>
  cases rr
  obtain ⟨t,rfl⟩:=r
  exact call_range_1 (range_it hcm I1 (by omega) (by omega) q1 q2 (by simpa using q))
def tFor (wi:TI) (g:TG) (tb:TS):TS:=λ D σ H=>wi σ H λ J H1 => ∃ W:Nat->Nat->St->Hp->Prop,(∃ m,W 0 m σ H1) /\ ∀ i m σ H,W i m σ H ->
 (J.stop i H/\D.nx σ H)\/(J.go i H /\ ∃ N:St->Hp->Prop,(∀ σ' H',N σ' H' -> ∃ m',m'<m/\W (i+1) m' σ' H') /\ ∀ x H',J.yld i H x H'->g x σ H' λ σ2 H2=>tb { D with nx:=N,ct:=N,bk:=D.nx } σ2 H2)
def pinsAt (fp:List Addr) (h:Heap):List (Addr×Obj):=fp.filterMap λ b=>(h.get? b).map λ o=>(b,o)
theorem mem_pinsAt {fp:List Addr} {h:Heap} {b:Addr} {o:Obj} (hb:b∈fp) (e:h.get? b=some o):(b,o)∈pinsAt fp h:=List.mem_filterMap.mpr ⟨b,hb,by rw [e];rfl⟩
theorem of_pinsAt {fp:List Addr} {h:Heap} {p:Addr×Obj} (hp:p∈pinsAt fp h):p.1∈fp/\h.get? p.1=some p.2:=by
 obtain ⟨b,hb,e⟩:=List.mem_filterMap.mp hp
 cases q:h.get? b with
 | none=>rw [q] at e;cases e
 | some o =>
  rw [q] at e
  have e':(b,o)=p:=Option.some.inj e
  subst e'
  exact ⟨hb,q⟩
theorem Inv.pinned {pins:List (Addr×Obj)} {σ:St} {H:Hp} {s:Shared} {fp:List Addr} (I:Inv X pins σ H s) (hf : ∀ b∈fp,FpOk X pins H b) (ho : ∀ b∈fp,∃ o,s.heap.get? b=some o /\ ∀ v,o.data≠.cell v):Inv X (pins++pinsAt fp s.heap) σ H s :=
 I.pins_of λ p hp=>(List.mem_append.mp hp).elim (λ z=>I.pin p (List.mem_append_right _ z)) λ z=>by
  obtain ⟨hb,e⟩:=of_pinsAt z
  obtain ⟨f0,f1,f2,_⟩:=hf p.1 hb
  obtain ⟨o,e',d⟩:=ho p.1 hb
  rw [e] at e';cases e'
  exact ⟨e,f0,f1,f2,d⟩
theorem Inv.unpinned {pins pl:List (Addr×Obj)} {σ:St} {H:Hp} {s:Shared} (I:Inv X (pins++pl) σ H s):Inv X pins σ H s:=I.pins_of λ p hp=>I.pin p (List.mem_append_right _ (List.mem_append_left _ hp))
theorem ps_for {iter:Expr} {body:List Stmt} {wi:TI} {g:TG} {tb:TS} {pos:Pos} (hp:PassesOwn (model X.prog X.w) X.A X.env X.xe) (hc:X.warm=true) (hi:PI X tg iter wi) (hg:PG X tg g) (hb:PSs X body tb)
  (hs : ∀ x,foldedSetIterable iter X.env x=pure x:=by intro _;rfl):PS X (.For tg iter body [] pos) (tFor wi g tb):=by
 intro pins s σ H D I h
 refine wpAny_For (thn (hi pins s σ H _ I h) λ v s1 h1=>thn h1 λ itv s2 h2=>?_) hs
 obtain ⟨it,fp,tn,J,H2,e,I2,T,st2,f2,W,⟨m0,w0⟩,turn⟩:=h2
 subst e
 have stat : ∀ {H':Hp},(∀ b∈fp,H' b=none) -> ∀ b∈fp,FpOk X pins H' b:=λ hn b hb=>⟨hn b hb,(f2 b hb).2⟩
 refine codeAny_forLoop_any (λ n s' => ∃ i σ' H',Inv X pins σ' H' s'/\tn i s'.heap/\(∀ b∈fp,H' b=none)/\W i n σ' H') ?_ m0 ⟨0,σ,H2,I2,st2,λ b hb=>(f2 b hb).1,w0⟩
 rintro n s3 ⟨i,σ3,H3,I3,st3,fr3,w3⟩
 rcases turn i n σ3 H3 w3 with ⟨stop,qn⟩ | ⟨go,N,hN,step⟩
 ·refine wpAny_passesOwn hp (thn (T.done X rfl rfl rfl rfl hc i pins s3 σ3 H3 X.xe I3 (stat fr3) st3 stop) λ r s4 ⟨hr,I4⟩=>?_)
  subst hr
  exact wpAny_execs_nil ⟨σ3,H3,I4,qn⟩
 ·refine wpAny_passesOwn hp (thn (T.item X rfl rfl rfl rfl hc i pins s3 σ3 H3 X.xe I3 (stat fr3) st3 go) λ r s4 ⟨u,hr,h4⟩=>?_)
  subst hr
  refine wpAny_passesOwn hp (thn h4 λ _ s5 ⟨x,H5,I5,r5,y5,st5,fr5⟩=>?_)
  have I5':=I5.pinned (stat fr5) (T.obj _ _ st5)
  refine wpAny_passesOwn hp (thn (hg _ s5 σ3 H5 x u _ I5' r5 (step x H5 y5)) λ _ s6 ⟨σ6,H6,I6,q6⟩=>?_)
  refine wpAny_passesOwn hp (thn (hb _ s6 σ6 H6 _ I6 q6) λ f s7 q7=>?_)
  have again : ∀ {σ7:St} {H7:Hp},Inv X (pins++pinsAt fp s5.heap) σ7 H7 s7->N σ7 H7 -> ∃ m,m<n /\ ∃ i σ' H',Inv X pins σ' H' s7/\tn i s7.heap/\(∀ b∈fp,H' b=none)/\W i m σ' H':=λ {σ7 H7} I7 n7=>by
   obtain ⟨m',hm,w7⟩:=hN σ7 H7 n7
   refine ⟨m',hm,i+1,σ7,H7,I7.unpinned,T.keep _ _ _ st5 λ b hb o e=>(I7.pin (b,o) (List.mem_append_right _ (List.mem_append_right _ (mem_pinsAt hb e)))).1,λ b hb=>?_,w7⟩
   obtain ⟨o,e,d⟩:=T.obj _ _ st5 b hb
   exact (I7.pin (b,o) (List.mem_append_right _ (List.mem_append_right _ (mem_pinsAt hb e)))).2.1
  cases f with
  | next=>obtain ⟨σ7,H7,I7,n7⟩:=q7;exact again I7 n7
  | cont=>obtain ⟨σ7,H7,I7,n7⟩:=q7;exact again I7 n7
  | brk=>obtain ⟨σ7,H7,I7,q7⟩:=q7;exact ⟨σ7,H7,I7.unpinned,q7⟩
  | ret v=>obtain ⟨x7,σ7,H7,I7,r7,q7⟩:=q7;exact ⟨x7,σ7,H7,I7.unpinned,r7,q7⟩
end
theorem for_tup {K:PySem.W.Frag} {a:Addr} {xs:List V} {g:TG} {tb:TS} {D:Ends} {σ:St} {H:Hp} (Pv:Nat->St->Hp->Prop) (h0:Pv 0 σ H) (hl : ∀ i σ H,i<=xs.length->Pv i σ H->SqT K H a xs)
  (hs : ∀ i x σ H,xs[i]?=some x->Pv i σ H->g x σ H λ σ2 H2=>tb { D with nx:=Pv (i+1),ct:=Pv (i+1),bk:=D.nx } σ2 H2) (hd : ∀ σ H,Pv xs.length σ H->D.nx σ H) :
  ∃ W:Nat->Nat->St->Hp->Prop,(∃ m,W 0 m σ H) /\ ∀ i m σ H,W i m σ H ->
   ((Itt K a).stop i H/\D.nx σ H)\/((Itt K a).go i H /\ ∃ N:St->Hp->Prop,(∀ σ' H',N σ' H' -> ∃ m',m'<m/\W (i+1) m' σ' H') /\ ∀ x H',(Itt K a).yld i H x H'->g x σ H' λ σ2 H2=>tb { D with nx:=N,ct:=N,bk:=D.nx } σ2 H2):=by
 refine ⟨λ i m σ H=>m=xs.length - i/\i<=xs.length/\Pv i σ H,⟨xs.length,by simp,Nat.zero_le _,h0⟩,?_⟩
 rintro i m σ H ⟨rfl,hi,p⟩
 have q:=hl i σ H hi p
 by_cases hlt:i<xs.length
 ·refine .inr ⟨⟨xs,xs[i],q,by simp [hlt]⟩,Pv (i+1),λ σ' H' p'=>⟨xs.length - (i+1),by omega,rfl,hlt,p'⟩,λ x H' y=>?_⟩
  obtain ⟨e,y⟩:=y
  subst e
  exact hs i x σ _ (y xs q) p
 ·have e:i=xs.length:=by omega
  subst e
  exact .inl ⟨⟨xs,q,Nat.le_refl _⟩,hd σ H p⟩
theorem for_range {lo:Int} {n:Nat} {g:TG} {tb:TS} {D:Ends} {σ:St} {H:Hp} (Pv:Nat->St->Hp->Prop) (h0:Pv 0 σ H)
  (hs : ∀ i σ H,i<n->Pv i σ H->g (.int (lo+i)) σ H λ σ2 H2=>tb { D with nx:=Pv (i+1),ct:=Pv (i+1),bk:=D.nx } σ2 H2) (hd : ∀ σ H,Pv n σ H->D.nx σ H) :
  ∃ W:Nat->Nat->St->Hp->Prop,(∃ m,W 0 m σ H) /\ ∀ i m σ H,W i m σ H ->
   ((Itr lo n).stop i H/\D.nx σ H)\/((Itr lo n).go i H /\ ∃ N:St->Hp->Prop,(∀ σ' H',N σ' H' -> ∃ m',m'<m/\W (i+1) m' σ' H') /\ ∀ x H',(Itr lo n).yld i H x H'->g x σ H' λ σ2 H2=>tb { D with nx:=N,ct:=N,bk:=D.nx } σ2 H2):=by
 refine ⟨λ i m σ H=>m=n - i/\i<=n/\Pv i σ H,⟨n,by simp,Nat.zero_le _,h0⟩,?_⟩
 rintro i m σ H ⟨rfl,hi,p⟩
 by_cases hlt:i<n
 ·refine .inr ⟨hlt,Pv (i+1),λ σ' H' p'=>⟨n - (i+1),by omega,rfl,hlt,p'⟩,λ x H' y=>?_⟩
  obtain ⟨e,y⟩:=y
  subst e y
  exact hs i σ _ hlt p
 ·have e:i=n:=by omega
  subst e
  exact .inl ⟨Nat.le_refl _,hd σ H p⟩
abbrev R2:=V->V->Hp->VK->Prop
def OpR (X:Cx) (f:Value->Value->Sem Value) (r:R2):Prop :=
 ∀ (pins:List (Addr×Obj)) (s:Shared) (σ:St) (H:Hp) (x y:V) (v u:Value) (Q:VK),Inv X pins σ H s->RelV x v->RelV y u->r x y H Q ->
  wpAny (model X.prog X.w) X.A (f v u) (EP X pins σ Q) X.xe s
def UnR (X:Cx) (f:Value->Sem Value) (r:V->Hp->VK->Prop):Prop :=
 ∀ (pins:List (Addr×Obj)) (s:Shared) (σ:St) (H:Hp) (x:V) (v:Value) (Q:VK),Inv X pins σ H s->RelV x v->r x H Q ->
  wpAny (model X.prog X.w) X.A (f v) (EP X pins σ Q) X.xe s
def CallR (X:Cx) (f:Value) (r:List V->Hp->VK->Prop):Prop :=
 ∀ (pins:List (Addr×Obj)) (s:Shared) (σ:St) (H:Hp) (xs:List V) (us:List Value) (Q:VK),Inv X pins σ H s->Vals xs us->r xs H Q ->
  wpAny (model X.prog X.w) X.A (call f us) (EP X pins σ Q) X.xe s
def tOp (r:R2) (ta tb:TE):TE:=λ σ H Q=>ta σ H λ x H1=>tb σ H1 λ y H2=>r x y H2 Q
def tUn (r:V->Hp->VK->Prop) (ta:TE):TE:=λ σ H Q=>ta σ H λ x H1=>r x H1 Q
def rI (C:Int->Int->Prop) (g:Int->Int->V):R2:=λ x y H Q => ∃ i j,x=.int i/\y=.int j/\C i j/\Q (g i j) H
def rI0 (g:Int->Int->V):R2:=λ x y H Q => ∃ i j,x=.int i/\y=.int j/\Q (g i j) H
def rU (g:Int->V):V->Hp->VK->Prop:=λ x H Q => ∃ i,x=.int i/\Q (g i) H
section
variable {X:Cx} {a b c:Expr} {ta tb tc:TE} {pos:Pos}
theorem binT (ha:PE X a ta) (hb:PE X b tb) {pins:List (Addr×Obj)} {s:Shared} {σ:St} {H:Hp} {R:V->V->Hp->Prop} (I:Inv X pins σ H s)
  (h:ta σ H λ x H1=>tb σ H1 λ y H2=>R x y H2) {Q:Value->Shared->Prop} {f:Value->Value->Sem Value}
  (hf : ∀ v u s2 x y H2,Inv X pins σ H2 s2->RelV x v->RelV y u->R x y H2->wpAny (model X.prog X.w) X.A (f v u) Q X.xe s2) :
  wpAny (model X.prog X.w) X.A (eval a X.env) (λ v s₁=>wpAny (model X.prog X.w) X.A (eval b X.env) (λ u s₂=>wpAny (model X.prog X.w) X.A (f v u) Q X.xe s₂) X.xe s₁) X.xe s:=by
 refine thn (ha pins s σ H _ I h) λ v s1 ⟨x,H1,I1,r1,q1⟩=>?_
 refine thn (hb pins s1 σ H1 _ I1 q1) λ u s2 ⟨y,H2,I2,r2,q2⟩=>?_
 exact hf v u s2 x y H2 I2 r1 r2 q2
theorem pe_op {op:Operator} {r:R2} (ho:OpR X (binaryOp op) r) (ha:PE X a ta) (hb:PE X b tb):PE X (.BinOp a op b pos) (tOp r ta tb):=by
 intro pins s σ H Q I h
 exact wpAny_BinOp (binT ha hb I h λ v u s2 x y H2 I2 rx ry q=>ho pins s2 σ H2 x y v u Q I2 rx ry q)
theorem pe_un {op:UnaryOp} {r:V->Hp->VK->Prop} (ho:UnR X (unaryOp op) r) (ha:PE X a ta):PE X (.UnaryOp op a pos) (tUn r ta):=by
 intro pins s σ H Q I h
 exact UnaryOp_ (thn (ha pins s σ H _ I h) λ v s1 ⟨x,H1,I1,r1,q1⟩=>ho pins s1 σ H1 x v Q I1 r1 q1)
theorem opI {f:Value->Value->Sem Value} {C:Int->Int->Prop} {g:Int->Int->Int}
  (rule : ∀ (i j:Int) (t u:Tok) (s:Shared) (Q:Value->Shared->Prop) (E:Value->Shared->Prop),C i j->Q (.int (g i j) s.toks) { s with toks:=s.toks+1 }->wpAny (model X.prog X.w) X.A (f (.int i t) (.int j u)) Q E s) :
  OpR X f (rI C λ i j=>.int (g i j)):=by
 intro pins s σ H x y v u Q I rx ry h
 obtain ⟨i,j,rfl,rfl,hc,q⟩:=h
 obtain ⟨t,rfl⟩:=rx
 obtain ⟨t',rfl⟩:=ry
 exact rule i j t t' s _ _ hc ⟨.int (g i j),H,I.tok _,⟨_,rfl⟩,q⟩
theorem opI0 {f:Value->Value->Sem Value} {g:Int->Int->Int}
  (rule : ∀ (i j:Int) (t u:Tok) (s:Shared) (Q:Value->Shared->Prop) (E:Value->Shared->Prop),Q (.int (g i j) s.toks) { s with toks:=s.toks+1 }->wpAny (model X.prog X.w) X.A (f (.int i t) (.int j u)) Q E s) :
  OpR X f (rI0 λ i j=>.int (g i j)):=by
 intro pins s σ H x y v u Q I rx ry h
 obtain ⟨i,j,rfl,rfl,q⟩:=h
 obtain ⟨t,rfl⟩:=rx
 obtain ⟨t',rfl⟩:=ry
 exact rule i j t t' s _ _ ⟨.int (g i j),H,I.tok _,⟨_,rfl⟩,q⟩
theorem opB0 {f:Value->Value->Sem Value} {g:Int->Int->Bool}
  (rule : ∀ (i j:Int) (t u:Tok) (s:Shared) (Q:Value->Shared->Prop) (E:Value->Shared->Prop),Q (.bool (g i j)) s->wpAny (model X.prog X.w) X.A (f (.int i t) (.int j u)) Q E s) :
  OpR X f (rI0 λ i j=>.bl (g i j)):=by
 intro pins s σ H x y v u Q I rx ry h
 obtain ⟨i,j,rfl,rfl,q⟩:=h
 obtain ⟨t,rfl⟩:=rx
 obtain ⟨t',rfl⟩:=ry
 exact rule i j t t' s _ _ ⟨.bl (g i j),H,I,rfl,q⟩
def CDiv (i j:Int):Prop:=0<j/\j<1073741824
def CPow (i j:Int):Prop:=0<=j/\j<=1000000/\i.natAbs<2 ^ 64
def CMul (i j:Int):Prop:=(-(2 ^ 64)<i/\i<2 ^ 64)\/(-(2 ^ 64)<j/\j<2 ^ 64)
theorem CMul.ok {i j:Int} (h:CMul i j):IntMulOk i j:=by
 rcases h with ⟨h1,h2⟩ | ⟨h1,h2⟩
 ·exact .of_left (intBits_le_64 h1 h2)
 ·exact .of_right (intBits_le_64 h1 h2)
theorem op_add:OpR X (binaryOp .Add) (rI0 λ i j=>.int (i+j)):=opI0 λ _ _ _ _ _ _ _ q=>add_int q
theorem op_sub:OpR X (binaryOp .Sub) (rI0 λ i j=>.int (i - j)):=opI0 λ _ _ _ _ _ _ _ q=>sub_int q
theorem op_mul:OpR X (binaryOp .Mult) (rI CMul λ i j=>.int (i * j)):=opI λ _ _ _ _ _ _ _ hc q=>mul_int q hc.ok
theorem op_fdiv:OpR X (binaryOp .FloorDiv) (rI CDiv λ i j=>.int (i / j)):=opI λ i j _ _ _ _ _ hc q=>by
 have h1:(0:Int)<j:=hc.1
 have h2:j<1073741824:=hc.2
 exact floordiv_int (by omega) (by rw [Int.fdiv_eq_ediv_of_nonneg i (by omega)];exact q) (.inl (PyProof.noPylong_small (by omega)))
theorem op_mod:OpR X (binaryOp .Mod) (rI (λ _ j=>0<j) λ i j=>.int (i % j)):=opI λ i j _ _ _ _ _ hc q=>by
 have h1:(0:Int)<j:=hc
 exact mod_int' (by omega) (by rw [Int.fmod_eq_emod_of_nonneg i (by omega)];exact q)
theorem op_pow:OpR X (binaryOp .Pow) (rI CPow λ i j=>.int (i ^ j.toNat)):=opI λ _ _ _ _ _ _ _ hc q=>pow_int_small hc.1 hc.2.1 hc.2.2 q
theorem unI {f:Value->Sem Value} {g:Int->Int}
  (rule : ∀ (i:Int) (t:Tok) (s:Shared) (Q:Value->Shared->Prop) (E:Value->Shared->Prop),Q (.int (g i) s.toks) { s with toks:=s.toks+1 }->wpAny (model X.prog X.w) X.A (f (.int i t)) Q E s) :
  UnR X f (rU λ i=>.int (g i)):=by
 intro pins s σ H x v Q I rx h
 obtain ⟨i,rfl,q⟩:=h
 obtain ⟨t,rfl⟩:=rx
 exact rule i t s _ _ ⟨.int (g i),H,I.tok _,⟨_,rfl⟩,q⟩
theorem un_neg:UnR X (unaryOp .USub) (rU λ i=>.int (-i)):=unI λ _ _ _ _ _ q=>neg_int q
end
def scal:V->V->Bool
 | .non,.non=>true | .non,.int _=>true | .int _,.non=>true | .non,.bl _=>true | .bl _,.non=>true | .non,.str _=>true | .str _,.non=>true
 | .int _,.int _=>true | .bl _,.bl _=>true | .str _,.str _=>true | .byt _,.byt _=>true
 | .int _,.str _=>true | .str _,.int _=>true | .bl _,.str _=>true | .str _,.bl _=>true
 | _,_=>false
def rEq:R2:=λ x y H Q=>scal x y=true/\Q (.bl (decide (x=y))) H
def rNe:R2:=λ x y H Q=>scal x y=true/\Q (.bl (!decide (x=y))) H
theorem dec_int {i j:Int}:decide (V.int i=V.int j)=(i == j):=by
 rw [Bool.eq_iff_iff]
 simp
theorem dec_bl {i j:Bool}:decide (V.bl i=V.bl j)=(i == j):=by
 rw [Bool.eq_iff_iff]
 simp
theorem dec_str {i j:Str}:decide (V.str i=V.str j)=(i == j):=by
 rw [Bool.eq_iff_iff]
 simp
theorem dec_byt {i j:Array UInt8}:decide (V.byt i=V.byt j)=(i.toList == j.toList):=by
 rw [Bool.eq_iff_iff]
 cases i
 cases j
 simp
section
variable {X:Cx} {a b c:Expr} {ta tb tc:TE} {pos:Pos}
theorem fin_bl {pins:List (Addr×Obj)} {σ:St} {H:Hp} {s:Shared} {Q:VK} {k k':Bool} (I:Inv X pins σ H s) (q:Q (.bl k) H) (e:k=k'):EP X pins σ Q (.bool k') s:=by
 subst e
 exact ⟨.bl k,H,I,rfl,q⟩
theorem op_eq:OpR X (compareOp .Eq) rEq:=by
 intro pins s σ H x y v u Q I rx ry h
 obtain ⟨hs,q⟩:=h
 cases x with
 | non =>
  cases rx
  cases y with
  | non=>cases ry;exact PySem.EqNone.eq_none_none (fin_bl I q (by simp))
  | bl j=>cases ry;exact PySem.EqNone.eq_none_bool (fin_bl I q (by simp))
  | int j=>obtain ⟨t',rfl⟩:=ry;exact PySem.EqNone.eq_none_int (fin_bl I q (by simp))
  | str j=>obtain ⟨t',rfl⟩:=ry;exact PySem.EqNone.eq_none_str (fin_bl I q (by simp))
  | _=>exact absurd (show false=true from hs) Bool.false_ne_true
 | bl i =>
  cases rx
  cases y with
  | non=>cases ry;exact PySem.EqNone.eq_bool_none (fin_bl I q (by simp))
  | bl j=>cases ry;exact eq_bool (fin_bl I q dec_bl)
  | str j=>obtain ⟨t',rfl⟩:=ry;exact PySem.EqMixed.eq_bool_str (fin_bl I q (by simp))
  | _=>exact absurd (show false=true from hs) Bool.false_ne_true
 | int i =>
  obtain ⟨t,rfl⟩:=rx
  cases y with
  | non=>cases ry;exact PySem.EqNone.eq_int_none (fin_bl I q (by simp))
  | int j=>obtain ⟨t',rfl⟩:=ry;exact eq_int (fin_bl I q dec_int)
  | str j=>obtain ⟨t',rfl⟩:=ry;exact PySem.EqMixed.eq_int_str (fin_bl I q (by simp))
  | _=>exact absurd (show false=true from hs) Bool.false_ne_true
 | str i =>
  obtain ⟨t,rfl⟩:=rx
  cases y with
  | non=>cases ry;exact PySem.EqNone.eq_str_none (fin_bl I q (by simp))
  | bl j=>cases ry;exact PySem.EqMixed.eq_str_bool (fin_bl I q (by simp))
  | int j=>obtain ⟨t',rfl⟩:=ry;exact PySem.EqMixed.eq_str_int (fin_bl I q (by simp))
  | str j=>obtain ⟨t',rfl⟩:=ry;exact eq_str (fin_bl I q dec_str)
  | _=>exact absurd (show false=true from hs) Bool.false_ne_true
 | byt i =>
  obtain ⟨t,rfl⟩:=rx
  cases y with
  | byt j=>obtain ⟨t',rfl⟩:=ry;exact PySem.W.eq_bytes (fin_bl I q dec_byt)
  | _=>exact absurd (show false=true from hs) Bool.false_ne_true
 | _=>cases y<;>exact absurd (show false=true from hs) Bool.false_ne_true
theorem op_ne:OpR X (compareOp .NotEq) rNe:=by
 intro pins s σ H x y v u Q I rx ry h
 obtain ⟨hs,q⟩:=h
 cases x with
 | non =>
  cases rx
  cases y with
  | non=>cases ry;exact PySem.EqNone.ne_none_none (fin_bl I q (by simp))
  | bl j=>cases ry;exact PySem.EqNone.ne_none_bool (fin_bl I q (by simp))
  | int j=>obtain ⟨t',rfl⟩:=ry;exact PySem.EqNone.ne_none_int (fin_bl I q (by simp))
  | str j=>obtain ⟨t',rfl⟩:=ry;exact PySem.EqNone.ne_none_str (fin_bl I q (by simp))
  | _=>exact absurd (show false=true from hs) Bool.false_ne_true
 | bl i =>
  cases rx
  cases y with
  | non=>cases ry;exact PySem.EqNone.ne_bool_none (fin_bl I q (by simp))
  | bl j=>cases ry;exact ne_bool (fin_bl I q (congrArg not dec_bl))
  | str j=>obtain ⟨t',rfl⟩:=ry;exact PySem.EqMixed.ne_bool_str (fin_bl I q (by simp))
  | _=>exact absurd (show false=true from hs) Bool.false_ne_true
 | int i =>
  obtain ⟨t,rfl⟩:=rx
  cases y with
  | non=>cases ry;exact PySem.EqNone.ne_int_none (fin_bl I q (by simp))
  | int j=>obtain ⟨t',rfl⟩:=ry;exact ne_int (fin_bl I q (congrArg not dec_int))
  | str j=>obtain ⟨t',rfl⟩:=ry;exact PySem.EqMixed.ne_int_str (fin_bl I q (by simp))
  | _=>exact absurd (show false=true from hs) Bool.false_ne_true
 | str i =>
  obtain ⟨t,rfl⟩:=rx
  cases y with
  | non=>cases ry;exact PySem.EqNone.ne_str_none (fin_bl I q (by simp))
  | bl j=>cases ry;exact PySem.EqMixed.ne_str_bool (fin_bl I q (by simp))
  | int j=>obtain ⟨t',rfl⟩:=ry;exact PySem.EqMixed.ne_str_int (fin_bl I q (by simp))
  | str j=>obtain ⟨t',rfl⟩:=ry;exact ne_str (fin_bl I q (congrArg not dec_str))
  | _=>exact absurd (show false=true from hs) Bool.false_ne_true
 | byt i =>
  obtain ⟨t,rfl⟩:=rx
  cases y with
  | byt j=>obtain ⟨t',rfl⟩:=ry;exact PySem.W.ne_bytes (fin_bl I q (congrArg not dec_byt))
  | _=>exact absurd (show false=true from hs) Bool.false_ne_true
 | _=>cases y<;>exact absurd (show false=true from hs) Bool.false_ne_true
theorem op_lt:OpR X (compareOp .Lt) (rI0 λ i j=>.bl (decide (i<j))):=opB0 λ _ _ _ _ _ _ _ q=>lt_int q
theorem op_le:OpR X (compareOp .LtE) (rI0 λ i j=>.bl (decide (i<=j))):=opB0 λ _ _ _ _ _ _ _ q=>le_int q
theorem op_gt:OpR X (compareOp .Gt) (rI0 λ i j=>.bl (decide (j<i))):=opB0 λ _ _ _ _ _ _ _ q=>gt_int q
theorem op_ge:OpR X (compareOp .GtE) (rI0 λ i j=>.bl (decide (j<=i))):=opB0 λ _ _ _ _ _ _ _ q=>ge_int q
theorem op_in_str:OpR X (compareOp .In) (λ x y H Q => ∃ i j,x=.str i/\y=.str j/\Q (.bl (!(Builtin.Str.occurrences j i 0 j.length 1).isEmpty)) H):=by
 intro pins s σ H x y v u Q I rx ry h
 obtain ⟨i,j,rfl,rfl,q⟩:=h
 obtain ⟨t,rfl⟩:=rx
 obtain ⟨t',rfl⟩:=ry
 exact in_str (fin_bl I q rfl)
theorem op_isN:OpR X (compareOp .Is) (λ x y H Q=>y=.non/\Q (.bl (decide (x=.non))) H):=by
 intro pins s σ H x y v u Q I rx ry h
 obtain ⟨rfl,q⟩:=h
 cases ry
 refine is_none_gen (fin_bl I q ?_)
 cases x<;>first
  | (cases rx;rfl)
  | (obtain ⟨t,rfl⟩:=rx;rfl)
theorem op_notN:OpR X (compareOp .IsNot) (λ x y H Q=>y=.non/\Q (.bl (!decide (x=.non))) H):=by
 intro pins s σ H x y v u Q I rx ry h
 obtain ⟨rfl,q⟩:=h
 cases ry
 refine isnot_none_gen (fin_bl I q ?_)
 cases x<;>first
  | (cases rx;rfl)
  | (obtain ⟨t,rfl⟩:=rx;rfl)
theorem nomark (b:Expr) {op:CmpOp} (h:op≠.In:=by decide) (h2:op≠.NotIn:=by decide):behindInMarks op b=false:=by
 have e1:(op == CmpOp.In)=false:=by cases op<;>first | rfl | exact absurd rfl h
 have e2:(op == CmpOp.NotIn)=false:=by cases op<;>first | rfl | exact absurd rfl h2
 cases b<;>simp [behindInMarks,e1,e2]
theorem pe_cmpR {op:CmpOp} {r:R2} (ho:OpR X (compareOp op) r) (ha:PE X a ta) (hb:PE X b tb) (hm:behindInMarks op b=false):PE X (.Compare a [op] [b] pos) (tOp r ta tb):=by
 intro pins s σ H Q I h
 exact wpAny_Compare1 (binT ha hb I h λ v u s2 x y H2 I2 rx ry q=>ho pins s2 σ H2 x y v u Q I2 rx ry q) hm
def tTest (t:TE):TT:=λ σ H Q=>t σ H λ x H' => ∃ k,x=.bl k/\Q k H'
theorem pt_cmpR {op:CmpOp} {r:R2} (ho:OpR X (compareOp op) r) (ha:PE X a ta) (hb:PE X b tb) (hm:behindInMarks op b=false):PT X (.Compare a [op] [b] pos) (tTest (tOp r ta tb)):=by
 intro pins s σ H Q I h
 refine wpAny_isTrue_Compare1 (thn (ha pins s σ H _ I h) λ v s1 ⟨x,H1,I1,r1,q1⟩=>thn (hb pins s1 σ H1 _ I1 q1) λ u s2 ⟨y,H2,I2,r2,q2⟩ =>
  thn (ho pins s2 σ H2 x y v u _ I2 r1 r2 q2) λ c s3 ⟨z,H3,I3,r3,k,e,q3⟩=>?_) hm
 subst e
 cases r3
 exact wpAny_truthy_bool ⟨H3,I3,q3⟩
theorem line63:(sizeLine:Nat)<2 ^ 63:=by rw [sizeLine_eq];decide
theorem vals1 {x:V} {us:List Value} (r:Vals [x] us) : ∃ u,us=[u]/\RelV x u:=by
 cases r with
 | cons r1 r2=>cases r2;exact ⟨_,rfl,r1⟩
theorem vals2 {x y:V} {us:List Value} (r:Vals [x,y] us) : ∃ u w',us=[u,w']/\RelV x u/\RelV y w':=by
 cases r with
 | cons r1 r2 =>
  cases r2 with
  | cons r3 r4=>cases r4;exact ⟨_,_,rfl,r1,r3⟩
theorem call_max2 (hc:X.warm=true):CallR X (.builtin "max") (λ xs H Q => ∃ i j,xs=[.int i,.int j]/\Q (.int (if j > i then j else i)) H):=by
 intro pins s σ H xs us Q I r h
 obtain ⟨i,j,rfl,q⟩:=h
 obtain ⟨u,w',rfl,⟨t,rfl⟩,⟨t',rfl⟩⟩:=vals2 r
 refine Hd.max2 (I.hin hc) λ h' tk k=>⟨_,H,I.kept k,?_,q⟩
 by_cases hj:j > i
 ·rw [if_pos hj,if_pos hj];exact ⟨_,rfl⟩
 ·rw [if_neg hj,if_neg hj];exact ⟨_,rfl⟩
theorem call_min2 (hc:X.calm=true):CallR X (.builtin "min") (λ xs H Q => ∃ i j,xs=[.int i,.int j]/\Q (.int (if j<i then j else i)) H):=by
 intro pins s σ H xs us Q I r h
 obtain ⟨i,j,rfl,q⟩:=h
 obtain ⟨u,w',rfl,⟨t,rfl⟩,⟨t',rfl⟩⟩:=vals2 r
 refine min_two_ints (I.ok.hd.1 hc) λ h' tk k=>⟨_,H,I.kept k,?_,q⟩
 by_cases hj:j<i
 ·rw [if_pos hj,if_pos hj];exact ⟨_,rfl⟩
 ·rw [if_neg hj,if_neg hj];exact ⟨_,rfl⟩
end
structure ObjM (h:Heap) (x dx C:Addr) (mA:Str->Option Value):Prop where
 obj:h.get? x=some (PySem.W.instObj C dx)
 ns:h.Ns1 dx mA
 ne:dx≠x
theorem lookIn_ns {h:Heap} {dx:Addr} {mA:Str->Option Value} (n:h.Ns1 dx mA) : ∃ od,h.get? dx=some od /\ ∀ name,PySem.W.lookIn name od=some (mA name):=by
 obtain ⟨o,es,ep,ho,hd,hk,_,hm⟩:=n
 refine ⟨o,ho,λ name=>?_⟩
 have e:=hm name
 unfold nsFind findBy at e
 rw [<-Array.find?_toList] at e
 unfold PySem.W.lookIn
 rw [hd]
 dsimp only
 split
 ·rename_i y q
  rw [q] at e
  exact congrArg some e
 ·rename_i q
  rw [q] at e
  have a:es.toList.any (·.refKey)=false:=by
   rw [List.any_eq_false]
   intro y hy
   obtain ⟨z,t,hkey⟩:=hk y (Array.mem_toList_iff.mp hy)
   simp [DictEntry.refKey,hkey]
  have a' : ¬ es.toList.any (·.refKey)=true:=by rw [a];exact Bool.false_ne_true
  rw [if_neg a']
  exact congrArg some e
theorem ObjM.look {h:Heap} {x dx C:Addr} {mA:Str->Option Value} (I:ObjM h x dx C mA) : ∃ od,PySem.W.InstAt h x (PySem.W.instObj C dx) C (some od) /\ ∀ name,PySem.W.lookIn name od=some (mA name) :=
 let ⟨od,ho,hl⟩:=lookIn_ns I.ns
 ⟨od,⟨I.obj,rfl,rfl,ho⟩,hl⟩
section
variable {prog:Program} {w:World} {A:Around} {E:Value->Shared->Prop} {s:Shared} {K:PySem.W.Frag} {x dx C f:Addr} {mA:Str->Option Value} {name:Str} {v:Value}
theorem get_map {expr:Bool} {Q:Value->Shared->Prop} (X:K.In s.heap) (I:ObjM s.heap x dx C mA) (hg:PySem.W.plainGet K C name=true) (hh:PySem.W.hasDictIn K C=true)
  (ha:PySem.W.findIn K (.ref C) name=some none) (hv:mA name=some v) (hv':PySem.W.handedIn v=true) (h:Q v { s with toks:=s.toks+1 }) :
  wpAny (model prog w) A (getAttr (.ref x) name expr) Q E s:=by
 obtain ⟨od,J,hl⟩:=I.look
 exact PySem.W.get_value X J (PySem.W.plainGet_of hg).1 (PySem.W.findObj_own hh ha rfl (by rw [hl,hv])) hv' h
theorem get_meth {pl:Sem Bool} {Q:Value×List Value->Shared->Prop} (X:K.In s.heap) (I:ObjM s.heap x dx C mA) (hg:PySem.W.plainGet K C name=true)
  (hf:PySem.W.findIn K (.ref C) name=some (some (.ref f))) (ht:PySem.W.isFn K (.ref f)=true) (hv:mA name=none) (h:Q (.ref f,[.ref x]) s) :
  wpAny (model prog w) A (getMethod (.ref x) name pl) Q E s:=by
 obtain ⟨od,J,hl⟩:=I.look
 exact PySem.W.method_fn X J (PySem.W.plainGet_of hg).1 (PySem.W.plainGet_of hg).2 hf (beq_iff_eq.mp ht) (by show (PySem.W.lookIn name od).map (·.isSome)=some false;rw [hl,hv];rfl) h
theorem set_map {ns:List Str} {Q:Unit->Shared->Prop} (X:K.In s.heap) (I:ObjM s.heap x dx C mA)
  (hs:PySem.W.findIn K (.ref C) "__setattr__" = some (some (.builtin "object.__setattr__"))) (hp:PySem.W.plainOver K C=true) (ht:PySem.W.takerIn K C name=some none) (hh:PySem.W.hasDictIn K C=true)
  (hw:PySem.Within mA ns) (hsz:ns.length<=sizeLine)
  (h : ∀ h',ObjM h' x dx C (λ y=>if y=name then some v else mA y)->Heap.SameBut dx s.heap h'->Q () { s with heap:=h',toks:=s.toks+2 }) :
  wpAny (model prog w) A (setAttr (.ref x) name v) Q E s:=by
 obtain ⟨od,J,hl⟩:=I.look
 refine PySem.W.set_plain X J hs (PySem.W.osa_open (s:={ s with toks:=s.toks+1 }) (r:=none) X J hp ht λ b=>?_)
 obtain ⟨cd,hc,hd'⟩:=PySem.W.any_some hh
 have hx:s.heap.get? x=some ⟨.ref C,some dx,.plain,#[]⟩:=I.obj
 refine wpAny_bind (wpAny_pure (wpAny_bind (wpAny_bind (wpAny_loadPart hx (wpAny_bind (PySem.W.Looks.here (s:={ s with toks:=s.toks+1 }) (PySem.W.looks_clsIn X hc) ?_))))))
 rw [hd']
 refine wpAny_pure (a:=some dx) (wpAny_bind (wpAny_pure (wpAny_bind ?_)))
 refine wpAny_nsSet1 (s:={ s with toks:=s.toks+1 }) I.ns λ h' hn2 hs2=>?_
 obtain ⟨oD,esD,epD,hoD,hdD,hcD⟩:=hn2.count (PySem.Within.cons name v hw)
 refine wpAny_bind (wpAny_lookBehind hoD (by rw [hdD];exact pastItsLine_dict (Nat.le_trans hcD (by rw [List.length_cons];omega))) ?_)
 exact wpAny_pure (h _ ⟨(hs2.2 _ (Ne.symm I.ne)).trans I.obj,hn2,I.ne⟩ hs2)
theorem make_map {R:Result->Shared->Prop} {vs:List Value} {kw:List (Str×Value)} (X:K.In s.heap) (hm:PySem.W.makesIn K C=true)
  (hi:PySem.W.findIn K (.ref C) "__init__" = some (some (.ref f))) (hf:PySem.W.typeIn K (.ref f)=some (.type "function"))
  (h:codeAny (model prog w) (A.under (.builtin "type.__call__" ⟨.ref C::vs,kw⟩)) (.call (.ref f) ⟨.ref (s.heap.objs.size+1)::vs,kw⟩) (PySem.W.InitBack (s.heap.objs.size+1) R)
   { s with heap:=(s.heap.push PySem.W.emptyDict).push (PySem.W.instObj C s.heap.objs.size) }) :
  codeAny (model prog w) A (.call (.ref C) ⟨vs,kw⟩) R s:=by
 obtain ⟨hh,g,d,t,os⟩:=s
 exact PySem.W.make_core (PySem.W.makes_of X hm) (PySem.W.looks_findIn X hi) (λ self=>PySem.W.bind_fn X self hf) (.inl rfl) h
end
def putF (f:Str) (v:V):List (Str×V)->List (Str×V)
 | []=>[(f,v)]
 | (g,x)::r=>if g=f then (g,v)::r else (g,x)::putF f v r
theorem lookup_putF (f g:Str) (v:V) : ∀ fs:List (Str×V),(putF f v fs).lookup g=if g=f then some v else fs.lookup g
 | []=>by
  show List.lookup g [(f,v)]=_
  by_cases h:g=f
  ·have hb:(g == f)=true:=beq_iff_eq.mpr h
   simp only [List.lookup,hb,if_pos h]
  ·have hb:(g == f)=false:=beq_eq_false_iff_ne.mpr h
   simp only [List.lookup,hb,if_neg h]
 | (k,x)::r=>by
  have ih:=lookup_putF f g v r
  rw [show putF f v ((k,x)::r)=(if k=f then (k,v)::r else (k,x)::putF f v r) from rfl]
  by_cases hk:k=f
  ·rw [if_pos hk]
   by_cases h:g=k
   ·have hb:(g == k)=true:=beq_iff_eq.mpr h
    simp only [List.lookup,hb,if_pos (h.trans hk)]
   ·have hb:(g == k)=false:=beq_eq_false_iff_ne.mpr h
    simp only [List.lookup,hb,if_neg (λ e:g=f=>h (e.trans hk.symm))]
  ·rw [if_neg hk]
   by_cases h:g=k
   ·have hb:(g == k)=true:=beq_iff_eq.mpr h
    simp only [List.lookup,hb,if_neg (λ e:g=f=>hk (h.symm.trans e))]
   ·have hb:(g == k)=false:=beq_eq_false_iff_ne.mpr h
    simp only [List.lookup,hb]
    exact ih
theorem keys_putF (f:Str) (v:V) : ∀ fs:List (Str×V),f∈(putF f v fs).map (·.1) /\ ∀ g,g∈fs.map (·.1)->g∈(putF f v fs).map (·.1)
 | []=>⟨by simp [putF],λ g h=>by simp at h⟩
 | (k,x)::r=>by
  obtain ⟨i1,i2⟩:=keys_putF f v r
  rw [show putF f v ((k,x)::r)=(if k=f then (k,v)::r else (k,x)::putF f v r) from rfl]
  by_cases hk:k=f
  ·rw [if_pos hk]
   subst hk
   exact ⟨by simp,λ g h=>by simpa using h⟩
  ·rw [if_neg hk]
   refine ⟨?_,λ g h=>?_⟩
   ·rw [List.map_cons]
    exact List.mem_cons_of_mem _ i1
   ·rw [List.map_cons] at h ⊢
    rcases List.mem_cons.mp h with e | e
    ·exact List.mem_cons.mpr (.inl e)
    ·exact List.mem_cons_of_mem _ (i2 g e)
theorem length_putF (f:Str) (v:V) : ∀ fs:List (Str×V),(putF f v fs).length<=fs.length+1
 | []=>by simp [putF]
 | (k,x)::r=>by
  have ih:=length_putF f v r
  rw [show putF f v ((k,x)::r)=(if k=f then (k,v)::r else (k,x)::putF f v r) from rfl]
  by_cases hk:k=f
  ·rw [if_pos hk,List.length_cons,List.length_cons];omega
  ·rw [if_neg hk,List.length_cons,List.length_cons];omega
theorem RelO.some_of {v:V} {o:Option Value} (r:RelO (some v) o) : ∃ u,o=some u/\RelV v u:=by
 cases o with
 | none=>exact (show False from r).elim
 | some u=>exact ⟨u,rfl,r⟩
theorem RelO.none_of {o:Option Value} (r:RelO none o):o=none:=by
 cases o with
 | none=>rfl
 | some u=>exact (show False from r).elim
theorem handed_of {v:V} {u:Value} (r:RelV v u):PySem.W.handedIn u=true:=by
 cases v with
 | non=>cases (show u=Value.none from r);rfl
 | bl b=>cases (show u=Value.bool b from r);rfl
 | int i=>obtain ⟨t,e⟩:=(show ∃ t,u=Value.int i t from r);cases e;rfl
 | str x=>obtain ⟨t,e⟩:=(show ∃ t,u=Value.str x t from r);cases e;rfl
 | byt b=>obtain ⟨t,e⟩:=(show ∃ t,u=Value.bytes b t from r);cases e;rfl
 | flt b=>obtain ⟨t,e⟩:=(show ∃ t,u=Value.float b t from r);cases e;rfl
 | ref a=>cases (show u=Value.ref a from r);rfl
 | ty n=>cases (show u=Value.type n from r);rfl
section
variable {P:Program} {w:World} {H H':Hp} {h h':Heap} {a C dx:Addr} {fs fs':List (Str×V)}
theorem ins_get (hok:HOk P w H h) (e:H a=some (.ins C dx fs)) : ∃ mA,ObjM h a dx C mA/\(∀ f,RelO (fs.lookup f) (mA f))/\PySem.Within mA (fs.map (·.1))/\fs.length<=1000/\H dx=some (.own a):=by
 obtain ⟨d,z,ne,ob,mA,n,r,q⟩:=(show ObjOk P w H h a (.ins C dx fs) from hok a _ e)
 exact ⟨mA,⟨ob,n,ne⟩,r,q,z,d⟩
end
structure Cls (K:PySem.W.Frag) (C:Addr):Prop where
 pg:PySem.W.plainGet K C Str.empty=true
 hd:PySem.W.hasDictIn K C=true
 po:PySem.W.plainOver K C=true
 sa:PySem.W.findIn K (.ref C) "__setattr__" = some (some (.builtin "object.__setattr__"))
theorem Cls.get {K:PySem.W.Frag} {C:Addr} (c:Cls K C) (f:Str):PySem.W.plainGet K C f=true:=c.pg
def NoAttr (K:PySem.W.Frag) (C:Addr) (f:Str):Prop:=PySem.W.findIn K (.ref C) f=some none
theorem NoAttr.taker {K:PySem.W.Frag} {C:Addr} {f:Str} (n:NoAttr K C f):PySem.W.takerIn K C f=some none:=by
 unfold PySem.W.takerIn
 rw [show PySem.W.findIn K (.ref C) f=some none from n]
 rfl
structure Meth (K:PySem.W.Frag) (C:Addr) (m:Str) (f:Addr):Prop where
 at_:PySem.W.findIn K (.ref C) m=some (some (.ref f))
 fn:PySem.W.isFn K (.ref f)=true
 kp:PySem.W.keepIn K (.ref f)=true
section
variable {X:Cx} {pins:List (Addr×Obj)} {σ:St} {H:Hp} {s:Shared} {a C dx:Addr} {fs:List (Str×V)} {f:Str} {v:V} {A:Around} {E:Value->Shared->Prop}
theorem getattr_ok {b:Bool} {Q:Value->Shared->Prop} (I:Inv X pins σ H s) (e:H a=some (.ins C dx fs)) (c:Cls X.K C) (n:NoAttr X.K C f) (l:fs.lookup f=some v)
  (h : ∀ u s',Inv X pins σ H s'->RelV v u->Q u s'):wpAny (model X.prog X.w) A (getAttr (.ref a) f b) Q E s:=by
 obtain ⟨mA,O,r,_,_,_⟩:=ins_get I.hok e
 obtain ⟨u,hu,ru⟩:=RelO.some_of (v:=v) (o:=mA f) (by rw [<-l];exact r f)
 exact get_map I.kIn O (c.get f) c.hd n hu (handed_of ru) (h u _ (I.tok _) ru)
theorem getmeth_ok {m:Str} {g:Addr} {pl:Sem Bool} {Q:Value×List Value->Shared->Prop} (I:Inv X pins σ H s) (e:H a=some (.ins C dx fs)) (c:Cls X.K C) (k:Meth X.K C m g) (l:fs.lookup m=none)
  (h:Q (.ref g,[.ref a]) s):wpAny (model X.prog X.w) A (getMethod (.ref a) m pl) Q E s:=by
 obtain ⟨mA,O,r,_,_,_⟩:=ins_get I.hok e
 have hn:mA m=none:=RelO.none_of (by rw [<-l];exact r m)
 exact get_meth I.kIn O (c.get m) k.at_ k.fn hn h
theorem setattr_ok {y:V} {u:Value} {Q:Unit->Shared->Prop} (I:Inv X pins σ H s) (e:H a=some (.ins C dx fs)) (c:Cls X.K C) (n:NoAttr X.K C f) (hl:fs.length<1000) (ry:RelV y u)
  (h : ∀ s',Inv X pins σ (upd H a (.ins C dx (putF f y fs))) s'->Q () s'):wpAny (model X.prog X.w) A (setAttr (.ref a) f u) Q E s:=by
 obtain ⟨mA,O,r,wi,_,ho⟩:=ins_get I.hok e
 have hz:(fs.map (·.1)).length<=sizeLine:=by rw [List.length_map,sizeLine_eq];omega
 refine set_map I.kIn O c.sa c.po n.taker c.hd wi hz λ h' O' sb=>h _ ?_
 have hd : ∃ o,h'.get? dx=some o:=let ⟨o,_,_,e',_⟩:=O'.ns;⟨o,e'⟩
 refine I.write (x:=a) (e:=dx) (by rw [e];exact True.intro) (.inr ho) (λ b q hb z=>(sb.2 b hb).trans z) hd ?_
 refine ⟨by rw [upd_ne O.ne];exact ho,?_,O.ne,O'.obj,_,O'.ns,λ g=>?_,λ g hg=>?_⟩
 ·have:=length_putF f y fs;omega
 ·show RelO ((putF f y fs).lookup g) (if g=f then some u else mA g)
  rw [lookup_putF]
  by_cases q:g=f
  ·rw [if_pos q,if_pos q];exact ry
  ·rw [if_neg q,if_neg q];exact r g
 ·by_cases q:g=f
  ·rw [q];exact (keys_putF f y fs).1
  ·refine (keys_putF f y fs).2 g (wi g λ z=>hg ?_)
   show (if g=f then some u else mA g)=none
   rw [if_neg q];exact z
theorem Inv.made (I:Inv X pins σ H s):Inv X pins σ (upd (upd H s.heap.objs.size (.own (s.heap.objs.size+1))) (s.heap.objs.size+1) (.ins C s.heap.objs.size []))
  { s with heap:=(s.heap.push PySem.W.emptyDict).push (PySem.W.instObj C s.heap.objs.size) }:=by
 have e1:(s.heap.push PySem.W.emptyDict).get? s.heap.objs.size=some PySem.W.emptyDict:=Heap.get?_push_size s.heap rfl
 have e2:((s.heap.push PySem.W.emptyDict).push (PySem.W.instObj C s.heap.objs.size)).get? (s.heap.objs.size+1)=some (PySem.W.instObj C s.heap.objs.size):=by
  have:=Heap.get?_push_size (s.heap.push PySem.W.emptyDict) (o:=PySem.W.instObj C s.heap.objs.size) rfl
  rwa [Heap.size_push] at this
 have e3:(s.heap.push PySem.W.emptyDict).Ns s.heap.objs.size (λ _=>none):=⟨PySem.W.emptyDict,#[],_,e1,rfl,(λ e he=>absurd he (by simp)),λ _=>rfl⟩
 have I1:=I.laid (a:=s.heap.objs.size) (o:=.own (s.heap.objs.size+1)) (h':=s.heap.push PySem.W.emptyDict) (t':=s.toks) (λ b u q=>Heap.get?_push_of_some _ q) (Nat.le_refl _) ⟨_,e1⟩
 refine I1.laid (a:=s.heap.objs.size+1) (o:=.ins C s.heap.objs.size []) (t':=s.toks) (λ b u q=>Heap.get?_push_of_some _ q) (Nat.le_of_eq (Heap.size_push _ _)) ?_
 have ne:s.heap.objs.size≠s.heap.objs.size+1:=Nat.ne_of_lt (Nat.lt_succ_self _)
 refine ⟨by rw [upd_ne ne,upd_same],Nat.zero_le _,ne,e2,λ _=>none,(Heap.Ns1.of_empty e3).at λ o q=>Heap.get?_push_of_some _ q,λ _=>True.intro,λ y hy=>absurd rfl hy⟩
theorem attr_of {prog:Program} {w:World} {env:Env} {e:Expr} {f:Str} {pos:Pos} {s:Shared} {Q:Value->Shared->Prop} (hb:attributeBase e f env (eval e env)=eval e env)
  (h:wpAny (model prog w) A (eval e env) (λ o s₁=>wpAny (model prog w) A (getAttr o f true) Q E s₁) E s):wpAny (model prog w) A (eval (.Attribute e f pos) env) Q E s :=
 Attribute_any_ h (by rw [arm_eval_Attribute,hb])
end
def tFld (K:PySem.W.Frag) (ta:TE) (f:Str):TE:=λ σ H Q=>ta σ H λ x H1 => ∃ a C dx fs v,x=.ref a/\H1 a=some (.ins C dx fs)/\Cls K C/\NoAttr K C f/\fs.lookup f=some v/\Q v H1
def sFld (K:PySem.W.Frag) (ta tv:TE) (f:Str):TS:=λ D σ H=>tv σ H λ y H1=>ta σ H1 λ x H2 => ∃ a C dx fs,x=.ref a/\H2 a=some (.ins C dx fs)/\Cls K C/\NoAttr K C f/\fs.length<1000 /\
 D.nx σ (upd H2 a (.ins C dx (putF f y fs)))
section
variable {X:Cx} {o e value:Expr} {f:Str} {pos pos' tpos:Pos} {ta tv:TE}
theorem pe_fld (he:PE X e ta) (hb:attributeBase e f X.env (eval e X.env)=eval e X.env):PE X (.Attribute e f pos) (tFld X.K ta f):=by
 intro pins s σ H Q I h
 refine attr_of hb (thn (he pins s σ H _ I h) λ u s1 ⟨x,H1,I1,rx,a,C,dx,fs,v,ex,ea,c,n,l,q⟩=>?_)
 subst ex
 obtain rfl:u=Value.ref a:=rx
 exact getattr_ok I1 ea c n l λ u' s2 I2 ru=>⟨v,H1,I2,ru,q⟩
theorem ps_fld (ha:PE X o ta) (hv:PE X value tv) (hs:swapsWith value (some (.Attribute o f pos')) pos.line X.env=pure false):PS X (.Assign [.Attribute o f pos'] value pos) (sFld X.K ta tv f):=by
 intro pins s σ H D I h
 refine plainObj_wpAny_Assign_Attribute (thn (hv pins s σ H _ I h) λ u s1 ⟨y,H1,I1,ry,q⟩=>thn (ha pins s1 σ H1 _ I1 q) λ ov s2 ⟨x,H2,I2,rx,a,C,dx,fs,ex,ea,c,n,l,q2⟩=>?_) hs
 subst ex
 obtain rfl:ov=Value.ref a:=rx
 exact setattr_ok I2 ea c n l ry λ s3 I3=>⟨σ,_,I3,q2⟩
end
section
variable {X:Cx} {pins:List (Addr×Obj)} {σ:St} {H:Hp} {s:Shared} {A:Around} {E:Value->Shared->Prop} {Q:Value->Shared->Prop} {c:Value} {b:Bool}
inductive TyOf (K:PySem.W.Frag) (H:Hp):V->Value->Prop where
 | non:TyOf K H .non (.type "NoneType")
 | bl (x:Bool):TyOf K H (.bl x) (.type "bool")
 | int (i:Int):TyOf K H (.int i) (.type "int")
 | str (x:Str):TyOf K H (.str x) (.type "str")
 | flt (x:UInt64):TyOf K H (.flt x) (.type "float")
 | lst {a:Addr} {xs:List V} (e:H a=some (.lst xs)):TyOf K H (.ref a) (.type "list")
 | frz {a:Addr} {o:Obj} {xs:List V} (e:H a=some (.frz o (.lst xs))):TyOf K H (.ref a) (.type "list")
 | tup {a:Addr} {xs:List V} (e:H a=some (.tup xs)):TyOf K H (.ref a) (.type "tuple")
 | dK {a:Addr} {kvs:List (Key×V)} (e:H a=some (.dK kvs)):TyOf K H (.ref a) (.type "dict")
 | dT {a:Addr} {kvs:List (List Key×V)} (e:H a=some (.dT kvs)):TyOf K H (.ref a) (.type "dict")
 | ins {a C dx:Addr} {fs:List (Str×V)} (e:H a=some (.ins C dx fs)) (cl:Cls K C) (ha:PySem.W.findIn K (.ref C) "__class__" = some (some (.builtin "object.__class__")))
   (hn:PySem.W.specialIn K (.builtin "object.__class__") "__get__" = some (some (.builtin "getset_descriptor.__get__"))) (htk:PySem.W.takesIn K (.builtin "object.__class__")=some true)
   (hm:PySem.W.mroIn K C (.type "object")=some true):TyOf K H (.ref a) (.ref C)
theorem isinst_ok {x:V} {u t:Value} (I:Inv X pins σ H s) (rx:RelV x u) (ty:TyOf X.K H x t) (e:PySem.W.kitOne X.K t c=some b) (h : ∀ tk,Q (.bool b) { s with toks:=tk }) :
  wpAny (model X.prog X.w) A (call (.builtin "isinstance") [u,c]) Q E s:=by
 cases ty with
 | non=>cases (show u=Value.none from rx);exact PySem.W.kia_one PySem.W.kitx_none I.kIn True.intro e (λ z=>nomatch z) h
 | bl y=>cases (show u=Value.bool y from rx);exact PySem.W.kia_one PySem.W.kitx_bool I.kIn True.intro e (λ z=>nomatch z) h
 | int i=>obtain ⟨t,q⟩:=(show ∃ t,u=Value.int i t from rx);cases q;exact PySem.W.kia_one PySem.W.kitx_int I.kIn True.intro e (λ z=>nomatch z) h
 | str y=>obtain ⟨t,q⟩:=(show ∃ t,u=Value.str y t from rx);cases q;exact PySem.W.kia_one PySem.W.kitx_str I.kIn True.intro e (λ z=>nomatch z) h
 | flt y=>obtain ⟨t,q⟩:=(show ∃ t,u=Value.float y t from rx);cases q;exact PySem.W.kia_one PySem.W.kitx_float I.kIn True.intro e (λ z=>nomatch z) h
 | @lst a xs ea =>
  cases (show u=Value.ref a from rx)
  obtain ⟨_,_,n,_,h1⟩:=(show ObjOk X.prog X.w H s.heap a (.lst xs) from I.hok a _ ea)
  exact PySem.W.kia_one PySem.W.kitx_list I.kIn ⟨_,h1,rfl⟩ e (λ z=>nomatch z) h
 | @frz a ob xs ea =>
  cases (show u=Value.ref a from rx)
  obtain ⟨_,_,_,n,_,h1⟩:=(show ObjOk X.prog X.w H s.heap a (.frz ob (.lst xs)) from I.hok a _ ea)
  exact PySem.W.kia_one PySem.W.kitx_list I.kIn ⟨_,h1,rfl⟩ e (λ z=>nomatch z) h
 | @tup a xs ea =>
  cases (show u=Value.ref a from rx)
  obtain ⟨_,_,_,p0⟩:=(show ObjOk X.prog X.w H s.heap a (.tup xs) from I.hok a _ ea)
  have p:=p0.up
  obtain ⟨o,h1,h2,_⟩:=p
  exact PySem.W.kia_one PySem.W.kitx_tuple I.kIn ⟨o,h1,h2⟩ e (λ z=>nomatch z) h
 | @dK a kvs ea =>
  cases (show u=Value.ref a from rx)
  obtain ⟨_,_,vs,_,p⟩:=(show ObjOk X.prog X.w H s.heap a (.dK kvs) from I.hok a _ ea)
  obtain ⟨o,es,ep,h1,h2,_⟩:=p
  exact PySem.W.kia_one PySem.W.kitx_dict I.kIn ⟨o,h1,h2.1⟩ e (λ z=>nomatch z) h
 | @dT a kvs ea =>
  cases (show u=Value.ref a from rx)
  obtain ⟨_,_,xs,_,o,es,ep,h1,h2,_⟩:=(show ObjOk X.prog X.w H s.heap a (.dT kvs) from I.hok a _ ea)
  exact PySem.W.kia_one PySem.W.kitx_dict I.kIn ⟨o,h1,h2.1⟩ e (λ z=>nomatch z) h
 | @ins a C dx fs ea cl ha hn htk hm =>
  cases (show u=Value.ref a from rx)
  obtain ⟨mA,O,_⟩:=ins_get I.hok ea
  obtain ⟨od,J,_⟩:=O.look
  exact PySem.W.kia_one (PySem.W.kitx_own (cl.get _) cl.hd ha hn htk hm) I.kIn J e (λ z=>nomatch z) h
end
structure Room (k:Nat) (A:Around):Prop where
 hd:A.handled=none
 dp:A.depth+3 * k+5<recursionLimit
 un:A.units+16 * k+200<cLine
theorem Room.mono {j k:Nat} {A:Around} (r:Room k A) (h:j<=k):Room j A:=⟨r.hd,by have:=r.dp;omega,by have:=r.un;omega⟩
theorem Room.deeper {k:Nat} {A:Around} (r:Room (k+1) A) (env:Env):Room k (A.deeper env) :=
 ⟨r.hd,by have:=r.dp;show A.depth+1+3 * k+5<_;omega,by have:=r.un;show A.units+3+16 * k+200<_;omega⟩
theorem make_depth {A:Around} {C:Addr} {us:List Value} {kw:List (Str×Value)}:(A.under (.builtin "type.__call__" ⟨.ref C::us,kw⟩)).depth=A.depth+1:=by
 first | rfl | simp [Around.under,Code.weight,Code.isCreation,Code.isGuard,Code.isCaller,Code.frames,Code.isFrame,guardIds]
theorem make_units {A:Around} {C:Addr} {us:List Value} {kw:List (Str×Value)}:(A.under (.builtin "type.__call__" ⟨.ref C::us,kw⟩)).units=A.units+1:=by
 first | rfl | simp [Around.under,Code.cUnits,Code.frames,Code.isFrame]
theorem Room.make {k:Nat} {A:Around} (r:Room (k+1) A) (C:Addr) (us:List Value) (kw:List (Str×Value)):Room k (A.under (.builtin "type.__call__" ⟨.ref C::us,kw⟩)) :=
 ⟨r.hd,by have:=r.dp;rw [make_depth];omega,by have:=r.un;rw [make_units];omega⟩
theorem Room.depth {k:Nat} {A:Around} (r:Room k A):A.depth<recursionLimit:=by have:=r.dp;omega
theorem Room.units {k:Nat} {A:Around} (r:Room k A):A.units+64<cLine:=by have:=r.un;omega
def tNil:TA:=λ _ H Q=>Q [] H
def tCons (ta:TE) (tr:TA):TA:=λ σ H Q=>ta σ H λ x H1=>tr σ H1 λ xs H2=>Q (x::xs) H2
section
variable {X:Cx} {e:Expr} {es:List Expr} {te:TE} {t:TA} {pos:Pos}
theorem pa_nil:PA X [] tNil:=λ _ _ _ _ H Q I h=>Calls.spliced_nil ⟨[],H,I,.nil,h⟩
theorem pa_cons (ha:PE X e te) (hr:PA X es t) (hs:starEach (e::es) X.env=(false,eval e X.env)::starEach es X.env:=by rfl):PA X (e::es) (tCons te t):=by
 intro pos pins s σ H Q I h
 rw [hs]
 show wpAny _ _ (spliced ((false,eval e X.env)::backTo pos (starEach es X.env))) _ _ s
 refine Calls.spliced_cons (thn (ha pins s σ H _ I h) λ u s1 ⟨x,H1,I1,r1,q1⟩=>?_)
 exact thn (hr pos pins s1 σ H1 _ I1 q1) λ us s2 ⟨xs,H2,I2,r2,q2⟩=>⟨x::xs,H2,I2,.cons r1 r2,q2⟩
def tTup (t:TA):TE:=λ σ H Q=>t σ H λ xs H1=>xs.length<=sizeLine /\ ∀ p,H1 p=none->Q (.ref p) (upd H1 p (.tup xs))
def tLst (t:TA):TE:=λ σ H Q=>t σ H λ xs H1=>xs.length<=sizeLine /\ ∀ p,H1 p=none->Q (.ref p) (upd H1 p (.lst xs))
theorem pe_tup {x1} (h:PA X es t):PE X (.Tuple es x1 pos) (tTup t):=by
 intro pins s σ H Q I hq
 refine wpAny_Tuple_spliced (thn (h pos pins s σ H _ I hq) λ us s1 ⟨xs,H1,I1,r,z,q⟩=>⟨by rw [<-r.length];exact z,?_⟩)
 have hf:H1 s1.heap.objs.size=none:=I1.hok.fresh (Nat.le_refl _)
 refine ⟨.ref s1.heap.objs.size,upd H1 s1.heap.objs.size (.tup xs),I1.laid (t':=s1.toks) (λ b u e=>Heap.get?_push_of_some _ e) (Nat.le_refl _) ?_,rfl,q _ hf⟩
 exact ⟨z,us,r,⟨_,Heap.get?_push_size _ rfl,rfl,⟨_,rfl⟩,rfl⟩⟩
theorem pe_lst (h:PA X es t):PE X (.List es pos) (tLst t):=by
 intro pins s σ H Q I hq
 refine wpAny_List_spliced (thn (h pos pins s σ H _ I hq) λ us s1 ⟨xs,H1,I1,r,z,q⟩=>⟨by rw [<-r.length];exact z,?_⟩)
 have hf:H1 s1.heap.objs.size=none:=I1.hok.fresh (Nat.le_refl _)
 refine ⟨.ref s1.heap.objs.size,upd H1 s1.heap.objs.size (.lst xs),I1.laid (t':=s1.toks) (λ b u e=>Heap.get?_push_of_some _ e) (Nat.le_refl _) ?_,rfl,q _ hf⟩
 exact ⟨z,us,0,r,Heap.get?_push_size _ rfl⟩
end
abbrev Sp:=List V->Hp->VK->XK->Prop
abbrev CXT:=List Env->Hp->Shared->XK->Value->Shared->Prop
structure Env0 (P:Program) (w:World) (K:PySem.W.Frag) (mg:Str->Option Value) (base:Heap) (A:Around) (outer:List Env) (s:Shared) (H:Hp):Prop where
 frames:A.frames=some outer
 mod:Mod K mg base
 bs : ∀ b o,base.get? b=some o->s.heap.get? b=some o/\H b=none
 bsz:base.objs.size<=s.heap.objs.size
 funs:s.heap.FunFrames base outer
 frf : ∀ b∈frs outer,H b=none
 hok:HOk P w H s.heap
 bare:AllBare s.gens
def CE (outer:List Env) (P:Program) (w:World) (H:Hp) (s:Shared) (Q:VK) (u:Value) (s':Shared):Prop :=
 ∃ v H',s'.os=s.os/\AllBare s'.gens/\Un (frs outer) [] H H' s.heap s'.heap/\HOk P w H' s'.heap/\RelV v u/\Q v H'
def CR (CX:CXT) (outer:List Env) (P:Program) (w:World) (H:Hp) (s:Shared) (Q:VK) (E:XK) (r:Result) (s':Shared):Prop :=
 match r with
 | .ok (.ret u)=>CE outer P w H s Q u s'
 | .ok _=>False
 | .error e=>CX outer H s E e s'
structure FnOk (P:Program) (w:World) (K:PySem.W.Frag) (mg:Str->Option Value) (base:Heap) (CX:CXT) (k:Nat) (f:Addr) (fd:FuncData) (ps:List Str) (sp:Sp):Prop where
 len : ∀ vs H Q E,sp vs H Q E->vs.length=ps.length
 run : ∀ (A:Around) (outer:List Env) (s:Shared) (H:Hp) (args:Args) (us:List Value) (vs:List V) (Q:VK) (E:XK),Room k A->Env0 P w K mg base A outer s H->BindsTo s fd args (ps.zip us)->Vals vs us->sp vs H Q E ->
  codeAny (model P w) A (.call (.ref f) args) (CR CX outer P w H s Q E) s
theorem FnOk.imp {P:Program} {w:World} {K:PySem.W.Frag} {mg:Str->Option Value} {base:Heap} {CX:CXT} {k:Nat} {f:Addr} {fd:FuncData} {ps:List Str} {sp sp':Sp} (F:FnOk P w K mg base CX k f fd ps sp)
  (h : ∀ vs H Q E,sp' vs H Q E->sp vs H Q E):FnOk P w K mg base CX k f fd ps sp' :=
 ⟨λ vs H Q E q=>F.len vs H Q E (h _ _ _ _ q),λ A outer s H args us vs Q E hr he hb hv hs=>F.run A outer s H args us vs Q E hr he hb hv (h _ _ _ _ hs)⟩
theorem Env0.make {P:Program} {w:World} {K:PySem.W.Frag} {mg:Str->Option Value} {base:Heap} {A:Around} {outer:List Env} {s:Shared} {H:Hp} (e:Env0 P w K mg base A outer s H) (C:Addr) (us:List Value) (kw:List (Str×Value)) :
  Env0 P w K mg base (A.under (.builtin "type.__call__" ⟨.ref C::us,kw⟩)) outer s H:=⟨by first | exact e.frames | (simpa [Around.under,Code.envs,Code.isFrame,pushEnvs] using e.frames),e.mod,e.bs,e.bsz,e.funs,e.frf,e.hok,e.bare⟩
section
variable {X:Cx} {pins:List (Addr×Obj)} {σ:St} {H:Hp} {s s':Shared}
theorem Inv.env0 (I:Inv X pins σ H s):Env0 X.prog X.w X.K X.mg X.base X.A X.stack s H :=
 ⟨I.ok.frames,I.ok.mod,I.bs,Nat.le_trans I.ok.bsz I.sz,I.stack,I.stkFree,I.hok,I.bare⟩
theorem Inv.after {Q:VK} {u:Value} (I:Inv X pins σ H s) (h:CE X.stack X.prog X.w H s Q u s'):EP X pins σ Q u s':=by
 obtain ⟨v,H',os,bare,un,hok,r,q⟩:=h
 obtain ⟨hh,g,d,t,os'⟩:=s'
 obtain rfl:os'=s.os:=os
 exact ⟨v,H',I.call (h':=hh) (g':=g) (d':=d) (t':=t) (ch:=[]) un hok bare (λ b z=>absurd z (by simp)),r,q⟩
end
def tCall (sp:Sp) (dvs:List V) (E:XK) (t:TA):TE:=λ σ H Q=>t σ H λ vs H1=>sp (vs++dvs) H1 Q E
def tMeth (C:Addr) (m:Str) (sp:Sp) (dvs:List V) (E:XK) (ta:TE) (t:TA):TE:=λ σ H Q=>ta σ H λ x H1 => ∃ a dx fs,x=.ref a/\H1 a=some (.ins C dx fs)/\fs.lookup m=none /\
 t σ H1 λ vs H2=>sp (x::(vs++dvs)) H2 Q E
def tMake (C:Addr) (sp:Sp) (dvs:List V) (E:XK) (t:TA):TE:=λ σ H Q=>t σ H λ vs H1 => ∀ x dx,H1 x=none->H1 dx=none->dx≠x ->
 sp (.ref x::(vs++dvs)) (upd (upd H1 dx (.own x)) x (.ins C dx [])) (λ v H2=>v=.non/\Q (.ref x) H2) E
def Binds (K:PySem.W.Frag) (fd:FuncData) (ps:List Str) (ds:List Value):Prop :=
 ∀ (s:Shared) (us:List Value),K.In s.heap->(us++ds).length=ps.length->BindsTo s fd ⟨us,[]⟩ (ps.zip (us++ds))
theorem Binds.all {K:PySem.W.Frag} {fd:FuncData} {ps:List Str} (h : ∀ us:List Value,us.length=ps.length->bindArgs fd ⟨us,[]⟩=pure (ps.zip us)):Binds K fd ps []:=λ s us _ hl=>by
 rw [List.append_nil] at hl ⊢
 exact .of_eq (h us hl)
def Passes (CX:CXT) (X:Cx) (E:XK):Prop := ∀ (pins:List (Addr×Obj)) (σ:St) (H:Hp) (s:Shared) (e:Value) (s':Shared),Inv X pins σ H s->CX X.stack H s E e s'->X.xe e s'
section
variable {X:Cx} {CX:CXT} {k:Nat} {f C:Addr} {fd:FuncData} {ps:List Str} {sp:Sp} {dvs:List V} {ds:List Value} {E:XK} {x m:Str} {p pos apos:Pos} {e o:Expr} {es:List Expr} {ta:TE} {t:TA}
theorem run_fn {pins:List (Addr×Obj)} {σ:St} {H:Hp} {s:Shared} {Q:VK} {us:List Value} {vs:List V} (F:FnOk X.prog X.w X.K X.mg X.base CX k f fd ps sp) (hr:Room k X.A) (hb:Binds X.K fd ps ds) (hd:Vals dvs ds) (hx:Passes CX X E)
  (I:Inv X pins σ H s) (r:Vals vs us) (h:sp (vs++dvs) H Q E):wpAny (model X.prog X.w) X.A (call (.ref f) us) (EP X pins σ Q) X.xe s:=by
 have r2:Vals (vs++dvs) (us++ds):=r.append hd
 have hl:(us++ds).length=ps.length:=by rw [<-r2.length];exact F.len _ _ _ _ h
 refine wpAny_call (codeAny_mono (F.run X.A X.stack s H ⟨us,[]⟩ (us++ds) (vs++dvs) Q E hr I.env0 (hb s us I.kIn hl) r2 h) λ r s' hq=>?_)
 cases r with
 | error e=>exact hx pins σ H s e s' I hq
 | ok fl =>
  cases fl with
  | ret u=>exact I.after hq
  | next=>exact False.elim hq
  | brk=>exact False.elim hq
  | cont=>exact False.elim hq
theorem pe_call (F:FnOk X.prog X.w X.K X.mg X.base CX k f fd ps sp) (hr:Room k X.A) (hg:Gl X x) (hm:X.mg x=some (.ref f)) (hk:PySem.W.keepIn X.K (.ref f)=true) (hb:Binds X.K fd ps ds) (hd:Vals dvs ds) (hx:Passes CX X E)
  (ha:PA X (e::es) t) (hdb:(x == ("__debug__" : Str))=false:=by decide) (he:starEach (e::es) X.env=(false,eval e X.env)::starEach es X.env:=by rfl) (hpl:(backTo pos (starEach es X.env)).any (·.1)=false:=by rfl) :
  PE X (.Call (.Name x p) (e::es) [] pos) (tCall sp dvs E t):=by
 intro pins s σ H Q I h
 refine wpAny_Call_Name_kw (ld_glob I hg hm ?_ hdb)
 refine PySem.W.callWith_K (h₀:=X.base) I.ok.mod.kin hk (thn (ha pos pins s σ H _ I h) λ us s1 ⟨vs,H1,I1,r,q⟩=>⟨I1.kIn,?_⟩) he hpl
 exact run_fn F hr hb hd hx I1 r q
theorem pe_call0 (F:FnOk X.prog X.w X.K X.mg X.base CX k f fd ps sp) (hr:Room k X.A) (hg:Gl X x) (hm:X.mg x=some (.ref f)) (hk:PySem.W.keepIn X.K (.ref f)=true) (hb:Binds X.K fd ps ds) (hd:Vals dvs ds) (hx:Passes CX X E)
  (hdb:(x == ("__debug__" : Str))=false:=by decide):PE X (.Call (.Name x p) [] [] pos) (tCall sp dvs E tNil):=by
 intro pins s σ H Q I h
 refine wpAny_Call_Name_kw (ld_glob I hg hm ?_ hdb)
 exact PySem.W.callWith_K0 I.kIn hk (run_fn (us:=[]) F hr hb hd hx I .nil h)
theorem pe_meth {pl:Sem Bool} (he:PE X o ta) (c:Cls X.K C) (hm:Meth X.K C m f) (F:FnOk X.prog X.w X.K X.mg X.base CX k f fd ps sp) (hr:Room k X.A) (hb:Binds X.K fd ps ds) (hd:Vals dvs ds) (hx:Passes CX X E) (ha:PA X (e::es) t)
  (hst:starEach (e::es) X.env=(false,eval e X.env)::starEach es X.env:=by rfl) (hpl:(backTo pos (starEach es X.env)).any (·.1)=false:=by rfl)
  (ht:eval (.Call (.Attribute o m apos) (e::es) [] pos) X.env=(do
   let ov ← eval o X.env
   standAt apos.atName
   let (f,first) ← holding [ov] (getMethod ov m pl)
   callWith pos f first (backTo pos (starEach (e::es) X.env)) (backToKw pos (keywordEach [] X.env))):=by rfl) :
  PE X (.Call (.Attribute o m apos) (e::es) [] pos) (tMeth C m sp dvs E ta t):=by
 intro pins s σ H Q I h
 refine PySem.W.methodCall_KW (pl:=pl) (thn (he pins s σ H _ I h) λ u s1 ⟨x,H1,I1,rx,a,dx,fs,ex,ea,l,q⟩=>?_) ht
 subst ex
 obtain rfl:u=Value.ref a:=rx
 refine getmeth_ok I1 ea c hm l ?_
 refine PySem.W.callWith_K (first:=[.ref a]) (h₀:=X.base) I.ok.mod.kin hm.kp (thn (ha pos pins s1 σ H1 _ I1 q) λ us s2 ⟨vs,H2,I2,r,q2⟩=>⟨I2.kIn,?_⟩) hst hpl
 exact run_fn (us:=.ref a::us) (vs:=.ref a::vs) F hr hb hd hx I2 (.cons rfl r) q2
theorem pe_meth0 {pl:Sem Bool} (he:PE X o ta) (c:Cls X.K C) (hm:Meth X.K C m f) (F:FnOk X.prog X.w X.K X.mg X.base CX k f fd ps sp) (hr:Room k X.A) (hb:Binds X.K fd ps ds) (hd:Vals dvs ds) (hx:Passes CX X E)
  (ht:eval (.Call (.Attribute o m apos) [] [] pos) X.env=(do
   let ov ← eval o X.env
   standAt apos.atName
   let (f,first) ← holding [ov] (getMethod ov m pl)
   callWith pos f first (backTo pos (starEach [] X.env)) (backToKw pos (keywordEach [] X.env))):=by rfl) :
  PE X (.Call (.Attribute o m apos) [] [] pos) (tMeth C m sp dvs E ta tNil):=by
 intro pins s σ H Q I h
 refine PySem.W.methodCall_KW (pl:=pl) (thn (he pins s σ H _ I h) λ u s1 ⟨x,H1,I1,rx,a,dx,fs,ex,ea,l,q⟩=>?_) ht
 subst ex
 obtain rfl:u=Value.ref a:=rx
 refine getmeth_ok I1 ea c hm l ?_
 exact PySem.W.callWith_K0 (first:=[.ref a]) I1.kIn hm.kp (run_fn (us:=[.ref a]) (vs:=[.ref a]) F hr hb hd hx I1 (.cons rfl .nil) q)
structure Mk (K:PySem.W.Frag) (C f:Addr):Prop where
 makes:PySem.W.makesIn K C=true
 init:PySem.W.findIn K (.ref C) "__init__" = some (some (.ref f))
 fn:PySem.W.isFn K (.ref f)=true
 kp:PySem.W.keepIn K (.ref C)=true
theorem run_make {pins:List (Addr×Obj)} {σ:St} {H:Hp} {s:Shared} {Q:VK} {us:List Value} {vs:List V} (M:Mk X.K C f) (F:FnOk X.prog X.w X.K X.mg X.base CX k f fd ps sp) (hr:Room (k+1) X.A) (hb:Binds X.K fd ps ds) (hd:Vals dvs ds)
  (hx:Passes CX X E) (I:Inv X pins σ H s) (r:Vals vs us)
  (h : ∀ x dx,H x=none->H dx=none->dx≠x->sp (.ref x::(vs++dvs)) (upd (upd H dx (.own x)) x (.ins C dx [])) (λ v H2=>v=.non/\Q (.ref x) H2) E) :
  wpAny (model X.prog X.w) X.A (call (.ref C) us) (EP X pins σ Q) X.xe s:=by
 have hq:=h (s.heap.objs.size+1) s.heap.objs.size (I.hok.fresh (Nat.le_succ _)) (I.hok.fresh (Nat.le_refl _)) (Nat.ne_of_lt (Nat.lt_succ_self _))
 have I2:=Inv.made (C:=C) I
 have r2:Vals (V.ref (s.heap.objs.size+1)::(vs++dvs)) (Value.ref (s.heap.objs.size+1)::(us++ds)):=.cons rfl (r.append hd)
 have hl:(Value.ref (s.heap.objs.size+1)::us++ds).length=ps.length:=by
  have e:=r2.length
  rw [F.len _ _ _ _ hq] at e
  exact e.symm
 refine wpAny_call (make_map (f:=f) I.kIn M.makes M.init (beq_iff_eq.mp M.fn) (codeAny_mono (F.run _ X.stack _ _ ⟨Value.ref (s.heap.objs.size+1)::us,[]⟩ (Value.ref (s.heap.objs.size+1)::(us++ds)) _ _ E (hr.make C us [])
  (I2.env0.make C us []) (hb _ (Value.ref (s.heap.objs.size+1)::us) I2.kIn hl) r2 hq) λ r s' hq'=>?_))
 cases r with
 | error e=>exact hx pins σ _ _ e s' I2 hq'
 | ok fl =>
  cases fl with
  | ret u =>
   obtain ⟨v,H',I3,rv,ev,q3⟩:=I2.after hq'
   subst ev
   exact ⟨rv,⟨V.ref (s.heap.objs.size+1),H',I3,rfl,q3⟩⟩
  | next=>exact False.elim hq'
  | brk=>exact False.elim hq'
  | cont=>exact False.elim hq'
theorem pe_make (M:Mk X.K C f) (F:FnOk X.prog X.w X.K X.mg X.base CX k f fd ps sp) (hr:Room (k+1) X.A) (hg:Gl X x) (hm:X.mg x=some (.ref C)) (hb:Binds X.K fd ps ds) (hd:Vals dvs ds) (hx:Passes CX X E)
  (ha:PA X (e::es) t) (hdb:(x == ("__debug__" : Str))=false:=by decide) (he:starEach (e::es) X.env=(false,eval e X.env)::starEach es X.env:=by rfl) (hpl:(backTo pos (starEach es X.env)).any (·.1)=false:=by rfl) :
  PE X (.Call (.Name x p) (e::es) [] pos) (tMake C sp dvs E t):=by
 intro pins s σ H Q I h
 refine wpAny_Call_Name_kw (ld_glob I hg hm ?_ hdb)
 refine PySem.W.callWith_K (h₀:=X.base) I.ok.mod.kin M.kp (thn (ha pos pins s σ H _ I h) λ us s1 ⟨vs,H1,I1,r,q⟩=>⟨I1.kIn,?_⟩) he hpl
 exact run_make M F hr hb hd hx I1 r q
end
structure FnScope (N P:List Str) (sc:Scope):Prop where
 kind:sc.kind=.function
 co:sc.isCoroutine=false
 gen:sc.isGenerator=false
 nd:N.Nodup
 pre:N.take P.length=P
 par : ∀ x∈P,sc.names.lookup x=some .local\/sc.names.lookup x=some .cell
 nofree : ∀ y∈sc.names,y.2≠.free
theorem bindL_out {kindOf:Str->Option NameKind} {x:Str} : ∀ {binds:List (Str×Value)} {m:Str->Option Value},(∀ v,(x,v)∉binds)->bindL kindOf binds m x=m x
 | [],_,_=>rfl
 | (n,v)::r,m,h=>by
  unfold bindL
  rw [bindL_out λ w hw=>h w (List.mem_cons_of_mem _ hw)]
  split
  ·have:x≠n:=by rintro rfl;exact h v List.mem_cons_self
   simp [this]
  ·rfl
theorem bindC_out {kindOf:Str->Option NameKind} {x:Str} : ∀ {binds:List (Str×Value)} {m:Str->Option Value},(∀ v,(x,v)∉binds)->bindC kindOf binds m x=m x
 | [],_,_=>rfl
 | (n,v)::r,m,h=>by
  unfold bindC
  rw [bindC_out λ w hw=>h w (List.mem_cons_of_mem _ hw)]
  split
  ·rfl
  ·have:x≠n:=by rintro rfl;exact h v List.mem_cons_self
   simp [this]
theorem bindL_get {kindOf:Str->Option NameKind} {x:Str} {v:Value} : ∀ {P:List Str} {vs:List Value} {i:Nat} {m:Str->Option Value},P.Nodup->P[i]?=some x->vs[i]?=some v->kindOf x=some .local ->
  bindL kindOf (P.zip vs) m x=some v
 | [],_,_,_,_,h,_,_=>by simp at h
 | _::_,[],_,_,_,_,h,_=>by simp at h
 | p::P,w::vs,0,m,nd,h1,h2,hk=>by
  simp at h1 h2;subst h1;subst h2
  show bindL kindOf ((p,w)::P.zip vs) m p=_
  unfold bindL
  rw [bindL_out λ v hv=>(List.nodup_cons.mp nd).1 (List.of_mem_zip hv).1,if_pos hk]
  simp
 | p::P,w::vs,i+1,m,nd,h1,h2,hk=>by
  show bindL kindOf ((p,w)::P.zip vs) m x=_
  unfold bindL
  exact bindL_get (i:=i) (List.nodup_cons.mp nd).2 (by simpa using h1) (by simpa using h2) hk
theorem bindC_get {kindOf:Str->Option NameKind} {x:Str} {v:Value} : ∀ {P:List Str} {vs:List Value} {i:Nat} {m:Str->Option Value},P.Nodup->P[i]?=some x->vs[i]?=some v->kindOf x≠some .local ->
  bindC kindOf (P.zip vs) m x=some v
 | [],_,_,_,_,h,_,_=>by simp at h
 | _::_,[],_,_,_,_,h,_=>by simp at h
 | p::P,w::vs,0,m,nd,h1,h2,hk=>by
  simp at h1 h2;subst h1;subst h2
  show bindC kindOf ((p,w)::P.zip vs) m p=_
  unfold bindC
  rw [bindC_out λ v hv=>(List.nodup_cons.mp nd).1 (List.of_mem_zip hv).1,if_neg hk]
  simp
 | p::P,w::vs,i+1,m,nd,h1,h2,hk=>by
  show bindC kindOf ((p,w)::P.zip vs) m x=_
  unfold bindC
  exact bindC_get (i:=i) (List.nodup_cons.mp nd).2 (by simpa using h1) (by simpa using h2) hk
def start (N:List Str) (vs:List V):St:=vs.map some++List.replicate (N.length - vs.length) none
def cxOf (CX:CXT) (P:Program) (w:World) (K:PySem.W.Frag) (mg:Str->Option Value) (base:Heap) (N:List Str) (qual:Str) (scope:Scope) (f:Addr) (cd:Value) (A:Around) (outer:List Env) (s:Shared) (H:Hp) (E:XK):Cx where
 prog:=P
 w:=w
 K:=K
 mg:=mg
 base:=base
 A:=A.deeper (envOfC qual scope s.heap.objs.size f cd)
 N:=N
 s₀:=s
 H₀:=H
 env:=envOfC qual scope s.heap.objs.size f cd
 outer:=outer
 stack:=envOfC qual scope s.heap.objs.size f cd::outer
 ex:=[]
 calm:=true
 warm:=true
 fn:=λ _=>true
 pn:=[]
 xe:=λ e s'=>wpAny (model P w) (A.deeper (envOfC qual scope s.heap.objs.size f cd)) (leaving (envOfC qual scope s.heap.objs.size f cd) e) (λ _ s''=>CX outer H s E e s'') (λ e' s''=>CX outer H s E e' s'') s'
theorem cell_has {sc:Scope} {n:Nat} {x:Str} (h:sc.names.lookup x=some .cell) : ∃ c,(cellsFrom n sc.names []).lookup x=some c:=by
 have q:=PySem.W.cellsFrom_some sc.names n [] (.inl h)
 exact Option.isSome_iff_exists.mp q
theorem inv_start {CX:CXT} {P:Program} {w:World} {K:PySem.W.Frag} {mg:Str->Option Value} {base:Heap} {N ps:List Str} {qual:Str} {scope:Scope} {f:Addr} {cd:Value} {A:Around} {outer:List Env} {s s1:Shared} {H:Hp} {E:XK} {us:List Value} {vs:List V}
  (S:FnScope N ps scope) (hd:A.handled=none) (e0:Env0 P w K mg base A outer s H) (hl:vs.length=ps.length) (r:Vals vs us)
  (x:InCallC s s.heap.objs.size (bindL (envOfC qual scope s.heap.objs.size f cd).kindOf (ps.zip us) λ _=>none) (cellsFrom (s.heap.objs.size+1) scope.names []) (bindC (envOfC qual scope s.heap.objs.size f cd).kindOf (ps.zip us) λ _=>none) s1) :
  Inv (cxOf CX P w K mg base N qual scope f cd A outer s H E) [] (start N vs) H s1:=by
 have hpl:ps.length<=N.length:=by have:=congrArg List.length S.pre;rw [List.length_take] at this;omega
 obtain ⟨h1,tk,rfl,hk⟩:=x.done
 have noA : ∀ b:Addr,b∉(cxOf CX P w K mg base N qual scope f cd A outer s H E).ex:=λ b z=>absurd (show b∈([]:List Addr) from z) (by simp)
 refine ⟨⟨e0.mod,S.kind,rfl,rfl,Nat.le_refl _,λ y z c h1 h2=>?_,λ y hy=>?_,λ y c _ h=>?_,⟨λ _=>hd,λ _=>.inl hd⟩,Around.frames_deeper e0.frames,.inr ⟨rfl,rfl⟩,λ b z=>absurd z (noA b),e0.bs,e0.bsz,λ b _ _=>noA b,λ b z=>absurd z (noA b),e0.funs,e0.frf⟩,
  rfl,e0.bare,Un.kept hk,⟨_,x.toInCall.ns,λ i y v h1 h2 h3=>?_⟩,λ y c h=>⟨_,x.cell y c h⟩,e0.hok.fresh (Nat.le_refl _),λ y c h=>?_,λ p hp=>absurd (show p∈([]:List (Addr×Obj)) from hp) (by simp),e0.hok.kept hk,?_⟩
 ·exact name_of_addr x.apart (PySem.mem_of_lookup h1) (PySem.mem_of_lookup h2)
 ·have hy:scope.names.lookup y=some .cell\/scope.names.lookup y=some .free:=hy
  rcases hy with hy | hy
  ·exact cell_has hy
  ·exact absurd rfl (S.nofree _ (PySem.mem_of_lookup hy))
 ·exact Nat.le_of_lt (x.above y c (PySem.mem_of_lookup h))
 ·have hi:i<vs.length:=by
   unfold start at h2
   by_cases hi:i<vs.length
   ·exact hi
   ·rw [List.getElem?_append_right (by simpa using hi)] at h2
    rw [List.getElem?_replicate] at h2
    split at h2<;>cases h2
  have ha:vs[i]?=some v:=by
   unfold start at h2
   rw [List.getElem?_append_left (by simpa using hi),List.getElem?_map] at h2
   cases e:vs[i]? with
   | none=>rw [e] at h2;cases h2
   | some a=>rw [e] at h2;cases h2;rfl
  obtain ⟨u,hu,rv⟩:=r.get ha
  have hp:ps[i]?=some y:=by
   rw [<-S.pre,List.getElem?_take_of_lt (by omega)];exact h1
  have ndP:ps.Nodup:=by rw [<-S.pre];exact S.nd.sublist (List.take_sublist _ _)
  refine ⟨u,rv,?_⟩
  rcases S.par y (List.mem_of_getElem? hp) with k | k
  ·exact .inl ⟨k,bindL_get ndP hp hu k⟩
  ·obtain ⟨c,e⟩:=cell_has (n:=s.heap.objs.size+1) k
   refine .inr ⟨.inl k,c,e,?_⟩
   have q:=x.cell y c e
   rw [bindC_get ndP hp hu (by show scope.names.lookup y≠_;rw [k];decide)] at q
   exact q
 ·exact e0.hok.fresh (Nat.le_of_lt (x.above y c (PySem.mem_of_lookup h)))
 ·unfold start
  show _=N.length
  rw [List.length_append,List.length_map,List.length_replicate]
  omega
theorem fn_of {CX:CXT} {P:Program} {w:World} {K:PySem.W.Frag} {mg:Str->Option Value} {base:Heap} {k:Nat} {f:Addr} {name qual:Str} {params:Arguments} {body:List Stmt} {scope:Scope} {dV kV doc pm cdv ct oc:Value} {an od:Option Addr}
  {osl:Array (Option Value)} {N ps:List Str} {sp:Sp} (lk:K.lookup f=some ⟨oc,od,.func (PySem.W.fnOf name qual params body scope dV kV doc pm an cdv ct),osl⟩) (hcd:PySem.W.codeIn K cdv qual=true) (S:FnScope N ps scope)
  (len : ∀ vs H Q E,sp vs H Q E->vs.length=ps.length)
  (hbody : ∀ (A:Around) (outer:List Env) (s:Shared) (H:Hp) (vs:List V) (Q:VK) (E:XK),Room k (A.deeper (envOfC qual scope s.heap.objs.size f cdv))->sp vs H Q E ->
   ∃ t,PSs (cxOf CX P w K mg base N qual scope f cdv A outer s H E) body t/\t { nx:=λ _ H'=>Q .non H',rt:=Q } (start N vs) H) :
  FnOk P w K mg base CX (k+1) f (PySem.W.fnOf name qual params body scope dV kV doc pm an cdv ct) ps sp:=by
 refine ⟨len,λ A outer s H args us vs Q E hr e0 hb r hsp=>?_⟩
 have hl:=len _ _ _ _ hsp
 have KX:K.In s.heap:=e0.mod.kin.keeps λ b o e=>(e0.bs b o e).1
 have lim:s.heap.NoLimit:=e0.mod.nolimit.keeps λ b o e=>(e0.bs b o e).1
 have hkind : ∀ y∈ps.zip us,scope.names.lookup y.1=some .local\/(scope.names.lookup y.1=some .cell/\((cellsFrom (s.heap.objs.size+1) scope.names []).lookup y.1).isSome=true):=λ ⟨n,v⟩ hy=>by
  rcases S.par n (List.of_mem_zip hy).1 with q | q
  ·exact .inl q
  ·exact .inr ⟨q,PySem.W.cellsFrom_some _ _ _ (.inl q)⟩
 refine codeAny_call_function hr.depth (KX _ _ lk) rfl S.co S.gen rfl (PySem.W.codeRec_of KX hcd) (hb _ _ _ _ ?_)
 refine wpAny_newFunctionEnv_cells S.kind hkind λ env he s1 x=>?_
 subst he
 refine ⟨lim.keeps x.toInCall.keep,codeAny_func ?_⟩
 obtain ⟨t,ht,hq⟩:=hbody A outer s H vs Q E (hr.deeper _) hsp
 have I:Inv (cxOf CX P w K mg base N qual scope f cdv A outer s H E) [] (start N vs) H s1:=inv_start S hr.hd e0 hl r x
 refine wpAny_mono (ht [] s1 (start N vs) H _ I hq) (λ fl s' hs=>?_) λ e s' hs=>hs
 have fin : ∀ {σ':St} {H':Hp} {v:V} {u:Value},Inv (cxOf CX P w K mg base N qual scope f cdv A outer s H E) [] σ' H' s'->RelV v u->Q v H'->CE outer P w H s Q u s' :=
  λ {σ' H' v u} J rv q=>⟨v,H',J.os,J.bare,J.base,J.hok,rv,q⟩
 cases fl with
 | ret u =>
  obtain ⟨v,σ',H',J,rv,q⟩:=hs
  exact fin J rv q
 | next =>
  obtain ⟨σ',H',J,q⟩:=hs
  exact fin (v:=V.non) (u:=Value.none) J rfl q
 | brk =>
  obtain ⟨_,_,_,q⟩:=hs
  exact False.elim q
 | cont =>
  obtain ⟨_,_,_,q⟩:=hs
  exact False.elim q
section
variable {X:Cx} {x:Str} {p pos:Pos} {e:Expr} {es:List Expr} {t:TA} {id T:String} {r:List V->Hp->VK->Prop}
def tCB (r:List V->Hp->VK->Prop) (t:TA):TE:=λ σ H Q=>t σ H λ vs H1=>r vs H1 Q
theorem pe_callB (hc:CallR X (.builtin id) r) (hg:Gl X x) (hm:X.mg x=none) (hv:bootBuiltins x=some (.builtin id)) (ha:PA X (e::es) t) (hn:x ≠ "__name__" := by decide) (hdb:(x == ("__debug__" : Str))=false:=by decide)
  (he:starEach (e::es) X.env=(false,eval e X.env)::starEach es X.env:=by rfl) (hpl:(backTo pos (starEach es X.env)).any (·.1)=false:=by rfl):PE X (.Call (.Name x p) (e::es) [] pos) (tCB r t):=by
 intro pins s σ H Q I h
 refine wpAny_Call_Name_kw (ld_blt I hg hm hv ?_ hn hdb)
 exact PyProof.Rows.callWith_builtin1 (thn (ha pos pins s σ H _ I h) λ us s1 ⟨vs,H1,I1,r1,q1⟩=>hc pins s1 σ H1 vs us Q I1 r1 q1) he hpl
theorem pe_callTy (hc:CallR X (.type T) r) (hg:Gl X x) (hm:X.mg x=none) (hv:bootBuiltins x=some (.type T)) (ha:PA X (e::es) t) (hn:x ≠ "__name__" := by decide) (hdb:(x == ("__debug__" : Str))=false:=by decide)
  (he:starEach (e::es) X.env=(false,eval e X.env)::starEach es X.env:=by rfl) (hpl:(backTo pos (starEach es X.env)).any (·.1)=false:=by rfl):PE X (.Call (.Name x p) (e::es) [] pos) (tCB r t):=by
 intro pins s σ H Q I h
 refine wpAny_Call_Name_kw (ld_blt I hg hm hv ?_ hn hdb)
 exact PyProof.Rows.callWith_type1 (thn (ha pos pins s σ H _ I h) λ us s1 ⟨vs,H1,I1,r1,q1⟩=>hc pins s1 σ H1 vs us Q I1 r1 q1) he hpl
end
end L2
namespace HT
open PySem PyProof.Rows
section
variable {prog:Program} {w:World} {A:Around} {E:Value->Shared->Prop} {s:Shared}
def sIx (n d:Nat):Option Int->Nat
 | none=>d
 | some v=>if v<0 then (v+(n:Int)).toNat else min v.toNat n
theorem sIx_le (n d:Nat) (hd:d<=n) (o:Option Int):sIx n d o<=n:=by
 cases o with
 | none=>exact hd
 | some v =>
  show (if v<0 then (v+(n:Int)).toNat else min v.toNat n)<=n
  by_cases hv:v<0
  ·rw [if_pos hv];omega
  ·rw [if_neg hv];exact Nat.min_le_right _ _
theorem clip_eq (v:Int) (n d:Nat):(if v<0 then max (v+(n:Int)) 0 else min v (n:Int))=((sIx n d (some v):Nat):Int):=by
 show (if v<0 then max (v+(n:Int)) 0 else min v (n:Int))=(((if v<0 then (v+(n:Int)).toNat else min v.toNat n):Nat):Int)
 by_cases hv:v<0
 ·simp only [if_pos hv];omega
 ·simp only [if_neg hv];omega
theorem adjust_gen (lo hi:Option Int) (n:Nat):Builtin.Slice.sliceAdjust lo hi 1 (n:Int)=(((sIx n 0 lo:Nat):Int),((sIx n n hi:Nat):Int)):=by
 have h1 : ¬ ((1:Int)<0):=by omega
 unfold Builtin.Slice.sliceAdjust
 simp only [h1,if_false]
 refine Prod.ext ?_ ?_
 ·cases lo with
  | none=>rfl
  | some v=>exact clip_eq v n 0
 ·cases hi with
  | none=>rfl
  | some v=>exact clip_eq v n n
theorem places_gen (i j:Nat):Builtin.Slice.slicePlaces (i:Int) (j:Int) 1=j - i:=by
 unfold Builtin.Slice.slicePlaces
 have h1:(1:Int) > 0:=by omega
 simp only [h1,if_true,Int.ediv_one]
 split<;>omega
theorem slicePart_ {v:Value} {o:Option Int} {Q:Option Int->Shared->Prop} (p:IsPart v o) (h:Q o s):wpAny (model prog w) A (Builtin.Slice.slicePartIndex v) Q E s:=by
 cases p with
 | none=>exact slicePart_none h
 | int i t=>exact slicePart_int h
theorem sliceApplied_gen {sl:Addr} {vl vu:Value} {lo hi:Option Int} {n:Nat} {Q:Int×Int×Nat->Shared->Prop} (hs:s.heap.IsSliceOf sl vl vu .none) (pl:IsPart vl lo) (pu:IsPart vu hi)
  (h:Q (((sIx n 0 lo:Nat):Int),1,sIx n n hi - sIx n 0 lo) s):wpAny (model prog w) A (Builtin.Slice.sliceApplied (.ref sl) (pure (n:Int))) Q E s:=by
 obtain ⟨os,hos,hcs,hds⟩:=id hs
 unfold Builtin.Slice.sliceApplied Builtin.Slice.sliceFields
 refine wpAny_bind (wpAny_bind (wpAny_field hos hds (x:=vl) rfl (wpAny_bind (wpAny_field hos hds (x:=vu) rfl (wpAny_bind (wpAny_field hos hds (x:=.none) rfl (wpAny_pure ?_)))))))
 refine wpAny_bind (slicePart_none ?_)
 show wpAny _ _ (if ((1:Int) == 0)=true then _ else _) _ _ s
 rw [if_neg (by decide)]
 refine wpAny_bind (slicePart_ pl (wpAny_bind (slicePart_ pu (wpAny_bind (wpAny_pure ?_)))))
 show wpAny _ _ (match Builtin.Slice.sliceAdjust lo hi 1 (n:Int) with | (lo,hi)=>pure (lo,(1:Int),Builtin.Slice.slicePlaces lo hi 1)) _ _ s
 rw [adjust_gen lo hi n]
 show wpAny _ _ (pure (((sIx n 0 lo:Nat):Int),(1:Int),Builtin.Slice.slicePlaces ((sIx n 0 lo:Nat):Int) ((sIx n n hi:Nat):Int) 1)) _ _ s
 rw [places_gen]
 exact wpAny_pure h
theorem pick_gen (xs:Array Value) (i k:Nat):((List.range k).filterMap λ (m:Nat)=>xs[((i:Int)+(m:Int) * 1).toNat]?).toArray=((xs.toList.drop i).take k).toArray:=by
 have e:(λ (m:Nat)=>xs[((i:Int)+(m:Int) * 1).toNat]?)=λ m=>xs[i+m]?:=by
  funext m
  have:((i:Int)+(m:Int) * 1).toNat=i+m:=by omega
  rw [this]
 rw [e]
 have:=pick_run xs i k
 rw [List.filterMap_map] at this
 have e2:((λ x=>xs[x]?) ∘ λ x=>i+x)=λ m=>xs[i+m]?:=rfl
 rw [e2] at this
 rw [this]
theorem getItem_tuple_cut {t sl:Addr} {items:Array Value} {vl vu:Value} {lo hi:Option Int} {Q:Value->Shared->Prop} (ht:IsTup s.heap t items) (hs:s.heap.IsSliceOf sl vl vu .none) (pl:IsPart vl lo) (pu:IsPart vu hi)
  (hw : ¬ (sIx items.size 0 lo=0/\sIx items.size items.size hi=items.size))
  (h:Q (.ref s.heap.objs.size) { s with heap:=s.heap.push { cls:=.type "tuple", data:=.seq ((items.toList.drop (sIx items.size 0 lo)).take (sIx items.size items.size hi - sIx items.size 0 lo)).toArray } })
  (hsz:items.size<=sizeLine):wpAny (model prog w) A (getItem (.ref t) (.ref sl)) Q E s:=by
 have htake:sizeOk (.seq ((items.toList.drop (sIx items.size 0 lo)).take (sIx items.size items.size hi - sIx items.size 0 lo)).toArray):=by
  show ((items.toList.drop (sIx items.size 0 lo)).take (sIx items.size items.size hi - sIx items.size 0 lo)).toArray.size<=sizeLine
  rw [List.size_toArray,List.length_take,List.length_drop,Array.length_toList]
  omega
 have hj:sIx items.size items.size hi<=items.size:=sIx_le _ _ (Nat.le_refl _) hi
 obtain ⟨os,hos,hcs,hds⟩:=id hs
 have hTs:s.TypeIs (.ref sl) "slice" := ⟨os,hos,hcs⟩
 unfold getItem
 try with_reducible refine wpAny_holding ?_
 first | refine wpAny_bind (wpAny_pure ?_) | skip
 refine wpAny_bind (wpAny_sequenceKey ht.typeIs (by decide) ?_)
 refine wpAny_bind (wpAny_callSpecial?_slot (name:=Str.ofString "__getitem__") ht.typeIs PyProof.Rows.slot_tuple_getitem
  (wpAny_call_entry PyProof.Rows.slot_tuple_getitem ht.typeIs entry_tuple_getitem ?_ (args_tuple_getitem _ _)))
 show wpAny _ _ (Builtin.Tuple.tupleItemsOf (.ref t)>>=_) _ _ s
 refine wpAny_bind (tupleItemsOf_ ht ?_)
 refine wpAny_bind (wpAny_typeOf hTs ?_)
 rw [if_pos (by decide)]
 refine wpAny_bind (sliceApplied_gen hs pl pu ?_)
 have hno : ¬ ((((sIx items.size 0 lo:Nat):Int) == 0&&(1:Int) == 1&&(sIx items.size items.size hi - sIx items.size 0 lo) == items.size)=true):=by
  intro q
  rw [Bool.and_eq_true,Bool.and_eq_true] at q
  have q1:((sIx items.size 0 lo:Nat):Int)=0:=eq_of_beq q.1.1
  have q2:sIx items.size items.size hi - sIx items.size 0 lo=items.size:=eq_of_beq q.2
  exact hw ⟨by omega,by omega⟩
 show wpAny _ _ (if (((sIx items.size 0 lo:Nat):Int) == 0&&(1:Int) == 1&&(sIx items.size items.size hi - sIx items.size 0 lo) == items.size)=true then _ else _) _ _ s
 rw [if_neg hno,pick_gen]
 first
  | exact wpAny_bind (m:=Builtin.Tuple.tupleExact _) (wpAny_newObj_type (wpAny_pure ⟨_,rfl,wpAny_pure h⟩) htake)
  | exact wpAny_bind (m:=Builtin.Tuple.tupleExact _) (wpAny_newObj_type (wpAny_bind (wpAny_pure (wpAny_pure ⟨_,rfl,wpAny_pure h⟩))) htake)
  | exact wpAny_bind (wpAny_bind (m:=Builtin.Tuple.tupleExact _) (wpAny_newObj_type (wpAny_pure (wpAny_pure ⟨_,rfl,wpAny_pure h⟩)) htake))
  | exact wpAny_bind (wpAny_bind (m:=Builtin.Tuple.tupleExact _) (wpAny_newObj_type (wpAny_pure ⟨_,rfl,wpAny_pure h⟩) htake))
end
end HT
namespace L2
open PySem PySem.Spec PyProof.Rows
abbrev TO:=St->Hp->(Option Int->Hp->Prop)->Prop
def PO (X:Cx) (e:Option Expr) (t:TO):Prop :=
 ∀ (pins:List (Addr×Obj)) (s:Shared) (σ:St) (H:Hp) (Q:Option Int->Hp->Prop),Inv X pins σ H s->t σ H Q ->
  wpAny (model X.prog X.w) X.A (evalPart e X.env) (λ u s' => ∃ o H',Inv X pins σ H' s'/\IsPart u o/\Q o H') X.xe s
def tNoPart:TO:=λ _ H Q=>Q none H
def tPart (t:TE):TO:=λ σ H Q=>t σ H λ x H1 => ∃ i,x=.int i/\Q (some i) H1
theorem intsAre_of {ns:List Int} : ∀ {us:List Value},Vals (ns.map V.int) us->IntsAre us ns:=by
 induction ns with
 | nil=>intro us r;rw [List.map_nil] at r;cases r;exact .nil
 | cons n ns ih =>
  intro us r
  rw [List.map_cons] at r
  cases r with
  | cons r1 r2 =>
   obtain ⟨t,e⟩:=r1
   subst e
   exact .cons n t (ih r2)
section
variable {X:Cx} {e:Expr} {te:TE} {lo hi:Option Expr} {tl th:TO} {pos p2:Pos}
theorem po_none:PO X none tNoPart:=by
 intro pins s σ H Q I h
 rw [evalPart_none]
 exact wpAny_pure ⟨none,H,I,.none,h⟩
theorem po_some (h:PE X e te):PO X (some e) (tPart te):=by
 intro pins s σ H Q I hw
 rw [evalPart_some]
 refine thn (h pins s σ H _ I hw) λ u s1 ⟨x,H1,I1,r1,q1⟩=>?_
 obtain ⟨i,rfl,q⟩:=q1
 obtain ⟨t,rfl⟩:=r1
 exact ⟨some i,H1,I1,.int i t,q⟩
def SlR (X:Cx) (r:V->Option Int->Option Int->Hp->VK->Prop):Prop :=
 ∀ (pins:List (Addr×Obj)) (s:Shared) (σ:St) (H:Hp) (x:V) (v vl vu:Value) (lo hi:Option Int) (sl:Addr) (Q:VK),Inv X pins σ H s->RelV x v->s.heap.IsSliceOf sl vl vu .none->IsPart vl lo->IsPart vu hi->r x lo hi H Q ->
  ∃ T id,typeLookup (.type T) "__getitem__" = pure (some (.builtin id))/\s.TypeIs v T/\wpAny (model X.prog X.w) X.A (getItem v (.ref sl)) (EP X pins σ Q) X.xe s
theorem SlR.or {r r':V->Option Int->Option Int->Hp->VK->Prop} (h:SlR X r) (h':SlR X r'):SlR X (λ x lo hi H Q=>r x lo hi H Q\/r' x lo hi H Q):=by
 intro pins s σ H x v vl vu lo hi sl Q I rx hs pl pu q
 rcases q with q | q
 ·exact h pins s σ H x v vl vu lo hi sl Q I rx hs pl pu q
 ·exact h' pins s σ H x v vl vu lo hi sl Q I rx hs pl pu q
def tSl (r:V->Option Int->Option Int->Hp->VK->Prop) (te:TE) (tl th:TO):TE:=λ σ H Q=>te σ H λ x H1=>tl σ H1 λ l H2=>th σ H2 λ u H3=>r x l u H3 Q
theorem pe_slice {r:V->Option Int->Option Int->Hp->VK->Prop} (hr:SlR X r) (he:PE X e te) (hl:PO X lo tl) (hu:PO X hi th):PE X (.Subscript e (.Slice lo hi none p2) pos) (tSl r te tl th):=by
 intro pins s σ H Q I h
 refine Subscript_ (thn (he pins s σ H _ I h) λ v s1 ⟨x,H1,I1,r1,q1⟩=>?_)
 refine wpAny_Slice (thn (hl pins s1 σ H1 _ I1 q1) λ vl s2 ⟨l,H2,I2,pl,q2⟩=>thn (hu pins s2 σ H2 _ I2 q2) λ vu s3 ⟨u,H3,I3,pu,q3⟩=>?_)
 rw [evalPart_none]
 refine wpAny_pure ?_
 have I4:Inv X pins σ H3 { s3 with heap:=s3.heap.push { cls:=.type "slice", data:=.fields #[vl,vu,.none] } }:=I3.kept (t':=s3.toks) λ b ob q=>Heap.get?_push_of_some _ q
 obtain ⟨T,id,hT,ht,hg⟩:=hr pins { s3 with heap:=s3.heap.push { cls:=.type "slice", data:=.fields #[vl,vu,.none] } } σ H3 x v vl vu l u s3.heap.objs.size Q I4 r1 (Heap.IsSliceOf.new ..) pl pu q3
 show wpAny (model X.prog X.w) X.A (subscriptTail e (.Slice lo hi none p2) v (.ref s3.heap.objs.size)) (EP X pins σ Q) X.xe { s3 with heap:=s3.heap.push { cls:=.type "slice", data:=.fields #[vl,vu,.none] } }
 exact tail_any (ops:=[.ref s3.heap.objs.size,v]) ht hT hg (by with_unfolding_all rfl)
def cutV (xs:List V) (lo hi:Option Int):List V:=(xs.drop (HT.sIx xs.length 0 lo)).take (HT.sIx xs.length xs.length hi - HT.sIx xs.length 0 lo)
theorem cutV_length (xs:List V) (lo hi:Option Int):(cutV xs lo hi).length<=xs.length:=by
 unfold cutV
 rw [List.length_take,List.length_drop]
 omega
def rSlT (K:PySem.W.Frag):V->Option Int->Option Int->Hp->VK->Prop:=λ x lo hi H Q => ∃ a xs,x=.ref a/\SqT K H a xs /\
 ¬ (HT.sIx xs.length 0 lo=0/\HT.sIx xs.length xs.length hi=xs.length) /\ ∀ p,H p=none->Q (.ref p) (upd H p (.tup (cutV xs lo hi)))
theorem sl_tup:SlR X (rSlT X.K):=by
 intro pins s σ H x v vl vu lo hi sl Q I rx hs pl pu h
 obtain ⟨a,xs,rfl,hx,hw,q⟩:=h
 cases rx
 obtain ⟨its,r,ht,hz⟩:=I.tuple hx
 have hlen:its.toArray.size=xs.length:=by rw [List.size_toArray];exact r.length.symm
 refine ⟨"tuple", _,PyProof.Rows.slot_tuple_getitem.lookup,ht.typeIs,?_⟩
 refine HT.getItem_tuple_cut ht hs pl pu (by rw [hlen];exact hw) ?_ (by rw [hlen];exact hz)
 rw [hlen]
 refine ⟨.ref s.heap.objs.size,_,I.laid (t':=s.toks) (o:=.tup (cutV xs lo hi)) (λ b ob q=>Heap.get?_push_of_some _ q) (Nat.le_refl _) ?_,rfl,q _ (I.hok.fresh (Nat.le_refl _))⟩
 exact ⟨Nat.le_trans (cutV_length xs lo hi) hz,_,(r.drop (HT.sIx xs.length 0 lo)).take (HT.sIx xs.length xs.length hi - HT.sIx xs.length 0 lo),IsTupD.new _ _⟩
end
def ixN (n:Nat) (i:Int):Option Nat:=if 0<=i then (if i<n then some i.toNat else none) else if -(n:Int)<=i then some (i+n).toNat else none
def atI {α : Type} (xs:List α) (i:Int):Option α := (ixN xs.length i).bind λ j=>xs[j]?
theorem ixN_seq {n:Nat} {i:Int} {j:Nat} (h:ixN n i=some j):seqIndex? i n=some j/\j<n /\ -(n:Int)<=i/\i<n:=by
 unfold ixN at h
 by_cases h0:0<=i
 ·rw [if_pos h0] at h
  by_cases h1:i<n
  ·rw [if_pos h1] at h
   have e:i.toNat=j:=Option.some.inj h
   exact ⟨by rw [seqIndex_of h0 h1,e],by omega,by omega,h1⟩
  ·rw [if_neg h1] at h;cases h
 ·rw [if_neg h0] at h
  by_cases h1 : -(n:Int)<=i
  ·rw [if_pos h1] at h
   have e:(i+n).toNat=j:=Option.some.inj h
   exact ⟨by rw [seqIndex_neg (by omega) h1,e],by omega,h1,by omega⟩
  ·rw [if_neg h1] at h;cases h
theorem atI_get {α : Type} {xs:List α} {i:Int} {v : α} (h:atI xs i=some v) : ∃ j,seqIndex? i xs.length=some j/\xs[j]?=some v/\j<xs.length /\ -(xs.length:Int)<=i/\i<xs.length:=by
 unfold atI at h
 cases e:ixN xs.length i with
 | none=>rw [e] at h;cases h
 | some j =>
  rw [e] at h
  obtain ⟨h1,h2,h3,h4⟩:=ixN_seq e
  exact ⟨j,h1,h,h2,h3,h4⟩
theorem atI_nat {α : Type} {xs:List α} {j:Nat} {v : α} (h:xs[j]?=some v):atI xs (j:Int)=some v:=by
 have hj:j<xs.length:=(List.getElem?_eq_some_iff.mp h).1
 have e:ixN xs.length (j:Int)=some j:=by
  unfold ixN
  rw [if_pos (by omega),if_pos (by omega)];simp
 unfold atI;rw [e];exact h
def PlainIx (b:Expr):Prop := ∀ o i,subscripted b false o i=operate [o,i] (getItem o i)
def IxR (X:Cx) (r:R2):Prop :=
 ∀ (value slice:Expr) (pins:List (Addr×Obj)) (s:Shared) (σ:St) (H:Hp) (x y:V) (v u:Value) (Q:VK),Inv X pins σ H s->RelV x v->RelV y u->r x y H Q ->
  subscripted slice false v u=operate [v,u] (getItem v u)->wpAny (model X.prog X.w) X.A (subscriptTail value slice v u) (EP X pins σ Q) X.xe s
def MtR (X:Cx) (id:String) (r:V->List V->Hp->VK->Prop):Prop :=
 ∀ (pins:List (Addr×Obj)) (s:Shared) (σ:St) (H:Hp) (x:V) (xs:List V) (v:Value) (us:List Value) (Q:VK),Inv X pins σ H s->RelV x v->Vals xs us->r x xs H Q ->
  wpAny (model X.prog X.w) X.A (call (.builtin id) (v::us)) (EP X pins σ Q) X.xe s
section
variable {X:Cx} {a b:Expr} {ta tb:TE} {pos:Pos}
theorem pe_ix {r:R2} (hr:IxR X r) (ha:PE X a ta) (hb:PE X b tb) (hs:PlainIx b):PE X (.Subscript a b pos) (tOp r ta tb):=by
 intro pins s σ H Q I h
 exact Subscript_ (binT ha hb I h λ v u s2 x y H2 I2 rx ry q=>hr a b pins s2 σ H2 x y v u Q I2 rx ry q (hs _ _))
def rIxL (K:PySem.W.Frag):R2:=λ x y H Q => ∃ p xs i v,x=.ref p/\y=.int i/\SqL K H p xs/\atI xs i=some v/\Q v H
def rIxT (K:PySem.W.Frag):R2:=λ x y H Q => ∃ p xs i v,x=.ref p/\y=.int i/\SqT K H p xs/\atI xs i=some v/\Q v H
theorem ix_list:IxR X (rIxL X.K):=by
 intro value slice pins s σ H x y v u Q I rx ry h hs
 obtain ⟨p,xs,i,z,rfl,rfl,hq,he,q⟩:=h
 cases rx
 obtain ⟨t,rfl⟩:=ry
 obtain ⟨its,r,pl,hz⟩:=I.list hq
 obtain ⟨j,h1,h2,h3,h4,h5⟩:=atI_get he
 obtain ⟨w,ew,rw'⟩:=r.get h2
 have hl:=r.length
 have hn:=line63
 have fin:EP X pins σ Q w s:=⟨z,H,I,rw',q⟩
 by_cases h0:0<=i
 ·have hj:i.toNat=j:=by
   rw [seqIndex_of h0 h5] at h1
   exact Option.some.inj h1
  exact item_listR pl.isList h0 (by omega) (by rw [hj];simpa using ew) fin hs
 ·have hj:(i+(its.toArray.size:Int)).toNat=j:=by
   rw [seqIndex_neg (by omega) h4] at h1
   rw [List.size_toArray,<-hl]
   exact Option.some.inj h1
  exact subscriptTail_builtinR (x:=w) pl.isList.typeIs slot_list_getitem.lookup
   (wpAny_getItem_list_neg (Q:=λ r s'=>r=w/\EP X pins σ Q r s') pl.isList (by omega) (by rw [List.size_toArray]<;>omega) (by omega) (by rw [hj];simpa using ew) ⟨rfl,fin⟩) hs
theorem ix_tup:IxR X (rIxT X.K):=by
 intro value slice pins s σ H x y v u Q I rx ry h hs
 obtain ⟨p,xs,i,z,rfl,rfl,hq,he,q⟩:=h
 cases rx
 obtain ⟨t,rfl⟩:=ry
 obtain ⟨its,r,pl,hz⟩:=I.tuple hq
 obtain ⟨j,h1,h2,h3,h4,h5⟩:=atI_get he
 obtain ⟨w,ew,rw'⟩:=r.get h2
 have hl:=r.length
 have hn:=line63
 have fin:EP X pins σ Q w s:=⟨z,H,I,rw',q⟩
 exact subscriptTail_builtinR (x:=w) pl.typeIs slot_tuple_getitem.lookup
  (getItem_tuple (j:=j) (Q:=λ r s'=>r=w/\EP X pins σ Q r s') pl (by omega) (by omega) (by rw [List.size_toArray,<-hl];exact h1) (by simpa using ew) ⟨rfl,fin⟩) hs
theorem mapSeq_set (its:List Value) (n j:Nat) (u:Value):Obj.mapSeq (·.setIfInBounds j u) { cls:=.type "list", data:=.seq its.toArray n }={ cls:=.type "list", data:=.seq (its.set j u).toArray n }:=by
 simp [Obj.mapSeq]
theorem Inv.lst {pins:List (Addr×Obj)} {σ:St} {H:Hp} {s:Shared} {p:Addr} {xs:List V} (I:Inv X pins σ H s) (h:H p=some (.lst xs)) :
  ∃ (its:List Value) (n:Nat),Vals xs its/\s.heap.get? p=some { cls:=.type "list", data:=.seq its.toArray n }/\xs.length<=sizeLine:=by
 obtain ⟨z,its,n,r,e⟩:=I.hok p _ h
 exact ⟨its,n,r,e,z⟩
theorem Inv.lstUpd {pins:List (Addr×Obj)} {σ:St} {H:Hp} {s:Shared} {p:Addr} {xs ys:List V} {its its':List Value} {n n':Nat} {f:Obj->Obj} (I:Inv X pins σ H s) (h:H p=some (.lst xs))
  (ho:s.heap.get? p=some { cls:=.type "list", data:=.seq its.toArray n }) (hf:f { cls:=.type "list", data:=.seq its.toArray n }={ cls:=.type "list", data:=.seq its'.toArray n' }) (r:Vals ys its') (hz:ys.length<=sizeLine) (t:Nat) :
  Inv X pins σ (upd H p (.lst ys)) { s with heap:=s.heap.update p f,toks:=t }:=by
 have e:(s.heap.update p f).get? p=some { cls:=.type "list", data:=.seq its'.toArray n' }:=by
  rw [Heap.get?_update_self f ho (by rw [hf]<;>rfl),hf]
 refine I.write (x:=p) (e:=p) (by rw [h];trivial) (.inl rfl) (λ b u hb q=>(Heap.get?_update_other _ _ (Ne.symm hb)).trans q) ⟨_,e⟩ ?_
 exact ⟨hz,its',n',r,e⟩
def rSetL:V->V->V->Hp->(Hp->Prop)->Prop:=λ o i v H Q => ∃ p xs k j,o=.ref p/\i=.int k/\H p=some (.lst xs)/\ixN xs.length k=some j/\Q (upd H p (.lst (xs.set j v)))
theorem set_list:PSet X rSetL:=by
 intro pins s σ H o i v ov iv u Q I ro ri rv h
 obtain ⟨p,xs,k,j,rfl,rfl,hp,hj,q⟩:=h
 cases ro
 obtain ⟨t,rfl⟩:=ri
 obtain ⟨its,n,r,ho,hz⟩:=I.lst hp
 obtain ⟨h1,h2,h3,h4⟩:=ixN_seq hj
 have hl:=r.length
 have hn:=line63
 have I':Inv X pins σ (upd H p (.lst (xs.set j v))) { s with heap:=s.heap.update p (Obj.mapSeq (·.setIfInBounds j u)) } :=
  I.lstUpd hp ho (mapSeq_set its n j u) (r.set rv j) (by rw [List.length_set];exact hz) s.toks
 by_cases h0:0<=k
 ·have hk:k.toNat=j:=by
   rw [seqIndex_of h0 h4] at h1
   exact Option.some.inj h1
  exact PySem.W.ki_setAt ho h0 (by omega) (by rw [List.size_toArray,<-hl];exact h4) (by rw [hk];exact ⟨_,I',q⟩)
 ·have hk:(k+(its.toArray.size:Int)).toNat=j:=by
   rw [seqIndex_neg (by omega) h3] at h1
   rw [List.size_toArray,<-hl]
   exact Option.some.inj h1
  exact PySem.W.ki_setBack ho (by omega) (by rw [List.size_toArray,<-hl];exact h3) (by omega) (by rw [hk];exact ⟨_,I',q⟩)
theorem slice_bounds (lo hi:Option Int) (n:Nat):(sliceBounds lo hi none n).1=((HT.sIx n 0 lo:Nat):Int)/\(sliceBounds lo hi none n).2.1=((HT.sIx n n hi:Nat):Int)/\(sliceBounds lo hi none n).2.2=1:=by
 refine ⟨?_,?_,rfl⟩
 ·cases lo with
  | none=>simp [sliceBounds,HT.sIx]
  | some i =>
   simp only [sliceBounds,HT.sIx,Option.getD_none,show (1:Int) > 0 by decide,if_true]
   by_cases h:i<0
   ·simp only [h,if_true]<;>omega
   ·simp only [h,if_false]<;>omega
 ·cases hi with
  | none=>simp [sliceBounds,HT.sIx]
  | some i =>
   simp only [sliceBounds,HT.sIx,Option.getD_none,show (1:Int) > 0 by decide,if_true]
   by_cases h:i<0
   ·simp only [h,if_true]<;>omega
   ·simp only [h,if_false]<;>omega
theorem slicePick_cut (its:List Value) (lo hi:Option Int):slicePick its.toArray lo hi none=((its.drop (HT.sIx its.length 0 lo)).take (HT.sIx its.length its.length hi - HT.sIx its.length 0 lo)).toArray:=by
 obtain ⟨h1,h2,h3⟩:=slice_bounds lo hi its.toArray.size
 unfold slicePick
 rw [h1,h2,h3]
 simp only [sliceRange_one,pick_run,List.size_toArray]<;>rfl
def rSlL (K:PySem.W.Frag):V->Option Int->Option Int->Hp->VK->Prop:=λ x lo hi H Q => ∃ a xs,x=.ref a/\SqL K H a xs /\ ∀ p,H p=none->Q (.ref p) (upd H p (.lst (cutV xs lo hi)))
theorem sl_list:SlR X (rSlL X.K):=by
 intro pins s σ H x v vl vu lo hi sl Q I rx hs pl pu h
 obtain ⟨a,xs,rfl,hx,q⟩:=h
 cases rx
 obtain ⟨its,r,ht,hz⟩:=I.list hx
 have hlen:=r.length
 refine ⟨"list", _,slot_list_getitem.lookup,ht.isList.typeIs,?_⟩
 refine wpAny_getItem_list_slice ht.isList hs pl pu .none (by simp) ?_ (by rw [List.size_toArray]<;>omega)
 rw [slicePick_cut,<-hlen]
 refine ⟨.ref s.heap.objs.size,_,I.laid (t':=s.toks) (o:=.lst (cutV xs lo hi)) (λ b ob q=>Heap.get?_push_of_some _ q) (Nat.le_refl _) ?_,rfl,q _ (I.hok.fresh (Nat.le_refl _))⟩
 exact ⟨Nat.le_trans (cutV_length xs lo hi) hz,_,0,(r.drop (HT.sIx xs.length 0 lo)).take (HT.sIx xs.length xs.length hi - HT.sIx xs.length 0 lo),Heap.get?_push_size _ rfl⟩
theorem call_len_seq:CallR X (.builtin "len") (λ xs H Q => ∃ p ys,xs=[.ref p]/\(SqL X.K H p ys\/SqT X.K H p ys)/\Q (.int ys.length) H):=by
 intro pins s σ H xs us Q I r h
 obtain ⟨p,ys,rfl,hq,q⟩:=h
 obtain ⟨u,rfl,rx⟩:=vals1 r
 cases rx
 have hn:=line63
 rcases hq with hq | hq
 ·obtain ⟨its,r',pl,hz⟩:=I.list hq
  have hlen:=r'.length
  exact Calls.call_len_list pl.isList (by simp only [List.size_toArray]<;>omega) ⟨.int ys.length,H,I.tok _,⟨s.toks+1,by rw [List.size_toArray,hlen]⟩,q⟩
 ·obtain ⟨its,r',pl,hz⟩:=I.tuple hq
  have hlen:=r'.length
  exact len_tuple pl (by simp only [List.size_toArray]<;>omega) ⟨.int ys.length,H,I.tok _,⟨s.toks+1,by rw [List.size_toArray,hlen]⟩,q⟩
theorem call_len_str:CallR X (.builtin "len") (λ xs H Q => ∃ z,xs=[.str z]/\z.length<=sizeLine/\Q (.int z.length) H):=by
 intro pins s σ H xs us Q I r h
 obtain ⟨z,rfl,hz,q⟩:=h
 obtain ⟨u,rfl,t,rfl⟩:=vals1 r
 have hn:=line63
 exact len_str (by omega) ⟨.int z.length,H,I.tok _,⟨_,rfl⟩,q⟩
theorem call_tuple_of:CallR X (.type "tuple") (λ xs H Q => ∃ p ys,xs=[.ref p]/\((SqL X.K H p ys /\ ∀ l,H l=none->Q (.ref l) (upd H l (.tup ys)))\/(SqT X.K H p ys/\Q (.ref p) H))):=by
 intro pins s σ H xs us Q I r h
 obtain ⟨p,ys,rfl,h⟩:=h
 obtain ⟨u,rfl,rx⟩:=vals1 r
 cases rx
 rcases h with ⟨hq,q⟩ | ⟨hq,q⟩
 ·obtain ⟨its,r',pl,hz⟩:=I.list hq
  have hlen:=r'.length
  refine call_tuple_list pl.isList (λ h' kp=>?_) (by simp only [List.size_toArray]<;>omega)
  have I1:Inv X pins σ H { s with heap:=h' }:=I.kept (t':=s.toks) kp
  have I2:Inv X pins σ (upd H h'.objs.size (.tup ys)) { s with heap:=h'.push { cls:=.type "tuple", data:=.seq its.toArray } } :=
   I1.laid (t':=s.toks) (λ b o e=>Heap.get?_push_of_some _ e) (Nat.le_refl _) (show ObjOk X.prog X.w _ _ _ (.tup ys) from ⟨hz,its,r',IsTupD.new _ _⟩)
  exact ⟨.ref h'.objs.size,_,I2,rfl,q _ (I1.hok.fresh (Nat.le_refl _))⟩
 ·obtain ⟨its,r',pl,hz⟩:=I.tuple hq
  exact call_tuple_same pl ⟨.ref p,H,I,rfl,q⟩
def tyV (K:PySem.W.Frag) (T:String) (x:V) (H:Hp):Prop:=match x with
 | .str _=>T = "str"
 | .int _=>T = "int"
 | .ref p=>(T = "list" /\ ∃ xs,SqL K H p xs)\/(T = "tuple" /\ ∃ o,K.lookup p=some o/\o.cls=.type "tuple" /\ o.dict=none) \/
   (T = "dict" /\ ((∃ kvs,H p=some (.dK kvs)) \/ ∃ kvs,H p=some (.dT kvs)))\/(T = "set" /\ ∃ S n,H p=some (.set S n))
 | _=>False
theorem tyV_is {pins:List (Addr×Obj)} {σ:St} {H:Hp} {s:Shared} {T:String} {x:V} {v:Value} (I:Inv X pins σ H s) (r:RelV x v) (ty:tyV X.K T x H) :
  s.TypeIs v T /\ ∀ a,v=.ref a -> ∃ ob,s.heap.get? a=some ob/\ob.dict=none:=by
 cases x with
 | str z =>
  obtain ⟨t,rfl⟩:=r
  cases (show T = "str" from ty)
  exact ⟨typeIs_str s z t,λ _ e=>nomatch e⟩
 | int i =>
  obtain ⟨t,rfl⟩:=r
  cases (show T = "int" from ty)
  exact ⟨typeIs_int s i t,λ _ e=>nomatch e⟩
 | ref p =>
  cases r
  rcases ty with ⟨rfl,xs,hq⟩ | ⟨rfl,o,hk,hc,hd⟩ | ⟨rfl,hk⟩ | ⟨rfl,S,n,hk⟩
  ·obtain ⟨its,_,pl,_⟩:=I.list hq
   refine ⟨pl.isList.typeIs,λ a e=>?_⟩
   cases e
   obtain ⟨o,n,e,c,hd,_⟩:=pl
   exact ⟨o,e,hd⟩
  ·refine ⟨⟨o,I.kIn p o hk,hc⟩,λ a e=>?_⟩
   cases e
   exact ⟨o,I.kIn _ o hk,hd⟩
  ·have z : ∃ o,s.heap.get? p=some o/\o.ExactDict:=by
    rcases hk with ⟨kvs,hk⟩ | ⟨kvs,hk⟩
    ·obtain ⟨_,_,_,_,o,_,_,e,ex,_⟩:=I.hok p _ hk
     exact ⟨o,e,ex⟩
    ·obtain ⟨_,_,_,_,o,_,_,e,ex,_⟩:=I.hok p _ hk
     exact ⟨o,e,ex⟩
   obtain ⟨o,e,ex⟩:=z
   refine ⟨⟨o,e,ex.1⟩,λ a e2=>?_⟩
   cases e2
   exact ⟨o,e,ex.2.1⟩
  ·obtain ⟨o,_,_,_,e,ex,_⟩:=I.hok p _ hk
   refine ⟨⟨o,e,ex.1⟩,λ a e2=>?_⟩
   cases e2
   exact ⟨o,e,ex.2.1⟩
 | _=>exact False.elim ty
def tBM0 (K:PySem.W.Frag) (T:String) (r:V->List V->Hp->VK->Prop) (to:TE):TE:=λ σ H Q=>to σ H λ x H1=>tyV K T x H1/\r x [] H1 Q
def tBM (K:PySem.W.Frag) (T:String) (r:V->List V->Hp->VK->Prop) (to:TE) (t:TA):TE:=λ σ H Q=>to σ H λ x H1=>tyV K T x H1/\t σ H1 λ xs H2=>r x xs H2 Q
variable {o e:Expr} {es:List Expr} {to:TE} {t:TA} {name:Str} {apos cpos:Pos} {T id:String} {r:V->List V->Hp->VK->Prop}
theorem pe_bm0 (pa:PlainAttrs T) (slot:Slot T name id) (hty:typeOf (.builtin id)=pure (.type "method_descriptor")) (hm:MtR X id r) (ho:PE X o to)
  (hbase:attributeBase o name X.env (eval o X.env)=eval o X.env:=by rfl) (hline:(apos.endLine == cpos.line)=true:=by rfl):PE X (.Call (.Attribute o name apos) [] [] cpos) (tBM0 X.K T r to):=by
 intro pins s σ H Q I h
 refine wpAny_Call_method0_late hbase hline (thn (ho pins s σ H _ I h) λ v s1 ⟨x,H1,I1,r1,ty,q1⟩=>?_)
 obtain ⟨h1,h2⟩:=tyV_is I1 r1 ty
 exact ⟨T,id,pa,slot,hty,h1,h2,Calls.callWith_builtin rfl (PySem.evalArgs_none (hm pins s1 σ H1 x [] v [] Q I1 r1 .nil q1))⟩
theorem pe_bm (pa:PlainAttrs T) (slot:Slot T name id) (hty:typeOf (.builtin id)=pure (.type "method_descriptor")) (hm:MtR X id r) (ho:PE X o to) (ha:PA X (e::es) t)
  (hbase:attributeBase o name X.env (eval o X.env)=eval o X.env:=by rfl)
  (hfew:((backTo cpos (starEach (e::es) X.env)).all (λ x => !x.1)&&(backToKw cpos (keywordEach [] X.env)).all (λ x=>x.1.isSome)
   && decide ((e::es).length+([]:List Keyword).length+(if ([]:List Keyword).isEmpty then 0 else 1)<30))=true:=by rfl)
  (hline:(apos.endLine == cpos.line)=true:=by rfl) (hs:starEach (e::es) X.env=(false,eval e X.env)::starEach es X.env:=by rfl) (hplain:(backTo cpos (starEach es X.env)).any (·.1)=false:=by rfl) :
  PE X (.Call (.Attribute o name apos) (e::es) [] cpos) (tBM X.K T r to t):=by
 intro pins s σ H Q I h
 refine wpAny_Call_method_late hbase hfew hline rfl (thn (ho pins s σ H _ I h) λ v s1 ⟨x,H1,I1,r1,ty,q1⟩=>?_)
 obtain ⟨h1,h2⟩:=tyV_is I1 r1 ty
 refine ⟨T,id,pa,slot,hty,h1,h2,?_⟩
 have hA:=ha cpos pins s1 σ H1 _ I1 q1
 rw [hs] at hA ⊢
 refine Calls.callWith_builtin (by show (false||(backTo cpos (starEach es X.env)).any (·.1))=false;rw [hplain]<;>rfl) (Calls.evalArgs_plain ?_)
 exact thn hA λ us s2 ⟨vs,H2,I2,r2,q2⟩=>hm pins s2 σ H2 x vs v us Q I2 r1 r2 q2
end
def MtM (X:Cx) (id:String) (r:V->List V->Hp->VK->Prop):Prop :=
 ∀ (pins:List (Addr×Obj)) (s:Shared) (σ:St) (H:Hp) (x:V) (xs:List V) (v:Value) (us:List Value) (Q:VK),Inv X pins σ H s->RelV x v->Vals xs us->r x xs H Q ->
  wpAny (model X.prog X.w) X.A (call (.builtin id) (v::us)) (EP X pins σ Q) X.xe s
theorem Vals.one : ∀ {x:V} {us:List Value},Vals [x] us -> ∃ u,us=[u]/\RelV x u
 | _,_,.cons r .nil=>⟨_,rfl,r⟩
theorem Vals.zero : ∀ {us:List Value},Vals [] us->us=[]
 | _,.nil=>rfl
theorem Vals.dropLast {xs:List V} {us:List Value} (h:Vals xs us):Vals xs.dropLast us.dropLast:=by
 induction h with
 | nil=>exact .nil
 | cons r t ih =>
  cases t with
  | nil=>exact .nil
  | cons q t'=>exact .cons r ih
theorem Vals.rep {xs:List V} {us:List Value} (h:Vals xs us) : ∀ k:Nat,Vals (List.replicate k xs).flatten (List.replicate k us).flatten
 | 0=>.nil
 | k+1=>by
  rw [List.replicate_succ,List.replicate_succ,List.flatten_cons,List.flatten_cons]
  exact Vals.append h (Vals.rep h k)
theorem erase_last {α : Type} (l:List α):l.eraseIdx (l.length - 1)=l.dropLast:=by
 induction l with
 | nil=>rfl
 | cons a r ih =>
  cases r with
  | nil=>rfl
  | cons b r =>
   have e:(a::b::r).length - 1=((b::r).length - 1)+1:=by
    have h1:(a::b::r).length=r.length+2:=rfl
    have h2:(b::r).length=r.length+1:=rfl
    omega
   rw [e,List.eraseIdx_cons_succ,ih]
   all_goals rfl
theorem foldl_rep (its:List Value) : ∀ (k:Nat) (acc:List Value),
  List.foldl (λ x1 x2=>x1++x2) acc.toArray (List.replicate k its.toArray)=(acc++(List.replicate k its).flatten).toArray
 | 0,acc=>by simp
 | k+1,acc=>by
  have e:acc.toArray++its.toArray=(acc++its).toArray:=by simp
  have e2:(acc++its)++(List.replicate k its).flatten=acc++(List.replicate (k+1) its).flatten:=by
   rw [List.replicate_succ,List.flatten_cons,List.append_assoc]
  rw [<-e2,<-foldl_rep its k (acc++its),<-e,List.replicate_succ,List.foldl_cons]
section
variable {X:Cx} {pins:List (Addr×Obj)} {σ:St} {H:Hp} {s:Shared} {l b:Addr} {xs ys zs:List V}
theorem Inv.lset {its its':List Value} {n:Nat} {f:Array Value->Array Value} {t':Nat} (I:Inv X pins σ H s) (hH:H l=some (.lst xs))
  (e:s.heap.get? l=some { cls:=.type "list", data:=.seq its.toArray n }) (hf:f its.toArray=its'.toArray) (hv:Vals ys its') (hz:ys.length<=sizeLine) :
  Inv X pins σ (upd H l (.lst ys)) { s with heap:=s.heap.update l (Obj.mapSeq f),toks:=t' }:=by
 have q:=PySem.IsL.update e f
 rw [hf] at q
 refine I.write (x:=l) (e:=l) (by rw [hH];exact trivial) (.inl rfl) (λ b' u hb hu=>(Heap.get?_update_other s.heap (Obj.mapSeq f) (Ne.symm hb)).trans hu) ⟨_,q⟩ ?_
 exact ⟨hz,its',_,hv,q⟩
theorem Inv.lnew {its:List Value} {t':Nat} (I:Inv X pins σ H s) (hv:Vals ys its) (hz:ys.length<=sizeLine) :
  Inv X pins σ (upd H s.heap.objs.size (.lst ys)) { s with heap:=s.heap.push { cls:=.type "list", data:=.seq its.toArray },toks:=t' } :=
 I.laid (λ _ _ q=>Heap.get?_push_of_some _ q) (Nat.le_refl _) ⟨hz,its,0,hv,Heap.get?_push_size _ rfl⟩
theorem Inv.fresh (I:Inv X pins σ H s):H s.heap.objs.size=none:=I.hok.fresh (Nat.le_refl _)
theorem Inv.lstM (I:Inv X pins σ H s) (hH:H l=some (.lst xs)):xs.length<=sizeLine /\ ∃ (its:List Value) (n:Nat),Vals xs its/\xs.length=its.length/\s.heap.get? l=some { cls:=.type "list", data:=.seq its.toArray n }:=by
 obtain ⟨z,its,n,r,e⟩:=I.hok l _ hH
 exact ⟨z,its,n,r,r.length,e⟩
theorem notLongL {n:Nat} (h:n<=sizeLine):Builtin.List.listTooLong n=false:=by
 unfold Builtin.List.listTooLong
 exact decide_eq_false (by omega)
end
section
variable {X:Cx}
def rAppend:V->List V->Hp->VK->Prop:=λ x vs H Q => ∃ l xs y,x=.ref l/\vs=[y]/\H l=some (.lst xs)/\xs.length<sizeLine/\Q .non (upd H l (.lst (xs++[y])))
theorem mt_append:MtM X "list.append" rAppend:=by
 intro pins s σ H x vs v us Q I rx rv h
 obtain ⟨l,xs,y,rfl,rfl,hH,hz,q⟩:=h
 cases rx
 obtain ⟨u,rfl,ru⟩:=rv.one
 obtain ⟨z,its,n,r,hl,e⟩:=I.lstM hH
 refine call_meets F.slot_list_append ⟨_,e,rfl⟩ F.entry_list_append (F.args_list_append_2 _ _) (PySem.list_append l its.toArray n u (by rw [List.size_toArray];omega)) ⟨e,?_⟩
 refine ⟨.non,_,I.lset (its':=its++[u]) hH e (by simp) (r.append (.cons ru .nil)) ?_,rfl,q⟩
 rw [List.length_append,List.length_singleton]
 omega
def rPop:V->List V->Hp->VK->Prop:=λ x vs H Q => ∃ l xs y,x=.ref l/\vs=[]/\H l=some (.lst xs)/\xs[xs.length - 1]?=some y/\Q y (upd H l (.lst xs.dropLast))
theorem mt_pop:MtM X "list.pop" rPop:=by
 intro pins s σ H x vs v us Q I rx rv h
 obtain ⟨l,xs,y,rfl,rfl,hH,hy,q⟩:=h
 cases rx
 have hus:=rv.zero
 subst hus
 obtain ⟨z,its,n,r,hl,e⟩:=I.lstM hH
 obtain ⟨u,hu,ru⟩:=r.get hy
 have hy':its.toArray[its.toArray.size - 1]?=some u:=by
  show its.toArray[its.length - 1]?=some u
  rw [<-Array.getElem?_toList,<-hl]
  exact hu
 refine call_meets F.slot_list_pop ⟨_,e,rfl⟩ F.entry_list_pop (F.args_list_pop_1 _) (MeetsSeq.list_pop_last l its.toArray n u hy' (by rw [List.size_toArray];omega)) ⟨e,?_⟩
 refine ⟨y,_,I.lset (its':=its.dropLast) hH e ?_ r.dropLast ?_,ru,q⟩
 ·show its.toArray.eraseIdxIfInBounds (its.toArray.size - 1)=its.dropLast.toArray
  rw [List.size_toArray,List.eraseIdxIfInBounds_toArray,erase_last]
 ·rw [List.length_dropLast]
  omega
def rCat:R2:=λ x y H Q => ∃ l b xs zs,x=.ref l/\y=.ref b/\H l=some (.lst xs)/\H b=some (.lst zs)/\xs.length+zs.length<=sizeLine /\ ∀ p,H p=none->Q (.ref p) (upd H p (.lst (xs++zs)))
theorem op_cat:OpR X (binaryOp .Add) rCat:=by
 intro pins s σ H x y v u Q I rx ry h
 obtain ⟨l,b,xs,zs,rfl,rfl,hH,hB,hz,q⟩:=h
 cases rx
 cases ry
 obtain ⟨z,its,n,r,hl,e⟩:=I.lstM hH
 obtain ⟨z2,its2,n2,r2,hl2,e2⟩:=I.lstM hB
 refine PySem.P.add_list e e2 ?_ (by rw [List.size_toArray,List.size_toArray];omega)
 have ea:its.toArray++its2.toArray=(its++its2).toArray:=by simp
 rw [ea]
 exact ⟨.ref _,_,I.lnew (t':=s.toks) (r.append r2) (by rw [List.length_append];omega),rfl,q _ I.fresh⟩
def rRep:R2:=λ x y H Q => ∃ l k xs,x=.ref l/\y=.int k/\H l=some (.lst xs) /\ -(2 ^ 63)<=k/\k<2 ^ 63/\xs.length * k.toNat<=sizeLine /\
 ∀ p,H p=none->Q (.ref p) (upd H p (.lst (List.replicate k.toNat xs).flatten))
theorem len_rep {α : Type} (xs:List α) (k:Nat):(List.replicate k xs).flatten.length=k * xs.length:=by
 induction k with
 | zero=>simp
 | succ k ih=>rw [List.replicate_succ,List.flatten_cons,List.length_append,ih,Nat.succ_mul,Nat.add_comm]
theorem op_rep:OpR X (binaryOp .Mult) rRep:=by
 intro pins s σ H x y v u Q I rx ry h
 obtain ⟨l,k,xs,rfl,rfl,hH,h1,h2,hz,q⟩:=h
 cases rx
 obtain ⟨t,rfl⟩:=ry
 obtain ⟨z,its,n,r,hl,e⟩:=I.lstM hH
 have hlen:its.toArray.size * k.toNat<=sizeLine:=by rw [List.size_toArray,<-hl];exact hz
 have hcap : ¬ its.toArray.size * k.toNat > (2 ^ 63 - 1) / 8:=by
  have:(sizeLine:Nat)<=(2 ^ 63 - 1) / 8:=by decide
  omega
 have hfit : ¬ (!Builtin.List.listFitsIndex k)=true:=by
  rw [fitsIndex_both h1 h2]
  exact Bool.false_ne_true
 have hlong : ¬ Builtin.List.listTooLong (its.toArray.size * k.toNat)=true:=by
  rw [notLongL hlen]
  exact Bool.false_ne_true
 have hnew:List.foldl (λ x1 x2=>x1++x2) #[] (List.replicate (if its.toArray.isEmpty=true then 0 else k.toNat) its.toArray)=(List.replicate k.toNat its).flatten.toArray:=by
  have f0 : ∀ m:Nat,List.foldl (λ x1 x2=>x1++x2) #[] (List.replicate m its.toArray)=(List.replicate m its).flatten.toArray:=λ m=>by
   have:=foldl_rep its m []
   rw [List.nil_append] at this
   exact this
  rw [f0]
  cases its with
  | nil=>simp
  | cons a r'=>rw [if_neg (by simp)]
 refine wpAny_binaryOp_repeat_ref (T := "list") (U := "int") (by decide) ⟨_,e,rfl⟩ (λ s'=>typeIs_int s' k t) noFill_list_mul F.fills_int_mul F.slot_int_rmul repeat_list F.slot_int_index.lookup
  (call_meets F.slot_int_rmul (typeIs_int s k t) F.entry_int_rmul (F.args_int_rmul_2 _ _) (int___rmul___int_list k t l its.toArray n)
   ⟨e,rfl,⟨_,e,rfl⟩,call_meets F.slot_list_mul ⟨_,e,rfl⟩ F.entry_list_mul (F.args_list_mul_2 _ _) (AutoListH.list___mul___list_int_3 l its.toArray n k t hfit hcap hlong) ⟨e,?_⟩⟩)
 rw [hnew]
 exact ⟨.ref _,_,I.lnew (t':=s.toks) (r.rep k.toNat) (by rw [len_rep,Nat.mul_comm];exact hz),rfl,q _ I.fresh⟩
end
end L2
namespace Att
open PySem PySem.W PySem.Calls PyProof.Rows
theorem ints_of_wellAll {P:Params} {h:Heap} : ∀ (ns:List Int) (vs:List Value),WellAll P h vs (ns.map WData.int)->IntsAre vs ns:=by
 intro ns
 induction ns with
 | nil =>
  intro vs w
  rw [List.map_nil] at w
  cases w
  exact .nil
 | cons n ns ih =>
  intro vs w
  rw [List.map_cons] at w
  cases w with
  | cons a b =>
   cases a
   exact .cons _ _ (ih _ b)
theorem script_of {l:OpenLaw} {n:Nat} (hn:l.most=some n) {P:Params} {h:Heap} {args:List WData} {vals:List Value}
  (hpre:l.row.toRowW.claim.pre args=true) (hwl:WellAll P h vals args) :
  ∃ a vs ns,vals=[Value.ref a]/\args=[WData.list (ns.map WData.int)]/\h.get? a=some { cls:=.type "list", data:=.seq vs.toArray }/\IntsAre vs ns/\ns.length<=n:=by
 have hsh:WShape.hasAll [] args [.list .int]=true:=(pre_splitW hpre).1
 have hc:l.pre.holds [] { args:=args }=true:=(pre_splitW hpre).2
 obtain ⟨d,r,rfl,h1,h2⟩:=hasAllW_cons hsh
 obtain rfl:=hasAllW_nil h2
 obtain ⟨xs,rfl,h3⟩:=hasW_list h1
 obtain ⟨ns,rfl⟩:=items_int h3
 have hlen:ns.length<=n:=by
  unfold OpenLaw.pre at hc
  have h4:(WTm.not (.lt (.lit (.int (n:Int))) (.len (.arg 0)))).holds [] { args:=[.list (ns.map .int)] }=true:=by
   have h4:=(holds_andW hc).1
   rw [hn] at h4
   exact h4
  have h5:=condW_of h4 (w_not (w_lt w_lit (w_len_list (w_arg rfl))))
  rw [List.length_map] at h5
  refine Nat.le_of_not_lt λ q=>?_
  have q':(n:Int)<((ns.length:Nat):Int):=by omega
  first
   | (rw [decide_eq_true q'] at h5;exact absurd h5 (by decide))
   | (simp at h5;omega)
 cases hwl with
 | cons w1 w2 =>
  cases w2
  cases w1 with
  | list ho hall=>exact ⟨_,_,ns,rfl,rfl,ho,ints_of_wellAll ns _ hall,hlen⟩
theorem post_true (l:OpenLaw) (args:List WData):l.row.toRowW.claim.post args (.bool true) args=true :=
 postW_of (r:=l.row.toRowW) (X:=(true == true))
  (show WShape.has [] (.bool true) .bool=true by first | rfl | decide | simp [WShape.has,WShape.arms,WShape.armsAll])
  (show (WTm.eq .res (.lit (.bool true))).value [] { args:=args,res:=some (.bool true),after:=args }=some (.bool (true == true)) from w_eq_bool (w_res rfl) w_lit) rfl
theorem attach_call {l:OpenLaw} {n:Nat} {q:Program} {loose:List Str} {XP:(Str->Option Value)->Heap->Prop} {YP:World->Heap->Prop} {d:DefRec}
  (hn:l.most=some n) (hdf:d.params.defaults=[])
  (call : ∀ (w:World) (s₀ s₁:Shared) (mg mb:Str->Option Value) (fa:Addr) (o:Obj) (pm cd doc:Value) (a:Addr) (vs:List Value) (ns:List Int),
   Ground q loose [] XP w s₀ mg mb s₁.heap->YP w s₁.heap ->
   s₁.heap.get? fa=some o->o.data=.func (docDef d.name d.params d.body d.scope pm cd doc)->s₁.heap.CodeRec cd d.name->mg d.name=some (.ref fa) ->
   s₁.heap.get? a=some { cls:=.type "list", data:=.seq vs.toArray }->IntsAre vs ns->ns.length<=n->s₁.gens=#[] ->
   codeAny (model l.prog w) callerA (.call (.ref fa) ⟨[.ref a],[]⟩) (λ r s'=>r=.ok (.ret (.bool true))/\OldK s₁.heap s'.heap/\s'.os=s₁.os/\AllBare s'.gens) s₁) :
  WalkO q loose XP YP l.row.toRowW d [] (λ f vs=>PySem.call f vs):=by
 intro w s₀ s₁ mg mb G Y fa o pm cd doc dV kV ho hd hcd hD hmg hg args vals as hpre hlay hrd hwl hlo
 obtain rfl:dV=.none:=Dflts.none hD hdf
 obtain rfl:kV=.none:=Dflts.noKw hD
 obtain ⟨a,vs,ns,rfl,rfl,hobj,hints,hlen⟩:=script_of hn hpre hwl
 refine enter_call (codeAny_mono (call w s₀ s₁ mg mb fa o pm cd doc a vs ns G Y ho (fd_plain hd) hcd hmg hobj hints hlen hg) λ r s' hq=>?_)
 obtain ⟨rfl,h2,h3,h4⟩:=hq
 exact ⟨.inl ⟨.bool true,.bool true,[],rfl,λ _=>rfl,.bool true,post_true l _,λ _=>⟨List.Pairwise.nil,λ _ hm=>(nomatch hm)⟩⟩,h2,h3,h4⟩
end Att
namespace L2
open PySem PySem.Spec PyProof.Rows
theorem vals_ints : ∀ {vs:List Value} {ns:List Int},IntsAre vs ns->Vals (ns.map V.int) vs
 | _,_,.nil=>.nil
 | _,_,.cons n t h=>.cons ⟨t,rfl⟩ (vals_ints h)
def Only (H:Hp):Prop := ∀ b,H b=none \/ ∃ o xs,H b=some (.frz o (.lst xs))
theorem law_call {P:Program} {w:World} {K:PySem.W.Frag} {mg mb:Str->Option Value} {CX:CXT} {k:Nat} {fa a:Addr} {fd:FuncData} {x:Str} {sp:Sp} {s₁:Shared} {vs:List Value} {ns:List Int}
  (KX:K.In s₁.heap) (hns:s₁.heap.Ns mainGlobals mg) (hb:s₁.heap.Ns builtinsNs mb) (hbb : ∀ x:Str,x ≠ "__name__" -> mb x=bootBuiltins x) (hlim:s₁.heap.NoLimit) (hg:s₁.gens=#[])
  (ha:s₁.heap.get? a=some { cls:=.type "list", data:=.seq vs.toArray }) (hi:IntsAre vs ns) (hl:ns.length<=sizeLine) (hr:Room k callerA)
  (F : ∀ base:Heap,K.In base->base.Ns mainGlobals mg->FnOk P w K mg base CX k fa fd [x] sp) (hbind : ∀ (s:Shared) (u:Value),BindsTo s fd ⟨[u],[]⟩ [(x,u)])
  (hsp : ∀ H:Hp,Only H->SqL K H a (ns.map V.int)->sp [.ref a] H (λ v _=>v=.bl true) λ _ _ _=>False)
  (hCX : ∀ H e s',CX [] H s₁ (λ _ _ _=>False) e s'->False) :
  codeAny (model P w) callerA (.call (.ref fa) ⟨[.ref a],[]⟩) (λ r s'=>r=.ok (.ret (.bool true))/\OldK s₁.heap s'.heap/\s'.os=s₁.os/\AllBare s'.gens) s₁:=by
 have rv:=vals_ints hi
 have lenV:=hi.length
 have core : ∀ H:Hp,Only H->SqL K H a (ns.map V.int)->HOk P w H s₁.heap->(∀ b,H b≠none->b=a)->(H a≠none->K.lookup a=none) ->
   codeAny (model P w) callerA (.call (.ref fa) ⟨[.ref a],[]⟩) (λ r s'=>r=.ok (.ret (.bool true))/\OldK s₁.heap s'.heap/\s'.os=s₁.os/\AllBare s'.gens) s₁:=by
  intro H hO hS hok hA hK
  have base_of : ∀ {b:Addr} {o:Obj},s₁.heap.get? b=some o->H b=none->(hidT s₁.heap H).get? b=some o:=λ e n=>hidT_get e n
  have noA : ∀ {b:Addr} {o:Obj} {es:Array DictEntry} {ep:Nat},s₁.heap.get? b=some o->o.data=.dict es ep->H b=none:=λ {b o es ep} e d=>by
   cases q:H b with
   | none=>rfl
   | some u =>
    have e':b=a:=hA b (by rw [q];simp)
    subst e'
    rw [ha] at e;cases e
    have d':Data.seq vs.toArray _=Data.dict es ep:=d
    cases d'
  have nsK : ∀ {b:Addr} {m:Str->Option Value},s₁.heap.Ns b m->(hidT s₁.heap H).Ns b m:=λ {b m} ⟨o,es,ep,e,d,r⟩=>⟨o,es,ep,base_of e (noA e d),d,r⟩
  have hKb:K.In (hidT s₁.heap H):=λ b o e=>base_of (KX b o e) (by
   cases q:H b with
   | none=>rfl
   | some u =>
    have e':b=a:=hA b (by rw [q];simp)
    subst e'
    rw [hK (by rw [q];simp)] at e;cases e)
  have hM:Mod K mg (hidT s₁.heap H):=⟨hKb,nsK hns,⟨mb,nsK hb,hbb⟩,let ⟨mc,h1,h2⟩:=hlim;⟨mc,nsK h1,h2⟩⟩
  have e0:Env0 P w K mg (hidT s₁.heap H) callerA [] s₁ H:=⟨rfl,hM,λ b o e=>of_hidT e,Nat.le_of_eq (hidT_size _ _),trivial,λ b hb=>absurd (show b∈([]:List Addr) from hb) (by simp),hok,.of_eq hg⟩
  refine codeAny_mono ((F _ hKb (nsK hns)).run callerA [] s₁ H ⟨[.ref a],[]⟩ [.ref a] [.ref a] _ _ hr e0 (hbind s₁ (.ref a)) (.cons rfl .nil) (hsp H hO hS)) λ r s' h=>?_
  cases r with
  | error e=>exact (hCX H e s' h).elim
  | ok fl =>
   cases fl with
   | next=>exact False.elim h
   | brk=>exact False.elim h
   | cont=>exact False.elim h
   | ret u =>
    obtain ⟨v,H',os,bare,un,hok',r',q⟩:=h
    have q':v=.bl true:=q
    subst q'
    obtain rfl:u=Value.bool true:=r'
    refine ⟨rfl,OldK.of_keep λ b o e=>?_,os,bare⟩
    cases q:H b with
    | none=>exact un.keep b o e q (by intro z;exact absurd (show b∈([]:List Addr) from z) (by simp)) (by simp)
    | some u =>
     rcases hO b with z | ⟨ob,xs,z⟩
     ·rw [q] at z;cases z
     ·have z2:=un.frzs b ob _ z
      obtain ⟨e1,_⟩:=hok b _ z
      obtain ⟨e2,_⟩:=hok' b _ z2
      rw [e] at e1;cases e1
      exact e2
 cases hk:K.lookup a with
 | some o =>
  have e:=KX a o hk
  rw [ha] at e
  cases e
  refine core (λ _=>none) (λ _=>.inl rfl) (.inr ⟨_,vs.toArray,_,hk,rfl,rfl,rfl,by rw [List.size_toArray,lenV];exact hl,by simpa using rv⟩) (λ b u z=>by have z':(none:Option HO)=some u:=z;cases z') (λ b z=>absurd rfl z) λ z=>absurd rfl z
 | none =>
  refine core (λ b=>if b=a then some (.frz { cls:=.type "list", data:=.seq vs.toArray } (.lst (ns.map V.int))) else none) (λ b=>?_) (.inl (.inr ⟨{ cls:=.type "list", data:=.seq vs.toArray },if_pos rfl⟩)) (λ b u z=>?_) (λ b z=>?_) λ _=>hk
  ·by_cases hb:b=a
   ·exact .inr ⟨_,_,if_pos hb⟩
   ·exact .inl (if_neg hb)
  ·by_cases hb:b=a
   ·have z':=(if_pos hb).symm.trans z
    cases z'
    subst hb
    exact ⟨ha,by rw [List.length_map];exact hl,vs,_,rv,ha⟩
   ·have z':=(if_neg hb).symm.trans z
    cases z'
  ·by_cases hb:b=a
   ·exact hb
   ·exact absurd (if_neg hb) z
theorem walk_of {l:PySem.W.OpenLaw} {n k:Nat} {q:Program} {loose:List Str} {XP:(Str->Option Value)->Heap->Prop} {YP:World->Heap->Prop} {d:DefRec} {K:Params->PySem.W.Frag} {CX:World->CXT} {sp:World->Sp} {x:Str}
  (hn:l.most=some n) (hn2:n<=sizeLine) (hdf:d.params.defaults=[]) (hr:Room k callerA)
  (hY : ∀ (w:World) (h:Heap),YP w h->(K w.params).In h)
  (F : ∀ (w:World) (mg:Str->Option Value) (fa:Addr) (h:Heap),(K w.params).In h->h.Ns mainGlobals mg->mg d.name=some (.ref fa) ->
   ∃ fd:FuncData,(∀ (s:Shared) (u:Value),BindsTo s fd ⟨[u],[]⟩ [(x,u)]) /\
    ∀ base:Heap,(K w.params).In base->base.Ns mainGlobals mg->FnOk l.prog w (K w.params) mg base (CX w) k fa fd [x] (sp w))
  (hsp : ∀ (w:World) (H:Hp) (a:Addr) (ns:List Int),ns.length<=n->Only H->SqL (K w.params) H a (ns.map V.int)->sp w [.ref a] H (λ v _=>v=.bl true) λ _ _ _=>False)
  (hCX : ∀ (w:World) (H:Hp) (s:Shared) (e:Value) (s':Shared),CX w [] H s (λ _ _ _=>False) e s'->False) :
  PySem.W.WalkO q loose XP YP l.row.toRowW d [] (λ f vs=>PySem.call f vs):=by
 refine Att.attach_call hn hdf λ w s₀ s₁ mg mb fa o pm cd doc a vs ns G Y ho hd hcd hmg hobj hints hlen hg=>?_
 have KX:=hY w _ Y
 obtain ⟨fd,hb,hF⟩:=F w mg fa _ KX G.T.g hmg
 exact law_call KX G.T.g G.T.b G.T.builtins G.T.nolimit hg hobj hints (Nat.le_trans hlen hn2) hr hF hb (λ H hO hS=>hsp w H a ns hlen hO hS) λ H e s'=>hCX w H s₁ e s'
def defArgs (s:Stmt):Arguments:=match s with
 | .FunctionDef _ a _ _ _ _ _ _ _ _=>a
 | _=>{ posonlyargs:=[],args:=[],vararg:=none,kwonlyargs:=[],kw_defaults:=[],kwarg:=none,defaults:=[] }
def defBody (s:Stmt):List Stmt:=match s with
 | .FunctionDef _ _ b _ _ _ _ _ _ _=>b
 | _=>[]
def defScope (s:Stmt):Scope:=match s with
 | .FunctionDef _ _ _ _ _ _ sc _ _ _=>sc
 | _=>{ kind:=.function,names:=[],isGenerator:=false,isCoroutine:=false }
abbrev CX0:CXT:=λ _ _ _ _ _ _=>False
abbrev E0:XK:=λ _ _ _=>False
theorem pass0 {X:Cx}:Passes CX0 X E0:=λ _ _ _ _ _ _ _ h=>h.elim
structure Fun (K:PySem.W.Frag) (x qual:Str) (st:Stmt) (f:Addr) (fd:FuncData):Prop where
 ex : ∃ (oc:Value) (od:Option Addr) (kV doc pm:Value) (an:Option Addr) (cdv ct:Value) (osl:Array (Option Value)),
  fd=PySem.W.fnOf x qual (defArgs st) (defBody st) (defScope st) .none kV doc pm an cdv ct/\K.lookup f=some ⟨oc,od,.func fd,osl⟩/\PySem.W.codeIn K cdv qual=true
 kp:PySem.W.keepIn K (.ref f)=true
section
variable {P:Program} {w:World} {K:PySem.W.Frag} {mg:Str->Option Value} {base:Heap}
theorem Fun.ok {x qual:Str} {st:Stmt} {f:Addr} {fd:FuncData} {N ps:List Str} {k:Nat} {sp:Sp} (F:Fun K x qual st f fd) (S:FnScope N ps (defScope st)) (len : ∀ vs H Q E,sp vs H Q E->vs.length=ps.length)
  (hbody : ∀ (cdv:Value) (A:Around) (outer:List Env) (s:Shared) (H:Hp) (vs:List V) (Q:VK) (E:XK),Room k (A.deeper (envOfC qual (defScope st) s.heap.objs.size f cdv))->sp vs H Q E ->
   ∃ t,PSs (cxOf CX0 P w K mg base N qual (defScope st) f cdv A outer s H E).nox (defBody st) t/\t { nx:=λ _ H'=>Q .non H',rt:=Q } (start N vs) H):FnOk P w K mg base CX0 (k+1) f fd ps sp:=by
 obtain ⟨oc,od,kV,doc,pm,an,cdv,ct,osl,rfl,lk,hcd⟩:=F.ex
 refine fn_of lk hcd S len λ A outer s H vs Q E hr hsp=>?_
 obtain ⟨t,h,q⟩:=hbody cdv A outer s H vs Q E hr hsp
 exact ⟨t,h.nox,q⟩
theorem Fun.binds {x qual:Str} {st:Stmt} {f:Addr} {fd:FuncData} {ps:List Str} (F:Fun K x qual st f fd)
  (h : ∀ (kV doc pm:Value) (an:Option Addr) (cdv ct:Value) (us:List Value),us.length=ps.length->bindArgs (PySem.W.fnOf x qual (defArgs st) (defBody st) (defScope st) .none kV doc pm an cdv ct) ⟨us,[]⟩=pure (ps.zip us)):Binds K fd ps []:=by
 obtain ⟨oc,od,kV,doc,pm,an,cdv,ct,osl,rfl,lk,hcd⟩:=F.ex
 exact .all (h kV doc pm an cdv ct)
theorem fun_mk {x qual:Str} {st:Stmt} {f:Addr} {oc:Value} {od an:Option Addr} {osl:Array (Option Value)} {kV doc pm cdv ct:Value} (l:K.lookup f=some ⟨oc,od,.func (PySem.W.fnOf x qual (defArgs st) (defBody st) (defScope st) .none kV doc pm an cdv ct),osl⟩)
  (c:PySem.W.codeIn K cdv qual=true) (k:PySem.W.keepIn K (.ref f)=true):Fun K x qual st f (PySem.W.fnOf x qual (defArgs st) (defBody st) (defScope st) .none kV doc pm an cdv ct):=⟨⟨oc,od,kV,doc,pm,an,cdv,ct,osl,rfl,l,c⟩,k⟩
end
theorem hu_of {A:Around} {k:Nat} (hr:Room k A):A.units+1<cLine:=Nat.lt_of_le_of_lt (Nat.add_le_add_left (by decide:1<=64) _) hr.units
section
variable {X:Cx}
theorem pv (i:Nat) {x:Str} {pos:Pos} (hN:X.N[i]?=some x:=by rfl) (hv:Vis X.env.scope x:=by first | exact Or.inl rfl | exact Or.inr (Or.inl rfl) | exact Or.inr (Or.inr rfl)) (hd:(x == ("__debug__" : Str))=false:=by decide)
  (hcd:(x == ("__classdict__" : Str))=false:=by decide):PE X (.Name x pos) (tVar i):=pe_var hN hv hd hcd
end
theorem iteF {A B:Prop} (h:B):if false=true then A else B:=by
 rw [if_neg Bool.false_ne_true]
 exact h
theorem iteT {A B:Prop} (h:A):if true=true then A else B:=by
 rw [if_pos rfl]
 exact h
theorem ite2 {c A B:Prop} [Decidable c] (h1:c->A) (h2 : ¬ c->B):if c then A else B:=by
 by_cases h:c
 ·rw [if_pos h]
  exact h1 h
 ·rw [if_neg h]
  exact h2 h
def Same (H H':Hp):Prop := ∀ b o,H b=some o->H' b=some o
theorem Same.refl (H:Hp):Same H H:=λ _ _ h=>h
theorem Same.trans {H H1 H2:Hp} (a:Same H H1) (b:Same H1 H2):Same H H2:=λ c o h=>b c o (a c o h)
theorem Same.free {H H':Hp} (e:Same H H') {l:Addr} (h:H' l=Option.none):H l=Option.none:=by
 cases q:H l with
 | none=>rfl
 | some o =>
  rw [e l o q] at h
  cases h
def rIsi (K:PySem.W.Frag):List V->Hp->VK->Prop:=λ xs H Q => ∃ x T t b,xs=[x,.ty T]/\TyOf K H x t/\PySem.W.kitOne K t (.type T)=some b/\Q (.bl b) H
section
variable {X:Cx}
theorem call_isi:CallR X (.builtin "isinstance") (rIsi X.K):=by
 intro pins s σ H xs us Q I r h
 obtain ⟨x,T,t,b,rfl,ty,e,q⟩:=h
 obtain ⟨u,w',rfl,rx,rT⟩:=vals2 r
 cases (show w'=Value.type T from rT)
 exact isinst_ok I rx ty e λ tk=>⟨.bl b,H,I.tok _,rfl,q⟩
theorem vals_bl : ∀ {bs:List Bool} {us:List Value},Vals (bs.map V.bl) us->us=bs.map Value.bool
 | [],_,r=>by rw [List.map_nil] at r;cases r;rfl
 | b::bs,_,r=>by
  rw [List.map_cons] at r
  cases r with
  | cons r1 r2 =>
   cases (show _=Value.bool b from r1)
   rw [vals_bl r2]
   rfl
theorem all_range (bs:List Bool):((List.range bs.length).all λ i=>bs.getD i true)=bs.all id:=by
 rw [Bool.eq_iff_iff,List.all_eq_true,List.all_eq_true]
 constructor
 ·intro h b hb
  obtain ⟨i,hi,rfl⟩:=List.getElem_of_mem hb
  have:=h i (List.mem_range.mpr hi)
  rw [List.getD_eq_getElem?_getD,List.getElem?_eq_getElem hi] at this
  exact this
 ·intro h i hi
  have hi':=List.mem_range.mp hi
  rw [List.getD_eq_getElem?_getD,List.getElem?_eq_getElem hi']
  exact h _ (List.getElem_mem hi')
theorem call_all (hc:X.calm=true):CallR X (.builtin "all") (λ xs H Q => ∃ (p:Addr) (bs:List Bool),xs=[.ref p]/\SqL X.K H p (bs.map V.bl)/\Q (.bl (bs.all id)) H):=by
 intro pins s σ H xs us Q I r h
 obtain ⟨p,bs,rfl,hq,q⟩:=h
 obtain ⟨u,rfl,ru⟩:=vals1 r
 cases ru
 obtain ⟨its,rv,pl,hz⟩:=I.list hq
 have ei:=vals_bl rv
 subst ei
 have hp:p<s.heap.objs.size:=by obtain ⟨_,_,e,_⟩:=pl;exact Heap.lt_size e
 have hd:X.A.in1.handled=none:=I.ok.hd.1 hc
 refine call_all_walk (wpAny_pyIter_list pl.isList ?_)
 refine ⟨s.heap.objs.size,_,_,_,_,_,(λ i=>bs.getD i true),rfl,Walks.list hd s.heap.objs.size p (Nat.ne_of_lt hp) (bs.map Value.bool).toArray,⟨⟨_,Heap.get?_push_size _ rfl,rfl,rfl⟩,pl.isList.push _⟩,?_,?_⟩
 ·intro i v s' Q' E' hv hQ
  have hv':(bs.map Value.bool)[i]?=some v:=by simpa using hv
  rw [List.getElem?_map] at hv'
  cases e:bs[i]? with
  | none=>rw [e] at hv';cases hv'
  | some b =>
   rw [e] at hv'
   cases hv'
   have hQ':Q' (bs.getD i true) s':=hQ
   rw [List.getD_eq_getElem?_getD,e] at hQ'
   exact wpAny_truthy_bool hQ'
 ·intro h' tk hk
  refine ⟨.bl (bs.all id),H,I.kept λ b o e=>hk b o ?_ (Heap.get?_push_of_some _ e),?_,q⟩
  ·intro z
   rw [List.mem_singleton.mp z] at e
   exact absurd (Heap.lt_size e) (Nat.lt_irrefl _)
  ·show Value.bool _=Value.bool _
   rw [<-all_range bs]
   simp
def rInsert:V->List V->Hp->VK->Prop:=λ x vs H Q => ∃ l xs i y,x=.ref l/\vs=[.int i,y]/\H l=some (.lst xs)/\0<=i/\i<2 ^ 63/\xs.length<sizeLine /\
 Q .non (upd H l (.lst (xs.take (min i.toNat xs.length)++y::xs.drop (min i.toNat xs.length))))
theorem insert_arr (its:List Value) (k:Nat) (u:Value):(its.toArray.extract 0 k).push u++its.toArray.extract k=(its.take k++u::its.drop k).toArray:=by
 apply Array.toList_inj.mp
 simp
 exact List.take_of_length_le (by simp)
theorem mt_insert:MtM X "list.insert" rInsert:=by
 intro pins s σ H x vs v us Q I rx rv h
 obtain ⟨l,xs,i,y,rfl,rfl,hH,h0,h1,hz,q⟩:=h
 cases rx
 obtain ⟨ui,uy,rfl,⟨t,rfl⟩,ry⟩:=vals2 rv
 obtain ⟨z,its,n,r,hl,e⟩:=I.lstM hH
 have hfit : ¬ (!Builtin.List.listFitsIndex i)=true:=by
  rw [fitsIndex_both (by omega) h1]
  exact Bool.false_ne_true
 refine call_meets F.slot_list_insert ⟨_,e,rfl⟩ F.entry_list_insert (F.args_list_insert_3 _ _ _) (AutoListH.list_insert_list_int_val_1 l its.toArray n i t uy hfit (by rw [List.size_toArray];omega)) ⟨e,?_⟩
 refine ⟨.non,_,I.lset (its':=its.take (min i.toNat xs.length)++uy::its.drop (min i.toNat xs.length)) hH e ?_ ((r.take _).append (.cons ry (r.drop _))) ?_,rfl,q⟩
 ·have hk:(if i<0 then (i+((its.toArray.size:Nat):Int)).toNat else min i.toNat its.toArray.size)=min i.toNat xs.length:=by
   rw [if_neg (by omega),List.size_toArray,hl]
  show ((its.toArray.extract 0 (if i<0 then (i+((its.toArray.size:Nat):Int)).toNat else min i.toNat its.toArray.size)).push uy++its.toArray.extract (if i<0 then (i+((its.toArray.size:Nat):Int)).toNat else min i.toNat its.toArray.size))=_
  rw [hk,insert_arr]
 ·simp only [List.length_append,List.length_take,List.length_cons,List.length_drop]
  omega
end
def pick (js:List (Option Nat)) (σ:St):St:=js.map λ o=>o.bind λ j=>(σ[j]?).join
theorem pick_get {js:List (Option Nat)} {σ:St} {i:Nat} {v:V} (h:(pick js σ)[i]?=some (some v)) : ∃ j,js[i]?=some (some j)/\σ[j]?=some (some v):=by
 unfold pick at h
 rw [List.getElem?_map] at h
 cases e:js[i]? with
 | none=>rw [e] at h;cases h
 | some o =>
  rw [e] at h
  have h':(o.bind λ j=>(σ[j]?).join)=some v:=Option.some.inj h
  cases o with
  | none=>cases h'
  | some j =>
   refine ⟨j,rfl,?_⟩
   have h2:(σ[j]?).join=some v:=h'
   cases e2:σ[j]? with
   | none=>rw [e2] at h2;cases h2
   | some q =>
    rw [e2] at h2
    have h3:q=some v:=h2
    rw [h3]
structure CompOk (X:Cx) (scope:Scope) (cl:List (Str×Addr)) (N:List Str) (js:List (Option Nat)):Prop where
 clos:closureFor scope X.env=pure cl
 nocell : ∀ y∈scope.names,y.2≠.cell
 kind:scope.kind=.function
 names : ∀ y∈scope.names,y.2=.local->scope.names.lookup y.1=some .local
 sub : ∀ x c,cl.lookup x=some c->X.env.cells.lookup x=some c
 has : ∀ x,((relabel scope X.env).names.lookup x=some .cell\/(relabel scope X.env).names.lookup x=some .free) -> ∃ c,cl.lookup x=some c
 len:js.length=N.length
 seen : ∀ (i j:Nat) (x:Str),N[i]?=some x->js[i]?=some (some j)->X.N[j]?=some x/\X.env.scope.names.lookup x=some .cell/\((relabel scope X.env).names.lookup x=some .cell\/(relabel scope X.env).names.lookup x=some .free)
abbrev compCx (X:Cx) (scope:Scope) (cl:List (Str×Addr)) (N:List Str) (fp:List Addr) (pins:List (Addr×Obj)) (s:Shared) (H:Hp) (E:Value->Shared->Prop):Cx :=
 { X with N:=N,s₀:=s,H₀:=H,env:=compEnvC scope cl s.heap.objs.size X.env,outer:=X.stack,ex:=fp,fn:=λ _=>false,pn:=X.pn++pins,xe:=E }
def CompW (J:It) (D:Addr) (js:List (Option Nat)) (g:TG) (tc:TT) (te:TE) (σ:St) (H1:Hp) (Q:VK):Prop :=
 ∃ W:Nat->Nat->St->Hp->List V->Prop,(∃ m,W 0 m (pick js σ) (upd H1 D (.lst [])) []) /\ ∀ i m σ' H' ys,W i m σ' H' ys->H' D=some (.lst ys) /\
  ((J.stop i H'/\Q (.ref D) H')\/(J.go i H'/\ys.length<sizeLine /\ ∃ N:St->Hp->List V->Prop,(∀ σ2 H2 zs,N σ2 H2 zs -> ∃ m',m'<m/\W (i+1) m' σ2 H2 zs) /\ ∀ x H2,J.yld i H' x H2->g x σ' H2 λ σ2 H3=>tc σ2 H3 λ k H5 =>
   if k=true then te σ2 H5 λ y H4=>H4 D=some (.lst ys)/\N σ2 (upd H4 D (.lst (ys++[y]))) (ys++[y]) else H5 D=some (.lst ys)/\N σ2 H5 ys))
def tComp (js:List (Option Nat)) (wi:TI) (g:TG) (tc:TT) (te:TE):TE:=λ σ H Q=>wi σ H λ J H1 => ∀ D,H1 D=none->CompW J D js g tc te σ H1 Q
theorem comp_gen {J:It} {n:Nat} {D:Addr} {js:List (Option Nat)} {g:TG} {tc:TT} {te:TE} {σ:St} {H1:Hp} {Q:VK} (hn:n<=sizeLine) (Pv:Nat->St->Hp->List V->Prop) (h0:Pv 0 (pick js σ) (upd H1 D (.lst [])) [])
  (hp : ∀ i σ' H' ys,i<=n->Pv i σ' H' ys->H' D=some (.lst ys)/\ys.length<=i) (hgo : ∀ i σ' H' ys,i<n->Pv i σ' H' ys->J.go i H') (hst : ∀ σ' H' ys,Pv n σ' H' ys->J.stop n H'/\Q (.ref D) H')
  (hs : ∀ i σ' H' ys x H2,i<n->Pv i σ' H' ys->J.yld i H' x H2->g x σ' H2 λ σ2 H3=>tc σ2 H3 λ k H5 =>
   if k=true then te σ2 H5 λ y H4=>H4 D=some (.lst ys)/\Pv (i+1) σ2 (upd H4 D (.lst (ys++[y]))) (ys++[y]) else H5 D=some (.lst ys)/\Pv (i+1) σ2 H5 ys) :
  ∃ W:Nat->Nat->St->Hp->List V->Prop,(∃ m,W 0 m (pick js σ) (upd H1 D (.lst [])) []) /\ ∀ i m σ' H' ys,W i m σ' H' ys->H' D=some (.lst ys) /\
   ((J.stop i H'/\Q (.ref D) H')\/(J.go i H'/\ys.length<sizeLine /\ ∃ N:St->Hp->List V->Prop,(∀ σ2 H2 zs,N σ2 H2 zs -> ∃ m',m'<m/\W (i+1) m' σ2 H2 zs) /\ ∀ x H2,J.yld i H' x H2->g x σ' H2 λ σ2 H3=>tc σ2 H3 λ k H5 =>
    if k=true then te σ2 H5 λ y H4=>H4 D=some (.lst ys)/\N σ2 (upd H4 D (.lst (ys++[y]))) (ys++[y]) else H5 D=some (.lst ys)/\N σ2 H5 ys)):=by
 refine ⟨λ i m σ' H' ys=>m=n - i/\i<=n/\Pv i σ' H' ys,⟨n,rfl,Nat.zero_le _,h0⟩,?_⟩
 rintro i m σ' H' ys ⟨rfl,hi,p⟩
 obtain ⟨hD,hy⟩:=hp i σ' H' ys hi p
 refine ⟨hD,?_⟩
 by_cases hlt:i<n
 ·exact .inr ⟨hgo i σ' H' ys hlt p,by omega,Pv (i+1),λ σ2 H2 zs p'=>⟨n - (i+1),by omega,rfl,hlt,p'⟩,λ x H2 y=>hs i σ' H' ys x H2 hlt p y⟩
 ·have e:i=n:=by omega
  subst e
  exact .inl (hst σ' H' ys p)
def PTs (X:Cx) (cs:List Expr) (t:TT):Prop :=
 ∀ (pins:List (Addr×Obj)) (s:Shared) (σ:St) (H:Hp) (Q:Bool->Hp->Prop),Inv X pins σ H s->t σ H Q ->
  wpAny (model X.prog X.w) X.A (forIn cs true λ c r=>if r=true then do let ok ← isTrue c X.env (eval c X.env);pure (ForInStep.yield ok) else pure (ForInStep.yield r)) (TP X pins σ Q) X.xe s
def tNoTest:TT:=λ _ H Q=>Q true H
theorem pts_nil {X:Cx}:PTs X [] tNoTest:=λ _ _ _ H _ I h=>wpAny_tests_nil ⟨H,I,h⟩
theorem pts_one {X:Cx} {c:Expr} {t:TT} (hc:PT X c t):PTs X [c] t:=λ pins s σ H Q I h=>wpAny_tests_one (hc pins s σ H Q I h)
section
variable {prog:Program} {w:World} {A:Around} {R:Result->Shared->Prop} {s:Shared}
theorem loop_go {elt tg iter:Expr} {cs:List Expr} {scope:Scope} {pos:Pos} {it acc:Value} {env:Env} (J:Nat->Shared->Prop)
  (turn : ∀ n s',J n s'->wpAny (model prog w) A (pyNext it) (λ r t1=>match r with
   | none=>R (.ok .next) t1
   | some v=>wpAny (model prog w) A (letOwnedTupleGo tg it v) (λ _ t2=>wpAny (model prog w) A (assign tg env v) (λ _ t3 =>
     wpAny (model prog w) A (forIn cs true λ c r=>if r=true then do let ok ← isTrue c env (eval c env);pure (ForInStep.yield ok) else pure (ForInStep.yield r)) (λ ok t4 =>
      if ok=true then wpAny (model prog w) A (eval elt env) (λ x t5=>wpAny (model prog w) A (call (.builtin "list.append") [acc,x]) (λ _ t6 => ∃ m,m<n/\J m t6)
       (notedBy (model prog w) A env λ e s''=>R (.error e) s'') t5) (notedBy (model prog w) A env λ e s''=>R (.error e) s'') t4
      else ∃ m,m<n/\J m t4) (notedBy (model prog w) A env λ e s''=>R (.error e) s'') t3) (notedBy (model prog w) A env λ e s''=>R (.error e) s'') t2) (notedBy (model prog w) A env λ e s''=>R (.error e) s'') t1)
    (notedBy (model prog w) A env λ e s''=>R (.error e) s'') s')
  (n:Nat) (h:J n s):codeAny (model prog w) A (.compLoop (.ListComp elt [⟨tg,iter,cs,0⟩] scope pos) 0 it acc env) R s:=by
 refine codeAny_loop rfl J (λ n s' hJ=>?_) n h
 show wpAny _ A ((compTurn (.ListComp elt [⟨tg,iter,cs,0⟩] scope pos) 0 it acc env).onRaise (λ z=>do noteFrame z env;theTreesLotGoes z)) _ _ s'
 refine wpAny_noted ?_
 rw [compTurn_list]
 refine wpAny_bind (wpAny_standAt (wpAny_bind (thn (turn n s' hJ) λ r t1 k1=>?_)))
 cases r with
 | none=>exact wpAny_pure k1
 | some v =>
  refine wpAny_bind (thn k1 λ _ t2 k2=>wpAny_bind (thn k2 λ _ t3 k3=>wpAny_bind (thn k3 λ ok t4 k4=>?_)))
  cases ok with
  | false=>exact wpAny_pure ⟨rfl,k4⟩
  | true=>exact wpAny_bind (wpAny_bind (thn k4 λ x t5 k5=>wpAny_bind (thn k5 λ _ t6 k6=>wpAny_pure (wpAny_pure ⟨rfl,k6⟩))))
end
theorem noEx {M:Model} {A:Around} {α : Type} {t:Sem α} {Q : α -> Shared->Prop} {E E':Value->Shared->Prop} {s:Shared} (hE : ∀ e s',E e s'->False) (h:wpAny M A t Q E s):wpAny M A t Q E' s:=wpAny_mono h (λ _ _ q=>q) λ e s' z=>(hE e s' z).elim
theorem pe_comp {X:Cx} {elt tg iter:Expr} {cs:List Expr} {scope:Scope} {pos:Pos} {cl:List (Str×Addr)} {N:List Str} {js:List (Option Nat)} {wi:TI} {g:TG} {tc:TT} {te:TE}
  (C:CompOk X scope cl N js) (hc:X.warm=true) (hi:PI X tg iter wi)
  (hg : ∀ fp pins s H,PG (compCx X scope cl N fp pins s H λ _ _=>False) tg g)
  (ht : ∀ fp pins s H,PTs (compCx X scope cl N fp pins s H λ _ _=>False) cs tc)
  (he : ∀ fp pins s H,PE (compCx X scope cl N fp pins s H λ _ _=>False) elt te)
  (hs : ∀ x,foldedSetIterable iter X.env x=pure x:=by intro _;rfl):PE X (.ListComp elt [⟨tg,iter,cs,0⟩] scope pos) (tComp js wi g tc te):=by
 intro pins s σ H Q I h
 rw [eval_ListComp]
 refine wpAny_comprehension_free (use:=none) rfl hs C.clos C.kind C.names (thn (hi pins s σ H _ I h) λ xv s1 h1=>thn h1 λ itv s2 h2=>?_)
 obtain ⟨it,fp,tn,J,H2,e,I2,T,st2,f2,h2⟩:=h2
 subst e
 obtain ⟨W,⟨m0,w0⟩,turn⟩:=h2 s2.heap.objs.size I2.fresh
 refine wpAny_newObj_type (wpAny_newFunctionEnv C.nocell (by intro y hy;simp at hy) (λ h4 ns4 sb4=>?_) C.kind)
 have I3:Inv X pins σ (upd H2 s2.heap.objs.size (.lst [])) { s2 with heap:=s2.heap.push { cls:=.type "list", data:=.seq ([]:List Value).toArray } }:=I2.lnew (t':=s2.toks) (its:=[]) .nil (Nat.zero_le _)
 dsimp only at ns4 sb4 ⊢
 generalize e3:({ s2 with heap:=s2.heap.push { cls:=.type "list", data:=.seq ([]:List Value).toArray } }:Shared)=s3 at I3
 have e3h:s2.heap.push { cls:=.type "list", data:=.seq ([]:List Value).toArray }=s3.heap:=by rw [<-e3]
 have e3g:s2.gens=s3.gens:=by rw [<-e3]
 have e3o:s2.os=s3.os:=by rw [<-e3]
 rw [e3h] at ns4 sb4 ⊢
 generalize eH:upd H2 s2.heap.objs.size (.lst [])=H3 at I3 w0
 have hD:s2.heap.objs.size<s3.heap.objs.size:=by rw [<-e3h,Heap.size_push];exact Nat.lt_succ_self _
 have up3 : ∀ b o,s2.heap.get? b=some o->s3.heap.get? b=some o:=λ b o q=>by rw [<-e3h];exact Heap.get?_push_of_some _ q
 have up4 : ∀ b o,s3.heap.get? b=some o->h4.get? b=some o:=λ b o q=>sb4.extBut b o (Nat.ne_of_lt (Heap.lt_size q)) (Heap.get?_push_of_some _ q)
 have fpo : ∀ b∈fp,b<s3.heap.objs.size:=λ b hb=>by
  obtain ⟨o,eo,_⟩:=T.obj 0 _ st2 b hb
  exact Heap.lt_size (up3 b o eo)
 have fst : ∀ b∈fp,b∉frs X.stack:=λ b hb z=>by
  rcases List.mem_cons.mp (I3.stkSub b z) with q | q
  ·exact (f2 b hb).2.1 q
  ·exact (f2 b hb).2.2.1 q
 have okY:(compCx X scope cl N fp pins s3 H3 λ _ _=>False).Ok:=by
  refine ⟨I.ok.mod,C.kind,I.ok.glob,I.ok.blt,Nat.le_refl _,λ x y c q1 q2=>I.ok.inj x y c (C.sub _ _ q1) (C.sub _ _ q2),C.has,λ x c z=>absurd z Bool.false_ne_true,⟨I.ok.hd.1,λ hw=>I3.hdC hw λ b hb=>(f2 b hb).2.2.2.1⟩,I.ok.frames,.inl rfl,λ b hb=>⟨Nat.ne_of_lt (fpo b hb),λ x c q=>(f2 b hb).2.2.2.2.1 x c (C.sub _ _ q)⟩,
   I3.bs,Nat.le_trans I.ok.bsz I3.sz,λ b o q hb=>?_,fst,I3.stack,I3.stkFree⟩
  rcases (f2 b hb).2.2.2.1 with z | z
  ·exact I.ok.noex b o q z
  ·exact absurd (Nat.lt_of_lt_of_le (Heap.lt_size q) (Nat.le_trans I.ok.bsz z)) (Nat.lt_irrefl _)
 have I4:Inv (compCx X scope cl N fp pins s3 H3 λ _ _=>False) [] (pick js σ) H3 { s3 with heap:=h4,toks:=s3.toks+([]:List (Str×Value)).length }:=by
  refine ⟨okY,rfl,I3.bare,Un.kept up4,⟨_,ns4,λ i x v q1 q2 q3=>?_⟩,λ x c q=>?_,I3.hok.fresh (Nat.le_refl _),λ x c q=>I3.freeC x c (C.sub _ _ q),λ p hp=>?_,I3.hok.kept up4,?_⟩
  ·obtain ⟨j,k1,k2⟩:=pick_get q2
   obtain ⟨z1,z2,z3⟩:=C.seen i j x q1 k1
   obtain ⟨m,hn,hl⟩:=I3.loc
   obtain ⟨u,ru,lk⟩:=hl j x v z1 k2 (.inr (.inl z2))
   refine ⟨u,ru,.inr ⟨z3,?_⟩⟩
   rcases lk with ⟨k,_⟩ | ⟨_,c,ec,oc,hoc,hdc⟩
   ·have k':X.env.scope.names.lookup x=some .local:=k
    rw [z2] at k';cases k'
   ·obtain ⟨c',ec'⟩:=C.has x z3
    have:=C.sub _ _ ec'
    rw [ec] at this
    cases this
    exact ⟨c,ec',oc,up4 _ _ hoc,hdc⟩
  ·obtain ⟨v,oc,hoc,hdc⟩:=I3.cell x c (C.sub _ _ q)
   exact ⟨v,oc,up4 _ _ hoc,hdc⟩
  ·have hp':p∈X.pn++pins:=by simpa using hp
   obtain ⟨q1,q2,q3,q4,q5⟩:=I3.pin p hp'
   refine ⟨up4 _ _ q1,q2,Nat.ne_of_lt (Heap.lt_size q1),λ z=>?_,q5⟩
   rcases List.mem_cons.mp (I3.stkSub _ z) with q | q
   ·exact q3 q
   ·exact q4 q
  ·show (pick js σ).length=N.length
   unfold pick
   rw [List.length_map,C.len]
 have stat : ∀ {H':Hp},(∀ b∈fp,H' b=none) -> ∀ b∈fp,FpOk (compCx X scope cl N fp pins s3 H3 λ _ _=>False) [] H' b:=λ hn b hb =>
  ⟨hn b hb,Nat.ne_of_lt (fpo b hb),fst b hb,.inl hb,λ x c q=>(f2 b hb).2.2.2.2.1 x c (C.sub _ _ q),λ p hp=>(f2 b hb).2.2.2.2.2 p (by simpa using hp)⟩
 have st4:tn 0 h4:=T.keep 0 _ _ st2 λ b hb o q=>up4 b o (up3 b o q)
 have nx : ∀ e s',(compCx X scope cl N fp pins s3 H3 λ _ _=>False).xe e s'->False:=λ _ _ z=>z
 have loop:codeAny (model X.prog X.w) X.A (.compLoop (.ListComp elt [⟨tg,iter,cs,0⟩] scope pos) 0 (.ref it) (.ref s2.heap.objs.size) (compEnvC scope cl s3.heap.objs.size X.env))
   (compPost (model X.prog X.w) X.A X.xe none (EP X pins σ Q) (.ref s2.heap.objs.size) s3.heap.objs.size) { s3 with heap:=h4,toks:=s3.toks+([]:List (Str×Value)).length }:=by
  refine loop_go (λ n s' => ∃ i σ' H' ys,Inv (compCx X scope cl N fp pins s3 H3 λ _ _=>False) [] σ' H' s'/\tn i s'.heap/\(∀ b∈fp,H' b=none)/\W i n σ' H' ys) ?_ m0 ⟨0,_,H3,[],I4,st4,λ b hb=>?_,w0⟩
  ·rintro n s5 ⟨i,σ5,H5,ys,I5,st5,fr5,w5⟩
   obtain ⟨hD5,way⟩:=turn i n σ5 H5 ys w5
   rcases way with ⟨stop,qn⟩ | ⟨go,hz,NN,hN,step⟩
   ·refine noEx nx (thn (T.done (compCx X scope cl N fp pins s3 H3 λ _ _=>False) rfl rfl rfl rfl hc i [] s5 σ5 H5 _ I5 (stat fr5) st5 stop) λ r s6 ⟨hr,I6⟩=>?_)
    subst hr
    obtain ⟨m,hn,_⟩:=I6.loc
    refine ⟨m,hn,λ h' sb=>⟨.ref s2.heap.objs.size,H5,?_,rfl,qn⟩⟩
    have low : ∀ b o,s3.heap.get? b=some o->b≠s3.heap.objs.size:=λ b o q=>Nat.ne_of_lt (Heap.lt_size q)
    have same : ∀ b,b≠s3.heap.objs.size->h'.get? b=s6.heap.get? b:=λ b hb=>sb.2 b hb
    have B:=I6.base
    refine I3.call' (s':={ s6 with heap:=h' }) (H':=H5) (ch:=fp) I6.os ⟨λ b o q n0 h1 h2=>?_,λ b o q n0 h1 h2=>?_,B.free,λ b o q h2=>?_,B.tups,B.frzs,B.tbls⟩ (λ a o q=>?_) I6.bare (λ b hb=>⟨(f2 b hb).2.2.2.1,(f2 b hb).2.1,(f2 b hb).2.2.2.2.1,(f2 b hb).2.2.2.2.2⟩)
    ·exact (same b (low b o q)).trans (B.keep b o q n0 h1 h2)
    ·obtain ⟨sl,z⟩:=B.slot b o q n0 h1 h2
     exact ⟨sl,(same b (low b o q)).trans z⟩
    ·obtain ⟨o',z⟩:=B.there b o q h2
     exact ⟨o',(same b (low b o q)).trans z⟩
    ·have nC : ∀ c u,H5 c=some u->c≠s3.heap.objs.size:=λ c u z y=>by
      have:=I6.free
      rw [y] at z
      rw [show H5 s3.heap.objs.size=none from this] at z
      cases z
     refine (I6.hok a o q).stay (λ c u hc' z=>(same c ?_).trans z) (λ _ z=>z) λ _ _ z=>z
     rcases hc' with z' | z'
     ·rw [z'];exact nC a o q
     ·exact nC c _ z'
   ·refine noEx nx (thn (T.item (compCx X scope cl N fp pins s3 H3 λ _ _=>False) rfl rfl rfl rfl hc i [] s5 σ5 H5 _ I5 (stat fr5) st5 go) λ r s6 ⟨u,hr,h6⟩=>?_)
    subst hr
    refine noEx nx (thn h6 λ _ s7 ⟨x,H7,I7,r7,y7,st7,fr7⟩=>?_)
    have I7':=I7.pinned (stat fr7) (T.obj _ _ st7)
    refine noEx nx (thn (hg fp pins s3 H3 _ s7 σ5 H7 x u _ I7' r7 (step x H7 y7)) λ _ s8 ⟨σ8,H8,I8,q8⟩=>?_)
    refine noEx nx (thn (ht fp pins s3 H3 _ s8 σ8 H8 _ I8 q8) λ k s9 ⟨H9,I9,q9⟩=>?_)
    have fin : ∀ {s':Shared} {σ':St} {H':Hp} {ys':List V},Inv (compCx X scope cl N fp pins s3 H3 λ _ _=>False) ([]++pinsAt fp s7.heap) σ' H' s'->NN σ' H' ys' ->
      ∃ m',m'<n /\ ∃ i σ' H' ys,Inv (compCx X scope cl N fp pins s3 H3 λ _ _=>False) [] σ' H' s'/\tn i s'.heap/\(∀ b∈fp,H' b=none)/\W i m' σ' H' ys:=λ {s' σ' H' ys'} Iv nv=>by
     obtain ⟨m',hm,wv⟩:=hN σ' H' ys' nv
     refine ⟨m',hm,i+1,σ',H',ys',Iv.unpinned,T.keep _ _ _ st7 λ b hb o q=>(Iv.pin (b,o) (List.mem_append_right _ (List.mem_append_right _ (mem_pinsAt hb q)))).1,λ b hb=>?_,wv⟩
     obtain ⟨o,q,_⟩:=T.obj _ _ st7 b hb
     exact (Iv.pin (b,o) (List.mem_append_right _ (List.mem_append_right _ (mem_pinsAt hb q)))).2.1
    cases k with
    | false =>
     rw [if_neg Bool.false_ne_true] at q9 ⊢
     exact fin I9 q9.2
    | true =>
     rw [if_pos rfl] at q9 ⊢
     refine noEx nx (thn (he fp pins s3 H3 _ s9 σ8 H9 _ I9 q9) λ y sA ⟨yv,HA,IA,rA,hDA,qA⟩=>?_)
     refine noEx nx (thn (mt_append _ sA σ8 HA (.ref s2.heap.objs.size) [yv] _ [y] (λ _ HB=>NN σ8 HB (ys++[yv])) IA rfl (.cons rA .nil) ⟨_,ys,yv,rfl,rfl,hDA,hz,qA⟩) λ _ sB ⟨_,HB,IB,_,qB⟩=>?_)
     exact fin IB qB
  ·rw [<-eH,upd_ne]
   ·exact (f2 b hb).1
   ·obtain ⟨o,eo,_⟩:=T.obj 0 _ st2 b hb
    exact Nat.ne_of_lt (Heap.lt_size eo)
 have goal:codeAny (model X.prog X.w) X.A (.compStart (.ListComp elt [⟨tg,iter,cs,0⟩] scope pos) 0 (.ref it) (.ref s2.heap.objs.size) (compEnvC scope cl s3.heap.objs.size X.env))
   (compPost (model X.prog X.w) X.A X.xe none (EP X pins σ Q) (.ref s2.heap.objs.size) s3.heap.objs.size) { s3 with heap:=h4,toks:=s3.toks+([]:List (Str×Value)).length } :=
  codeAny_compStart_list loop (T.self _ 0 _ _ _ st4 loop)
 subst e3
 exact goal
end L2
namespace Zt
open PySem PyProof.Rows
theorem notNone (t:Addr) : ¬ ((Value.ref t == Value.none)=true):=Bool.false_ne_true
section
variable {prog:Program} {w:World} {A:Around} {E:Value->Shared->Prop} {s:Shared}
theorem pull {j t:Addr} {k:Nat} {vs:Array Value} {x:Value} {Q:Value->Shared->Prop} (a:s.heap.IsTupleIter j t k) (b:s.heap.IsTuple t vs) (c:vs[k]?=some x)
  (q : ∀ g,g.IsTupleIter j t (k+1)->Heap.SameBut j s.heap g->Q x { s with heap:=g }):wpAny (model prog w) A (Builtin.SmallTypes.nextOf (.ref j)) Q E s:=by
 obtain ⟨oj,gj,cj,dj⟩:=id a
 obtain ⟨ot,gt,_,nt,dt⟩:=b
 unfold Builtin.SmallTypes.nextOf
 refine wpAny_bind (wpAny_callSpecial?_slot (name:=Str.ofString "__next__") a.typeIs F.slot_tuple_iterator_next (wpAny_call_entry F.slot_tuple_iterator_next a.typeIs F.entry_tuple_iterator_next ?_ (F.args_tuple_iterator_next_1 _)))
 show wpAny _ _ (field (.ref j) 0>>=_) _ _ s
 refine wpAny_bind (wpAny_field gj dj (x:=.ref t) rfl ?_)
 show wpAny _ _ (ite ((Value.ref t == Value.none)=true) _ _) _ _ s
 rw [if_neg (notNone t)]
 show wpAny _ _ (field (.ref j) 1>>=_) _ _ s
 refine wpAny_bind (wpAny_field gj dj (x:=.int k 0) rfl ?_)
 show wpAny _ _ (seqItems? (.ref t)>>=_) _ _ s
 refine wpAny_bind (wpAny_seqItems gt dt ?_)
 simp only [Int.toNat_natCast,c]
 refine wpAny_bind (wpAny_setField gj dj (by simp) (wpAny_pure ⟨x,rfl,wpAny_pure (q _ ⟨_,Heap.get?_update_self _ gj (Obj.isFreed_of_fields (Obj.data_mapFields dj _)),(Obj.cls_mapFields ..).trans cj,?_⟩ (Heap.SameBut.update ..))⟩))
 rw [Obj.data_mapFields dj]
 simp [rawInt]
theorem pull_end {j t:Addr} {k:Nat} {vs:Array Value} {Q:Value->Shared->Prop} (hd:Hd.In A s.heap) (a:s.heap.IsTupleIter j t k) (b:s.heap.IsTuple t vs) (c:vs[k]?=none)
  (q : ∀ g e,Heap.ExtBut j s.heap g->(∃ o,g.get? e=some o/\o.cls=.type "StopIteration")->E (.ref e) { s with heap:=g }):wpAny (model prog w) A (Builtin.SmallTypes.nextOf (.ref j)) Q E s :=
 Hd.tup_pull hd a b c q
theorem zip_item {z TI TO j1 j2 t1 t2:Addr} {k:Nat} {xs ys:Array Value} {x y a b:Value} {Q:Value->Shared->Prop} (D:ZipApart z TI TO j1 j2 t1 t2)
  (zz:IsZip s.heap z TI TO .none) (zI:IsPair s.heap TI (.ref j1) (.ref j2)) (zO:IsPair s.heap TO a b)
  (i1:s.heap.IsTupleIter j1 t1 k) (i2:s.heap.IsTupleIter j2 t2 k) (l1:s.heap.IsTuple t1 xs) (l2:s.heap.IsTuple t2 ys) (ex:xs[k]?=some x) (ey:ys[k]?=some y)
  (q : ∀ g,IsZip g z TI TO (rawInt s.heap.objs.size)->IsPair g TO x y->g.IsTupleIter j1 t1 (k+1)->g.IsTupleIter j2 t2 (k+1)->IsPair g s.heap.objs.size x y ->
   (∀ c o,c≠z->c≠TO->c≠j1->c≠j2->s.heap.get? c=some o->g.get? c=some o)->Q (.ref s.heap.objs.size) { s with heap:=g }) :
  wpAny (model prog w) A (Builtin.«zip.__next__» ⟨[.ref z],[]⟩) (λ fin s' => ∃ v,fin=.done (.ret v)/\Q v s') E s:=by
 show wpAny _ _ (field (.ref z) 2>>=_) _ _ _
 refine wpAny_bind (wpAny_field zz rfl (x:=.bool false) rfl ?_)
 show wpAny _ _ (field (.ref z) 3>>=_) _ _ _
 refine wpAny_bind (wpAny_field zz rfl (x:=.ref TI) rfl (wpAny_bind (wpAny_seqItems zI rfl ?_)))
 show wpAny _ _ (Builtin.SmallTypes.ownedTupleIsFree (.ref z)>>=_) _ _ _
 refine wpAny_bind ?_
 unfold Builtin.SmallTypes.ownedTupleIsFree
 refine wpAny_bind (wpAny_field zz rfl (x:=.none) rfl (wpAny_pure ?_))
 simp only [if_true]
 refine wpAny_bind (wpAny_rule (wpAny_bind (wpAny_field zz rfl (x:=.ref TO) rfl (wpAny_bind (wpAny_setField_rec zz (by simp) λ g1 zz1 s1=>?_)))))
 replace zz1:IsZip g1 z TI TO .ellipsis:=zz1
 refine wpAny_bind ?_
 simp only [List.zipIdx_cons,List.zipIdx_nil,List.forIn_cons,List.forIn_nil]
 refine wpAny_bind (wpAny_bind (wpAny_onRaise ?_))
 show wpAny _ _ (Builtin.SmallTypes.nextOf (.ref j1)>>=_) _ _ _
 refine wpAny_bind (pull (i1.extBut s1.extBut D.i1z) (l1.extBut s1.extBut D.l1z) ex λ g2 i1' s2=>wpAny_pure ?_)
 have zO2:IsPair g2 TO a b:=s2.extBut _ _ D.TOi1 (s1.extBut _ _ D.TOz zO)
 refine wpAny_bind (wpAny_seqItems zO2 rfl (wpAny_bind (wpAny_updateSeq_pair zO2 λ g3 zO3 s3=>?_)))
 replace zO3:IsPair g3 TO x b:=zO3
 refine wpAny_bind (wpAny_letGo (wpAny_pure (wpAny_bind (wpAny_bind (wpAny_onRaise ?_)))))
 show wpAny _ _ (Builtin.SmallTypes.nextOf (.ref j2)>>=_) _ _ _
 have i2':=((i2.extBut s1.extBut D.i2z).extBut s2.extBut D.i12.symm).extBut s3.extBut D.TOi2.symm
 have l2':=((l2.extBut s1.extBut D.l2z).extBut s2.extBut D.l2i1).extBut s3.extBut D.l2TO
 refine wpAny_bind (pull i2' l2' ey λ g4 i2'' s4=>wpAny_pure ?_)
 have zO4:IsPair g4 TO x b:=s4.extBut _ _ D.TOi2 zO3
 refine wpAny_bind (wpAny_seqItems zO4 rfl (wpAny_bind (wpAny_updateSeq_pair zO4 λ g5 zO5 s5=>?_)))
 replace zO5:IsPair g5 TO x y:=zO5
 refine wpAny_bind (wpAny_letGo (wpAny_pure (wpAny_pure (wpAny_bind (wpAny_seqItems zO5 rfl (wpAny_bind (wpAny_newTuple ?_)))))))
 have sz:g5.objs.size=s.heap.objs.size:=by rw [s5.1,s4.1,s3.1,s2.1,s1.1]
 have zz5:IsZip g5 z TI TO .ellipsis:=s5.extBut _ _ D.TOz.symm (s4.extBut _ _ D.i2z.symm (s3.extBut _ _ D.TOz.symm (s2.extBut _ _ D.i1z.symm zz1)))
 have up5 : ∀ c o,c≠z->c≠TO->c≠j1->c≠j2->s.heap.get? c=some o->g5.get? c=some o:=λ c o n1 n2 n3 n4 q' =>
  s5.extBut _ _ n2 (s4.extBut _ _ n4 (s3.extBut _ _ n2 (s2.extBut _ _ n3 (s1.extBut _ _ n1 q'))))
 have j15:g5.IsTupleIter j1 t1 (k+1):=((i1'.extBut s3.extBut D.TOi1.symm).extBut s4.extBut D.i12).extBut s5.extBut D.TOi1.symm
 have j25:g5.IsTupleIter j2 t2 (k+1):=i2''.extBut s5.extBut D.TOi2.symm
 have zlt:z<g5.objs.size:=Heap.lt_size zz5
 show wpAny _ _ (Builtin.SmallTypes.ownedTupleHandOut (.ref z) (.ref g5.objs.size)>>=_) _ _ _
 refine wpAny_bind ?_
 unfold Builtin.SmallTypes.ownedTupleHandOut
 have zz6:IsZip (g5.push { cls:=.type "tuple", data:=.seq #[x,y] }) z TI TO .ellipsis:=Heap.get?_push_of_some _ zz5
 refine wpAny_bind (wpAny_setField_rec zz6 (by simp) λ g7 zz7 s7=>?_)
 replace zz7:IsZip g7 z TI TO (rawInt g5.objs.size):=zz7
 refine wpAny_setField_rec zz7 (by simp) λ g8 zz8 s8=>?_
 replace zz8:IsZip g8 z TI TO (rawInt g5.objs.size):=zz8
 have up8 : ∀ c o,c≠z->g5.get? c=some o->g8.get? c=some o:=λ c o n1 q'=>s8.extBut _ _ n1 (s7.extBut _ _ n1 (Heap.get?_push_of_some _ q'))
 have new8:IsPair g8 g5.objs.size x y:=s8.extBut _ _ (Nat.ne_of_gt zlt) (s7.extBut _ _ (Nat.ne_of_gt zlt) (Heap.get?_push_size _ rfl))
 rw [sz] at zz8 new8
 refine wpAny_pure ⟨_,rfl,?_⟩
 show Q (.ref g5.objs.size) _
 rw [sz]
 refine q g8 zz8 (up8 _ _ D.TOz zO5) ?_ ?_ new8 λ c o n1 n2 n3 n4 q'=>up8 c o n1 (up5 c o n1 n2 n3 n4 q')
 ·obtain ⟨o,e,r⟩:=j15
  exact ⟨o,up8 _ _ D.i1z e,r⟩
 ·obtain ⟨o,e,r⟩:=j25
  exact ⟨o,up8 _ _ D.i2z e,r⟩
theorem zip_stop {z TI TO j1 j2 t1 t2:Addr} {k:Nat} {xs ys:Array Value} {a b:Value} {Q:Fin->Shared->Prop} (hd:Hd.In A s.heap) (D:ZipApart z TI TO j1 j2 t1 t2)
  (zz:IsZip s.heap z TI TO .none) (zI:IsPair s.heap TI (.ref j1) (.ref j2)) (zO:IsPair s.heap TO a b)
  (i1:s.heap.IsTupleIter j1 t1 k) (i2:s.heap.IsTupleIter j2 t2 k) (l1:s.heap.IsTuple t1 xs) (l2:s.heap.IsTuple t2 ys) (ee:xs[k]?=none\/ys[k]?=none)
  (q : ∀ g e,(∀ c o,c≠z->c≠TO->c≠j1->c≠j2->s.heap.get? c=some o->g.get? c=some o)->(∃ o,g.get? e=some o/\o.cls=.type "StopIteration")->E (.ref e) { s with heap:=g }) :
  wpAny (model prog w) A (Builtin.«zip.__next__» ⟨[.ref z],[]⟩) Q E s:=by
 show wpAny _ _ (field (.ref z) 2>>=_) _ _ _
 refine wpAny_bind (wpAny_field zz rfl (x:=.bool false) rfl ?_)
 show wpAny _ _ (field (.ref z) 3>>=_) _ _ _
 refine wpAny_bind (wpAny_field zz rfl (x:=.ref TI) rfl (wpAny_bind (wpAny_seqItems zI rfl ?_)))
 show wpAny _ _ (Builtin.SmallTypes.ownedTupleIsFree (.ref z)>>=_) _ _ _
 refine wpAny_bind ?_
 unfold Builtin.SmallTypes.ownedTupleIsFree
 refine wpAny_bind (wpAny_field zz rfl (x:=.none) rfl (wpAny_pure ?_))
 simp only [if_true]
 refine wpAny_bind (wpAny_rule (wpAny_bind (wpAny_field zz rfl (x:=.ref TO) rfl (wpAny_bind (wpAny_setField_rec zz (by simp) λ g1 zz1 s1=>?_)))))
 replace zz1:IsZip g1 z TI TO .ellipsis:=zz1
 refine wpAny_bind ?_
 simp only [List.zipIdx_cons,List.zipIdx_nil,List.forIn_cons,List.forIn_nil]
 refine wpAny_bind (wpAny_bind (wpAny_onRaise ?_))
 show wpAny _ _ (Builtin.SmallTypes.nextOf (.ref j1)>>=_) _ _ _
 have hd1:Hd.In A g1:=hd.but zz (λ vs e=>by injection e with e;subst e;exact λ z=>nomatch z) s1.extBut
 cases ex:xs[k]? with
 | none =>
  refine wpAny_bind (pull_end hd1 (i1.extBut s1.extBut D.i1z) (l1.extBut s1.extBut D.l1z) ex λ g2 e s2 ⟨oe,goe,coe⟩=>?_)
  have zz2:IsZip g2 z TI TO .ellipsis:=s2 _ _ D.i1z.symm zz1
  have nez:e≠z:=λ y=>by
   subst y
   rw [zz2] at goe
   cases goe
   simp at coe
  exact wpAny_setField_rec zz2 (by simp) λ g3 _ s3=>q g3 e (λ c o n1 _ n3 _ y=>s3.extBut _ _ n1 (s2 _ _ n3 (s1.extBut _ _ n1 y))) ⟨oe,s3.extBut _ _ nez goe,coe⟩
 | some x =>
  have ey:ys[k]?=none:=ee.resolve_left (by rw [ex];exact λ y=>nomatch y)
  refine wpAny_bind (pull (i1.extBut s1.extBut D.i1z) (l1.extBut s1.extBut D.l1z) ex λ g2 i1' s2=>wpAny_pure ?_)
  have zO2:IsPair g2 TO a b:=s2.extBut _ _ D.TOi1 (s1.extBut _ _ D.TOz zO)
  refine wpAny_bind (wpAny_seqItems zO2 rfl (wpAny_bind (wpAny_updateSeq_pair zO2 λ g3 zO3 s3=>?_)))
  refine wpAny_bind (wpAny_letGo (wpAny_pure (wpAny_bind (wpAny_bind (wpAny_onRaise ?_)))))
  show wpAny _ _ (Builtin.SmallTypes.nextOf (.ref j2)>>=_) _ _ _
  have i2':=((i2.extBut s1.extBut D.i2z).extBut s2.extBut D.i12.symm).extBut s3.extBut D.TOi2.symm
  have l2':=((l2.extBut s1.extBut D.l2z).extBut s2.extBut D.l2i1).extBut s3.extBut D.l2TO
  obtain ⟨oj,gj,_,dj⟩:=i1.extBut s1.extBut D.i1z
  have hd2:Hd.In A g2:=hd1.but gj (by rw [dj];exact Hd.two_no) s2.extBut
  have hd3:Hd.In A g3:=hd2.but zO2 (λ vs e=>nomatch e) s3.extBut
  refine wpAny_bind (pull_end hd3 i2' l2' ey λ g4 e s4 ⟨oe,goe,coe⟩=>?_)
  have zz4:IsZip g4 z TI TO .ellipsis:=s4 _ _ D.i2z.symm (s3.extBut _ _ D.TOz.symm (s2.extBut _ _ D.i1z.symm zz1))
  have nez:e≠z:=λ y=>by
   subst y
   rw [zz4] at goe
   cases goe
   simp at coe
  exact wpAny_setField_rec zz4 (by simp) λ g5 _ s5=>q g5 e (λ c o n1 n2 n3 n4 y=>s5.extBut _ _ n1 (s4 _ _ n4 (s3.extBut _ _ n2 (s2.extBut _ _ n3 (s1.extBut _ _ n1 y))))) ⟨oe,s5.extBut _ _ nez goe,coe⟩
theorem next_item {z TI TO j1 j2 t1 t2:Addr} {k:Nat} {xs ys:Array Value} {x y a b:Value} {Q:Option Value->Shared->Prop} (D:ZipApart z TI TO j1 j2 t1 t2)
  (zz:IsZip s.heap z TI TO .none) (zI:IsPair s.heap TI (.ref j1) (.ref j2)) (zO:IsPair s.heap TO a b)
  (i1:s.heap.IsTupleIter j1 t1 k) (i2:s.heap.IsTupleIter j2 t2 k) (l1:s.heap.IsTuple t1 xs) (l2:s.heap.IsTuple t2 ys) (ex:xs[k]?=some x) (ey:ys[k]?=some y)
  (q : ∀ g,IsZip g z TI TO (rawInt s.heap.objs.size)->IsPair g TO x y->g.IsTupleIter j1 t1 (k+1)->g.IsTupleIter j2 t2 (k+1)->IsPair g s.heap.objs.size x y ->
   (∀ c o,c≠z->c≠TO->c≠j1->c≠j2->s.heap.get? c=some o->g.get? c=some o)->Q (some (.ref s.heap.objs.size)) { s with heap:=g }):wpAny (model prog w) A (pyNext (.ref z)) Q E s:=by
 have ty:s.TypeIs (.ref z) "zip" := ⟨_,zz,rfl⟩
 unfold pyNext
 refine wpAny_bind (wpAny_attempt (wpAny_callSpecial?_slot (name:=Str.ofString "__next__") ty F.slot_zip_next (wpAny_call_entry F.slot_zip_next ty F.entry_zip_next ?_ (F.args_zip_next_1 _))))
 exact zip_item D zz zI zO i1 i2 l1 l2 ex ey λ g b1 b2 b3 b4 b5 b6=>wpAny_pure (q g b1 b2 b3 b4 b5 b6)
theorem next_stop {z TI TO j1 j2 t1 t2:Addr} {k:Nat} {xs ys:Array Value} {a b:Value} {Q:Option Value->Shared->Prop} (hd:Hd.In A s.heap) (D:ZipApart z TI TO j1 j2 t1 t2)
  (zz:IsZip s.heap z TI TO .none) (zI:IsPair s.heap TI (.ref j1) (.ref j2)) (zO:IsPair s.heap TO a b)
  (i1:s.heap.IsTupleIter j1 t1 k) (i2:s.heap.IsTupleIter j2 t2 k) (l1:s.heap.IsTuple t1 xs) (l2:s.heap.IsTuple t2 ys) (ee:xs[k]?=none\/ys[k]?=none)
  (q : ∀ g,(∀ c o,c≠z->c≠TO->c≠j1->c≠j2->s.heap.get? c=some o->g.get? c=some o)->Q none { s with heap:=g }):wpAny (model prog w) A (pyNext (.ref z)) Q E s:=by
 have ty:s.TypeIs (.ref z) "zip" := ⟨_,zz,rfl⟩
 unfold pyNext
 refine wpAny_bind (wpAny_attempt (wpAny_callSpecial?_slot (name:=Str.ofString "__next__") ty F.slot_zip_next (wpAny_call_entry F.slot_zip_next ty F.entry_zip_next ?_ (F.args_zip_next_1 _))))
 refine zip_stop hd D zz zI zO i1 i2 l1 l2 ee λ g e up ⟨oe,goe,coe⟩=>?_
 exact wpAny_bind (wpAny_isInstance (T := "StopIteration") (b:=true) ⟨oe,goe,coe⟩ isSubtype_stop (wpAny_pure (q _ up)))
end
abbrev mk1 (h:Heap) (t1:Addr):Heap:=h.push { cls:=.type "tuple_iterator", data:=.fields #[.ref t1,.int 0 0] }
abbrev mk2 (h:Heap) (t1 t2:Addr):Heap:=(mk1 h t1).push { cls:=.type "tuple_iterator", data:=.fields #[.ref t2,.int 0 0] }
abbrev mk3 (h:Heap) (t1 t2:Addr):Heap:=(mk2 h t1 t2).push { cls:=.type "tuple", data:=.seq #[.ref h.objs.size,.ref (mk1 h t1).objs.size] }
abbrev mk4 (h:Heap) (t1 t2:Addr):Heap:=(mk3 h t1 t2).push { cls:=.type "tuple", data:=.seq #[.none,.none] }
abbrev mk5 (h:Heap) (t1 t2:Addr):Heap:=(mk4 h t1 t2).push { cls:=.type "zip", data:=.fields #[.none,.bool false,.bool false,.ref (mk2 h t1 t2).objs.size,.ref (mk3 h t1 t2).objs.size] }
theorem meets_new (t1 t2:Addr) (xs ys:Array Value):Meets (Builtin.«zip.__new__» ⟨[.type "zip", .ref t1,.ref t2],[]⟩) (λ _ R s=>s.heap.IsTuple t1 xs/\s.heap.IsTuple t2 ys/\R (.ok (.ret (.ref (mk4 s.heap t1 t2).objs.size))) { s with heap:=mk5 s.heap t1 t2 }) :=
 .of_wp λ prog w A R s h=>by
  obtain ⟨hh,gg,dd,tt,oo⟩:=s
  obtain ⟨a1,a2,h⟩:=h
  have sub:=sub_zip
  have b1:Heap.IsTuple (Shared.heap ⟨hh,gg,dd,tt,oo⟩) t1 xs:=a1
  have b2:Heap.IsTuple (Shared.heap ⟨mk1 hh t1,gg,dd,tt,oo⟩) t2 ys:=Heap.IsTuple.push a2 _
  wp_walk using wpAny_pyIter_tuple b1,wpAny_pyIter_tuple b2
  exact ⟨_,rfl,h⟩
section
variable {prog:Program} {w:World} {A:Around} {E:Value->Shared->Prop} {s:Shared}
theorem make {t1 t2:Addr} {xs ys:Array Value} {Q:Value->Shared->Prop} (a1:s.heap.IsTuple t1 xs) (a2:s.heap.IsTuple t2 ys)
  (q : ∀ g,IsZip g (s.heap.objs.size+4) (s.heap.objs.size+2) (s.heap.objs.size+3) .none->IsPair g (s.heap.objs.size+2) (.ref s.heap.objs.size) (.ref (s.heap.objs.size+1))->IsPair g (s.heap.objs.size+3) .none .none ->
   g.IsTupleIter s.heap.objs.size t1 0->g.IsTupleIter (s.heap.objs.size+1) t2 0->(∀ c o,s.heap.get? c=some o->g.get? c=some o)->Q (.ref (s.heap.objs.size+4)) { s with heap:=g }) :
  wpAny (model prog w) A (call (.type "zip") [.ref t1,.ref t2]) Q E s:=by
 refine callType_new F.called_zip (by decide) (F.typeCall_zip_2 _ _) (F.newCall_zip_2 _ _) (λ obj=>F.args_object_init_3 obj _ _) F.entry_zip_new (meets_new t1 t2 xs ys) ⟨a1,a2,?_⟩
 have n1:(mk1 s.heap t1).objs.size=s.heap.objs.size+1:=Heap.size_push ..
 have n2:(mk2 s.heap t1 t2).objs.size=s.heap.objs.size+2:=by rw [Heap.size_push,n1]
 have n3:(mk3 s.heap t1 t2).objs.size=s.heap.objs.size+3:=by rw [Heap.size_push,n2]
 have n4:(mk4 s.heap t1 t2).objs.size=s.heap.objs.size+4:=by rw [Heap.size_push,n3]
 have p5:(mk5 s.heap t1 t2).get? (mk4 s.heap t1 t2).objs.size=some _:=Heap.get?_push_size _ rfl
 have p4:(mk5 s.heap t1 t2).get? (mk3 s.heap t1 t2).objs.size=some _:=Heap.get?_push_of_some _ (Heap.get?_push_size _ rfl)
 have p3:(mk5 s.heap t1 t2).get? (mk2 s.heap t1 t2).objs.size=some _:=Heap.get?_push_of_some _ (Heap.get?_push_of_some _ (Heap.get?_push_size _ rfl))
 have p2:(mk5 s.heap t1 t2).get? (mk1 s.heap t1).objs.size=some _:=Heap.get?_push_of_some _ (Heap.get?_push_of_some _ (Heap.get?_push_of_some _ (Heap.get?_push_size _ rfl)))
 have p1:(mk5 s.heap t1 t2).get? s.heap.objs.size=some _:=Heap.get?_push_of_some _ (Heap.get?_push_of_some _ (Heap.get?_push_of_some _ (Heap.get?_push_of_some _ (Heap.get?_push_size _ rfl))))
 show _/\_
 rw [n2,n3,n4] at p5
 rw [n1,n2] at p3
 rw [n3] at p4
 rw [n1] at p2
 rw [n4]
 exact ⟨⟨_,p5,rfl⟩,q _ p5 p3 p4 ⟨_,p1,rfl,rfl⟩ ⟨_,p2,rfl,rfl⟩ λ c o y=>Heap.get?_push_of_some _ (Heap.get?_push_of_some _ (Heap.get?_push_of_some _ (Heap.get?_push_of_some _ (Heap.get?_push_of_some _ y))))⟩
end
end Zt
namespace L2
open PySem PySem.Spec PyProof.Rows
def Itz (K:PySem.W.Frag) (a b:Addr):It :=
 ⟨λ i H => ∃ xs ys x y,SqT K H a xs/\SqT K H b ys/\xs[i]?=some x/\ys[i]?=some y,
 λ i H v H' => ∃ p,H p=none/\v=.ref p /\ ∃ x y,H'=upd H p (.tup [x,y]) /\ ∀ xs ys,SqT K H a xs->SqT K H b ys->xs[i]?=some x/\ys[i]?=some y,
 λ i H => ∃ xs ys,SqT K H a xs/\SqT K H b ys/\(xs.length<=i\/ys.length<=i)⟩
def tupleTg:Expr->Bool
 | .Tuple _ _ _=>true
 | _=>false
theorem Inv.turnedNew {X:Cx} {pins:List (Addr×Obj)} {σ:St} {H:Hp} {s:Shared} {h':Heap} {t':Nat} {L:List Addr} {p:Addr} {xs:List V} (I:Inv X pins σ H s) (k : ∀ b o,b∉L->s.heap.get? b=some o->h'.get? b=some o)
  (hf : ∀ b∈L,FpOk X pins H b) (hp:s.heap.objs.size<=p) (new:ObjOk X.prog X.w (upd H p (.tup xs)) h' p (.tup xs)):Inv X pins σ (upd H p (.tup xs)) { s with heap:=h',toks:=t' }:=by
 have hn:H p=none:=I.hok.fresh hp
 have ne : ∀ b o,s.heap.get? b=some o->b≠p:=λ b o e=>Nat.ne_of_lt (Nat.lt_of_lt_of_le (Heap.lt_size e) hp)
 have nit : ∀ b u,H b=some u->b∉L:=λ b u e z=>by rw [(hf b z).1] at e;cases e
 refine I.step (g':=s.gens) (d':=s.drawn) (ch:=L) (λ b hb=>?_) (λ b o _ _ hc e _=>k b o hc e) (λ b o _ _ hc e _=>⟨o.slots,k b o hc e⟩) (λ b o _ e n=>by rw [upd_ne (ne b o e)];exact n) (λ b o hc e=>⟨o,k b o hc e⟩)
  (λ b ys e=>by rw [upd_ne (ne_of_none e hn)];exact e) (λ b o u e=>by rw [upd_ne (ne_of_none e hn)];exact e) (λ b ps e=>⟨#[],by rw [upd_ne (ne_of_none e hn),e];simp⟩) (λ m hm=>?_) (λ b u e=>?_) I.bare
 ·obtain ⟨_,f1,_,f3,f4,f5⟩:=hf b hb
  exact ⟨f3,f1,f4,f5⟩
 ·obtain ⟨o,es,ep,ho,r⟩:=hm
  exact ⟨o,es,ep,k _ o (λ z=>(hf _ z).2.1 rfl) ho,r⟩
 ·by_cases hb:b=p
  ·subst hb
   rw [upd_same] at e
   cases e
   exact new
  ·rw [upd_ne hb] at e
   refine (I.hok b u e).stay (λ c v hc q=>k c v ?_ q) (λ c q=>by rw [upd_ne (ne_of_none q hn)];exact q) λ c ys q=>by rw [upd_ne (ne_of_none q hn)];exact q
   rcases hc with z | z
   ·rw [z];exact nit b u e
   ·exact nit c _ z
theorem Inv.turnedL {X:Cx} {pins:List (Addr×Obj)} {σ:St} {H:Hp} {s:Shared} {h':Heap} {t':Nat} {L:List Addr} (I:Inv X pins σ H s) (k : ∀ b o,b∉L->s.heap.get? b=some o->h'.get? b=some o)
  (hf : ∀ b∈L,FpOk X pins H b):Inv X pins σ H { s with heap:=h',toks:=t' }:=by
 have nit : ∀ b u,H b=some u->b∉L:=λ b u e z=>by rw [(hf b z).1] at e;cases e
 refine I.step (g':=s.gens) (d':=s.drawn) (ch:=L) (λ b hb=>?_) (λ b o _ _ hc e _=>k b o hc e) (λ b o _ _ hc e _=>⟨o.slots,k b o hc e⟩) (λ _ _ _ _ n=>n) (λ b o hc e=>⟨o,k b o hc e⟩) (λ _ _ e=>e) (λ _ _ _ e=>e) (λ b ps e=>⟨#[],by rw [e];simp⟩)
  (λ m hm=>?_) (λ b u e=>?_) I.bare
 ·obtain ⟨_,f1,_,f3,f4,f5⟩:=hf b hb
  exact ⟨f3,f1,f4,f5⟩
 ·obtain ⟨o,es,ep,ho,r⟩:=hm
  exact ⟨o,es,ep,k _ o (λ z=>(hf _ z).2.1 rfl) ho,r⟩
 ·refine (I.hok b u e).stay (λ c v hc q=>k c v ?_ q) (λ _ q=>q) λ _ _ q=>q
  rcases hc with z | z
  ·rw [z];exact nit b u e
  ·exact nit c _ z
theorem turn_zip {cm:Bool} {P:Program} {w:World} {K:PySem.W.Frag} {tg:Expr} (htg:tupleTg tg=true) {z TI TO j1 j2 a b:Addr} (D:ZipApart z TI TO j1 j2 a b) :
  Turn P w K cm tg (Itz K a b) [z,TO,j1,j2,TI] z (λ i h=>IsZip h z TI TO .none/\IsPair h TI (.ref j1) (.ref j2)/\(∃ u v,IsPair h TO u v)/\h.IsTupleIter j1 a i/\h.IsTupleIter j2 b i) where
 mem:=List.mem_cons_self
 obj:=λ i h st c hc=>by
  obtain ⟨h1,h2,⟨u,v,h3⟩,⟨o4,h4,_,d4⟩,⟨o5,h5,_,d5⟩⟩:=st
  have nof : ∀ {o:Obj} {vs:Array Value},o.data=.fields vs -> ∀ v,o.data≠.cell v:=λ e v q=>by rw [e] at q;cases q
  have nos : ∀ {o:Obj} {vs:Array Value} {n:Nat},o.data=.seq vs n -> ∀ v,o.data≠.cell v:=λ e v q=>by rw [e] at q;cases q
  simp only [List.mem_cons,List.not_mem_nil,or_false] at hc
  rcases hc with rfl | rfl | rfl | rfl | rfl
  ·exact ⟨_,h1,nof rfl⟩
  ·exact ⟨_,h3,nos rfl⟩
  ·exact ⟨_,h4,nof d4⟩
  ·exact ⟨_,h5,nof d5⟩
  ·exact ⟨_,h2,nos rfl⟩
 keep:=λ i h h' st k=>by
  obtain ⟨h1,h2,⟨u,v,h3⟩,⟨o4,h4,r4⟩,⟨o5,h5,r5⟩⟩:=st
  exact ⟨k _ (by simp) _ h1,k _ (by simp) _ h2,⟨u,v,k _ (by simp) _ h3⟩,⟨o4,k _ (by simp) _ h4,r4⟩,⟨o5,k _ (by simp) _ h5,r5⟩⟩
 item:=by
  intro X hP hw hK hkc hc i pins s σ H E I hf st hg
  subst hP hw hK
  obtain ⟨h1,h2,⟨u,v,h3⟩,h4,h5⟩:=st
  obtain ⟨xs,ys,x,y,qa,qb,hx,hy⟩:=hg
  obtain ⟨its,rv,pa,_⟩:=I.tuple qa
  obtain ⟨jts,rw',pb,_⟩:=I.tuple qb
  obtain ⟨ux,eux,rux⟩:=rv.get hx
  obtain ⟨uy,euy,ruy⟩:=rw'.get hy
  refine Zt.next_item D h1 h2 h3 h4 h5 (show s.heap.IsTuple a its.toArray from pa) (show s.heap.IsTuple b jts.toArray from pb) (x:=ux) (y:=uy) (by simpa using eux) (by simpa using euy) λ g b1 b2 b3 b4 b5 b6=>?_
  refine ⟨_,rfl,?_⟩
  have zlt:z<s.heap.objs.size:=Heap.lt_size h1
  cases tg with
  | Tuple es kk pp =>
   refine wpAny_letOwnedTupleGo_zip b1 λ g' c1 sb=>?_
   have new:IsPair g' s.heap.objs.size ux uy:=sb.extBut _ _ (Nat.ne_of_gt zlt) b5
   have I1:Inv X pins σ (upd H s.heap.objs.size (.tup [x,y])) { s with heap:=g' }:=by
    refine I.turnedNew (t':=s.toks) (L:=[z,TO,j1,j2,TI]) (λ c o hcn e=>?_) hf (Nat.le_refl _) ⟨by show 2<=sizeLine;decide,[ux,uy],.cons rux (.cons ruy .nil),⟨_,new,rfl,⟨0,rfl⟩,rfl⟩⟩
    simp only [List.mem_cons,List.not_mem_nil,or_false,not_or] at hcn
    exact sb.extBut c o hcn.1 (b6 c o hcn.1 hcn.2.1 hcn.2.2.1 hcn.2.2.2.1 e)
   have h2':IsPair g' TI (.ref j1) (.ref j2):=sb.extBut _ _ D.TIz (b6 _ _ D.TIz D.TITO D.TIi1 D.TIi2 h2)
   refine ⟨.ref s.heap.objs.size,_,I1,rfl,⟨_,I.fresh,rfl,x,y,rfl,λ xs' ys' q1 q2=>⟨by rw [I.tuple_inj q1 qa];exact hx,by rw [I.tuple_inj q2 qb];exact hy⟩⟩,⟨c1,h2',⟨_,_,sb.extBut _ _ D.TOz b2⟩,b3.extBut sb.extBut D.i1z,b4.extBut sb.extBut D.i2z⟩,λ c hcm=>?_⟩
   obtain ⟨o,eo,_⟩ : ∃ o,s.heap.get? c=some o/\True:=by
    simp only [List.mem_cons,List.not_mem_nil,or_false] at hcm
    rcases hcm with rfl | rfl | rfl | rfl | rfl
    ·exact ⟨_,h1,trivial⟩
    ·exact ⟨_,h3,trivial⟩
    ·obtain ⟨o4,g4,_⟩:=h4
     exact ⟨_,g4,trivial⟩
    ·obtain ⟨o5,g5,_⟩:=h5
     exact ⟨_,g5,trivial⟩
    ·exact ⟨_,h2,trivial⟩
   rw [upd_ne (Nat.ne_of_lt (Heap.lt_size eo))]
   exact (hf c hcm).1
  | _=>exact absurd (show false=true from htg) Bool.false_ne_true
 done:=by
  intro X hP hw hK hkc hc i pins s σ H E I hf st hg
  subst hP hw hK
  obtain ⟨h1,h2,⟨u,v,h3⟩,h4,h5⟩:=st
  obtain ⟨xs,ys,qa,qb,hl⟩:=hg
  obtain ⟨its,rv,pa,_⟩:=I.tuple qa
  obtain ⟨jts,rw',pb,_⟩:=I.tuple qb
  have e1:=rv.length
  have e2:=rw'.length
  refine Zt.next_stop (I.hin hc) D h1 h2 h3 h4 h5 (show s.heap.IsTuple a its.toArray from pa) (show s.heap.IsTuple b jts.toArray from pb) ?_ λ g up=>⟨rfl,?_⟩
  ·rcases hl with hl | hl
   ·exact .inl (by simp;omega)
   ·exact .inr (by simp;omega)
  ·refine I.turnedL (t':=s.toks) (L:=[z,TO,j1,j2,TI]) (λ c o hcn e=>?_) hf
   simp only [List.mem_cons,List.not_mem_nil,or_false,not_or] at hcn
   exact up c o hcn.1 hcn.2.1 hcn.2.2.1 hcn.2.2.2.1 e
 self:=λ _ _ _ _ _ st h=>wpAny_pyIter_zip st.1 h
section
variable {X:Cx} {tg:Expr}
def iZip (K:PySem.W.Frag) (ta:TA):TI:=λ σ H R=>ta σ H λ vs H1 => ∃ a b,vs=[.ref a,.ref b]/\(∃ xs,SqT K H1 a xs)/\(∃ ys,SqT K H1 b ys)/\R (Itz K a b) H1
theorem apart_new {n l1 l2:Addr} (h1:l1<n) (h2:l2<n):ZipApart (n+4) (n+2) (n+3) n (n+1) l1 l2:=zipApart_new h1 h2
theorem pi_zip {e1 e2:Expr} {ta:TA} {p pos:Pos} (htg:tupleTg tg=true) (hg:Gl X "zip") (hm:X.mg "zip" = none) (ha:PA X [e1,e2] ta) (hs:starEach [e1,e2] X.env=[(false,eval e1 X.env),(false,eval e2 X.env)]:=by rfl) (hs2:starEach [e2] X.env=[(false,eval e2 X.env)]:=by rfl)
  (hb:bootBuiltins "zip" = some (.type "zip"):=by decide +kernel):PI X tg (.Call (.Name "zip" p) [e1,e2] [] pos) (iZip X.K ta):=by
 intro pins s σ H R I h
 refine Call_ (ld_blt I hg hm hb (PyProof.Rows.callWith_type1 (thn (ha pos pins s σ H _ I h) λ us s1 ⟨vs,H1,I1,r1,q1⟩=>?_) (by rw [hs,hs2]) (by rw [hs2];rfl)))
 obtain ⟨a,b,e,⟨xs,qa⟩,⟨ys,qb⟩,q⟩:=q1
 subst e
 obtain ⟨u1,u2,rfl,ra,rb⟩:=vals2 r1
 cases ra
 cases rb
 obtain ⟨its,rv,pa,_⟩:=I1.tuple qa
 obtain ⟨jts,rw',pb,_⟩:=I1.tuple qb
 have la:a<s1.heap.objs.size:=by obtain ⟨o,e,_⟩:=pa;exact Heap.lt_size e
 have lb:b<s1.heap.objs.size:=by obtain ⟨o,e,_⟩:=pb;exact Heap.lt_size e
 refine Zt.make (show s1.heap.IsTuple a its.toArray from pa) (show s1.heap.IsTuple b jts.toArray from pb) λ g z1 z2 z3 z4 z5 up=>?_
 refine wpAny_pyIter_zip z1 ?_
 have I2:Inv X pins σ H1 { s1 with heap:=g }:=I1.kept (t':=s1.toks) up
 refine ⟨_,[s1.heap.objs.size+4,s1.heap.objs.size+3,s1.heap.objs.size,s1.heap.objs.size+1,s1.heap.objs.size+2],_,_,H1,rfl,I2,turn_zip htg (apart_new la lb),⟨z1,z2,⟨_,_,z3⟩,z4,z5⟩,λ c hc=>?_,q⟩
 have big:s1.heap.objs.size<=c:=by
  simp only [List.mem_cons,List.not_mem_nil,or_false] at hc
  rcases hc with rfl | rfl | rfl | rfl | rfl
  ·exact Nat.le_add_right _ _
  ·exact Nat.le_add_right _ _
  ·exact Nat.le_refl _
  ·exact Nat.le_add_right _ _
  ·exact Nat.le_add_right _ _
 exact I1.fpOk big (I1.hok.fresh big)
end
theorem for_zip {K:PySem.W.Frag} {a b:Addr} {xs ys:List V} {g:TG} {tb:TS} {D:Ends} {σ:St} {H:Hp} (Pv:Nat->St->Hp->Prop) (h0:Pv 0 σ H) (hl : ∀ i σ H,i<=min xs.length ys.length->Pv i σ H->SqT K H a xs/\SqT K H b ys)
  (hs : ∀ i x y p σ H,xs[i]?=some x->ys[i]?=some y->H p=none->Pv i σ H->g (.ref p) σ (upd H p (.tup [x,y])) λ σ2 H2=>tb { D with nx:=Pv (i+1),ct:=Pv (i+1),bk:=D.nx } σ2 H2) (hd : ∀ σ H,Pv (min xs.length ys.length) σ H->D.nx σ H) :
  ∃ W:Nat->Nat->St->Hp->Prop,(∃ m,W 0 m σ H) /\ ∀ i m σ H,W i m σ H ->
   ((Itz K a b).stop i H/\D.nx σ H)\/((Itz K a b).go i H /\ ∃ N:St->Hp->Prop,(∀ σ' H',N σ' H' -> ∃ m',m'<m/\W (i+1) m' σ' H') /\ ∀ x H',(Itz K a b).yld i H x H'->g x σ H' λ σ2 H2=>tb { D with nx:=N,ct:=N,bk:=D.nx } σ2 H2):=by
 refine ⟨λ i m σ H=>m=min xs.length ys.length - i/\i<=min xs.length ys.length/\Pv i σ H,⟨_,rfl,Nat.zero_le _,h0⟩,?_⟩
 rintro i m σ H ⟨rfl,hi,p⟩
 obtain ⟨qa,qb⟩:=hl i σ H hi p
 by_cases hlt:i<min xs.length ys.length
 ·have h1:i<xs.length:=by omega
  have h2:i<ys.length:=by omega
  refine .inr ⟨⟨xs,ys,xs[i],ys[i],qa,qb,by simp [h1],by simp [h2]⟩,Pv (i+1),λ σ' H' p'=>⟨min xs.length ys.length - (i+1),by omega,rfl,hlt,p'⟩,λ v H' yv=>?_⟩
  obtain ⟨q,hq,rfl,x,y,rfl,hxy⟩:=yv
  obtain ⟨ex,ey⟩:=hxy xs ys qa qb
  exact hs i x y q σ H ex ey hq p
 ·have e:i=min xs.length ys.length:=by omega
  refine .inl ⟨⟨xs,ys,qa,qb,by omega⟩,hd σ H (e ▸ p)⟩
end L2
namespace Tp
open PySem PyProof.Rows
open AutoSeq1 (wpAny_loadPart')
section
variable {prog:Program} {w:World} {A:Around} {E:Value->Shared->Prop} {s:Shared}
theorem gather {r:Addr} {a b c:Int} {t u v:Tok} {n:Nat} {Q:List Value->Shared->Prop} (hd:A.handled=none) (hr:IsRange s.heap r a b c t u v) (sm:Builtin.Range.small a b c=true) (hn:Builtin.Range.rangeSize a b c=n) (hl:n<=2 ^ 24)
  (q : ∀ (g:Heap) (tk:Nat) (acc:Array Value),(∀ b o,s.heap.get? b=some o->g.get? b=some o)->ItemsOf (λ i v => ∃ t,v=.int (a+i * c) t) acc n->Q acc.toList { s with heap:=g,toks:=tk }):wpAny (model prog w) A (collect (.ref r)) Q E s:=by
 unfold collect
 refine wpAny_bind (wpAny_runValue (codeAny_builtin F.entry_proto_collect ?_))
 rw [Around.under_plainId F.plain_proto_collect _]
 show wpAny _ A.in1 (newList []>>=λ l=>again (.builtin "list.__iadd__" ⟨[l,.ref r],[]⟩)) _ _ s
 refine wpAny_bind (wpAny_newObj_type (wpAny_pure ⟨plainId_quiet F.plain_list_iadd _,codeAny_builtin F.entry_list_iadd ?_⟩))
 rw [Around.under_plainId F.plain_list_iadd _]
 have new:(s.heap.push { cls:=.type "list", data:=.seq ([]:List Value).toArray }).get? s.heap.objs.size=some { cls:=.type "list", data:=.seq #[] 0 }:=Heap.get?_push_size _ rfl
 show wpAny _ A.in1 (Builtin.List.listExtendWith (.ref s.heap.objs.size) (.ref r) (.ref s.heap.objs.size)) _ _ _
 have last : ∀ (r':Result) (s':Shared),(∃ (g:Heap) (tk:Nat) (acc:Array Value) (k:Nat),r'=.ok (.ret (.ref s.heap.objs.size))/\s'={ s with heap:=g,toks:=tk }/\g.get? s.heap.objs.size=some { cls:=.type "list", dict:=none,data:=.seq acc k,slots:=#[] }/\(∀ b o,s.heap.get? b=some o->g.get? b=some o)/\ItemsOf (λ i v => ∃ t,v=.int (a+i * c) t) acc n) ->
   (match r' with
    | .ok (.ret v)=>wpAny (model prog w) A (match v with
      | Value.ref a=>do
       match (← load a).data with
        | Data.seq xs _=>pure xs.toList
        | _=>unsupported "internal:collect"
      | _=>unsupported "internal:collect") Q E s'
    | .ok _=>False
    | .error e=>E e s'):=by
  rintro r' s' ⟨g,tk,acc,k,rfl,rfl,got,up,ok⟩
  show wpAny _ A (load s.heap.objs.size>>=_) _ _ _
  exact wpAny_bind (wpAny_load got (wpAny_pure (q g tk acc up ok)))
 refine wpAny_mono (wpAny_extend_range (A:=A) (R:=λ r' s' => ∃ (g:Heap) (tk:Nat) (acc:Array Value) (k:Nat),r'=.ok (.ret (.ref s.heap.objs.size))/\s'={ s with heap:=g,toks:=tk }/\g.get? s.heap.objs.size=some { cls:=.type "list", dict:=none,data:=.seq acc k,slots:=#[] }/\(∀ b o,s.heap.get? b=some o->g.get? b=some o)/\ItemsOf (λ i v => ∃ t,v=.int (a+i * c) t) acc n)
  (s:={ s with heap:=s.heap.push { cls:=.type "list", data:=.seq ([]:List Value).toArray } }) hd (Heap.get?_push_of_some _ hr) sm hn hl s.heap.objs.size (.ref s.heap.objs.size) 0 new λ g tk acc k up got ok=>⟨g,tk,acc,k,rfl,rfl,got,λ b o e=>up b o (Nat.ne_of_lt (Heap.lt_size e)) (Heap.get?_push_of_some _ e),ok⟩) (λ fin s' h=>?_) (λ e s' h=>?_)
 ·cases fin with
  | done f=>exact last _ _ h
  | again c'=>exact ⟨h.1,codeAny_mono h.2 λ r' s'' h'=>last r' s'' h'⟩
 ·exact last _ _ h
theorem meets_range (r:Addr) (a b c:Int) (t u v:Tok) (n:Nat) (sm:Builtin.Range.small a b c=true) (hn:Builtin.Range.rangeSize a b c=n) (hl:n<=2 ^ 24) :
  Meets (Builtin.«tuple.__new__» ⟨[.type "tuple", .ref r],[]⟩) (λ A R s=>A.handled=none/\IsRange s.heap r a b c t u v /\ ∀ (g:Heap) (tk:Nat) (acc:Array Value),(∀ b o,s.heap.get? b=some o->g.get? b=some o)->ItemsOf (λ i v => ∃ t,v=.int (a+i * c) t) acc n ->
   R (.ok (.ret (.ref g.objs.size))) { s with heap:=g.push { cls:=.type "tuple", data:=.seq acc },toks:=tk }) :=
 .of_wp λ prog w A R s h=>by
  obtain ⟨hd,hr,h⟩:=h
  have sub:=sub_tuple_self
  have ini:=init_tuple_lookup
  have mad:=madeHere_tuple
  have ty:s.TypeIs (.ref r) "range" := ⟨_,hr,rfl⟩
  have hd1:A.in1.handled=none:=hd
  wp_walk using wpAny_typeOf ty,gather hd1 hr sm hn hl
  intro g tk acc up ok
  show wpAny _ _ (Builtin.Tuple.tupleExact acc.toList.toArray>>=λ v=>ret v) _ _ _
  unfold Builtin.Tuple.tupleExact
  refine wpAny_bind (wpAny_newObj_type (wpAny_pure ⟨_,rfl,?_⟩) (show acc.toList.toArray.size<=sizeLine by simp only [Array.toArray_toList];rw [ok.1,sizeLine_eq];omega))
  have e:acc.toList.toArray=acc:=by simp
  rw [e]
  exact h g tk acc up ok
theorem of_range {r:Addr} {a b c:Int} {t u v:Tok} {n:Nat} {Q:Value->Shared->Prop} (hd:A.handled=none) (hr:IsRange s.heap r a b c t u v) (sm:Builtin.Range.small a b c=true) (hn:Builtin.Range.rangeSize a b c=n) (hl:n<=2 ^ 24)
  (q : ∀ (g:Heap) (tk:Nat) (acc:Array Value),(∀ b o,s.heap.get? b=some o->g.get? b=some o)->ItemsOf (λ i v => ∃ t,v=.int (a+i * c) t) acc n->Q (.ref g.objs.size) { s with heap:=g.push { cls:=.type "tuple", data:=.seq acc },toks:=tk }) :
  wpAny (model prog w) A (call (.type "tuple") [.ref r]) Q E s :=
 callType_new F.called_tuple (by decide) (F.typeCall_tuple_1 _) (F.newCall_tuple_1 _) (λ obj=>F.args_object_init_2 obj _) F.entry_tuple_new (meets_range r a b c t u v n sm hn hl) ⟨hd,hr,λ g tk acc up ok=>⟨⟨_,Heap.get?_push_size _ rfl,rfl⟩,q g tk acc up ok⟩⟩
end
end Tp
namespace L2
open PySem PySem.Spec PyProof.Rows
section
variable {X:Cx}
theorem call_range:CallR X (.type "range") (λ xs H Q => ∃ n:Int,xs=[.int n] /\ ∀ p,H p=none->Q (.ref p) (upd H p (.rng 0 n))):=by
 intro pins s σ H xs us Q I r h
 obtain ⟨n,rfl,q⟩:=h
 obtain ⟨u,rfl,t,rfl⟩:=vals1 r
 refine call_range_1 ⟨.ref s.heap.objs.size,_,I.laid (a:=s.heap.objs.size) (o:=.rng 0 n) (λ _ _ e=>Heap.get?_push_of_some _ e) (Nat.le_refl _) ⟨_,_,_,Heap.get?_push_size _ rfl⟩,rfl,q _ I.fresh⟩
theorem vals_range : ∀ (its:List Value) (k:Nat),(∀ (i:Nat) v,its[i]?=some v -> ∃ t,v=Value.int ((k:Int)+i) t)->Vals ((List.range' k its.length).map λ i=>V.int ((i:Nat):Int)) its
 | [],_,_=>.nil
 | v::its,k,h=>by
  rw [List.length_cons,List.range'_succ,List.map_cons]
  refine .cons ?_ (vals_range its (k+1) λ i v' e=>?_)
  ·obtain ⟨t,e⟩:=h 0 v rfl
   exact ⟨t,by rw [e];simp⟩
  ·obtain ⟨t,q⟩:=h (i+1) v' (by simpa using e)
   exact ⟨t,by rw [q];congr 1;omega⟩
theorem call_tuple_range (hc:X.calm=true):CallR X (.type "tuple") (λ xs H Q => ∃ p n,xs=[.ref p]/\H p=some (.rng 0 n)/\0<=n/\n<=1000 /\ ∀ l,H l=none->Q (.ref l) (upd H l (.tup ((List.range n.toNat).map λ i=>V.int ((i:Nat):Int))))):=by
 intro pins s σ H xs us Q I r h
 obtain ⟨p,n,rfl,hp,h0,h1,q⟩:=h
 obtain ⟨u,rfl,ru⟩:=vals1 r
 cases ru
 obtain ⟨t,u,v,e⟩:=(show ObjOk X.prog X.w H s.heap p (.rng 0 n) from I.hok p _ hp)
 have hn:Builtin.Range.rangeSize 0 n 1=((n.toNat:Nat):Int):=by rw [rangeSize_one];split<;>omega
 refine Tp.of_range (I.ok.hd.1 hc) (show IsRange s.heap p 0 n 1 t u v from e) (small_one (by omega) (by omega) (by omega) (by omega)) hn (by omega) λ g tk acc up ok=>?_
 have I1:Inv X pins σ H { s with heap:=g,toks:=tk }:=I.kept up
 have hv:Vals ((List.range n.toNat).map λ i=>V.int ((i:Nat):Int)) acc.toList:=by
  have:=vals_range acc.toList 0 λ i v e=>by
   obtain ⟨t,q⟩:=ok.2 i v (by simpa using e)
   exact ⟨t,by rw [q];simp⟩
  rw [Array.length_toList,ok.1,<-List.range_eq_range'] at this
  exact this
 refine ⟨.ref g.objs.size,_,I1.laid (a:=g.objs.size) (t':=tk) (λ _ _ e=>Heap.get?_push_of_some _ e) (Nat.le_refl _) (show ObjOk X.prog X.w _ _ _ (.tup _) from ⟨?_,acc.toList,hv,?_⟩),rfl,q _ (I1.hok.fresh (Nat.le_refl _))⟩
 ·rw [List.length_map,List.length_range,sizeLine_eq];omega
 ·refine ⟨_,Heap.get?_push_size _ rfl,rfl,⟨0,?_⟩,rfl⟩
  simp
end
end L2
namespace Tp
open PySem PyProof.Rows
open AutoSeq1 (wpAny_loadPart')
end Tp
namespace HT
open PySem PyProof.Rows
section
variable {prog:Program} {w:World} {A:Around} {E:Value->Shared->Prop} {s:Shared}
theorem cut_whole {t sl:Addr} {items:Array Value} {vl vu:Value} {lo hi:Option Int} {Q:Value->Shared->Prop} (ht:IsTup s.heap t items) (hs:s.heap.IsSliceOf sl vl vu .none) (pl:IsPart vl lo) (pu:IsPart vu hi)
  (hw:sIx items.size 0 lo=0/\sIx items.size items.size hi=items.size) (h:Q (.ref t) s):wpAny (model prog w) A (getItem (.ref t) (.ref sl)) Q E s:=by
 obtain ⟨os,hos,hcs,hds⟩:=id hs
 have hTs:s.TypeIs (.ref sl) "slice" := ⟨os,hos,hcs⟩
 unfold getItem
 try with_reducible refine wpAny_holding ?_
 first | refine wpAny_bind (wpAny_pure ?_) | skip
 refine wpAny_bind (wpAny_sequenceKey ht.typeIs (by decide) ?_)
 refine wpAny_bind (wpAny_callSpecial?_slot (name:=Str.ofString "__getitem__") ht.typeIs PyProof.Rows.slot_tuple_getitem
  (wpAny_call_entry PyProof.Rows.slot_tuple_getitem ht.typeIs entry_tuple_getitem ?_ (args_tuple_getitem _ _)))
 show wpAny _ _ (Builtin.Tuple.tupleItemsOf (.ref t)>>=_) _ _ s
 refine wpAny_bind (tupleItemsOf_ ht ?_)
 refine wpAny_bind (wpAny_typeOf hTs ?_)
 rw [if_pos (by decide)]
 refine wpAny_bind (sliceApplied_gen hs pl pu ?_)
 have hyes:(((sIx items.size 0 lo:Nat):Int) == 0&&(1:Int) == 1&&(sIx items.size items.size hi - sIx items.size 0 lo) == items.size)=true:=by
  rw [hw.1,hw.2];simp
 show wpAny _ _ (if (((sIx items.size 0 lo:Nat):Int) == 0&&(1:Int) == 1&&(sIx items.size items.size hi - sIx items.size 0 lo) == items.size)=true then _ else _) _ _ s
 rw [if_pos hyes]
 obtain ⟨ot,got,cot,_⟩:=id ht
 unfold Builtin.Tuple.tupleIsExact
 refine wpAny_bind (wpAny_bind (wpAny_typeOf ht.typeIs (wpAny_pure ?_)))
 rw [if_pos (by decide)]
 exact wpAny_bind (wpAny_rule (wpAny_pure ⟨_,rfl,wpAny_pure h⟩))
end
end HT
namespace L2
open PySem PySem.Spec PyProof.Rows
section
variable {X:Cx}
def rSlW (K:PySem.W.Frag):V->Option Int->Option Int->Hp->VK->Prop:=λ x lo hi H Q => ∃ a xs,x=.ref a/\SqT K H a xs/\HT.sIx xs.length 0 lo=0/\HT.sIx xs.length xs.length hi=xs.length/\Q (.ref a) H
theorem sl_whole:SlR X (rSlW X.K):=by
 intro pins s σ H x v vl vu lo hi sl Q I rx hs pl pu h
 obtain ⟨a,xs,rfl,hx,w1,w2,q⟩:=h
 cases rx
 obtain ⟨its,r,ht,hz⟩:=I.tuple hx
 have hlen:its.toArray.size=xs.length:=by rw [List.size_toArray];exact r.length.symm
 exact ⟨"tuple", _,PyProof.Rows.slot_tuple_getitem.lookup,ht.typeIs,HT.cut_whole ht hs pl pu (by rw [hlen];exact ⟨w1,w2⟩) ⟨.ref a,H,I,rfl,q⟩⟩
theorem sl_tupA:SlR X (λ x lo hi H Q=>rSlT X.K x lo hi H Q\/rSlW X.K x lo hi H Q):=sl_tup.or sl_whole
end
def tDNew:TE:=λ _ H Q => ∀ p,H p=none->Q (.ref p) (upd H p (.dK []))
theorem Inv.bigM {X:Cx} {pins:List (Addr×Obj)} {σ:St} {H:Hp} {s:Shared} (I:Inv X pins σ H s):sysModules<s.heap.objs.size :=
 Nat.lt_trans (by decide) (I.mod.glob.keeps I.bk).lt
theorem pe_dnew {X:Cx} {pos:Pos}:PE X (.Dict [] [] pos) tDNew:=λ pins s σ H Q I h =>
 wpAny_Dict_empty ⟨.ref s.heap.objs.size,_,I.laid (a:=s.heap.objs.size) (o:=.dK []) (t':=s.toks) (λ _ _ q=>Heap.get?_push_of_some _ q) (Nat.le_refl _)
  ⟨Nat.zero_le _,beq_eq_false_iff_ne.mpr (Ne.symm (Nat.ne_of_lt I.bigM)),[],.nil,Heap.DictOf.new _⟩,rfl,h _ I.fresh⟩
theorem pe_ty {X:Cx} {x:Str} {T:String} {pos:Pos} (hg:Gl X x) (hm:X.mg x=none) (hv:bootBuiltins x=some (.type T)) (hn:x ≠ "__name__" := by decide) (hd:(x == ("__debug__" : Str))=false:=by decide):PE X (.Name x pos) (tC (.ty T)) :=
 pe_bltn (v:=.ty T) hg hm hv rfl hn hd
end L2
namespace Mth
def strip (p:Nat) (n:Nat):Nat:=if h:2<=p/\1<=n/\n % p=0 then strip p (n / p) else n
termination_by n
decreasing_by exact Nat.div_lt_self h.2.1 h.1
theorem strip_div {p n:Nat} (hp:2<=p) (hn:1<=n) (h:n % p=0):strip p n=strip p (n / p):=by
 conv=>lhs;unfold strip
 rw [dif_pos ⟨hp,hn,h⟩]
theorem strip_not {p n:Nat} (h:n % p≠0):strip p n=n:=by
 unfold strip
 rw [dif_neg (λ q=>h q.2.2)]
theorem div_pos_of {p n:Nat} (hn:1<=n) (h:n % p=0):1<=n / p:=by
 have e:=Nat.div_add_mod n p
 rw [h] at e
 rcases Nat.eq_zero_or_pos (n / p) with z | z
 ·rw [z] at e;omega
 ·exact z
theorem strip_pos {p:Nat} (hp:2<=p) : ∀ n:Nat,1<=n->1<=strip p n:=by
 intro n
 induction n using Nat.strongRecOn with
 | ind n ih =>
  intro hn
  by_cases h:n % p=0
  ·rw [strip_div hp hn h]
   exact ih _ (Nat.div_lt_self hn hp) (div_pos_of hn h)
  ·rw [strip_not h];exact hn
theorem strip_pow {p:Nat} (hp:2<=p) {m:Nat} (hm:1<=m) : ∀ e:Nat,strip p (p ^ e * m)=strip p m:=by
 intro e
 induction e with
 | zero=>rw [Nat.pow_zero,Nat.one_mul]
 | succ e ih =>
  have h1:p ^ (e+1) * m=p * (p ^ e * m):=by rw [Nat.pow_succ,Nat.mul_comm (p ^ e) p,Nat.mul_assoc]
  have hpos:1<=p ^ e * m:=Nat.mul_pos (Nat.pow_pos (by omega)) hm
  have h2:1<=p * (p ^ e * m):=Nat.mul_pos (by omega) hpos
  rw [h1,strip_div hp h2 (Nat.mul_mod_right _ _),Nat.mul_div_cancel_left _ (by omega)]
  exact ih
def primes:List Nat:=[2,3,5,7,11,13,17,19,23,29]
def stripL (ps:List Nat) (n:Nat):Nat:=ps.foldl (λ m p=>strip p m) n
def stripAll (n:Nat):Nat:=stripL primes n
theorem stripL_pos : ∀ (ps:List Nat),(∀ p∈ps,2<=p) -> ∀ n,1<=n->1<=stripL ps n
 | [],_,_,h=>h
 | p::ps,hp,n,h=>stripL_pos ps (λ q hq=>hp q (List.mem_cons_of_mem _ hq)) _ (strip_pos (hp p List.mem_cons_self) n h)
theorem two_le : ∀ p∈primes,2<=p:=by decide
def noShare (a b:Nat):Bool:=primes.all λ p=>a % p != 0||b % p != 0
theorem noShare_iff {a b:Nat}:noShare a b=true ↔ ∀ p∈primes,¬ (p∣a/\p∣b):=by
 unfold noShare
 rw [List.all_eq_true]
 constructor
 ·intro h p hp ⟨h1,h2⟩
  have:=h p hp
  rw [Nat.mod_eq_zero_of_dvd h1,Nat.mod_eq_zero_of_dvd h2] at this
  exact absurd this (by decide)
 ·intro h p hp
  by_cases h1:a % p=0
  ·by_cases h2:b % p=0
   ·exact absurd ⟨Nat.dvd_of_mod_eq_zero h1,Nat.dvd_of_mod_eq_zero h2⟩ (h p hp)
   ·simp [h2]
  ·simp [h1]
def prodR:List Nat->List Nat->Nat
 | p::ps,e::es=>p ^ e * prodR ps es
 | _,_=>1
theorem prodR_pos : ∀ (ps es:List Nat),(∀ p∈ps,2<=p)->1<=prodR ps es
 | [],_,_=>Nat.le_refl _
 | _::_,[],_=>Nat.le_refl _
 | p::ps,e::es,h=>Nat.mul_pos (Nat.pow_pos (by have:=h p List.mem_cons_self;omega)) (prodR_pos ps es λ q hq=>h q (List.mem_cons_of_mem _ hq))
theorem cop_prodR {p:Nat} : ∀ (ps es:List Nat),(∀ q∈ps,Nat.Coprime p q)->Nat.Coprime p (prodR ps es)
 | [],_,_=>Nat.coprime_one_right p
 | _::_,[],_=>Nat.coprime_one_right p
 | q::ps,e::es,h=>Nat.Coprime.mul_right (Nat.Coprime.pow_right e (h q List.mem_cons_self)) (cop_prodR ps es λ r hr=>h r (List.mem_cons_of_mem _ hr))
theorem not_mod_of_cop {p n:Nat} (hp:2<=p) (c:Nat.Coprime p n):n % p≠0:=λ h=>by
 have:=c.eq_one_of_dvd (Nat.dvd_of_mod_eq_zero h)
 omega
theorem strip_one {p:Nat} (hp:2<=p):strip p 1=1:=strip_not (by rw [Nat.mod_eq_of_lt (by omega)];decide)
theorem stripL_one : ∀ (ps:List Nat),(∀ p∈ps,2<=p)->stripL ps 1=1
 | [],_=>rfl
 | p::ps,h=>by
  show stripL ps (strip p 1)=1
  rw [strip_one (h p List.mem_cons_self)]
  exact stripL_one ps λ q hq=>h q (List.mem_cons_of_mem _ hq)
theorem stripL_prodR : ∀ (ps es:List Nat),(∀ p∈ps,2<=p)->ps.Pairwise Nat.Coprime->stripL ps (prodR ps es)=1
 | [],_,_,_=>rfl
 | p::ps,[],h,_=>stripL_one (p::ps) h
 | p::ps,e::es,h,c=>by
  have hp:=h p List.mem_cons_self
  have ht : ∀ q∈ps,2<=q:=λ q hq=>h q (List.mem_cons_of_mem _ hq)
  have c':=List.pairwise_cons.mp c
  show stripL ps (strip p (p ^ e * prodR ps es))=1
  rw [strip_pow hp (prodR_pos ps es ht),strip_not (not_mod_of_cop hp (cop_prodR ps es c'.1))]
  exact stripL_prodR ps es ht c'.2
theorem primes_cop:primes.Pairwise Nat.Coprime:=by decide
def prod (es:List Nat):Nat:=prodR primes es
theorem prod_pos (es:List Nat):1<=prod es:=prodR_pos _ _ two_le
theorem stripAll_prod (es:List Nat):stripAll (prod es)=1:=stripL_prodR _ _ two_le primes_cop
theorem cop_at {p:Nat} : ∀ (ps es:List Nat) (k:Nat),ps.Pairwise Nat.Coprime->ps[k]?=some p->es.getD k 0=0->Nat.Coprime p (prodR ps es)
 | [],_,_,_,h,_=>by simp at h
 | _::_,[],_,_,_,_=>Nat.coprime_one_right p
 | q::ps,e::es,0,c,h,h0=>by
  simp at h h0
  subst h;subst h0
  show Nat.Coprime q (q ^ 0 * prodR ps es)
  rw [Nat.pow_zero,Nat.one_mul]
  exact cop_prodR ps es (List.pairwise_cons.mp c).1
 | q::ps,e::es,k+1,c,h,h0=>by
  have c':=List.pairwise_cons.mp c
  have h':ps[k]?=some p:=by simpa using h
  have hm:p∈ps:=List.mem_of_getElem? h'
  refine Nat.Coprime.mul_right (Nat.Coprime.pow_right e (Nat.Coprime.symm (c'.1 p hm))) ?_
  exact cop_at ps es k c'.2 h' (by simpa using h0)
theorem noShare_prod {es fs:List Nat} (h : ∀ k,es.getD k 0=0\/fs.getD k 0=0):noShare (prod es) (prod fs)=true:=by
 rw [noShare_iff]
 intro p hp ⟨h1,h2⟩
 obtain ⟨k,hk⟩:=List.getElem?_of_mem hp
 have tp:=two_le p hp
 rcases h k with e | e
 ·have:=(cop_at primes es k primes_cop hk e).eq_one_of_dvd h1;omega
 ·have:=(cop_at primes fs k primes_cop hk e).eq_one_of_dvd h2;omega
theorem prodR_le : ∀ (ps es:List Nat),(∀ p∈ps,p<=29)->prodR ps es<=29 ^ es.sum
 | [],_,_=>Nat.pow_pos (by decide)
 | _::_,[],_=>Nat.le_refl _
 | p::ps,e::es,h=>by
  rw [List.sum_cons,Nat.pow_add]
  exact Nat.mul_le_mul (Nat.pow_le_pow_left (h p List.mem_cons_self) e) (prodR_le ps es λ q hq=>h q (List.mem_cons_of_mem _ hq))
theorem prod_le (es:List Nat):prod es<=29 ^ es.sum:=prodR_le primes es (by decide)
def termB (i:Int):Bool:=decide (1<=i)&&decide (i<=1000000000000)&&decide (stripAll i.toNat=1)
def fracB (i j:Int):Bool:=termB i&&termB j&&noShare i.toNat j.toNat
theorem termB_prod {es:List Nat} (h:es.sum<=3):termB (prod es:Nat)=true:=by
 unfold termB
 have h1:=prod_pos es
 have h2:=prod_le es
 have h3:29 ^ es.sum<=29 ^ 3:=Nat.pow_le_pow_right (by decide) h
 have h4:(29:Nat) ^ 3=24389:=by decide
 rw [Bool.and_eq_true,Bool.and_eq_true,decide_eq_true_iff,decide_eq_true_iff,decide_eq_true_iff]
 refine ⟨⟨by omega,by omega⟩,?_⟩
 rw [Int.toNat_natCast]
 exact stripAll_prod es
theorem fracB_prod {es fs:List Nat} (h1:es.sum<=3) (h2:fs.sum<=3) (h : ∀ k,es.getD k 0=0\/fs.getD k 0=0):fracB (prod es:Nat) (prod fs:Nat)=true:=by
 unfold fracB
 rw [termB_prod h1,termB_prod h2,Int.toNat_natCast,Int.toNat_natCast,noShare_prod h]
 rfl
def ups (xs:List Int):List Nat:=xs.map Int.toNat
def downs (xs:List Int):List Nat:=xs.map λ x=>(-x).toNat
theorem ups_or_downs (xs:List Int) (k:Nat):(ups xs).getD k 0=0\/(downs xs).getD k 0=0:=by
 unfold ups downs
 rw [List.getD_eq_getElem?_getD,List.getD_eq_getElem?_getD,List.getElem?_map,List.getElem?_map]
 cases xs[k]? with
 | none=>exact .inl rfl
 | some x=>simp;omega
theorem sum_set_le : ∀ (xs:List Nat) (k:Nat) (v:Nat),(xs.set k v).sum+xs.getD k 0<=xs.sum+v
 | [],k,v=>by simp
 | x::xs,0,v=>by simp;omega
 | x::xs,k+1,v=>by
  have:=sum_set_le xs k v
  simp only [List.set_cons_succ,List.sum_cons,List.getD_cons_succ]
  omega
theorem ups_up {xs:List Int} {k:Nat} {x:Int} (h:xs[k]?=some x):(ups (xs.set k (x+1))).sum<=(ups xs).sum+1:=by
 have q:=sum_set_le (ups xs) k (x+1).toNat
 have e:(ups xs).getD k 0=x.toNat:=by unfold ups;rw [List.getD_eq_getElem?_getD,List.getElem?_map,h];rfl
 rw [e] at q
 have e2:ups (xs.set k (x+1))=(ups xs).set k (x+1).toNat:=by unfold ups;rw [List.map_set]
 rw [e2]
 omega
theorem ups_down {xs:List Int} {k:Nat} {x:Int} (h:xs[k]?=some x):(ups (xs.set k (x - 1))).sum<=(ups xs).sum:=by
 have q:=sum_set_le (ups xs) k (x - 1).toNat
 have e:(ups xs).getD k 0=x.toNat:=by unfold ups;rw [List.getD_eq_getElem?_getD,List.getElem?_map,h];rfl
 rw [e] at q
 have e2:ups (xs.set k (x - 1))=(ups xs).set k (x - 1).toNat:=by unfold ups;rw [List.map_set]
 rw [e2]
 omega
theorem downs_down {xs:List Int} {k:Nat} {x:Int} (h:xs[k]?=some x):(downs (xs.set k (x - 1))).sum<=(downs xs).sum+1:=by
 have q:=sum_set_le (downs xs) k (-(x - 1)).toNat
 have e:(downs xs).getD k 0=(-x).toNat:=by unfold downs;rw [List.getD_eq_getElem?_getD,List.getElem?_map,h];rfl
 rw [e] at q
 have e2:downs (xs.set k (x - 1))=(downs xs).set k (-(x - 1)).toNat:=by unfold downs;rw [List.map_set]
 rw [e2]
 omega
theorem downs_up {xs:List Int} {k:Nat} {x:Int} (h:xs[k]?=some x):(downs (xs.set k (x+1))).sum<=(downs xs).sum:=by
 have q:=sum_set_le (downs xs) k (-(x+1)).toNat
 have e:(downs xs).getD k 0=(-x).toNat:=by unfold downs;rw [List.getD_eq_getElem?_getD,List.getElem?_map,h];rfl
 rw [e] at q
 have e2:downs (xs.set k (x+1))=(downs xs).set k (-(x+1)).toNat:=by unfold downs;rw [List.map_set]
 rw [e2]
 omega
theorem frac_of_row {xs:List Int} (h1:(ups xs).sum<=3) (h2:(downs xs).sum<=3):fracB (prod (ups xs):Nat) (prod (downs xs):Nat)=true:=fracB_prod h1 h2 (ups_or_downs xs)
end Mth
namespace L2
open PySem PySem.Spec PyProof.Rows
theorem pe_globC {X:Cx} {x:Str} {i:Int} {pos:Pos} (hg:Gl X x) (hm : ∃ t,X.mg x=some (.int i t)) (hd:(x == ("__debug__" : Str))=false:=by decide):PE X (.Name x pos) (tC (.int i)):=by
 obtain ⟨t,h⟩:=hm
 exact pe_glob hg h ⟨t,rfl⟩ hd
theorem pe_globS {X:Cx} {x:Str} {i:Str} {pos:Pos} (hg:Gl X x) (hm : ∃ t,X.mg x=some (.str i t)) (hd:(x == ("__debug__" : Str))=false:=by decide):PE X (.Name x pos) (tC (.str i)):=by
 obtain ⟨t,h⟩:=hm
 exact pe_glob hg h ⟨t,rfl⟩ hd
def relN (sc osc:Scope):List (Str×NameKind):=sc.names.map λ (n,k)=>if (k == .free&&osc.kind == .function&&osc.names.lookup n == some .cell) then (n,.cell) else (n,k)
def ksOf (sc:Scope):List Str:=((sc.names.filter (λ p=>p.2 == .free)).reverse).map (·.1)
def compChk (sc osc:Scope) (N XN:List Str) (js:List (Option Nat)):Bool :=
 sc.names.all (λ y=>y.2 != .cell)&&decide (sc.kind=.function)&&sc.names.all (λ y=>y.2 != .local||sc.names.lookup y.1 == some .local) &&
 (relN sc osc).all (λ p => !(p.2 == .cell||p.2 == .free)||(ksOf sc).contains p.1)&&js.length == N.length &&
 (List.range N.length).all λ i=>match js[i]?,N[i]? with
  | some (some j),some x=>XN[j]? == some x&&osc.names.lookup x == some .cell&&((relN sc osc).lookup x == some .cell||(relN sc osc).lookup x == some .free)
  | _,_=>true
theorem mem_of_lookup {α β : Type} [BEq α] [LawfulBEq α] : ∀ {l:List (α × β)} {x : α} {c : β},l.lookup x=some c->(x,c)∈l
 | [],_,_,h=>by simp at h
 | (y,d)::r,x,c,h=>by
  rw [List.lookup_cons] at h
  cases e:(x == y) with
  | true =>
   rw [e] at h
   cases h
   rw [eq_of_beq e]
   exact List.mem_cons_self
  | false =>
   rw [e] at h
   exact List.mem_cons_of_mem _ (mem_of_lookup h)
theorem lookup_of_key {α β : Type} [BEq α] [LawfulBEq α] : ∀ {l:List (α × β)} {x : α},x∈l.map (·.1) -> ∃ c,l.lookup x=some c
 | [],_,h=>by cases h
 | (y,d)::r,x,h=>by
  rw [List.lookup_cons]
  cases e:(x == y) with
  | true=>exact ⟨d,rfl⟩
  | false =>
   rcases List.mem_cons.mp h with z | z
   ·rw [z] at e;simp at e
   ·exact lookup_of_key z
theorem compOk_of {X:Cx} {sc osc:Scope} {cl:List (Str×Addr)} {N XN:List Str} {js:List (Option Nat)} (ho:X.env.scope=osc) (clos:closureFor sc X.env=pure cl) (hk:cl.map (·.1)=ksOf sc)
  (hsub : ∀ p∈cl,X.env.cells.lookup p.1=some p.2) (chk:compChk sc osc N XN js=true) (hN:X.N=XN):CompOk X sc cl N js:=by
 unfold compChk at chk
 simp only [Bool.and_eq_true] at chk
 obtain ⟨⟨⟨⟨⟨h1,h2⟩,h3⟩,h4⟩,h5⟩,h6⟩:=chk
 have er:(relabel sc X.env).names=relN sc osc:=by
  unfold relabel relN Env.kindOf
  rw [ho]
 refine ⟨clos,?_,of_decide_eq_true h2,?_,?_,?_,eq_of_beq h5,?_⟩
 ·intro y hy
  have:=List.all_eq_true.mp h1 y hy
  simpa using this
 ·intro y hy hl
  have:=List.all_eq_true.mp h3 y hy
  rw [hl] at this
  simpa using this
 ·intro x c h
  exact hsub (x,c) (mem_of_lookup h)
 ·intro x h
  rw [er] at h
  refine lookup_of_key ?_
  rw [hk]
  rcases h with h | h
  all_goals
   have:=List.all_eq_true.mp h4 _ (mem_of_lookup h)
   simpa using this
 ·intro i j x hNi hj
  have hi:i<N.length:=(List.getElem?_eq_some_iff.mp hNi).1
  have:=List.all_eq_true.mp h6 i (List.mem_range.mpr hi)
  rw [hj,hNi] at this
  simp only [Bool.and_eq_true,Bool.or_eq_true] at this
  obtain ⟨⟨a,b⟩,c⟩:=this
  refine ⟨?_,?_,?_⟩
  ·rw [hN];exact eq_of_beq a
  ·rw [ho];exact eq_of_beq b
  ·rw [er]
   rcases c with c | c
   ·exact .inl (eq_of_beq c)
   ·exact .inr (eq_of_beq c)
end L2
namespace W2
open PySem L2
structure Df (K:PySem.W.Frag) (mg:Str->Option Value) (x:Str) (st:Stmt) (ps:List Str) (f:Addr) (fd:FuncData):Prop where
 fn:Fun K x x st f fd
 at_:mg x=some (.ref f)
 bd:Binds K fd ps []
theorem b_len:bootBuiltins "len" = some (.builtin "len"):=PySem.boot_len
theorem b_isinstance:bootBuiltins "isinstance" = some (.builtin "isinstance"):=by decide +kernel
theorem b_int:bootBuiltins "int" = some (.type "int"):=by decide +kernel
theorem b_bool:bootBuiltins "bool" = some (.type "bool"):=by decide +kernel
theorem b_tuple:bootBuiltins "tuple" = some (.type "tuple"):=by decide +kernel
theorem b_str:bootBuiltins "str" = some (.type "str"):=by decide +kernel
theorem b_range:bootBuiltins "range" = some (.type "range"):=by decide +kernel
theorem b_max:bootBuiltins "max" = some (.builtin "max"):=by decide +kernel
theorem b_min:bootBuiltins "min" = some (.builtin "min"):=by decide +kernel
theorem b_all:bootBuiltins "all" = some (.builtin "all"):=by decide +kernel
def kindV (H:Hp):V->Prop
 | .non=>True
 | .bl _=>True
 | .int _=>True
 | .str _=>True
 | .ref a=>(∃ xs,H a=some (.tup xs))\/(∃ xs,H a=some (.lst xs))\/(∃ kvs,H a=some (.dK kvs))
 | _=>False
def tupO:Option HO->Option (List V)
 | some (.tup xs)=>some xs
 | _=>none
def isT (H:Hp):V->Option (List V)
 | .ref a=>tupO (H a)
 | _=>none
theorem isT_ref {H:Hp} {a:Addr} {xs:List V} (h:H a=some (.tup xs)):isT H (.ref a)=some xs:=by
 show tupO (H a)=_
 rw [h]
 rfl
theorem isT_some {H:Hp} {v:V} {xs:List V} (h:isT H v=some xs) : ∃ a,v=.ref a/\H a=some (.tup xs):=by
 cases v with
 | ref a =>
  refine ⟨a,rfl,?_⟩
  have h':tupO (H a)=some xs:=h
  cases e:H a with
  | none=>rw [e] at h';cases h'
  | some o =>
   rw [e] at h'
   cases o<;>first | (cases h';rfl) | cases h'
 | _=>cases h
def isI:V->Bool
 | .int _=>true
 | .bl _=>true
 | _=>false
def isB:V->Bool
 | .bl _=>true
 | _=>false
def isW:V->Bool
 | .int _=>true
 | _=>false
theorem isW_eq (v:V):(isI v && !isB v)=isW v:=by cases v<;>rfl
theorem isW_int {v:V} (h:isW v=true) : ∃ i,v=.int i:=by
 cases v with
 | int i=>exact ⟨i,rfl⟩
 | _=>cases h
section
variable {K:PySem.W.Frag} {H:Hp} {v:V}
theorem isi_T (k:kindV H v) : ∃ t,TyOf K H v t/\PySem.W.kitOne K t (.type "tuple")=some (isT H v).isSome:=by
 cases v with
 | non=>exact ⟨_,.non,by kernel_rfl⟩
 | bl b=>exact ⟨_,.bl b,by kernel_rfl⟩
 | int i=>exact ⟨_,.int i,by kernel_rfl⟩
 | str x=>exact ⟨_,.str x,by kernel_rfl⟩
 | ref a =>
  rcases (show (∃ xs,H a=some (.tup xs))\/(∃ xs,H a=some (.lst xs))\/(∃ kvs,H a=some (.dK kvs)) from k) with ⟨xs,e⟩ | ⟨xs,e⟩ | ⟨kvs,e⟩
  ·exact ⟨_,.tup e,by rw [isT_ref e];kernel_rfl⟩
  ·refine ⟨_,.lst e,?_⟩
   show _=some (tupO (H a)).isSome
   rw [e]
   kernel_rfl
  ·refine ⟨_,.dK e,?_⟩
   show _=some (tupO (H a)).isSome
   rw [e]
   kernel_rfl
 | _=>exact False.elim k
theorem isi_I (k:kindV H v) : ∃ t,TyOf K H v t/\PySem.W.kitOne K t (.type "int")=some (isI v):=by
 cases v with
 | non=>exact ⟨_,.non,by kernel_rfl⟩
 | bl b=>exact ⟨_,.bl b,by kernel_rfl⟩
 | int i=>exact ⟨_,.int i,by kernel_rfl⟩
 | str x=>exact ⟨_,.str x,by kernel_rfl⟩
 | ref a =>
  rcases (show (∃ xs,H a=some (.tup xs))\/(∃ xs,H a=some (.lst xs))\/(∃ kvs,H a=some (.dK kvs)) from k) with ⟨xs,e⟩ | ⟨xs,e⟩ | ⟨kvs,e⟩
  ·exact ⟨_,.tup e,by kernel_rfl⟩
  ·exact ⟨_,.lst e,by kernel_rfl⟩
  ·exact ⟨_,.dK e,by kernel_rfl⟩
 | _=>exact False.elim k
theorem isi_B (k:kindV H v) : ∃ t,TyOf K H v t/\PySem.W.kitOne K t (.type "bool")=some (isB v):=by
 cases v with
 | non=>exact ⟨_,.non,by kernel_rfl⟩
 | bl b=>exact ⟨_,.bl b,by kernel_rfl⟩
 | int i=>exact ⟨_,.int i,by kernel_rfl⟩
 | str x=>exact ⟨_,.str x,by kernel_rfl⟩
 | ref a =>
  rcases (show (∃ xs,H a=some (.tup xs))\/(∃ xs,H a=some (.lst xs))\/(∃ kvs,H a=some (.dK kvs)) from k) with ⟨xs,e⟩ | ⟨xs,e⟩ | ⟨kvs,e⟩
  ·exact ⟨_,.tup e,by kernel_rfl⟩
  ·exact ⟨_,.lst e,by kernel_rfl⟩
  ·exact ⟨_,.dK e,by kernel_rfl⟩
 | _=>exact False.elim k
end
theorem Same.kind {H H':Hp} (s:Same H H') {v:V} (k:kindV H v):kindV H' v:=by
 cases v with
 | ref a =>
  rcases (show (∃ xs,H a=some (.tup xs))\/(∃ xs,H a=some (.lst xs))\/(∃ kvs,H a=some (.dK kvs)) from k) with ⟨xs,e⟩ | ⟨xs,e⟩ | ⟨kvs,e⟩
  ·exact .inl ⟨xs,s _ _ e⟩
  ·exact .inr (.inl ⟨xs,s _ _ e⟩)
  ·exact .inr (.inr ⟨kvs,s _ _ e⟩)
 | non=>trivial
 | bl b=>trivial
 | int i=>trivial
 | str x=>trivial
 | byt b=>exact False.elim k
 | flt b=>exact False.elim k
 | ty b=>exact False.elim k
def But (a:Addr) (H H':Hp):Prop := ∀ b o,b≠a->H b=some o->H' b=some o
theorem But.refl (a:Addr) (H:Hp):But a H H:=λ _ _ _ h=>h
theorem But.trans {a:Addr} {H H1 H2:Hp} (x:But a H H1) (y:But a H1 H2):But a H H2:=λ b o n h=>y b o n (x b o n h)
theorem But.of {a:Addr} {H H':Hp} (x:Same H H'):But a H H':=λ b o _ h=>x b o h
theorem But.free {a:Addr} {H H':Hp} (x:But a H H') {p:Addr} (h:H' p=none) (hp:p≠a):H p=none:=by
 cases q:H p with
 | none=>rfl
 | some o=>rw [x p o hp q] at h;cases h
theorem But.free' {a:Addr} {H H':Hp} (x:But a H H') {o:HO} (ha:H' a=some o) {p:Addr} (h:H' p=none):H p=none :=
 x.free h λ z=>by rw [z,ha] at h;cases h
theorem But.upd {a:Addr} {H:Hp} {o:HO}:But a H (upd H a o):=λ b q n h=>by rw [upd_ne n];exact h
theorem But.new {a p:Addr} {H H':Hp} {o:HO} (x:But a H H') (h:H' p=none):But a H (L2.upd H' p o):=λ b q n e=>by rw [upd_ne (ne_of_none (x b q n e) h)];exact x b q n e
theorem But.set {a:Addr} {H H':Hp} {o:HO} (x:But a H H'):But a H (L2.upd H' a o):=λ b q n e=>by rw [upd_ne n];exact x b q n e
theorem Same.new {H:Hp} {p:Addr} {o:HO} (h:H p=none):Same H (upd H p o):=λ b q e=>by rw [upd_ne (ne_of_none e h)];exact e
theorem Same.more {H H':Hp} {p:Addr} {o:HO} (s:Same H H') (h:H' p=none):Same H (upd H' p o):=s.trans (Same.new h)
theorem Same.tup {K:PySem.W.Frag} {H H':Hp} {a:Addr} {xs:List V} (e:Same H H') (h:SqT K H a xs):SqT K H' a xs:=by
 rcases h with (h | ⟨o,h⟩) | h
 ·exact .inl (.inl (e _ _ h))
 ·exact .inl (.inr ⟨o,e _ _ h⟩)
 ·exact .inr h
theorem map_int_get {ns:List Int} {i:Nat} {y:V} (h:(ns.map V.int)[i]?=some y) : ∃ z,y=.int z/\ns[i]?=some z:=by
 rw [List.getElem?_map] at h
 cases e:ns[i]? with
 | none=>rw [e] at h;cases h
 | some z=>rw [e] at h;exact ⟨z,(Option.some.inj h).symm,rfl⟩
theorem atI_of {α : Type} {xs:List α} {i:Int} {v : α} (h0:0<=i) (h:xs[i.toNat]?=some v):atI xs i=some v:=by
 have:=atI_nat h
 rwa [Int.toNat_of_nonneg h0] at this
theorem ixN_of {n:Nat} {i:Int} (h0:0<=i) (h:i<n):ixN n i=some i.toNat:=by
 unfold ixN
 rw [if_pos h0,if_pos h]
end W2
namespace L2
open PySem PySem.Spec PyProof.Rows
def noStar:Expr->Bool
 | .Starred _ _=>false
 | _=>true
theorem starEach_cons {e:Expr} (h:noStar e=true) (es:List Expr) (env:Env):starEach (e::es) env=(false,eval e env)::starEach es env:=by
 cases e<;>first | rfl | cases h
theorem pa_c {X:Cx} {e:Expr} {es:List Expr} {te:TE} {t:TA} (ha:PE X e te) (hr:PA X es t) (h:noStar e=true:=by rfl):PA X (e::es) (tCons te t):=pa_cons ha hr (starEach_cons h es X.env)
section
variable {K:PySem.W.Frag} {a D:Addr} {js:List (Option Nat)} {g:TG} {te:TE} {σ:St} {H1:Hp} {Q:VK}
theorem comp_plain {J:It} {n:Nat} (hn:n<=sizeLine) (Pv:Nat->St->Hp->List V->Prop) (h0:Pv 0 (pick js σ) (upd H1 D (.lst [])) [])
  (hgo : ∀ i σ' H' ys,i<n->H' D=some (.lst ys)->Pv i σ' H' ys->J.go i H') (hst : ∀ σ' H' ys,H' D=some (.lst ys)->ys.length=n->Pv n σ' H' ys->J.stop n H'/\Q (.ref D) H')
  (hs : ∀ i σ' H' ys x H2 (R:St->V->Hp->Prop),i<n->H' D=some (.lst ys)->ys.length=i->Pv i σ' H' ys->J.yld i H' x H2 ->
   (∀ σ2 y H4,H4 D=some (.lst ys)->Pv (i+1) σ2 (upd H4 D (.lst (ys++[y]))) (ys++[y])->R σ2 y H4)->g x σ' H2 λ σ2 H3=>te σ2 H3 λ y H4=>R σ2 y H4) :
  CompW J D js g tNoTest te σ H1 Q:=by
 refine ⟨λ i m σ' H' ys=>m=n - i/\i<=n/\H' D=some (.lst ys)/\ys.length=i/\Pv i σ' H' ys,⟨n,rfl,Nat.zero_le _,upd_same,rfl,h0⟩,?_⟩
 rintro i m σ' H' ys ⟨rfl,hi,hD,hy,p⟩
 refine ⟨hD,?_⟩
 by_cases e:i=n
 ·subst e
  exact .inl (hst σ' H' ys hD hy p)
 ·have hlt:i<n:=by omega
  refine .inr ⟨hgo i σ' H' ys hlt hD p,by omega,λ σ2 H2 zs=>H2 D=some (.lst zs)/\zs.length=i+1/\Pv (i+1) σ2 H2 zs,λ σ2 H2 zs ⟨z1,z2,z3⟩=>⟨n - (i+1),by omega,rfl,by omega,z1,z2,z3⟩,λ x H2 hx=>?_⟩
  exact hs i σ' H' ys x H2 (λ σ2 y H4=>H4 D=some (.lst ys)/\(upd H4 D (.lst (ys++[y]))) D=some (.lst (ys++[y]))/\(ys++[y]).length=i+1/\Pv (i+1) σ2 (upd H4 D (.lst (ys++[y]))) (ys++[y])) hlt hD hy p hx
   λ σ2 y H4 z1 z2=>⟨z1,upd_same,by rw [List.length_append,hy];rfl,z2⟩
theorem comp_range {lo:Int} {n:Nat} (hn:n<=sizeLine) (Pv:Nat->St->Hp->List V->Prop) (h0:Pv 0 (pick js σ) (upd H1 D (.lst [])) [])
  (hs : ∀ i σ' H' ys (R:St->V->Hp->Prop),i<n->H' D=some (.lst ys)->ys.length=i->Pv i σ' H' ys->(∀ σ2 y H4,H4 D=some (.lst ys)->Pv (i+1) σ2 (upd H4 D (.lst (ys++[y]))) (ys++[y])->R σ2 y H4) ->
   g (.int (lo+i)) σ' H' λ σ2 H3=>te σ2 H3 λ y H4=>R σ2 y H4)
  (hst : ∀ σ' H' ys,H' D=some (.lst ys)->ys.length=n->Pv n σ' H' ys->Q (.ref D) H'):CompW (Itr lo n) D js g tNoTest te σ H1 Q :=
 comp_plain hn Pv h0 (λ i _ _ _ hi _ _=>hi) (λ σ' H' ys a b c=>⟨Nat.le_refl _,hst σ' H' ys a b c⟩) λ i σ' H' ys x H2 R hi a b c ⟨e1,e2⟩=>by
  subst e1;subst e2
  exact hs i σ' H2 ys R hi a b c
theorem comp_list {xs:List V} (hn:xs.length<=sizeLine) (Pv:Nat->St->Hp->List V->Prop) (h0:Pv 0 (pick js σ) (upd H1 D (.lst [])) [])
  (hl : ∀ i σ' H' ys,i<=xs.length->H' D=some (.lst ys)->Pv i σ' H' ys->SqL K H' a xs)
  (hs : ∀ i x σ' H' ys (R:St->V->Hp->Prop),xs[i]?=some x->H' D=some (.lst ys)->ys.length=i->Pv i σ' H' ys->(∀ σ2 y H4,H4 D=some (.lst ys)->Pv (i+1) σ2 (upd H4 D (.lst (ys++[y]))) (ys++[y])->R σ2 y H4) ->
   g x σ' H' λ σ2 H3=>te σ2 H3 λ y H4=>R σ2 y H4)
  (hst : ∀ σ' H' ys,H' D=some (.lst ys)->ys.length=xs.length->Pv xs.length σ' H' ys->Q (.ref D) H'):CompW (Itl K a) D js g tNoTest te σ H1 Q :=
 comp_plain hn Pv h0 (λ i σ' H' ys hi hD p=>⟨xs,xs[i],hl i σ' H' ys (by omega) hD p,List.getElem?_eq_getElem hi⟩)
  (λ σ' H' ys hD b c=>⟨⟨xs,hl _ σ' H' ys (Nat.le_refl _) hD c,Nat.le_refl _⟩,hst σ' H' ys hD b c⟩) λ i σ' H' ys x H2 R hi hD b c ⟨e1,e2⟩=>by
  subst e1
  exact hs i x σ' H2 ys R (e2 xs (hl i σ' H2 ys (by omega) hD c)) hD b c
theorem comp_tup {xs:List V} (hn:xs.length<=sizeLine) (Pv:Nat->St->Hp->List V->Prop) (h0:Pv 0 (pick js σ) (upd H1 D (.lst [])) [])
  (hl : ∀ i σ' H' ys,i<=xs.length->H' D=some (.lst ys)->Pv i σ' H' ys->SqT K H' a xs)
  (hs : ∀ i x σ' H' ys (R:St->V->Hp->Prop),xs[i]?=some x->H' D=some (.lst ys)->ys.length=i->Pv i σ' H' ys->(∀ σ2 y H4,H4 D=some (.lst ys)->Pv (i+1) σ2 (upd H4 D (.lst (ys++[y]))) (ys++[y])->R σ2 y H4) ->
   g x σ' H' λ σ2 H3=>te σ2 H3 λ y H4=>R σ2 y H4)
  (hst : ∀ σ' H' ys,H' D=some (.lst ys)->ys.length=xs.length->Pv xs.length σ' H' ys->Q (.ref D) H'):CompW (Itt K a) D js g tNoTest te σ H1 Q :=
 comp_plain hn Pv h0 (λ i σ' H' ys hi hD p=>⟨xs,xs[i],hl i σ' H' ys (by omega) hD p,List.getElem?_eq_getElem hi⟩)
  (λ σ' H' ys hD b c=>⟨⟨xs,hl _ σ' H' ys (Nat.le_refl _) hD c,Nat.le_refl _⟩,hst σ' H' ys hD b c⟩) λ i σ' H' ys x H2 R hi hD b c ⟨e1,e2⟩=>by
  subst e1
  exact hs i x σ' H2 ys R (e2 xs (hl i σ' H2 ys (by omega) hD c)) hD b c
end
theorem SqL.upd_new {K:PySem.W.Frag} {H:Hp} {a D:Addr} {xs:List V} {o:HO} (h:SqL K H a xs) (n:H D=none):SqL K (upd H D o) a xs:=by
 rcases h with (h | ⟨u,h⟩) | h
 ·exact .inl (.inl (by rw [upd_ne (ne_of_none h n)];exact h))
 ·exact .inl (.inr ⟨u,by rw [upd_ne (ne_of_none h n)];exact h⟩)
 ·exact .inr h
theorem SqT.upd_new {K:PySem.W.Frag} {H:Hp} {a D:Addr} {xs:List V} {o:HO} (h:SqT K H a xs) (n:H D=none):SqT K (upd H D o) a xs:=by
 rcases h with (h | ⟨u,h⟩) | h
 ·exact .inl (.inl (by rw [upd_ne (ne_of_none h n)];exact h))
 ·exact .inl (.inr ⟨u,by rw [upd_ne (ne_of_none h n)];exact h⟩)
 ·exact .inr h
theorem take_map_succ {α β : Type} {f : α -> β} {xs:List α} {i:Nat} {x : α} (h:xs[i]?=some x):(xs.take (i+1)).map f=(xs.take i).map f++[f x]:=by
 rw [List.take_add_one,h,List.map_append]
 rfl
section
variable {K:PySem.W.Frag} {a D:Addr} {js:List (Option Nat)} {te:TE} {σ:St} {H1:Hp} {Q:VK}
theorem comp_map_list {xs:List V} {o:Option V} {σ0:St} {f:V->V} (hp:pick js σ=o::σ0) (hn:xs.length<=sizeLine) (hD:H1 D=none) (hS:SqL K H1 a xs)
  (hs : ∀ (x:V) (H':Hp) (R:VK),x∈xs->R (f x) H'->te (some x::σ0) H' R) (q:Q (.ref D) (upd H1 D (.lst (xs.map f)))):CompW (Itl K a) D js (gName 0) tNoTest te σ H1 Q:=by
 refine comp_list (xs:=xs) hn (λ i σ' H' ys=>(∃ u,σ'=u::σ0)/\ys=(xs.take i).map f/\H'=upd H1 D (.lst ys)) ⟨⟨o,hp⟩,rfl,rfl⟩ ?_ ?_ ?_
 ·rintro i σ' H' ys _ _ ⟨_,rfl,rfl⟩
  exact hS.upd_new hD
 ·rintro i x σ' H' ys R hx _ _ ⟨⟨u,rfl⟩,rfl,rfl⟩ k
  refine hs x _ _ (List.mem_of_getElem? hx) (k _ _ _ upd_same ⟨⟨_,rfl⟩,(take_map_succ hx).symm,upd_upd⟩)
 ·rintro σ' H' ys _ _ ⟨_,rfl,rfl⟩
  rw [List.take_length]
  exact q
theorem comp_map_tup {xs:List V} {o:Option V} {σ0:St} {f:V->V} (hp:pick js σ=o::σ0) (hn:xs.length<=sizeLine) (hD:H1 D=none) (hS:SqT K H1 a xs)
  (hs : ∀ (x:V) (H':Hp) (R:VK),x∈xs->R (f x) H'->te (some x::σ0) H' R) (q:Q (.ref D) (upd H1 D (.lst (xs.map f)))):CompW (Itt K a) D js (gName 0) tNoTest te σ H1 Q:=by
 refine comp_tup (xs:=xs) hn (λ i σ' H' ys=>(∃ u,σ'=u::σ0)/\ys=(xs.take i).map f/\H'=upd H1 D (.lst ys)) ⟨⟨o,hp⟩,rfl,rfl⟩ ?_ ?_ ?_
 ·rintro i σ' H' ys _ _ ⟨_,rfl,rfl⟩
  exact hS.upd_new hD
 ·rintro i x σ' H' ys R hx _ _ ⟨⟨u,rfl⟩,rfl,rfl⟩ k
  refine hs x _ _ (List.mem_of_getElem? hx) (k _ _ _ upd_same ⟨⟨_,rfl⟩,(take_map_succ hx).symm,upd_upd⟩)
 ·rintro σ' H' ys _ _ ⟨_,rfl,rfl⟩
  rw [List.take_length]
  exact q
end
theorem while_own {c:TT} {tb:TS} {D:Ends} {σ:St} {H:Hp} (Pv:St->Hp->Prop) (μ : St->Hp->Nat) (h0:Pv σ H)
  (hs : ∀ σ H,Pv σ H->c σ H λ b H1=>if b=true then ∃ N:St->Hp->Prop,(∀ σ' H',N σ' H' -> ∃ m',m' < μ σ H/\m' = μ σ' H'/\Pv σ' H')/\tb { D with nx:=N,ct:=N,bk:=D.nx } σ H1 else D.nx σ H1):tWhile c tb D σ H :=
 ⟨λ m σ H=>m = μ σ H/\Pv σ H,⟨_,rfl,h0⟩,λ m σ H ⟨e,p⟩=>by subst e;exact hs σ H p⟩
theorem whN {tb:TS} {D:Ends} {σ:St} {H1:Hp} {m:Nat} {Pv:St->Hp->Prop} {μ : St->Hp->Nat} (h:tb { D with nx:=λ σ' H'=>Pv σ' H' /\ μ σ' H'<m,ct:=λ σ' H'=>Pv σ' H' /\ μ σ' H'<m,bk:=D.nx } σ H1) :
  ∃ N:St->Hp->Prop,(∀ σ' H',N σ' H' -> ∃ m',m'<m/\m' = μ σ' H'/\Pv σ' H')/\tb { D with nx:=N,ct:=N,bk:=D.nx } σ H1:=⟨_,λ _ _ ⟨a,b⟩=>⟨_,b,rfl,a⟩,h⟩
theorem sIx_of {n d:Nat} {i:Int} (h:0<=i):HT.sIx n d (some i)=min i.toNat n:=by
 show (if i<0 then _ else _)=_
 rw [if_neg (by omega)]
theorem cutV_pre {xs:List V} {i:Int} (h:0<=i):cutV xs none (some i)=xs.take i.toNat:=by
 unfold cutV
 rw [sIx_of h]
 show (xs.drop 0).take (min i.toNat xs.length - 0)=_
 rw [List.drop_zero,Nat.sub_zero]
 rcases Nat.le_total i.toNat xs.length with g | g
 ·rw [Nat.min_eq_left g]
 ·rw [Nat.min_eq_right g,List.take_of_length_le (Nat.le_refl _),List.take_of_length_le g]
structure QE (X:Cx) (e:Expr) (t:TE):Prop where
 o:PE X e t
structure QT (X:Cx) (e:Expr) (t:TT):Prop where
 o:PT X e t
structure QW (X:Cx) (e:Expr) (t:TT):Prop where
 o:PW X e t
structure QA (X:Cx) (e:List Expr) (t:TA):Prop where
 o:PA X e t
structure QS (X:Cx) (e:Stmt) (t:TS):Prop where
 o:PS X e t
structure QSs (X:Cx) (e:List Stmt) (t:TS):Prop where
 o:PSs X e t
structure QG (X:Cx) (e:Expr) (t:TG):Prop where
 o:PG X e t
structure QGs (X:Cx) (e:List Expr) (t:TGs):Prop where
 o:PGs X e t
structure QO (X:Cx) (e:Option Expr) (t:TO):Prop where
 o:PO X e t
structure QTs (X:Cx) (e:List Expr) (t:TT):Prop where
 o:PTs X e t
structure QI (X:Cx) (tg e:Expr) (t:TI):Prop where
 o:PI X tg e t
theorem qv (i:Nat) {x:Str} {pos:Pos} (hN:X.N[i]?=some x:=by rfl) (hv:Vis X.env.scope x:=by first | exact Or.inl rfl | exact Or.inr (Or.inl rfl) | exact Or.inr (Or.inr rfl)) (hd:(x == ("__debug__" : Str))=false:=by decide) (hcd:(x == ("__classdict__" : Str))=false:=by decide):QE X (.Name x pos) (tVar i) :=
 ⟨pv i hN hv hd hcd⟩
theorem qe_int {i j pos}:QE X (.Constant (.int i) j pos) (tC (.int i)) :=
 ⟨pe_int ⟩
theorem qe_bl {b j pos}:QE X (.Constant (.bool b) j pos) (tC (.bl b)) :=
 ⟨pe_bl ⟩
theorem qe_non {j pos}:QE X (.Constant .none j pos) (tC .non) :=
 ⟨pe_non ⟩
theorem qe_str {x j pos}:QE X (.Constant (.str x) j pos) (tC (.str x)) :=
 ⟨pe_str ⟩
theorem qe_glob {x:Str} {v:V} {u:Value} {pos:Pos} (hg:Gl X x) (hm:X.mg x=some u) (r:RelV v u) (hd:(x == ("__debug__" : Str))=false:=by decide):QE X (.Name x pos) (tC v) :=
 ⟨pe_glob hg hm r hd⟩
theorem qe_globC {X:Cx} {x:Str} {i:Int} {pos:Pos} (hg:Gl X x) (hm : ∃ t,X.mg x=some (.int i t)) (hd:(x == ("__debug__" : Str))=false:=by decide):QE X (.Name x pos) (tC (.int i)) :=
 ⟨pe_globC hg hm hd⟩
theorem qe_globS {X:Cx} {x:Str} {i:Str} {pos:Pos} (hg:Gl X x) (hm : ∃ t,X.mg x=some (.str i t)) (hd:(x == ("__debug__" : Str))=false:=by decide):QE X (.Name x pos) (tC (.str i)) :=
 ⟨pe_globS hg hm hd⟩
theorem qe_ty {X:Cx} {x:Str} {T:String} {pos:Pos} (hg:Gl X x) (hm:X.mg x=none) (hv:bootBuiltins x=some (.type T)) (hn:x ≠ "__name__" := by decide) (hd:(x == ("__debug__" : Str))=false:=by decide):QE X (.Name x pos) (tC (.ty T)) :=
 ⟨pe_ty hg hm hv hn hd⟩
theorem qe_op {a:Expr} {b:Expr} {op:Operator} {r:R2} (ho:OpR X (binaryOp op) r) (ha:QE X a ta) (hb:QE X b tb):QE X (.BinOp a op b pos) (tOp r ta tb) :=
 ⟨pe_op ho ha.o hb.o⟩
theorem qe_un {a:Expr} {op:UnaryOp} {r:V->Hp->VK->Prop} (ho:UnR X (unaryOp op) r) (ha:QE X a ta):QE X (.UnaryOp op a pos) (tUn r ta) :=
 ⟨pe_un ho ha.o⟩
theorem qe_and {rest:List Expr} {a:Expr} {b:Expr} (ha:QE X a ta) (hb:QE X (.BoolOp .And (b::rest) pos) tb):QE X (.BoolOp .And (a::b::rest) pos) (tAndV ta tb) :=
 ⟨pe_and ha.o hb.o⟩
theorem qe_or {rest:List Expr} {a:Expr} {b:Expr} (ha:QE X a ta) (hb:QE X (.BoolOp .Or (b::rest) pos) tb):QE X (.BoolOp .Or (a::b::rest) pos) (tOrV ta tb) :=
 ⟨pe_or ha.o hb.o⟩
theorem qe_one {a:Expr} {op} {t:TE} (h:QE X a t):QE X (.BoolOp op [a] pos) t :=
 ⟨pe_one h.o⟩
theorem qe_not {a:Expr} (ha:QE X a ta):QE X (.UnaryOp .Not a pos) (tNotV ta) :=
 ⟨pe_not ha.o⟩
theorem qe_cmpR {a:Expr} {b:Expr} {op:CmpOp} {r:R2} (ho:OpR X (compareOp op) r) (ha:QE X a ta) (hb:QE X b tb) (hm:behindInMarks op b=false):QE X (.Compare a [op] [b] pos) (tOp r ta tb) :=
 ⟨pe_cmpR ho ha.o hb.o hm⟩
theorem qe_tup {x1} (h:QA X es t):QE X (.Tuple es x1 pos) (tTup t) :=
 ⟨pe_tup h.o⟩
theorem qe_lst (h:QA X es t):QE X (.List es pos) (tLst t) :=
 ⟨pe_lst h.o⟩
theorem qe_ix {a:Expr} {b:Expr} {r:R2} (hr:IxR X r) (ha:QE X a ta) (hb:QE X b tb) (hs:PlainIx b):QE X (.Subscript a b pos) (tOp r ta tb) :=
 ⟨pe_ix hr ha.o hb.o hs⟩
theorem qe_slice {lo:Option Expr} {hi:Option Expr} {e:Expr} {r:V->Option Int->Option Int->Hp->VK->Prop} (hr:SlR X r) (he:QE X e te) (hl:QO X lo tl) (hu:QO X hi th):QE X (.Subscript e (.Slice lo hi none p2) pos) (tSl r te tl th) :=
 ⟨pe_slice hr he.o hl.o hu.o⟩
theorem qe_call {e:Expr} (F:FnOk X.prog X.w X.K X.mg X.base CX k f fd ps sp) (hr:Room k X.A) (hg:Gl X x) (hm:X.mg x=some (.ref f)) (hk:PySem.W.keepIn X.K (.ref f)=true) (hb:Binds X.K fd ps ds) (hd:Vals dvs ds) (hx:Passes CX X E) (ha:QA X (e::es) t) (hdb:(x == ("__debug__" : Str))=false:=by decide) (he:starEach (e::es) X.env=(false,eval e X.env)::starEach es X.env:=by rfl) (hpl:(backTo pos (starEach es X.env)).any (·.1)=false:=by rfl):QE X (.Call (.Name x p) (e::es) [] pos) (tCall sp dvs E t) :=
 ⟨pe_call F hr hg hm hk hb hd hx ha.o hdb he hpl⟩
theorem qe_call0 (F:FnOk X.prog X.w X.K X.mg X.base CX k f fd ps sp) (hr:Room k X.A) (hg:Gl X x) (hm:X.mg x=some (.ref f)) (hk:PySem.W.keepIn X.K (.ref f)=true) (hb:Binds X.K fd ps ds) (hd:Vals dvs ds) (hx:Passes CX X E) (hdb:(x == ("__debug__" : Str))=false:=by decide):QE X (.Call (.Name x p) [] [] pos) (tCall sp dvs E tNil) :=
 ⟨pe_call0 F hr hg hm hk hb hd hx hdb⟩
theorem qe_callB {id:String} {e:Expr} (hc:CallR X (.builtin id) r) (hg:Gl X x) (hm:X.mg x=none) (hv:bootBuiltins x=some (.builtin id)) (ha:QA X (e::es) t) (hn:x ≠ "__name__" := by decide) (hdb:(x == ("__debug__" : Str))=false:=by decide) (he:starEach (e::es) X.env=(false,eval e X.env)::starEach es X.env:=by rfl) (hpl:(backTo pos (starEach es X.env)).any (·.1)=false:=by rfl):QE X (.Call (.Name x p) (e::es) [] pos) (tCB r t) :=
 ⟨pe_callB hc hg hm hv ha.o hn hdb he hpl⟩
theorem qe_callTy {e:Expr} (hc:CallR X (.type T) r) (hg:Gl X x) (hm:X.mg x=none) (hv:bootBuiltins x=some (.type T)) (ha:QA X (e::es) t) (hn:x ≠ "__name__" := by decide) (hdb:(x == ("__debug__" : Str))=false:=by decide) (he:starEach (e::es) X.env=(false,eval e X.env)::starEach es X.env:=by rfl) (hpl:(backTo pos (starEach es X.env)).any (·.1)=false:=by rfl):QE X (.Call (.Name x p) (e::es) [] pos) (tCB r t) :=
 ⟨pe_callTy hc hg hm hv ha.o hn hdb he hpl⟩
theorem qe_bm {id:String} {e:Expr} {o:Expr} (pa:PlainAttrs T) (slot:Slot T name id) (hty:typeOf (.builtin id)=pure (.type "method_descriptor")) (hm:MtR X id r) (ho:QE X o to) (ha:QA X (e::es) t) (hbase:attributeBase o name X.env (eval o X.env)=eval o X.env:=by rfl) (hfew:((backTo cpos (starEach (e::es) X.env)).all (λ x => !x.1)&&(backToKw cpos (keywordEach [] X.env)).all (λ x=>x.1.isSome)
   && decide ((e::es).length+([]:List Keyword).length+(if ([]:List Keyword).isEmpty then 0 else 1)<30))=true:=by rfl) (hline:(apos.endLine == cpos.line)=true:=by rfl) (hs:starEach (e::es) X.env=(false,eval e X.env)::starEach es X.env:=by rfl) (hplain:(backTo cpos (starEach es X.env)).any (·.1)=false:=by rfl):QE X (.Call (.Attribute o name apos) (e::es) [] cpos) (tBM X.K T r to t) :=
 ⟨pe_bm pa slot hty hm ho.o ha.o hbase hfew hline hs hplain⟩
theorem qe_bm0 {id:String} {o:Expr} (pa:PlainAttrs T) (slot:Slot T name id) (hty:typeOf (.builtin id)=pure (.type "method_descriptor")) (hm:MtR X id r) (ho:QE X o to) (hbase:attributeBase o name X.env (eval o X.env)=eval o X.env:=by rfl) (hline:(apos.endLine == cpos.line)=true:=by rfl):QE X (.Call (.Attribute o name apos) [] [] cpos) (tBM0 X.K T r to) :=
 ⟨pe_bm0 pa slot hty hm ho.o hbase hline⟩
theorem qt_cmpR {a:Expr} {b:Expr} {op:CmpOp} {r:R2} (ho:OpR X (compareOp op) r) (ha:QE X a ta) (hb:QE X b tb) (hm:behindInMarks op b=false):QT X (.Compare a [op] [b] pos) (tTest (tOp r ta tb)) :=
 ⟨pt_cmpR ho ha.o hb.o hm⟩
theorem qt_not {a:Expr} (ha:QT X a tA):QT X (.UnaryOp .Not a pos) (tNot tA) :=
 ⟨pt_not ha.o⟩
theorem qt_val {e:Expr} {t:TE} (h:QE X e t) (he : ∀ whole,isTrue e X.env whole=(do let v ← whole;standAt e.pos;holding [v] (truthy v)):=by intro _;rfl):QT X e (tB t) :=
 ⟨pt_val h.o he⟩
theorem qw_and {rest:List Expr} {a:Expr} {b:Expr} (ha:QT X a tA) (hb:QW X (.BoolOp .And (b::rest) pos) tB'):QW X (.BoolOp .And (a::b::rest) pos) (tAnd tA tB') :=
 ⟨pw_and ha.o hb.o⟩
theorem qw_and1 {a:Expr} (ha:QT X a tA):QW X (.BoolOp .And [a] pos) tA :=
 ⟨pw_and1 ha.o⟩
theorem qw_or {rest:List Expr} {a:Expr} {b:Expr} (ha:QT X a tA) (hb:QW X (.BoolOp .Or (b::rest) pos) tB'):QW X (.BoolOp .Or (a::b::rest) pos) (tOr tA tB') :=
 ⟨pw_or ha.o hb.o⟩
theorem qw_or1 {a:Expr} (ha:QT X a tA):QW X (.BoolOp .Or [a] pos) tA :=
 ⟨pw_or1 ha.o⟩
theorem qa_nil  : QA X [] tNil :=
 ⟨pa_nil ⟩
theorem qa_c {X:Cx} {e:Expr} {es:List Expr} {te:TE} {t:TA} (ha:QE X e te) (hr:QA X es t) (h:noStar e=true:=by rfl):QA X (e::es) (tCons te t) :=
 ⟨pa_c ha.o hr.o h⟩
theorem qo_none  : QO X none tNoPart :=
 ⟨po_none ⟩
theorem qo_some {e:Expr} (h:QE X e te):QO X (some e) (tPart te) :=
 ⟨po_some h.o⟩
theorem qi_list {l:Expr} {tl:TE} (hl:QE X l tl):QI X tg l (iList X.K tl) :=
 ⟨pi_list hl.o⟩
theorem qi_tup {l:Expr} {tl:TE} (hl:QE X l tl):QI X tg l (iTup X.K tl) :=
 ⟨pi_tup hl.o⟩
theorem qi_range1 {a:Expr} {ta:TA} {p pos:Pos} (hg:Gl X "range") (hm:X.mg "range" = none) (ha:QA X [a] ta) (hs:starEach [a] X.env=[(false,eval a X.env)]:=by rfl) (hcm:X.calm=true:=by rfl):QI X tg (.Call (.Name "range" p) [a] [] pos) (iRng1 ta) :=
 ⟨pi_range1 hg hm ha.o hs hcm⟩
theorem qi_zip {e1 e2:Expr} {ta:TA} {p pos:Pos} (htg:tupleTg tg=true) (hg:Gl X "zip") (hm:X.mg "zip" = none) (ha:QA X [e1,e2] ta) (hs:starEach [e1,e2] X.env=[(false,eval e1 X.env),(false,eval e2 X.env)]:=by rfl) (hs2:starEach [e2] X.env=[(false,eval e2 X.env)]:=by rfl) (hb:bootBuiltins "zip" = some (.type "zip"):=by decide +kernel):QI X tg (.Call (.Name "zip" p) [e1,e2] [] pos) (iZip X.K ta) :=
 ⟨pi_zip htg hg hm ha.o hs hs2 hb⟩
theorem qg_name {i:Nat} {x:Str} (hN:X.N.Nodup) (hi:X.N[i]?=some x) (hx:Loc X.env.scope x) (hf:X.fn x=true\/X.env.scope.names.lookup x=some .local:=by first | exact .inl rfl | exact .inr rfl | assumption):QG X (.Name x pos) (gName i) :=
 ⟨pg_name hN hi hx hf⟩
theorem qg_tup {es:List Expr} {k:Nat} {t:TGs} {n:Nat} (hc:X.warm=true) (h:QGs X es t) (hn:(assignEach es X.env).length=n:=by rfl) (hst:(assignEach es X.env).findIdx? (·.1)=none:=by rfl):QG X (.Tuple es k pos) (gTup X.K n t) :=
 ⟨pg_tup hc h.o hn hst⟩
theorem qg_sub {o i:Expr} {to ti:TE} {t:TSet} (ho:QE X o to) (hi:QE X i ti) (hs:PSet X t) (ha : ∀ v,assign (.Subscript o i pos) X.env v=(do
   let ov ← holding [v] (eval o X.env)
   let iv ← holding [v,ov] (eval i X.env)
   standAt pos
   holding [v,ov,iv] (setItem ov iv v)
   release [v,ov,iv] []):=by intro _;rfl):QG X (.Subscript o i pos) (gSub to ti t) :=
 ⟨pg_sub ho.o hi.o hs ha⟩
theorem qgs_nil  : QGs X [] gNil :=
 ⟨pgs_nil ⟩
theorem qgs_cons {e:Expr} {es:List Expr} {t:TG} {u:TGs} (h1:QG X e t) (h2:QGs X es u) (hs:(assignEach (e::es) X.env).map (·.2)=assign e X.env::(assignEach es X.env).map (·.2):=by rfl):QGs X (e::es) (gCons t u) :=
 ⟨pgs_cons h1.o h2.o hs⟩
theorem qs_set {i:Nat} {x:Str} {e:Expr} {te:TE} {pos':Pos} (hN:X.N.Nodup) (hi:X.N[i]?=some x) (hx:Loc X.env.scope x) (he:QE X e te) (hs:swapsWith e (some (.Name x pos')) pos.line X.env=pure false:=by rfl) (hf:X.fn x=true\/X.env.scope.names.lookup x=some .local:=by first | exact .inl rfl | exact .inr rfl | assumption):QS X (.Assign [.Name x pos'] e pos) (tAsg te (gName i)) :=
 ⟨ps_set hN hi hx he.o hs hf⟩
theorem qs_asg {tg e:Expr} {te:TE} {g:TG} (he:QE X e te) (hg:QG X tg g) (hs:swapsWithSole [tg] e pos.line X.env=pure false:=by rfl) (hw:swappedStores [tg] e X.env=pure none:=by rfl) (h1:(assignEach [tg] X.env).map (·.2)=[assign tg X.env]:=by rfl):QS X (.Assign [tg] e pos) (tAsg te g) :=
 ⟨ps_asg he.o hg.o hs hw h1⟩
theorem qs_ret {e:Expr} (he:QE X e te):QS X (.Return (some e) pos) (tRet te) :=
 ⟨ps_ret he.o⟩
theorem qs_expr {e:Expr} (he:QE X e te) (hs:swapsWith e none pos.line X.env=pure false:=by rfl):QS X (.Expr e pos) (tDrop te) :=
 ⟨ps_expr he.o hs⟩
theorem qs_if {c:Expr} {a b:List Stmt} {tc:TT} (hc:QT X c tc) (ha:QSs X a t) (hb:QSs X b u):QS X (.If c a b pos) (tIfS tc t u) :=
 ⟨ps_if hc.o ha.o hb.o⟩
theorem qs_while {c:Expr} {body:List Stmt} {tc:TT} {tb:TS} (hp:PassesOwn (model X.prog X.w) X.A X.env X.xe) (hc:QT X c tc) (hb:QSs X body tb):QS X (.While c body [] pos) (tWhile tc tb) :=
 ⟨ps_while hp hc.o hb.o⟩
theorem qs_for {iter:Expr} {body:List Stmt} {wi:TI} {g:TG} {tb:TS} {pos:Pos} (hp:PassesOwn (model X.prog X.w) X.A X.env X.xe) (hc:X.warm=true) (hi:QI X tg iter wi) (hg:QG X tg g) (hb:QSs X body tb) (hs : ∀ x,foldedSetIterable iter X.env x=pure x:=by intro _;rfl):QS X (.For tg iter body [] pos) (tFor wi g tb) :=
 ⟨ps_for hp hc hi.o hg.o hb.o hs⟩
theorem qss_nil  : QSs X [] tNext :=
 ⟨pss_nil ⟩
theorem qss_one {st:Stmt} (h1:QS X st t):QSs X [st] t :=
 ⟨pss_one h1.o⟩
theorem qss_cons {rest:List Stmt} {st:Stmt} (h1:QS X st t) (h2:QSs X rest u):QSs X (st::rest) (tSeq t u) :=
 ⟨pss_cons h1.o h2.o⟩
theorem qts_nil {X:Cx}:QTs X [] tNoTest :=
 ⟨pts_nil ⟩
theorem qts_one {X:Cx} {c:Expr} {t:TT} (hc:QT X c t):QTs X [c] t :=
 ⟨pts_one hc.o⟩
theorem QW.pt {X:Cx} {e:Expr} {t:TT} (h:QW X e t):QT X e t :=
 ⟨PW.pt h.o⟩
theorem qe_comp {X:Cx} {elt tg iter:Expr} {cs:List Expr} {scope:Scope} {pos:Pos} {cl:List (Str×Addr)} {N:List Str} {js:List (Option Nat)} {wi:TI} {g:TG} {tc:TT} {te:TE}
  (C:CompOk X scope cl N js) (hc:X.warm=true) (hi:QI X tg iter wi)
  (hg : ∀ fp pins s H,QG (compCx X scope cl N fp pins s H λ _ _=>False) tg g)
  (ht : ∀ fp pins s H,QTs (compCx X scope cl N fp pins s H λ _ _=>False) cs tc)
  (he : ∀ fp pins s H,QE (compCx X scope cl N fp pins s H λ _ _=>False) elt te)
  (hs : ∀ x,foldedSetIterable iter X.env x=pure x:=by intro _;rfl):QE X (.ListComp elt [⟨tg,iter,cs,0⟩] scope pos) (tComp js wi g tc te) :=
 ⟨pe_comp C hc hi.o (λ a b c d=>(hg a b c d).o) (λ a b c d=>(ht a b c d).o) (λ a b c d=>(he a b c d).o) hs⟩
theorem Fun.okQ {P:Program} {w:World} {K:PySem.W.Frag} {mg:Str->Option Value} {base:Heap} {x qual:Str} {st:Stmt} {f:Addr} {fd:FuncData} {N ps:List Str} {k:Nat} {sp:Sp} (F:Fun K x qual st f fd) (S:FnScope N ps (defScope st)) (len : ∀ vs H Q E,sp vs H Q E->vs.length=ps.length)
  (hbody : ∀ (cdv:Value) (A:Around) (outer:List Env) (s:Shared) (H:Hp) (vs:List V) (Q:VK) (E:XK),Room k (A.deeper (envOfC qual (defScope st) s.heap.objs.size f cdv))->sp vs H Q E ->
   ∃ t,QSs (cxOf CX0 P w K mg base N qual (defScope st) f cdv A outer s H E).nox (defBody st) t/\t { nx:=λ _ H'=>Q .non H',rt:=Q } (start N vs) H):FnOk P w K mg base CX0 (k+1) f fd ps sp :=
 F.ok S len λ cdv A outer s H vs Q E hr h=>let ⟨t,a,b⟩:=hbody cdv A outer s H vs Q E hr h;⟨t,a.o,b⟩
theorem OpR.imp {X:Cx} {f:Value->Value->Sem Value} {r r':R2} (h:OpR X f r) (i : ∀ x y H Q,r' x y H Q->r x y H Q):OpR X f r':=λ pins s σ H x y v u Q I rx ry z=>h pins s σ H x y v u Q I rx ry (i x y H Q z)
theorem CallR.imp {X:Cx} {f:Value} {r r':List V->Hp->VK->Prop} (h:CallR X f r) (i : ∀ xs H Q,r' xs H Q->r xs H Q):CallR X f r':=λ pins s σ H xs us Q I rx z=>h pins s σ H xs us Q I rx (i xs H Q z)
theorem MtM.imp {X:Cx} {id:String} {r r':V->List V->Hp->VK->Prop} (h:MtM X id r) (i : ∀ x xs H Q,r' x xs H Q->r x xs H Q):MtM X id r':=λ pins s σ H x xs v us Q I rx rs z=>h pins s σ H x xs v us Q I rx rs (i x xs H Q z)
def NewA (o:HO) (H:Hp) (Q:VK):Prop := ∀ p H',H p=none->Same H H'->H' p=some o->Q (.ref p) H'
theorem NewA.at {o:HO} {H:Hp} {Q:VK} (q:NewA o H Q) : ∀ p,H p=none->Q (.ref p) (upd H p o):=λ p hp=>q p _ hp (W2.Same.new hp) upd_same
def tTupA (t:TA):TE:=λ σ H Q=>t σ H λ xs H1=>xs.length<=sizeLine/\NewA (.tup xs) H1 Q
def tLstA (t:TA):TE:=λ σ H Q=>t σ H λ xs H1=>xs.length<=sizeLine/\NewA (.lst xs) H1 Q
def tDNewA:TE:=λ _ H Q=>NewA (.dK []) H Q
section
variable {X:Cx}
theorem qe_tupA {es:List Expr} {t:TA} {x1} {pos:Pos} (h:QA X es t):QE X (.Tuple es x1 pos) (tTupA t):=⟨by
 intro pins s σ H Q I hq
 refine wpAny_Tuple_spliced (thn (h.o pos pins s σ H _ I hq) λ us s1 ⟨xs,H1,I1,r,z,q⟩=>⟨by rw [<-r.length];exact z,?_⟩)
 have hf:H1 s1.heap.objs.size=none:=I1.hok.fresh (Nat.le_refl _)
 refine ⟨.ref s1.heap.objs.size,upd H1 s1.heap.objs.size (.tup xs),I1.laid (t':=s1.toks) (λ b u e=>Heap.get?_push_of_some _ e) (Nat.le_refl _) ?_,rfl,q.at _ hf⟩
 exact ⟨z,us,r,⟨_,Heap.get?_push_size _ rfl,rfl,⟨_,rfl⟩,rfl⟩⟩⟩
theorem qe_lstA {es:List Expr} {t:TA} {pos:Pos} (h:QA X es t):QE X (.List es pos) (tLstA t):=⟨by
 intro pins s σ H Q I hq
 refine wpAny_List_spliced (thn (h.o pos pins s σ H _ I hq) λ us s1 ⟨xs,H1,I1,r,z,q⟩=>⟨by rw [<-r.length];exact z,?_⟩)
 have hf:H1 s1.heap.objs.size=none:=I1.hok.fresh (Nat.le_refl _)
 refine ⟨.ref s1.heap.objs.size,upd H1 s1.heap.objs.size (.lst xs),I1.laid (t':=s1.toks) (λ b u e=>Heap.get?_push_of_some _ e) (Nat.le_refl _) ?_,rfl,q.at _ hf⟩
 exact ⟨z,us,0,r,Heap.get?_push_size _ rfl⟩⟩
theorem qe_dnewA {pos:Pos}:QE X (.Dict [] [] pos) tDNewA:=⟨λ pins s σ H Q I h=>pe_dnew pins s σ H Q I (NewA.at h)⟩
def rCatLA:R2:=λ x y H Q => ∃ l b xs zs,x=.ref l/\y=.ref b/\H l=some (.lst xs)/\H b=some (.lst zs)/\xs.length+zs.length<=sizeLine/\NewA (.lst (xs++zs)) H Q
theorem op_catLA:OpR X (binaryOp .Add) rCatLA:=op_cat.imp λ x y H Q ⟨l,b,xs,zs,e1,e2,h1,h2,h3,q⟩=>⟨l,b,xs,zs,e1,e2,h1,h2,h3,q.at⟩
def rRepLA:R2:=λ x y H Q => ∃ l k xs,x=.ref l/\y=.int k/\H l=some (.lst xs) /\ -(2 ^ 63)<=k/\k<2 ^ 63/\xs.length * k.toNat<=sizeLine/\NewA (.lst (List.replicate k.toNat xs).flatten) H Q
theorem op_repLA:OpR X (binaryOp .Mult) rRepLA:=op_rep.imp λ x y H Q ⟨l,k,xs,e1,e2,h1,h2,h3,h4,q⟩=>⟨l,k,xs,e1,e2,h1,h2,h3,h4,q.at⟩
theorem call_tuple_ofA:CallR X (.type "tuple") (λ xs H Q => ∃ p ys,xs=[.ref p]/\SqL X.K H p ys/\NewA (.tup ys) H Q):=call_tuple_of.imp λ xs H Q ⟨p,ys,e,h,q⟩=>⟨p,ys,e,.inl ⟨h,q.at⟩⟩
def rAppendA:V->List V->Hp->VK->Prop:=λ x vs H Q => ∃ l xs y,x=.ref l/\vs=[y]/\H l=some (.lst xs)/\xs.length<sizeLine /\ ∀ H',W2.But l H H'->H' l=some (.lst (xs++[y]))->Q .non H'
theorem mt_appendA:MtM X "list.append" rAppendA:=mt_append.imp λ x vs H Q ⟨l,xs,y,e1,e2,h1,h2,q⟩=>⟨l,xs,y,e1,e2,h1,h2,q _ W2.But.upd upd_same⟩
end
end L2
namespace W2
open PySem L2
def Keep (H H':Hp):Prop := ∀ b o,H b=some o->H' b=some o \/ ∃ xs ys,o=.lst xs/\H' b=some (.lst ys)
theorem Keep.of {H H':Hp} (s:Same H H'):Keep H H':=λ b o h=>.inl (s b o h)
theorem Keep.tup {H H':Hp} (k:Keep H H') {b:Addr} {xs:List V} (h:H b=some (.tup xs)):H' b=some (.tup xs):=by
 rcases k b _ h with z | ⟨_,_,e,_⟩
 ·exact z
 ·cases e
theorem Keep.kind {H H':Hp} (s:Keep H H') {v:V} (k:kindV H v):kindV H' v:=by
 cases v with
 | ref a =>
  rcases (show (∃ xs,H a=some (.tup xs))\/(∃ xs,H a=some (.lst xs))\/(∃ kvs,H a=some (.dK kvs)) from k) with ⟨xs,e⟩ | ⟨xs,e⟩ | ⟨kvs,e⟩
  ·exact .inl ⟨xs,s.tup e⟩
  ·rcases s _ _ e with z | ⟨_,ys,_,z⟩
   ·exact .inr (.inl ⟨xs,z⟩)
   ·exact .inr (.inl ⟨ys,z⟩)
  ·rcases s _ _ e with z | ⟨_,ys,w,z⟩
   ·exact .inr (.inr ⟨kvs,z⟩)
   ·cases w
 | non=>trivial
 | bl b=>trivial
 | int i=>trivial
 | str x=>trivial
 | byt b=>exact False.elim k
 | flt b=>exact False.elim k
 | ty b=>exact False.elim k
theorem Keep.isT {H H':Hp} (s:Keep H H') {v:V} (k:kindV H v):W2.isT H' v=W2.isT H v:=by
 cases v with
 | ref a =>
  rcases (show (∃ xs,H a=some (.tup xs))\/(∃ xs,H a=some (.lst xs))\/(∃ kvs,H a=some (.dK kvs)) from k) with ⟨xs,e⟩ | ⟨xs,e⟩ | ⟨kvs,e⟩
  ·show tupO (H' a)=tupO (H a)
   rw [s.tup e,e]
  ·show tupO (H' a)=tupO (H a)
   rcases s _ _ e with z | ⟨_,ys,_,z⟩<;>rw [z,e]<;>rfl
  ·show tupO (H' a)=tupO (H a)
   rcases s _ _ e with z | ⟨_,ys,w,z⟩
   ·rw [z,e]
   ·cases w
 | _=>rfl
def wf1 (H:Hp) (v:V):Prop:=kindV H v /\ ∀ xs,isT H v=some xs->xs.length<=1000 /\ ∀ x∈xs,kindV H x
def wf2 (H:Hp) (v:V):Prop:=kindV H v /\ ∀ xs,isT H v=some xs->xs.length<=1000 /\ ∀ x∈xs,wf1 H x
theorem Keep.wf1 {H H':Hp} (s:Keep H H') {v:V} (k:W2.wf1 H v):W2.wf1 H' v:=by
 obtain ⟨k,kp⟩:=k
 refine ⟨s.kind k,λ xs e=>?_⟩
 rw [s.isT k] at e
 obtain ⟨l,m⟩:=kp xs e
 exact ⟨l,λ x hx=>s.kind (m x hx)⟩
section
variable {H:Hp} {p:Addr} {xs:List V}
theorem kind_tup (h:H p=some (.tup xs)):kindV H (.ref p):=.inl ⟨xs,h⟩
theorem wf1_tup (h:H p=some (.tup xs)) (l:xs.length<=1000) (m : ∀ x∈xs,kindV H x):wf1 H (.ref p):=⟨kind_tup h,λ ys e=>by rw [isT_ref h] at e;cases e;exact ⟨l,m⟩⟩
theorem wf2_tup (h:H p=some (.tup xs)) (l:xs.length<=1000) (m : ∀ x∈xs,wf1 H x):wf2 H (.ref p):=⟨kind_tup h,λ ys e=>by rw [isT_ref h] at e;cases e;exact ⟨l,m⟩⟩
theorem all2 {α : Type} {p : α -> Prop} {x y : α} (a:p x) (b:p y) : ∀ z∈[x,y],p z:=List.forall_mem_cons.mpr ⟨a,List.forall_mem_cons.mpr ⟨b,List.forall_mem_nil _⟩⟩
end
end W2
namespace L2
open PySem PySem.Spec PyProof.Rows
section
variable {κ : Type} [DecidableEq κ]
def valV (kvs:List (κ × V)) (k : κ):Option V:=(kvs.find? λ kv=>decide (kv.1=k)).map (·.2)
def putK (kvs:List (κ × V)) (k : κ) (v:V):List (κ × V) :=
 if (kvs.any λ kv=>decide (kv.1=k))=true then kvs.map (λ kv=>if kv.1=k then (kv.1,v) else kv) else kvs++[(k,v)]
def dropK (kvs:List (κ × V)) (k : κ):List (κ × V):=kvs.filter λ kv=>decide (kv.1≠k)
theorem valV_pos {p : κ × V} {r:List (κ × V)} {k : κ} (e:p.1=k):valV (p::r) k=some p.2:=by simp [valV,List.find?_cons,e]
theorem valV_neg {p : κ × V} {r:List (κ × V)} {k : κ} (e : ¬ p.1=k):valV (p::r) k=valV r k:=by simp [valV,List.find?_cons,e]
theorem valV_any (k : κ) : ∀ kvs:List (κ × V),(kvs.any λ kv=>decide (kv.1=k))=(valV kvs k).isSome
 | []=>rfl
 | p::r=>by
  rw [List.any_cons]
  by_cases e:p.1=k
  ·simp only [valV_pos e,decide_eq_true e,Bool.true_or,Option.isSome_some]
  ·rw [valV_neg e,decide_eq_false e,Bool.false_or];exact valV_any k r
theorem valV_map (k j : κ) (y:V) : ∀ kvs:List (κ × V),valV (kvs.map λ kv=>if kv.1=k then (kv.1,y) else kv) j=(valV kvs j).map λ x=>if j=k then y else x
 | []=>rfl
 | p::r=>by
  have ih:=valV_map k j y r
  rw [List.map_cons]
  by_cases h:p.1=k
  ·rw [if_pos h]
   by_cases e:p.1=j
   ·rw [valV_pos (p:=(p.1,y)) e,valV_pos e,Option.map_some,if_pos (e.symm.trans h)]
   ·rw [valV_neg (p:=(p.1,y)) e,valV_neg e,ih]
  ·rw [if_neg h]
   by_cases e:p.1=j
   ·rw [valV_pos (p:=p) e,valV_pos e,Option.map_some,if_neg (λ z=>h (e.trans z))]
   ·rw [valV_neg (p:=p) e,valV_neg e,ih]
theorem valV_snoc (k j : κ) (y:V) : ∀ kvs:List (κ × V),valV kvs k=none->valV (kvs++[(k,y)]) j=if j=k then some y else valV kvs j
 | [],_=>by
  by_cases e:k=j
  ·rw [if_pos e.symm];exact valV_pos (p:=(k,y)) e
  ·rw [if_neg (λ z=>e z.symm)];exact valV_neg (p:=(k,y)) e
 | p::r,hn=>by
  rw [List.cons_append]
  have hk : ¬ p.1=k:=λ z=>by rw [valV_pos z] at hn;cases hn
  rw [valV_neg hk] at hn
  have ih:=valV_snoc k j y r hn
  by_cases e:p.1=j
  ·rw [valV_pos e,valV_pos e,if_neg (λ z=>hk (e.trans z))]
  ·rw [valV_neg e,valV_neg e,ih]
theorem valV_put (kvs:List (κ × V)) (k j : κ) (y:V):valV (putK kvs k y) j=if j=k then some y else valV kvs j:=by
 unfold putK
 by_cases a:(kvs.any λ kv=>decide (kv.1=k))=true
 ·rw [if_pos a,valV_map]
  rw [valV_any] at a
  by_cases e:j=k
  ·obtain ⟨x,hx⟩:=Option.isSome_iff_exists.mp a
   rw [if_pos e,e,hx,Option.map_some,if_pos rfl]
  ·rw [if_neg e]
   cases valV kvs j with
   | none=>rfl
   | some x=>rw [Option.map_some,if_neg e]
 ·rw [if_neg a]
  refine valV_snoc k j y kvs ?_
  rw [valV_any] at a
  cases q:valV kvs k with
  | none=>rfl
  | some x=>rw [q] at a;exact (a rfl).elim
theorem length_putK (kvs:List (κ × V)) (k : κ) (v:V):(putK kvs k v).length<=kvs.length+1:=by
 unfold putK
 split
 ·rw [List.length_map];omega
 ·rw [List.length_append,List.length_cons,List.length_nil];omega
theorem RelO.isSome_eq {o:Option V} {u:Option Value} (r:RelO o u):o.isSome=u.isSome:=by
 cases o with
 | none=>cases u with
  | none=>rfl
  | some _=>exact (show False from r).elim
 | some _=>cases u with
  | none=>exact (show False from r).elim
  | some _=>rfl
theorem RelO.getD {o:Option V} {u:Option Value} {d:V} {d':Value} (r:RelO o u) (rd:RelV d d'):RelV (o.getD d) (u.getD d'):=by
 cases o with
 | none=>cases u with
  | none=>exact rd
  | some _=>exact (show False from r).elim
 | some _=>cases u with
  | none=>exact (show False from r).elim
  | some _=>exact r
theorem KV.val {kvs:List (κ × V)} {vs:List (κ × Value)} (r:KV kvs vs) (k : κ):RelO (valV kvs k) (valueAt vs k):=by
 unfold KV at r
 induction r with
 | nil=>exact True.intro
 | @cons p q ps qs h t ih =>
  obtain ⟨h1,h2⟩:=h
  by_cases e:p.1=k
  ·have e':q.1=k:=h1.symm.trans e
   have b:valueAt (q::qs) k=some q.2:=by simp [valueAt,List.find?_cons,e']
   rw [valV_pos e,b];exact h2
  ·have e' : ¬ q.1=k:=λ z=>e (h1.trans z)
   have b:valueAt (q::qs) k=valueAt qs k:=by simp [valueAt,List.find?_cons,e']
   rw [valV_neg e,b];exact ih
theorem KV.any {kvs:List (κ × V)} {vs:List (κ × Value)} (r:KV kvs vs) (k : κ):(kvs.any λ kv=>decide (kv.1=k))=vs.any λ kv=>decide (kv.1=k):=by
 unfold KV at r
 induction r with
 | nil=>rfl
 | cons h t ih=>rw [List.any_cons,List.any_cons,ih,h.1]
theorem KV.repl {kvs:List (κ × V)} {vs:List (κ × Value)} (r:KV kvs vs) (k : κ) {y:V} {u:Value} (ry:RelV y u) :
  KV (kvs.map λ kv=>if kv.1=k then (kv.1,y) else kv) (vs.map λ kv=>if kv.1=k then (kv.1,u) else kv):=by
 unfold KV at r ⊢
 induction r with
 | nil=>exact .nil
 | @cons p q ps qs h t ih =>
  rw [List.map_cons,List.map_cons]
  refine .cons ?_ ih
  obtain ⟨h1,h2⟩:=h
  by_cases e:p.1=k
  ·rw [if_pos e,if_pos (h1.symm.trans e)];exact ⟨h1,ry⟩
  ·rw [if_neg e,if_neg (λ z=>e (h1.trans z))];exact ⟨h1,h2⟩
theorem KV.put {kvs:List (κ × V)} {vs:List (κ × Value)} (r:KV kvs vs) (k : κ) {y:V} {u:Value} (ry:RelV y u):KV (putK kvs k y) (stored vs k u):=by
 unfold putK stored
 rw [r.any k]
 by_cases e:(vs.any λ kv=>decide (kv.1=k))=true
 ·rw [if_pos e,if_pos e];exact r.repl k ry
 ·rw [if_neg e,if_neg e];exact Paired.snoc r ⟨rfl,ry⟩
theorem KV.drop {kvs:List (κ × V)} {vs:List (κ × Value)} (r:KV kvs vs) (k : κ):KV (dropK kvs k) (without vs k):=by
 unfold KV at r ⊢
 unfold dropK without
 induction r with
 | nil=>exact .nil
 | @cons p q ps qs h t ih =>
  obtain ⟨h1,h2⟩:=h
  rw [List.filter_cons,List.filter_cons]
  by_cases e:p.1=k
  ·have a : ¬ decide (p.1≠k)=true:=by simp [e]
   have b : ¬ decide (q.1≠k)=true:=by simp [h1.symm.trans e]
   rw [if_neg a,if_neg b];exact ih
  ·have e' : ¬ q.1=k:=λ z=>e (h1.trans z)
   have a:decide (p.1≠k)=true:=by simp [e]
   have b:decide (q.1≠k)=true:=by simp [e']
   rw [if_pos a,if_pos b];exact .cons ⟨h1,h2⟩ ih
theorem KV.keys {kvs:List (κ × V)} {vs:List (κ × Value)} (r:KV kvs vs):kvs.map (·.1)=vs.map (·.1):=by
 unfold KV at r
 induction r with
 | nil=>rfl
 | cons h t ih=>rw [List.map_cons,List.map_cons,ih,h.1]
theorem KV.length {kvs:List (κ × V)} {vs:List (κ × Value)} (r:KV kvs vs):kvs.length=vs.length:=Paired.length r
theorem dropK_le (kvs:List (κ × V)) (k : κ):(dropK kvs k).length<=kvs.length:=List.length_filter_le _ _
end
theorem kV_is {P:Program} {w:World} {k:Key} {u:Value} (r:RelV (kV k) u):(mixKind P w).is k u=true:=by
 cases k with
 | inl i=>obtain ⟨t,e⟩:=(show ∃ t,u=Value.int i t from r);subst e;exact mixKind_int P w i t
 | inr x=>obtain ⟨t,e⟩:=(show ∃ t,u=Value.str x t from r);subst e;exact mixKind_str P w x t
theorem items_are {P:Program} {w:World} : ∀ {ks:List Key} {us:List Value},Vals (ks.map kV) us->ItemsAre (mixKind P w) ks us
 | [],_,r=>by rw [List.map_nil] at r;cases r;exact .nil
 | k::ks,_,r=>by
  rw [List.map_cons] at r
  cases r with
  | cons h t=>exact .cons (kV_is h) (items_are t)
abbrev KT (H:Hp):List (List Key×V)->List (List Key×Addr×Value)->Prop:=Paired λ p q=>p.1=q.1/\H q.2.1=some (.tup (p.1.map kV))/\RelV p.2 q.2.2
theorem KT.val {H:Hp} {kvs:List (List Key×V)} {xs:List (List Key×Addr×Value)} (r:KT H kvs xs) (k:List Key):RelO (valV kvs k) ((atKey xs k).map (·.2)):=by
 induction r with
 | nil=>exact True.intro
 | @cons p q ps qs h t ih =>
  obtain ⟨h1,_,h2⟩:=h
  by_cases e:p.1=k
  ·have e':q.1=k:=h1.symm.trans e
   have b:atKey (q::qs) k=some q.2:=by simp [atKey,List.find?_cons,e']
   rw [valV_pos e,b];exact h2
  ·have e' : ¬ q.1=k:=λ z=>e (h1.trans z)
   have b:atKey (q::qs) k=atKey qs k:=by simp [atKey,List.find?_cons,e']
   rw [valV_neg e,b];exact ih
theorem KT.repl {H:Hp} {kvs:List (List Key×V)} {xs:List (List Key×Addr×Value)} (r:KT H kvs xs) (k:List Key) {y:V} {u:Value} (ry:RelV y u) :
  KT H (kvs.map λ kv=>if kv.1=k then (kv.1,y) else kv) (xs.map (putAt k u)):=by
 induction r with
 | nil=>exact .nil
 | @cons p q ps qs h t ih =>
  rw [List.map_cons,List.map_cons]
  refine .cons ?_ ih
  obtain ⟨h1,h2,h3⟩:=h
  unfold putAt
  by_cases e:p.1=k
  ·rw [if_pos e,if_pos (h1.symm.trans e)];exact ⟨h1,h2,ry⟩
  ·rw [if_neg e,if_neg (λ z=>e (h1.trans z))];exact ⟨h1,h2,h3⟩
theorem KT.put {H:Hp} {kvs:List (List Key×V)} {xs:List (List Key×Addr×Value)} (r:KT H kvs xs) (k:List Key) {b:Addr} {y:V} {u:Value} (hb:H b=some (.tup (k.map kV))) (ry:RelV y u) :
  KT H (putK kvs k y) (storedH xs k b u):=by
 have e:(kvs.any λ kv=>decide (kv.1=k))=(atKey xs k).isSome:=by
  rw [valV_any,(r.val k).isSome_eq,Option.isSome_map]
 unfold putK storedH
 rw [e]
 by_cases q:(atKey xs k).isSome=true
 ·rw [if_pos q,if_pos q];exact r.repl k ry
 ·rw [if_neg q,if_neg q];exact Paired.snoc r ⟨rfl,hb,ry⟩
theorem KT.keeps {H H':Hp} {kvs:List (List Key×V)} {xs:List (List Key×Addr×Value)} (r:KT H kvs xs) (ht : ∀ b ys,H b=some (.tup ys)->H' b=some (.tup ys)):KT H' kvs xs :=
 Paired.mapP r λ _ _ z=>⟨z.1,ht _ _ z.2.1,z.2.2⟩
section
variable {P:Program} {w:World} {H:Hp} {h:Heap} {a:Addr}
theorem rd_of {u:HO} (ok:HOk P w H h) (e:Rd H a u):ObjOk P w H h a u:=e.ok ok
theorem dk_rd {kvs:List (Key×V)} (ok:HOk P w H h) (e:Rd H a (.dK kvs)):kvs.length<=sizeLine/\(a == sysModules)=false /\ ∃ vs,KV kvs vs/\h.DictOf (mixKind P w) a vs :=
 show ObjOk P w H h a (.dK kvs) from rd_of ok e
theorem dk_of {kvs:List (Key×V)} (ok:HOk P w H h) (e:H a=some (.dK kvs)):kvs.length<=sizeLine/\(a == sysModules)=false /\ ∃ vs,KV kvs vs/\h.DictOf (mixKind P w) a vs:=dk_rd ok (.inl e)
theorem key_of {ks:List Key} (ok:HOk P w H h) (e:H a=some (.tup (ks.map kV))):(tupleKind (mixKind P w)).is h ks a:=by
 obtain ⟨_,its,r,o,h1,h2,⟨n,h3⟩,_⟩:=(show ObjOk P w H h a (.tup (ks.map kV)) from ok a _ e)
 exact ⟨o,its.toArray,n,h1,h2,h3,by simpa using items_are r⟩
theorem dt_rd {kvs:List (List Key×V)} (ok:HOk P w H h) (e:Rd H a (.dT kvs)):kvs.length<=sizeLine/\(a == sysModules)=false /\
  ∃ xs,KT H kvs xs/\h.DictOfH (tupleKind (mixKind P w)) a xs:=by
 obtain ⟨z,y,xs,r,o,es,ep,h1,h2,h3,h4,h5⟩:=(show ObjOk P w H h a (.dT kvs) from rd_of ok e)
 refine ⟨z,y,xs,r,o,es,ep,h1,h2,h3,h4,λ x hx=>?_,h5⟩
 have all : ∀ {l:List (List Key×V)} {m:List (List Key×Addr×Value)},KT H l m -> ∀ x∈m,(tupleKind (mixKind P w)).is h x.1 x.2.1:=by
  intro l m q
  induction q with
  | nil=>intro x hx;exact nomatch hx
  | @cons p q ps qs hq t ih =>
   intro x hx
   rcases List.mem_cons.mp hx with e | hx
   ·subst e
    exact key_of ok (by rw [<-hq.1];exact hq.2.1)
   ·exact ih x hx
 exact all r x hx
theorem dt_of {kvs:List (List Key×V)} (ok:HOk P w H h) (e:H a=some (.dT kvs)):kvs.length<=sizeLine/\(a == sysModules)=false /\
  ∃ xs,KT H kvs xs/\h.DictOfH (tupleKind (mixKind P w)) a xs:=dt_rd ok (.inl e)
end
def DGet (H:Hp) (a:Addr) (y:V) (r:Option V):Prop :=
 (∃ kvs k,Rd H a (.dK kvs)/\y=kV k/\r=valV kvs k) \/ ∃ kvs k b,Rd H a (.dT kvs)/\y=.ref b/\H b=some (.tup (k.map kV))/\r=valV kvs k
def DPut (H:Hp) (a:Addr) (y v:V) (H':Hp):Prop :=
 (∃ kvs k,H a=some (.dK kvs)/\y=kV k/\kvs.length<sizeLine/\H'=upd H a (.dK (putK kvs k v))) \/
 ∃ kvs k b,H a=some (.dT kvs)/\y=.ref b/\H b=some (.tup (k.map kV))/\kvs.length<sizeLine/\H'=upd H a (.dT (putK kvs k v))
theorem DGet.k {H:Hp} {a:Addr} {kvs:List (Key×V)} {k:Key} (e:H a=some (.dK kvs)):DGet H a (kV k) (valV kvs k):=.inl ⟨kvs,k,.inl e,rfl,rfl⟩
theorem DGet.t {H:Hp} {a b:Addr} {kvs:List (List Key×V)} {k:List Key} (e:H a=some (.dT kvs)) (eb:H b=some (.tup (k.map kV))):DGet H a (.ref b) (valV kvs k):=.inr ⟨kvs,k,b,.inl e,rfl,eb,rfl⟩
theorem DPut.k {H:Hp} {a:Addr} {kvs:List (Key×V)} {k:Key} {v:V} (e:H a=some (.dK kvs)) (hl:kvs.length<sizeLine):DPut H a (kV k) v (upd H a (.dK (putK kvs k v))):=.inl ⟨kvs,k,e,rfl,hl,rfl⟩
theorem DPut.t {H:Hp} {a b:Addr} {kvs:List (List Key×V)} {k:List Key} {v:V} (e:H a=some (.dT kvs)) (eb:H b=some (.tup (k.map kV))) (hl:kvs.length<sizeLine) :
  DPut H a (.ref b) v (upd H a (.dT (putK kvs k v))):=.inr ⟨kvs,k,b,e,rfl,eb,hl,rfl⟩
section
variable {X:Cx} {pins:List (Addr×Obj)} {σ:St} {H:Hp} {s:Shared} {a:Addr} {y v:V} {u r:Value} {o:Option V} {A:Around} {E:Value->Shared->Prop}
theorem Inv.big (I:Inv X pins σ H s):sysModules<s.heap.objs.size:=by
 have h:mainGlobals<s.heap.objs.size:=(I.mod.glob.keeps I.bk).lt
 exact Nat.lt_trans (by decide) h
theorem d_getItem {Q:Value->Shared->Prop} (hu:A.units+1<cLine) (I:Inv X pins σ H s) (g:DGet H a y (some v)) (ry:RelV y u) (h : ∀ w' s',Inv X pins σ H s'->RelV v w'->Q w' s') :
  wpAny (model X.prog X.w) A (getItem (.ref a) u) Q E s:=by
 rcases g with ⟨kvs,k,e,ey,l⟩ | ⟨kvs,k,b,e,ey,eb,l⟩
 ·subst ey
  obtain ⟨z,hd,vs,rel,dd⟩:=dk_rd I.hok e
  obtain ⟨w',hw,rw'⟩:=RelO.some_of (v:=v) (o:=valueAt vs k) (by rw [l];exact rel.val k)
  exact wpAny_getItem_of (kV_is ry) dd.mapOf hw (h w' _ (I.tok _) rw')
 ·subst ey
  cases (show u=Value.ref b from ry)
  obtain ⟨z,hd,xs,rel,dd⟩:=dt_rd I.hok e
  obtain ⟨w',hw,rw'⟩:=RelO.some_of (v:=v) (o:=(atKey xs k).map (·.2)) (by rw [l];exact rel.val k)
  obtain ⟨p,hp,hp2⟩:=Option.map_eq_some_iff.mp hw
  refine wpAny_getItem_heap (tupleKind_room_in1 hu) (key_of I.hok eb) dd hp ?_
  rw [hp2]
  exact h w' _ (I.tok _) rw'
theorem d_in {Q:Value->Shared->Prop} (hu:A.units+1<cLine) (I:Inv X pins σ H s) (g:DGet H a y o) (ry:RelV y u) (h : ∀ s',Inv X pins σ H s'->Q (.bool o.isSome) s') :
  wpAny (model X.prog X.w) A (compareOp .In u (.ref a)) Q E s:=by
 rcases g with ⟨kvs,k,e,ey,l⟩ | ⟨kvs,k,b,e,ey,eb,l⟩
 ·subst ey
  obtain ⟨z,hd,vs,rel,dd⟩:=dk_rd I.hok e
  refine wpAny_in_of (kV_is ry) hd dd.mapOf ?_
  rw [<-(rel.val k).isSome_eq,<-l]
  exact h _ (I.tok _)
 ·subst ey
  cases (show u=Value.ref b from ry)
  obtain ⟨z,hd,xs,rel,dd⟩:=dt_rd I.hok e
  refine wpAny_in_heap (tupleKind_room_in1 hu) (key_of I.hok eb) hd dd ?_
  have q:=(rel.val k).isSome_eq
  rw [Option.isSome_map] at q
  rw [<-q,<-l]
  exact h _ (I.tok _)
theorem d_notIn {Q:Value->Shared->Prop} (hu:A.units+1<cLine) (I:Inv X pins σ H s) (g:DGet H a y o) (ry:RelV y u) (h : ∀ s',Inv X pins σ H s'->Q (.bool (!o.isSome)) s') :
  wpAny (model X.prog X.w) A (compareOp .NotIn u (.ref a)) Q E s:=by
 rcases g with ⟨kvs,k,e,ey,l⟩ | ⟨kvs,k,b,e,ey,eb,l⟩
 ·subst ey
  obtain ⟨z,hd,vs,rel,dd⟩:=dk_rd I.hok e
  refine wpAny_notIn_of (kV_is ry) hd dd.mapOf ?_
  rw [<-(rel.val k).isSome_eq,<-l]
  exact h _ (I.tok _)
 ·subst ey
  cases (show u=Value.ref b from ry)
  obtain ⟨z,hd,xs,rel,dd⟩:=dt_rd I.hok e
  refine wpAny_notIn_heap (tupleKind_room_in1 hu) (key_of I.hok eb) hd dd ?_
  have q:=(rel.val k).isSome_eq
  rw [Option.isSome_map] at q
  rw [<-q,<-l]
  exact h _ (I.tok _)
theorem d_write {h':Heap} {t':Nat} {ob:HO} (I:Inv X pins σ H s) (mu:Mut (H a)) (hs:Heap.SameBut a s.heap h') (he : ∃ q,h'.get? a=some q) (new:ObjOk X.prog X.w (upd H a ob) h' a ob) :
  Inv X pins σ (upd H a ob) { s with heap:=h',toks:=t' } :=
 I.write (x:=a) (e:=a) mu (.inl rfl) (λ b q hb z=>(hs.2 b hb).trans z) he new
theorem dk_new {P:Program} {w:World} {H':Hp} {h':Heap} {kvs:List (Key×V)} {vs:List (Key×Value)} (z:kvs.length<=sizeLine) (hd:(a == sysModules)=false) (rel:KV kvs vs) (dd:h'.DictOf (mixKind P w) a vs) :
  ObjOk P w H' h' a (.dK kvs):=⟨z,hd,vs,rel,dd⟩
theorem d_setItem {H':Hp} {Q:Unit->Shared->Prop} (hu:A.units+1<cLine) (I:Inv X pins σ H s) (g:DPut H a y v H') (ry:RelV y u) (rv:RelV v r) (h : ∀ s',Inv X pins σ H' s'->Q () s') :
  wpAny (model X.prog X.w) A (setItem (.ref a) u r) Q E s:=by
 rcases g with ⟨kvs,k,e,ey,l,eH⟩ | ⟨kvs,k,b,e,ey,eb,l,eH⟩
 ·subst ey eH
  obtain ⟨z,hd,vs,rel,dd⟩:=dk_of I.hok e
  have hz:vs.length<=sizeLine:=by rw [<-rel.length];exact z
  have hl:(putK kvs k v).length<=sizeLine:=by have:=length_putK kvs k v;omega
  refine wpAny_setItem_pairs (hsz:=hz) (kV_is ry) dd λ h' dd' hs=>h _ ?_
  have he : ∃ q,h'.get? a=some q:=let ⟨q,_,_,hq,_⟩:=dd';⟨q,hq⟩
  exact d_write I (by rw [e];exact True.intro) hs he (dk_new hl hd (rel.put k rv) dd')
 ·subst ey eH
  cases (show u=Value.ref b from ry)
  obtain ⟨z,hd,xs,rel,dd⟩:=dt_of I.hok e
  have hz:xs.length<=sizeLine:=by rw [<-Paired.length rel];exact z
  have hl:(putK kvs k v).length<=sizeLine:=by have:=length_putK kvs k v;omega
  refine wpAny_setItem_heap (hsz:=hz) (tupleKind_room_in1 hu) (key_of I.hok eb) dd λ h' dd' hs=>h _ ?_
  obtain ⟨q,es,ep,hq,h2,h3,h4,_,h5⟩:=dd'
  refine d_write I (by rw [e];exact True.intro) hs ⟨q,hq⟩ ⟨hl,hd,_,(rel.put k eb rv).keeps λ c ys ec=>?_,q,es,ep,hq,h2,h3,h4,h5⟩
  rw [upd_ne (ne_of ec e (λ z=>nomatch z))]
  exact ec
end
section
variable {X:Cx} {pins:List (Addr×Obj)} {σ:St} {H:Hp} {s:Shared} {a:Addr} {kvs:List (Key×V)} {k:Key} {u:Value} {A:Around} {E:Value->Shared->Prop}
theorem d_pop {v:V} {more:List Value} {Q:Value->Shared->Prop} (I:Inv X pins σ H s) (e:H a=some (.dK kvs)) (ry:RelV (kV k) u) (l:valV kvs k=some v) (hm:more=[] \/ ∃ x,more=[x])
  (h : ∀ w' s',Inv X pins σ (upd H a (.dK (dropK kvs k))) s'->RelV v w'->Q w' s'):wpAny (model X.prog X.w) A (call (.builtin "dict.pop") (.ref a::u::more)) Q E s:=by
 obtain ⟨z,hd,vs,rel,dd⟩:=dk_of I.hok e
 obtain ⟨w',hw,rw'⟩:=RelO.some_of (v:=v) (o:=valueAt vs k) (by rw [<-l];exact rel.val k)
 have hp:(keyPart u).isSome=true:=by
  cases k with
  | inl i=>obtain ⟨t,q⟩:=(show ∃ t,u=Value.int i t from ry);subst q;rfl
  | inr x=>obtain ⟨t,q⟩:=(show ∃ t,u=Value.str x t from ry);subst q;rfl
 have ha:argsOk "dict.pop" ⟨.ref a::u::more,[]⟩:=by
  rcases hm with q | ⟨x,q⟩
  ·subst q;exact PySem.F.args_dict_pop_2 _ _
  ·subst q;exact PySem.F.args_dict_pop_3 _ _ _
 refine call_meetsIn PySem.F.slot_dict_pop dd.typeIs PySem.F.entry_dict_pop ha (meets_dict_pop_there (mixKind X.prog X.w) a (kV_is ry) more hm hp)
  ⟨vs,w',dd,by rw [<-rel.length];exact z,hw,λ h' dd' hs=>h w' _ ?_ rw'⟩
 have he : ∃ q,h'.get? a=some q:=let ⟨q,_,_,hq,_⟩:=dd';⟨q,hq⟩
 exact d_write I (by rw [e];exact True.intro) hs he (dk_new (Nat.le_trans (dropK_le kvs k) z) hd (rel.drop k) dd')
theorem d_len {Q:Value->Shared->Prop} (I:Inv X pins σ H s) (e:Rd H a (.dK kvs)) (h : ∀ t s',Inv X pins σ H s'->Q (.int kvs.length t) s'):wpAny (model X.prog X.w) A (call (.builtin "len") [.ref a]) Q E s:=by
 obtain ⟨z,hd,vs,rel,dd⟩:=dk_rd I.hok e
 refine call_len_dict hd dd (by rw [<-rel.length];rw [sizeLine_eq] at z;omega) ?_
 rw [<-rel.length]
 exact h _ _ (I.tok _)
end
def NoSl (i:Expr):Prop := ∀ ov iv,subscripted i false ov iv=operate [ov,iv] (getItem ov iv)
theorem subD_of {prog:Program} {w:World} {A:Around} {E:Value->Shared->Prop} {s:Shared} {env:Env} {value slice:Expr} {pos:Pos} {T id:String} {Q:Value->Shared->Prop}
  (hl:typeLookup (.type T) "__getitem__" = pure (some (.builtin id))) (hs:NoSl slice)
  (h:wpAny (model prog w) A (eval value env) (λ o s₁=>wpAny (model prog w) A (eval slice env) (λ i s₂=>s₂.TypeIs o T/\wpAny (model prog w) A (getItem o i) Q E s₂) E s₁) E s) :
  wpAny (model prog w) A (eval (.Subscript value slice pos) env) Q E s:=by
 refine Subscript_ (wpAny_mono h (λ o s₁ h₁=>wpAny_mono h₁ (λ i s₂ h₂=>?_) λ _ _ x=>x) λ _ _ x=>x)
 obtain ⟨hT,h₂⟩:=h₂
 unfold subscriptTail
 refine wpAny_bind ?_
 rw [getitemInPython_of_ne hT.not_modules]
 refine wpAny_bind (wpAny_specialOf hT hl ?_)
 have fin:wpAny (model prog w) A (subscripted slice false o i) (λ r s₃=>wpAny (model prog w) A (letTemporaryGo value o r>>=λ _=>pure r) Q E s₃) E s₂:=by
  rw [hs o i]
  exact wpAny_operating (wpAny_mono h₂ (λ r s₃ h₃=>wpAny_bind (wpAny_letTemporaryGo (wpAny_pure h₃))) λ _ _ x=>x)
 first
  | exact wpAny_pure (wpAny_bind fin)
  | exact wpAny_bind (wpAny_pure (wpAny_bind fin))
  | exact wpAny_bind fin
theorem dict_typeIs {X:Cx} {pins:List (Addr×Obj)} {σ:St} {H:Hp} {s:Shared} {a:Addr} {y:V} {o:Option V} (I:Inv X pins σ H s) (g:DGet H a y o):s.TypeIs (.ref a) "dict" := by
 rcases g with ⟨kvs,k,e,_,_⟩ | ⟨kvs,k,b,e,_,_,_⟩
 ·obtain ⟨_,_,vs,_,dd⟩:=dk_rd I.hok e
  exact dd.typeIs
 ·obtain ⟨_,_,xs,_,dd⟩:=dt_rd I.hok e
  exact dd.typeIs
theorem dt_empty {P:Program} {w:World} {H:Hp} (h:Heap) (hb:sysModules<h.objs.size):ObjOk P w H (h.push { cls:=.type "dict", data:=.dict #[] }) h.objs.size (.dT []) :=
 ⟨Nat.zero_le _,beq_eq_false_iff_ne.mpr (Ne.symm (Nat.ne_of_lt hb)),[],.nil,_,#[],0,Heap.get?_push_size _ rfl,⟨rfl,rfl,rfl⟩,rfl,rfl,List.nodup_nil⟩
def tDNewT:TE:=λ _ H Q => ∀ p,H p=none->Q (.ref p) (upd H p (.dT []))
section
variable {X:Cx} {pos:Pos}
theorem pe_dnewT:PE X (.Dict [] [] pos) tDNewT:=λ pins s σ H Q I h =>
 wpAny_Dict_empty ⟨.ref s.heap.objs.size,_,I.laid (a:=s.heap.objs.size) (o:=.dT []) (t':=s.toks) (λ _ _ q=>Heap.get?_push_of_some _ q) (Nat.le_refl _) (dt_empty s.heap I.big),rfl,h _ (I.hok.fresh (Nat.le_refl _))⟩
end
theorem qs_never {X:Cx} {st:Stmt}:QS X st tNever:=⟨ps_never⟩
def Ite (a:Addr):It :=
 ⟨λ i H => ∃ xs x,H a=some (.lst xs)/\xs[i]?=some x,
 λ i H v H' => ∃ p,H p=none/\v=.ref p /\ ∃ x,H'=upd H p (.tup [.int (i:Int),x]) /\ ∀ xs,H a=some (.lst xs)->xs[i]?=some x,
 λ i H => ∃ xs,H a=some (.lst xs)/\xs.length<=i⟩
theorem turn_enum {cm:Bool} {P:Program} {w:World} {K:PySem.W.Frag} {tg:Expr} (htg:tupleTg tg=true) {e it a:Addr} (hne:e≠it) :
  Turn P w K cm tg (Ite a) [e,it] e (λ i h=>(∃ old,IsEnum h e it (i:Int) old)/\h.IsListIter it a i) where
 mem:=List.mem_cons_self
 obj:=λ i h st c hc=>by
  obtain ⟨⟨old,h1⟩,⟨o4,h4,_,d4⟩⟩:=st
  have nof : ∀ {o:Obj} {vs:Array Value},o.data=.fields vs -> ∀ v,o.data≠.cell v:=λ e v q=>by rw [e] at q;cases q
  simp only [List.mem_cons,List.not_mem_nil,or_false] at hc
  rcases hc with rfl | rfl
  ·exact ⟨_,h1,nof rfl⟩
  ·exact ⟨_,h4,nof d4⟩
 keep:=λ i h h' st k=>by
  obtain ⟨⟨old,h1⟩,⟨o4,h4,r4⟩⟩:=st
  exact ⟨⟨old,k _ (by simp) _ h1⟩,⟨o4,k _ (by simp) _ h4,r4⟩⟩
 item:=by
  intro X hP hw hK hkc hc i pins s σ H E I hf st hg
  subst hP hw hK
  obtain ⟨⟨old,h1⟩,h4⟩:=st
  obtain ⟨xs,x,qa,hx⟩:=hg
  obtain ⟨z,its,n,rv,hlen,e0⟩:=I.lstM qa
  obtain ⟨ux,eux,rux⟩:=rv.get hx
  refine wpAny_pyNext_enum_item h1 h4 (show s.heap.IsList a its.toArray from ⟨_,e0,rfl,n,rfl⟩) (x:=ux) (by simpa using eux) hne λ g b1 b2 b3 b4 b5=>?_
  refine ⟨_,rfl,?_⟩
  have elt:e<s.heap.objs.size:=Heap.lt_size h1
  cases tg with
  | Tuple es kk pp =>
   refine wpAny_letOwnedTupleGo_enum b1 λ g' c1 sb=>?_
   have new:g'.get? s.heap.objs.size=some { cls:=.type "tuple", data:=.seq #[.int i s.toks,ux] }:=sb.extBut _ _ (Nat.ne_of_gt elt) b3
   have I1:Inv X pins σ (upd H s.heap.objs.size (.tup [.int (i:Int),x])) { s with heap:=g',toks:=s.toks+1 }:=by
    refine I.turnedNew (t':=s.toks+1) (L:=[e,it]) (λ c o hcn eo=>?_) hf (Nat.le_refl _) ⟨by show 2<=sizeLine;decide,[.int i s.toks,ux],.cons ⟨_,rfl⟩ (.cons rux .nil),⟨_,new,rfl,⟨0,rfl⟩,rfl⟩⟩
    simp only [List.mem_cons,List.not_mem_nil,or_false,not_or] at hcn
    exact sb.extBut c o hcn.1 (b5 c o hcn.1 hcn.2 eo)
   refine ⟨.ref s.heap.objs.size,_,I1,rfl,⟨_,I.fresh,rfl,x,rfl,λ xs' q1=>?_⟩,⟨⟨ux,?_⟩,b2.extBut sb.extBut hne.symm⟩,λ c hcm=>?_⟩
   ·rw [qa] at q1;cases q1;exact hx
   ·rw [show ((i+1:Nat):Int)=(i:Int)+1 by omega];exact c1
   ·obtain ⟨o,eo⟩ : ∃ o,s.heap.get? c=some o:=by
     simp only [List.mem_cons,List.not_mem_nil,or_false] at hcm
     rcases hcm with rfl | rfl
     ·exact ⟨_,h1⟩
     ·obtain ⟨o4,g4,_⟩:=h4
      exact ⟨_,g4⟩
    rw [upd_ne (Nat.ne_of_lt (Heap.lt_size eo))]
    exact (hf c hcm).1
  | _=>exact absurd (show false=true from htg) Bool.false_ne_true
 done:=by
  intro X hP hw hK hkc hc i pins s σ H E I hf st hg
  subst hP hw hK
  obtain ⟨⟨old,h1⟩,h4⟩:=st
  obtain ⟨xs,qa,hl⟩:=hg
  obtain ⟨z,its,n,rv,hlen,e0⟩:=I.lstM qa
  refine Hd.enum_end (I.hin hc) h1 h4 (show s.heap.IsList a its.toArray from ⟨_,e0,rfl,n,rfl⟩) (by simp;omega) λ g up=>⟨rfl,?_⟩
  refine I.turnedL (t':=s.toks) (L:=[e,it]) (λ c o hcn eo=>?_) hf
  simp only [List.mem_cons,List.not_mem_nil,or_false,not_or] at hcn
  exact up c o hcn.2 eo
 self:=λ _ _ _ _ _ st h=>by
  obtain ⟨⟨old,h1⟩,_⟩:=st
  exact wpAny_pyIter_enum h1 h
section
variable {X:Cx} {tg:Expr}
def iEnum (ta:TA):TI:=λ σ H R=>ta σ H λ vs H1 => ∃ a xs,vs=[.ref a]/\H1 a=some (.lst xs)/\R (Ite a) H1
theorem pi_enum {e1:Expr} {ta:TA} {p pos:Pos} (htg:tupleTg tg=true) (hg:Gl X "enumerate") (hm:X.mg "enumerate" = none) (ha:PA X [e1] ta) (hs:starEach [e1] X.env=[(false,eval e1 X.env)]:=by rfl)
  (hb:bootBuiltins "enumerate" = some (.type "enumerate"):=by decide +kernel):PI X tg (.Call (.Name "enumerate" p) [e1] [] pos) (iEnum ta):=by
 intro pins s σ H R I h
 refine Call_ (ld_blt I hg hm hb (PyProof.Rows.callWith_type1 (thn (ha pos pins s σ H _ I h) λ us s1 ⟨vs,H1,I1,r1,q1⟩=>?_) hs rfl))
 obtain ⟨a,xs,e,qa,q⟩:=q1
 subst e
 obtain ⟨u1,rfl,ra⟩:=vals1 r1
 cases ra
 obtain ⟨z,its,n,rv,hlen,e0⟩:=I1.lstM qa
 refine call_enumerate_1 e0 λ g z1 z2 z3 up=>?_
 refine wpAny_pyIter_enum z1 ?_
 have I2:Inv X pins σ H1 { s1 with heap:=g }:=I1.kept (t':=s1.toks) up
 refine ⟨_,[s1.heap.objs.size+1,s1.heap.objs.size],_,_,H1,rfl,I2,turn_enum htg (Nat.ne_of_gt (Nat.lt_succ_self _)),⟨⟨_,z1⟩,z2⟩,λ c hc=>?_,q⟩
 have big:s1.heap.objs.size<=c:=by
  simp only [List.mem_cons,List.not_mem_nil,or_false] at hc
  rcases hc with rfl | rfl
  ·exact Nat.le_add_right _ _
  ·exact Nat.le_refl _
 exact I1.fpOk big (I1.hok.fresh big)
theorem qi_enum {e1:Expr} {ta:TA} {p pos:Pos} (htg:tupleTg tg=true) (hg:Gl X "enumerate") (hm:X.mg "enumerate" = none) (ha:QA X [e1] ta) (hs:starEach [e1] X.env=[(false,eval e1 X.env)]:=by rfl)
  (hb:bootBuiltins "enumerate" = some (.type "enumerate"):=by decide +kernel):QI X tg (.Call (.Name "enumerate" p) [e1] [] pos) (iEnum ta):=⟨pi_enum htg hg hm ha.o hs hb⟩
end
theorem for_enum {a:Addr} {xs:List V} {g:TG} {tb:TS} {D:Ends} {σ:St} {H:Hp} (Pv:Nat->St->Hp->Prop) (h0:Pv 0 σ H) (hl : ∀ i σ H,i<=xs.length->Pv i σ H->H a=some (.lst xs))
  (hs : ∀ i x p σ H,xs[i]?=some x->H p=none->Pv i σ H->g (.ref p) σ (upd H p (.tup [.int (i:Int),x])) λ σ2 H2=>tb { D with nx:=Pv (i+1),ct:=Pv (i+1),bk:=D.nx } σ2 H2) (hd : ∀ σ H,Pv xs.length σ H->D.nx σ H) :
  ∃ W:Nat->Nat->St->Hp->Prop,(∃ m,W 0 m σ H) /\ ∀ i m σ H,W i m σ H ->
   ((Ite a).stop i H/\D.nx σ H)\/((Ite a).go i H /\ ∃ N:St->Hp->Prop,(∀ σ' H',N σ' H' -> ∃ m',m'<m/\W (i+1) m' σ' H') /\ ∀ x H',(Ite a).yld i H x H'->g x σ H' λ σ2 H2=>tb { D with nx:=N,ct:=N,bk:=D.nx } σ2 H2):=by
 refine ⟨λ i m σ H=>m=xs.length - i/\i<=xs.length/\Pv i σ H,⟨_,rfl,Nat.zero_le _,h0⟩,?_⟩
 rintro i m σ H ⟨rfl,hi,p⟩
 have qa:=hl i σ H hi p
 by_cases hlt:i<xs.length
 ·refine .inr ⟨⟨xs,xs[i],qa,by simp [hlt]⟩,Pv (i+1),λ σ' H' p'=>⟨xs.length - (i+1),by omega,rfl,hlt,p'⟩,λ v H' yv=>?_⟩
  obtain ⟨q,hq,rfl,x,rfl,hxy⟩:=yv
  exact hs i x q σ H (hxy xs qa) hq p
 ·have e:i=xs.length:=by omega
  refine .inl ⟨⟨xs,qa,by omega⟩,hd σ H (e ▸ p)⟩
def RowV (H:Hp) (x:V) (c:List Int):Prop := ∃ a,x=.ref a/\H a=some (.tup (c.map V.int))
def RowsV (H:Hp) (xs:List V) (cs:List (List Int)):Prop:=xs.length=cs.length /\ ∀ (i:Nat) (x:V),xs[i]?=some x -> ∃ c,cs[i]?=some c/\RowV H x c
theorem map_int_inj : ∀ {ns ms:List Int},ns.map V.int=ms.map V.int->ns=ms
 | [],[],_=>rfl
 | [],_::_,h=>by cases h
 | _::_,[],h=>by cases h
 | n::ns,m::ms,h=>by
  injection h with h1 h2
  injection h1 with h1
  rw [h1,map_int_inj h2]
section
variable {X:Cx}
theorem all_range_eq : ∀ (ns ms:List Int),((List.range (min ns.length ms.length)).all (λ j=>ns.getD j 0 == ms.getD j 0)&&ns.length == ms.length)=decide (ns=ms):=by
 intro ns ms
 by_cases h:ns=ms
 ·subst h
  simp
 ·rw [decide_eq_false h]
  by_cases hl:ns.length=ms.length
  ·rw [Bool.and_eq_false_iff]
   refine .inl ?_
   rw [Bool.eq_false_iff]
   intro z
   rw [List.all_eq_true] at z
   refine h (List.ext_getElem hl λ i h1 h2=>?_)
   have:=z i (List.mem_range.mpr (by omega))
   simpa [h1,h2] using this
  ·rw [Bool.and_eq_false_iff]
   exact .inr (by simpa using hl)
theorem eqAt_tup {A:Around} {s:Shared} {l b:Addr} {us vs:List Value} {ns ms:List Int} (hl:s.heap.IsTuple l us.toArray) (hb:s.heap.IsTuple b vs.toArray) (hi:IntsAre us ns) (hj:IntsAre vs ms) (hu:A.units<cLine):SeqAt.RcAt A s (.ref l) (.ref b) (decide (ns=ms)):=by
 have e1:=hi.length
 have e2:=hj.length
 rw [<-all_range_eq]
 have:=SeqAt.RcAt.tuples (A:=A) (s:=s) (e:=λ j=>ns.getD j 0 == ms.getD j 0) hl hb hu λ j h1 h2=>?_
 ·rw [List.size_toArray,List.size_toArray,e1,e2] at this
  exact this
 ·obtain ⟨t,et⟩:=hi.int_at j us.toArray[j] (by simp)
  obtain ⟨t',et'⟩:=hj.int_at j vs.toArray[j] (by simp)
  rw [et,et']
  exact SeqAt.EqAt.int_int _ _ _ _
end
end L2
namespace Xn
open PySem PyProof.Rows
theorem dict_mapFields (o:Obj) (f:Array Value->Array Value):(Obj.mapFields f o).dict=o.dict:=by
 unfold Obj.mapFields
 split<;>rfl
def Rec (h:Heap) (e:Addr) (C:Value) (d:Option Addr) (head:Value):Prop := ∃ oe vs,h.get? e=some oe/\oe.cls=C/\oe.dict=d/\oe.data=.fields vs/\vs[1]?=some head/\vs[2]?=some .none
def Ent (h:Heap) (T:Addr) (fl:Value):Prop := ∃ oT ts,h.get? T=some oT/\oT.data=.fields ts/\ts[3]?=some fl
abbrev fra (l:List Env):List Addr:=l.filterMap (·.frame)
def KeptBut (L F:List Addr) (h h':Heap):Prop:=(∀ b o,b∉L->b∉F->h.get? b=some o->h'.get? b=some o) /\ ∀ b o,b∉L->b∈F->h.get? b=some o -> ∃ sl,h'.get? b=some { o with slots:=sl }
theorem KeptBut.trans {L L' F:List Addr} {h h1 h2:Heap} (x:KeptBut L F h h1) (y:KeptBut L' F h1 h2):KeptBut (L++L') F h h2:=by
 refine ⟨λ b o nl nf e=>?_,λ b o nl hf e=>?_⟩
 ·exact y.1 b o (λ z=>nl (List.mem_append_right _ z)) nf (x.1 b o (λ z=>nl (List.mem_append_left _ z)) nf e)
 ·obtain ⟨sl,e1⟩:=x.2 b o (λ z=>nl (List.mem_append_left _ z)) hf e
  obtain ⟨sl',e2⟩:=y.2 b _ (λ z=>nl (List.mem_append_right _ z)) hf e1
  exact ⟨sl',e2⟩
section
variable {M:Model} {A:Around} {E:Value->Shared->Prop} {s:Shared}
theorem entryP {base:Heap} {env:Env} {outer:List Env} {L e:Addr} {oe:Obj} {vs:Array Value} {head:Value} {hadNext:Bool} {Q:Unit->Shared->Prop}
  (hfr:A.frames=some (env::outer)) (hl:s.heap.FunFrames base (env::outer)) (hf:env.frame=some L)
  (he:s.heap.get? e=some oe) (hd:oe.data=.fields vs) (hsz:1<vs.size) (h2:vs[2]?=some .none)
  (h : ∀ h' T,s.heap.get? T=none->KeptBut [e] (fra (env::outer)) s.heap h'->Rec h' e oe.cls oe.dict (.ref T)->Ent h' T (rawInt L)->Q () { s with heap:=h' }) :
  wpAny M A (do let a ← frameOf env;let pl ← entryPlaceOf L hadNext;let b ← EntryCells.newEntry head a .none (rawInt L) .none pl;setField (.ref e) 1 b) Q E s:=by
 have hene:e∉fra (env::outer):=λ hm=>by
  obtain ⟨_,o,ho,hnf⟩:=hl.mem hm
  rw [he] at ho;injection ho with ho;subst ho;exact hnf vs hd
 refine wpAny_bind (wpAny_frameOf_fun hfr hl hf λ h1 hs1=>?_)
 refine wpAny_bind (wpAny_entryPlaceOf λ pl hpl=>?_)
 unfold EntryCells.newEntry newFields
 refine wpAny_bind (wpAny_newObj_type ?_ (hpl.sizeOk5 _ _ _ _ _))
 have he1:h1.get? e=some oe:=(hs1.2.1 e hene).trans he
 have he2:=Heap.get?_push_of_some (h:=h1) { cls:=.type "traceback", dict:=none,data:=.fields ([head,.ref L,.none,rawInt L,.none]++(if pl.isEmpty then List.replicate 6 Value.none else pl)).toArray } he1
 have hTe:h1.objs.size≠e:=Nat.ne_of_gt (Heap.lt_size he1)
 have hd3:=Obj.data_mapFields hd (·.setIfInBounds 1 (Value.ref h1.objs.size))
 have he3:=Heap.get?_update_self (Obj.mapFields (·.setIfInBounds 1 (Value.ref h1.objs.size))) he2 (Obj.isFreed_of_fields hd3)
 refine wpAny_setField he2 hd hsz (h _ h1.objs.size ?_ ⟨λ b o nl nf q=>?_,λ b o nl hb q=>?_⟩ ⟨_,_,he3,Obj.cls_mapFields _ _,dict_mapFields _ _,hd3,by simp [hsz],by simp [h2]⟩ ⟨_,_,(Heap.get?_update_other _ _ (Ne.symm hTe)).trans (Heap.get?_push_size h1 rfl),rfl,?_⟩)
 ·cases q:s.heap.get? h1.objs.size with
  | none=>rfl
  | some o=>have:=Heap.lt_size q;rw [<-hs1.1] at this;exact absurd this (Nat.lt_irrefl _)
 ·have nbe:b≠e:=λ z=>nl (by rw [z];exact List.mem_singleton.mpr rfl)
  rw [Heap.get?_update_other _ _ (Ne.symm nbe)]
  exact Heap.get?_push_of_some _ ((hs1.2.1 b nf).trans q)
 ·have nbe:b≠e:=λ z=>nl (by rw [z];exact List.mem_singleton.mpr rfl)
  obtain ⟨sl,e1⟩:=hs1.2.2 b o q
  refine ⟨sl,?_⟩
  rw [Heap.get?_update_other _ _ (Ne.symm nbe)]
  exact Heap.get?_push_of_some _ e1
 ·first | (simp;done) | (rcases hpl with rfl | ⟨_,_,_,_,_,_,_,rfl⟩<;>simp)
theorem note_new {base:Heap} {env:Env} {outer:List Env} {L e:Addr} {C:Value} {d:Option Addr} {Q:Unit->Shared->Prop}
  (hfr:A.frames=some (env::outer)) (hl:s.heap.FunFrames base (env::outer)) (hf:env.frame=some L) (hr:Rec s.heap e C d .none)
  (h : ∀ h' T,s.heap.get? T=none->KeptBut [e] (fra (env::outer)) s.heap h'->Rec h' e C d (.ref T)->Ent h' T (rawInt L)->Q () { s with heap:=h' }):wpAny M A (noteFrame (.ref e) env) Q E s:=by
 obtain ⟨oe,vs,he,rfl,rfl,hd,h1,h2⟩:=hr
 unfold noteFrame
 simp only [hf]
 refine wpAny_bind (wpAny_field he hd h1 ?_)
 rw [if_neg (show ¬ ((Value.none != Value.none)=true) by decide)]
 exact entryP hfr hl hf he hd (Array.getElem?_eq_some_iff.mp h1).1 h2 h
theorem note_on {base:Heap} {env:Env} {outer:List Env} {L e T0:Addr} {C:Value} {d:Option Addr} {Q:Unit->Shared->Prop}
  (hfr:A.frames=some (env::outer)) (hl:s.heap.FunFrames base (env::outer)) (hf:env.frame=some L) (hr:Rec s.heap e C d (.ref T0)) (ht:Ent s.heap T0 .none) (hne:T0≠e)
  (h : ∀ h' T,s.heap.get? T=none->KeptBut [e,T0] (fra (env::outer)) s.heap h'->Rec h' e C d (.ref T)->Ent h' T (rawInt L)->Q () { s with heap:=h' }):wpAny M A (noteFrame (.ref e) env) Q E s:=by
 obtain ⟨oe,vs,he,rfl,rfl,hd,h1,h2⟩:=hr
 obtain ⟨oT,ts,hT,hdT,h3⟩:=ht
 unfold noteFrame
 simp only [hf]
 refine wpAny_bind (wpAny_field he hd h1 ?_)
 rw [if_pos (show (Value.ref T0 != Value.none)=true from by simp)]
 refine wpAny_bind (wpAny_field hT hdT h3 ?_)
 rw [if_neg (show ¬ ((Value.none == rawInt L)=true) from by simp [rawInt])]
 refine wpAny_bind (wpAny_setField hT hdT (Array.getElem?_eq_some_iff.mp h3).1 ?_)
 have other : ∀ b,b≠T0->(s.heap.update T0 (Obj.mapFields (·.setIfInBounds 3 Value.none))).get? b=s.heap.get? b:=λ b hb=>Heap.get?_update_other _ _ (Ne.symm hb)
 have noRecord : ∀ b o,s.heap.get? b=some o->(∀ vs,o.data≠.fields vs)->b≠T0:=λ b o hb hnf q=>by
  rw [q,hT] at hb;injection hb with hb;subst hb;exact hnf ts hdT
 refine entryP hfr (hl.of_keeps λ b o hb hnf=>⟨o,(other b (noRecord b o hb hnf)).trans hb,rfl⟩) hf ((other e (Ne.symm hne)).trans he) hd (Array.getElem?_eq_some_iff.mp h1).1 h2 λ h' T hTn kb hr' ht'=>?_
 refine h h' T ?_ ⟨λ b o nl nf q=>?_,λ b o nl hb q=>?_⟩ hr' ht'
 ·cases q:s.heap.get? T with
  | none=>rfl
  | some o =>
   by_cases z:T=T0
   ·have hu:=Heap.get?_update_self (Obj.mapFields (·.setIfInBounds 3 Value.none)) hT (Obj.isFreed_of_fields (Obj.data_mapFields hdT _))
    rw [<-z] at hu
    rw [z] at hTn
    rw [z] at hu
    rw [hu] at hTn;cases hTn
   ·rw [other T z,q] at hTn;cases hTn
 ·have n1:b≠T0:=λ z=>nl (by rw [z];simp)
  exact kb.1 b o (λ z=>nl (by rw [List.mem_singleton.mp z];simp)) nf ((other b n1).trans q)
 ·have n1:b≠T0:=λ z=>nl (by rw [z];simp)
  exact kb.2 b o (λ z=>nl (by rw [List.mem_singleton.mp z];simp)) hb ((other b n1).trans q)
theorem land {F:List Addr} {e T:Addr} {C fl:Value} {d:Option Addr} {Q:Unit->Shared->Prop} (hr:Rec s.heap e C d (.ref T)) (ht:Ent s.heap T fl) (hne:T≠e) (hF : ∀ b∈F,b≠T)
  (h : ∀ h',KeptBut [T] F s.heap h'->Rec h' e C d (.ref T)->Ent h' T .none->Q () { s with heap:=h' }):wpAny M A (setFlight (.ref e) none) Q E s:=by
 obtain ⟨oe,vs,he,hC,hdi,hd,h1,h2⟩:=hr
 obtain ⟨oT,ts,hT,hdT,h3⟩:=ht
 have hsz3:3<ts.size:=(Array.getElem?_eq_some_iff.mp h3).1
 unfold setFlight
 refine wpAny_bind (wpAny_field he hd h1 ?_)
 rw [if_pos (show (Value.ref T != Value.none)=true from by simp)]
 refine wpAny_setField hT hdT hsz3 (h _ ⟨λ b o nl _ q=>(Heap.get?_update_other _ _ (λ z=>nl (by rw [z];exact List.mem_singleton.mpr rfl))).trans q,λ b o nl _ q=>⟨o.slots,(Heap.get?_update_other _ _ (λ z=>nl (by rw [z];exact List.mem_singleton.mpr rfl))).trans q⟩⟩
  ⟨oe,vs,(Heap.get?_update_other _ _ hne).trans he,hC,hdi,hd,h1,h2⟩ ⟨_,_,Heap.get?_update_self _ hT (Obj.isFreed_of_fields (Obj.data_mapFields hdT _)),Obj.data_mapFields hdT _,by simp [hsz3]⟩)
end
section
variable {M:Model} {A:Around} {E:Value->Shared->Prop} {s:Shared}
def HeadOk (h:Heap) (e:Addr) (head:Value) (L:List Addr):Prop:=(head=.none/\L=[]) \/ ∃ T,head=.ref T/\Ent h T .none/\T≠e/\L=[T]
theorem noted {base:Heap} {env:Env} {outer:List Env} {L e:Addr} {C head:Value} {d:Option Addr} {hl':List Addr} {Q:Unit->Shared->Prop}
  (hfr:A.frames=some (env::outer)) (hl:s.heap.FunFrames base (env::outer)) (hf:env.frame=some L) (hr:Rec s.heap e C d head) (hh:HeadOk s.heap e head hl')
  (h : ∀ h' T,s.heap.get? T=none->KeptBut (e::hl') (fra (env::outer)) s.heap h'->Rec h' e C d (.ref T)->Ent h' T (rawInt L)->Q () { s with heap:=h' }):wpAny M A (noteFrame (.ref e) env) Q E s:=by
 rcases hh with ⟨rfl,rfl⟩ | ⟨T0,rfl,ht,hne,rfl⟩
 ·exact note_new hfr hl hf hr h
 ·exact note_on hfr hl hf hr ht hne h
theorem landed {base:Heap} {env:Env} {outer:List Env} {L e:Addr} {C head:Value} {d:Option Addr} {hl':List Addr} {Q:Unit->Shared->Prop}
  (hfr:A.frames=some (env::outer)) (hl:s.heap.FunFrames base (env::outer)) (hf:env.frame=some L) (hr:Rec s.heap e C d head) (hh:HeadOk s.heap e head hl')
  (h : ∀ h' T,s.heap.get? T=none->T≠e->KeptBut (e::hl') (fra (env::outer)) s.heap h'->Rec h' e C d (.ref T)->Ent h' T .none->Q () { s with heap:=h' }) :
  wpAny M A (noteFrame (.ref e) env) (λ _ s'=>wpAny M A (setFlight (.ref e) none) Q E s') E s:=by
 refine noted hfr hl hf hr hh λ h1 T hT k1 r1 t1=>?_
 have hTe:T≠e:=λ z=>by
  obtain ⟨oe,_,he,_⟩:=hr
  rw [z,he] at hT;cases hT
 have hTF : ∀ b∈fra (env::outer),b≠T:=λ b hb z=>by
  obtain ⟨_,o,ho,_⟩:=hl.mem hb
  rw [z,hT] at ho;cases ho
 refine land (F:=fra (env::outer)) (s:={ s with heap:=h1 }) r1 t1 hTe hTF λ h2 k2 r2 t2=>?_
 have k:=k1.trans k2
 refine h h2 T hT hTe ⟨λ b o nl nf q=>k.1 b o (λ z=>?_) nf q,λ b o nl hb q=>k.2 b o (λ z=>?_) hb q⟩ r2 t2
 all_goals
  rcases List.mem_append.mp z with z | z
  ·exact nl z
  ·rw [List.mem_singleton.mp z,hT] at q;cases q
theorem leave {base:Heap} {env:Env} {outer:List Env} {L e:Addr} {C head:Value} {d:Option Addr} {hl':List Addr} {Q:Unit->Shared->Prop}
  (hfr:A.frames=some (env::outer)) (hl:s.heap.FunFrames base (env::outer)) (hf:env.frame=some L) (hr:Rec s.heap e C d head) (hh:HeadOk s.heap e head hl')
  (h : ∀ h' T,s.heap.get? T=none->T≠e->KeptBut (e::hl') (fra (env::outer)) s.heap h'->Rec h' e C d (.ref T)->Ent h' T .none->Q () { s with heap:=h' }):wpAny M A (leaving env (.ref e)) Q E s:=by
 unfold leaving
 exact wpAny_bind (landed hfr hl hf hr hh h)
end
end Xn
namespace L2
open PySem PySem.Spec PyProof.Rows Xn
theorem ObjOk.some {P:Program} {w:World} {H:Hp} {h:Heap} {a:Addr} {o:HO} (x:ObjOk P w H h a o) : ∃ ob,h.get? a=some ob:=by
 cases o with
 | lst xs=>obtain ⟨_,_,_,_,e⟩:=x;exact ⟨_,e⟩
 | tup xs=>obtain ⟨_,_,_,ob,e,_⟩:=x;exact ⟨_,e⟩
 | dK kvs=>obtain ⟨_,_,_,_,o,_,_,e,_⟩:=x;exact ⟨_,e⟩
 | dT kvs=>obtain ⟨_,_,_,_,o,_,_,e,_⟩:=x;exact ⟨_,e⟩
 | set S n=>obtain ⟨o,_,_,_,e,_⟩:=x;exact ⟨_,e⟩
 | ins C dx fs=>obtain ⟨_,_,_,e,_⟩:=x;exact ⟨_,e⟩
 | own y=>obtain ⟨_,e⟩:=x;exact ⟨_,e⟩
 | xd fs=>obtain ⟨_,⟨_,_,_,e,_⟩,_⟩:=x;exact ⟨_,e⟩
 | rng lo hi=>obtain ⟨_,_,_,e⟩:=x;exact ⟨_,e⟩
 | frz ob u=>obtain ⟨e,_⟩:=x;exact ⟨_,e⟩
 | tbl ps=>exact ⟨_,(show h.get? a=Option.some _ from x)⟩
 | met f y=>exact ⟨_,(show h.get? a=Option.some _ from x)⟩
 | ext φ => obtain ⟨_,⟨_,e⟩,_⟩:=x;exact ⟨_,e⟩
theorem HOk.gone {P:Program} {w:World} {H:Hp} {h:Heap} (x:HOk P w H h) {a:Addr} (e:h.get? a=none):H a=none:=by
 cases q:H a with
 | none=>rfl
 | some o =>
  obtain ⟨ob,z⟩:=(x a o q).some
  rw [e] at z;cases z
theorem HOk.keptBut {P:Program} {w:World} {H:Hp} {h h':Heap} {L F:List Addr} (x:HOk P w H h) (k:KeptBut L F h h') (hL : ∀ b∈L,H b=none) (hF : ∀ b∈F,H b=none):HOk P w H h':=λ a o e =>
 (x a o e).stay (λ b u hb q=>by
  have hn:H b≠none:=by
   rcases hb with rfl | z
   ·rw [e];simp
   ·rw [z];simp
  exact k.1 b u (λ z=>hn (hL b z)) (λ z=>hn (hF b z)) q) (λ _ q=>q) λ _ _ q=>q
theorem Un.keptBut {fs:List Addr} {H0 H:Hp} {h0 h h':Heap} {L F:List Addr} (u:Un fs [] H0 H h0 h) (k:KeptBut L F h h') (hL : ∀ b∈L,h0.get? b=none) (hF : ∀ b∈F,b∈fs\/h0.get? b=none):Un fs [] H0 H h0 h':=by
 have nL : ∀ b o,h0.get? b=some o->b∉L:=λ b o e z=>by rw [hL b z] at e;cases e
 refine ⟨λ b o e n nf nx=>?_,λ b o e n hf nx=>?_,u.free,λ b o e nx=>?_,u.tups,u.frzs,u.tbls⟩
 ·refine k.1 b o (nL b o e) (λ z=>?_) (u.keep b o e n nf nx)
  rcases hF b z with z | z
  ·exact nf z
  ·rw [z] at e;cases e
 ·obtain ⟨sl,e1⟩:=u.slot b o e n hf nx
  by_cases hb:b∈F
  ·obtain ⟨sl',e2⟩:=k.2 b _ (nL b o e) hb e1
   exact ⟨sl',e2⟩
  ·exact ⟨sl,k.1 b _ (nL b o e) hb e1⟩
 ·obtain ⟨o',e1⟩:=u.there b o e nx
  by_cases hb:b∈F
  ·obtain ⟨sl',e2⟩:=k.2 b _ (nL b o e) hb e1
   exact ⟨_,e2⟩
  ·exact ⟨_,k.1 b _ (nL b o e) hb e1⟩
def CXE (P:Program) (w:World):CXT:=λ outer H s E ev s' => ∃ (e T C:Addr) (d:Option Addr) (H':Hp),ev=.ref e/\s'.os=s.os/\AllBare s'.gens/\Un (frs outer) [] H H' s.heap s'.heap/\HOk P w H' s'.heap /\
 s.heap.get? e=none/\s.heap.get? T=none/\T≠e/\H' e=none/\H' T=none/\Rec s'.heap e (.ref C) d (.ref T)/\Ent s'.heap T .none/\E (.ref C) d H'
structure Fresh (X:Cx) (pins:List (Addr×Obj)) (e:Addr):Prop where
 s0:X.s₀.heap.get? e=none
 loc:e≠X.env.locals
 cell : ∀ x c,X.env.cells.lookup x=some c->c≠e
 pin : ∀ p∈X.pn++pins,p.1≠e
theorem Fresh.of {X:Cx} {pins:List (Addr×Obj)} {σ:St} {H:Hp} {s:Shared} (I:Inv X pins σ H s) (hx:X.ex=[]) {e:Addr} (h:s.heap.get? e=none):Fresh X pins e:=by
 refine ⟨?_,?_,λ x c hc z=>?_,λ p hp z=>?_⟩
 ·cases q:X.s₀.heap.get? e with
  | none=>rfl
  | some o =>
   obtain ⟨o',z⟩:=I.base.there e o q (by rw [hx];simp)
   rw [h] at z;cases z
 ·intro z
  obtain ⟨m,⟨o,_,_,ho,_⟩,_⟩:=I.loc
  rw [z,ho] at h;cases h
 ·obtain ⟨v,o,ho,_⟩:=I.cell x c hc
  rw [<-z,ho] at h;cases h
 ·obtain ⟨ho,_⟩:=I.pin p hp
  rw [<-z,ho] at h;cases h
def Xok (X:Cx) (E:XK):Prop := ∀ (pins:List (Addr×Obj)) (σ:St) (H:Hp) (s:Shared) (e C:Addr) (d:Option Addr) (head:Value) (hl:List Addr),Inv X pins σ H s->Fresh X pins e->H e=none ->
 Rec s.heap e (.ref C) d head->HeadOk s.heap e head hl->(∀ b∈hl,Fresh X pins b/\H b=none)->E (.ref C) d H->X.xe (.ref e) s
theorem xok_cx {P:Program} {w:World} {K:PySem.W.Frag} {mg:Str->Option Value} {base:Heap} {N:List Str} {qual:Str} {scope:Scope} {f:Addr} {cd:Value} {A:Around} {outer:List Env} {s0:Shared} {H0:Hp} {E:XK} :
  Xok (cxOf (CXE P w) P w K mg base N qual scope f cd A outer s0 H0 E) E:=by
 intro pins σ H s e C d head hl I fe He hr hh hhl hE
 show wpAny (model P w) (A.deeper (envOfC qual scope s0.heap.objs.size f cd)) (leaving (envOfC qual scope s0.heap.objs.size f cd) (.ref e)) _ _ s
 have hfs : ∀ b∈fra (envOfC qual scope s0.heap.objs.size f cd::outer),H b=none:=I.stkFree
 refine leave (base:=base) I.ok.frames I.stack rfl hr hh λ h' T hT nTe kb r1 t1=>⟨e,T,C,d,H,rfl,I.os,I.bare,?_,?_,fe.s0,(Fresh.of I rfl hT).s0,nTe,He,I.hok.gone hT,r1,t1,hE⟩
 ·refine (show Un (frs outer) [] H0 H s0.heap s.heap from I.base).keptBut kb (λ b hb=>?_) (λ b hb=>?_)
  ·rcases List.mem_cons.mp hb with z | z
   ·rw [z];exact fe.s0
   ·exact (hhl b z).1.s0
  ·rcases List.mem_cons.mp (show b∈s0.heap.objs.size::frs outer from hb) with z | z
   ·refine .inr ?_
    cases q:s0.heap.get? b with
    | none=>rfl
    | some o=>have:=Heap.lt_size q;rw [z] at this;exact absurd this (Nat.lt_irrefl _)
   ·exact .inl z
 ·refine I.hok.keptBut kb (λ b hb=>?_) hfs
  rcases List.mem_cons.mp hb with z | z
  ·rw [z];exact He
  ·exact (hhl b z).2
abbrev bmV:List Value:=[.type "ValueError", .type "Exception", .type "BaseException", .type "object"]
structure ECls (K:PySem.W.Frag) (mg:Str->Option Value) (x:Str) (C:Addr):Prop where
 at_:mg x=some (.ref C)
 is:PySem.W.excIn K C bmV "ValueError.__new__" = true
theorem ECls.own {K:PySem.W.Frag} {mg:Str->Option Value} {x:Str} {C:Addr} {h:Heap} (c:ECls K mg x C) (X:K.In h):OwnCls x C bmV "ValueError.__new__" mg h:=by
 obtain ⟨e,q⟩:=c
 refine ⟨e,?_⟩
 unfold PySem.W.excIn at q
 split at q
 ·rename_i dd cd sl ho
  split at q
  ·rename_i C' bm k0 k1 k2 k3 n k5 hm hs
   simp only [Bool.and_eq_true,beq_iff_eq,Bool.not_eq_true'] at q
   obtain ⟨⟨⟨⟨⟨rfl,rfl⟩,hdel⟩,ht⟩,hok⟩,hni⟩:=q
   obtain ⟨nm,bs,mro,ns,qn,hd,sn,sub,ab,col,del⟩:=cd
   dsimp only at hm hdel hok hni
   subst hm hdel
   have hsl:sl=#[k0,k1,k2,k3,some (.builtin "ValueError.__new__"),k5]:=by
    obtain ⟨l⟩:=sl
    simp only at hs
    rw [hs]
   subst hsl
   exact ⟨bm,ns,nm,qn,bs,hd,sn,sub,ab,col,dd,k0,k1,k2,k3,k5,_,X _ _ ho,.of_isNs (PySem.W.isNs_of_in X hok),PySem.W.nsMap_none_of_in X hok hni,PySem.W.tail_of_in X ht⟩
  ·cases q
 ·cases q
theorem Inv.keptBut {X:Cx} {pins:List (Addr×Obj)} {σ:St} {H:Hp} {s:Shared} {h':Heap} {L:List Addr} (I:Inv X pins σ H s) (hx:X.ex=[]) (kb:KeptBut L (frs X.stack) s.heap h') (hL : ∀ b∈L,Fresh X pins b/\H b=none) :
  Inv X pins σ H { s with heap:=h' }:=by
 have one : ∀ b o,b∉L->s.heap.get? b=some o -> ∃ sl,h'.get? b=some { o with slots:=sl }:=λ b o nl e=>by
  by_cases hb:b∈frs X.stack
  ·exact kb.2 b o nl hb e
  ·exact ⟨o.slots,kb.1 b o nl hb e⟩
 refine ⟨I.ok,I.os,I.bare,?_,?_,λ x c e=>?_,I.free,I.freeC,λ p hp=>?_,I.hok.keptBut kb (λ b hb=>(hL b hb).2) I.stkFree,I.len⟩
 ·rw [hx]
  have u:=I.base
  rw [hx] at u
  refine u.keptBut kb (λ b hb=>(hL b hb).1.s0) λ b hb=>?_
  rcases List.mem_cons.mp (I.stkSub b hb) with z | z
  ·refine .inr ?_
   cases q:X.s₀.heap.get? b with
   | none=>rfl
   | some o =>
    have:=Nat.lt_of_lt_of_le (Heap.lt_size q) I.ok.above
    rw [z] at this;exact absurd this (Nat.lt_irrefl _)
  ·exact .inl z
 ·obtain ⟨m,⟨o,es,ep,ho,r⟩,hl⟩:=I.loc
  obtain ⟨sl,e1⟩:=one X.env.locals o (λ z=>(hL _ z).1.loc rfl) ho
  refine ⟨m,⟨_,es,ep,e1,r⟩,λ i x v a b c=>?_⟩
  obtain ⟨u,rv,l⟩:=hl i x v a b c
  refine ⟨u,rv,?_⟩
  rcases l with l | ⟨k,c,e,oc,ho',hd⟩
  ·exact .inl l
  ·obtain ⟨sl',e2⟩:=one c oc (λ z=>(hL _ z).1.cell x c e rfl) ho'
   exact .inr ⟨k,c,e,_,e2,hd⟩
 ·obtain ⟨v,oc,ho',hd⟩:=I.cell x c e
  obtain ⟨sl',e2⟩:=one c oc (λ z=>(hL _ z).1.cell x c e rfl) ho'
  exact ⟨v,_,e2,hd⟩
 ·obtain ⟨e,n,ne,nf,d⟩:=I.pin p hp
  refine ⟨kb.1 p.1 p.2 (λ z=>(hL _ z).1.pin p hp rfl) (λ z=>?_) e,n,ne,nf,d⟩
  rcases List.mem_cons.mp (I.stkSub p.1 z) with y | y
  ·exact ne y
  ·exact nf y
theorem unbind_ok {X:Cx} {pins:List (Addr×Obj)} {σ:St} {H:Hp} {s:Shared} {M:Model} {A:Around} {E:Value->Shared->Prop} {i:Nat} {x:Str} {v:V} {Q:Unit->Shared->Prop} (I:Inv X pins σ H s) (hN:X.N.Nodup) (hi:X.N[i]?=some x) (hk:X.env.scope.names.lookup x=some .local) (hv:σ[i]?=some (some v))
  (h : ∀ s',Inv X pins (σ.set i none) H s'->Q () s'):wpAny M A (unbindName X.env x) Q E s:=by
 obtain ⟨m,hn,hl⟩:=id I.loc
 have hcls:(X.env.scope.kind == .class||(X.env.scope.kind == .module&&X.env.locals != X.env.globals))=false:=by rw [I.ok.kind];rfl
 obtain ⟨u,_,lk⟩:=hl i x v hi hv (.inl hk)
 have hm:m x=some u:=by
  rcases lk with ⟨_,e⟩ | ⟨k,_⟩
  ·exact e
  ·have k':X.env.scope.names.lookup x=some .cell\/X.env.scope.names.lookup x=some .free:=k
   rw [hk] at k'
   rcases k' with z | z<;>cases z
 refine wpAny_unbindName_local hk hn hm hcls λ h' w' hn' hs=>?_
 obtain ⟨oL,_,_,hoL,_⟩:=id hn
 have ne0 : ∀ b o,X.s₀.heap.get? b=some o->b≠X.env.locals:=λ b o e=>Nat.ne_of_lt (Nat.lt_of_lt_of_le (Heap.lt_size e) I.ok.above)
 refine h _ ⟨I.ok,I.os,I.bare,⟨λ b o e n hb hx=>?_,λ b o e n hb hx=>?_,I.base.free,λ b o e hx=>?_,I.base.tups,I.base.frzs,I.base.tbls⟩,⟨_,hn',λ j y v' e1 e2 e3=>?_⟩,λ y c e=>?_,I.free,I.freeC,λ p hp=>?_,?_,?_⟩
 ·exact (hs.2 b (ne0 b o e)).trans (I.base.keep b o e n hb hx)
 ·obtain ⟨sl,e1⟩:=I.base.slot b o e n hb hx
  exact ⟨sl,(hs.2 b (ne0 b o e)).trans e1⟩
 ·obtain ⟨o',e1⟩:=I.base.there b o e hx
  exact ⟨o',(hs.2 b (ne0 b o e)).trans e1⟩
 ·by_cases hj:j=i
  ·subst hj
   have hiσ:j < σ.length:=(List.getElem?_eq_some_iff.mp hv).1
   rw [List.getElem?_set_self hiσ] at e2
   cases e2
  ·rw [List.getElem?_set_ne (Ne.symm hj)] at e2
   obtain ⟨u',r',q⟩:=hl j y v' e1 e2 e3
   refine ⟨u',r',?_⟩
   rcases q with ⟨k,e⟩ | ⟨k,c,e,z⟩
   ·refine .inl ⟨k,?_⟩
    have:y≠x:=λ e=>hj (nodup_ix hN e1 (e ▸ hi))
    simp [this,e]
   ·exact .inr ⟨k,c,e,z.sameBut hs (I.cne y c e)⟩
 ·obtain ⟨w2,z⟩:=I.cell y c e
  exact ⟨w2,z.sameBut hs (I.cne y c e)⟩
 ·obtain ⟨e,n,ne,nf,d⟩:=I.pin p hp
  exact ⟨(hs.2 p.1 ne).trans e,n,ne,nf,d⟩
 ·intro b ob e
  refine (I.hok b ob e).stay (λ c w' hc q=>(hs.2 c ?_).trans q) (λ _ q=>q) λ _ _ q=>q
  rintro rfl
  rcases hc with rfl | hc
  ·rw [I.free] at e;cases e
  ·rw [I.free] at hc;cases hc
 ·rw [List.length_set];exact I.len
def excO (e C:Addr) (d:Option Addr):HO:=.ext λ h => ∃ oe vs,h.get? e=some oe/\oe.cls=.ref C/\oe.dict=d/\oe.data=.fields vs/\vs[2]?=some .none
theorem Rec.ok {P:Program} {w:World} {H:Hp} {h:Heap} {e C:Addr} {d:Option Addr} {head:Value} (r:Rec h e (.ref C) d head):ObjOk P w H h e (excO e C d):=by
 obtain ⟨oe,vs,he,hc,hd,hf,_,h2⟩:=r
 refine ⟨⟨oe,vs,he,hc,hd,hf,h2⟩,⟨_,he⟩,?_⟩
 rintro h1 h2 ⟨oe',vs',a,b,c,d'⟩ k
 exact ⟨oe',vs',k _ a,b,c,d'⟩
theorem Inv.known {X:Cx} {pins:List (Addr×Obj)} {σ:St} {H:Hp} {s:Shared} {e:Addr} {o:HO} (I:Inv X pins σ H s) (hx:X.ex=[]) (fe:Fresh X pins e) (he:H e=none) (ok:ObjOk X.prog X.w (upd H e o) s.heap e o) (nf : ∀ b∈frs X.stack,b≠e):Inv X pins σ (upd H e o) s:=by
 have ne0 : ∀ b ob,X.s₀.heap.get? b=some ob->b≠e:=λ b ob q z=>by rw [z,fe.s0] at q;cases q
 refine ⟨I.ok,I.os,I.bare,⟨I.base.keep,I.base.slot,λ b ob q n hx=>by rw [upd_ne (ne0 b ob q)];exact I.base.free b ob q n hx,I.base.there,λ b xs q=>?_,λ b ob u q=>?_,λ b ps q=>?_⟩,I.loc,I.cell,?_,λ x c q=>?_,λ p hp=>?_,λ b ob q=>?_,I.len⟩
 ·have:=I.base.tups b xs q
  rw [upd_ne (ne_of_none this he)];exact this
 ·have:=I.base.frzs b ob u q
  rw [upd_ne (ne_of_none this he)];exact this
 ·obtain ⟨m,this⟩:=I.base.tbls b ps q
  exact ⟨m,by rw [upd_ne (ne_of_none this he)];exact this⟩
 ·rw [upd_ne (Ne.symm fe.loc)];exact I.free
 ·rw [upd_ne (fe.cell x c q)];exact I.freeC x c q
 ·obtain ⟨a,b,c,d,f⟩:=I.pin p hp
  exact ⟨a,by rw [upd_ne (fe.pin p hp)];exact b,c,d,f⟩
 ·by_cases z:b=e
  ·subst z
   rw [upd_same] at q
   cases q
   exact ok
  ·rw [upd_ne z] at q
   refine (I.hok b ob q).stay (λ _ _ _ q=>q) (λ c q=>?_) λ c xs q=>?_
   ·rw [upd_ne (ne_of_none q he)];exact q
   ·rw [upd_ne (ne_of_none q he)];exact q
abbrev tryCx (X:Cx) (pins:List (Addr×Obj)) (W:Value->Shared->Prop):Cx :=
 { X with pn:=X.pn++pins,xe:=λ e s1=>wpAny (model X.prog X.w) X.A (noteFrame e X.env) (λ _ s2=>wpAny (model X.prog X.w) X.A (setFlight e none) (λ _ s3=>W e s3) X.xe s2) X.xe s1 }
abbrev supCx (X:Cx) (e:Addr):Cx:={ X with A:=X.A.mark (some (.ref e)),calm:=false,warm:=false,xe:=λ _ _=>False }
section
variable {X:Cx} {pins pins':List (Addr×Obj)} {σ:St} {H:Hp} {s:Shared} {W:Value->Shared->Prop} {e:Addr}
theorem Cx.Ok.tried (ok:X.Ok):(tryCx X pins W).Ok :=
 ⟨ok.mod,ok.kind,ok.glob,ok.blt,ok.above,ok.inj,ok.has,ok.cab,ok.hd,ok.frames,ok.stk,ok.exf,ok.bs,ok.bsz,ok.noex,ok.exfs,ok.funs,ok.frf⟩
theorem Cx.Ok.untried (ok:(tryCx X pins W).Ok):X.Ok :=
 ⟨ok.mod,ok.kind,ok.glob,ok.blt,ok.above,ok.inj,ok.has,ok.cab,ok.hd,ok.frames,ok.stk,ok.exf,ok.bs,ok.bsz,ok.noex,ok.exfs,ok.funs,ok.frf⟩
theorem Cx.Ok.supped (ok:X.Ok):(supCx X e).Ok :=
 ⟨ok.mod,ok.kind,ok.glob,ok.blt,ok.above,ok.inj,ok.has,ok.cab,⟨λ h=>(nomatch h),λ h=>(nomatch h)⟩,ok.frames,ok.stk,ok.exf,ok.bs,ok.bsz,ok.noex,ok.exfs,ok.funs,ok.frf⟩
theorem Inv.tried (I:Inv X pins σ H s):Inv (tryCx X pins W) [] σ H s :=
 ⟨I.ok.tried,I.os,I.bare,I.base,I.loc,I.cell,I.free,I.freeC,λ p hp=>I.pin p (by rw [List.append_nil] at hp;exact hp),I.hok,I.len⟩
theorem Inv.untried (I:Inv (tryCx X pins W) pins' σ H s):Inv X pins σ H s :=
 ⟨I.ok.untried,I.os,I.bare,I.base,I.loc,I.cell,I.free,I.freeC,λ p hp=>I.pin p (List.mem_append_left _ hp),I.hok,I.len⟩
theorem Inv.supped (I:Inv X pins σ H s):Inv (supCx X e) pins σ H s:=⟨I.ok.supped,I.os,I.bare,I.base,I.loc,I.cell,I.free,I.freeC,I.pin,I.hok,I.len⟩
theorem Inv.unsupped (ok:X.Ok) (I:Inv (supCx X e) pins σ H s):Inv X pins σ H s:=⟨ok,I.os,I.bare,I.base,I.loc,I.cell,I.free,I.freeC,I.pin,I.hok,I.len⟩
theorem Fresh.untried {b:Addr} (f:Fresh (tryCx X pins W) pins' b):Fresh X pins b:=⟨f.s0,f.loc,f.cell,λ p hp=>f.pin p (List.mem_append_left _ hp)⟩
end
theorem Fun.okX {P:Program} {w:World} {K:PySem.W.Frag} {mg:Str->Option Value} {base:Heap} {x qual:Str} {st:Stmt} {f:Addr} {fd:FuncData} {N ps:List Str} {k:Nat} {sp:Sp} (F:Fun K x qual st f fd) (S:FnScope N ps (defScope st)) (len : ∀ vs H Q E,sp vs H Q E->vs.length=ps.length)
  (hbody : ∀ (cdv:Value) (A:Around) (outer:List Env) (s:Shared) (H:Hp) (vs:List V) (Q:VK) (E:XK),Room k (A.deeper (envOfC qual (defScope st) s.heap.objs.size f cdv))->sp vs H Q E ->
   ∃ t,QSs (cxOf (CXE P w) P w K mg base N qual (defScope st) f cdv A outer s H E) (defBody st) t/\t { nx:=λ _ H'=>Q .non H',rt:=Q } (start N vs) H):FnOk P w K mg base (CXE P w) (k+1) f fd ps sp:=by
 obtain ⟨oc,od,kV,doc,pm,an,cdv,ct,osl,rfl,lk,hcd⟩:=F.ex
 exact fn_of lk hcd S len λ A outer s H vs Q E hr hsp=>let ⟨t,a,b⟩:=hbody cdv A outer s H vs Q E hr hsp;⟨t,a.o,b⟩
end L2
namespace PySem.W
open PySem PySem.Spec PySem.Calls PyProof.Rows
section
variable {prog:Program} {w:World} {A:Around} {E:Value->Shared->Prop} {s:Shared} {K:Frag} {x C:Addr} {ox:Obj} {od:Option Obj}
structure XcIs (K:Frag) (C:Addr):Prop where
 cls:(clsIn K C).isSome=true
 ga:findIn K (.ref C) "__getattribute__" = some (some (.builtin "BaseException.__getattribute__"))
 gn:findIn K (.ref C) "__getattr__" = some none
 at_:findIn K (.ref C) "__class__" = some (some (.builtin "object.__class__"))
 get:specialIn K (.builtin "object.__class__") "__get__" = some (some (.builtin "getset_descriptor.__get__"))
 tk:takesIn K (.builtin "object.__class__")=some true
 ob:mroIn K C (.type "object")=some true
 be:mroIn K C (.type "BaseException")=some true
theorem xc_check {nameV:Value} {Q:Unit->Shared->Prop} (X:K.In s.heap) (I:InstAt s.heap x ox C od) (c:XcIs K C) (h:Q () s):wpAny (model prog w) A (checkBuiltinCall "BaseException.__getattribute__" ⟨[.ref x,nameV],[]⟩) Q E s:=by
 have hk:builtinKind "BaseException.__getattribute__" = some .slot:=by decide +kernel
 have hsplit:splitId "BaseException.__getattribute__" = some ("BaseException", "__getattribute__"):=by decide +kernel
 have ha:=F.args_bexc_ga (.ref x) nameV
 obtain ⟨hh,g,d,t,os⟩:=s
 have L0:=I.type (M:=model prog w)
 have L1:=looks_mroIn (M:=model prog w) X c.be
 simp only [checkBuiltinCall,hk,hsplit]
 refine wpAny_bind ?_
 unfold isInstance
 refine wpAny_bind (L0.at (L1.at ?_))
 repeat (first | assumption | wp_step)
end
end PySem.W
namespace L2
open PySem PySem.Spec PyProof.Rows Xn
structure RoomU (k:Nat) (A:Around):Prop where
 dp:A.depth+3 * k+5<recursionLimit
 un:A.units+16 * k+200<cLine
theorem Room.u {k:Nat} {A:Around} (r:Room k A):RoomU k A:=⟨r.dp,r.un⟩
theorem Room.mark {k:Nat} {A:Around} (r:Room k A) (e:Option Value):RoomU k (A.mark e):=⟨r.dp,r.un⟩
theorem RoomU.mono {j k:Nat} {A:Around} (r:RoomU k A) (h:j<=k):RoomU j A:=⟨by have:=r.dp;omega,by have:=r.un;omega⟩
theorem RoomU.deeper {k:Nat} {A:Around} (r:RoomU (k+1) A) (env:Env):RoomU k (A.deeper env) :=
 ⟨by have:=r.dp;show A.depth+1+3 * k+5<_;omega,by have:=r.un;show A.units+3+16 * k+200<_;omega⟩
theorem RoomU.depth {k:Nat} {A:Around} (r:RoomU k A):A.depth<recursionLimit:=by have:=r.dp;omega
end L2
namespace L2
open PySem PySem.Spec PySem.SeqAt PyProof.Rows Xn
section
variable {K:PySem.W.Frag} {a b D:Addr} {js:List (Option Nat)} {g:TG} {te:TE} {σ:St} {H1:Hp} {Q:VK}
theorem comp_zip {xs ys:List V} (hn:min xs.length ys.length<=sizeLine) (Pv:Nat->St->Hp->List V->Prop) (h0:Pv 0 (pick js σ) (upd H1 D (.lst [])) [])
  (hl : ∀ i σ' H' zs,H' D=some (.lst zs)->Pv i σ' H' zs->SqT K H' a xs/\SqT K H' b ys)
  (hs : ∀ i x y p σ' H' zs (R:St->V->Hp->Prop),xs[i]?=some x->ys[i]?=some y->H' p=none->H' D=some (.lst zs)->zs.length=i->Pv i σ' H' zs->(∀ σ2 z H4,H4 D=some (.lst zs)->Pv (i+1) σ2 (upd H4 D (.lst (zs++[z]))) (zs++[z])->R σ2 z H4) ->
   g (.ref p) σ' (upd H' p (.tup [x,y])) λ σ2 H3=>te σ2 H3 λ z H4=>R σ2 z H4)
  (hst : ∀ σ' H' zs,H' D=some (.lst zs)->zs.length=min xs.length ys.length->Pv (min xs.length ys.length) σ' H' zs->Q (.ref D) H'):CompW (Itz K a b) D js g tNoTest te σ H1 Q:=by
 refine comp_plain hn Pv h0 (λ i σ' H' zs hi hD p=>?_) (λ σ' H' zs hD b' c=>⟨?_,hst σ' H' zs hD b' c⟩) λ i σ' H' zs x H2 R hi hD hz p hx k=>?_
 ·obtain ⟨qa,qb⟩:=hl i σ' H' zs hD p
  have h1:i<xs.length:=by omega
  have h2:i<ys.length:=by omega
  exact ⟨xs,ys,xs[i],ys[i],qa,qb,by simp [h1],by simp [h2]⟩
 ·obtain ⟨qa,qb⟩:=hl _ σ' H' zs hD c
  exact ⟨xs,ys,qa,qb,by omega⟩
 ·obtain ⟨qa,qb⟩:=hl i σ' H' zs hD p
  obtain ⟨q,hq,rfl,x',y',rfl,hxy⟩:=hx
  obtain ⟨ex,ey⟩:=hxy xs ys qa qb
  exact hs i x' y' q σ' H' zs R ex ey hq hD hz p k
end
theorem comp_map_tupS {K:PySem.W.Frag} {a D:Addr} {js:List (Option Nat)} {te:TE} {σ:St} {H1:Hp} {Q:VK} {xs:List V} {o:Option V} {σ0:St} {f:V->V} (hp:pick js σ=o::σ0) (hn:xs.length<=sizeLine) (hD:H1 D=none) (hS:SqT K H1 a xs)
  (hs : ∀ (x:V) (H':Hp) (R:VK),Same H1 H'->x∈xs->R (f x) H'->te (some x::σ0) H' R) (q:Q (.ref D) (upd H1 D (.lst (xs.map f)))):CompW (Itt K a) D js (gName 0) tNoTest te σ H1 Q:=by
 refine comp_tup (xs:=xs) hn (λ i σ' H' ys=>(∃ u,σ'=u::σ0)/\ys=(xs.take i).map f/\H'=upd H1 D (.lst ys)) ⟨⟨o,hp⟩,rfl,rfl⟩ ?_ ?_ ?_
 ·rintro i σ' H' ys _ _ ⟨_,rfl,rfl⟩
  exact hS.upd_new hD
 ·rintro i x σ' H' ys R hx _ _ ⟨⟨u,rfl⟩,rfl,rfl⟩ k
  refine hs x _ _ (W2.Same.new hD) (List.mem_of_getElem? hx) (k _ _ _ upd_same ⟨⟨_,rfl⟩,(take_map_succ hx).symm,upd_upd⟩)
 ·rintro σ' H' ys _ _ ⟨_,rfl,rfl⟩
  rw [List.take_length]
  exact q
theorem qg_tupN {X:Cx} {K:PySem.W.Frag} {es:List Expr} {k:Nat} {pos:Pos} {t:TGs} {n:Nat} (hK:X.K=K) (hc:X.warm=true) (h:QGs X es t) (hn:(assignEach es X.env).length=n:=by rfl) (hst:(assignEach es X.env).findIdx? (·.1)=none:=by rfl):QG X (.Tuple es k pos) (gTup K n t):=by
 subst hK
 exact qg_tup hc h hn hst
def tIfJ (c:TT) (t u:TS):TS:=λ D σ H => ∃ J:St->Hp->Prop,(c σ H λ b H1=>if b=true then t { D with nx:=J } σ H1 else u { D with nx:=J } σ H1) /\ ∀ σ' H',J σ' H'->D.nx σ' H'
theorem qs_ifJ {X:Cx} {c:Expr} {a b:List Stmt} {tc:TT} {t u:TS} {pos:Pos} (hc:QT X c tc) (ha:QSs X a t) (hb:QSs X b u):QS X (.If c a b pos) (tIfJ tc t u):=⟨by
 intro pins s σ H D I ⟨J,h1,h2⟩
 refine thn ((qs_if hc ha hb).o pins s σ H { D with nx:=J } I h1) λ f s' hs=>?_
 cases f with
 | next=>obtain ⟨σ',H',I',q⟩:=hs;exact ⟨σ',H',I',h2 σ' H' q⟩
 | brk=>exact hs
 | cont=>exact hs
 | ret u=>exact hs⟩
end L2
namespace PySem.W
theorem cls_of_mro {K:Frag} {C:Addr} {b:Value} {r:Bool} (h:mroIn K C b=some r):(clsIn K C).isSome=true:=by
 unfold mroIn at h
 obtain ⟨cd,a,_⟩:=Option.bind_eq_some_iff.mp h
 rw [a];rfl
theorem kit_self {K:Frag} {C:Addr}:kitOne K (.ref C) (.ref C)=some true:=by
 unfold kitOne
 rw [if_pos (by simp)]
theorem kit_false {K:Frag} {C D:Addr} (ty:typeIn K (.ref D)=some (.type "type")) (mo:mroIn K D (.type "object")=some true) (m:mroIn K C (.ref D)=some false) (n:C≠D):kitOne K (.ref C) (.ref D)=some false:=by
 unfold kitOne
 rw [if_neg (λ z=>n (by have:=beq_iff_eq.mp z;injection this))]
 unfold kitCls
 show (if ((clsIn K D).isSome&&typeIn K (.ref D) == some (.type "type"))=true then subIn K (.ref C) (.ref D) else none)=_
 rw [cls_of_mro mo,ty]
 exact m
theorem kit_val {K:Frag} {C:Addr} (m:mroIn K C (.type "ValueError")=some true):kitOne K (.ref C) (.type "ValueError")=some true:=by
 unfold kitOne
 rw [if_neg (λ z=>by cases beq_iff_eq.mp z)]
 unfold kitCls
 show (if kitMeta "ValueError" = true then subIn K (.ref C) (.type "ValueError") else none)=_
 rw [if_pos (by decide +kernel)]
 exact m
end PySem.W
namespace Mth
def cnt (p:Nat) (n:Nat):Nat:=if h:2<=p/\1<=n/\n % p=0 then cnt p (n / p)+1 else 0
termination_by n
decreasing_by exact Nat.div_lt_self h.2.1 h.1
theorem cnt_div {p n:Nat} (hp:2<=p) (hn:1<=n) (h:n % p=0):cnt p n=cnt p (n / p)+1:=by
 rw [cnt,dif_pos ⟨hp,hn,h⟩]
theorem cnt_not {p n:Nat} (h:n % p≠0):cnt p n=0:=by
 rw [cnt,dif_neg λ z=>h z.2.2]
theorem cnt_spec {p:Nat} (hp:2<=p) : ∀ n:Nat,1<=n->n=p ^ cnt p n * strip p n:=by
 intro n
 induction n using Nat.strongRecOn with
 | _ n ih =>
  intro hn
  by_cases h:n % p=0
  ·have h1:=div_pos_of hn h
   have e:=ih (n / p) (Nat.div_lt_self hn hp) h1
   rw [cnt_div hp hn h,strip_div hp hn h,Nat.pow_succ]
   have e2:n=p * (n / p):=(Nat.mul_div_cancel' (Nat.dvd_of_mod_eq_zero h)).symm
   calc n=p * (n / p):=e2
    _=p * (p ^ cnt p (n / p) * strip p (n / p)):=by rw [<-e]
    _=p ^ cnt p (n / p) * p * strip p (n / p):=by rw [<-Nat.mul_assoc,Nat.mul_comm p]
  ·rw [cnt_not h,strip_not h,Nat.pow_zero,Nat.one_mul]
def powsOf (n:Nat):List Nat:=primes.map λ p=>cnt p n
end Mth
namespace Mth
def chg (n d:Nat):List Int:=List.zipWith (λ a b:Nat=>(a:Int) - (b:Int)) (powsOf n) (powsOf d)
theorem chg_length (n d:Nat):(chg n d).length=10:=by simp [chg,powsOf,primes]
def fitsB (c p:List Int):Bool:=(c.zip p).all λ x=>decide (0<=x.2+x.1)
def fstI:List (List Int)->List Int->Option Nat
 | [],_=>none
 | c::r,p=>if fitsB c p=true then some 0 else (fstI r p).map (· + 1)
def mvd (p c:List Int) (m:Int):List Int:=List.zipWith (λ a b=>a+m * b) p c
def nn (p:List Int):Bool:=p.all λ x=>decide (0<=x)
theorem mvd_length {p c:List Int} {m:Int} (hp:p.length=10) (hc:c.length=10):(mvd p c m).length=10:=by simp [mvd,hp,hc]
def R10 (rows:List (List Int)):Prop := ∀ c∈rows,c.length=10
theorem fstI_lt : ∀ {rows:List (List Int)} {p:List Int} {i:Nat},fstI rows p=some i -> ∃ c,rows[i]?=some c/\fitsB c p=true/\i<rows.length
 | [],_,_,h=>by cases h
 | c::r,p,i,h=>by
  unfold fstI at h
  by_cases hc:fitsB c p=true
  ·rw [if_pos hc] at h
   cases h
   exact ⟨c,rfl,hc,by simp⟩
  ·rw [if_neg hc] at h
   cases e:fstI r p with
   | none=>rw [e] at h;cases h
   | some j =>
    rw [e] at h
    have hj:j+1=i:=Option.some.inj h
    subst hj
    obtain ⟨c',h1,h2,h3⟩:=fstI_lt e
    exact ⟨c',by simpa using h1,h2,by simp;omega⟩
theorem fstI_at : ∀ (rows:List (List Int)) (p:List Int) (i:Nat),(∀ j,j<i -> ∀ c,rows[j]?=some c->fitsB c p=false)->(∀ c,rows[i]?=some c->fitsB c p=true)->i<rows.length->fstI rows p=some i
 | [],_,_,_,_,h=>by simp at h
 | c::r,p,0,_,h,_=>by
  unfold fstI
  rw [if_pos (h c rfl)]
 | c::r,p,i+1,h,h',hl=>by
  have h0:=h 0 (by omega) c rfl
  unfold fstI
  rw [h0,if_neg (by decide),fstI_at r p i (λ j hj c' e=>h (j+1) (by omega) c' (by simpa using e)) (λ c' e=>h' c' (by simpa using e)) (by simpa using hl)]
  rfl
theorem fstI_none : ∀ (rows:List (List Int)) (p:List Int),(∀ (j:Nat) c,rows[j]?=some c->fitsB c p=false)->fstI rows p=none
 | [],_,_=>rfl
 | c::r,p,h=>by
  unfold fstI
  rw [h 0 c rfl,if_neg (by decide),fstI_none r p λ j c' e=>h (j+1) c' (by simpa using e)]
  rfl
def stp (rows:List (List Int)) (p:List Int):Option (List Int):=(fstI rows p).map λ i=>mvd p (rows.getD i []) 1
def goN (rows:List (List Int)):Nat->List Int->Option (List Int)
 | 0,p=>some p
 | k+1,p=>(goN rows k p).bind (stp rows)
theorem nn_iff {p:List Int}:nn p=true ↔ ∀ x∈p,0<=x:=by simp [nn]
theorem fitsB_iff {c p:List Int}:fitsB c p=true ↔ ∀ (i:Nat) (a b:Int),c[i]?=some a->p[i]?=some b->0<=b+a:=by
 unfold fitsB
 rw [List.all_eq_true]
 constructor
 ·intro h i a b h1 h2
  have hz:(c.zip p)[i]?=some (a,b):=by rw [List.getElem?_zip_eq_some];exact ⟨h1,h2⟩
  exact of_decide_eq_true (h _ (List.mem_of_getElem? hz))
 ·intro h x hx
  obtain ⟨i,hi⟩:=List.getElem?_of_mem hx
  obtain ⟨a,b⟩:=x
  rw [List.getElem?_zip_eq_some] at hi
  exact decide_eq_true (h i a b hi.1 hi.2)
theorem nn_step {c p:List Int} (h:fitsB c p=true):nn (mvd p c 1)=true:=by
 rw [nn_iff]
 intro x hx
 obtain ⟨i,hi⟩:=List.getElem?_of_mem hx
 unfold mvd at hi
 rw [List.getElem?_zipWith_eq_some] at hi
 obtain ⟨b,a,h1,h2,rfl⟩:=hi
 have:=fitsB_iff.mp h i a b h2 h1
 omega
theorem getD_of {rows:List (List Int)} {i:Nat} {c:List Int} (h:rows[i]?=some c):rows.getD i []=c:=by
 rw [List.getD_eq_getElem?_getD,h];rfl
theorem stp_of {rows:List (List Int)} {p:List Int} {i:Nat} {c:List Int} (h:fstI rows p=some i) (hc:rows[i]?=some c):stp rows p=some (mvd p c 1):=by
 unfold stp
 rw [h,<-getD_of hc]
 rfl
theorem stp_none {rows:List (List Int)} {p:List Int} (h:fstI rows p=none):stp rows p=none:=by
 unfold stp;rw [h];rfl
theorem stp_some {rows:List (List Int)} {p q:List Int} (h:stp rows p=some q) : ∃ i c,fstI rows p=some i/\rows[i]?=some c/\fitsB c p=true/\q=mvd p c 1:=by
 unfold stp at h
 cases e:fstI rows p with
 | none=>rw [e] at h;cases h
 | some i =>
  rw [e] at h
  obtain ⟨c,h1,h2,_⟩:=fstI_lt e
  have h3:mvd p (rows.getD i []) 1=q:=Option.some.inj h
  rw [getD_of h1] at h3
  exact ⟨i,c,rfl,h1,h2,h3.symm⟩
theorem stp_ok {rows:List (List Int)} {p q:List Int} (hr:R10 rows) (hp:p.length=10) (h:stp rows p=some q):q.length=10/\nn q=true:=by
 obtain ⟨i,c,_,h2,h3,rfl⟩:=stp_some h
 exact ⟨mvd_length hp (hr c (List.mem_of_getElem? h2)),nn_step h3⟩
theorem goN_ok {rows:List (List Int)} (hr:R10 rows) {p:List Int} (hp:p.length=10) (hn:nn p=true) : ∀ {k:Nat} {q:List Int},goN rows k p=some q->q.length=10/\nn q=true
 | 0,q,h=>by cases h;exact ⟨hp,hn⟩
 | k+1,q,h=>by
  obtain ⟨r,h1,h2⟩:=Option.bind_eq_some_iff.mp h
  exact stp_ok hr (goN_ok hr hp hn h1).1 h2
end Mth
namespace Mth
def natI (l:List Nat):List Int:=l.map λ n:Nat=>(n:Int)
end Mth
namespace L2
open PySem PyProof.Rows
theorem b_sorted:bootBuiltins "sorted" = some (.builtin "sorted"):=by decide +kernel
end L2
namespace W2
open PySem L2 Mth
abbrev tupI (c:List Int):HO:=.tup (c.map V.int)
theorem _root_.L2.RowV.same {H H':Hp} {x:V} {c:List Int} (h:RowV H x c) (s:Same H H'):RowV H' x c:=by
 obtain ⟨a,e,ha⟩:=h
 exact ⟨a,e,s _ _ ha⟩
theorem _root_.L2.RowsV.same {H H':Hp} {xs:List V} {cs:List (List Int)} (h:RowsV H xs cs) (s:Same H H'):RowsV H' xs cs:=⟨h.1,λ i x e=>by
 obtain ⟨c,hc,r⟩:=h.2 i x e
 exact ⟨c,hc,r.same s⟩⟩
theorem _root_.L2.RowsV.but {H H':Hp} {xs:List V} {cs:List (List Int)} {l:Addr} {ys:List V} (h:RowsV H xs cs) (hl:H l=some (.lst ys)) (s:But l H H'):RowsV H' xs cs:=⟨h.1,λ i x e=>by
 obtain ⟨c,hc,a,ea,ha⟩:=h.2 i x e
 exact ⟨c,hc,a,ea,s _ _ (ne_of ha hl (by intro z;cases z)) ha⟩⟩
theorem _root_.L2.RowsV.nil {H:Hp}:RowsV H [] []:=⟨rfl,λ i x e=>by cases e⟩
theorem _root_.L2.RowsV.app {H:Hp} {xs ys:List V} {cs ds:List (List Int)} (h:RowsV H xs cs) (g:RowsV H ys ds):RowsV H (xs++ys) (cs++ds):=by
 refine ⟨by rw [List.length_append,List.length_append,h.1,g.1],λ i x e=>?_⟩
 by_cases hi:i<xs.length
 ·rw [List.getElem?_append_left hi] at e
  obtain ⟨c,hc,r⟩:=h.2 i x e
  exact ⟨c,by rw [List.getElem?_append_left (by rw [<-h.1];exact hi)];exact hc,r⟩
 ·rw [List.getElem?_append_right (by omega)] at e
  obtain ⟨c,hc,r⟩:=g.2 _ x e
  exact ⟨c,by rw [List.getElem?_append_right (by rw [<-h.1];omega),<-h.1];exact hc,r⟩
theorem _root_.L2.RowsV.one {H:Hp} {x:V} {c:List Int} (h:RowV H x c):RowsV H [x] [c]:=by
 refine ⟨rfl,λ i y e=>?_⟩
 cases i with
 | zero=>cases e;exact ⟨c,rfl,h⟩
 | succ i=>cases e
theorem _root_.L2.RowsV.at {H:Hp} {xs:List V} {cs:List (List Int)} {i:Nat} {x:V} (h:RowsV H xs cs) (e:xs[i]?=some x) : ∃ c a,cs[i]?=some c/\x=.ref a/\H a=some (tupI c):=by
 obtain ⟨c,hc,a,ea,ha⟩:=h.2 i x e
 exact ⟨c,a,hc,ea,ha⟩
theorem _root_.L2.RowsV.of {H:Hp} {xs:List V} {cs:List (List Int)} {i:Nat} {c:List Int} (h:RowsV H xs cs) (e:cs[i]?=some c) : ∃ x a,xs[i]?=some x/\x=.ref a/\H a=some (tupI c):=by
 have hi:i<cs.length:=(List.getElem?_eq_some_iff.mp e).1
 have hx:xs[i]?=some (xs[i]'(by rw [h.1];exact hi)):=List.getElem?_eq_getElem _
 obtain ⟨c',a,hc,ea,ha⟩:=h.at hx
 rw [e] at hc
 cases hc
 exact ⟨_,a,hx,ea,ha⟩
def optV:Option Nat->V
 | none=>.non
 | some i=>.int (i:Int)
def FrcsV (H:Hp) (xs:List V) (fs:List (Int×Int)):Prop:=xs.length=fs.length /\ ∀ (k:Nat) (x:V),xs[k]?=some x -> ∃ i j c,fs[k]?=some (i,j)/\x=.ref c/\H c=some (.tup [.int i,.int j])/\fracB i j=true
theorem FrcsV.same {H H':Hp} {xs:List V} {fs:List (Int×Int)} (h:FrcsV H xs fs) (s:Same H H'):FrcsV H' xs fs:=⟨h.1,λ k x e=>by
 obtain ⟨i,j,c,h1,h2,h3,h4⟩:=h.2 k x e
 exact ⟨i,j,c,h1,h2,s _ _ h3,h4⟩⟩
theorem FrcsV.but {H H':Hp} {xs:List V} {fs:List (Int×Int)} {l:Addr} {ys:List V} (h:FrcsV H xs fs) (hl:H l=some (.lst ys)) (s:But l H H'):FrcsV H' xs fs:=⟨h.1,λ k x e=>by
 obtain ⟨i,j,c,h1,h2,h3,h4⟩:=h.2 k x e
 exact ⟨i,j,c,h1,h2,s _ _ (ne_of h3 hl (by intro z;cases z)) h3,h4⟩⟩
theorem frcs_of {H:Hp} : ∀ {xs:List V},(∀ x∈xs,∃ (c:Addr) (i j:Int),x=.ref c/\H c=some (.tup [.int i,.int j])/\fracB i j=true) -> ∃ fs,FrcsV H xs fs
 | [],_=>⟨[],rfl,λ k x e=>by cases e⟩
 | x::xs,h=>by
  obtain ⟨c,i,j,h1,h2,h3⟩:=h x List.mem_cons_self
  obtain ⟨fs,f1,f2⟩:=frcs_of λ y hy=>h y (List.mem_cons_of_mem _ hy)
  refine ⟨(i,j)::fs,by simp [f1],λ k y e=>?_⟩
  cases k with
  | zero=>cases e;exact ⟨i,j,c,rfl,h1,h2,h3⟩
  | succ k=>exact f2 k y (by simpa using e)
def rowsOf (fs:List (Int×Int)):List (List Int):=fs.map λ f=>chg f.1.toNat f.2.toNat
theorem rowsOf_10 (fs:List (Int×Int)):R10 (rowsOf fs):=λ c hc=>by
 obtain ⟨f,_,rfl⟩:=List.mem_map.mp hc
 exact chg_length _ _
theorem rowsOf_len (fs:List (Int×Int)):(rowsOf fs).length=fs.length:=List.length_map _
theorem fracB_parts {i j:Int} (h:fracB i j=true):(1<=i/\stripAll i.toNat=1)/\(1<=j/\stripAll j.toNat=1):=by
 unfold fracB termB at h
 simp only [Bool.and_eq_true,decide_eq_true_eq] at h
 exact ⟨⟨h.1.1.1.1,h.1.1.2⟩,⟨h.1.2.1.1,h.1.2.2⟩⟩
theorem zipWith_snoc {f:Int->Int->Int} {xs ys:List Int} {i:Nat} {x y:Int} (hx:xs[i]?=some x) (hy:ys[i]?=some y):(List.zipWith f xs ys).take (i+1)=(List.zipWith f xs ys).take i++[f x y]:=by
 have hz:(List.zipWith f xs ys)[i]?=some (f x y):=by rw [List.getElem?_zipWith_eq_some];exact ⟨x,y,hx,hy,rfl⟩
 rw [List.take_add_one,hz]
 rfl
theorem comp_zip_ints {K:PySem.W.Frag} {a b D:Addr} {js:List (Option Nat)} {te:TE} {σ:St} {H1:Hp} {Q:VK} {xs ys:List Int} {σ0:St} {f:Int->Int->Int} (hn:min xs.length ys.length<=sizeLine) (hp : ∃ u v,pick js σ=u::v::σ0) (hD:H1 D=none)
  (ha:H1 a=some (tupI xs)) (hb:H1 b=some (tupI ys))
  (hs : ∀ (x y:Int) (H':Hp) (R:VK),x∈xs->y∈ys->R (.int (f x y)) H'->te (some (.int x)::some (.int y)::σ0) H' R)
  (q : ∀ H',Same H1 H'->H' D=some (.lst ((List.zipWith f xs ys).map V.int))->Q (.ref D) H'):CompW (Itz K a b) D js (gTup K 2 (gCons (gName 0) (gCons (gName 1) gNil))) tNoTest te σ H1 Q:=by
 obtain ⟨u0,v0,hp⟩:=hp
 refine comp_zip (K:=K) (a:=a) (b:=b) (xs:=xs.map V.int) (ys:=ys.map V.int) (by rw [List.length_map,List.length_map];exact hn) (λ i σ' H' zs=>(∃ u v:Option V,σ'=u::v::σ0)/\Same H1 H'/\zs=((List.zipWith f xs ys).take i).map V.int) ⟨⟨u0,v0,hp⟩,Same.new hD,rfl⟩ (λ i σ' H' zs _ ⟨_,s',_⟩=>⟨SqT.of (s' _ _ ha),SqT.of (s' _ _ hb)⟩) ?_ ?_
 ·rintro i x y p σ' H' zs R hx hy hp hD' hzl ⟨⟨u,v,rfl⟩,s',rfl⟩ kk
  obtain ⟨x,rfl,hx'⟩:=map_int_get hx
  obtain ⟨y,rfl,hy'⟩:=map_int_get hy
  refine ⟨p,_,rfl,SqT.of upd_same,rfl,_,_,rfl,_,_,rfl,rfl,?_⟩
  refine hs x y _ _ (List.mem_of_getElem? hx') (List.mem_of_getElem? hy') (kk _ _ _ ?_ ⟨⟨_,_,rfl⟩,?_,?_⟩)
  ·rw [upd_ne (ne_of_none hD' hp)];exact hD'
  ·intro c o e
   rw [upd_ne (ne_of_none e hD),upd_ne (ne_of_none (s' c o e) hp)]
   exact s' c o e
  ·rw [zipWith_snoc hx' hy',List.map_append]
   rfl
 ·rintro σ' H' zs hD' hzl ⟨_,s',rfl⟩
  refine q H' s' ?_
  rw [hD',List.length_map,List.length_map,List.take_of_length_le (by rw [List.length_zipWith];exact Nat.le_refl _)]
end W2
namespace L2
open PySem PySem.Spec PyProof.Rows
def Itzl (a b:Addr):It :=
 ⟨λ i H => ∃ xs ys x y,H a=some (.lst xs)/\H b=some (.lst ys)/\xs[i]?=some x/\ys[i]?=some y,
 λ i H v H' => ∃ p,H p=none/\v=.ref p /\ ∃ x y,H'=upd H p (.tup [x,y]) /\ ∀ xs ys,H a=some (.lst xs)->H b=some (.lst ys)->xs[i]?=some x/\ys[i]?=some y,
 λ i H => ∃ xs ys,H a=some (.lst xs)/\H b=some (.lst ys)/\(xs.length<=i\/ys.length<=i)⟩
theorem turn_zipL {c:Bool} (hcm:c=true) {P:Program} {w:World} {K:PySem.W.Frag} {tg:Expr} (htg:tupleTg tg=true) {z TI TO j1 j2 a b:Addr} (D:ZipApart z TI TO j1 j2 a b) :
  Turn P w K c tg (Itzl a b) [z,TO,j1,j2,TI] z (λ i h=>IsZip h z TI TO .none/\IsPair h TI (.ref j1) (.ref j2)/\(∃ u v,IsPair h TO u v)/\h.IsListIter j1 a i/\h.IsListIter j2 b i) where
 mem:=List.mem_cons_self
 obj:=λ i h st c hc=>by
  obtain ⟨h1,h2,⟨u,v,h3⟩,⟨o4,h4,_,d4⟩,⟨o5,h5,_,d5⟩⟩:=st
  have nof : ∀ {o:Obj} {vs:Array Value},o.data=.fields vs -> ∀ v,o.data≠.cell v:=λ e v q=>by rw [e] at q;cases q
  have nos : ∀ {o:Obj} {vs:Array Value} {n:Nat},o.data=.seq vs n -> ∀ v,o.data≠.cell v:=λ e v q=>by rw [e] at q;cases q
  simp only [List.mem_cons,List.not_mem_nil,or_false] at hc
  rcases hc with rfl | rfl | rfl | rfl | rfl
  ·exact ⟨_,h1,nof rfl⟩
  ·exact ⟨_,h3,nos rfl⟩
  ·exact ⟨_,h4,nof d4⟩
  ·exact ⟨_,h5,nof d5⟩
  ·exact ⟨_,h2,nos rfl⟩
 keep:=λ i h h' st k=>by
  obtain ⟨h1,h2,⟨u,v,h3⟩,⟨o4,h4,r4⟩,⟨o5,h5,r5⟩⟩:=st
  exact ⟨k _ (by simp) _ h1,k _ (by simp) _ h2,⟨u,v,k _ (by simp) _ h3⟩,⟨o4,k _ (by simp) _ h4,r4⟩,⟨o5,k _ (by simp) _ h5,r5⟩⟩
 item:=by
  intro X hP hw hK hkc hc i pins s σ H E I hf st hg
  subst hP hw hK
  obtain ⟨h1,h2,⟨u,v,h3⟩,h4,h5⟩:=st
  obtain ⟨xs,ys,x,y,qa,qb,hx,hy⟩:=hg
  obtain ⟨_,its,n1,rv,_,pa⟩:=I.lstM qa
  obtain ⟨_,jts,n2,rw',_,pb⟩:=I.lstM qb
  obtain ⟨ux,eux,rux⟩:=rv.get hx
  obtain ⟨uy,euy,ruy⟩:=rw'.get hy
  refine wpAny_pyNext_zip_item D h1 h2 h3 h4 h5 (show s.heap.IsList a its.toArray from ⟨_,pa,rfl,n1,rfl⟩) (show s.heap.IsList b jts.toArray from ⟨_,pb,rfl,n2,rfl⟩) (x:=ux) (y:=uy) (by simpa using eux) (by simpa using euy) λ g b1 b2 b3 b4 b5 _ b6=>?_
  refine ⟨_,rfl,?_⟩
  have zlt:z<s.heap.objs.size:=Heap.lt_size h1
  cases tg with
  | Tuple es kk pp =>
   refine wpAny_letOwnedTupleGo_zip b1 λ g' c1 sb=>?_
   have new:IsPair g' s.heap.objs.size ux uy:=sb.extBut _ _ (Nat.ne_of_gt zlt) b5
   have I1:Inv X pins σ (upd H s.heap.objs.size (.tup [x,y])) { s with heap:=g' }:=by
    refine I.turnedNew (t':=s.toks) (L:=[z,TO,j1,j2,TI]) (λ c o hcn e=>?_) hf (Nat.le_refl _) ⟨by show 2<=sizeLine;decide,[ux,uy],.cons rux (.cons ruy .nil),⟨_,new,rfl,⟨0,rfl⟩,rfl⟩⟩
    simp only [List.mem_cons,List.not_mem_nil,or_false,not_or] at hcn
    exact sb.extBut c o hcn.1 (b6 c o hcn.1 hcn.2.1 hcn.2.2.1 hcn.2.2.2.1 e)
   have h2':IsPair g' TI (.ref j1) (.ref j2):=sb.extBut _ _ D.TIz (b6 _ _ D.TIz D.TITO D.TIi1 D.TIi2 h2)
   refine ⟨.ref s.heap.objs.size,_,I1,rfl,⟨_,I.fresh,rfl,x,y,rfl,λ xs' ys' q1 q2=>?_⟩,⟨c1,h2',⟨_,_,sb.extBut _ _ D.TOz b2⟩,b3.extBut sb.extBut D.i1z,b4.extBut sb.extBut D.i2z⟩,λ c hcm=>?_⟩
   ·rw [qa] at q1
    rw [qb] at q2
    cases q1
    cases q2
    exact ⟨hx,hy⟩
   obtain ⟨o,eo,_⟩ : ∃ o,s.heap.get? c=some o/\True:=by
    simp only [List.mem_cons,List.not_mem_nil,or_false] at hcm
    rcases hcm with rfl | rfl | rfl | rfl | rfl
    ·exact ⟨_,h1,trivial⟩
    ·exact ⟨_,h3,trivial⟩
    ·obtain ⟨o4,g4,_⟩:=h4
     exact ⟨_,g4,trivial⟩
    ·obtain ⟨o5,g5,_⟩:=h5
     exact ⟨_,g5,trivial⟩
    ·exact ⟨_,h2,trivial⟩
   rw [upd_ne (Nat.ne_of_lt (Heap.lt_size eo))]
   exact (hf c hcm).1
  | _=>exact absurd (show false=true from htg) Bool.false_ne_true
 done:=by
  intro X hP hw hK hkc hc i pins s σ H E I hf st hg
  subst hP hw hK
  obtain ⟨h1,h2,⟨u,v,h3⟩,h4,h5⟩:=st
  obtain ⟨xs,ys,qa,qb,hl⟩:=hg
  obtain ⟨_,its,n1,rv,e1,pa⟩:=I.lstM qa
  obtain ⟨_,jts,n2,rw',e2,pb⟩:=I.lstM qb
  refine wpAny_pyNext_zip_end (I.ok.hd.1 (hkc.trans hcm)) D h1 h2 h3 h4 h5 (show s.heap.IsList a its.toArray from ⟨_,pa,rfl,n1,rfl⟩) (show s.heap.IsList b jts.toArray from ⟨_,pb,rfl,n2,rfl⟩) ?_ λ g up=>⟨rfl,?_⟩
  ·rcases hl with hl | hl
   ·exact .inl (by simp;omega)
   ·exact .inr (by simp;omega)
  ·refine I.turnedL (t':=s.toks) (L:=[z,TO,j1,j2,TI]) (λ c o hcn e=>?_) hf
   simp only [List.mem_cons,List.not_mem_nil,or_false,not_or] at hcn
   exact up c o hcn.1 hcn.2.1 hcn.2.2.1 hcn.2.2.2.1 e
 self:=λ _ _ _ _ _ st h=>wpAny_pyIter_zip st.1 h
section
variable {X:Cx} {tg:Expr}
def iZipL (ta:TA):TI:=λ σ H R=>ta σ H λ vs H1 => ∃ a b xs ys,vs=[.ref a,.ref b]/\H1 a=some (.lst xs)/\H1 b=some (.lst ys)/\R (Itzl a b) H1
theorem qi_zipL {e1 e2:Expr} {ta:TA} {p pos:Pos} (htg:tupleTg tg=true) (hg:Gl X "zip") (hm:X.mg "zip" = none) (ha:QA X [e1,e2] ta) (hs:starEach [e1,e2] X.env=[(false,eval e1 X.env),(false,eval e2 X.env)]:=by rfl) (hs2:starEach [e2] X.env=[(false,eval e2 X.env)]:=by rfl)
  (hb:bootBuiltins "zip" = some (.type "zip"):=by decide +kernel) (hcm:X.calm=true:=by rfl):QI X tg (.Call (.Name "zip" p) [e1,e2] [] pos) (iZipL ta):=⟨by
 intro pins s σ H R I h
 refine Call_ (ld_blt I hg hm hb (PyProof.Rows.callWith_type1 (thn (ha.o pos pins s σ H _ I h) λ us s1 ⟨vs,H1,I1,r1,q1⟩=>?_) (by rw [hs,hs2]) (by rw [hs2];rfl)))
 obtain ⟨a,b,xs,ys,e,qa,qb,q⟩:=q1
 subst e
 obtain ⟨u1,u2,rfl,ra,rb⟩:=vals2 r1
 cases ra
 cases rb
 obtain ⟨_,its,n1,rv,e1,pa⟩:=I1.lstM qa
 obtain ⟨_,jts,n2,rw',e2,pb⟩:=I1.lstM qb
 have la:a<s1.heap.objs.size:=Heap.lt_size pa
 have lb:b<s1.heap.objs.size:=Heap.lt_size pb
 refine call_zip_2 (show s1.heap.IsList a its.toArray from ⟨_,pa,rfl,n1,rfl⟩) (show s1.heap.IsList b jts.toArray from ⟨_,pb,rfl,n2,rfl⟩) λ g z1 z2 z3 z4 z5 _ up=>?_
 refine wpAny_pyIter_zip z1 ?_
 have I2:Inv X pins σ H1 { s1 with heap:=g }:=I1.kept (t':=s1.toks) up
 refine ⟨_,[s1.heap.objs.size+4,s1.heap.objs.size+3,s1.heap.objs.size,s1.heap.objs.size+1,s1.heap.objs.size+2],_,_,H1,rfl,I2,turn_zipL hcm htg (apart_new la lb),⟨z1,z2,⟨_,_,z3⟩,z4,z5⟩,λ c hc=>?_,q⟩
 have big:s1.heap.objs.size<=c:=by
  simp only [List.mem_cons,List.not_mem_nil,or_false] at hc
  rcases hc with rfl | rfl | rfl | rfl | rfl
  ·exact Nat.le_add_right _ _
  ·exact Nat.le_add_right _ _
  ·exact Nat.le_refl _
  ·exact Nat.le_add_right _ _
  ·exact Nat.le_add_right _ _
 exact I1.fpOk big (I1.hok.fresh big)⟩
end
theorem comp_zipL {a b D:Addr} {js:List (Option Nat)} {g:TG} {te:TE} {σ:St} {H1:Hp} {Q:VK} {xs ys:List V} (hn:min xs.length ys.length<=sizeLine) (Pv:Nat->St->Hp->List V->Prop) (h0:Pv 0 (pick js σ) (upd H1 D (.lst [])) [])
  (hl : ∀ i σ' H' zs,H' D=some (.lst zs)->Pv i σ' H' zs->H' a=some (.lst xs)/\H' b=some (.lst ys))
  (hs : ∀ i x y p σ' H' zs (R:St->V->Hp->Prop),xs[i]?=some x->ys[i]?=some y->H' p=none->H' D=some (.lst zs)->zs.length=i->Pv i σ' H' zs->(∀ σ2 z H4,H4 D=some (.lst zs)->Pv (i+1) σ2 (upd H4 D (.lst (zs++[z]))) (zs++[z])->R σ2 z H4) ->
   g (.ref p) σ' (upd H' p (.tup [x,y])) λ σ2 H3=>te σ2 H3 λ z H4=>R σ2 z H4)
  (hst : ∀ σ' H' zs,H' D=some (.lst zs)->zs.length=min xs.length ys.length->Pv (min xs.length ys.length) σ' H' zs->Q (.ref D) H'):CompW (Itzl a b) D js g tNoTest te σ H1 Q:=by
 refine comp_plain hn Pv h0 (λ i σ' H' zs hi hD p=>?_) (λ σ' H' zs hD b' c=>⟨?_,hst σ' H' zs hD b' c⟩) λ i σ' H' zs x H2 R hi hD hz p hx k=>?_
 ·obtain ⟨qa,qb⟩:=hl i σ' H' zs hD p
  have h1:i<xs.length:=by omega
  have h2:i<ys.length:=by omega
  exact ⟨xs,ys,xs[i],ys[i],qa,qb,by simp [h1],by simp [h2]⟩
 ·obtain ⟨qa,qb⟩:=hl _ σ' H' zs hD c
  exact ⟨xs,ys,qa,qb,by omega⟩
 ·obtain ⟨qa,qb⟩:=hl i σ' H' zs hD p
  obtain ⟨q,hq,rfl,x',y',rfl,hxy⟩:=hx
  obtain ⟨ex,ey⟩:=hxy xs ys qa qb
  exact hs i x' y' q σ' H' zs R ex ey hq hD hz p k
end L2
namespace Xi
open PySem PyProof.Rows
section
variable {prog:Program} {w:World} {A:Around} {E:Value->Shared->Prop} {h:Heap} {g:Array GenState} {d:Drawn} {t:Nat} {os:OsState}
variable {nm q:Str} {C N:Addr} {bs bm bmB:List Value} {hdct:Bool} {sn:List Str} {sub:List Value} {ab:Bool} {col:Option Bool} {dd:Option Addr} {k0 k1 k2 k3 k5:Option Value} {B newId initId:String}
theorem type_call (F:ExcBaseFacts B newId initId bmB) (T:OwnTail h bmB bm) {mN:Str->Option Value} {rest:List Value} {fI:Addr} {oI:Obj} {Q:PySem.Fin->Shared->Prop}
  (hC:h.get? C=some (excClassObj nm q C N bs bm hdct sn sub ab col dd k0 k1 k2 k3 k5 newId)) (hn:h.Ns N mN) (hi:mN "__init__" = some (.ref fI))
  (hfI:h.get? fI=some oI) (hfc:oI.cls=.type "function")
  (hq : ∀ h' e,Heap.MadeExcOf h h' e (.ref C) rest ->
   wpAny (model prog w) A (call (.ref fI) (.ref e::rest)) (λ r s'=>r=.none/\Q (.done (.ret (.ref e))) s') E ⟨h',g,d,t,os⟩) (hrest:rest.length<=sizeLine) :
  wpAny (model prog w) A (Builtin.«type.__call__» ⟨.ref C::rest,[]⟩) Q E ⟨h,g,d,t,os⟩:=by
 repeat (first | with_reducible refine wpAny_loadPart_at hC ?_ | with_reducible refine wpAny_madeBy_exc hC ?_ | wp_step)
 refine codeAny_call_builtin_code (Code.quiet_builtin _ F.quiet) (wpAny_check_new_subT F T hC ?_)
 refine codeAny_exc_new_subT F T hC ?_ hrest
 show wpAny _ _ _ _ _ _
 have hC₁:=Heap.get?_push_of_some { cls:=.ref C,data:=.fields #[.ref h.objs.size,.none,.none,.none,.bool false,.none] }
  (Heap.get?_push_of_some { cls:=.type "tuple", data:=.seq rest.toArray } hC)
 have hfI₁:=Heap.get?_push_of_some { cls:=.ref C,data:=.fields #[.ref h.objs.size,.none,.none,.none,.bool false,.none] }
  (Heap.get?_push_of_some { cls:=.type "tuple", data:=.seq rest.toArray } hfI)
 have hn₁:((h.push { cls:=.type "tuple", data:=.seq rest.toArray }).push { cls:=.ref C,data:=.fields #[.ref h.objs.size,.none,.none,.none,.bool false,.none] }).Ns N mN :=
  let ⟨o,es,ep,e,r⟩:=hn;⟨o,es,ep,Heap.get?_push_of_some _ (Heap.get?_push_of_some _ e),r⟩
 have hget:((h.push { cls:=.type "tuple", data:=.seq rest.toArray }).push
   { cls:=.ref C,data:=.fields #[.ref h.objs.size,.none,.none,.none,.bool false,.none] }).get? (h.objs.size+1)=some
   { cls:=.ref C,data:=.fields #[.ref h.objs.size,.none,.none,.none,.bool false,.none] }:=by heap_get
 have hcC:(Value.ref C::bm).contains (.ref C)=true:=by simp
 have T₁:=T.keeps (h':=(h.push { cls:=.type "tuple", data:=.seq rest.toArray }).push { cls:=.ref C,data:=.fields #[.ref h.objs.size,.none,.none,.none,.bool false,.none] })
  λ b o e=>Heap.get?_push_of_some _ (Heap.get?_push_of_some _ e)
 unfold isInstance
 repeat (first | with_reducible refine wpAny_loadPart_at hget ?_ | (with_reducible refine wpAny_isSubtype_exc hC₁ ?_;rw [hcC]) | wp_step)
 show wpAny _ _ (typeLookup (.ref C) _) _ _ _
 refine wpAny_typeLookup_tail hC₁ hn₁ T₁ F.mroIs F.init.lookup ?_
 rw [hi]
 refine wpAny_holding (wpAny_bind ?_)
 unfold bindSpecial
 refine wpAny_bind (wpAny_typeOf (T := "function") ⟨_,hfI₁,hfc⟩ ?_)
 rw [if_pos (by decide)]
 refine wpAny_pure (wpAny_bind (wpAny_mono (hq _ (h.objs.size+1) ⟨λ b o hb=>Heap.get?_push_of_some _ (Heap.get?_push_of_some _ hb),Heap.get?_none_of_le (Nat.le_succ _),h.objs.size,hget,Heap.get?_none_of_le (Nat.le_refl _),?_⟩) (λ r s' hr=>?_) λ _ _ x=>x))
 ·exact Heap.get?_push_of_some _ (Heap.get?_push_at rfl rfl)
 ·obtain ⟨rfl,hQ⟩:=hr
  wp_walk
  exact hQ
theorem call_exc (F:ExcBaseFacts B newId initId bmB) (T:OwnTail h bmB bm) {mN:Str->Option Value} {rest:List Value} {fI:Addr} {oI:Obj} {Q:Value->Shared->Prop}
  (hC:h.get? C=some (excClassObj nm q C N bs bm hdct sn sub ab col dd k0 k1 k2 k3 k5 newId)) (hn:h.Ns N mN) (hi:mN "__init__" = some (.ref fI))
  (hfI:h.get? fI=some oI) (hfc:oI.cls=.type "function")
  (hq : ∀ h' e,Heap.MadeExcOf h h' e (.ref C) rest ->
   wpAny (model prog w) (A.under (.builtin "type.__call__" ⟨.ref C::rest,[]⟩)) (call (.ref fI) (.ref e::rest)) (λ r s'=>r=.none/\Q (.ref e) s') E ⟨h',g,d,t,os⟩) (hrest:rest.length<=sizeLine) :
  wpAny (model prog w) A (call (.ref C) rest) Q E ⟨h,g,d,t,os⟩:=by
 have f1:=tc_lookup
 have f2:=tc_bind (.ref C)
 have hT:(⟨h,g,d,t,os⟩:Shared).TypeIs (.ref C) "type" := ⟨_,hC,rfl⟩
 refine wpAny_call (codeAny_of_tree ?_)
 show wpAny _ _ (callAny (.ref C) _) _ _ _
 repeat (any_goals (first | assumption | with_reducible refine wpAny_loadPart_at hC ?_ | wp_step))
 refine ⟨rfl,?_⟩
 refine codeAny_call_builtin_at (Code.quiet_builtin _ (by decide +kernel)) entry_typeCall (wpAny_check_type_call_sub hC (type_call (hrest:=hrest) F T hC hn hi hfI hfc λ h' e hm=>?_))
 exact hq h' e hm
end
section
variable {M:Model} {A:Around} {E:Value->Shared->Prop} {env:Env}
variable {nm q:Str} {C N:Addr} {bs bm:List Value} {hdct:Bool} {sn:List Str} {sub:List Value} {ab:Bool} {col:Option Bool} {dd:Option Addr} {k0 k1 k2 k3 k5:Option Value} {newId:String}
theorem raiseStmt_made {s:Shared} {x:Sem Value} {Q:Flow->Shared->Prop} (hbase:bm.contains (.type "BaseException")=true) (hh:A.handled=none)
  (h:wpAny M A x (λ v s₁ => ∃ e t dx,v=.ref e/\s₁.heap.get? C=some (excClassObj nm q C N bs bm hdct sn sub ab col dd k0 k1 k2 k3 k5 newId) /\
   s₁.heap.get? e=some { cls:=.ref C,dict:=dx,data:=.fields #[.ref t,.none,.none,.none,.bool false,.none] }/\E (.ref e) s₁) E s) :
  wpAny M A (raiseStmt env (some x) none) Q E s:=by
 have hcB:(Value.ref C::bm).contains (.type "BaseException")=true:=by rw [List.contains_cons,hbase,Bool.or_true]
 unfold raiseStmt
 refine wpAny_bind (wpAny_mono h (λ v s₁ h₁=>?_) λ _ _ x=>x)
 obtain ⟨e,t,dx,rfl,hC,he,hE⟩:=h₁
 obtain ⟨hp,g,d,tk,os⟩:=s₁
 repeat (first | with_reducible refine wpAny_loadPart_at he ?_ | with_reducible refine wpAny_loadPart_at hC ?_ | (with_reducible refine wpAny_isSubtype_exc hC ?_;rw [hcB]) | wp_step)
 exact wpAny_raiseNew_none hh hE
end
section
variable {prog:Program} {w:World} {A:Around} {E:Value->Shared->Prop} {s:Shared} {env:Env}
variable {nm q:Str} {C N:Addr} {bs bm bmB:List Value} {hdct:Bool} {sn:List Str} {sub:List Value} {ab:Bool} {col:Option Bool} {dd:Option Addr} {k0 k1 k2 k3 k5:Option Value} {B newId initId:String}
theorem raise_call (F:ExcBaseFacts B newId initId bmB) {mN:Str->Option Value} {fI:Addr} {oI:Obj} {x:Str} {np cpos pos:Pos} {args:List Expr} {Q:Flow->Shared->Prop}
  (hbase:bm.contains (.type "BaseException")=true) (hh:A.handled=none) (hplain:(backTo cpos (starEach args env)).any (·.1)=false) (hi:mN "__init__" = some (.ref fI)) (hfc:oI.cls=.type "function")
  (h:wpAny (model prog w) A (eval (.Name x np) env) (λ f s₁=>f=.ref C/\wpAny (model prog w) A (evalArgs (.ref C) true (backTo cpos (starEach args env)) [])
   (λ a s₂=>a.kw=[]/\a.pos.length<=sizeLine/\s₂.heap.get? C=some (excClassObj nm q C N bs bm hdct sn sub ab col dd k0 k1 k2 k3 k5 newId)/\s₂.heap.Ns N mN/\OwnTail s₂.heap bmB bm/\s₂.heap.get? fI=some oI /\
    ∀ h' e,Heap.MadeExcOf s₂.heap h' e (.ref C) a.pos->wpAny (model prog w) (A.under (.builtin "type.__call__" ⟨.ref C::a.pos,[]⟩)) (call (.ref fI) (.ref e::a.pos))
     (λ r s'=>r=.none/\s'.heap.get? C=some (excClassObj nm q C N bs bm hdct sn sub ab col dd k0 k1 k2 k3 k5 newId)/\(∃ t dx,s'.heap.get? e=some { cls:=.ref C,dict:=dx,data:=.fields #[.ref t,.none,.none,.none,.bool false,.none] })/\E (.ref e) s') E { s₂ with heap:=h' }) E s₁) E s) :
  wpAny (model prog w) A (exec (.Raise (some (.Call (.Name x np) args [] cpos)) none pos) env) Q E s:=by
 rw [arm_exec_Raise]
 first
  | refine wpAny_bind (wpAny_standAt (raiseStmt_made (C:=C) (nm:=nm) (q:=q) (N:=N) (bs:=bs) (bm:=bm) (hdct:=hdct) (sn:=sn) (sub:=sub) (ab:=ab) (col:=col) (dd:=dd) (k0:=k0) (k1:=k1) (k2:=k2) (k3:=k3) (k5:=k5) (newId:=newId) hbase hh (wpAny_bind (wpAny_mono (wpAny_Call_ofName (wpAny_mono h (λ f s₁ h₁=>?_) λ _ _ x=>x)) (λ v s₃ h₃=>wpAny_bind (wpAny_standAt (wpAny_pure h₃))) λ _ _ x=>x))))
  | (simp only [evalOpt,Option.map];refine wpAny_bind (wpAny_standAt (raiseStmt_made (C:=C) (nm:=nm) (q:=q) (N:=N) (bs:=bs) (bm:=bm) (hdct:=hdct) (sn:=sn) (sub:=sub) (ab:=ab) (col:=col) (dd:=dd) (k0:=k0) (k1:=k1) (k2:=k2) (k3:=k3) (k5:=k5) (newId:=newId) hbase hh (wpAny_bind (wpAny_mono (wpAny_Call_ofName (wpAny_mono h (λ f s₁ h₁=>?_) λ _ _ x=>x)) (λ v s₃ h₃=>wpAny_bind (wpAny_standAt (wpAny_pure h₃))) λ _ _ x=>x)))))
  | (refine wpAny_bind (wpAny_standAt (raiseStmt_made (C:=C) (nm:=nm) (q:=q) (N:=N) (bs:=bs) (bm:=bm) (hdct:=hdct) (sn:=sn) (sub:=sub) (ab:=ab) (col:=col) (dd:=dd) (k0:=k0) (k1:=k1) (k2:=k2) (k3:=k3) (k5:=k5) (newId:=newId) hbase hh ?_));refine wpAny_bind (wpAny_mono (wpAny_Call_ofName (wpAny_mono h (λ f s₁ h₁=>?_) λ _ _ x=>x)) (λ v s₃ h₃=>wpAny_bind (wpAny_standAt (wpAny_pure h₃))) λ _ _ x=>x))
 obtain ⟨rfl,h₁⟩:=h₁
 unfold callWith
 refine wpAny_bind (wpAny_holding (wpAny_mono h₁ (λ a s₂ h₂=>wpAny_bind (wpAny_standAt ?_)) λ _ _ x=>x))
 obtain ⟨apos,akw⟩:=a
 obtain ⟨hkw,hlen,hC,hn,T,hfI,h₂⟩:=h₂
 obtain rfl:akw=[]:=hkw
 obtain ⟨hp,g,d,tk,os⟩:=s₂
 simp only [hplain]
 refine wpAny_bind (wpAny_keeperOf_exc hC ?_)
 refine wpAny_bind (call_exc (hrest:=hlen) F T hC hn hi hfI hfc λ h' e hm=>wpAny_mono (h₂ h' e hm) (λ r s' hr=>⟨hr.1,?_⟩) λ _ _ z=>z)
 obtain ⟨_,c1,⟨t,dx,c2⟩,c3⟩:=hr
 refine wpAny_bind (wpAny_holding (wpAny_point (wpAny_pure ?_)))
 exact ⟨e,t,dx,rfl,c1,c2,c3⟩
end
end Xi
namespace PySem.W
open PySem PySem.Spec PySem.Calls PyProof.Rows Builtin.ObjectAttr
theorem refuseV (self:Value):refuseLoop self "__setattr__" L2.bmV=pure ():=by kernel_rfl
section
variable {prog:Program} {w:World} {A:Around} {E:Value->Shared->Prop} {R:Result->Shared->Prop} {s:Shared} {K:Frag} {x C Fr:Addr} {ox:Obj} {od:Option Obj} {cd:ClassData}
theorem osa_openX {name:Str} {tk:Tok} {v:Value} {r:Option Value} (X:K.In s.heap) (I:InstAt s.heap x ox C od) (hc:clsIn K C=some cd) (hmro:cd.mro=.ref C::.ref Fr::L2.bmV) (hob:mroIn K C (.type "object")=some true) (ht:takerIn K C name=some r)
  (h : ∀ b,wpAny (model prog w) A.in1 (match r with | some a=>setByDescriptor a (.ref x) v | none=>storeInOwnDict (.ref x) (.ref C) (.str name tk) name v b)
   (λ fin s'=>match fin with | .done f=>R (.ok f) s' | .again c'=>c'.quiet=true/\codeAny (model prog w) A c' R s') (λ e s'=>R (.error e) s') s) :
  codeAny (model prog w) A (.call (.builtin "object.__setattr__") ⟨[.ref x,.str name tk,v],[]⟩) R s:=by
 have SF:=PySem.F.store_object
 have sub:Looks (model prog w) s.heap (isInstance (.ref x) (.type "object")) true:=I.type.andThen (looks_mroIn X hob)
 refine codeAny_call_builtin SF.slot.plain SF.entry (@check_slot (model prog w) _ _ s "object.__setattr__" "object" "__setattr__" (.ref x) [.str name tk,v] [] _ SF.kind SF.split sub (SF.args (.ref x) (.str name tk) v) ?_)
 obtain ⟨attr,ha,hr⟩:=Option.bind_eq_some_iff.mp ht
 have hm:Looks (model prog w) s.heap (mroOf (.ref C)) cd.mro:=(looks_clsIn X hc).andThen .now
 have L3:Looks (model prog w) s.heap (storeTaker? attr) r:=by
  cases attr with
  | none=>cases hr;exact .now
  | some a =>
   obtain ⟨b,hb,rfl⟩:=Option.map_eq_some_iff.mp hr
   refine (looks_takesIn X hb).andThen ?_
   cases b<;>exact .now
 rw [osa_eq,refuse_eq]
 refine wpAny_bind (wpAny_bind (I.type.here (wpAny_bind (hm.here ?_))))
 rw [hmro,refuseLoop_ref,refuseLoop_ref,refuseV]
 refine wpAny_pure (wpAny_bind (I.type.here (wpAny_bind ((looks_findIn X ha).here (wpAny_bind (L3.here ?_))))))
 exact h _
theorem set_exc {vs:Array Value} {name:Str} {v:Value} {Q:Unit->Shared->Prop} (X:K.In s.heap) (hx:s.heap.get? x=some ⟨.ref C,none,.fields vs,#[]⟩) (hc:clsIn K C=some cd) (hmro:cd.mro=.ref C::.ref Fr::L2.bmV) (hd:cd.hasDict=true)
  (hob:mroIn K C (.type "object")=some true) (hs:findIn K (.ref C) "__setattr__" = some (some (.builtin "object.__setattr__"))) (ht:takerIn K C name=some none)
  (h : ∀ h' dx tk,s.heap.get? dx=none->h'.get? x=some ⟨.ref C,some dx,.fields vs,#[]⟩->h'.Ns1 dx (λ y=>if y=name then some v else none)->(∀ b o,b≠x->s.heap.get? b=some o->h'.get? b=some o)->Q () { s with heap:=h',toks:=tk }) :
  wpAny (model prog w) A (setAttr (.ref x) name v) Q E s:=by
 have I:InstAt s.heap x ⟨.ref C,none,.fields vs,#[]⟩ C none:=⟨hx,rfl,rfl,trivial⟩
 refine set_plain X I hs (osa_openX (s:={ s with toks:=s.toks+1 }) (r:=none) X I hc hmro hob ht λ b=>?_)
 refine wpAny_bind (wpAny_pure (wpAny_bind (wpAny_bind (wpAny_loadPart hx (wpAny_bind (PySem.W.Looks.here (s:={ s with toks:=s.toks+1 }) (PySem.W.looks_clsIn X hc) ?_))))))
 rw [hd]
 rw [if_neg (by simp)]
 show wpAny _ _ (alloc { cls:=.type "dict", data:=.dict #[] }>>=λ d=>update x (λ o=>{ o with dict:=some d })>>=λ _=>dictMade (.ref C) x d) _ _ _
 have xl:x<s.heap.objs.size:=Heap.lt_size hx
 have hxp:(s.heap.push { cls:=.type "dict", data:=.dict #[] }).get? x=some ⟨.ref C,none,.fields vs,#[]⟩:=Heap.get?_push_of_some _ hx
 refine wpAny_bind (wpAny_alloc (wpAny_bind (wpAny_update hxp ?_)))
 show wpAny _ _ (pure (some s.heap.objs.size)) _ _ _
 refine wpAny_pure ?_
 have hs1:Heap.SameBut x (s.heap.push { cls:=.type "dict", data:=.dict #[] }) ((s.heap.push { cls:=.type "dict", data:=.dict #[] }).update x λ o=>{ o with dict:=some s.heap.objs.size }):=Heap.SameBut.update _ _ _
 have hx1:((s.heap.push { cls:=.type "dict", data:=.dict #[] }).update x λ o=>{ o with dict:=some s.heap.objs.size }).get? x=some ⟨.ref C,some s.heap.objs.size,.fields vs,#[]⟩:=Heap.get?_update_self _ hxp rfl
 generalize ((s.heap.push { cls:=.type "dict", data:=.dict #[] }).update x λ o=>{ o with dict:=some s.heap.objs.size })=h1 at hs1 hx1 ⊢
 have hd1:h1.get? s.heap.objs.size=some { cls:=.type "dict", data:=.dict #[] }:=(hs1.2 _ (Nat.ne_of_gt xl)).trans (Heap.get?_push_size _ rfl)
 have n1:h1.Ns1 s.heap.objs.size (λ _=>none):=Heap.Ns1.of_empty ⟨_,#[],_,hd1,rfl,(λ e he=>absurd he (by simp)),λ _=>rfl⟩
 show wpAny _ _ (storeInDict s.heap.objs.size (.str name s.toks) name v) _ _ _
 refine wpAny_bind (wpAny_pure (wpAny_bind ?_))
 refine wpAny_nsSet1 (s:={ s with heap:=h1,toks:=s.toks+1 }) n1 λ h' hn2 hs2=>?_
 obtain ⟨oD,esD,epD,hoD,hdD,hcD⟩:=hn2.count (PySem.Within.cons (ns:=[]) name v (λ y hy=>absurd rfl hy))
 refine wpAny_bind (wpAny_lookBehind hoD (by rw [hdD];exact pastItsLine_dict (Nat.le_trans hcD (by show 1<=sizeLine+1;decide))) ?_)
 refine wpAny_pure (h h' s.heap.objs.size _ (Heap.get?_none_of_le (Nat.le_refl _)) ((hs2.2 _ (Nat.ne_of_lt xl)).trans hx1) hn2 λ b o nb e=>?_)
 have bl:b<s.heap.objs.size:=Heap.lt_size e
 exact (hs2.2 _ (Nat.ne_of_lt bl)).trans ((hs1.2 _ nb).trans (Heap.get?_push_of_some _ e))
theorem get_exc {name:Str} {expr:Bool} {v:Value} {Q:Value->Shared->Prop} (X:K.In s.heap) (I:InstAt s.heap x ox C od) (c:XcIs K C) (hf:findObj K C od name=some (.value v)) (hh:handedIn v=true) (h:Q v { s with toks:=s.toks+1 }) :
  wpAny (model prog w) A (getAttr (.ref x) name expr) Q E s:=by
 obtain ⟨hh',g,d,t,os⟩:=s
 have L0:=I.type (M:=model prog w)
 have L1:=looks_findIn (M:=model prog w) X c.ga
 have L2:=looks_findIn (M:=model prog w) X c.gn
 have L3:=looks_find (M:=model prog w) X I hf
 have f3:=PySem.F.attr_ValueError.ga.bind (.ref x)
 unfold getAttr getAttrBy
 refine wpAny_bind (wpAny_mkText (wpAny_holding (wpAny_bind (L0.at (wpAny_bind (L1.at ?_))))))
 show wpAny _ _ (getAttrByItsOwn _ _ _ _ _ _) _ _ _
 unfold getAttrByItsOwn hookBefore
 refine wpAny_bind (L2.at (wpAny_bind (wpAny_attempt (wpAny_holding ?_))))
 have e1:callGetattribute (.ref x) (.str name t) (.builtin "BaseException.__getattribute__") expr=boundAndCalled (.builtin "BaseException.__getattribute__") (.ref x) (.str name t):=by
  unfold callGetattribute
  cases expr<;>rfl
 show wpAny _ _ (callGetattribute (.ref x) (.str name t) (.builtin "BaseException.__getattribute__") expr) _ _ _
 rw [e1]
 unfold boundAndCalled
 repeat (any_goals (first | assumption | wp_step))
 refine codeAny_call_builtin PySem.F.attr_ValueError.ga.plain PySem.F.entry_bexc_ga (xc_check X I c ?_)
 refine wpAny_bind (wpAny_pure (wpAny_bind (wpAny_pure (wpAny_bind (L0.at (wpAny_bind (L3.at ?_)))))))
 refine wpAny_pure ?_
 show wpAny _ _ (handedOut v) _ _ _
 rw [handedOut_of hh]
 exact wpAny_pure h
end
end PySem.W
namespace L2
open PySem PySem.Spec PyProof.Rows Xn
structure XI (K:PySem.W.Frag) (mg:Str->Option Value) (x:Str) (C Fr fI:Addr):Prop where
 at_:mg x=some (.ref C)
 ob : ∃ nm q N bs sn sub ab col dd k0 k1 k2 k3 k5,K.lookup C=some (excClassObj nm q C N bs (.ref Fr::bmV) true sn sub ab col dd k0 k1 k2 k3 k5 "ValueError.__new__")/\PySem.W.nsOkIn K N=true/\PySem.W.nsIn K N "__init__" = some (some (.ref fI))
 fr:PySem.W.excIn K Fr bmV "ValueError.__new__" = true
 xc:PySem.W.XcIs K C
 sa:PySem.W.findIn K (.ref C) "__setattr__" = some (some (.builtin "object.__setattr__"))
 fn : ∃ oI,K.lookup fI=some oI/\oI.cls=.type "function"
theorem XI.cls {K:PySem.W.Frag} {mg:Str->Option Value} {x:Str} {C Fr fI:Addr} (c:XI K mg x C Fr fI) : ∃ cd,PySem.W.clsIn K C=some cd/\cd.mro=.ref C::.ref Fr::bmV/\cd.hasDict=true:=by
 obtain ⟨nm,q,N,bs,sn,sub,ab,col,dd,k0,k1,k2,k3,k5,h,_⟩:=c.ob
 have e:PySem.W.clsIn K C=(match K.lookup C with | some ⟨_,_,.cls cd,_⟩=>some cd | _=>none):=rfl
 rw [h] at e
 exact ⟨_,e,rfl,rfl⟩
theorem XI.hd {K:PySem.W.Frag} {mg:Str->Option Value} {x:Str} {C Fr fI:Addr} (c:XI K mg x C Fr fI):PySem.W.hasDictIn K C=true:=by
 obtain ⟨cd,h1,_,h3⟩:=c.cls
 unfold PySem.W.hasDictIn
 rw [h1]
 exact h3
theorem XI.tail {K:PySem.W.Frag} {mg:Str->Option Value} {x:Str} {C Fr fI:Addr} {h:Heap} (c:XI K mg x C Fr fI) (X:K.In h):OwnTail h bmV (.ref Fr::bmV):=by
 obtain ⟨tl,N,nm,q,bs,hdct,sn,sub,ab,col,dd,k0,k1,k2,k3,k5,mN,hC,hN,hni,T⟩:=(ECls.own (mg:=λ _=>some (.ref Fr)) (x:=x) ⟨rfl,c.fr⟩ X).obj
 exact .own hC hN hni .base
theorem ns_some_of {K:PySem.W.Frag} {h:Heap} {N:Addr} {mg:Str->Option Value} {n:Str} {v:Value} (X:K.In h) (G:h.Ns N mg) (e:PySem.W.nsIn K N n=some (some v)):mg n=some v:=by
 obtain ⟨o,es,ep,ho,hd,_,hf⟩:=G
 unfold PySem.W.nsIn at e
 split at e
 ·rename_i c d es' n' sl q
  have:=X _ _ q
  rw [ho] at this
  cases this
  cases hd
  split at e
  ·rename_i y he
   rw [<-hf]
   unfold nsFind findBy
   rw [<-Array.find?_toList,he]
   exact Option.some.inj e
  ·split at e<;>cases e
 ·cases e
def excM (e C:Addr) (d:Option Addr) (t:Addr):HO:=.ext λ h=>h.get? e=some { cls:=.ref C,dict:=d,data:=.fields #[.ref t,.none,.none,.none,.bool false,.none] }
theorem excM_ok {P:Program} {w:World} {H:Hp} {h:Heap} {e C t:Addr} {d:Option Addr} (he:h.get? e=some { cls:=.ref C,dict:=d,data:=.fields #[.ref t,.none,.none,.none,.bool false,.none] }):ObjOk P w H h e (excM e C d t) :=
 ⟨he,⟨_,he⟩,λ h1 h2 a k=>k _ a⟩
theorem Inv.forget {X:Cx} {pins:List (Addr×Obj)} {σ:St} {H H':Hp} {s:Shared} {e:Addr} (I:Inv X pins σ H s) (hne : ∀ b,b≠e->H' b=H b) (h0:H' e=none) (hx:(∀ xs,H e≠some (.tup xs))/\(∀ o u,H e≠some (.frz o u))/\(∀ ps,H e≠some (.tbl ps)) /\ ∀ b,H e≠some (.own b)):Inv X pins σ H' s:=by
 have le : ∀ b,H b=none->H' b=none:=λ b n=>by
  by_cases z:b=e
  ·rw [z];exact h0
  ·rw [hne b z];exact n
 refine ⟨I.ok,I.os,I.bare,⟨I.base.keep,I.base.slot,λ b ob q n hx=>le b (I.base.free b ob q n hx),I.base.there,λ b xs q=>?_,λ b ob u q=>?_,λ b ps q=>?_⟩,I.loc,I.cell,le _ I.free,λ x c q=>le _ (I.freeC x c q),λ p hp=>?_,λ b ob q=>?_,I.len⟩
 ·have:=I.base.tups b xs q
  rw [hne b λ z=>hx.1 xs (z ▸ this)];exact this
 ·have:=I.base.frzs b ob u q
  rw [hne b λ z=>hx.2.1 ob u (z ▸ this)];exact this
 ·obtain ⟨m,this⟩:=I.base.tbls b ps q
  exact ⟨m,by rw [hne b λ z=>hx.2.2.1 _ (z ▸ this)];exact this⟩
 ·obtain ⟨a,b,c,d,f⟩:=I.pin p hp
  exact ⟨a,le _ b,c,d,f⟩
 ·by_cases z:b=e
  ·rw [z,h0] at q;cases q
  ·rw [hne b z] at q
   refine (I.hok b ob q).stay (λ _ _ _ q=>q) (λ c q=>?_) λ c xs q=>?_
   ·rw [hne c λ z=>hx.2.2.2 _ (z ▸ q)];exact q
   ·rw [hne c λ z=>hx.1 _ (z ▸ q)];exact q
def sp_init (C:Addr) (f:Str):Sp:=λ vs H Q _ => ∃ (e t:Addr) (v:V),vs=[.ref e,v]/\H e=some (excM e C none t) /\ ∀ dx,H dx=none->Q .non (upd (upd H e (excM e C (some dx) t)) dx (.xd [(f,v)]))
def sRaiseI (C:Addr) (f:Str) (E:XK) (ta:TA):TS:=λ _ σ H=>ta σ H λ vs H1 => ∃ v,vs=[v] /\ ∀ dx H2,Same H1 H2->H2 dx=some (.xd [(f,v)])->E (.ref C) (some dx) H2
theorem qs_raiseI {X:Cx} {E:XK} {x f:Str} {C Fr fI:Addr} {kk:Nat} {fd:FuncData} {ps:List Str} {a:Expr} {ta:TA} {np cpos pos:Pos} (k:Xok X E) (hx:X.ex=[]) (hc:X.calm=true) (c:XI X.K X.mg x C Fr fI) (F:FnOk X.prog X.w X.K X.mg X.base CX0 kk fI fd ps (sp_init C f)) (hr:Room (kk+1) X.A) (hb:Binds X.K fd ps [])
  (hg:Gl X x) (ha:QA X [a] ta) (hst:noStar a=true:=by rfl) (hpl:(backTo cpos (starEach [] X.env)).any (·.1)=false:=by rfl) (hd:(x == ("__debug__" : Str))=false:=by decide):QS X (.Raise (some (.Call (.Name x np) [a] [] cpos)) none pos) (sRaiseI C f E ta):=⟨by
 intro pins s σ H D I h
 obtain ⟨nm,q,N,bs,sn,sub,ab,col,dd,k0,k1,k2,k3,k5,hCK,hNok,hNi⟩:=c.ob
 obtain ⟨oI,hIK,hIc⟩:=c.fn
 have he:=starEach_cons hst [] X.env
 have hmN:X.base.nsMap N "__init__" = some (.ref fI):=ns_some_of I.mod.kin (.of_isNs (PySem.W.isNs_of_in I.mod.kin hNok)) hNi
 refine Xi.raise_call (C:=C) (nm:=nm) (q:=q) (N:=N) (bs:=bs) (bm:=.ref Fr::bmV) (hdct:=true) (sn:=sn) (sub:=sub) (ab:=ab) (col:=col) (dd:=dd) (k0:=k0) (k1:=k1) (k2:=k2) (k3:=k3) (k5:=k5)
  PySem.F.excBase_ValueError (mN:=X.base.nsMap N) (fI:=fI) (oI:=oI) (by rfl) (I.ok.hd.1 hc) (by rw [he];show (false||(backTo cpos (starEach [] X.env)).any (·.1))=false;rw [hpl];rfl) hmN hIc (ld_glob I hg c.at_ ⟨rfl,?_⟩ hd)
 have ha':=ha.o cpos pins s σ H _ I h
 rw [he] at ha' ⊢
 refine Calls.evalArgs_plain (thn ha' λ us s1 ⟨vs,H1,I1,r,v,ev,hE⟩=>?_)
 subst ev
 obtain ⟨u,rfl,ru⟩:=vals1 r
 have hN:X.base.Ns N (X.base.nsMap N):=.of_isNs (PySem.W.isNs_of_in I.mod.kin hNok)
 refine ⟨rfl,(by show 1<=sizeLine;decide),I1.kIn _ _ hCK,hN.keeps I1.bk,c.tail I1.kIn,I1.kIn _ _ hIK,λ h' e hm=>?_⟩
 obtain ⟨t,he',_,_⟩:=hm.there
 have I2:Inv X pins σ H1 { s1 with heap:=h' }:=I1.kept (t':=s1.toks) hm.keeps
 have fe:Fresh X pins e:=Fresh.of I1 hx hm.new
 have He:H1 e=none:=I1.hok.gone hm.new
 have nfe : ∀ b∈frs X.stack,b≠e:=λ b hb z=>by
  obtain ⟨_,o,ho,_⟩:=I1.stack.mem hb
  rw [z,hm.new] at ho;cases ho
 have I3:Inv X pins σ (upd H1 e (excM e C none t)) { s1 with heap:=h' }:=I2.known hx fe He (excM_ok he') nfe
 have r2:Vals [V.ref e,v] [Value.ref e,u]:=.cons rfl (.cons ru .nil)
 have hq:sp_init C f [V.ref e,v] (upd H1 e (excM e C none t)) (λ v' H2=>v'=.non /\ ∃ dx,upd H1 e (excM e C none t) dx=none/\H2=upd (upd (upd H1 e (excM e C none t)) e (excM e C (some dx) t)) dx (.xd [(f,v)])) E0 :=
  ⟨e,t,v,rfl,upd_same,λ dx hdx=>⟨rfl,dx,hdx,rfl⟩⟩
 have hl:([Value.ref e,u]++[]).length=ps.length:=by
  have e1:=F.len _ _ _ _ hq
  rw [<-e1];rfl
 refine wpAny_call (codeAny_mono (F.run _ X.stack _ _ ⟨[Value.ref e,u],[]⟩ [Value.ref e,u] [V.ref e,v] _ E0 (hr.make C [u] []) (I3.env0.make C [u] []) (hb _ [Value.ref e,u] I3.kIn hl) r2 hq) λ r s' hq'=>?_)
 cases r with
 | error e=>exact False.elim hq'
 | ok fl =>
  cases fl with
  | next=>exact False.elim hq'
  | brk=>exact False.elim hq'
  | cont=>exact False.elim hq'
  | ret uu =>
   obtain ⟨v',H',I4,rv,ev,dx,hdx,eH⟩:=I3.after hq'
   subst ev
   have ndx:dx≠e:=λ z=>by rw [z,upd_same] at hdx;cases hdx
   have hdx1:H1 dx=none:=by rw [upd_ne ndx] at hdx;exact hdx
   have hHe:H' e=some (excM e C (some dx) t):=by rw [eH,upd_ne (Ne.symm ndx),upd_same]
   have hobj:s'.heap.get? e=some { cls:=.ref C,dict:=some dx,data:=.fields #[.ref t,.none,.none,.none,.bool false,.none] }:=(I4.hok e _ hHe).1
   have I5:Inv X pins σ (upd H1 dx (.xd [(f,v)])) s':=by
    refine I4.forget (e:=e) (λ b nb=>?_) ?_ ⟨λ xs z=>?_,λ o u z=>?_,λ ps z=>?_,λ b z=>?_⟩
    ·rw [eH]
     by_cases z:b=dx
     ·rw [z,upd_same,upd_same]
     ·rw [upd_ne z,upd_ne z,upd_ne nb,upd_ne nb]
    ·rw [upd_ne (Ne.symm ndx)];exact He
    ·rw [hHe] at z;cases z
    ·rw [hHe] at z;cases z
    ·rw [hHe] at z;cases z
    ·rw [hHe] at z;cases z
   refine ⟨rv,I4.kIn _ _ hCK,⟨t,some dx,hobj⟩,?_⟩
   refine k pins σ _ s' e C (some dx) .none [] I5 fe (by rw [upd_ne (Ne.symm ndx)];exact He) ⟨_,_,hobj,rfl,rfl,rfl,rfl,rfl⟩ (.inl ⟨rfl,rfl⟩) (λ b hb=>absurd hb (by simp)) (hE dx _ (W2.Same.new hdx1) upd_same)⟩
structure UnderI (K:PySem.W.Frag) (C F:Addr):Prop where
 ob : ∃ nm q N bs bm hdct sn sub ab col dd k0 k1 k2 k3 k5,K.lookup C=some (excClassObj nm q C N bs bm hdct sn sub ab col dd k0 k1 k2 k3 k5 "ValueError.__new__")
 in_:PySem.W.mroIn K C (.ref F)=some true
 ne:C≠F
def sFldX (K:PySem.W.Frag) (to tv:TE) (f:Str):TS:=λ D σ H=>tv σ H λ y H1=>to σ H1 λ x H2 => ∃ (e C Fr t:Addr) (cd:ClassData),x=.ref e/\H2 e=some (excM e C none t)/\PySem.W.clsIn K C=some cd/\cd.mro=.ref C::.ref Fr::bmV/\cd.hasDict=true /\
 PySem.W.mroIn K C (.type "object")=some true/\PySem.W.findIn K (.ref C) "__setattr__" = some (some (.builtin "object.__setattr__"))/\PySem.W.takerIn K C f=some none /\ ∀ dx,H2 dx=none->D.nx σ (upd (upd H2 e (excM e C (some dx) t)) dx (.xd [(f,y)]))
theorem qs_fldX {X:Cx} {o value:Expr} {f:Str} {pos pos':Pos} {ta tv:TE} (hx:X.ex=[]) (ha:QE X o ta) (hv:QE X value tv) (hs:swapsWith value (some (.Attribute o f pos')) pos.line X.env=pure false):QS X (.Assign [.Attribute o f pos'] value pos) (sFldX X.K ta tv f):=⟨by
 intro pins s σ H D I h
 refine plainObj_wpAny_Assign_Attribute (thn (hv.o pins s σ H _ I h) λ u s1 ⟨y,H1,I1,ry,q⟩=>thn (ha.o pins s1 σ H1 _ I1 q) λ ov s2 ⟨x,H2,I2,rx,e,C,Fr,t,cd,ex,he,hc,hmro,hd,hob,hsa,ht,q2⟩=>?_) hs
 subst ex
 obtain rfl:ov=Value.ref e:=rx
 have hobj:=(I2.hok e _ he).1
 refine PySem.W.set_exc I2.kIn hobj hc hmro hd hob hsa ht λ h' dx tk hdx hx' hn hk=>?_
 have I3:Inv X pins σ (upd H2 e (excM e C (some dx) t)) { s2 with heap:=h',toks:=tk }:=I2.write (by rw [he];trivial) (.inl rfl) hk ⟨_,hx'⟩ (excM_ok hx')
 have hdx2:H2 dx=none:=I2.hok.gone hdx
 have nde:dx≠e:=λ z=>by rw [z,hobj] at hdx;cases hdx
 have fd:Fresh X pins dx:=Fresh.of I2 hx hdx
 have I4:Inv X pins σ (upd (upd H2 e (excM e C (some dx) t)) dx (.xd [(f,y)])) { s2 with heap:=h',toks:=tk }:=by
  refine I3.known hx fd (by rw [upd_ne nde];exact hdx2) ⟨_,hn,λ g=>?_⟩ λ b hb z=>?_
  ·by_cases z:g=f
   ·have hb:(g == f)=true:=beq_iff_eq.mpr z
    simp only [List.lookup,hb,if_pos z]
    exact ry
   ·have hb:(g == f)=false:=beq_eq_false_iff_ne.mpr z
    simp only [List.lookup,hb,if_neg z]
    trivial
  ·obtain ⟨_,o,ho,_⟩:=I2.stack.mem hb
   rw [z,hdx] at ho;cases ho
 exact ⟨σ,_,I4,q2 dx hdx2⟩⟩
def tFldX (K:PySem.W.Frag) (ta:TE) (f:Str):TE:=λ σ H Q=>ta σ H λ x H1 => ∃ (e C dx:Addr) (fs:List (Str×V)) (v:V),x=.ref e/\H1 e=some (excO e C (some dx))/\H1 dx=some (.xd fs)/\PySem.W.XcIs K C/\PySem.W.hasDictIn K C=true/\PySem.W.findIn K (.ref C) f=some none/\fs.lookup f=some v/\Q v H1
theorem exc_inst {X:Cx} {pins:List (Addr×Obj)} {σ:St} {H:Hp} {s:Shared} (I:Inv X pins σ H s) {e C dx:Addr} {fs:List (Str×V)} (he:H e=some (excO e C (some dx))) (hd:H dx=some (.xd fs)) :
  ∃ (oe:Obj) (mA:Str->Option Value) (od:Obj),PySem.W.InstAt s.heap e oe C (some od)/\(∀ name,PySem.W.lookIn name od=some (mA name)) /\ ∀ f,RelO (fs.lookup f) (mA f):=by
 obtain ⟨⟨oe,vs,h1,h2,h3,h4,_⟩,_,_⟩:=(show ObjOk X.prog X.w H s.heap e (excO e C (some dx)) from I.hok e _ he)
 obtain ⟨mA,hn,hr⟩:=(show ObjOk X.prog X.w H s.heap dx (.xd fs) from I.hok dx _ hd)
 obtain ⟨od,ho,hl⟩:=lookIn_ns hn
 refine ⟨oe,mA,od,⟨h1,h2,?_,?_⟩,hl,hr⟩
 ·unfold PySem.W.notCls
  rw [h4]
 ·rw [h3];exact ho
theorem qe_fldX {X:Cx} {e:Expr} {f:Str} {pos:Pos} {ta:TE} (he:QE X e ta) (hb:attributeBase e f X.env (eval e X.env)=eval e X.env):QE X (.Attribute e f pos) (tFldX X.K ta f):=⟨by
 intro pins s σ H Q I h
 refine attr_of hb (thn (he.o pins s σ H _ I h) λ u s1 ⟨x,H1,I1,rx,a,C,dx,fs,v,ex,ea,ed,xc,hh,ha,l,q⟩=>?_)
 subst ex
 obtain rfl:u=Value.ref a:=rx
 obtain ⟨oe,mA,od,J,hl,hr⟩:=exc_inst I1 ea ed
 have hrf:=hr f
 rw [l] at hrf
 obtain ⟨u',hu',ru⟩:=hrf.some_of
 exact PySem.W.get_exc I1.kIn J xc (PySem.W.findObj_own hh ha rfl (by rw [hl,hu'])) (handed_of ru) ⟨v,H1,I1.tok _,ru,q⟩⟩
theorem qe_fldXN {X:Cx} {K:PySem.W.Frag} {e:Expr} {f:Str} {pos:Pos} {ta:TE} (hK:X.K=K) (he:QE X e ta) (hb:attributeBase e f X.env (eval e X.env)=eval e X.env):QE X (.Attribute e f pos) (tFldX K ta f):=by
 subst hK
 exact qe_fldX he hb
structure FnOkH (P:Program) (w:World) (K:PySem.W.Frag) (mg:Str->Option Value) (base:Heap) (k:Nat) (f:Addr) (fd:FuncData) (ps:List Str) (sp:Sp):Prop where
 len : ∀ vs H Q E,sp vs H Q E->vs.length=ps.length
 run : ∀ (A:Around) (outer:List Env) (s:Shared) (H:Hp) (args:Args) (us:List Value) (vs:List V) (Q:VK) (E:XK),RoomU k A->HdIn A s.heap H (frs outer) []->Env0 P w K mg base A outer s H->BindsTo s fd args (ps.zip us)->Vals vs us->sp vs H Q E ->
  codeAny (model P w) A (.call (.ref f) args) (CR CX0 outer P w H s Q E) s
theorem FnOkH.fn {CX:CXT} {P:Program} {w:World} {K:PySem.W.Frag} {mg:Str->Option Value} {base:Heap} {k:Nat} {f:Addr} {fd:FuncData} {ps:List Str} {sp:Sp} (F:FnOkH P w K mg base k f fd ps sp):FnOk P w K mg base CX k f fd ps sp :=
 ⟨F.len,λ A outer s H args us vs Q E hr e0 hb r hsp=>codeAny_mono (F.run A outer s H args us vs Q E hr.u (.inl hr.hd) e0 hb r hsp) λ z s' hq=>by
  cases z with
  | error e=>exact False.elim hq
  | ok fl=>cases fl<;>exact hq⟩
abbrev cxH (P:Program) (w:World) (K:PySem.W.Frag) (mg:Str->Option Value) (base:Heap) (N:List Str) (qual:Str) (scope:Scope) (f:Addr) (cd:Value) (A:Around) (outer:List Env) (s:Shared) (H:Hp) (E:XK):Cx :=
 { cxOf CX0 P w K mg base N qual scope f cd A outer s H E with calm:=false,warm:=true,xe:=λ _ _=>False }
theorem inv_startH {P:Program} {w:World} {K:PySem.W.Frag} {mg:Str->Option Value} {base:Heap} {N ps:List Str} {qual:Str} {scope:Scope} {f:Addr} {cd:Value} {A:Around} {outer:List Env} {s s1:Shared} {H:Hp} {E:XK} {us:List Value} {vs:List V}
  (S:FnScope N ps scope) (hh:HdIn A s.heap H (frs outer) []) (e0:Env0 P w K mg base A outer s H) (hl:vs.length=ps.length) (r:Vals vs us)
  (x:InCallC s s.heap.objs.size (bindL (envOfC qual scope s.heap.objs.size f cd).kindOf (ps.zip us) λ _=>none) (cellsFrom (s.heap.objs.size+1) scope.names []) (bindC (envOfC qual scope s.heap.objs.size f cd).kindOf (ps.zip us) λ _=>none) s1) :
  Inv (cxH P w K mg base N qual scope f cd A outer s H E) [] (start N vs) H s1:=by
 have I:Inv (cxOf CX0 P w K mg base N qual scope f cd ({ A with handled:=none }) outer s H E) [] (start N vs) H s1:=inv_start (A:={ A with handled:=none }) S rfl ⟨e0.frames,e0.mod,e0.bs,e0.bsz,e0.funs,e0.frf,e0.hok,e0.bare⟩ hl r x
 have ok:=I.ok
 exact ⟨⟨ok.mod,ok.kind,ok.glob,ok.blt,ok.above,ok.inj,ok.has,ok.cab,⟨λ h=>(nomatch h),λ _=>hh⟩,ok.frames,ok.stk,ok.exf,ok.bs,ok.bsz,ok.noex,ok.exfs,ok.funs,ok.frf⟩,I.os,I.bare,I.base,I.loc,I.cell,I.free,I.freeC,I.pin,I.hok,I.len⟩
theorem Fun.okH {P:Program} {w:World} {K:PySem.W.Frag} {mg:Str->Option Value} {base:Heap} {x qual:Str} {st:Stmt} {f:Addr} {fd:FuncData} {N ps:List Str} {k:Nat} {sp:Sp} (F:Fun K x qual st f fd) (S:FnScope N ps (defScope st)) (len : ∀ vs H Q E,sp vs H Q E->vs.length=ps.length)
  (hbody : ∀ (cdv:Value) (A:Around) (outer:List Env) (s:Shared) (H:Hp) (vs:List V) (Q:VK) (E:XK),RoomU k (A.deeper (envOfC qual (defScope st) s.heap.objs.size f cdv))->sp vs H Q E ->
   ∃ t,QSs (cxH P w K mg base N qual (defScope st) f cdv A outer s H E) (defBody st) t/\t { nx:=λ _ H'=>Q .non H',rt:=Q } (start N vs) H):FnOkH P w K mg base (k+1) f fd ps sp:=by
 obtain ⟨oc,od,kV,doc,pm,an,cdv,ct,osl,rfl,lk,hcd⟩:=F.ex
 refine ⟨len,λ A outer s H args us vs Q E hr hh e0 hb r hsp=>?_⟩
 have hl:=len _ _ _ _ hsp
 have KX:K.In s.heap:=e0.mod.kin.keeps λ b o e=>(e0.bs b o e).1
 have lim:s.heap.NoLimit:=e0.mod.nolimit.keeps λ b o e=>(e0.bs b o e).1
 have hkind : ∀ y∈ps.zip us,(defScope st).names.lookup y.1=some .local\/((defScope st).names.lookup y.1=some .cell/\((cellsFrom (s.heap.objs.size+1) (defScope st).names []).lookup y.1).isSome=true):=λ ⟨n,v⟩ hy=>by
  rcases S.par n (List.of_mem_zip hy).1 with q | q
  ·exact .inl q
  ·exact .inr ⟨q,PySem.W.cellsFrom_some _ _ _ (.inl q)⟩
 refine codeAny_call_function hr.depth (KX _ _ lk) rfl S.co S.gen rfl (PySem.W.codeRec_of KX hcd) (hb _ _ _ _ ?_)
 refine wpAny_newFunctionEnv_cells S.kind hkind λ env he s1 x=>?_
 subst he
 refine ⟨lim.keeps x.toInCall.keep,codeAny_func ?_⟩
 obtain ⟨t,ht,hq⟩:=hbody cdv A outer s H vs Q E (hr.deeper _) hsp
 have I:Inv (cxH P w K mg base N qual (defScope st) f cdv A outer s H E) [] (start N vs) H s1:=inv_startH S hh e0 hl r x
 refine wpAny_mono (ht.o [] s1 (start N vs) H _ I hq) (λ fl s' hs=>?_) λ e s' hs=>hs.elim
 have fin : ∀ {σ':St} {H':Hp} {v:V} {u:Value},Inv (cxH P w K mg base N qual (defScope st) f cdv A outer s H E) [] σ' H' s'->RelV v u->Q v H'->CE outer P w H s Q u s' :=
  λ {σ' H' v u} J rv q=>⟨v,H',J.os,J.bare,J.base,J.hok,rv,q⟩
 cases fl with
 | ret u =>
  obtain ⟨v,σ',H',J,rv,q⟩:=hs
  exact fin J rv q
 | next =>
  obtain ⟨σ',H',J,q⟩:=hs
  exact fin (v:=V.non) (u:=Value.none) J rfl q
 | brk =>
  obtain ⟨_,_,_,q⟩:=hs
  exact False.elim q
 | cont =>
  obtain ⟨_,_,_,q⟩:=hs
  exact False.elim q
section
variable {X:Cx} {k:Nat} {f:Addr} {fd:FuncData} {ps:List Str} {sp:Sp} {x:Str} {p pos:Pos} {e:Expr} {es:List Expr} {t:TA}
theorem qe_callH (F:FnOkH X.prog X.w X.K X.mg X.base k f fd ps sp) (hr:RoomU k X.A) (hw:X.warm=true) (hg:Gl X x) (hm:X.mg x=some (.ref f)) (hk:PySem.W.keepIn X.K (.ref f)=true) (hb:Binds X.K fd ps [])
  (ha:QA X (e::es) t) (hdb:(x == ("__debug__" : Str))=false:=by decide) (hst:noStar e=true:=by rfl) (hpl:(backTo pos (starEach es X.env)).any (·.1)=false:=by rfl) :
  QE X (.Call (.Name x p) (e::es) [] pos) (tCall sp [] E0 t):=⟨by
 intro pins s σ H Q I h
 refine wpAny_Call_Name_kw (ld_glob I hg hm ?_ hdb)
 refine PySem.W.callWith_K (h₀:=X.base) I.ok.mod.kin hk (thn (ha.o pos pins s σ H _ I h) λ us s1 ⟨vs,H1,I1,r,q⟩=>⟨I1.kIn,?_⟩) (starEach_cons hst es X.env) hpl
 have r2:Vals (vs++[]) (us++[]):=r.append .nil
 have hl:(us++[]).length=ps.length:=by rw [<-r2.length];exact F.len _ _ _ _ q
 refine wpAny_call (codeAny_mono (F.run X.A X.stack s1 H1 ⟨us,[]⟩ (us++[]) (vs++[]) Q E0 hr (I1.hdC hw λ b hb=>absurd hb (by simp)) I1.env0 (hb s1 us I1.kIn hl) r2 q) λ r s' hq=>?_)
 cases r with
 | error e=>exact False.elim hq
 | ok fl =>
  cases fl with
  | ret u=>exact I1.after hq
  | next=>exact False.elim hq
  | brk=>exact False.elim hq
  | cont=>exact False.elim hq⟩
def tCallS (x:Addr) (sp:Sp) (t:TA):TE:=λ σ H Q=>t σ H λ vs H1=>(∃ C d,H1 x=some (excO x C d)) /\ ∀ H2,H2 x=none->(∀ b,b≠x->H2 b=H1 b)->sp (vs++[]) H2 Q E0
theorem qe_callS {y:Addr} (F:FnOkH X.prog X.w X.K X.mg X.base k f fd ps sp) (hr:RoomU k (supCx X y).A) (hx:X.ex=[]) (hg:Gl (supCx X y) x) (hm:X.mg x=some (.ref f)) (hk:PySem.W.keepIn X.K (.ref f)=true) (hb:Binds X.K fd ps [])
  (ha:QA (supCx X y) (e::es) t) (hdb:(x == ("__debug__" : Str))=false:=by decide) (hst:noStar e=true:=by rfl) (hpl:(backTo pos (starEach es X.env)).any (·.1)=false:=by rfl) :
  QE (supCx X y) (.Call (.Name x p) (e::es) [] pos) (tCallS y sp t):=⟨by
 intro pins s σ H Q I h
 refine wpAny_Call_Name_kw (ld_glob I hg hm ?_ hdb)
 refine PySem.W.callWith_K (h₀:=X.base) I.ok.mod.kin hk (thn (ha.o pos pins s σ H _ I h) λ us s1 ⟨vs,H1,I1,r,⟨C,d,he⟩,q0⟩=>⟨I1.kIn,?_⟩) (starEach_cons hst es X.env) hpl
 have q:=q0 (λ b=>if b=y then none else H1 b) (if_pos rfl) λ b nb=>if_neg nb
 have I2:Inv (supCx X y) pins σ (λ b=>if b=y then none else H1 b) s1:=by
  refine I1.forget (e:=y) (λ b nb=>if_neg nb) (if_pos rfl) ⟨λ xs z=>?_,λ o u z=>?_,λ ps z=>?_,λ b z=>?_⟩
  ·rw [he] at z;cases z
  ·rw [he] at z;cases z
  ·rw [he] at z;cases z
  ·rw [he] at z;cases z
 have ob : ∃ oe vs,s1.heap.get? y=some oe/\oe.cls=.ref C/\oe.dict=d/\oe.data=.fields vs/\vs[2]?=some .none:=(I1.hok y _ he).1
 obtain ⟨oe,vs',h1,_,_,h2,h3⟩:=ob
 have nst:y∉frs X.stack:=λ z=>by
  have:=I1.stkFree y z
  rw [he] at this
  cases this
 have hd:HdIn (supCx X y).A s1.heap (λ b=>if b=y then none else H1 b) (frs (supCx X y).stack) [] :=
  .inr ⟨y,oe,vs',rfl,h1,if_pos rfl,nst,by simp,h2,h3⟩
 have r2:Vals (vs++[]) (us++[]):=r.append .nil
 have hl:(us++[]).length=ps.length:=by rw [<-r2.length];exact F.len _ _ _ _ q
 refine wpAny_call (codeAny_mono (F.run (supCx X y).A X.stack s1 _ ⟨us,[]⟩ (us++[]) (vs++[]) Q E0 hr hd I2.env0 (hb s1 us I1.kIn hl) r2 q) λ r s' hq=>?_)
 cases r with
 | error e=>exact False.elim hq
 | ok fl =>
  cases fl with
  | ret u=>exact I2.after hq
  | next=>exact False.elim hq
  | brk=>exact False.elim hq
  | cont=>exact False.elim hq⟩
end
def XokS (X:Cx) (E:St->XK):Prop := ∀ (pins:List (Addr×Obj)) (σ:St) (H:Hp) (s:Shared) (e C:Addr) (d:Option Addr) (head:Value) (hl:List Addr),Inv X pins σ H s->Fresh X pins e->H e=none ->
 Rec s.heap e (.ref C) d head->HeadOk s.heap e head hl->(∀ b∈hl,Fresh X pins b/\H b=none)->E σ (.ref C) d H->X.xe (.ref e) s
theorem xok_tryS {X:Cx} {pins:List (Addr×Obj)} {W:Value->Shared->Prop} {E:St->XK} (hx:X.ex=[]) (hst:X.stack=X.env::X.outer) (hf:X.env.frame=some X.env.locals)
  (hW : ∀ (σ:St) (H:Hp) (s:Shared) (e C T:Addr) (d:Option Addr),Inv X pins σ H s->Fresh X pins e->H e=none->Rec s.heap e (.ref C) d (.ref T)->Ent s.heap T .none->T≠e->Fresh X pins T->H T=none->E σ (.ref C) d H->W (.ref e) s)   : XokS (tryCx X pins W) E:=by
 intro pins' σ H s e C d head hl I fe He hr hh hhl hE
 have I0:Inv X pins σ H s:=I.untried
 show wpAny (model X.prog X.w) X.A (noteFrame (.ref e) X.env) _ _ s
 have hfr:X.A.frames=some (X.env::X.outer):=by rw [<-hst];exact I0.ok.frames
 have hl0:s.heap.FunFrames X.base (X.env::X.outer):=by rw [<-hst];exact I0.stack
 refine landed hfr hl0 hf hr hh λ h' T hT nTe kb r1 t1=>?_
 have kb':KeptBut (e::hl) (frs X.stack) s.heap h':=by rw [hst];exact kb
 have I1:Inv X pins σ H { s with heap:=h' }:=I0.keptBut hx kb' λ b hb=>by
  rcases List.mem_cons.mp hb with z | z
  ·rw [z];exact ⟨fe.untried,He⟩
  ·exact ⟨(hhl b z).1.untried,(hhl b z).2⟩
 exact hW σ H _ e C T d I1 fe.untried He r1 t1 nTe (Fresh.of I0 hx hT) (I0.hok.gone hT) hE
def tCallES (sp:Sp) (E:St->XK) (t:TA):TE:=λ σ H Q=>t σ H λ vs H1=>sp (vs++[]) H1 Q (E σ)
section
variable {X:Cx} {k:Nat} {f:Addr} {fd:FuncData} {ps:List Str} {sp:Sp} {x:Str} {p pos:Pos} {e:Expr} {es:List Expr} {t:TA} {E:St->XK}
theorem qe_callES (F:FnOk X.prog X.w X.K X.mg X.base (CXE X.prog X.w) k f fd ps sp) (hr:Room k X.A) (hx:X.ex=[]) (kx:XokS X E) (hg:Gl X x) (hm:X.mg x=some (.ref f)) (hk:PySem.W.keepIn X.K (.ref f)=true) (hb:Binds X.K fd ps [])
  (ha:QA X (e::es) t) (hdb:(x == ("__debug__" : Str))=false:=by decide) (hst:noStar e=true:=by rfl) (hpl:(backTo pos (starEach es X.env)).any (·.1)=false:=by rfl) :
  QE X (.Call (.Name x p) (e::es) [] pos) (tCallES sp E t):=⟨by
 intro pins s σ H Q I h
 refine wpAny_Call_Name_kw (ld_glob I hg hm ?_ hdb)
 refine PySem.W.callWith_K (h₀:=X.base) I.ok.mod.kin hk (thn (ha.o pos pins s σ H _ I h) λ us s1 ⟨vs,H1,I1,r,q⟩=>⟨I1.kIn,?_⟩) (starEach_cons hst es X.env) hpl
 have r2:Vals (vs++[]) (us++[]):=r.append .nil
 have hl:(us++[]).length=ps.length:=by rw [<-r2.length];exact F.len _ _ _ _ q
 refine wpAny_call (codeAny_mono (F.run X.A X.stack s1 H1 ⟨us,[]⟩ (us++[]) (vs++[]) Q (E σ) hr I1.env0 (hb s1 us I1.kIn hl) r2 q) λ r s' hq=>?_)
 cases r with
 | error ev =>
  obtain ⟨e,T,C,d,H',rfl,ho,hg',u,hok,fe,fT,nTe,He,HT,hr',ht,hE⟩:=hq
  exact kx pins σ H' s' e C d (.ref T) [T] (I1.call' ho u hok hg' λ b hb=>absurd hb (by simp)) (Fresh.of I1 hx fe) He hr' (.inr ⟨T,rfl,ht,nTe,rfl⟩) (λ b hb=>by rw [List.mem_singleton.mp hb];exact ⟨Fresh.of I1 hx fT,HT⟩) hE
 | ok fl =>
  cases fl with
  | ret u=>exact I1.after hq
  | next=>exact False.elim hq
  | brk=>exact False.elim hq
  | cont=>exact False.elim hq⟩
end
def MatchOk (K:PySem.W.Frag) (F:Addr) (U:Addr->Prop):Prop := ∀ C,U C -> ∀ (M:Model) (A:Around) (E:Value->Shared->Prop) (Q:Bool->Shared->Prop) (s:Shared) (e:Addr) (oe:Obj),K.In s.heap->s.heap.get? e=some oe->oe.cls=.ref C->Q true s->wpAny M A (excMatches (.ref e) (.ref F)) Q E s
def tTryM (U:Addr->Prop) (i:Nat) (E:St->XK) (tb:TS) (ts:Addr->TS):TS:=λ D σ H=>tb D σ H /\ ∀ C d H1 (σ1:St),E σ1 (.ref C) d H1->U C /\ ∀ (e:Addr),H1 e=none->i < σ1.length ->
 ts e { nx:=λ σ2 H2=>D.nx ((σ2.set i (some .non)).set i none) H2,rt:=D.rt,bk:=λ σ2 H2=>D.bk ((σ2.set i (some .non)).set i none) H2,ct:=λ σ2 H2=>D.ct ((σ2.set i (some .non)).set i none) H2 } (σ1.set i (some (.ref e))) (upd H1 e (excO e C d))
theorem qs_tryM {X:Cx} {E:St->XK} {x n:Str} {i:Nat} {F:Addr} {U:Addr->Prop} {body suite:List Stmt} {b0:Stmt} {tb:TS} {ts:Addr->TS} {np hpos pos:Pos} (hx:X.ex=[]) (hst:X.stack=X.env::X.outer) (hf:X.env.frame=some X.env.locals) (cF:X.mg x=some (.ref F)) (hM:MatchOk X.K F U) (hg:Gl X x)
  (hN:X.N.Nodup) (hi:X.N[i]?=some n) (hk:X.env.scope.names.lookup n=some .local)
  (hb : ∀ pins W,XokS (tryCx X pins W) E->QSs (tryCx X pins W) body tb) (hs : ∀ e,QSs (supCx X e) (b0::suite) (ts e)) (hd:(x == ("__debug__" : Str))=false:=by decide) :
  QS X (.Try body [.ExceptHandler (some (.Name x np)) (some n) (b0::suite) hpos] [] [] pos) (tTryM U i E tb ts):=⟨by
 intro pins s σ H D I ⟨h1,h2⟩
 refine wpAny_Try_except ?_
 have hW : ∀ (σ:St) (H:Hp) (s:Shared) (e C T:Addr) (d:Option Addr),Inv X pins σ H s->Fresh X pins e->H e=none->Rec s.heap e (.ref C) d (.ref T)->Ent s.heap T .none->T≠e->Fresh X pins T->H T=none->E σ (.ref C) d H ->
   wpAny (model X.prog X.w) X.A (handleBy (.ref e) X.env [.ExceptHandler (some (.Name x np)) (some n) (b0::suite) hpos]) (SP X pins D) X.xe s:=by
  intro σ H s e C T d I fe He hr ht nTe fT HT hE
  obtain ⟨hU,hsu⟩:=h2 C d H σ hE
  have hiσ:i < σ.length:=by rw [I.len];exact (List.getElem?_eq_some_iff.mp hi).1
  refine wpAny_handleBy_cons (codeAny_handlers_test (Calls.Name_function_global I.ok.kind hg (Calls.loadGlobal_global (by rw [I.ok.glob];exact I.mod.glob.keeps I.bk) cF ?_) hd)) (by intro q;cases q)
  obtain ⟨oe,vs,he,hcl,hdi,hdt,hv1⟩:=id hr
  refine hM C hU _ _ _ _ _ _ _ I.kIn he hcl ?_
  refine codeAny_handlers_suite_as ?_
  refine land (F:=frs X.stack) hr ht nTe (λ b hb z=>?_) λ h' kb r1 t1=>?_
  ·obtain ⟨_,o,ho,hnf⟩:=I.stack.mem hb
   obtain ⟨oT,ts',hT,hdT,_⟩:=ht
   rw [z,hT] at ho
   injection ho with ho
   subst ho
   exact hnf ts' hdT
  have I1:Inv X pins σ H { s with heap:=h' }:=I.keptBut hx kb λ b hb=>by rw [List.mem_singleton.mp hb];exact ⟨fT,HT⟩
  have I2:Inv X pins σ (upd H e (excO e C d)) { s with heap:=h' }:=I1.known hx fe He (Rec.ok r1) λ b hb z=>by
   obtain ⟨_,o,ho,hnf⟩:=I1.stack.mem hb
   obtain ⟨oe',vs',he',_,_,hd',_⟩:=r1
   rw [z] at ho
   have:(Option.some oe')=some o:=he'.symm.trans ho
   injection this with this
   subst this
   exact hnf vs' hd'
  refine store_ok I2 hN hi (.inl hk) (v:=.ref e) rfl (λ s2 I3=>?_) (.inr hk)
  refine wpAny_mono ((hs e).o pins s2 _ _ _ I3.supped (hsu e He hiσ)) (λ f s3 hsp=>?_) λ _ _ z=>z.elim
  have fin : ∀ (σ3:St) (H3:Hp) (Z:Flow->Shared->Prop) , Inv X pins σ3 H3 s3->(∀ s5,Inv X pins ((σ3.set i (some .non)).set i none) H3 s5->Z f s5) ->
    wpAny (model X.prog X.w) X.A (do bindName X.env n .none;unbindBehindTheSuite X.env n hpos) (λ _ s5=>Z f s5) X.xe s3:=by
   intro σ3 H3 Z I4 hZ
   have hi3:i < σ3.length:=by rw [I4.len];exact (List.getElem?_eq_some_iff.mp hi).1
   refine wpAny_bind (wpAny_bindName (store_ok I4 hN hi (.inl hk) (v:=.non) rfl (λ s4 I5=>?_) (.inr hk)))
   unfold unbindBehindTheSuite
   exact wpAny_onRaise (unbind_ok I5 hN hi hk (List.getElem?_set_self hi3) λ s5 I6=>hZ s5 I6)
  cases f with
  | next =>
   obtain ⟨σ3,H3,I4,q⟩:=hsp
   exact fin σ3 H3 (SP X pins D) (I4.unsupped I.ok) λ s5 I6=>⟨_,_,I6,q⟩
  | brk =>
   obtain ⟨σ3,H3,I4,q⟩:=hsp
   exact fin σ3 H3 (SP X pins D) (I4.unsupped I.ok) λ s5 I6=>⟨_,_,I6,q⟩
  | cont =>
   obtain ⟨σ3,H3,I4,q⟩:=hsp
   exact fin σ3 H3 (SP X pins D) (I4.unsupped I.ok) λ s5 I6=>⟨_,_,I6,q⟩
  | ret u =>
   obtain ⟨v,σ3,H3,I4,rv,q⟩:=hsp
   exact fin σ3 H3 (SP X pins D) (I4.unsupped I.ok) λ s5 I6=>⟨v,_,_,I6,rv,q⟩
 have xk:XokS (tryCx X pins λ e s3=>wpAny (model X.prog X.w) X.A (handleBy e X.env [.ExceptHandler (some (.Name x np)) (some n) (b0::suite) hpos]) (SP X pins D) X.xe s3) E:=xok_tryS hx hst hf hW
 refine wpAny_mono ((hb pins _ xk).o [] s σ H D I.tried h1) (λ f s1 hsp=>?_) λ _ _ z=>z
 cases f with
 | next =>
  obtain ⟨σ3,H3,I4,q⟩:=hsp
  exact wpAny_execs_nil ⟨σ3,H3,I4.untried,q⟩
 | brk =>
  obtain ⟨σ3,H3,I4,q⟩:=hsp
  exact ⟨σ3,H3,I4.untried,q⟩
 | cont =>
  obtain ⟨σ3,H3,I4,q⟩:=hsp
  exact ⟨σ3,H3,I4.untried,q⟩
 | ret u =>
  obtain ⟨v,σ3,H3,I4,rv,q⟩:=hsp
  exact ⟨v,σ3,H3,I4.untried,rv,q⟩⟩
theorem match_self {K:PySem.W.Frag} {mg:Str->Option Value} {x:Str} {C Fr fI:Addr} (c:XI K mg x C Fr fI):MatchOk K C (λ D=>D=C):=by
 rintro _ rfl M A E Q s e oe X he hcl hq
 obtain ⟨nm,q,N,bs,sn,sub,ab,col,dd,k0,k1,k2,k3,k5,h,_⟩:=c.ob
 obtain ⟨hh,g,d,t,os⟩:=s
 refine wpAny_excMatches_sub_self (X _ _ h) he hcl ?_ hq
 rw [List.contains_cons,show bmV.contains (.type "BaseException")=true by decide +kernel,Bool.or_true]
end L2
namespace Mth
theorem goN_rest {rows:List (List Int)} {p r:List Int} {n:Nat} (h:goN rows n p=some r) (hf:fstI rows r=none) : ∀ j,goN rows (n+1+j) p=none
 | 0=>by
  show (goN rows n p).bind (stp rows)=none
  rw [h]
  exact stp_none hf
 | j+1=>by
  show (goN rows (n+1+j) p).bind (stp rows)=none
  rw [goN_rest h hf j]
  rfl
theorem goN_restLt {rows:List (List Int)} {p r q:List Int} {n m:Nat} (h:goN rows n p=some r) (hf:fstI rows r=none) (hm:goN rows m p=some q):m<=n:=by
 by_cases z:m<=n
 ·exact z
 ·obtain ⟨j,hj⟩ : ∃ j,m=n+1+j:=⟨m - n - 1,by omega⟩
  rw [hj,goN_rest h hf j] at hm
  cases hm
theorem goN_uniq {rows:List (List Int)} {p r q:List Int} {n m:Nat} (h:goN rows n p=some r) (hf:fstI rows r=none) (hm:goN rows m p=some q) (hg:fstI rows q=none):n=m:=Nat.le_antisymm (goN_restLt hm hg h) (goN_restLt h hf hm)
end Mth
namespace Zm
open PySem PyProof.Rows Zt
section
variable {prog:Program} {w:World} {A:Around} {E:Value->Shared->Prop} {s:Shared}
theorem zip_item {z TI TO j1 j2 t1 t2:Addr} {k:Nat} {xs ys:Array Value} {x y a b:Value} {Q:Value->Shared->Prop} (D:ZipApart z TI TO j1 j2 t1 t2)
  (zz:IsZip s.heap z TI TO .none) (zI:IsPair s.heap TI (.ref j1) (.ref j2)) (zO:IsPair s.heap TO a b)
  (i1:s.heap.IsTupleIter j1 t1 k) (i2:s.heap.IsListIter j2 t2 k) (l1:s.heap.IsTuple t1 xs) (l2:s.heap.IsList t2 ys) (ex:xs[k]?=some x) (ey:ys[k]?=some y)
  (q : ∀ g,IsZip g z TI TO (rawInt s.heap.objs.size)->IsPair g TO x y->g.IsTupleIter j1 t1 (k+1)->g.IsListIter j2 t2 (k+1)->IsPair g s.heap.objs.size x y ->
   (∀ c o,c≠z->c≠TO->c≠j1->c≠j2->s.heap.get? c=some o->g.get? c=some o)->Q (.ref s.heap.objs.size) { s with heap:=g }) :
  wpAny (model prog w) A (Builtin.«zip.__next__» ⟨[.ref z],[]⟩) (λ fin s' => ∃ v,fin=.done (.ret v)/\Q v s') E s:=by
 show wpAny _ _ (field (.ref z) 2>>=_) _ _ _
 refine wpAny_bind (wpAny_field zz rfl (x:=.bool false) rfl ?_)
 show wpAny _ _ (field (.ref z) 3>>=_) _ _ _
 refine wpAny_bind (wpAny_field zz rfl (x:=.ref TI) rfl (wpAny_bind (wpAny_seqItems zI rfl ?_)))
 show wpAny _ _ (Builtin.SmallTypes.ownedTupleIsFree (.ref z)>>=_) _ _ _
 refine wpAny_bind ?_
 unfold Builtin.SmallTypes.ownedTupleIsFree
 refine wpAny_bind (wpAny_field zz rfl (x:=.none) rfl (wpAny_pure ?_))
 simp only [if_true]
 refine wpAny_bind (wpAny_rule (wpAny_bind (wpAny_field zz rfl (x:=.ref TO) rfl (wpAny_bind (wpAny_setField_rec zz (by simp) λ g1 zz1 s1=>?_)))))
 replace zz1:IsZip g1 z TI TO .ellipsis:=zz1
 refine wpAny_bind ?_
 simp only [List.zipIdx_cons,List.zipIdx_nil,List.forIn_cons,List.forIn_nil]
 refine wpAny_bind (wpAny_bind (wpAny_onRaise ?_))
 show wpAny _ _ (Builtin.SmallTypes.nextOf (.ref j1)>>=_) _ _ _
 refine wpAny_bind (pull (i1.extBut s1.extBut D.i1z) (l1.extBut s1.extBut D.l1z) ex λ g2 i1' s2=>wpAny_pure ?_)
 have zO2:IsPair g2 TO a b:=s2.extBut _ _ D.TOi1 (s1.extBut _ _ D.TOz zO)
 refine wpAny_bind (wpAny_seqItems zO2 rfl (wpAny_bind (wpAny_updateSeq_pair zO2 λ g3 zO3 s3=>?_)))
 replace zO3:IsPair g3 TO x b:=zO3
 refine wpAny_bind (wpAny_letGo (wpAny_pure (wpAny_bind (wpAny_bind (wpAny_onRaise ?_)))))
 show wpAny _ _ (Builtin.SmallTypes.nextOf (.ref j2)>>=_) _ _ _
 have i2':=((i2.extBut s1.extBut D.i2z).extBut s2.extBut D.i12.symm).extBut s3.extBut D.TOi2.symm
 have l2':=((l2.extBut s1.extBut D.l2z).extBut s2.extBut D.l2i1).extBut s3.extBut D.l2TO
 refine wpAny_bind (wpAny_nextOf_list_item i2' l2' ey λ g4 i2'' s4=>wpAny_pure ?_)
 have zO4:IsPair g4 TO x b:=s4.extBut _ _ D.TOi2 zO3
 refine wpAny_bind (wpAny_seqItems zO4 rfl (wpAny_bind (wpAny_updateSeq_pair zO4 λ g5 zO5 s5=>?_)))
 replace zO5:IsPair g5 TO x y:=zO5
 refine wpAny_bind (wpAny_letGo (wpAny_pure (wpAny_pure (wpAny_bind (wpAny_seqItems zO5 rfl (wpAny_bind (wpAny_newTuple ?_)))))))
 have sz:g5.objs.size=s.heap.objs.size:=by rw [s5.1,s4.1,s3.1,s2.1,s1.1]
 have zz5:IsZip g5 z TI TO .ellipsis:=s5.extBut _ _ D.TOz.symm (s4.extBut _ _ D.i2z.symm (s3.extBut _ _ D.TOz.symm (s2.extBut _ _ D.i1z.symm zz1)))
 have up5 : ∀ c o,c≠z->c≠TO->c≠j1->c≠j2->s.heap.get? c=some o->g5.get? c=some o:=λ c o n1 n2 n3 n4 q' =>
  s5.extBut _ _ n2 (s4.extBut _ _ n4 (s3.extBut _ _ n2 (s2.extBut _ _ n3 (s1.extBut _ _ n1 q'))))
 have j15:g5.IsTupleIter j1 t1 (k+1):=((i1'.extBut s3.extBut D.TOi1.symm).extBut s4.extBut D.i12).extBut s5.extBut D.TOi1.symm
 have j25:g5.IsListIter j2 t2 (k+1):=i2''.extBut s5.extBut D.TOi2.symm
 have zlt:z<g5.objs.size:=Heap.lt_size zz5
 show wpAny _ _ (Builtin.SmallTypes.ownedTupleHandOut (.ref z) (.ref g5.objs.size)>>=_) _ _ _
 refine wpAny_bind ?_
 unfold Builtin.SmallTypes.ownedTupleHandOut
 have zz6:IsZip (g5.push { cls:=.type "tuple", data:=.seq #[x,y] }) z TI TO .ellipsis:=Heap.get?_push_of_some _ zz5
 refine wpAny_bind (wpAny_setField_rec zz6 (by simp) λ g7 zz7 s7=>?_)
 replace zz7:IsZip g7 z TI TO (rawInt g5.objs.size):=zz7
 refine wpAny_setField_rec zz7 (by simp) λ g8 zz8 s8=>?_
 replace zz8:IsZip g8 z TI TO (rawInt g5.objs.size):=zz8
 have up8 : ∀ c o,c≠z->g5.get? c=some o->g8.get? c=some o:=λ c o n1 q'=>s8.extBut _ _ n1 (s7.extBut _ _ n1 (Heap.get?_push_of_some _ q'))
 have new8:IsPair g8 g5.objs.size x y:=s8.extBut _ _ (Nat.ne_of_gt zlt) (s7.extBut _ _ (Nat.ne_of_gt zlt) (Heap.get?_push_size _ rfl))
 rw [sz] at zz8 new8
 refine wpAny_pure ⟨_,rfl,?_⟩
 show Q (.ref g5.objs.size) _
 rw [sz]
 refine q g8 zz8 (up8 _ _ D.TOz zO5) ?_ ?_ new8 λ c o n1 n2 n3 n4 q'=>up8 c o n1 (up5 c o n1 n2 n3 n4 q')
 ·obtain ⟨o,e,r⟩:=j15
  exact ⟨o,up8 _ _ D.i1z e,r⟩
 ·obtain ⟨o,e,r⟩:=j25
  exact ⟨o,up8 _ _ D.i2z e,r⟩
theorem zip_stop {z TI TO j1 j2 t1 t2:Addr} {k:Nat} {xs ys:Array Value} {a b:Value} {Q:Fin->Shared->Prop} (hd:A.handled=none) (D:ZipApart z TI TO j1 j2 t1 t2)
  (zz:IsZip s.heap z TI TO .none) (zI:IsPair s.heap TI (.ref j1) (.ref j2)) (zO:IsPair s.heap TO a b)
  (i1:s.heap.IsTupleIter j1 t1 k) (i2:s.heap.IsListIter j2 t2 k) (l1:s.heap.IsTuple t1 xs) (l2:s.heap.IsList t2 ys) (ee:xs[k]?=none\/ys[k]?=none)
  (q : ∀ g e,(∀ c o,c≠z->c≠TO->c≠j1->c≠j2->s.heap.get? c=some o->g.get? c=some o)->(∃ o,g.get? e=some o/\o.cls=.type "StopIteration")->E (.ref e) { s with heap:=g }) :
  wpAny (model prog w) A (Builtin.«zip.__next__» ⟨[.ref z],[]⟩) Q E s:=by
 show wpAny _ _ (field (.ref z) 2>>=_) _ _ _
 refine wpAny_bind (wpAny_field zz rfl (x:=.bool false) rfl ?_)
 show wpAny _ _ (field (.ref z) 3>>=_) _ _ _
 refine wpAny_bind (wpAny_field zz rfl (x:=.ref TI) rfl (wpAny_bind (wpAny_seqItems zI rfl ?_)))
 show wpAny _ _ (Builtin.SmallTypes.ownedTupleIsFree (.ref z)>>=_) _ _ _
 refine wpAny_bind ?_
 unfold Builtin.SmallTypes.ownedTupleIsFree
 refine wpAny_bind (wpAny_field zz rfl (x:=.none) rfl (wpAny_pure ?_))
 simp only [if_true]
 refine wpAny_bind (wpAny_rule (wpAny_bind (wpAny_field zz rfl (x:=.ref TO) rfl (wpAny_bind (wpAny_setField_rec zz (by simp) λ g1 zz1 s1=>?_)))))
 replace zz1:IsZip g1 z TI TO .ellipsis:=zz1
 refine wpAny_bind ?_
 simp only [List.zipIdx_cons,List.zipIdx_nil,List.forIn_cons,List.forIn_nil]
 refine wpAny_bind (wpAny_bind (wpAny_onRaise ?_))
 show wpAny _ _ (Builtin.SmallTypes.nextOf (.ref j1)>>=_) _ _ _
 cases ex:xs[k]? with
 | none =>
  refine wpAny_bind (pull_end (.inl hd) (i1.extBut s1.extBut D.i1z) (l1.extBut s1.extBut D.l1z) ex λ g2 e s2 ⟨oe,goe,coe⟩=>?_)
  have zz2:IsZip g2 z TI TO .ellipsis:=s2 _ _ D.i1z.symm zz1
  have nez:e≠z:=λ y=>by
   subst y
   rw [zz2] at goe
   cases goe
   simp at coe
  exact wpAny_setField_rec zz2 (by simp) λ g3 _ s3=>q g3 e (λ c o n1 _ n3 _ y=>s3.extBut _ _ n1 (s2 _ _ n3 (s1.extBut _ _ n1 y))) ⟨oe,s3.extBut _ _ nez goe,coe⟩
 | some x =>
  have ey:ys[k]?=none:=ee.resolve_left (by rw [ex];exact λ y=>nomatch y)
  refine wpAny_bind (pull (i1.extBut s1.extBut D.i1z) (l1.extBut s1.extBut D.l1z) ex λ g2 i1' s2=>wpAny_pure ?_)
  have zO2:IsPair g2 TO a b:=s2.extBut _ _ D.TOi1 (s1.extBut _ _ D.TOz zO)
  refine wpAny_bind (wpAny_seqItems zO2 rfl (wpAny_bind (wpAny_updateSeq_pair zO2 λ g3 zO3 s3=>?_)))
  refine wpAny_bind (wpAny_letGo (wpAny_pure (wpAny_bind (wpAny_bind (wpAny_onRaise ?_)))))
  show wpAny _ _ (Builtin.SmallTypes.nextOf (.ref j2)>>=_) _ _ _
  have i2':=((i2.extBut s1.extBut D.i2z).extBut s2.extBut D.i12.symm).extBut s3.extBut D.TOi2.symm
  have l2':=((l2.extBut s1.extBut D.l2z).extBut s2.extBut D.l2i1).extBut s3.extBut D.l2TO
  refine wpAny_bind (wpAny_nextOf_list_end hd i2' l2' ey λ g4 e s4 ⟨oe,goe,coe⟩=>?_)
  have zz4:IsZip g4 z TI TO .ellipsis:=s4 _ _ D.i2z.symm (s3.extBut _ _ D.TOz.symm (s2.extBut _ _ D.i1z.symm zz1))
  have nez:e≠z:=λ y=>by
   subst y
   rw [zz4] at goe
   cases goe
   simp at coe
  exact wpAny_setField_rec zz4 (by simp) λ g5 _ s5=>q g5 e (λ c o n1 n2 n3 n4 y=>s5.extBut _ _ n1 (s4 _ _ n4 (s3.extBut _ _ n2 (s2.extBut _ _ n3 (s1.extBut _ _ n1 y))))) ⟨oe,s5.extBut _ _ nez goe,coe⟩
theorem next_item {z TI TO j1 j2 t1 t2:Addr} {k:Nat} {xs ys:Array Value} {x y a b:Value} {Q:Option Value->Shared->Prop} (D:ZipApart z TI TO j1 j2 t1 t2)
  (zz:IsZip s.heap z TI TO .none) (zI:IsPair s.heap TI (.ref j1) (.ref j2)) (zO:IsPair s.heap TO a b)
  (i1:s.heap.IsTupleIter j1 t1 k) (i2:s.heap.IsListIter j2 t2 k) (l1:s.heap.IsTuple t1 xs) (l2:s.heap.IsList t2 ys) (ex:xs[k]?=some x) (ey:ys[k]?=some y)
  (q : ∀ g,IsZip g z TI TO (rawInt s.heap.objs.size)->IsPair g TO x y->g.IsTupleIter j1 t1 (k+1)->g.IsListIter j2 t2 (k+1)->IsPair g s.heap.objs.size x y ->
   (∀ c o,c≠z->c≠TO->c≠j1->c≠j2->s.heap.get? c=some o->g.get? c=some o)->Q (some (.ref s.heap.objs.size)) { s with heap:=g }):wpAny (model prog w) A (pyNext (.ref z)) Q E s:=by
 have ty:s.TypeIs (.ref z) "zip" := ⟨_,zz,rfl⟩
 unfold pyNext
 refine wpAny_bind (wpAny_attempt (wpAny_callSpecial?_slot (name:=Str.ofString "__next__") ty F.slot_zip_next (wpAny_call_entry F.slot_zip_next ty F.entry_zip_next ?_ (F.args_zip_next_1 _))))
 exact zip_item D zz zI zO i1 i2 l1 l2 ex ey λ g b1 b2 b3 b4 b5 b6=>wpAny_pure (q g b1 b2 b3 b4 b5 b6)
theorem next_stop {z TI TO j1 j2 t1 t2:Addr} {k:Nat} {xs ys:Array Value} {a b:Value} {Q:Option Value->Shared->Prop} (hd:A.handled=none) (D:ZipApart z TI TO j1 j2 t1 t2)
  (zz:IsZip s.heap z TI TO .none) (zI:IsPair s.heap TI (.ref j1) (.ref j2)) (zO:IsPair s.heap TO a b)
  (i1:s.heap.IsTupleIter j1 t1 k) (i2:s.heap.IsListIter j2 t2 k) (l1:s.heap.IsTuple t1 xs) (l2:s.heap.IsList t2 ys) (ee:xs[k]?=none\/ys[k]?=none)
  (q : ∀ g,(∀ c o,c≠z->c≠TO->c≠j1->c≠j2->s.heap.get? c=some o->g.get? c=some o)->Q none { s with heap:=g }):wpAny (model prog w) A (pyNext (.ref z)) Q E s:=by
 have ty:s.TypeIs (.ref z) "zip" := ⟨_,zz,rfl⟩
 unfold pyNext
 refine wpAny_bind (wpAny_attempt (wpAny_callSpecial?_slot (name:=Str.ofString "__next__") ty F.slot_zip_next (wpAny_call_entry F.slot_zip_next ty F.entry_zip_next ?_ (F.args_zip_next_1 _))))
 refine zip_stop hd D zz zI zO i1 i2 l1 l2 ee λ g e up ⟨oe,goe,coe⟩=>?_
 exact wpAny_bind (wpAny_isInstance (T := "StopIteration") (b:=true) ⟨oe,goe,coe⟩ isSubtype_stop (wpAny_pure (q _ up)))
end
abbrev mk1 (h:Heap) (t1:Addr):Heap:=h.push { cls:=.type "tuple_iterator", data:=.fields #[.ref t1,.int 0 0] }
abbrev mk2 (h:Heap) (t1 t2:Addr):Heap:=(mk1 h t1).push { cls:=.type "list_iterator", data:=.fields #[.ref t2,.int 0 0] }
abbrev mk3 (h:Heap) (t1 t2:Addr):Heap:=(mk2 h t1 t2).push { cls:=.type "tuple", data:=.seq #[.ref h.objs.size,.ref (mk1 h t1).objs.size] }
abbrev mk4 (h:Heap) (t1 t2:Addr):Heap:=(mk3 h t1 t2).push { cls:=.type "tuple", data:=.seq #[.none,.none] }
abbrev mk5 (h:Heap) (t1 t2:Addr):Heap:=(mk4 h t1 t2).push { cls:=.type "zip", data:=.fields #[.none,.bool false,.bool false,.ref (mk2 h t1 t2).objs.size,.ref (mk3 h t1 t2).objs.size] }
theorem meets_new (t1 t2:Addr) (xs ys:Array Value):Meets (Builtin.«zip.__new__» ⟨[.type "zip", .ref t1,.ref t2],[]⟩) (λ _ R s=>s.heap.IsTuple t1 xs/\s.heap.IsList t2 ys/\R (.ok (.ret (.ref (mk4 s.heap t1 t2).objs.size))) { s with heap:=mk5 s.heap t1 t2 }) :=
 .of_wp λ prog w A R s h=>by
  obtain ⟨hh,gg,dd,tt,oo⟩:=s
  obtain ⟨a1,a2,h⟩:=h
  have sub:=sub_zip
  have b1:Heap.IsTuple (Shared.heap ⟨hh,gg,dd,tt,oo⟩) t1 xs:=a1
  have b2:Heap.IsList (Shared.heap ⟨mk1 hh t1,gg,dd,tt,oo⟩) t2 ys:=Heap.IsList.push a2 _
  wp_walk using wpAny_pyIter_tuple b1,wpAny_pyIter_list b2
  exact ⟨_,rfl,h⟩
section
variable {prog:Program} {w:World} {A:Around} {E:Value->Shared->Prop} {s:Shared}
theorem make {t1 t2:Addr} {xs ys:Array Value} {Q:Value->Shared->Prop} (a1:s.heap.IsTuple t1 xs) (a2:s.heap.IsList t2 ys)
  (q : ∀ g,IsZip g (s.heap.objs.size+4) (s.heap.objs.size+2) (s.heap.objs.size+3) .none->IsPair g (s.heap.objs.size+2) (.ref s.heap.objs.size) (.ref (s.heap.objs.size+1))->IsPair g (s.heap.objs.size+3) .none .none ->
   g.IsTupleIter s.heap.objs.size t1 0->g.IsListIter (s.heap.objs.size+1) t2 0->(∀ c o,s.heap.get? c=some o->g.get? c=some o)->Q (.ref (s.heap.objs.size+4)) { s with heap:=g }) :
  wpAny (model prog w) A (call (.type "zip") [.ref t1,.ref t2]) Q E s:=by
 refine callType_new F.called_zip (by decide) (F.typeCall_zip_2 _ _) (F.newCall_zip_2 _ _) (λ obj=>F.args_object_init_3 obj _ _) F.entry_zip_new (meets_new t1 t2 xs ys) ⟨a1,a2,?_⟩
 have n1:(mk1 s.heap t1).objs.size=s.heap.objs.size+1:=Heap.size_push ..
 have n2:(mk2 s.heap t1 t2).objs.size=s.heap.objs.size+2:=by rw [Heap.size_push,n1]
 have n3:(mk3 s.heap t1 t2).objs.size=s.heap.objs.size+3:=by rw [Heap.size_push,n2]
 have n4:(mk4 s.heap t1 t2).objs.size=s.heap.objs.size+4:=by rw [Heap.size_push,n3]
 have p5:(mk5 s.heap t1 t2).get? (mk4 s.heap t1 t2).objs.size=some _:=Heap.get?_push_size _ rfl
 have p4:(mk5 s.heap t1 t2).get? (mk3 s.heap t1 t2).objs.size=some _:=Heap.get?_push_of_some _ (Heap.get?_push_size _ rfl)
 have p3:(mk5 s.heap t1 t2).get? (mk2 s.heap t1 t2).objs.size=some _:=Heap.get?_push_of_some _ (Heap.get?_push_of_some _ (Heap.get?_push_size _ rfl))
 have p2:(mk5 s.heap t1 t2).get? (mk1 s.heap t1).objs.size=some _:=Heap.get?_push_of_some _ (Heap.get?_push_of_some _ (Heap.get?_push_of_some _ (Heap.get?_push_size _ rfl)))
 have p1:(mk5 s.heap t1 t2).get? s.heap.objs.size=some _:=Heap.get?_push_of_some _ (Heap.get?_push_of_some _ (Heap.get?_push_of_some _ (Heap.get?_push_of_some _ (Heap.get?_push_size _ rfl))))
 show _/\_
 rw [n2,n3,n4] at p5
 rw [n1,n2] at p3
 rw [n3] at p4
 rw [n1] at p2
 rw [n4]
 exact ⟨⟨_,p5,rfl⟩,q _ p5 p3 p4 ⟨_,p1,rfl,rfl⟩ ⟨_,p2,rfl,rfl⟩ λ c o y=>Heap.get?_push_of_some _ (Heap.get?_push_of_some _ (Heap.get?_push_of_some _ (Heap.get?_push_of_some _ (Heap.get?_push_of_some _ y))))⟩
end
end Zm
namespace L2
open PySem PySem.Spec PyProof.Rows
def Itm (K:PySem.W.Frag) (a b:Addr):It :=
 ⟨λ i H => ∃ xs ys x y,SqT K H a xs/\SqL K H b ys/\xs[i]?=some x/\ys[i]?=some y,
 λ i H v H' => ∃ p,H p=none/\v=.ref p /\ ∃ x y,H'=upd H p (.tup [x,y]) /\ ∀ xs ys,SqT K H a xs->SqL K H b ys->xs[i]?=some x/\ys[i]?=some y,
 λ i H => ∃ xs ys,SqT K H a xs/\SqL K H b ys/\(xs.length<=i\/ys.length<=i)⟩
theorem turn_zipM {c:Bool} (hcm:c=true) {P:Program} {w:World} {K:PySem.W.Frag} {tg:Expr} (htg:tupleTg tg=true) {z TI TO j1 j2 a b:Addr} (D:ZipApart z TI TO j1 j2 a b) :
  Turn P w K c tg (Itm K a b) [z,TO,j1,j2,TI] z (λ i h=>IsZip h z TI TO .none/\IsPair h TI (.ref j1) (.ref j2)/\(∃ u v,IsPair h TO u v)/\h.IsTupleIter j1 a i/\h.IsListIter j2 b i) where
 mem:=List.mem_cons_self
 obj:=λ i h st c hc=>by
  obtain ⟨h1,h2,⟨u,v,h3⟩,⟨o4,h4,_,d4⟩,⟨o5,h5,_,d5⟩⟩:=st
  have nof : ∀ {o:Obj} {vs:Array Value},o.data=.fields vs -> ∀ v,o.data≠.cell v:=λ e v q=>by rw [e] at q;cases q
  have nos : ∀ {o:Obj} {vs:Array Value} {n:Nat},o.data=.seq vs n -> ∀ v,o.data≠.cell v:=λ e v q=>by rw [e] at q;cases q
  simp only [List.mem_cons,List.not_mem_nil,or_false] at hc
  rcases hc with rfl | rfl | rfl | rfl | rfl
  ·exact ⟨_,h1,nof rfl⟩
  ·exact ⟨_,h3,nos rfl⟩
  ·exact ⟨_,h4,nof d4⟩
  ·exact ⟨_,h5,nof d5⟩
  ·exact ⟨_,h2,nos rfl⟩
 keep:=λ i h h' st k=>by
  obtain ⟨h1,h2,⟨u,v,h3⟩,⟨o4,h4,r4⟩,⟨o5,h5,r5⟩⟩:=st
  exact ⟨k _ (by simp) _ h1,k _ (by simp) _ h2,⟨u,v,k _ (by simp) _ h3⟩,⟨o4,k _ (by simp) _ h4,r4⟩,⟨o5,k _ (by simp) _ h5,r5⟩⟩
 item:=by
  intro X hP hw hK hkc hc i pins s σ H E I hf st hg
  subst hP hw hK
  obtain ⟨h1,h2,⟨u,v,h3⟩,h4,h5⟩:=st
  obtain ⟨xs,ys,x,y,qa,qb,hx,hy⟩:=hg
  obtain ⟨its,rv,pa,_⟩:=I.tuple qa
  obtain ⟨jts,rw',pb',_⟩:=I.list qb
  have pb:=pb'.isList
  obtain ⟨ux,eux,rux⟩:=rv.get hx
  obtain ⟨uy,euy,ruy⟩:=rw'.get hy
  refine Zm.next_item D h1 h2 h3 h4 h5 (show s.heap.IsTuple a its.toArray from pa) (show s.heap.IsList b jts.toArray from pb) (x:=ux) (y:=uy) (by simpa using eux) (by simpa using euy) λ g b1 b2 b3 b4 b5 b6=>?_
  refine ⟨_,rfl,?_⟩
  have zlt:z<s.heap.objs.size:=Heap.lt_size h1
  cases tg with
  | Tuple es kk pp =>
   refine wpAny_letOwnedTupleGo_zip b1 λ g' c1 sb=>?_
   have new:IsPair g' s.heap.objs.size ux uy:=sb.extBut _ _ (Nat.ne_of_gt zlt) b5
   have I1:Inv X pins σ (upd H s.heap.objs.size (.tup [x,y])) { s with heap:=g' }:=by
    refine I.turnedNew (t':=s.toks) (L:=[z,TO,j1,j2,TI]) (λ c o hcn e=>?_) hf (Nat.le_refl _) ⟨by show 2<=sizeLine;decide,[ux,uy],.cons rux (.cons ruy .nil),⟨_,new,rfl,⟨0,rfl⟩,rfl⟩⟩
    simp only [List.mem_cons,List.not_mem_nil,or_false,not_or] at hcn
    exact sb.extBut c o hcn.1 (b6 c o hcn.1 hcn.2.1 hcn.2.2.1 hcn.2.2.2.1 e)
   have h2':IsPair g' TI (.ref j1) (.ref j2):=sb.extBut _ _ D.TIz (b6 _ _ D.TIz D.TITO D.TIi1 D.TIi2 h2)
   refine ⟨.ref s.heap.objs.size,_,I1,rfl,⟨_,I.fresh,rfl,x,y,rfl,λ xs' ys' q1 q2=>⟨by rw [I.tuple_inj q1 qa];exact hx,by rw [I.list_inj q2 qb];exact hy⟩⟩,⟨c1,h2',⟨_,_,sb.extBut _ _ D.TOz b2⟩,b3.extBut sb.extBut D.i1z,b4.extBut sb.extBut D.i2z⟩,λ c hcm=>?_⟩
   obtain ⟨o,eo,_⟩ : ∃ o,s.heap.get? c=some o/\True:=by
    simp only [List.mem_cons,List.not_mem_nil,or_false] at hcm
    rcases hcm with rfl | rfl | rfl | rfl | rfl
    ·exact ⟨_,h1,trivial⟩
    ·exact ⟨_,h3,trivial⟩
    ·obtain ⟨o4,g4,_⟩:=h4
     exact ⟨_,g4,trivial⟩
    ·obtain ⟨o5,g5,_⟩:=h5
     exact ⟨_,g5,trivial⟩
    ·exact ⟨_,h2,trivial⟩
   rw [upd_ne (Nat.ne_of_lt (Heap.lt_size eo))]
   exact (hf c hcm).1
  | _=>exact absurd (show false=true from htg) Bool.false_ne_true
 done:=by
  intro X hP hw hK hkc hc i pins s σ H E I hf st hg
  subst hP hw hK
  obtain ⟨h1,h2,⟨u,v,h3⟩,h4,h5⟩:=st
  obtain ⟨xs,ys,qa,qb,hl⟩:=hg
  obtain ⟨its,rv,pa,_⟩:=I.tuple qa
  obtain ⟨jts,rw',pb',_⟩:=I.list qb
  have pb:=pb'.isList
  have e1:=rv.length
  have e2:=rw'.length
  refine Zm.next_stop (I.ok.hd.1 (hkc.trans hcm)) D h1 h2 h3 h4 h5 (show s.heap.IsTuple a its.toArray from pa) (show s.heap.IsList b jts.toArray from pb) ?_ λ g up=>⟨rfl,?_⟩
  ·rcases hl with hl | hl
   ·exact .inl (by simp;omega)
   ·exact .inr (by simp;omega)
  ·refine I.turnedL (t':=s.toks) (L:=[z,TO,j1,j2,TI]) (λ c o hcn e=>?_) hf
   simp only [List.mem_cons,List.not_mem_nil,or_false,not_or] at hcn
   exact up c o hcn.1 hcn.2.1 hcn.2.2.1 hcn.2.2.2.1 e
 self:=λ _ _ _ _ _ st h=>wpAny_pyIter_zip st.1 h
section
variable {X:Cx} {tg:Expr}
def iZipM (K:PySem.W.Frag) (ta:TA):TI:=λ σ H R=>ta σ H λ vs H1 => ∃ a b,vs=[.ref a,.ref b]/\(∃ xs,SqT K H1 a xs)/\(∃ ys,SqL K H1 b ys)/\R (Itm K a b) H1
theorem pi_zipM {e1 e2:Expr} {ta:TA} {p pos:Pos} (htg:tupleTg tg=true) (hg:Gl X "zip") (hm:X.mg "zip" = none) (ha:PA X [e1,e2] ta) (hs:starEach [e1,e2] X.env=[(false,eval e1 X.env),(false,eval e2 X.env)]:=by rfl) (hs2:starEach [e2] X.env=[(false,eval e2 X.env)]:=by rfl)
  (hb:bootBuiltins "zip" = some (.type "zip"):=by decide +kernel) (hcm:X.calm=true:=by rfl):PI X tg (.Call (.Name "zip" p) [e1,e2] [] pos) (iZipM X.K ta):=by
 intro pins s σ H R I h
 refine Call_ (ld_blt I hg hm hb (PyProof.Rows.callWith_type1 (thn (ha pos pins s σ H _ I h) λ us s1 ⟨vs,H1,I1,r1,q1⟩=>?_) (by rw [hs,hs2]) (by rw [hs2];rfl)))
 obtain ⟨a,b,e,⟨xs,qa⟩,⟨ys,qb⟩,q⟩:=q1
 subst e
 obtain ⟨u1,u2,rfl,ra,rb⟩:=vals2 r1
 cases ra
 cases rb
 obtain ⟨its,rv,pa,_⟩:=I1.tuple qa
 obtain ⟨jts,rw',pb',_⟩:=I1.list qb
 have pb:=pb'.isList
 have la:a<s1.heap.objs.size:=by obtain ⟨o,e,_⟩:=pa;exact Heap.lt_size e
 have lb:b<s1.heap.objs.size:=by obtain ⟨o,e,_⟩:=pb;exact Heap.lt_size e
 refine Zm.make (show s1.heap.IsTuple a its.toArray from pa) (show s1.heap.IsList b jts.toArray from pb) λ g z1 z2 z3 z4 z5 up=>?_
 refine wpAny_pyIter_zip z1 ?_
 have I2:Inv X pins σ H1 { s1 with heap:=g }:=I1.kept (t':=s1.toks) up
 refine ⟨_,[s1.heap.objs.size+4,s1.heap.objs.size+3,s1.heap.objs.size,s1.heap.objs.size+1,s1.heap.objs.size+2],_,_,H1,rfl,I2,turn_zipM hcm htg (apart_new la lb),⟨z1,z2,⟨_,_,z3⟩,z4,z5⟩,λ c hc=>?_,q⟩
 have big:s1.heap.objs.size<=c:=by
  simp only [List.mem_cons,List.not_mem_nil,or_false] at hc
  rcases hc with rfl | rfl | rfl | rfl | rfl
  ·exact Nat.le_add_right _ _
  ·exact Nat.le_add_right _ _
  ·exact Nat.le_refl _
  ·exact Nat.le_add_right _ _
  ·exact Nat.le_add_right _ _
 exact I1.fpOk big (I1.hok.fresh big)
end
theorem for_zipM {K:PySem.W.Frag} {a b:Addr} {xs ys:List V} {g:TG} {tb:TS} {D:Ends} {σ:St} {H:Hp} (Pv:Nat->St->Hp->Prop) (h0:Pv 0 σ H) (hl : ∀ i σ H,i<=min xs.length ys.length->Pv i σ H->SqT K H a xs/\SqL K H b ys)
  (hs : ∀ i x y p σ H,xs[i]?=some x->ys[i]?=some y->H p=none->Pv i σ H->g (.ref p) σ (upd H p (.tup [x,y])) λ σ2 H2=>tb { D with nx:=Pv (i+1),ct:=Pv (i+1),bk:=D.nx } σ2 H2) (hd : ∀ σ H,Pv (min xs.length ys.length) σ H->D.nx σ H) :
  ∃ W:Nat->Nat->St->Hp->Prop,(∃ m,W 0 m σ H) /\ ∀ i m σ H,W i m σ H ->
   ((Itm K a b).stop i H/\D.nx σ H)\/((Itm K a b).go i H /\ ∃ N:St->Hp->Prop,(∀ σ' H',N σ' H' -> ∃ m',m'<m/\W (i+1) m' σ' H') /\ ∀ x H',(Itm K a b).yld i H x H'->g x σ H' λ σ2 H2=>tb { D with nx:=N,ct:=N,bk:=D.nx } σ2 H2):=by
 refine ⟨λ i m σ H=>m=min xs.length ys.length - i/\i<=min xs.length ys.length/\Pv i σ H,⟨_,rfl,Nat.zero_le _,h0⟩,?_⟩
 rintro i m σ H ⟨rfl,hi,p⟩
 obtain ⟨qa,qb⟩:=hl i σ H hi p
 by_cases hlt:i<min xs.length ys.length
 ·have h1:i<xs.length:=by omega
  have h2:i<ys.length:=by omega
  refine .inr ⟨⟨xs,ys,xs[i],ys[i],qa,qb,by simp [h1],by simp [h2]⟩,Pv (i+1),λ σ' H' p'=>⟨min xs.length ys.length - (i+1),by omega,rfl,hlt,p'⟩,λ v H' yv=>?_⟩
  obtain ⟨q,hq,rfl,x,y,rfl,hxy⟩:=yv
  obtain ⟨ex,ey⟩:=hxy xs ys qa qb
  exact hs i x y q σ H ex ey hq p
 ·have e:i=min xs.length ys.length:=by omega
  refine .inl ⟨⟨xs,ys,qa,qb,by omega⟩,hd σ H (e ▸ p)⟩
theorem qi_zipM {X:Cx} {tg:Expr} {e1 e2:Expr} {ta:TA} {p pos:Pos} (htg:tupleTg tg=true) (hg:Gl X "zip") (hm:X.mg "zip" = none) (ha:QA X [e1,e2] ta) (hs:starEach [e1,e2] X.env=[(false,eval e1 X.env),(false,eval e2 X.env)]:=by rfl) (hs2:starEach [e2] X.env=[(false,eval e2 X.env)]:=by rfl)
  (hb:bootBuiltins "zip" = some (.type "zip"):=by decide +kernel) (hcm:X.calm=true:=by rfl):QI X tg (.Call (.Name "zip" p) [e1,e2] [] pos) (iZipM X.K ta):=⟨pi_zipM htg hg hm ha.o hs hs2 hb hcm⟩
end L2
namespace L2
open PySem PySem.Spec PyProof.Rows W2
def kI (c:List Int):List Key:=c.map λ i=>(Sum.inl i:Key)
theorem kI_map (c:List Int):(kI c).map kV=c.map V.int:=by
 unfold kI
 rw [List.map_map]
 rfl
theorem kI_inj {a b:List Int} (h:kI a=kI b):a=b:=by
 have:=kI_map a
 rw [h,kI_map] at this
 exact (List.map_inj_right (λ x y e=>by injection e)).mp this.symm
theorem key_row {H:Hp} {b:Addr} {c:List Int} (h:H b=some (tupI c)):H b=some (.tup ((kI c).map kV)):=by rw [kI_map];exact h
section
variable {X:Cx}
theorem op_inD (hu:X.A.units+1<cLine):OpR X (compareOp .In) (λ y x H Q => ∃ b d c kvs,y=.ref b/\x=.ref d/\H b=some (tupI c)/\H d=some (.dT kvs)/\Q (.bl (valV kvs (kI c)).isSome) H):=by
 intro pins s σ H y x u v Q I ry rx h
 obtain ⟨b,d,c,kvs,rfl,rfl,hb,hd,q⟩:=h
 cases rx
 exact d_in hu I (DGet.t hd (key_row hb)) ry λ s3 I3=>⟨.bl _,H,I3,rfl,q⟩
def tDGetR (td ty:TE):TE:=λ σ H Q=>td σ H λ x H1=>ty σ H1 λ y H2 => ∃ d b c kvs v,x=.ref d/\y=.ref b/\H2 d=some (.dT kvs)/\H2 b=some (tupI c)/\valV kvs (kI c)=some v/\Q v H2
theorem qe_dget {o i:Expr} {td ty:TE} {pos:Pos} (hu:X.A.units+1<cLine) (ho:QE X o td) (hi:QE X i ty) (hs:NoSl i):QE X (.Subscript o i pos) (tDGetR td ty):=⟨by
 intro pins s σ H Q I h
 refine subD_of PySem.F.slot_dict_getitem.lookup hs (thn (ho.o pins s σ H _ I h) λ u s1 ⟨x,H1,I1,rx,q1⟩=>thn (hi.o pins s1 σ H1 _ I1 q1) λ iv s2 ⟨y,H2,I2,ry,q2⟩=>?_)
 obtain ⟨d,b,c,kvs,v,rfl,rfl,hd,hb,hv,q⟩:=q2
 obtain rfl:u=Value.ref d:=rx
 have g:DGet H2 d (.ref b) (some v):=by rw [<-hv];exact DGet.t hd (key_row hb)
 exact ⟨dict_typeIs I2 g,d_getItem hu I2 g ry λ w' s3 I3 rw'=>⟨v,H2,I3,rw',q⟩⟩⟩
def sDPutR (td ty tv:TE):TS:=λ D σ H=>tv σ H λ v H1=>td σ H1 λ x H2=>ty σ H2 λ y H3 => ∃ d b c kvs,x=.ref d/\y=.ref b/\H3 d=some (.dT kvs)/\H3 b=some (tupI c)/\kvs.length<sizeLine /\ ∀ H4,W2.But d H3 H4->H4 d=some (.dT (putK kvs (kI c) v))->D.nx σ H4
theorem qs_dput {o i value:Expr} {td ty tv:TE} {pos pos':Pos} (hu:X.A.units+1<cLine) (ho:QE X o td) (hi:QE X i ty) (hv:QE X value tv) (hs:swapsWith value (some (.Subscript o i pos')) pos.line X.env=pure false) :
  QS X (.Assign [.Subscript o i pos'] value pos) (sDPutR td ty tv):=⟨by
 intro pins s σ H D I h
 refine wpAny_Assign_Subscript (thn (hv.o pins s σ H _ I h) λ r s1 ⟨v,H1,I1,rv,q1⟩=>thn (ho.o pins s1 σ H1 _ I1 q1) λ u s2 ⟨x,H2,I2,rx,q2⟩=>thn (hi.o pins s2 σ H2 _ I2 q2) λ iv s3 ⟨y,H3,I3,ry,q3⟩=>?_) hs
 obtain ⟨d,b,c,kvs,rfl,rfl,hd,hb,hl,q⟩:=q3
 obtain rfl:u=Value.ref d:=rx
 exact d_setItem hu I3 (DPut.t hd (key_row hb) hl) ry rv λ s4 I4=>⟨σ,_,I4,q _ W2.But.upd upd_same⟩⟩
def tDNewTA:TE:=λ _ H Q=>NewA (.dT []) H Q
theorem qe_dnewT {pos:Pos}:QE X (.Dict [] [] pos) tDNewTA:=⟨λ pins s σ H Q I h=>pe_dnewT pins s σ H Q I (NewA.at h)⟩
end
theorem valV_put_ne {kvs:List (List Key×V)} {c d:List Int} {y:V} (h:d≠c):valV (putK kvs (kI c) y) (kI d)=valV kvs (kI d):=by
 rw [valV_put,if_neg λ e=>h (kI_inj e)]
theorem valV_put_self {kvs:List (List Key×V)} {c:List Int} {y:V}:valV (putK kvs (kI c) y) (kI c)=some y:=by
 rw [valV_put,if_pos rfl]
end L2
namespace L2
open PySem PySem.Spec PyProof.Rows
def scS:V->Bool
 | .int _=>true
 | .str _=>true
 | _=>false
theorem eqAt_scal {A:Around} {s:Shared} {x:V} {u v:Value} (h:scS x=true) (r1:RelV x u) (r2:RelV x v):SeqAt.EqAt A s u v true:=by
 cases x with
 | int i =>
  obtain ⟨t,rfl⟩:=r1
  obtain ⟨t',rfl⟩:=r2
  have:=SeqAt.EqAt.int_int (A:=A) (s:=s) i t i t'
  rw [beq_self_eq_true] at this
  exact this
 | str i =>
  obtain ⟨t,rfl⟩:=r1
  obtain ⟨t',rfl⟩:=r2
  have:=SeqAt.EqAt.str_str (A:=A) (s:=s) i t i t'
  rw [beq_self_eq_true] at this
  exact this
 | _=>cases h
theorem eqAt_items {A:Around} {s:Shared} {xs:List V} {us vs:List Value} (hs : ∀ x∈xs,scS x=true) (r1:Vals xs us) (r2:Vals xs vs) (j:Nat) (h1:j<us.toArray.size) (h2:j<vs.toArray.size):SeqAt.EqAt A s us.toArray[j] vs.toArray[j] true:=by
 have e1:=r1.length
 have hj:j<xs.length:=by rw [e1];simpa using h1
 obtain ⟨u,hu,ru⟩:=r1.get (List.getElem?_eq_getElem hj)
 obtain ⟨v,hv,rv⟩:=r2.get (List.getElem?_eq_getElem hj)
 have k1:us.toArray[j]=u:=by
  have:us[j]?=some us.toArray[j]:=by simp
  rw [hu] at this
  exact (Option.some.inj this).symm
 have k2:vs.toArray[j]=v:=by
  have:vs[j]?=some vs.toArray[j]:=by simp
  rw [hv] at this
  exact (Option.some.inj this).symm
 rw [k1,k2]
 exact eqAt_scal (hs _ (List.getElem_mem hj)) ru rv
section
variable {X:Cx}
def rGetL:V->V->Hp->VK->Prop:=λ x y H Q => ∃ p xs i v,x=.ref p/\y=.int i/\H p=some (.lst xs)/\0<=i/\xs[i.toNat]?=some v/\Q v H
theorem get_list:PGet X rGetL:=by
 intro pins s σ H x y ov iv Q I rx ry h
 obtain ⟨p,xs,i,z,rfl,rfl,hq,h0,he,q⟩:=h
 cases rx
 obtain ⟨t,rfl⟩:=ry
 obtain ⟨its,r,pl,hz⟩:=I.list (SqL.of hq)
 obtain ⟨w,ew,rw'⟩:=r.get he
 have hl:=r.length
 have hn:=line63
 have hi:i.toNat<xs.length:=(List.getElem?_eq_some_iff.mp he).1
 exact wpAny_getItem_list pl.isList h0 (by omega) (by simpa using ew) ⟨z,H,I,rw',q⟩
theorem qs_augI {o i e:Expr} {to ti te:TE} {tpos pos:Pos} (ho:QE X o to) (hi:QE X i ti) (he:QE X e te)
  (ha : ∀ ov iv new,augStore i ov iv new=(do holding [new,ov,iv] (setItem ov iv new);release [new,ov,iv] [];pure .next):=by intros;rfl):QS X (.AugAssign (.Subscript o i tpos) .Add e pos) (tAugS to ti te rGetL (ipI λ i j=>i+j) rSetL):=⟨ps_augS ho.o hi.o get_list he.o ip_add set_list ha⟩
end
end L2
namespace Mth
inductive FO where
 | round (b l:Nat)
 | rests (n:Nat) (c:List Int)
 | open_
def Dst (rows:List (List Int)) (p:List Int) (k:Nat):Prop := ∀ i j,i<j->j<k->goN rows i p≠goN rows j p
def FateR (rows:List (List Int)) (m:Nat) (p:List Int):FO->Prop
 | .round b l=>1<=l/\b+l<=m/\(∃ c,goN rows b p=some c/\goN rows (b+l) p=some c)/\Dst rows p (b+l)
 | .rests n c=>n<=m/\goN rows n p=some c/\fstI rows c=none
 | .open_=>(∃ c,goN rows (m+1) p=some c)/\Dst rows p (m+1)
theorem goN_shift {rows:List (List Int)} {p:List Int} {a b:Nat} (h:goN rows a p=goN rows b p) : ∀ k,goN rows (a+k) p=goN rows (b+k) p
 | 0=>h
 | k+1=>by
  show (goN rows (a+k) p).bind (stp rows)=(goN rows (b+k) p).bind (stp rows)
  rw [goN_shift h k]
theorem no_rest {rows:List (List Int)} {p c:List Int} {a b n:Nat} (hab:a<b) (h:goN rows a p=goN rows b p) (hb:b<=n) (hn:goN rows n p=some c) (hf:fstI rows c=none):False:=by
 have e:=goN_shift h (n - b)
 rw [show b+(n - b)=n by omega,hn] at e
 have:=goN_uniq e hf hn hf
 omega
theorem FateR.uniq {rows:List (List Int)} {m:Nat} {p:List Int} : ∀ {x y:FO},FateR rows m p x->FateR rows m p y->x=y
 | .round b l,.round b' l',⟨h1,h2,⟨c,h3,h4⟩,h5⟩,⟨g1,g2,⟨d,g3,g4⟩,g5⟩=>by
  have k1 : ¬ b+l<b'+l':=λ z=>g5 b (b+l) (by omega) z (by rw [h3,h4])
  have k2 : ¬ b'+l'<b+l:=λ z=>h5 b' (b'+l') (by omega) z (by rw [g3,g4])
  have k3:b+l=b'+l':=by omega
  rw [k3,g4] at h4
  cases h4
  have k4 : ¬ b<b':=λ z=>g5 b b' z (by omega) (by rw [h3,g3])
  have k5 : ¬ b'<b:=λ z=>h5 b' b z (by omega) (by rw [h3,g3])
  have:b=b':=by omega
  subst this
  have:l=l':=by omega
  rw [this]
 | .round b l,.rests n c,⟨h1,h2,⟨c',h3,h4⟩,h5⟩,⟨g1,g2,g3⟩=>(no_rest (a:=b) (b:=b+l) (by omega) (by rw [h3,h4]) (goN_restLt g2 g3 h4) g2 g3).elim
 | .rests n c,.round b l,⟨g1,g2,g3⟩,⟨h1,h2,⟨c',h3,h4⟩,h5⟩=>(no_rest (a:=b) (b:=b+l) (by omega) (by rw [h3,h4]) (goN_restLt g2 g3 h4) g2 g3).elim
 | .round b l,.open_,⟨h1,h2,⟨c',h3,h4⟩,h5⟩,⟨_,g⟩=>(g b (b+l) (by omega) (by omega) (by rw [h3,h4])).elim
 | .open_,.round b l,⟨_,g⟩,⟨h1,h2,⟨c',h3,h4⟩,h5⟩=>(g b (b+l) (by omega) (by omega) (by rw [h3,h4])).elim
 | .rests n c,.rests n' c',⟨h1,h2,h3⟩,⟨g1,g2,g3⟩=>by
  have:=goN_uniq h2 h3 g2 g3
  subst this
  rw [h2] at g2
  cases g2
  rfl
 | .rests n c,.open_,⟨h1,h2,h3⟩,⟨⟨d,g⟩,_⟩=>by
  have:=goN_restLt h2 h3 g
  omega
 | .open_,.rests n c,⟨⟨d,g⟩,_⟩,⟨h1,h2,h3⟩=>by
  have:=goN_restLt h2 h3 g
  omega
 | .open_,.open_,_,_=>rfl
end Mth
namespace Mth
abbrev sb2 (x y:Int):Int:=x - y
abbrev mn2 (x y:Int):Int:=if y<x then y else x
theorem d0_eq : ∀ (s t:List Int),(List.zipWith sb2 s (List.zipWith mn2 s t)).map Int.toNat=ups (List.zipWith sb2 s t)
 | [],_=>rfl
 | _::_,[]=>rfl
 | x::s,y::t=>by
  show (x - mn2 x y).toNat::(List.zipWith sb2 s (List.zipWith mn2 s t)).map Int.toNat=(x - y).toNat::ups (List.zipWith sb2 s t)
  rw [d0_eq s t]
  congr 1
  unfold mn2
  split<;>omega
theorem d1_eq : ∀ (s t:List Int),(List.zipWith sb2 t (List.zipWith mn2 s t)).map Int.toNat=downs (List.zipWith sb2 s t)
 | [],[]=>rfl
 | [],_::_=>rfl
 | _::_,[]=>rfl
 | x::s,y::t=>by
  show (y - mn2 x y).toNat::(List.zipWith sb2 t (List.zipWith mn2 s t)).map Int.toNat=(-(x - y)).toNat::downs (List.zipWith sb2 s t)
  rw [d1_eq s t]
  congr 1
  unfold mn2
  split<;>omega
theorem ups_sub : ∀ (s t:List Int),(∀ e∈t,0<=e)->(ups (List.zipWith sb2 s t)).sum<=(ups s).sum
 | [],_,_=>by simp [ups]
 | _::_,[],_=>by simp [ups]
 | x::s,y::t,h=>by
  have h1:=h y List.mem_cons_self
  have h2:=ups_sub s t λ e he=>h e (List.mem_cons_of_mem _ he)
  show ((x - y).toNat::ups (List.zipWith sb2 s t)).sum<=(x.toNat::ups s).sum
  rw [List.sum_cons,List.sum_cons]
  omega
theorem downs_sub : ∀ (s t:List Int),(∀ e∈s,0<=e)->(downs (List.zipWith sb2 s t)).sum<=(ups t).sum
 | [],_,_=>by simp [downs]
 | _::_,[],_=>by simp [downs]
 | x::s,y::t,h=>by
  have h1:=h x List.mem_cons_self
  have h2:=downs_sub s t λ e he=>h e (List.mem_cons_of_mem _ he)
  show ((-(x - y)).toNat::downs (List.zipWith sb2 s t)).sum<=(y.toNat::ups t).sum
  rw [List.sum_cons,List.sum_cons]
  omega
theorem mem_sum : ∀ {l:List Nat} {x:Nat},x∈l->x<=l.sum
 | [],_,h=>by cases h
 | y::r,x,h=>by
  rw [List.sum_cons]
  rcases List.mem_cons.mp h with z | z
  ·omega
  ·have:=mem_sum z;omega
theorem d0_mem {s t:List Int} {e:Int} (h:e∈List.zipWith sb2 s (List.zipWith mn2 s t)):0<=e:=by
 obtain ⟨k,hk⟩:=List.getElem?_of_mem h
 rw [List.getElem?_zipWith_eq_some] at hk
 obtain ⟨x,m,hx,hm,rfl⟩:=hk
 rw [List.getElem?_zipWith_eq_some] at hm
 obtain ⟨x',y,hx',hy,rfl⟩:=hm
 rw [hx] at hx'
 cases hx'
 show 0<=x - mn2 x y
 unfold mn2
 split<;>omega
theorem d1_mem {s t:List Int} {e:Int} (h:e∈List.zipWith sb2 t (List.zipWith mn2 s t)):0<=e:=by
 obtain ⟨k,hk⟩:=List.getElem?_of_mem h
 rw [List.getElem?_zipWith_eq_some] at hk
 obtain ⟨y,m,hy,hm,rfl⟩:=hk
 rw [List.getElem?_zipWith_eq_some] at hm
 obtain ⟨x,y',hx,hy',rfl⟩:=hm
 rw [hy] at hy'
 cases hy'
 show 0<=y - mn2 x y
 unfold mn2
 split<;>omega
theorem bnd_of {l:List Int} {n:Nat} (h0 : ∀ e∈l,0<=e) (h:(l.map Int.toNat).sum<=n) (hn:n<=1000) : ∀ e∈l,0<=e/\e<2 ^ 62:=λ e he=>by
 have:=mem_sum (List.mem_map_of_mem (f:=Int.toNat) he)
 have:=h0 e he
 omega
end Mth
namespace W2
open PySem L2 Mth
theorem comp_zipL_ints {K:PySem.W.Frag} {a b D:Addr} {js:List (Option Nat)} {te:TE} {σ:St} {H1:Hp} {Q:VK} {xs ys:List Int} {σ0:St} {f:Int->Int->Int} (hn:min xs.length ys.length<=sizeLine) (hp : ∃ u v,pick js σ=u::v::σ0) (hD:H1 D=none)
  (ha:H1 a=some (.lst (xs.map V.int))) (hb:H1 b=some (.lst (ys.map V.int)))
  (hs : ∀ (x y:Int) (H':Hp) (R:VK),x∈xs->y∈ys->R (.int (f x y)) H'->te (some (.int x)::some (.int y)::σ0) H' R)
  (q : ∀ H',Same H1 H'->H' D=some (.lst ((List.zipWith f xs ys).map V.int))->Q (.ref D) H'):CompW (Itzl a b) D js (gTup K 2 (gCons (gName 0) (gCons (gName 1) gNil))) tNoTest te σ H1 Q:=by
 obtain ⟨u0,v0,hp⟩:=hp
 refine comp_zipL (a:=a) (b:=b) (xs:=xs.map V.int) (ys:=ys.map V.int) (by rw [List.length_map,List.length_map];exact hn) (λ i σ' H' zs=>(∃ u v:Option V,σ'=u::v::σ0)/\Same H1 H'/\zs=((List.zipWith f xs ys).take i).map V.int) ⟨⟨u0,v0,hp⟩,Same.new hD,rfl⟩ (λ i σ' H' zs _ ⟨_,s',_⟩=>⟨s' _ _ ha,s' _ _ hb⟩) ?_ ?_
 ·rintro i x y p σ' H' zs R hx hy hp hD' hzl ⟨⟨u,v,rfl⟩,s',rfl⟩ kk
  obtain ⟨x,rfl,hx'⟩:=map_int_get hx
  obtain ⟨y,rfl,hy'⟩:=map_int_get hy
  refine ⟨p,_,rfl,SqT.of upd_same,rfl,_,_,rfl,_,_,rfl,rfl,?_⟩
  refine hs x y _ _ (List.mem_of_getElem? hx') (List.mem_of_getElem? hy') (kk _ _ _ ?_ ⟨⟨_,_,rfl⟩,?_,?_⟩)
  ·rw [upd_ne (ne_of_none hD' hp)];exact hD'
  ·intro c o e
   rw [upd_ne (ne_of_none e hD),upd_ne (ne_of_none (s' c o e) hp)]
   exact s' c o e
  ·rw [zipWith_snoc hx' hy',List.map_append]
   rfl
 ·rintro σ' H' zs hD' hzl ⟨_,s',rfl⟩
  refine q H' s' ?_
  rw [hD',List.length_map,List.length_map,List.take_of_length_le (by rw [List.length_zipWith];exact Nat.le_refl _)]
def But2 (a l:Addr) (H H':Hp):Prop := ∀ c o,c≠a->c≠l->H c=some o->H' c=some o
end W2
namespace L2
open PySem PySem.Spec PyProof.Rows
theorem ps_setC {X:Cx} {elt tg iter:Expr} {cs:List Expr} {scope:Scope} {cpos pos pos':Pos} {cl:List (Str×Addr)} {N:List Str} {js:List (Option Nat)} {wi:TI} {g:TG} {tc:TT} {te:TE} {iv:Nat} {x0:Str}
  (hN0:X.N.Nodup) (hi0:X.N[iv]?=some x0) (hx0:Loc X.env.scope x0)
  (C:CompOk X scope cl N js) (hc:X.warm=true) (hi:PI X tg iter wi)
  (hg : ∀ fp pins s H,PG (compCx X scope cl N fp pins s H λ _ _=>False) tg g)
  (ht : ∀ fp pins s H,PTs (compCx X scope cl N fp pins s H λ _ _=>False) cs tc)
  (he : ∀ fp pins s H,PE (compCx X scope cl N fp pins s H λ _ _=>False) elt te)
  (hsw:swapsWith (.ListComp elt [⟨tg,iter,cs,0⟩] scope cpos) (some (.Name x0 pos')) pos.line X.env=pure true)
  (hs : ∀ x,foldedSetIterable iter X.env x=pure x:=by intro _;rfl) (hf0:X.fn x0=true\/X.env.scope.names.lookup x0=some .local:=by first | exact .inl rfl | exact .inr rfl | assumption):PS X (.Assign [.Name x0 pos'] (.ListComp elt [⟨tg,iter,cs,0⟩] scope cpos) pos) (tAsg (tComp js wi g tc te) (gName iv)):=by
 intro pins s σ H D0 I h
 rw [exec_Assign_Name_used _ _ _ _ hsw]
 refine wpAny_bind (wpAny_standAt (wpAny_bind ?_))
 show wpAny _ X.A (do let _ ← comprehension (.ListComp elt [⟨tg,iter,cs,0⟩] scope cpos) scope X.env _ (newList []) false (eval iter X.env) (some (assign (.Name x0 pos') X.env))) _ _ s
 refine wpAny_bind (wpAny_mono (wpAny_comprehension_free (use:=some (assign (.Name x0 pos') X.env)) (Q:=λ _ s'=>SP X pins D0 .next s') rfl hs C.clos C.kind C.names (thn (hi pins s σ H _ I h) λ xv s1 h1=>thn h1 λ itv s2 h2=>?_)) (λ _ s' hq=>wpAny_pure (wpAny_pure hq)) λ _ _ e=>e)
 obtain ⟨it,fp,tn,J,H2,e,I2,T,st2,f2,h2⟩:=h2
 subst e
 obtain ⟨W,⟨m0,w0⟩,turn⟩:=h2 s2.heap.objs.size I2.fresh
 refine wpAny_newObj_type (wpAny_newFunctionEnv C.nocell (by intro y hy;simp at hy) (λ h4 ns4 sb4=>?_) C.kind)
 have I3:Inv X pins σ (upd H2 s2.heap.objs.size (.lst [])) { s2 with heap:=s2.heap.push { cls:=.type "list", data:=.seq ([]:List Value).toArray } }:=I2.lnew (t':=s2.toks) (its:=[]) .nil (Nat.zero_le _)
 dsimp only at ns4 sb4 ⊢
 generalize e3:({ s2 with heap:=s2.heap.push { cls:=.type "list", data:=.seq ([]:List Value).toArray } }:Shared)=s3 at I3
 have e3h:s2.heap.push { cls:=.type "list", data:=.seq ([]:List Value).toArray }=s3.heap:=by rw [<-e3]
 have e3g:s2.gens=s3.gens:=by rw [<-e3]
 have e3o:s2.os=s3.os:=by rw [<-e3]
 rw [e3h] at ns4 sb4 ⊢
 generalize eH:upd H2 s2.heap.objs.size (.lst [])=H3 at I3 w0
 have hD:s2.heap.objs.size<s3.heap.objs.size:=by rw [<-e3h,Heap.size_push];exact Nat.lt_succ_self _
 have up3 : ∀ b o,s2.heap.get? b=some o->s3.heap.get? b=some o:=λ b o q=>by rw [<-e3h];exact Heap.get?_push_of_some _ q
 have up4 : ∀ b o,s3.heap.get? b=some o->h4.get? b=some o:=λ b o q=>sb4.extBut b o (Nat.ne_of_lt (Heap.lt_size q)) (Heap.get?_push_of_some _ q)
 have fpo : ∀ b∈fp,b<s3.heap.objs.size:=λ b hb=>by
  obtain ⟨o,eo,_⟩:=T.obj 0 _ st2 b hb
  exact Heap.lt_size (up3 b o eo)
 have fst : ∀ b∈fp,b∉frs X.stack:=λ b hb z=>by
  rcases List.mem_cons.mp (I3.stkSub b z) with q | q
  ·exact (f2 b hb).2.1 q
  ·exact (f2 b hb).2.2.1 q
 have okY:(compCx X scope cl N fp pins s3 H3 λ _ _=>False).Ok:=by
  refine ⟨I.ok.mod,C.kind,I.ok.glob,I.ok.blt,Nat.le_refl _,λ x y c q1 q2=>I.ok.inj x y c (C.sub _ _ q1) (C.sub _ _ q2),C.has,λ x c z=>absurd z Bool.false_ne_true,⟨I.ok.hd.1,λ hw=>I3.hdC hw λ b hb=>(f2 b hb).2.2.2.1⟩,I.ok.frames,.inl rfl,λ b hb=>⟨Nat.ne_of_lt (fpo b hb),λ x c q=>(f2 b hb).2.2.2.2.1 x c (C.sub _ _ q)⟩,
   I3.bs,Nat.le_trans I.ok.bsz I3.sz,λ b o q hb=>?_,fst,I3.stack,I3.stkFree⟩
  rcases (f2 b hb).2.2.2.1 with z | z
  ·exact I.ok.noex b o q z
  ·exact absurd (Nat.lt_of_lt_of_le (Heap.lt_size q) (Nat.le_trans I.ok.bsz z)) (Nat.lt_irrefl _)
 have I4:Inv (compCx X scope cl N fp pins s3 H3 λ _ _=>False) [] (pick js σ) H3 { s3 with heap:=h4,toks:=s3.toks+([]:List (Str×Value)).length }:=by
  refine ⟨okY,rfl,I3.bare,Un.kept up4,⟨_,ns4,λ i x v q1 q2 q3=>?_⟩,λ x c q=>?_,I3.hok.fresh (Nat.le_refl _),λ x c q=>I3.freeC x c (C.sub _ _ q),λ p hp=>?_,I3.hok.kept up4,?_⟩
  ·obtain ⟨j,k1,k2⟩:=pick_get q2
   obtain ⟨z1,z2,z3⟩:=C.seen i j x q1 k1
   obtain ⟨m,hn,hl⟩:=I3.loc
   obtain ⟨u,ru,lk⟩:=hl j x v z1 k2 (.inr (.inl z2))
   refine ⟨u,ru,.inr ⟨z3,?_⟩⟩
   rcases lk with ⟨k,_⟩ | ⟨_,c,ec,oc,hoc,hdc⟩
   ·have k':X.env.scope.names.lookup x=some .local:=k
    rw [z2] at k';cases k'
   ·obtain ⟨c',ec'⟩:=C.has x z3
    have:=C.sub _ _ ec'
    rw [ec] at this
    cases this
    exact ⟨c,ec',oc,up4 _ _ hoc,hdc⟩
  ·obtain ⟨v,oc,hoc,hdc⟩:=I3.cell x c (C.sub _ _ q)
   exact ⟨v,oc,up4 _ _ hoc,hdc⟩
  ·have hp':p∈X.pn++pins:=by simpa using hp
   obtain ⟨q1,q2,q3,q4,q5⟩:=I3.pin p hp'
   refine ⟨up4 _ _ q1,q2,Nat.ne_of_lt (Heap.lt_size q1),λ z=>?_,q5⟩
   rcases List.mem_cons.mp (I3.stkSub _ z) with q | q
   ·exact q3 q
   ·exact q4 q
  ·show (pick js σ).length=N.length
   unfold pick
   rw [List.length_map,C.len]
 have stat : ∀ {H':Hp},(∀ b∈fp,H' b=none) -> ∀ b∈fp,FpOk (compCx X scope cl N fp pins s3 H3 λ _ _=>False) [] H' b:=λ hn b hb =>
  ⟨hn b hb,Nat.ne_of_lt (fpo b hb),fst b hb,.inl hb,λ x c q=>(f2 b hb).2.2.2.2.1 x c (C.sub _ _ q),λ p hp=>(f2 b hb).2.2.2.2.2 p (by simpa using hp)⟩
 have st4:tn 0 h4:=T.keep 0 _ _ st2 λ b hb o q=>up4 b o (up3 b o q)
 have nx : ∀ e s',(compCx X scope cl N fp pins s3 H3 λ _ _=>False).xe e s'->False:=λ _ _ z=>z
 have loop:codeAny (model X.prog X.w) X.A (.compLoop (.ListComp elt [⟨tg,iter,cs,0⟩] scope cpos) 0 (.ref it) (.ref s2.heap.objs.size) (compEnvC scope cl s3.heap.objs.size X.env))
   (compPost (model X.prog X.w) X.A X.xe (some (assign (.Name x0 pos') X.env)) (λ _ s'=>SP X pins D0 .next s') (.ref s2.heap.objs.size) s3.heap.objs.size) { s3 with heap:=h4,toks:=s3.toks+([]:List (Str×Value)).length }:=by
  refine loop_go (λ n s' => ∃ i σ' H' ys,Inv (compCx X scope cl N fp pins s3 H3 λ _ _=>False) [] σ' H' s'/\tn i s'.heap/\(∀ b∈fp,H' b=none)/\W i n σ' H' ys) ?_ m0 ⟨0,_,H3,[],I4,st4,λ b hb=>?_,w0⟩
  ·rintro n s5 ⟨i,σ5,H5,ys,I5,st5,fr5,w5⟩
   obtain ⟨hD5,way⟩:=turn i n σ5 H5 ys w5
   rcases way with ⟨stop,qn⟩ | ⟨go,hz,NN,hN,step⟩
   ·refine noEx nx (thn (T.done (compCx X scope cl N fp pins s3 H3 λ _ _=>False) rfl rfl rfl rfl hc i [] s5 σ5 H5 _ I5 (stat fr5) st5 stop) λ r s6 ⟨hr,I6⟩=>?_)
    subst hr
    obtain ⟨m,hn,_⟩:=I6.loc
    have fC:FpOk X pins H5 s3.heap.objs.size:=I3.fpOk (Nat.le_refl _) I6.free
    have I7:Inv X pins σ H5 s6:=?_
    ·refine wpAny_assign_Name (store_ok2 (v:=.ref s2.heap.objs.size) I7 hN0 hi0 hx0 rfl (λ s8 I8 hsb=>?_) hf0)
     obtain ⟨a8,sb8,h8⟩:=hsb
     obtain ⟨f0,f1,f2',f3,f4,f5⟩:=fC
     have nC:s3.heap.objs.size≠a8:=by
      rcases h8 with z | z
      ·rw [z];exact f1
      ·exact (f4 _ _ z).symm
     refine ⟨m,hn.sameBut sb8 nC,λ h' sb=>⟨_,H5,?_,qn⟩⟩
     exact I8.turned (t':=s8.toks) (λ b o hb e=>(sb.2 b hb).trans e) f0 f1 f3 f4 f5
    have low : ∀ b o,s3.heap.get? b=some o->b≠s3.heap.objs.size:=λ b o q=>Nat.ne_of_lt (Heap.lt_size q)
    have same : ∀ b,b≠s3.heap.objs.size->s6.heap.get? b=s6.heap.get? b:=λ b hb=>rfl
    have B:=I6.base
    refine I3.call' (s':=s6) (H':=H5) (ch:=fp) I6.os ⟨λ b o q n0 h1 h2=>?_,λ b o q n0 h1 h2=>?_,B.free,λ b o q h2=>?_,B.tups,B.frzs,B.tbls⟩ (λ a o q=>?_) I6.bare (λ b hb=>⟨(f2 b hb).2.2.2.1,(f2 b hb).2.1,(f2 b hb).2.2.2.2.1,(f2 b hb).2.2.2.2.2⟩)
    ·exact (same b (low b o q)).trans (B.keep b o q n0 h1 h2)
    ·obtain ⟨sl,z⟩:=B.slot b o q n0 h1 h2
     exact ⟨sl,(same b (low b o q)).trans z⟩
    ·obtain ⟨o',z⟩:=B.there b o q h2
     exact ⟨o',(same b (low b o q)).trans z⟩
    ·have nC : ∀ c u,H5 c=some u->c≠s3.heap.objs.size:=λ c u z y=>by
      have:=I6.free
      rw [y] at z
      rw [show H5 s3.heap.objs.size=none from this] at z
      cases z
     refine (I6.hok a o q).stay (λ c u hc' z=>(same c ?_).trans z) (λ _ z=>z) λ _ _ z=>z
     rcases hc' with z' | z'
     ·rw [z'];exact nC a o q
     ·exact nC c _ z'
   ·refine noEx nx (thn (T.item (compCx X scope cl N fp pins s3 H3 λ _ _=>False) rfl rfl rfl rfl hc i [] s5 σ5 H5 _ I5 (stat fr5) st5 go) λ r s6 ⟨u,hr,h6⟩=>?_)
    subst hr
    refine noEx nx (thn h6 λ _ s7 ⟨x,H7,I7,r7,y7,st7,fr7⟩=>?_)
    have I7':=I7.pinned (stat fr7) (T.obj _ _ st7)
    refine noEx nx (thn (hg fp pins s3 H3 _ s7 σ5 H7 x u _ I7' r7 (step x H7 y7)) λ _ s8 ⟨σ8,H8,I8,q8⟩=>?_)
    refine noEx nx (thn (ht fp pins s3 H3 _ s8 σ8 H8 _ I8 q8) λ k s9 ⟨H9,I9,q9⟩=>?_)
    have fin : ∀ {s':Shared} {σ':St} {H':Hp} {ys':List V},Inv (compCx X scope cl N fp pins s3 H3 λ _ _=>False) ([]++pinsAt fp s7.heap) σ' H' s'->NN σ' H' ys' ->
      ∃ m',m'<n /\ ∃ i σ' H' ys,Inv (compCx X scope cl N fp pins s3 H3 λ _ _=>False) [] σ' H' s'/\tn i s'.heap/\(∀ b∈fp,H' b=none)/\W i m' σ' H' ys:=λ {s' σ' H' ys'} Iv nv=>by
     obtain ⟨m',hm,wv⟩:=hN σ' H' ys' nv
     refine ⟨m',hm,i+1,σ',H',ys',Iv.unpinned,T.keep _ _ _ st7 λ b hb o q=>(Iv.pin (b,o) (List.mem_append_right _ (List.mem_append_right _ (mem_pinsAt hb q)))).1,λ b hb=>?_,wv⟩
     obtain ⟨o,q,_⟩:=T.obj _ _ st7 b hb
     exact (Iv.pin (b,o) (List.mem_append_right _ (List.mem_append_right _ (mem_pinsAt hb q)))).2.1
    cases k with
    | false =>
     rw [if_neg Bool.false_ne_true] at q9 ⊢
     exact fin I9 q9.2
    | true =>
     rw [if_pos rfl] at q9 ⊢
     refine noEx nx (thn (he fp pins s3 H3 _ s9 σ8 H9 _ I9 q9) λ y sA ⟨yv,HA,IA,rA,hDA,qA⟩=>?_)
     refine noEx nx (thn (mt_append _ sA σ8 HA (.ref s2.heap.objs.size) [yv] _ [y] (λ _ HB=>NN σ8 HB (ys++[yv])) IA rfl (.cons rA .nil) ⟨_,ys,yv,rfl,rfl,hDA,hz,qA⟩) λ _ sB ⟨_,HB,IB,_,qB⟩=>?_)
     exact fin IB qB
  ·rw [<-eH,upd_ne]
   ·exact (f2 b hb).1
   ·obtain ⟨o,eo,_⟩:=T.obj 0 _ st2 b hb
    exact Nat.ne_of_lt (Heap.lt_size eo)
 have goal:codeAny (model X.prog X.w) X.A (.compStart (.ListComp elt [⟨tg,iter,cs,0⟩] scope cpos) 0 (.ref it) (.ref s2.heap.objs.size) (compEnvC scope cl s3.heap.objs.size X.env))
   (compPost (model X.prog X.w) X.A X.xe (some (assign (.Name x0 pos') X.env)) (λ _ s'=>SP X pins D0 .next s') (.ref s2.heap.objs.size) s3.heap.objs.size) { s3 with heap:=h4,toks:=s3.toks+([]:List (Str×Value)).length } :=
  codeAny_compStart_list loop (T.self _ 0 _ _ _ st4 loop)
 subst e3
 exact goal
theorem qs_setC {X:Cx} {elt tg iter:Expr} {cs:List Expr} {scope:Scope} {cpos pos pos':Pos} {cl:List (Str×Addr)} {N:List Str} {js:List (Option Nat)} {wi:TI} {g:TG} {tc:TT} {te:TE} {i:Nat} {x0:Str}
  (hN0:X.N.Nodup) (hi0:X.N[i]?=some x0) (hx0:Loc X.env.scope x0)
  (C:CompOk X scope cl N js) (hc:X.warm=true) (hi:QI X tg iter wi)
  (hg : ∀ fp pins s H,QG (compCx X scope cl N fp pins s H λ _ _=>False) tg g)
  (ht : ∀ fp pins s H,QTs (compCx X scope cl N fp pins s H λ _ _=>False) cs tc)
  (he : ∀ fp pins s H,QE (compCx X scope cl N fp pins s H λ _ _=>False) elt te)
  (hsw:swapsWith (.ListComp elt [⟨tg,iter,cs,0⟩] scope cpos) (some (.Name x0 pos')) pos.line X.env=pure true:=by rfl)
  (hs : ∀ x,foldedSetIterable iter X.env x=pure x:=by intro _;rfl) (hf0:X.fn x0=true\/X.env.scope.names.lookup x0=some .local:=by first | exact .inl rfl | exact .inr rfl | assumption):QS X (.Assign [.Name x0 pos'] (.ListComp elt [⟨tg,iter,cs,0⟩] scope cpos) pos) (tAsg (tComp js wi g tc te) (gName i)) :=
 ⟨ps_setC hN0 hi0 hx0 C hc hi.o (λ a b c d=>(hg a b c d).o) (λ a b c d=>(ht a b c d).o) (λ a b c d=>(he a b c d).o) hsw hs hf0⟩
end L2
namespace Z3
open PySem PyProof.Rows Zt
abbrev IsTri (h:Heap) (T:Addr) (a b c:Value):Prop:=h.get? T=some { cls:=.type "tuple", data:=.seq #[a,b,c] }
theorem nn' {n k m:Nat} (h:k≠m):n+k≠n+m:=by omega
theorem nk {n k:Nat} (h:0<k):n≠n+k:=by omega
theorem kn {n k:Nat} (h:0<k):n+k≠n:=by omega
theorem tl {t n k:Nat} (h:t<n):t≠n+k:=by omega
section
variable {prog:Program} {w:World} {A:Around} {E:Value->Shared->Prop} {s:Shared}
theorem upd3 {T:Addr} {a b c x:Value} {k:Nat} {Q:Unit->Shared->Prop} (hT:IsTri s.heap T a b c)
  (h : ∀ h',h'.get? T=some { cls:=.type "tuple", data:=.seq ((#[a,b,c]:Array Value).setIfInBounds k x) }->Heap.SameBut T s.heap h'->Q () { s with heap:=h' }) :
  wpAny (model prog w) A (updateSeq T (·.setIfInBounds k x)) Q E s:=by
 refine wpAny_updateSeq hT rfl (h _ ?_ (Heap.SameBut.update ..))
 rw [Heap.get?_update_self _ hT rfl]
 simp [Obj.mapSeq]
theorem zip_item {n t1 t2 t3:Addr} {k:Nat} {xs ys zs:Array Value} {x y v a b c:Value} {Q:Value->Shared->Prop} (L1:t1<n) (L2:t2<n) (L3:t3<n)
  (zz:IsZip s.heap (n+5) (n+3) (n+4) .none) (zI:IsTri s.heap (n+3) (.ref n) (.ref (n+1)) (.ref (n+2))) (zO:IsTri s.heap (n+4) a b c)
  (i1:s.heap.IsTupleIter n t1 k) (i2:s.heap.IsTupleIter (n+1) t2 k) (i3:s.heap.IsTupleIter (n+2) t3 k) (l1:s.heap.IsTuple t1 xs) (l2:s.heap.IsTuple t2 ys) (l3:s.heap.IsTuple t3 zs) (ex:xs[k]?=some x) (ey:ys[k]?=some y) (ez:zs[k]?=some v)
  (q : ∀ g,IsZip g (n+5) (n+3) (n+4) (rawInt s.heap.objs.size)->IsTri g (n+4) x y v->g.IsTupleIter n t1 (k+1)->g.IsTupleIter (n+1) t2 (k+1)->g.IsTupleIter (n+2) t3 (k+1)->IsTri g s.heap.objs.size x y v ->
   (∀ c o,c≠n+5->c≠n+4->c≠n->c≠n+1->c≠n+2->s.heap.get? c=some o->g.get? c=some o)->Q (.ref s.heap.objs.size) { s with heap:=g }) :
  wpAny (model prog w) A (Builtin.«zip.__next__» ⟨[.ref (n+5)],[]⟩) (λ fin s' => ∃ v,fin=.done (.ret v)/\Q v s') E s:=by
 show wpAny _ _ (field (.ref (n+5)) 2>>=_) _ _ _
 refine wpAny_bind (wpAny_field zz rfl (x:=.bool false) rfl ?_)
 show wpAny _ _ (field (.ref (n+5)) 3>>=_) _ _ _
 refine wpAny_bind (wpAny_field zz rfl (x:=.ref (n+3)) rfl (wpAny_bind (wpAny_seqItems zI rfl ?_)))
 show wpAny _ _ (Builtin.SmallTypes.ownedTupleIsFree (.ref (n+5))>>=_) _ _ _
 refine wpAny_bind ?_
 unfold Builtin.SmallTypes.ownedTupleIsFree
 refine wpAny_bind (wpAny_field zz rfl (x:=.none) rfl (wpAny_pure ?_))
 simp only [if_true]
 refine wpAny_bind (wpAny_rule (wpAny_bind (wpAny_field zz rfl (x:=.ref (n+4)) rfl (wpAny_bind (wpAny_setField_rec zz (by simp) λ g1 zz1 s1=>?_)))))
 replace zz1:IsZip g1 (n+5) (n+3) (n+4) .ellipsis:=zz1
 refine wpAny_bind ?_
 simp only [List.zipIdx_cons,List.zipIdx_nil,List.forIn_cons,List.forIn_nil]
 refine wpAny_bind (wpAny_bind (wpAny_onRaise ?_))
 show wpAny _ _ (Builtin.SmallTypes.nextOf (.ref n)>>=_) _ _ _
 refine wpAny_bind (pull (i1.extBut s1.extBut (nk (by decide))) (l1.extBut s1.extBut (tl L1)) ex λ g2 i1' s2=>wpAny_pure ?_)
 have zO2:IsTri g2 (n+4) a b c:=s2.extBut _ _ (kn (by decide)) (s1.extBut _ _ (nn' (by decide)) zO)
 refine wpAny_bind (wpAny_seqItems zO2 rfl (wpAny_bind (upd3 zO2 λ g3 zO3 s3=>?_)))
 replace zO3:IsTri g3 (n+4) x b c:=zO3
 refine wpAny_bind (wpAny_letGo (wpAny_pure (wpAny_bind (wpAny_bind (wpAny_onRaise ?_)))))
 show wpAny _ _ (Builtin.SmallTypes.nextOf (.ref (n+1))>>=_) _ _ _
 have i2':=((i2.extBut s1.extBut (nn' (by decide))).extBut s2.extBut (kn (by decide))).extBut s3.extBut (nn' (by decide))
 have l2':=((l2.extBut s1.extBut (tl L2)).extBut s2.extBut (Nat.ne_of_lt L2)).extBut s3.extBut (tl L2)
 refine wpAny_bind (pull i2' l2' ey λ g4 i2'' s4=>wpAny_pure ?_)
 have zO4:IsTri g4 (n+4) x b c:=s4.extBut _ _ (nn' (by decide)) zO3
 refine wpAny_bind (wpAny_seqItems zO4 rfl (wpAny_bind (upd3 zO4 λ g5 zO5 s5=>?_)))
 replace zO5:IsTri g5 (n+4) x y c:=zO5
 refine wpAny_bind (wpAny_letGo (wpAny_pure (wpAny_bind (wpAny_bind (wpAny_onRaise ?_)))))
 show wpAny _ _ (Builtin.SmallTypes.nextOf (.ref (n+2))>>=_) _ _ _
 have i3':=((((i3.extBut s1.extBut (nn' (by decide))).extBut s2.extBut (kn (by decide))).extBut s3.extBut (nn' (by decide))).extBut s4.extBut (nn' (by decide))).extBut s5.extBut (nn' (by decide))
 have l3':=((((l3.extBut s1.extBut (tl L3)).extBut s2.extBut (Nat.ne_of_lt L3)).extBut s3.extBut (tl L3)).extBut s4.extBut (tl L3)).extBut s5.extBut (tl L3)
 refine wpAny_bind (pull i3' l3' ez λ g6 i3'' s6=>wpAny_pure ?_)
 have zO6:IsTri g6 (n+4) x y c:=s6.extBut _ _ (nn' (by decide)) zO5
 refine wpAny_bind (wpAny_seqItems zO6 rfl (wpAny_bind (upd3 zO6 λ g7 zO7 s7=>?_)))
 replace zO7:IsTri g7 (n+4) x y v:=zO7
 refine wpAny_bind (wpAny_letGo (wpAny_pure (wpAny_pure (wpAny_bind (wpAny_seqItems zO7 rfl (wpAny_bind (wpAny_newTuple ?_)))))))
 have sz:g7.objs.size=s.heap.objs.size:=by rw [s7.1,s6.1,s5.1,s4.1,s3.1,s2.1,s1.1]
 have zz7:IsZip g7 (n+5) (n+3) (n+4) .ellipsis:=s7.extBut _ _ (nn' (by decide)) (s6.extBut _ _ (nn' (by decide)) (s5.extBut _ _ (nn' (by decide)) (s4.extBut _ _ (nn' (by decide)) (s3.extBut _ _ (nn' (by decide)) (s2.extBut _ _ (kn (by decide)) zz1)))))
 have up7 : ∀ c o,c≠n+5->c≠n+4->c≠n->c≠n+1->c≠n+2->s.heap.get? c=some o->g7.get? c=some o:=λ c o e5 e4 e0 e1 e2 q' =>
  s7.extBut _ _ e4 (s6.extBut _ _ e2 (s5.extBut _ _ e4 (s4.extBut _ _ e1 (s3.extBut _ _ e4 (s2.extBut _ _ e0 (s1.extBut _ _ e5 q'))))))
 have j17:g7.IsTupleIter n t1 (k+1):=((((i1'.extBut s3.extBut (nk (by decide))).extBut s4.extBut (nk (by decide))).extBut s5.extBut (nk (by decide))).extBut s6.extBut (nk (by decide))).extBut s7.extBut (nk (by decide))
 have j27:g7.IsTupleIter (n+1) t2 (k+1):=((i2''.extBut s5.extBut (nn' (by decide))).extBut s6.extBut (nn' (by decide))).extBut s7.extBut (nn' (by decide))
 have j37:g7.IsTupleIter (n+2) t3 (k+1):=i3''.extBut s7.extBut (nn' (by decide))
 have zlt:n+5<g7.objs.size:=Heap.lt_size zz7
 show wpAny _ _ (Builtin.SmallTypes.ownedTupleHandOut (.ref (n+5)) (.ref g7.objs.size)>>=_) _ _ _
 refine wpAny_bind ?_
 unfold Builtin.SmallTypes.ownedTupleHandOut
 have zz8:IsZip (g7.push { cls:=.type "tuple", data:=.seq #[x,y,v] }) (n+5) (n+3) (n+4) .ellipsis:=Heap.get?_push_of_some _ zz7
 refine wpAny_bind (wpAny_setField_rec zz8 (by simp) λ g9 zz9 s9=>?_)
 replace zz9:IsZip g9 (n+5) (n+3) (n+4) (rawInt g7.objs.size):=zz9
 refine wpAny_setField_rec zz9 (by simp) λ gA zzA sA=>?_
 replace zzA:IsZip gA (n+5) (n+3) (n+4) (rawInt g7.objs.size):=zzA
 have upA : ∀ c o,c≠n+5->g7.get? c=some o->gA.get? c=some o:=λ c o n1 q'=>sA.extBut _ _ n1 (s9.extBut _ _ n1 (Heap.get?_push_of_some _ q'))
 have newA:IsTri gA g7.objs.size x y v:=sA.extBut _ _ (Nat.ne_of_gt zlt) (s9.extBut _ _ (Nat.ne_of_gt zlt) (Heap.get?_push_size _ rfl))
 rw [sz] at zzA newA
 refine wpAny_pure ⟨_,rfl,?_⟩
 show Q (.ref g7.objs.size) _
 rw [sz]
 refine q gA zzA (upA _ _ (nn' (by decide)) zO7) ?_ ?_ ?_ newA λ c o e5 e4 e0 e1 e2 q'=>upA c o e5 (up7 c o e5 e4 e0 e1 e2 q')
 ·obtain ⟨o,e,r⟩:=j17
  exact ⟨o,upA _ _ (nk (by decide)) e,r⟩
 ·obtain ⟨o,e,r⟩:=j27
  exact ⟨o,upA _ _ (nn' (by decide)) e,r⟩
 ·obtain ⟨o,e,r⟩:=j37
  exact ⟨o,upA _ _ (nn' (by decide)) e,r⟩
theorem zip_stop {n t1:Addr} {k:Nat} {xs:Array Value} {a b c:Value} {Q:Fin->Shared->Prop} (hd:Hd.In A s.heap) (L1:t1<n)
  (zz:IsZip s.heap (n+5) (n+3) (n+4) .none) (zI:IsTri s.heap (n+3) (.ref n) (.ref (n+1)) (.ref (n+2)))
  (i1:s.heap.IsTupleIter n t1 k) (l1:s.heap.IsTuple t1 xs) (ex:xs[k]?=none)
  (q : ∀ g e,(∀ c o,c≠n+5->c≠n+4->c≠n->c≠n+1->c≠n+2->s.heap.get? c=some o->g.get? c=some o)->(∃ o,g.get? e=some o/\o.cls=.type "StopIteration")->E (.ref e) { s with heap:=g }) :
  wpAny (model prog w) A (Builtin.«zip.__next__» ⟨[.ref (n+5)],[]⟩) Q E s:=by
 show wpAny _ _ (field (.ref (n+5)) 2>>=_) _ _ _
 refine wpAny_bind (wpAny_field zz rfl (x:=.bool false) rfl ?_)
 show wpAny _ _ (field (.ref (n+5)) 3>>=_) _ _ _
 refine wpAny_bind (wpAny_field zz rfl (x:=.ref (n+3)) rfl (wpAny_bind (wpAny_seqItems zI rfl ?_)))
 show wpAny _ _ (Builtin.SmallTypes.ownedTupleIsFree (.ref (n+5))>>=_) _ _ _
 refine wpAny_bind ?_
 unfold Builtin.SmallTypes.ownedTupleIsFree
 refine wpAny_bind (wpAny_field zz rfl (x:=.none) rfl (wpAny_pure ?_))
 simp only [if_true]
 refine wpAny_bind (wpAny_rule (wpAny_bind (wpAny_field zz rfl (x:=.ref (n+4)) rfl (wpAny_bind (wpAny_setField_rec zz (by simp) λ g1 zz1 s1=>?_)))))
 replace zz1:IsZip g1 (n+5) (n+3) (n+4) .ellipsis:=zz1
 refine wpAny_bind ?_
 simp only [List.zipIdx_cons,List.zipIdx_nil,List.forIn_cons,List.forIn_nil]
 refine wpAny_bind (wpAny_bind (wpAny_onRaise ?_))
 show wpAny _ _ (Builtin.SmallTypes.nextOf (.ref n)>>=_) _ _ _
 have hd1:Hd.In A g1:=hd.but zz (λ vs e=>by injection e with e;subst e;exact λ z=>nomatch z) s1.extBut
 refine wpAny_bind (pull_end hd1 (i1.extBut s1.extBut (nk (by decide))) (l1.extBut s1.extBut (tl L1)) ex λ g2 e s2 ⟨oe,goe,coe⟩=>?_)
 have zz2:IsZip g2 (n+5) (n+3) (n+4) .ellipsis:=s2 _ _ (kn (by decide)) zz1
 have nez:e≠n+5:=λ y=>by
  subst y
  rw [zz2] at goe
  cases goe
  simp at coe
 exact wpAny_setField_rec zz2 (by simp) λ g3 _ s3=>q g3 e (λ c o n1 _ n3 _ _ y=>s3.extBut _ _ n1 (s2 _ _ n3 (s1.extBut _ _ n1 y))) ⟨oe,s3.extBut _ _ nez goe,coe⟩
theorem next_item {n t1 t2 t3:Addr} {k:Nat} {xs ys zs:Array Value} {x y v a b c:Value} {Q:Option Value->Shared->Prop} (L1:t1<n) (L2:t2<n) (L3:t3<n)
  (zz:IsZip s.heap (n+5) (n+3) (n+4) .none) (zI:IsTri s.heap (n+3) (.ref n) (.ref (n+1)) (.ref (n+2))) (zO:IsTri s.heap (n+4) a b c)
  (i1:s.heap.IsTupleIter n t1 k) (i2:s.heap.IsTupleIter (n+1) t2 k) (i3:s.heap.IsTupleIter (n+2) t3 k) (l1:s.heap.IsTuple t1 xs) (l2:s.heap.IsTuple t2 ys) (l3:s.heap.IsTuple t3 zs) (ex:xs[k]?=some x) (ey:ys[k]?=some y) (ez:zs[k]?=some v)
  (q : ∀ g,IsZip g (n+5) (n+3) (n+4) (rawInt s.heap.objs.size)->IsTri g (n+4) x y v->g.IsTupleIter n t1 (k+1)->g.IsTupleIter (n+1) t2 (k+1)->g.IsTupleIter (n+2) t3 (k+1)->IsTri g s.heap.objs.size x y v ->
   (∀ c o,c≠n+5->c≠n+4->c≠n->c≠n+1->c≠n+2->s.heap.get? c=some o->g.get? c=some o)->Q (some (.ref s.heap.objs.size)) { s with heap:=g }):wpAny (model prog w) A (pyNext (.ref (n+5))) Q E s:=by
 have ty:s.TypeIs (.ref (n+5)) "zip" := ⟨_,zz,rfl⟩
 unfold pyNext
 refine wpAny_bind (wpAny_attempt (wpAny_callSpecial?_slot (name:=Str.ofString "__next__") ty F.slot_zip_next (wpAny_call_entry F.slot_zip_next ty F.entry_zip_next ?_ (F.args_zip_next_1 _))))
 exact zip_item L1 L2 L3 zz zI zO i1 i2 i3 l1 l2 l3 ex ey ez λ g b1 b2 b3 b4 b5 b6 b7=>wpAny_pure (q g b1 b2 b3 b4 b5 b6 b7)
theorem next_stop {n t1:Addr} {k:Nat} {xs:Array Value} {a b c:Value} {Q:Option Value->Shared->Prop} (hd:Hd.In A s.heap) (L1:t1<n)
  (zz:IsZip s.heap (n+5) (n+3) (n+4) .none) (zI:IsTri s.heap (n+3) (.ref n) (.ref (n+1)) (.ref (n+2)))
  (i1:s.heap.IsTupleIter n t1 k) (l1:s.heap.IsTuple t1 xs) (ex:xs[k]?=none)
  (q : ∀ g,(∀ c o,c≠n+5->c≠n+4->c≠n->c≠n+1->c≠n+2->s.heap.get? c=some o->g.get? c=some o)->Q none { s with heap:=g }):wpAny (model prog w) A (pyNext (.ref (n+5))) Q E s:=by
 have ty:s.TypeIs (.ref (n+5)) "zip" := ⟨_,zz,rfl⟩
 unfold pyNext
 refine wpAny_bind (wpAny_attempt (wpAny_callSpecial?_slot (name:=Str.ofString "__next__") ty F.slot_zip_next (wpAny_call_entry F.slot_zip_next ty F.entry_zip_next ?_ (F.args_zip_next_1 _))))
 refine zip_stop (a:=a) (b:=b) (c:=c) hd L1 zz zI i1 l1 ex λ g e up ⟨oe,goe,coe⟩=>?_
 exact wpAny_bind (wpAny_isInstance (T := "StopIteration") (b:=true) ⟨oe,goe,coe⟩ isSubtype_stop (wpAny_pure (q _ up)))
end
theorem typeCall_zip_3 (a b c:Value):checkTypeCall "zip" ⟨[a,b,c],[]⟩=pure ():=by kernel_rfl
theorem newCall_zip_3 (a b c:Value):checkBuiltinCall "zip.__new__" ⟨[.type "zip", a,b,c],[]⟩=pure ():=by kernel_rfl
theorem args_object_init_4 (a b c d:Value):argsOk "object.__init__" ⟨[a,b,c,d],[]⟩:=by
 unfold argsOk;rw [signature?_of (id := "object.__init__") (n:=['_','_','t','i','n','i','_','_']) (o:=['t','c','e','j','b','o']) (by kernel_rfl) F.owner_object];kernel_rfl
abbrev it1 (h:Heap) (t:Addr):Heap:=h.push { cls:=.type "tuple_iterator", data:=.fields #[.ref t,.int 0 0] }
abbrev mk3 (h:Heap) (t1 t2 t3:Addr):Heap:=it1 (it1 (it1 h t1) t2) t3
abbrev mk4 (h:Heap) (t1 t2 t3:Addr):Heap:=(mk3 h t1 t2 t3).push { cls:=.type "tuple", data:=.seq #[.ref h.objs.size,.ref (it1 h t1).objs.size,.ref (it1 (it1 h t1) t2).objs.size] }
abbrev mk5 (h:Heap) (t1 t2 t3:Addr):Heap:=(mk4 h t1 t2 t3).push { cls:=.type "tuple", data:=.seq #[.none,.none,.none] }
abbrev mk6 (h:Heap) (t1 t2 t3:Addr):Heap:=(mk5 h t1 t2 t3).push { cls:=.type "zip", data:=.fields #[.none,.bool false,.bool false,.ref (mk3 h t1 t2 t3).objs.size,.ref (mk4 h t1 t2 t3).objs.size] }
theorem meets_new (t1 t2 t3:Addr) (xs ys zs:Array Value):Meets (Builtin.«zip.__new__» ⟨[.type "zip", .ref t1,.ref t2,.ref t3],[]⟩) (λ _ R s=>s.heap.IsTuple t1 xs/\s.heap.IsTuple t2 ys/\s.heap.IsTuple t3 zs/\R (.ok (.ret (.ref (mk5 s.heap t1 t2 t3).objs.size))) { s with heap:=mk6 s.heap t1 t2 t3 }) :=
 .of_wp λ prog w A R s h=>by
  obtain ⟨hh,gg,dd,tt,oo⟩:=s
  obtain ⟨a1,a2,a3,h⟩:=h
  have sub:=sub_zip
  have b1:Heap.IsTuple (Shared.heap ⟨hh,gg,dd,tt,oo⟩) t1 xs:=a1
  have b2:Heap.IsTuple (Shared.heap ⟨it1 hh t1,gg,dd,tt,oo⟩) t2 ys:=Heap.IsTuple.push a2 _
  have b3:Heap.IsTuple (Shared.heap ⟨it1 (it1 hh t1) t2,gg,dd,tt,oo⟩) t3 zs:=Heap.IsTuple.push (Heap.IsTuple.push a3 _) _
  wp_walk using wpAny_pyIter_tuple b1,wpAny_pyIter_tuple b2,wpAny_pyIter_tuple b3
  exact ⟨_,rfl,h⟩
section
variable {prog:Program} {w:World} {A:Around} {E:Value->Shared->Prop} {s:Shared}
theorem make {t1 t2 t3:Addr} {xs ys zs:Array Value} {Q:Value->Shared->Prop} (a1:s.heap.IsTuple t1 xs) (a2:s.heap.IsTuple t2 ys) (a3:s.heap.IsTuple t3 zs)
  (q : ∀ g,IsZip g (s.heap.objs.size+5) (s.heap.objs.size+3) (s.heap.objs.size+4) .none->IsTri g (s.heap.objs.size+3) (.ref s.heap.objs.size) (.ref (s.heap.objs.size+1)) (.ref (s.heap.objs.size+2))->IsTri g (s.heap.objs.size+4) .none .none .none ->
   g.IsTupleIter s.heap.objs.size t1 0->g.IsTupleIter (s.heap.objs.size+1) t2 0->g.IsTupleIter (s.heap.objs.size+2) t3 0->(∀ c o,s.heap.get? c=some o->g.get? c=some o)->Q (.ref (s.heap.objs.size+5)) { s with heap:=g }) :
  wpAny (model prog w) A (call (.type "zip") [.ref t1,.ref t2,.ref t3]) Q E s:=by
 refine callType_new F.called_zip (by decide) (typeCall_zip_3 _ _ _) (newCall_zip_3 _ _ _) (λ obj=>args_object_init_4 obj _ _ _) F.entry_zip_new (meets_new t1 t2 t3 xs ys zs) ⟨a1,a2,a3,?_⟩
 have n1:(it1 s.heap t1).objs.size=s.heap.objs.size+1:=Heap.size_push ..
 have n2:(it1 (it1 s.heap t1) t2).objs.size=s.heap.objs.size+2:=by rw [Heap.size_push,n1]
 have n3:(mk3 s.heap t1 t2 t3).objs.size=s.heap.objs.size+3:=by rw [Heap.size_push,n2]
 have n4:(mk4 s.heap t1 t2 t3).objs.size=s.heap.objs.size+4:=by rw [Heap.size_push,n3]
 have n5:(mk5 s.heap t1 t2 t3).objs.size=s.heap.objs.size+5:=by rw [Heap.size_push,n4]
 have p6:(mk6 s.heap t1 t2 t3).get? (mk5 s.heap t1 t2 t3).objs.size=some _:=Heap.get?_push_size _ rfl
 have p5:(mk6 s.heap t1 t2 t3).get? (mk4 s.heap t1 t2 t3).objs.size=some _:=Heap.get?_push_of_some _ (Heap.get?_push_size _ rfl)
 have p4:(mk6 s.heap t1 t2 t3).get? (mk3 s.heap t1 t2 t3).objs.size=some _:=Heap.get?_push_of_some _ (Heap.get?_push_of_some _ (Heap.get?_push_size _ rfl))
 have p3:(mk6 s.heap t1 t2 t3).get? (it1 (it1 s.heap t1) t2).objs.size=some _:=Heap.get?_push_of_some _ (Heap.get?_push_of_some _ (Heap.get?_push_of_some _ (Heap.get?_push_size _ rfl)))
 have p2:(mk6 s.heap t1 t2 t3).get? (it1 s.heap t1).objs.size=some _:=Heap.get?_push_of_some _ (Heap.get?_push_of_some _ (Heap.get?_push_of_some _ (Heap.get?_push_of_some _ (Heap.get?_push_size _ rfl))))
 have p1:(mk6 s.heap t1 t2 t3).get? s.heap.objs.size=some _:=Heap.get?_push_of_some _ (Heap.get?_push_of_some _ (Heap.get?_push_of_some _ (Heap.get?_push_of_some _ (Heap.get?_push_of_some _ (Heap.get?_push_size _ rfl)))))
 show _/\_
 rw [n3,n4,n5] at p6
 rw [n1,n2,n3] at p4
 rw [n4] at p5
 rw [n2] at p3
 rw [n1] at p2
 rw [n5]
 exact ⟨⟨_,p6,rfl⟩,q _ p6 p4 p5 ⟨_,p1,rfl,rfl⟩ ⟨_,p2,rfl,rfl⟩ ⟨_,p3,rfl,rfl⟩ λ c o y=>Heap.get?_push_of_some _ (Heap.get?_push_of_some _ (Heap.get?_push_of_some _ (Heap.get?_push_of_some _ (Heap.get?_push_of_some _ (Heap.get?_push_of_some _ y)))))⟩
end
end Z3
namespace L2
open PySem PySem.Spec PyProof.Rows Z3
def It3 (K:PySem.W.Frag) (a b c:Addr):It :=
 ⟨λ i H => ∃ xs ys zs x y v,SqT K H a xs/\SqT K H b ys/\SqT K H c zs/\xs[i]?=some x/\ys[i]?=some y/\zs[i]?=some v,
 λ i H w H' => ∃ p,H p=none/\w=.ref p /\ ∃ x y v,H'=upd H p (.tup [x,y,v]) /\ ∀ xs ys zs,SqT K H a xs->SqT K H b ys->SqT K H c zs->xs[i]?=some x/\ys[i]?=some y/\zs[i]?=some v,
 λ i H => ∃ xs,SqT K H a xs/\xs.length<=i⟩
theorem turn_zip3 {cm:Bool} {P:Program} {w:World} {K:PySem.W.Frag} {tg:Expr} (htg:tupleTg tg=true) {n a b c:Addr} (L1:a<n) (L2:b<n) (L3:c<n) :
  Turn P w K cm tg (It3 K a b c) [n+5,n+4,n,n+1,n+2,n+3] (n+5) (λ i h=>IsZip h (n+5) (n+3) (n+4) .none/\IsTri h (n+3) (.ref n) (.ref (n+1)) (.ref (n+2))/\(∃ u v w,IsTri h (n+4) u v w)/\h.IsTupleIter n a i/\h.IsTupleIter (n+1) b i/\h.IsTupleIter (n+2) c i) where
 mem:=List.mem_cons_self
 obj:=λ i h st c' hc=>by
  obtain ⟨h1,h2,⟨u,v,w',h3⟩,⟨o4,h4,_,d4⟩,⟨o5,h5,_,d5⟩,⟨o6,h6,_,d6⟩⟩:=st
  have nof : ∀ {o:Obj} {vs:Array Value},o.data=.fields vs -> ∀ v,o.data≠.cell v:=λ e v q=>by rw [e] at q;cases q
  have nos : ∀ {o:Obj} {vs:Array Value} {n:Nat},o.data=.seq vs n -> ∀ v,o.data≠.cell v:=λ e v q=>by rw [e] at q;cases q
  simp only [List.mem_cons,List.not_mem_nil,or_false] at hc
  rcases hc with rfl | rfl | rfl | rfl | rfl | rfl
  ·exact ⟨_,h1,nof rfl⟩
  ·exact ⟨_,h3,nos rfl⟩
  ·exact ⟨_,h4,nof d4⟩
  ·exact ⟨_,h5,nof d5⟩
  ·exact ⟨_,h6,nof d6⟩
  ·exact ⟨_,h2,nos rfl⟩
 keep:=λ i h h' st k=>by
  obtain ⟨h1,h2,⟨u,v,w',h3⟩,⟨o4,h4,r4⟩,⟨o5,h5,r5⟩,⟨o6,h6,r6⟩⟩:=st
  exact ⟨k _ (by simp) _ h1,k _ (by simp) _ h2,⟨u,v,w',k _ (by simp) _ h3⟩,⟨o4,k _ (by simp) _ h4,r4⟩,⟨o5,k _ (by simp) _ h5,r5⟩,⟨o6,k _ (by simp) _ h6,r6⟩⟩
 item:=by
  intro X hP hw hK hkc hc i pins s σ H E I hf st hg
  subst hP hw hK
  obtain ⟨h1,h2,⟨u,v,w',h3⟩,h4,h5,h6⟩:=st
  obtain ⟨xs,ys,zs,x,y,z,qa,qb,qc,hx,hy,hz⟩:=hg
  obtain ⟨its,rv,pa,_⟩:=I.tuple qa
  obtain ⟨jts,rw',pb,_⟩:=I.tuple qb
  obtain ⟨kts,rz',pc,_⟩:=I.tuple qc
  obtain ⟨ux,eux,rux⟩:=rv.get hx
  obtain ⟨uy,euy,ruy⟩:=rw'.get hy
  obtain ⟨uz,euz,ruz⟩:=rz'.get hz
  refine Z3.next_item L1 L2 L3 h1 h2 h3 h4 h5 h6 (show s.heap.IsTuple a its.toArray from pa) (show s.heap.IsTuple b jts.toArray from pb) (show s.heap.IsTuple c kts.toArray from pc) (x:=ux) (y:=uy) (v:=uz) (by simpa using eux) (by simpa using euy) (by simpa using euz) λ g b1 b2 b3 b4 b5 b6 b7=>?_
  refine ⟨_,rfl,?_⟩
  have zlt:n+5<s.heap.objs.size:=Heap.lt_size h1
  cases tg with
  | Tuple es kk pp =>
   refine wpAny_letOwnedTupleGo_zip b1 λ g' c1 sb=>?_
   have new:IsTri g' s.heap.objs.size ux uy uz:=sb.extBut _ _ (Nat.ne_of_gt zlt) b6
   have I1:Inv X pins σ (upd H s.heap.objs.size (.tup [x,y,z])) { s with heap:=g' }:=by
    refine I.turnedNew (t':=s.toks) (L:=[n+5,n+4,n,n+1,n+2,n+3]) (λ c o hcn e=>?_) hf (Nat.le_refl _) ⟨by show 3<=sizeLine;decide,[ux,uy,uz],.cons rux (.cons ruy (.cons ruz .nil)),⟨_,new,rfl,⟨0,rfl⟩,rfl⟩⟩
    simp only [List.mem_cons,List.not_mem_nil,or_false,not_or] at hcn
    exact sb.extBut c o hcn.1 (b7 c o hcn.1 hcn.2.1 hcn.2.2.1 hcn.2.2.2.1 hcn.2.2.2.2.1 e)
   have h2':IsTri g' (n+3) (.ref n) (.ref (n+1)) (.ref (n+2)):=sb.extBut _ _ (nn' (by decide)) (b7 _ _ (nn' (by decide)) (nn' (by decide)) (kn (by decide)) (nn' (by decide)) (nn' (by decide)) h2)
   refine ⟨.ref s.heap.objs.size,_,I1,rfl,⟨_,I.fresh,rfl,x,y,z,rfl,λ xs' ys' zs' q1 q2 q3=>⟨by rw [I.tuple_inj q1 qa];exact hx,by rw [I.tuple_inj q2 qb];exact hy,by rw [I.tuple_inj q3 qc];exact hz⟩⟩,⟨c1,h2',⟨_,_,_,sb.extBut _ _ (nn' (by decide)) b2⟩,b3.extBut sb.extBut (nk (by decide)),b4.extBut sb.extBut (nn' (by decide)),b5.extBut sb.extBut (nn' (by decide))⟩,λ c hcm=>?_⟩
   obtain ⟨o,eo,_⟩ : ∃ o,s.heap.get? c=some o/\True:=by
    simp only [List.mem_cons,List.not_mem_nil,or_false] at hcm
    rcases hcm with rfl | rfl | rfl | rfl | rfl | rfl
    ·exact ⟨_,h1,trivial⟩
    ·exact ⟨_,h3,trivial⟩
    ·obtain ⟨o4,g4,_⟩:=h4
     exact ⟨_,g4,trivial⟩
    ·obtain ⟨o5,g5,_⟩:=h5
     exact ⟨_,g5,trivial⟩
    ·obtain ⟨o6,g6,_⟩:=h6
     exact ⟨_,g6,trivial⟩
    ·exact ⟨_,h2,trivial⟩
   rw [upd_ne (Nat.ne_of_lt (Heap.lt_size eo))]
   exact (hf c hcm).1
  | _=>exact absurd (show false=true from htg) Bool.false_ne_true
 done:=by
  intro X hP hw hK hkc hc i pins s σ H E I hf st hg
  subst hP hw hK
  obtain ⟨h1,h2,⟨u,v,w',h3⟩,h4,h5,h6⟩:=st
  obtain ⟨xs,qa,hl⟩:=hg
  obtain ⟨its,rv,pa,_⟩:=I.tuple qa
  have e1:=rv.length
  refine Z3.next_stop (a:=.none) (b:=.none) (c:=.none) (I.hin hc) L1 h1 h2 h4 (show s.heap.IsTuple a its.toArray from pa) (by simp;omega) λ g up=>⟨rfl,?_⟩
  refine I.turnedL (t':=s.toks) (L:=[n+5,n+4,n,n+1,n+2,n+3]) (λ c o hcn e=>?_) hf
  simp only [List.mem_cons,List.not_mem_nil,or_false,not_or] at hcn
  exact up c o hcn.1 hcn.2.1 hcn.2.2.1 hcn.2.2.2.1 hcn.2.2.2.2.1 e
 self:=λ _ _ _ _ _ st h=>wpAny_pyIter_zip st.1 h
section
variable {X:Cx} {tg:Expr}
theorem vals3 {x y z:V} {us:List Value} (h:Vals [x,y,z] us) : ∃ u v w,us=[u,v,w]/\RelV x u/\RelV y v/\RelV z w:=by
 cases h with
 | cons h1 h =>
  cases h with
  | cons h2 h =>
   cases h with
   | cons h3 h =>
    cases h
    exact ⟨_,_,_,rfl,h1,h2,h3⟩
def iZip3 (K:PySem.W.Frag) (ta:TA):TI:=λ σ H R=>ta σ H λ vs H1 => ∃ a b c,vs=[.ref a,.ref b,.ref c]/\(∃ xs,SqT K H1 a xs)/\(∃ ys,SqT K H1 b ys)/\(∃ zs,SqT K H1 c zs)/\R (It3 K a b c) H1
theorem qi_zip3 {e1 e2 e3:Expr} {ta:TA} {p pos:Pos} (htg:tupleTg tg=true) (hg:Gl X "zip") (hm:X.mg "zip" = none) (ha:QA X [e1,e2,e3] ta) (hs:starEach [e1,e2,e3] X.env=[(false,eval e1 X.env),(false,eval e2 X.env),(false,eval e3 X.env)]:=by rfl) (hs2:starEach [e2,e3] X.env=[(false,eval e2 X.env),(false,eval e3 X.env)]:=by rfl)
  (hb:bootBuiltins "zip" = some (.type "zip"):=by decide +kernel):QI X tg (.Call (.Name "zip" p) [e1,e2,e3] [] pos) (iZip3 X.K ta):=⟨by
 intro pins s σ H R I h
 refine Call_ (ld_blt I hg hm hb (PyProof.Rows.callWith_type1 (thn (ha.o pos pins s σ H _ I h) λ us s1 ⟨vs,H1,I1,r1,q1⟩=>?_) (by rw [hs,hs2]) (by rw [hs2];rfl)))
 obtain ⟨a,b,c,e,⟨xs,qa⟩,⟨ys,qb⟩,⟨zs,qc⟩,q⟩:=q1
 subst e
 obtain ⟨u1,u2,u3,rfl,ra,rb,rc⟩:=vals3 r1
 cases ra
 cases rb
 cases rc
 obtain ⟨its,rv,pa,_⟩:=I1.tuple qa
 obtain ⟨jts,rw',pb,_⟩:=I1.tuple qb
 obtain ⟨kts,rz',pc,_⟩:=I1.tuple qc
 have la:a<s1.heap.objs.size:=by obtain ⟨o,e,_⟩:=pa;exact Heap.lt_size e
 have lb:b<s1.heap.objs.size:=by obtain ⟨o,e,_⟩:=pb;exact Heap.lt_size e
 have lc:c<s1.heap.objs.size:=by obtain ⟨o,e,_⟩:=pc;exact Heap.lt_size e
 refine Z3.make (show s1.heap.IsTuple a its.toArray from pa) (show s1.heap.IsTuple b jts.toArray from pb) (show s1.heap.IsTuple c kts.toArray from pc) λ g z1 z2 z3 z4 z5 z6 up=>?_
 refine wpAny_pyIter_zip z1 ?_
 have I2:Inv X pins σ H1 { s1 with heap:=g }:=I1.kept (t':=s1.toks) up
 refine ⟨_,[s1.heap.objs.size+5,s1.heap.objs.size+4,s1.heap.objs.size,s1.heap.objs.size+1,s1.heap.objs.size+2,s1.heap.objs.size+3],_,_,H1,rfl,I2,turn_zip3 htg la lb lc,⟨z1,z2,⟨_,_,_,z3⟩,z4,z5,z6⟩,λ c hc=>?_,q⟩
 have big:s1.heap.objs.size<=c:=by
  simp only [List.mem_cons,List.not_mem_nil,or_false] at hc
  rcases hc with rfl | rfl | rfl | rfl | rfl | rfl
  ·exact Nat.le_add_right _ _
  ·exact Nat.le_add_right _ _
  ·exact Nat.le_refl _
  ·exact Nat.le_add_right _ _
  ·exact Nat.le_add_right _ _
  ·exact Nat.le_add_right _ _
 exact I1.fpOk big (I1.hok.fresh big)⟩
end
theorem for_zip3 {K:PySem.W.Frag} {a b c:Addr} {xs ys zs:List V} {g:TG} {tb:TS} {D:Ends} {σ:St} {H:Hp} (hxy:xs.length=ys.length) (hxz:xs.length=zs.length) (Pv:Nat->St->Hp->Prop) (h0:Pv 0 σ H) (hl : ∀ i σ H,i<=xs.length->Pv i σ H->SqT K H a xs/\SqT K H b ys/\SqT K H c zs)
  (hs : ∀ i x y z p σ H,xs[i]?=some x->ys[i]?=some y->zs[i]?=some z->H p=none->Pv i σ H->g (.ref p) σ (upd H p (.tup [x,y,z])) λ σ2 H2=>tb { D with nx:=Pv (i+1),ct:=Pv (i+1),bk:=D.nx } σ2 H2) (hd : ∀ σ H,Pv xs.length σ H->D.nx σ H) :
  ∃ W:Nat->Nat->St->Hp->Prop,(∃ m,W 0 m σ H) /\ ∀ i m σ H,W i m σ H ->
   ((It3 K a b c).stop i H/\D.nx σ H)\/((It3 K a b c).go i H /\ ∃ N:St->Hp->Prop,(∀ σ' H',N σ' H' -> ∃ m',m'<m/\W (i+1) m' σ' H') /\ ∀ x H',(It3 K a b c).yld i H x H'->g x σ H' λ σ2 H2=>tb { D with nx:=N,ct:=N,bk:=D.nx } σ2 H2):=by
 refine ⟨λ i m σ H=>m=xs.length - i/\i<=xs.length/\Pv i σ H,⟨_,rfl,Nat.zero_le _,h0⟩,?_⟩
 rintro i m σ H ⟨rfl,hi,p⟩
 obtain ⟨qa,qb,qc⟩:=hl i σ H hi p
 by_cases hlt:i<xs.length
 ·have h2:i<ys.length:=by omega
  have h3:i<zs.length:=by omega
  refine .inr ⟨⟨xs,ys,zs,xs[i],ys[i],zs[i],qa,qb,qc,by simp [hlt],by simp [h2],by simp [h3]⟩,Pv (i+1),λ σ' H' p'=>⟨xs.length - (i+1),by omega,rfl,hlt,p'⟩,λ v H' yv=>?_⟩
  obtain ⟨q,hq,rfl,x,y,z,rfl,hxy⟩:=yv
  obtain ⟨ex,ey,ez⟩:=hxy xs ys zs qa qb qc
  exact hs i x y z q σ H ex ey ez hq p
 ·have e:i=xs.length:=by omega
  refine .inl ⟨⟨xs,qa,by omega⟩,hd σ H (e ▸ p)⟩
end L2
namespace MinD
open PySem PyProof.Rows
section
variable {prog:Program} {w:World} {A:Around} {R:Result->Shared->Prop} {I:Addr} {fp wr:List Addr} {n:Nat} {P:Nat->Value->Prop} {St:Nat->Heap->Prop}
theorem more (W:Walks prog w A.in1 I fp wr n P St) (bt:Nat->Nat->Bool) (hcmp:CmpOf prog w A.in1 .Lt P bt) (S:Addr) (hSf:S∉fp) (kw:List (Str×Value)) :
  ∀ (k j:Nat) (s:Shared) (vb:Value) (c:Nat),n - (j+1)=k->j+1<=n->St (j+1) s.heap->P (argBest bt j) vb ->
  s.heap.get? S=some { cls:=.type "list", dict:=none,data:=.seq #[vb,vb] c,slots:=#[] } ->
  (∀ v h' tk,P (argBest bt (n - 1)) v->(∀ b o,b∉wr->b≠S->s.heap.get? b=some o->h'.get? b=some o)->R (.ok (.ret v)) { s with heap:=h',toks:=tk }) ->
  codeAny (model prog w) A (.builtin "min.loop" ⟨[.ref I,.none,.ref S],kw⟩) R s:=by
 have hSw:S∉wr:=λ h=>hSf (W.sub _ h)
 have hname:(toString "min" ++ toString ".loop" : String) = "min.loop" := by decide
 intro k
 induction k with
 | zero =>
  intro j s vb c hk hj hst hPb hS hR
  have hin:j+1=n:=by omega
  refine codeAny_builtin F.entry_min_loop ?_
  rw [Around.under_plainId F.plain_min_loop _]
  show wpAny _ A.in1 (seqItems? (.ref S)>>=_) _ _ s
  refine wpAny_bind (wpAny_seqItems hS rfl ?_)
  show wpAny _ A.in1 (tryCatch (pyNext (.ref I)) _>>=_) _ _ s
  refine wpAny_bind (wpAny_tryCatch (W.done s _ _ (hin ▸ hst) λ h' tk hk'=>?_))
  have hS':=hk' S _ hSw hS
  show wpAny _ A.in1 (updateSeq S (λ _=>#[])>>=_) _ _ _
  refine wpAny_bind ?_
  refine wpAny_updateSeq hS' rfl (wpAny_bind (wpAny_letGo (wpAny_pure ?_)))
  refine hR vb _ tk (by rw [<-hin];exact hPb) λ b o hbw hbS e=>(Heap.get?_update_other _ _ (Ne.symm hbS)).trans (hk' b o hbw e)
 | succ k ih =>
  intro j s vb c hk hj hst hPb hS hR
  have hlt:j+1<n:=by omega
  refine codeAny_builtin F.entry_min_loop ?_
  rw [Around.under_plainId F.plain_min_loop _]
  show wpAny _ A.in1 (seqItems? (.ref S)>>=_) _ _ s
  refine wpAny_bind (wpAny_seqItems hS rfl ?_)
  show wpAny _ A.in1 (tryCatch (pyNext (.ref I)) _>>=_) _ _ s
  refine wpAny_bind (wpAny_tryCatch (W.item (j+1) s _ _ hlt hst λ v h' tk hP hst' hk'=>?_))
  have hS':=hk' S _ hSw hS
  show wpAny _ A.in1 (tryCatch (holding [v,v] (richCompare .Lt v vb>>=_)) _>>=_) _ _ _
  refine wpAny_bind (wpAny_tryCatch (wpAny_holding (wpAny_bind (hcmp (j+1) (argBest bt j) v vb _ _ _ hP hPb ?_))))
  refine wpAny_bind (wpAny_holding (wpAny_truthy_bool ?_))
  refine wpAny_bind (wpAny_letGo (wpAny_pure ?_))
  cases hb:bt (j+1) (argBest bt j) with
  | true =>
   simp only [if_true]
   refine wpAny_bind ?_
   refine wpAny_updateSeq hS' rfl (wpAny_bind (wpAny_letGo ?_))
   rw [hname]
   refine wpAny_pure ⟨plainId_quiet F.plain_min_loop _,ih (j+1) _ v _ (by omega) hlt (W.frame _ _ _ hst' λ b hbf o e=>?_) (by simp only [argBest,hb,if_true];exact hP) (Heap.get?_update_self _ hS' rfl)
    λ v' h'' tk'' hP' hk''=>?_⟩
   ·exact (Heap.get?_update_other _ _ (λ h:S=b=>hSf (by rw [h];exact hbf))).trans e
   ·exact hR v' h'' tk'' hP' λ b o hbw hbS e=>hk'' b o hbw hbS ((Heap.get?_update_other _ _ (Ne.symm hbS)).trans (hk' b o hbw e))
  | false =>
   simp only [Bool.false_eq_true,if_false]
   refine wpAny_bind (wpAny_letGo ?_)
   rw [hname]
   refine wpAny_pure ⟨plainId_quiet F.plain_min_loop _,ih (j+1) _ vb c (by omega) hlt hst' (by simp only [argBest,hb,Bool.false_eq_true,if_false];exact hPb) hS' λ v' h'' tk'' hP' hk''=>?_⟩
   exact hR v' h'' tk'' hP' λ b o hbw hbS e=>hk'' b o hbw hbS (hk' b o hbw e)
theorem first (W:Walks prog w A.in1 I fp wr n P St) (bt:Nat->Nat->Bool) (hcmp:CmpOf prog w A.in1 .Lt P bt) (S:Addr) (hSf:S∉fp) (kw:List (Str×Value)) (hn:0<n) {s:Shared} {c:Nat} (hst:St 0 s.heap)
  (hS:s.heap.get? S=some { cls:=.type "list", dict:=none,data:=.seq #[] c,slots:=#[] })
  (hR : ∀ v h' tk,P (argBest bt (n - 1)) v->(∀ b o,b∉wr->b≠S->s.heap.get? b=some o->h'.get? b=some o)->R (.ok (.ret v)) { s with heap:=h',toks:=tk }) :
  codeAny (model prog w) A (.builtin "min.loop" ⟨[.ref I,.none,.ref S],kw⟩) R s:=by
 have hSw:S∉wr:=λ h=>hSf (W.sub _ h)
 have hname:(toString "min" ++ toString ".loop" : String) = "min.loop" := by decide
 refine codeAny_builtin F.entry_min_loop ?_
 rw [Around.under_plainId F.plain_min_loop _]
 show wpAny _ A.in1 (seqItems? (.ref S)>>=_) _ _ s
 refine wpAny_bind (wpAny_seqItems hS rfl ?_)
 show wpAny _ A.in1 (tryCatch (pyNext (.ref I)) _>>=_) _ _ s
 refine wpAny_bind (wpAny_tryCatch (W.item 0 s _ _ hn hst λ v h' tk hP hst' hk'=>?_))
 have hS':=hk' S _ hSw hS
 show wpAny _ A.in1 (updateSeq S (λ _=>#[v,v])>>=_) _ _ _
 refine wpAny_bind ?_
 refine wpAny_updateSeq hS' rfl ?_
 rw [hname]
 refine wpAny_pure ⟨plainId_quiet F.plain_min_loop _,more W bt hcmp S hSf kw _ 0 _ v _ rfl hn (W.frame _ _ _ hst' λ b hbf o e=>?_) hP (Heap.get?_update_self _ hS' rfl) λ v' h'' tk'' hP' hk''=>?_⟩
 ·exact (Heap.get?_update_other _ _ (λ h:S=b=>hSf (by rw [h];exact hbf))).trans e
 ·exact hR v' h'' tk'' hP' λ b o hbw hbS e=>hk'' b o hbw hbS ((Heap.get?_update_other _ _ (Ne.symm hbS)).trans (hk' b o hbw e))
theorem empty (W:Walks prog w A.in1 I fp wr n P St) (S:Addr) (hSf:S∉fp) (d:Value) (hn:n=0) {s:Shared} {c:Nat} (hst:St 0 s.heap)
  (hS:s.heap.get? S=some { cls:=.type "list", dict:=none,data:=.seq #[] c,slots:=#[] })
  (hR : ∀ h' tk,(∀ b o,b∉wr->b≠S->s.heap.get? b=some o->h'.get? b=some o)->R (.ok (.ret d)) { s with heap:=h',toks:=tk }) :
  codeAny (model prog w) A (.builtin "min.loop" ⟨[.ref I,.none,.ref S],[("default", d)]⟩) R s:=by
 have hSw:S∉wr:=λ h=>hSf (W.sub _ h)
 subst hn
 refine codeAny_builtin F.entry_min_loop ?_
 rw [Around.under_plainId F.plain_min_loop _]
 show wpAny _ A.in1 (seqItems? (.ref S)>>=_) _ _ s
 refine wpAny_bind (wpAny_seqItems hS rfl ?_)
 show wpAny _ A.in1 (tryCatch (pyNext (.ref I)) _>>=_) _ _ s
 refine wpAny_bind (wpAny_tryCatch (W.done s _ _ hst λ h' tk hk'=>?_))
 refine wpAny_bind (wpAny_rule (wpAny_pure ?_))
 exact hR h' tk λ b o hbw hbS e=>hk' b o hbw e
end
section
variable {prog:Program} {w:World} {A:Around} {E:Value->Shared->Prop} {s:Shared}
theorem call_kw {id:String} {b:Builtin} {args:List Value} {kw:List (Str×Value)} {Q:Value->Shared->Prop} (hk:builtinKind id=none) (hp:plainId id=true)
  (hb:entryFor table id=some b) (ha:argsOk id ⟨args,kw⟩)
  (hc:wpAny (model prog w) A.in1 (b ⟨args,kw⟩) (λ fin s'=>match fin with
   | .done f=>(match (Except.ok f:Result) with | .ok (.ret v)=>Q v s' | .ok _=>False | .error e=>E e s')
   | .again c'=>c'.quiet=true/\codeAny (model prog w) A c' (λ r s'=>match r with | .ok (.ret v)=>Q v s' | .ok _=>False | .error e=>E e s') s') E s) :
  wpAny (model prog w) A (call (.builtin id) args kw) Q E s:=by
 refine wpAny_call (codeAny_call_builtin hp hb ?_)
 simp only [checkBuiltinCall,hk]
 cases hsig:Manifest.signature? id with
 | none=>exact wpAny_pure hc
 | some sig =>
  simp only [argsOk,hsig] at ha
  have h2:Bind.checkArgs id sig ⟨args,kw⟩=pure ():=ha
  exact wpAny_of_eq h2 hc
theorem args_min1d (a d:Value):argsOk "min" ⟨[a],[("default", d)]⟩:=by unfold argsOk;kernel_rfl
theorem bind_min (d:Value):Builtin.Builtins.bindParams "min" ["key", "default"] 0 ⟨[],[("default", d)]⟩=pure [none,some d]:=by kernel_rfl
theorem call_walk {x d:Value} {Q:Value->Shared->Prop}
  (h:wpAny (model prog w) A.in1 (pyIter x) (λ it s₂ => ∃ I fp wr n P St bt,it=.ref I/\Walks prog w A.in1 I fp wr n P St/\St 0 s₂.heap/\(∀ b∈fp,b<s₂.heap.objs.size)/\CmpOf prog w A.in1 .Lt P bt /\
   (0<n -> ∀ v h' tk,P (argBest bt (n - 1)) v->(∀ b o,b∉wr->s₂.heap.get? b=some o->h'.get? b=some o)->Q v { s₂ with heap:=h',toks:=tk }) /\
   (n=0 -> ∀ h' tk,(∀ b o,b∉wr->s₂.heap.get? b=some o->h'.get? b=some o)->Q d { s₂ with heap:=h',toks:=tk })) E s) :
  wpAny (model prog w) A (call (.builtin "min") [x] [("default", d)]) Q E s:=by
 have hname:(toString "min" ++ toString ".loop" : String) = "min.loop" := by decide
 refine call_kw F.kind_min F.plain_min F.entry_min (args_min1d _ _) ?_
 show wpAny _ A.in1 (Builtin.Builtins.bindParams "min" ["key", "default"] 0 ⟨[],[("default", d)]⟩>>=_) _ _ s
 refine wpAny_bind (wpAny_of_eq (bind_min d) ?_)
 refine wpAny_bind (wpAny_pure ?_)
 refine wpAny_bind (wpAny_mono h (λ it s₂ h₂=>?_) λ _ _ e=>e)
 obtain ⟨I,fp,wr,n,P,St,bt,rfl,W,hst,hfp,hcmp,hQ,hQ0⟩:=h₂
 refine wpAny_bind (wpAny_newObj_type ?_)
 have hSf:s₂.heap.objs.size∉fp:=λ hm=>Nat.lt_irrefl _ (hfp _ hm)
 rw [hname]
 by_cases hn:0<n
 ·refine wpAny_pure ⟨plainId_quiet F.plain_min_loop _,first W bt hcmp s₂.heap.objs.size hSf _ hn (W.frame _ _ _ hst λ b _ o e=>Heap.get?_push_of_some _ e) (Heap.get?_push_size _ rfl) λ v h' tk hP hk=>?_⟩
  exact hQ hn v h' tk hP λ b o hbw e=>hk b o hbw (Nat.ne_of_lt (Heap.lt_size e)) (Heap.get?_push_of_some _ e)
 ·refine wpAny_pure ⟨plainId_quiet F.plain_min_loop _,empty W s₂.heap.objs.size hSf d (by omega) (W.frame _ _ _ hst λ b _ o e=>Heap.get?_push_of_some _ e) (Heap.get?_push_size _ rfl) λ h' tk hk=>?_⟩
  exact hQ0 (by omega) h' tk λ b o hbw e=>hk b o hbw (Nat.ne_of_lt (Heap.lt_size e)) (Heap.get?_push_of_some _ e)
theorem min_list {l:Addr} {xs:Array (Int×Tok)} {d:Value} {Q:Value->Shared->Prop} (hh:Hd.In A s.heap) (hl:s.heap.IsList l (intItems xs))
  (h:0<xs.size -> ∀ v h' tk,(intItems xs)[argBest (λ i j=>decide (numAt xs i<numAt xs j)) (xs.size - 1)]?=some v->(∀ b o,s.heap.get? b=some o->h'.get? b=some o)->Q v { s with heap:=h',toks:=tk })
  (h0:xs.size=0 -> ∀ h' tk,(∀ b o,s.heap.get? b=some o->h'.get? b=some o)->Q d { s with heap:=h',toks:=tk }) :
  wpAny (model prog w) A (call (.builtin "min") [.ref l] [("default", d)]) Q E s:=by
 rcases hh with hh | ⟨x,ox,vs,h1,h2,h3,h4⟩
 rotate_left
 ·have lt:=Heap.lt_size h2
  refine call_walk (iter_intList hl λ s₂ e st hfp hlI=>?_)
  subst e
  refine ⟨_,_,_,_,_,_,_,rfl,Hd.walk_list (A:=A.in1) h1 h3 h4 _ l hlI (Nat.ne_of_lt lt) (intItems xs),⟨st.1,st.2,Heap.get?_push_of_some _ h2⟩,λ b hb=>?_,CmpOf.ints_lt (numAt xs) (λ _ _=>intItems_at),λ hn v h' tk hP hk=>?_,λ hn h' tk hk=>?_⟩
  ·simp only [List.mem_cons,List.not_mem_nil,or_false] at hb
   rcases hb with hb | hb | hb
   ·exact hfp b (by rw [hb];exact List.mem_cons_self ..)
   ·exact hfp b (by rw [hb];exact List.mem_cons_of_mem _ (List.mem_cons_self ..))
   ·rw [hb]
    show x<(s.heap.push _).objs.size
    rw [Heap.size_push]
    exact Nat.lt_succ_of_lt lt
  ·exact h (by simpa [intItems] using hn) v h' tk (by simpa [intItems] using hP) (old_kept hk)
  ·exact h0 (by simpa [intItems] using hn) h' tk (old_kept hk)
 refine call_walk (iter_intList hl λ s₂ e st hfp hlI=>?_)
 subst e
 refine ⟨_,_,_,_,_,_,_,rfl,Walks.list (A:=A.in1) hh _ l hlI (intItems xs),st,hfp,CmpOf.ints_lt (numAt xs) (λ _ _=>intItems_at),λ hn v h' tk hP hk=>?_,λ hn h' tk hk=>?_⟩
 ·exact h (by simpa [intItems] using hn) v h' tk (by simpa [intItems] using hP) (old_kept hk)
 ·exact h0 (by simpa [intItems] using hn) h' tk (old_kept hk)
end
end MinD
namespace L2
open PySem PySem.Spec PyProof.Rows
section
variable {X:Cx}
def tMinD (K:PySem.W.Frag) (ta:TA):TE:=λ σ H Q=>ta σ H λ xs H1 => ∃ (p:Addr) (ns:List Int),xs=[.ref p]/\SqL K H1 p (ns.map V.int)/\(ns=[]->Q .non H1) /\ ∀ M,M∈ns->(∀ a,a∈ns->M<=a)->Q (.int M) H1
theorem qe_minD {e:Expr} {ta:TA} {p pos kpos npos:Pos} {j} (hc:X.warm=true) (hg:Gl X "min") (hm:X.mg "min" = none) (hb:bootBuiltins "min" = some (.builtin "min")) (ha:QA X [e] ta) (h1:starEach [e] X.env=[(false,eval e X.env)]:=by rfl) :
  QE X (.Call (.Name "min" p) [e] [⟨some "default", .Constant .none j npos,kpos⟩] pos) (tMinD X.K ta):=⟨by
 intro pins s σ H Q I h
 refine wpAny_Call_Name_kw (ld_blt I hg hm hb ?_ (by decide) (by decide))
 have e1:backTo pos (starEach [e] X.env)=(false,eval e X.env)::backTo pos (starEach [] X.env):=by rw [h1];rfl
 refine callWith_kw (e:=e) (rest:=[]) ?_ e1 (by rw [h1];rfl) rfl rfl
 refine thn (ha.o pos pins s σ H _ I h) λ us s1 ⟨vs,H1,I1,r1,q1⟩=>?_
 obtain ⟨l,ns,rfl,hq,q0,q2⟩:=q1
 obtain ⟨u,rfl,rx⟩:=vals1 r1
 cases rx
 refine kws_cons (thn (pe_non pins s1 σ H1 (λ x H2=>x=.non/\H2=H1) I1 ⟨rfl,rfl⟩) λ v s2 ⟨x,H2,I2,r2,ex,eH⟩=>kws_nil ?_)
 subst ex
 subst eH
 cases r2
 obtain ⟨its,r',pl,hz⟩:=I2.list hq
 have hl:=pl.isList
 have hi:=intsAre_of r'
 obtain ⟨xs,e⟩:=hi.allInts.items
 have hns:ns=xs.toList.map (·.1):=by rw [<-hi.numsOf,<-nums_intItems,<-e]
 rw [e] at hl
 refine MinD.min_list (d:=.none) (I2.hin hc) hl (λ hsz v h' tk hv hk=>?_) (λ hsz h' tk hk=>?_)
 ·obtain ⟨t,rfl⟩:=intItems_at hv
  obtain ⟨h1,h2⟩:=argBest_lt (numAt xs) (xs.size - 1)
  refine ⟨.int _,_,I2.kept hk,⟨_,rfl⟩,q2 _ ?_ λ a ha=>?_⟩
  ·rw [hns,numAt_eq];exact getD_mem (by rw [List.length_map,Array.length_toList];omega)
  ·rw [hns] at ha
   obtain ⟨j,hj,rfl⟩:=mem_getD ha
   rw [List.length_map,Array.length_toList] at hj
   rw [<-numAt_eq];exact h2 j (by omega)
 ·refine ⟨.non,_,I2.kept hk,rfl,q0 ?_⟩
  rw [hns]
  have:xs.toList=[]:=List.eq_nil_of_length_eq_zero (by rw [Array.length_toList];exact hsz)
  rw [this]
  rfl⟩
end
end L2
namespace W2
open PySem L2 Mth
def keptZ (t:Int->Int->Bool) (f:Int->Int->Int) (xs ys:List Int):List Int:=((xs.zip ys).filter λ p=>t p.1 p.2).map λ p=>f p.1 p.2
theorem keptZ_snoc {t:Int->Int->Bool} {f:Int->Int->Int} {l:List (Int×Int)} {i:Nat} {p:Int×Int} (h:l[i]?=some p):((l.take (i+1)).filter λ p=>t p.1 p.2).map (λ p=>f p.1 p.2)=((l.take i).filter λ p=>t p.1 p.2).map (λ p=>f p.1 p.2)++(if t p.1 p.2=true then [f p.1 p.2] else []):=by
 rw [List.take_add_one,h]
 simp only [Option.toList_some,List.filter_append,List.map_append]
 congr 1
 by_cases z:t p.1 p.2=true
 ·simp [z]
 ·simp [z]
theorem comp_zip_if {K:PySem.W.Frag} {a b D:Addr} {js:List (Option Nat)} {tc:TT} {te:TE} {σ:St} {H1:Hp} {Q:VK} {xs ys:List Int} {σ0:St} {t:Int->Int->Bool} {f:Int->Int->Int} (hn:min xs.length ys.length<=sizeLine) (hp : ∃ u v,pick js σ=u::v::σ0) (hD:H1 D=none)
  (ha:H1 a=some (tupI xs)) (hb:H1 b=some (tupI ys))
  (ht : ∀ (x y:Int) (H':Hp) (R:Bool->Hp->Prop),x∈xs->y∈ys->R (t x y) H'->tc (some (.int x)::some (.int y)::σ0) H' R)
  (hs : ∀ (x y:Int) (H':Hp) (R:VK),x∈xs->y∈ys->t x y=true->R (.int (f x y)) H'->te (some (.int x)::some (.int y)::σ0) H' R)
  (q : ∀ H',Same H1 H'->H' D=some (.lst ((keptZ t f xs ys).map V.int))->Q (.ref D) H'):CompW (Itz K a b) D js (gTup K 2 (gCons (gName 0) (gCons (gName 1) gNil))) tc te σ H1 Q:=by
 obtain ⟨u0,v0,hp⟩:=hp
 have hzl:(xs.zip ys).length=min xs.length ys.length:=List.length_zip
 refine comp_gen (n:=min xs.length ys.length) hn (λ i σ' H' zs=>(∃ u v:Option V,σ'=u::v::σ0)/\Same H1 H'/\H' D=some (.lst zs)/\zs.length<=i/\zs=((((xs.zip ys).take i).filter λ p=>t p.1 p.2).map λ p=>f p.1 p.2).map V.int) ⟨⟨u0,v0,hp⟩,Same.new hD,upd_same,Nat.le_refl _,rfl⟩ (λ i σ' H' zs _ ⟨_,_,h3,h4,_⟩=>⟨h3,h4⟩) (λ i σ' H' zs hi ⟨_,s',_⟩=>?_) (λ σ' H' zs ⟨_,s',h3,_,e⟩=>⟨?_,?_⟩) ?_
 ·refine ⟨_,_,.int xs[i],.int ys[i],SqT.of (s' _ _ ha),SqT.of (s' _ _ hb),?_,?_⟩
  ·rw [List.getElem?_map,List.getElem?_eq_getElem (by omega)];rfl
  ·rw [List.getElem?_map,List.getElem?_eq_getElem (by omega)];rfl
 ·exact ⟨_,_,SqT.of (s' _ _ ha),SqT.of (s' _ _ hb),by rw [List.length_map,List.length_map];omega⟩
 ·refine q H' s' ?_
  rw [h3,e,<-hzl,List.take_length]
  rfl
 ·rintro i σ' H' zs v H2 hi ⟨⟨u,v,rfl⟩,s',h3,h4,e⟩ ⟨p,hp',rfl,x,y,rfl,hxy⟩
  obtain ⟨hx,hy⟩:=hxy _ _ (SqT.of (s' _ _ ha)) (SqT.of (s' _ _ hb))
  obtain ⟨x,rfl,hx'⟩:=map_int_get hx
  obtain ⟨y,rfl,hy'⟩:=map_int_get hy
  have hz:(xs.zip ys)[i]?=some (x,y):=by rw [List.getElem?_zip_eq_some];exact ⟨hx',hy'⟩
  have hsn:=keptZ_snoc (t:=t) (f:=f) hz
  refine ⟨p,_,rfl,SqT.of upd_same,rfl,_,_,rfl,_,_,rfl,rfl,?_⟩
  have hD2:(upd H' p (.tup [.int x,.int y])) D=some (.lst zs):=by rw [upd_ne (ne_of_none h3 hp')];exact h3
  have s2:Same H1 (upd H' p (.tup [.int x,.int y])):=Same.more s' hp'
  refine ht x y _ _ (List.mem_of_getElem? hx') (List.mem_of_getElem? hy') ?_
  cases hb':t x y with
  | true =>
   refine hs x y _ _ (List.mem_of_getElem? hx') (List.mem_of_getElem? hy') hb' ⟨hD2,⟨_,_,rfl⟩,?_,upd_same,?_,?_⟩
   ·intro c o e'
    rw [upd_ne (ne_of_none e' hD)]
    exact s2 c o e'
   ·rw [List.length_append];show zs.length+1<=i+1;omega
   ·rw [hsn,e]
    simp [hb']
  | false =>
   refine ⟨hD2,⟨_,_,rfl⟩,s2,hD2,by omega,?_⟩
   rw [hsn,e]
   simp [hb']
theorem comp_list_if {K:PySem.W.Frag} {a D:Addr} {js:List (Option Nat)} {tc:TT} {te:TE} {σ:St} {H1:Hp} {Q:VK} {xs:List V} {σ0:St} {t:V->Bool} (hn:xs.length<=sizeLine) (hp : ∃ u,pick js σ=u::σ0) (hD:H1 D=none)
  (ha:H1 a=some (.lst xs))
  (ht : ∀ (x:V) (H':Hp) (R:Bool->Hp->Prop),Same H1 H'->x∈xs->R (t x) H'->tc (some x::σ0) H' R)
  (hs : ∀ (x:V) (H':Hp) (R:VK),Same H1 H'->x∈xs->t x=true->R x H'->te (some x::σ0) H' R)
  (q : ∀ H',Same H1 H'->H' D=some (.lst (xs.filter t))->Q (.ref D) H'):CompW (Itl K a) D js (gName 0) tc te σ H1 Q:=by
 obtain ⟨u0,hp⟩:=hp
 refine comp_gen (n:=xs.length) hn (λ i σ' H' zs=>(∃ u:Option V,σ'=u::σ0)/\Same H1 H'/\H' D=some (.lst zs)/\zs.length<=i/\zs=(xs.take i).filter t) ⟨⟨u0,hp⟩,Same.new hD,upd_same,Nat.le_refl _,rfl⟩ (λ i σ' H' zs _ ⟨_,_,h3,h4,_⟩=>⟨h3,h4⟩) (λ i σ' H' zs hi ⟨_,s',_⟩=>⟨_,xs[i],SqL.of (s' _ _ ha),List.getElem?_eq_getElem hi⟩) (λ σ' H' zs ⟨_,s',h3,_,e⟩=>⟨⟨_,SqL.of (s' _ _ ha),Nat.le_refl _⟩,?_⟩) ?_
 ·refine q H' s' ?_
  rw [h3,e,List.take_length]
 ·rintro i σ' H' zs x H2 hi ⟨⟨u,rfl⟩,s',h3,h4,e⟩ ⟨rfl,hx⟩
  have hx':=hx _ (SqL.of (s' _ _ ha))
  have hsn:(xs.take (i+1)).filter t=(xs.take i).filter t++(if t x=true then [x] else []):=by
   rw [List.take_add_one,hx']
   simp only [Option.toList_some,List.filter_append]
   congr 1
   by_cases z:t x=true
   ·simp [z]
   ·simp [z]
  refine ht x _ _ s' (List.mem_of_getElem? hx') ?_
  cases hb':t x with
  | true =>
   refine hs x _ _ s' (List.mem_of_getElem? hx') hb' ⟨h3,⟨_,rfl⟩,?_,upd_same,?_,?_⟩
   ·intro c o e'
    rw [upd_ne (ne_of_none e' hD)]
    exact s' c o e'
   ·rw [List.length_append];show zs.length+1<=i+1;omega
   ·rw [hsn,e]
    simp [hb']
  | false =>
   refine ⟨h3,⟨_,rfl⟩,s',h3,by omega,?_⟩
   rw [hsn,e]
   simp [hb']
end W2
namespace Mth
theorem cnt_40 {p n:Nat} (hp:2<=p) (hn:1<=n) (hb:n<=1000000000000):cnt p n<40:=by
 have e:=cnt_spec hp n hn
 have h1:p ^ cnt p n<=n:=by
  have hs:=strip_pos hp n hn
  calc p ^ cnt p n<=p ^ cnt p n * strip p n:=Nat.le_mul_of_pos_right _ hs
   _=n:=e.symm
 have h2:2 ^ cnt p n<=p ^ cnt p n:=Nat.pow_le_pow_left hp _
 have h3:2 ^ cnt p n<2 ^ 40:=by
  have:(1000000000000:Nat)<2 ^ 40:=by decide
  omega
 exact (Nat.pow_lt_pow_iff_right (by decide)).mp h3
def RB (rows:List (List Int)):Prop := ∀ c∈rows,∀ x∈c,-40<x/\x<40
theorem chg_40 {i j:Nat} (hi:1<=i) (hj:1<=j) (bi:i<=1000000000000) (bj:j<=1000000000000) {x:Int} (h:x∈chg i j) : -40<x/\x<40:=by
 obtain ⟨k,hk⟩:=List.getElem?_of_mem h
 unfold chg at hk
 rw [List.getElem?_zipWith_eq_some] at hk
 obtain ⟨a,b,ha,hb,rfl⟩:=hk
 have hm:=List.mem_of_getElem? ha
 have hm':=List.mem_of_getElem? hb
 unfold powsOf at hm hm'
 obtain ⟨p,hp,rfl⟩:=List.mem_map.mp hm
 obtain ⟨p',hp',rfl⟩:=List.mem_map.mp hm'
 have:=cnt_40 (two_le p hp) hi bi
 have:=cnt_40 (two_le p' hp') hj bj
 omega
theorem mvd_get {p c:List Int} {t:Int} {i:Nat} {v:Int} (h:(mvd p c t)[i]?=some v) : ∃ x y,p[i]?=some x/\c[i]?=some y/\v=x+t * y:=by
 unfold mvd at h
 rw [List.getElem?_zipWith_eq_some] at h
 obtain ⟨x,y,hx,hy,rfl⟩:=h
 exact ⟨x,y,hx,hy,rfl⟩
theorem mvd_at {p c:List Int} {t:Int} {i:Nat} {x y:Int} (hx:p[i]?=some x) (hy:c[i]?=some y):(mvd p c t)[i]?=some (x+t * y):=by
 unfold mvd
 rw [List.getElem?_zipWith_eq_some]
 exact ⟨x,y,hx,hy,rfl⟩
theorem fits_mvd {p c a:List Int} {t:Int}:fitsB a (mvd p c t)=true ↔ ∀ (i:Nat) (x y z:Int),p[i]?=some x->c[i]?=some y->a[i]?=some z->0<=x+t * y+z:=by
 rw [fitsB_iff]
 constructor
 ·intro h i x y z hx hy hz
  exact h i z _ hz (mvd_at hx hy)
 ·intro h i z v hz hv
  obtain ⟨x,y,hx,hy,rfl⟩:=mvd_get hv
  exact h i x y z hx hy hz
theorem fits_mvd_not {p c a:List Int} {t:Int} (h:fitsB a (mvd p c t)=false) : ∃ (i:Nat) (x y z:Int),p[i]?=some x/\c[i]?=some y/\a[i]?=some z/\x+t * y+z<0:=by
 by_cases z : ∃ (i:Nat) (x y z:Int),p[i]?=some x/\c[i]?=some y/\a[i]?=some z/\x+t * y+z<0
 ·exact z
 ·exfalso
  have:fitsB a (mvd p c t)=true:=fits_mvd.mpr λ i x y w hx hy hw=>by
   by_cases q:0<=x+t * y+w
   ·exact q
   ·exact absurd ⟨i,x,y,w,hx,hy,hw,by omega⟩ z
  rw [h] at this
  cases this
theorem fits_mvd_no {p c a:List Int} {t:Int} {i:Nat} {x y z:Int} (hx:p[i]?=some x) (hy:c[i]?=some y) (hz:a[i]?=some z) (h:x+t * y+z<0):fitsB a (mvd p c t)=false:=by
 rw [Bool.eq_false_iff]
 intro w
 have:=fits_mvd.mp w i x y z hx hy hz
 omega
def LackR (p c:List Int):Option Nat->Prop
 | none => ∀ t:Nat,fitsB c (mvd p c t)=true
 | some m=>(∀ t:Nat,t<m->fitsB c (mvd p c t)=true)/\fitsB c (mvd p c m)=false /\ ∃ x∈p,(m:Int)<=x
def FitR (p c a:List Int):Option Nat->Prop
 | none => ∀ t:Nat,fitsB a (mvd p c t)=false
 | some m=>(∀ t:Nat,t<m->fitsB a (mvd p c t)=false)/\fitsB a (mvd p c m)=true/\m<=1000
theorem mem_keptZ {t:Int->Int->Bool} {f:Int->Int->Int} {xs ys:List Int} {M:Int}:M∈W2.keptZ t f xs ys ↔ ∃ (i:Nat) (x y:Int),xs[i]?=some x/\ys[i]?=some y/\t x y=true/\M=f x y:=by
 unfold W2.keptZ
 rw [List.mem_map]
 constructor
 ·rintro ⟨⟨x,y⟩,h,rfl⟩
  obtain ⟨h1,h2⟩:=List.mem_filter.mp h
  obtain ⟨i,hi⟩:=List.getElem?_of_mem h1
  rw [List.getElem?_zip_eq_some] at hi
  exact ⟨i,x,y,hi.1,hi.2,h2,rfl⟩
 ·rintro ⟨i,x,y,h1,h2,h3,rfl⟩
  refine ⟨(x,y),List.mem_filter.mpr ⟨?_,h3⟩,rfl⟩
  exact List.mem_of_getElem? (i:=i) (by rw [List.getElem?_zip_eq_some];exact ⟨h1,h2⟩)
abbrev lackL (p c:List Int):List Int:=W2.keptZ (λ _ y=>decide (y<0)) (λ x y=>x / (-y)) p c
theorem lack_none {p c:List Int} (hn:nn p=true) (h:lackL p c=[]):LackR p c none:=λ t=>fits_mvd.mpr λ i x y z hx hy hz=>by
 rw [hy] at hz
 cases hz
 have x0:=nn_iff.mp hn x (List.mem_of_getElem? hx)
 by_cases y0:y<0
 ·have:x / (-y)∈lackL p c:=mem_keptZ.mpr ⟨i,x,y,hx,hy,decide_eq_true y0,rfl⟩
  rw [h] at this
  cases this
 ·have:=Int.mul_nonneg (Int.natCast_nonneg t) (show 0<=y by omega)
  omega
theorem lack_some {p c:List Int} (hn:nn p=true) {M:Int} (h:M∈lackL p c) (hm : ∀ a∈lackL p c,M<=a):0<=M/\LackR p c (some M.toNat):=by
 obtain ⟨i,x,y,hx,hy,ht,rfl⟩:=mem_keptZ.mp h
 have y0:y<0:=of_decide_eq_true ht
 have x0:=nn_iff.mp hn x (List.mem_of_getElem? hx)
 have M0:0<=x / (-y):=Int.ediv_nonneg x0 (by omega)
 refine ⟨M0,λ t ht'=>fits_mvd.mpr λ j x' y' z hx' hy' hz=>?_,?_,x,List.mem_of_getElem? hx,?_⟩
 ·rw [hy'] at hz
  cases hz
  have x0':=nn_iff.mp hn x' (List.mem_of_getElem? hx')
  by_cases y0':y'<0
  ·have h1:=hm (x' / (-y')) (mem_keptZ.mpr ⟨j,x',y',hx',hy',decide_eq_true y0',rfl⟩)
   have h2:((t:Int)+1)<=x' / (-y'):=by omega
   have h3:=(Int.le_ediv_iff_mul_le (show 0 < -y' by omega)).mp h2
   rw [Int.mul_neg,Int.add_mul,Int.one_mul] at h3
   omega
  ·have:=Int.mul_nonneg (Int.natCast_nonneg t) (show 0<=y' by omega)
   omega
 ·refine fits_mvd_no hx hy hy ?_
  have h3 : ¬ (x / (-y)+1)<=x / (-y):=by omega
  rw [Int.le_ediv_iff_mul_le (show 0 < -y by omega),Int.mul_neg,Int.add_mul,Int.one_mul] at h3
  have e:((x / (-y)).toNat:Int)=x / (-y):=Int.toNat_of_nonneg M0
  rw [e]
  omega
 ·rw [Int.toNat_of_nonneg M0]
  exact Int.ediv_le_self _ x0
def FitI (p c a:List Int) (i:Nat) (m:Int):Prop:=0<=m/\m<=1000/\(∀ j,j<i -> ∀ x y z:Int,p[j]?=some x->c[j]?=some y->a[j]?=some z->0 < -z - x->0<y /\ -z - x<=m * y)/\(m=0 \/ ∃ (j:Nat) (x y z:Int),p[j]?=some x/\c[j]?=some y/\a[j]?=some z/\0<y/\(m - 1) * y < -z - x)
theorem FitI.start {p c a:List Int}:FitI p c a 0 0:=⟨Int.le_refl _,by decide,λ j h=>absurd h (by omega),.inl rfl⟩
theorem FitI.skip {p c a:List Int} {i:Nat} {m x y z:Int} (h:FitI p c a i m) (hx:p[i]?=some x) (hz:a[i]?=some z) (hl : ¬ 0 < -z - x):FitI p c a (i+1) m:=by
 obtain ⟨h1,h2,h3,h4⟩:=h
 refine ⟨h1,h2,λ j hj x' y' z' hx' hy' hz' hl'=>?_,h4⟩
 by_cases e:j=i
 ·subst e
  rw [hx] at hx'
  rw [hz] at hz'
  cases hx'
  cases hz'
  exact absurd hl' hl
 ·exact h3 j (by omega) x' y' z' hx' hy' hz' hl'
theorem FitI.never {p c a:List Int} {i:Nat} {x y z:Int} (hx:p[i]?=some x) (hy:c[i]?=some y) (hz:a[i]?=some z) (hl:0 < -z - x) (hy0:y<=0):FitR p c a none:=λ t=>fits_mvd_no hx hy hz (by
 have:=Int.mul_nonneg (Int.natCast_nonneg t) (show 0 <= -y by omega)
 rw [Int.mul_neg] at this
 omega)
theorem ceil_ok {l y:Int} (hl:0<l) (hy:0<y):l<=(l+y - 1) / y * y/\((l+y - 1) / y - 1) * y<l/\(l+y - 1) / y<=l/\0<=(l+y - 1) / y:=by
 have h1:=Int.lt_ediv_add_one_mul_self (l+y - 1) hy
 have h2:=Int.ediv_mul_le (l+y - 1) (show y≠0 by omega)
 rw [Int.add_mul,Int.one_mul] at h1
 refine ⟨by omega,by rw [Int.sub_mul,Int.one_mul];omega,?_,Int.ediv_nonneg (by omega) (by omega)⟩
 refine Int.ediv_le_of_le_mul hy ?_
 have:=Int.mul_nonneg (show 0<=l - 1 by omega) (show 0<=y - 1 by omega)
 rw [Int.sub_mul,Int.mul_sub,Int.one_mul,Int.mul_one] at this
 omega
theorem FitI.more {p c a:List Int} {i:Nat} {m x y z:Int} (h:FitI p c a i m) (hx:p[i]?=some x) (hy:c[i]?=some y) (hz:a[i]?=some z) (hl:0 < -z - x) (hl' : -z - x<=1000) (hy0:0<y):FitI p c a (i+1) (if (-z - x+y - 1) / y > m then (-z - x+y - 1) / y else m):=by
 obtain ⟨h1,h2,h3,h4⟩:=h
 obtain ⟨c1,c2,c3,c4⟩:=ceil_ok hl hy0
 by_cases hgt:(-z - x+y - 1) / y > m
 ·rw [if_pos hgt]
  refine ⟨c4,by omega,λ j hj x' y' z' hx' hy' hz' hl'=>?_,.inr ⟨i,x,y,z,hx,hy,hz,hy0,c2⟩⟩
  by_cases e:j=i
  ·subst e
   rw [hx] at hx'
   rw [hy] at hy'
   rw [hz] at hz'
   cases hx'
   cases hy'
   cases hz'
   exact ⟨hy0,c1⟩
  ·obtain ⟨k1,k2⟩:=h3 j (by omega) x' y' z' hx' hy' hz' hl'
   have:=Int.mul_le_mul_of_nonneg_right (show m<=(-z - x+y - 1) / y by omega) (show 0<=y' by omega)
   exact ⟨k1,by omega⟩
 ·rw [if_neg hgt]
  refine ⟨h1,h2,λ j hj x' y' z' hx' hy' hz' hl'=>?_,h4⟩
  by_cases e:j=i
  ·subst e
   rw [hx] at hx'
   rw [hy] at hy'
   rw [hz] at hz'
   cases hx'
   cases hy'
   cases hz'
   have:=Int.mul_le_mul_of_nonneg_right (show (-z - x+y - 1) / y<=m by omega) (show 0<=y by omega)
   exact ⟨hy0,by omega⟩
  ·exact h3 j (by omega) x' y' z' hx' hy' hz' hl'
theorem FitI.less {p c a:List Int} {i:Nat} {m:Int} (h:FitI p c a i m) {t:Nat} (ht:(t:Int)<m):fitsB a (mvd p c t)=false:=by
 obtain ⟨h1,h2,h3,h4⟩:=h
 rcases h4 with z | ⟨j,x,y,z,hx,hy,hz,hy0,hm⟩
 ·omega
 ·refine fits_mvd_no hx hy hz ?_
  have:=Int.mul_le_mul_of_nonneg_right (show (t:Int)<=m - 1 by omega) (show 0<=y by omega)
  omega
theorem FitI.yes {p c a:List Int} {i:Nat} {m:Int} (h:FitI p c a i m) (hf:fitsB a (mvd p c m)=true):FitR p c a (some m.toNat):=by
 have h1:=h.1
 have h2:=h.2.1
 refine ⟨λ t ht=>h.less (by omega),by rw [Int.toNat_of_nonneg h1];exact hf,by omega⟩
theorem FitI.no {p c a:List Int} {m:Int} (hp:p.length=10) (h:FitI p c a 10 m) (hf:fitsB a (mvd p c m)=false):FitR p c a none:=λ t=>by
 by_cases ht:(t:Int)<m
 ·exact h.less ht
 ·obtain ⟨i,x,y,z,hx,hy,hz,hlt⟩:=fits_mvd_not hf
  obtain ⟨h1,h2,h3,h4⟩:=h
  refine fits_mvd_no hx hy hz ?_
  have hi:i<10:=by
   have:=(List.getElem?_eq_some_iff.mp hx).1
   omega
  by_cases hl:0 < -z - x
  ·obtain ⟨k1,k2⟩:=h3 i hi x y z hx hy hz hl
   omega
  ·have y0:y<0:=by
    by_cases q:y<0
    ·exact q
    ·have:=Int.mul_nonneg h1 (show 0<=y by omega)
     omega
   have:=Int.mul_le_mul_of_nonneg_right (show m<=(t:Int) by omega) (show 0 <= -y by omega)
   rw [Int.mul_neg,Int.mul_neg] at this
   omega
def StR (rows:List (List Int)) (p c:List Int) (k:Nat):Option Nat->Prop
 | none => ∀ t:Nat,fstI rows (mvd p c t)=some k
 | some T=>(∀ t:Nat,t<T->fstI rows (mvd p c t)=some k)/\fstI rows (mvd p c T)≠some k
theorem fstI_ahead : ∀ {rows:List (List Int)} {p:List Int} {i:Nat},fstI rows p=some i -> ∀ j,j<i -> ∀ a,rows[j]?=some a->fitsB a p=false
 | [],_,_,h=>by cases h
 | c::r,p,i,h=>by
  unfold fstI at h
  by_cases hc:fitsB c p=true
  ·rw [if_pos hc] at h
   cases h
   intro j hj
   omega
  ·rw [if_neg hc] at h
   cases e:fstI r p with
   | none=>rw [e] at h;cases h
   | some i' =>
    rw [e] at h
    have hi:i'+1=i:=Option.some.inj h
    subst hi
    intro j hj a ha
    cases j with
    | zero=>cases ha;exact Bool.eq_false_iff.mpr hc
    | succ j=>exact fstI_ahead e j (by omega) a (by simpa using ha)
theorem fst_iff {rows:List (List Int)} {q c:List Int} {k:Nat} (hk:rows[k]?=some c):fstI rows q=some k ↔ fitsB c q=true /\ ∀ j,j<k -> ∀ a,rows[j]?=some a->fitsB a q=false:=by
 constructor
 ·intro h
  obtain ⟨c',h1,h2,_⟩:=fstI_lt h
  rw [hk] at h1
  cases h1
  exact ⟨h2,fstI_ahead h⟩
 ·rintro ⟨h1,h2⟩
  exact fstI_at rows q k h2 (λ c' e=>by rw [hk] at e;cases e;exact h1) (List.getElem?_eq_some_iff.mp hk).1
theorem st_none {rows:List (List Int)} {p c:List Int} {k:Nat} {o:Option Nat} {os:List (Option Nat)} (hk:rows[k]?=some c) (L:LackR p c o) (F : ∀ j,j<k -> ∀ a,rows[j]?=some a -> ∃ q,os[j]?=some q/\FitR p c a q) (h:(o::os).filterMap id=[]):StR rows p c k none:=λ t=>by
 have no : ∀ q∈o::os,q=none:=λ q hq=>by
  cases q with
  | none=>rfl
  | some T =>
   have:T∈(o::os).filterMap id:=List.mem_filterMap.mpr ⟨some T,hq,rfl⟩
   rw [h] at this
   cases this
 refine (fst_iff hk).mpr ⟨?_,λ j hj a ha=>?_⟩
 ·have:=no o List.mem_cons_self
  subst this
  exact L t
 ·obtain ⟨q,hq,f⟩:=F j hj a ha
  have:=no q (List.mem_cons_of_mem _ (List.mem_of_getElem? hq))
  subst this
  exact f t
theorem st_some {rows:List (List Int)} {p c:List Int} {k:Nat} {o:Option Nat} {os:List (Option Nat)} (hk:rows[k]?=some c) (ho:os.length=k) (L:LackR p c o) (F : ∀ j,j<k -> ∀ a,rows[j]?=some a -> ∃ q,os[j]?=some q/\FitR p c a q) {T:Nat} (h:T∈(o::os).filterMap id) (hm : ∀ a∈(o::os).filterMap id,T<=a):StR rows p c k (some T)/\((∃ x∈p,(T:Int)<=x)\/T<=1000):=by
 have at_ : ∀ q T',q∈o::os->q=some T'->T<=T':=λ q T' hq e=>hm T' (List.mem_filterMap.mpr ⟨q,hq,by rw [e];rfl⟩)
 obtain ⟨q,hq,e⟩:=List.mem_filterMap.mp h
 have eq:q=some T:=e
 subst eq
 have hkl:=(List.getElem?_eq_some_iff.mp hk).1
 have first : ∀ t:Nat,t<T->fstI rows (mvd p c t)=some k:=λ t ht=>by
  refine (fst_iff hk).mpr ⟨?_,λ j hj a ha=>?_⟩
  ·cases o with
   | none=>exact L t
   | some m=>exact L.1 t (by have:=at_ _ m List.mem_cons_self rfl;omega)
  ·obtain ⟨q',hq',f⟩:=F j hj a ha
   cases q' with
   | none=>exact f t
   | some m=>exact f.1 t (by have:=at_ _ m (List.mem_cons_of_mem _ (List.mem_of_getElem? hq')) rfl;omega)
 rcases List.mem_cons.mp hq with z | z
 ·subst z
  exact ⟨⟨first,λ y=>by have:=((fst_iff hk).mp y).1;rw [L.2.1] at this;cases this⟩,.inl L.2.2⟩
 ·obtain ⟨j,hj⟩:=List.getElem?_of_mem z
  have hjk:j<k:=by
   have:=(List.getElem?_eq_some_iff.mp hj).1
   omega
  obtain ⟨q',hq',f⟩:=F j hjk _ (List.getElem?_eq_getElem (by omega))
  rw [hj] at hq'
  cases hq'
  exact ⟨⟨first,λ y=>by have:=((fst_iff hk).mp y).2 j hjk _ (List.getElem?_eq_getElem (by omega));rw [f.2.1] at this;cases this⟩,.inr f.2.2⟩
theorem mvd_add {p c:List Int} (s t:Int) (hp:p.length=10) (hc:c.length=10):mvd (mvd p c s) c t=mvd p c (s+t):=by
 refine List.ext_getElem (by simp [mvd,hp,hc]) λ i h1 h2=>?_
 simp only [mvd,List.getElem_zipWith]
 rw [Int.add_mul]
 omega
theorem mvd_zero {p c:List Int} (hp:p.length=10) (hc:c.length=10):mvd p c 0=p:=by
 refine List.ext_getElem (by simp [mvd,hp,hc]) λ i h1 h2=>?_
 simp only [mvd,List.getElem_zipWith]
 omega
end Mth
namespace L2
open PySem PySem.Spec PyProof.Rows
section
variable {X:Cx} {CX:CXT} {k:Nat} {f:Addr} {fd:FuncData} {ps:List Str} {sp:Sp} {E:XK} {x:Str} {p pos:Pos} {e:Expr} {es:List Expr} {t:TA} {i:Nat}
theorem op_neT (hu:X.A.units+1<cLine):OpR X (compareOp .NotEq) (λ x y H Q => ∃ (a b:Addr) (ns ms:List Int),x=.ref a/\y=.ref b/\H a=some (.tup (ns.map V.int))/\H b=some (.tup (ms.map V.int))/\Q (.bl (!decide (ns=ms))) H):=by
 intro pins s σ H x y v u Q I rx ry h
 obtain ⟨a,b,ns,ms,rfl,rfl,ha,hb,q⟩:=h
 cases rx
 cases ry
 obtain ⟨its,r1,p1,_⟩:=I.tuple (SqT.of ha)
 obtain ⟨its2,r2,p2,_⟩:=I.tuple (SqT.of hb)
 have hi:=intsAre_of r1
 have hj:=intsAre_of r2
 have e1:=hi.length
 have e2:=hj.length
 have:=SeqAt.RcNeAt.tuples (A:=X.A) (s:=s) (e:=λ j=>ns.getD j 0 == ms.getD j 0) p1 p2 (Nat.lt_of_succ_lt hu) λ j h1 h2=>by
  obtain ⟨t,et⟩:=hi.int_at j its.toArray[j] (by simp)
  obtain ⟨t',et'⟩:=hj.int_at j its2.toArray[j] (by simp)
  rw [et,et']
  exact SeqAt.EqAt.int_int _ _ _ _
 rw [List.size_toArray,List.size_toArray,e1,e2,all_range_eq] at this
 exact this X.prog X.w _ _ ⟨.bl _,H,I,rfl,q⟩
end
end L2
namespace L2
open PySem
theorem passF {P:Program} {w:World} {X:Cx}:Passes (CXE P w) X E0:=λ _ _ _ _ _ _ _ ⟨_,_,_,_,_,_,_,_,_,_,_,_,_,_,_,_,_,hE⟩=>hE.elim
end L2
namespace Mth
theorem goN_add (rows:List (List Int)) (a:Nat) (p:List Int) : ∀ b,goN rows (a+b) p=(goN rows a p).bind (goN rows b)
 | 0=>by
  show goN rows a p=(goN rows a p).bind λ q=>some q
  cases goN rows a p<;>rfl
 | b+1=>by
  show (goN rows (a+b) p).bind (stp rows)=(goN rows a p).bind λ q=>(goN rows b q).bind (stp rows)
  rw [goN_add rows a p b]
  cases goN rows a p<;>rfl
theorem goN_st {rows:List (List Int)} {p c:List Int} {k:Nat} (hk:rows[k]?=some c) (hp:p.length=10) (hc:c.length=10) : ∀ (s:Nat),(∀ t:Nat,t<s->fstI rows (mvd p c t)=some k)->goN rows s p=some (mvd p c s)
 | 0,_=>by
  show some p=_
  rw [show ((0:Nat):Int)=0 from rfl,mvd_zero hp hc]
 | s+1,h=>by
  show (goN rows s p).bind (stp rows)=_
  rw [goN_st hk hp hc s λ t ht=>h t (by omega)]
  show stp rows (mvd p c s)=_
  rw [stp_of (h s (by omega)) hk,mvd_add _ _ hp hc]
  rfl
theorem goN_plus {rows:List (List Int)} {p q c:List Int} {k a s:Nat} (h:goN rows a p=some q) (hk:rows[k]?=some c) (hp:q.length=10) (hc:c.length=10) (hs : ∀ t:Nat,t<s->fstI rows (mvd q c t)=some k):goN rows (a+s) p=some (mvd q c s):=by
 rw [goN_add,h]
 exact goN_st hk hp hc s hs
end Mth
namespace L2
open PySem PySem.Spec PyProof.Rows
inductive EqV (H:Hp):V->V->Bool->Prop
 | int (i j:Int):EqV H (.int i) (.int j) (i == j)
 | str (a b:Str):EqV H (.str a) (.str b) (a == b)
 | row {a b:Addr} {c d:List Int} (h1:H a=some (.tup (c.map V.int))) (h2:H b=some (.tup (d.map V.int))):EqV H (.ref a) (.ref b) (decide (c=d))
 | rowi {a:Addr} {c:List Int} (i:Int) (h1:H a=some (.tup (c.map V.int))):EqV H (.ref a) (.int i) false
 | irow {a:Addr} {c:List Int} (i:Int) (h1:H a=some (.tup (c.map V.int))):EqV H (.int i) (.ref a) false
end L2
namespace MinT
open PySem PyProof.Rows
open PySem.SeqAt
open PySem.AutoSeq1 (wpAny_loadPart')
open PySem.MeetsSeq PySem.MeetsSeq2 PySem.MeetsSeq3
end MinT
namespace L2
open PySem PySem.Spec PyProof.Rows
theorem comp_genW {J:It} {n:Nat} {D:Addr} {js:List (Option Nat)} {g:TG} {tc:TT} {te:TE} {σ:St} {H1:Hp} {Q:VK} (hn:n<=sizeLine) (Pv:Nat->St->Hp->List V->Prop) (h0:Pv 0 (pick js σ) (upd H1 D (.lst [])) [])
  (hp : ∀ i σ' H' ys,i<=n->Pv i σ' H' ys->H' D=some (.lst ys)/\ys.length<=i) (hgo : ∀ i σ' H' ys,i<n->Pv i σ' H' ys->J.go i H') (hst : ∀ σ' H' ys,Pv n σ' H' ys->J.stop n H'/\Q (.ref D) H')
  (hs : ∀ i σ' H' ys x H2,i<n->Pv i σ' H' ys->J.yld i H' x H2->g x σ' H2 λ σ2 H3=>tc σ2 H3 λ k H5 =>
   if k=true then te σ2 H5 λ y H4=>H4 D=some (.lst ys)/\Pv (i+1) σ2 (upd H4 D (.lst (ys++[y]))) (ys++[y]) else H5 D=some (.lst ys)/\Pv (i+1) σ2 H5 ys):CompW J D js g tc te σ H1 Q:=comp_gen hn Pv h0 hp hgo hst hs
section
variable {X:Cx}
theorem op_neV (hu:X.A.units+1<cLine):OpR X (compareOp .NotEq) (λ x y H Q => ∃ (a b:Addr) (xs ys:List V) (e:Nat->Bool),x=.ref a/\y=.ref b/\H a=some (.tup xs)/\H b=some (.tup ys)/\(∀ (j:Nat) x y,xs[j]?=some x->ys[j]?=some y->EqV H x y (e j))/\Q (.bl (!((List.range (min xs.length ys.length)).all e&&xs.length == ys.length))) H):=by
 intro pins s σ H x y v u Q I rx ry h
 obtain ⟨a,b,xs,ys,e,rfl,rfl,ha,hb,hs,q⟩:=h
 cases rx
 cases ry
 obtain ⟨its,r1,p1,_⟩:=I.tuple (SqT.of ha)
 obtain ⟨its2,r2,p2,_⟩:=I.tuple (SqT.of hb)
 have e1:=r1.length
 have e2:=r2.length
 have:=SeqAt.RcNeAt.tuples (A:=X.A) (s:=s) (e:=e) p1 p2 (Nat.lt_of_succ_lt hu) λ j h1 h2=>?_
 ·rw [List.size_toArray,List.size_toArray,<-e1,<-e2] at this
  exact this X.prog X.w _ _ ⟨.bl _,H,I,rfl,q⟩
 ·have hj:j<xs.length:=by rw [e1];simpa using h1
  have hj2:j<ys.length:=by rw [e2];simpa using h2
  obtain ⟨u,hu',ru⟩:=r1.get (List.getElem?_eq_getElem hj)
  obtain ⟨v,hv',rv⟩:=r2.get (List.getElem?_eq_getElem hj2)
  have k1:its.toArray[j]=u:=by
   have:its[j]?=some its.toArray[j]:=by simp
   rw [hu'] at this
   exact (Option.some.inj this).symm
  have k2:its2.toArray[j]=v:=by
   have:its2[j]?=some its2.toArray[j]:=by simp
   rw [hv'] at this
   exact (Option.some.inj this).symm
  rw [k1,k2]
  have hE:=hs j _ _ (List.getElem?_eq_getElem hj) (List.getElem?_eq_getElem hj2)
  generalize xs[j]=x at *
  generalize ys[j]=y at *
  generalize e j=k at *
  cases hE with
  | int i i' =>
   obtain ⟨t,rfl⟩:=ru
   obtain ⟨t',rfl⟩:=rv
   exact SeqAt.EqAt.int_int i t i' t'
  | str i i' =>
   obtain ⟨t,rfl⟩:=ru
   obtain ⟨t',rfl⟩:=rv
   exact SeqAt.EqAt.str_str i t i' t'
  | @row a' b' c d h1 h2 =>
   cases ru
   cases rv
   obtain ⟨is,q1,z1,_⟩:=I.tuple (SqT.of h1)
   obtain ⟨is2,q2,z2,_⟩:=I.tuple (SqT.of h2)
   by_cases ea:a'=b'
   ·subst ea
    rw [h1] at h2
    injection h2 with h2
    injection h2 with h2
    have:=map_int_inj h2
    subst this
    rw [decide_eq_true rfl]
    exact SeqAt.EqAt.same _
   ·exact SeqAt.EqAt.of_refs ea (eqAt_tup z1 z2 (intsAre_of q1) (intsAre_of q2) hu)
  | @rowi a' c i h1 =>
   cases ru
   obtain ⟨t,rfl⟩:=rv
   obtain ⟨is,q1,z1,_⟩:=I.tuple (SqT.of h1)
   exact SeqAt.EqAt.tuple_int i t z1 hu
  | @irow a' c i h1 =>
   cases rv
   obtain ⟨t,rfl⟩:=ru
   obtain ⟨is,q1,z1,_⟩:=I.tuple (SqT.of h1)
   exact SeqAt.EqAt.int_tuple i t z1 hu
end
end L2
namespace Mth
def laterO (s:Nat):FO->FO
 | .rests n c=>.rests (n - s) c
 | .round b l=>.round (b - s) l
 | .open_=>.open_
theorem goN_from {rows:List (List Int)} {p r:List Int} {s:Nat} (h:goN rows s p=some r) (j:Nat):goN rows j r=goN rows (s+j) p:=by
 rw [goN_add,h]
 rfl
theorem goN_mod {rows:List (List Int)} {p:List Int} {b l:Nat} (h:goN rows b p=goN rows (b+l) p) (hl:1<=l) : ∀ t,goN rows (b+t) p=goN rows (b+t % l) p:=by
 intro t
 induction t using Nat.strongRecOn with
 | ind t ih =>
  by_cases z:t<l
  ·rw [Nat.mod_eq_of_lt z]
  ·have e:=goN_shift h (t - l)
   rw [show b+l+(t - l)=b+t by omega] at e
   rw [<-e,ih (t - l) (by omega),show (t - l) % l=t % l from (Nat.mod_eq_sub_mod (by omega)).symm]
theorem fate_later {rows:List (List Int)} {p r:List Int} {m s:Nat} (hs:goN rows s p=some r) : ∀ {o:FO},o≠.open_->FateR rows m p o->FateR rows m r (laterO s o) /\ ∀ n c,o=.rests n c->s<=n
 | .rests n c,_,⟨h1,h2,h3⟩=>by
  have hsn:=goN_restLt h2 h3 hs
  refine ⟨⟨by omega,?_,h3⟩,λ n' c' z=>by cases z;exact hsn⟩
  rw [goN_from hs,show s+(n - s)=n by omega]
  exact h2
 | .round b l,_,⟨h1,h2,⟨c,h3,h4⟩,h5⟩=>by
  have hp:goN rows b p=goN rows (b+l) p:=by rw [h3,h4]
  refine ⟨⟨h1,by omega,?_,?_⟩,λ n' c' z=>by cases z⟩
  ·by_cases z:s<=b
   ·refine ⟨c,?_,?_⟩
    ·rw [goN_from hs,show s+(b - s)=b by omega];exact h3
    ·rw [goN_from hs,show s+(b - s+l)=b+l by omega];exact h4
   ·have e:=goN_shift hp (s - b)
    rw [show b+(s - b)=s by omega,show b+l+(s - b)=s+l by omega,hs] at e
    refine ⟨r,?_,?_⟩
    ·rw [goN_from hs,show s+(b - s)=s by omega];exact hs
    ·rw [goN_from hs,show s+(b - s+l)=s+l by omega];exact e.symm
  ·intro i j hij hj
   rw [goN_from hs,goN_from hs]
   by_cases z:s<=b
   ·exact h5 (s+i) (s+j) (by omega) (by omega)
   ·have hj':j<l:=by omega
    have e1:=goN_mod hp h1 (s - b+i)
    have e2:=goN_mod hp h1 (s - b+j)
    rw [show b+(s - b+i)=s+i by omega] at e1
    rw [show b+(s - b+j)=s+j by omega] at e2
    rw [e1,e2]
    have r1:=Nat.mod_lt (s - b+i) (show 0<l by omega)
    have r2:=Nat.mod_lt (s - b+j) (show 0<l by omega)
    have ne:(s - b+i) % l≠(s - b+j) % l:=λ y=>by
     have:(s - b+j - (s - b+i)) % l=0:=Nat.sub_mod_eq_zero_of_mod_eq y.symm
     rw [show s - b+j - (s - b+i)=j - i by omega,Nat.mod_eq_of_lt (by omega)] at this
     omega
    rcases Nat.lt_or_gt_of_ne ne with y | y
    ·exact h5 _ _ (by omega) (by omega)
    ·exact λ w=>h5 _ _ (show b+(s - b+j) % l<b+(s - b+i) % l by omega) (by omega) w.symm
end Mth
namespace L2
open PySem PySem.Spec PySem.SeqAt PyProof.Rows
section
variable {X:Cx}
theorem max_tup {prog:Program} {w:World} {A:Around} {E:Value->Shared->Prop} {s:Shared} {l:Addr} {vs:List Value} {ns:List Int} {Q:Value->Shared->Prop} (hh:A.handled=none)
  (hl:s.heap.IsTuple l vs.toArray) (hi:IntsAre vs ns) (hne:0<ns.length)
  (h : ∀ h' M (t:Tok) tk,(∀ b o,s.heap.get? b=some o->h'.get? b=some o)->M∈ns->(∀ a,a∈ns->a<=M)->Q (.int M t) { s with heap:=h',toks:=tk }) :
  wpAny (model prog w) A (call (.builtin "max") [.ref l]) Q E s:=by
 obtain ⟨xs,e⟩:=hi.allInts.items
 have hns:ns=xs.toList.map (·.1):=by rw [<-hi.numsOf,<-nums_intItems,<-e]
 have hsz:0<xs.size:=by
  have h3:=hne;rw [hns,List.length_map,Array.length_toList] at h3;exact h3
 rw [e] at hl
 have hlt:l<s.heap.objs.size:=by obtain ⟨_,e,_⟩:=hl;exact Heap.lt_size e
 refine call_max_walk (wpAny_pyIter_tuple hl ?_)
 refine ⟨_,_,_,_,_,_,_,rfl,Walks.tuple (A:=A.in1) hh _ l (Nat.ne_of_lt hlt) (intItems xs),⟨⟨_,Heap.get?_push_size _ rfl,rfl,rfl⟩,hl.push _⟩,λ c hc=>?_,by simpa [intItems] using hsz,CmpOf.ints_gt (numAt xs) (λ _ _=>intItems_at),λ v h' tk hP hk=>?_⟩
 ·show c<(s.heap.push _).objs.size
  rw [Heap.size_push]
  rcases List.mem_cons.mp hc with rfl | hc
  ·exact Nat.lt_succ_self _
  ·rcases List.mem_cons.mp hc with rfl | hc
   ·exact Nat.lt_succ_of_lt hlt
   ·cases hc
 ·have hv:(intItems xs)[argBest (λ i j=>decide (numAt xs i > numAt xs j)) (xs.size - 1)]?=some v:=by simpa [intItems] using hP
  obtain ⟨t,rfl⟩:=intItems_at hv
  obtain ⟨h1,h2⟩:=argBest_gt (numAt xs) (xs.size - 1)
  refine h _ _ t tk (λ b o eb=>hk b o (λ hm=>?_) (Heap.get?_push_of_some _ eb)) ?_ λ a ha=>?_
  ·rcases List.mem_cons.mp hm with e1 | hm
   ·exact absurd (e1 ▸ Heap.lt_size eb) (Nat.lt_irrefl _)
   ·cases hm
  ·rw [hns,numAt_eq];exact getD_mem (by rw [List.length_map,Array.length_toList];omega)
  ·rw [hns] at ha
   obtain ⟨j,hj,rfl⟩:=mem_getD ha
   rw [List.length_map,Array.length_toList] at hj
   rw [<-numAt_eq];exact h2 j (by omega)
theorem call_maxT (hc:X.calm=true):CallR X (.builtin "max") (λ xs H Q => ∃ (p:Addr) (ns:List Int),xs=[.ref p]/\SqT X.K H p (ns.map V.int)/\ns≠[] /\ ∀ M,M∈ns->(∀ a,a∈ns->a<=M)->Q (.int M) H):=by
 intro pins s σ H xs us Q I r h
 obtain ⟨p,ns,rfl,hq,hne,q⟩:=h
 obtain ⟨u,rfl,rx⟩:=vals1 r
 cases rx
 obtain ⟨its,r',pl,hz⟩:=I.tuple hq
 refine max_tup (I.ok.hd.1 hc) pl (intsAre_of r') (by cases ns with | nil=>exact absurd rfl hne | cons=>simp) λ h' M t tk k m1 m2=>?_
 exact ⟨.int M,H,I.kept k,⟨_,rfl⟩,q M m1 m2⟩
end
end L2
namespace W2
open PySem L2 Mth
theorem range_filter_snoc {t:Nat->Bool} (i:Nat):(List.range (i+1)).filter t=(List.range i).filter t++(if t i=true then [i] else []):=by
 rw [List.range_succ,List.filter_append]
 congr 1
 by_cases z:t i=true
 ·simp [z]
 ·simp [z]
end W2
namespace L2
open PySem PySem.Spec PyProof.Rows
def Itx (x:Str):It:=⟨λ i _=>i<x.cps.size,λ i H y H'=>H'=H /\ ∃ c,x.cps[i]?=some c/\y=.str ⟨#[c]⟩,λ i _=>x.cps.size<=i⟩
theorem turn_str {c:Bool} (hcm:c=true) {P:Program} {w:World} {K:PySem.W.Frag} {tg:Expr} (x:Str) (t:Tok) (it:Addr):Turn P w K c tg (Itx x) [it] it (λ i h=>h.IsStrIter it "str_ascii_iterator" x t i) where
 mem:=by simp
 obj:=λ i h st b hb=>by
  have e:b=it:=by simpa using hb
  subst e
  obtain ⟨o,e,c,d⟩:=st
  exact ⟨o,e,λ v z=>by rw [d] at z;cases z⟩
 keep:=λ i h h' st k=>by
  obtain ⟨o,e,c,d⟩:=st
  exact ⟨o,k it (by simp) o e,c,d⟩
 item:=by
  intro X hP hw hK hkc hc i pins s σ H E I hf st hg
  subst hP hw hK
  have hi:i<x.cps.size:=hg
  have hx:x.cps[i]?=some x.cps[i]:=Array.getElem?_eq_getElem hi
  obtain ⟨f0,f1,f2,f3,f4,f5⟩:=hf it (by simp)
  refine wpAny_pyNext_ascii_item st hx λ h' st' sb=>?_
  have I1:Inv X pins σ H { s with heap:=h',toks:=s.toks+1 }:=I.turned (λ b o hb e=>(sb.2 b (by simpa using hb)).trans e) f0 f1 f3 f4 f5
  obtain ⟨o,e,c,d⟩:=id st'
  exact ⟨_,rfl,go_of (s:={ s with heap:=h',toks:=s.toks+1 }) e c d (by decide) ⟨.str ⟨#[x.cps[i]]⟩,H,I1,⟨_,rfl⟩,⟨rfl,_,hx,rfl⟩,st',λ b hb=>(hf b hb).1⟩⟩
 done:=by
  intro X hP hw hK hkc hc i pins s σ H E I hf st hg
  subst hP hw hK
  have hi:x.cps.size<=i:=hg
  obtain ⟨f0,f1,f2,f3,f4,f5⟩:=hf it (by simp)
  exact wpAny_pyNext_ascii_end (I.ok.hd.1 (hkc.trans hcm)) st (Array.getElem?_eq_none hi) λ h' eb=>⟨rfl,I.turned (t':=s.toks) (λ b o hb e=>eb b o hb e) f0 f1 f3 f4 f5⟩
 self:=λ _ _ _ _ _ st h=>wpAny_pyIter_striter_ascii st h
section
variable {X:Cx} {tg:Expr}
def iStr (tl:TE):TI:=λ σ H R=>tl σ H λ v H1 => ∃ x:Str,v=.str x/\x.cps.all (· < 128)=true/\R (Itx x) H1
theorem pi_str {l:Expr} {tl:TE} (hl:PE X l tl) (hcm:X.calm=true:=by rfl):PI X tg l (iStr tl):=by
 intro pins s σ H R I h
 refine thn (hl pins s σ H _ I h) λ v s1 ⟨y,H1,I1,r1,q1⟩=>?_
 obtain ⟨x,e,ha,q⟩:=q1
 subst e
 obtain ⟨t,rfl⟩:=(show ∃ t,v=Value.str x t from r1)
 refine wpAny_pyIter_ascii ha ?_
 refine ⟨s1.heap.objs.size,[s1.heap.objs.size],_,_,H1,rfl,I1.kept (t':=s1.toks) λ b o e=>Heap.get?_push_of_some _ e,turn_str hcm x t _,⟨_,Heap.get?_push_size _ rfl,rfl,rfl⟩,λ b hb=>?_,q⟩
 have e:b=s1.heap.objs.size:=by simpa using hb
 subst e
 exact I1.fpOk (Nat.le_refl _) (I1.hok.fresh (Nat.le_refl _))
theorem qi_str {l:Expr} {tl:TE} (hl:QE X l tl) (hcm:X.calm=true:=by rfl):QI X tg l (iStr tl):=⟨pi_str hl.o hcm⟩
end
end L2
namespace W2
open PySem L2 Mth
theorem comp_strG {D:Addr} {js:List (Option Nat)} {tc:TT} {te:TE} {σ:St} {H1:Hp} {Q:VK} {x:Str} {σ0:St} {t:Nat->Bool} {f:Nat->V} (hn:x.cps.size<=sizeLine) (hp : ∃ u,pick js σ=u::σ0) (hD:H1 D=none)
  (ht : ∀ (i c:Nat) (H':Hp) (R:Bool->Hp->Prop),Same H1 H'->x.cps[i]?=some c->(∀ H2,Same H' H2->R (t i) H2)->tc (some (.str ⟨#[c]⟩)::σ0) H' R)
  (hs : ∀ (i c:Nat) (H':Hp) (R:VK),Same H1 H'->x.cps[i]?=some c->t i=true->(∀ H2,Same H' H2->R (f i) H2)->te (some (.str ⟨#[c]⟩)::σ0) H' R)
  (q : ∀ H',Same H1 H'->H' D=some (.lst (((List.range x.cps.size).filter t).map f))->Q (.ref D) H'):CompW (Itx x) D js (gName 0) tc te σ H1 Q:=by
 obtain ⟨u0,hp⟩:=hp
 refine comp_genW (n:=x.cps.size) hn (λ i σ' H' zs=>(∃ u:Option V,σ'=u::σ0)/\Same H1 H'/\H' D=some (.lst zs)/\zs.length<=i/\zs=((List.range i).filter t).map f) ⟨⟨u0,hp⟩,Same.new hD,upd_same,Nat.le_refl _,rfl⟩ (λ i σ' H' zs _ ⟨_,_,h3,h4,_⟩=>⟨h3,h4⟩) (λ i σ' H' zs hi _=>hi) (λ σ' H' zs ⟨_,s',h3,_,e⟩=>⟨Nat.le_refl _,?_⟩) ?_
 ·refine q H' s' ?_
  rw [h3,e]
 ·rintro i σ' H' zs v H2 hi ⟨⟨u,rfl⟩,s',h3,h4,e⟩ ⟨rfl,c,hc,rfl⟩
  refine ht i c _ _ s' hc λ H3 s3=>?_
  cases hb':t i with
  | true =>
   refine hs i c _ _ (s'.trans s3) hc hb' λ H4 s4=>⟨s4 _ _ (s3 _ _ h3),⟨_,rfl⟩,?_,upd_same,?_,?_⟩
   ·intro c o e'
    rw [upd_ne (ne_of_none e' hD)]
    exact s4 _ _ (s3 _ _ (s' c o e'))
   ·rw [List.length_append];show zs.length+1<=i+1;omega
   ·rw [range_filter_snoc,e]
    simp [hb']
  | false =>
   refine ⟨s3 _ _ h3,⟨_,rfl⟩,s'.trans s3,s3 _ _ h3,by omega,?_⟩
   rw [range_filter_snoc,e]
   simp [hb']
end W2
namespace L2
open PySem PySem.Spec PyProof.Rows W2
structure Mf (K:PySem.W.Frag) (C:Addr) (m q:Str) (st:Stmt) (ps:List Str) (f:Addr) (fd:FuncData):Prop where
 fn:Fun K m q st f fd
 me:Meth K C m f
 bd:Binds K fd ps []
structure Mi (K:PySem.W.Frag) (C:Addr) (q:Str) (st:Stmt) (ps:List Str) (f:Addr) (fd:FuncData):Prop where
 fn:Fun K "__init__" q st f fd
 mks:Mk K C f
 bd:Binds K fd ps []
section
variable {X:Cx} {CX:CXT} {k:Nat} {f C:Addr} {fd:FuncData} {ps:List Str} {sp:Sp} {dvs:List V} {ds:List Value} {E:XK} {x m fl:Str} {p pos apos pos':Pos} {e o value:Expr} {es:List Expr} {ta tv:TE} {t:TA}
theorem qe_fld (he:QE X e ta) (hb:attributeBase e fl X.env (eval e X.env)=eval e X.env):QE X (.Attribute e fl pos) (tFld X.K ta fl):=⟨pe_fld he.o hb⟩
theorem qs_fld (ha:QE X o ta) (hv:QE X value tv) (hs:swapsWith value (some (.Attribute o fl pos')) pos.line X.env=pure false):QS X (.Assign [.Attribute o fl pos'] value pos) (sFld X.K ta tv fl):=⟨ps_fld ha.o hv.o hs⟩
theorem qe_meth {pl:Sem Bool} (he:QE X o ta) (c:Cls X.K C) (hm:Meth X.K C m f) (F:FnOk X.prog X.w X.K X.mg X.base CX k f fd ps sp) (hr:Room k X.A) (hb:Binds X.K fd ps ds) (hd:Vals dvs ds) (hx:Passes CX X E) (ha:QA X (e::es) t)
  (hst:starEach (e::es) X.env=(false,eval e X.env)::starEach es X.env:=by rfl) (hpl:(backTo pos (starEach es X.env)).any (·.1)=false:=by rfl)
  (ht:eval (.Call (.Attribute o m apos) (e::es) [] pos) X.env=(do
   let ov ← eval o X.env
   standAt apos.atName
   let (f,first) ← holding [ov] (getMethod ov m pl)
   callWith pos f first (backTo pos (starEach (e::es) X.env)) (backToKw pos (keywordEach [] X.env))):=by rfl) :
  QE X (.Call (.Attribute o m apos) (e::es) [] pos) (tMeth C m sp dvs E ta t):=⟨pe_meth (pl:=pl) he.o c hm F hr hb hd hx ha.o hst hpl ht⟩
theorem qe_meth0 {pl:Sem Bool} (he:QE X o ta) (c:Cls X.K C) (hm:Meth X.K C m f) (F:FnOk X.prog X.w X.K X.mg X.base CX k f fd ps sp) (hr:Room k X.A) (hb:Binds X.K fd ps ds) (hd:Vals dvs ds) (hx:Passes CX X E)
  (ht:eval (.Call (.Attribute o m apos) [] [] pos) X.env=(do
   let ov ← eval o X.env
   standAt apos.atName
   let (f,first) ← holding [ov] (getMethod ov m pl)
   callWith pos f first (backTo pos (starEach [] X.env)) (backToKw pos (keywordEach [] X.env))):=by rfl) :
  QE X (.Call (.Attribute o m apos) [] [] pos) (tMeth C m sp dvs E ta tNil):=⟨pe_meth0 (pl:=pl) he.o c hm F hr hb hd hx ht⟩
theorem qe_make (M:Mk X.K C f) (F:FnOk X.prog X.w X.K X.mg X.base CX k f fd ps sp) (hr:Room (k+1) X.A) (hg:Gl X x) (hm:X.mg x=some (.ref C)) (hb:Binds X.K fd ps ds) (hd:Vals dvs ds) (hx:Passes CX X E)
  (ha:QA X (e::es) t) (hdb:(x == ("__debug__" : Str))=false:=by decide) (he:starEach (e::es) X.env=(false,eval e X.env)::starEach es X.env:=by rfl) (hpl:(backTo pos (starEach es X.env)).any (·.1)=false:=by rfl) :
  QE X (.Call (.Name x p) (e::es) [] pos) (tMake C sp dvs E t):=⟨pe_make M F hr hg hm hb hd hx ha.o hdb he hpl⟩
end
abbrev kS (x:Str):Key:=Sum.inr x
section
variable {X:Cx}
theorem op_notInDS (hu:X.A.units+1<cLine):OpR X (compareOp .NotIn) (λ y x H Q => ∃ (n:Str) (d:Addr) (kvs:List (Key×V)),y=.str n/\x=.ref d/\H d=some (.dK kvs)/\Q (.bl (!(valV kvs (kS n)).isSome)) H):=by
 intro pins s σ H y x u v Q I ry rx h
 obtain ⟨n,d,kvs,rfl,rfl,hd,q⟩:=h
 cases rx
 exact d_notIn hu I (DGet.k (k:=kS n) hd) ry λ s3 I3=>⟨.bl _,H,I3,rfl,q⟩
def tDGetS (td ty:TE):TE:=λ σ H Q=>td σ H λ x H1=>ty σ H1 λ y H2 => ∃ (d:Addr) (n:Str) (kvs:List (Key×V)) (v:V),x=.ref d/\y=.str n/\H2 d=some (.dK kvs)/\valV kvs (kS n)=some v/\Q v H2
theorem qe_dgetS {o i:Expr} {td ty:TE} {pos:Pos} (hu:X.A.units+1<cLine) (ho:QE X o td) (hi:QE X i ty) (hs:NoSl i):QE X (.Subscript o i pos) (tDGetS td ty):=⟨by
 intro pins s σ H Q I h
 refine subD_of PySem.F.slot_dict_getitem.lookup hs (thn (ho.o pins s σ H _ I h) λ u s1 ⟨x,H1,I1,rx,q1⟩=>thn (hi.o pins s1 σ H1 _ I1 q1) λ iv s2 ⟨y,H2,I2,ry,q2⟩=>?_)
 obtain ⟨d,n,kvs,v,rfl,rfl,hd,hv,q⟩:=q2
 obtain rfl:u=Value.ref d:=rx
 have g:DGet H2 d (.str n) (some v):=by rw [<-hv];exact DGet.k (k:=kS n) hd
 exact ⟨dict_typeIs I2 g,d_getItem hu I2 g ry λ w' s3 I3 rw'=>⟨v,H2,I3,rw',q⟩⟩⟩
def sDPutS (td ty tv:TE):TS:=λ D σ H=>tv σ H λ v H1=>td σ H1 λ x H2=>ty σ H2 λ y H3 => ∃ (d:Addr) (n:Str) (kvs:List (Key×V)),x=.ref d/\y=.str n/\H3 d=some (.dK kvs)/\kvs.length<sizeLine /\ ∀ H4,W2.But d H3 H4->H4 d=some (.dK (putK kvs (kS n) v))->D.nx σ H4
theorem qs_dputS {o i value:Expr} {td ty tv:TE} {pos pos':Pos} (hu:X.A.units+1<cLine) (ho:QE X o td) (hi:QE X i ty) (hv:QE X value tv) (hs:swapsWith value (some (.Subscript o i pos')) pos.line X.env=pure false) :
  QS X (.Assign [.Subscript o i pos'] value pos) (sDPutS td ty tv):=⟨by
 intro pins s σ H D I h
 refine wpAny_Assign_Subscript (thn (hv.o pins s σ H _ I h) λ r s1 ⟨v,H1,I1,rv,q1⟩=>thn (ho.o pins s1 σ H1 _ I1 q1) λ u s2 ⟨x,H2,I2,rx,q2⟩=>thn (hi.o pins s2 σ H2 _ I2 q2) λ iv s3 ⟨y,H3,I3,ry,q3⟩=>?_) hs
 obtain ⟨d,n,kvs,rfl,rfl,hd,hl,q⟩:=q3
 obtain rfl:u=Value.ref d:=rx
 exact d_setItem hu I3 (DPut.k (k:=kS n) hd hl) ry rv λ s4 I4=>⟨σ,_,I4,q _ W2.But.upd upd_same⟩⟩
def rDPopS:V->List V->Hp->VK->Prop:=λ x vs H Q => ∃ (d:Addr) (n:Str) (kvs:List (Key×V)) (v:V),x=.ref d/\vs=[.str n]/\H d=some (.dK kvs)/\valV kvs (kS n)=some v /\ ∀ H',W2.But d H H'->H' d=some (.dK (dropK kvs (kS n)))->Q v H'
theorem mt_dpopS:MtR X "dict.pop" rDPopS:=by
 intro pins s σ H x vs v us Q I rx rv h
 obtain ⟨d,n,kvs,y,rfl,rfl,hd,hv,q⟩:=h
 cases rx
 obtain ⟨u,rfl,ru⟩:=rv.one
 exact d_pop I hd (k:=kS n) ru hv (.inl rfl) λ w' s' I' rw'=>⟨y,_,I',rw',q _ W2.But.upd upd_same⟩
def rDGetS:V->List V->Hp->VK->Prop:=λ x vs H Q => ∃ (d:Addr) (n:Str) (kvs:List (Key×V)),x=.ref d/\vs=[.str n]/\H d=some (.dK kvs)/\Q ((valV kvs (kS n)).getD .non) H
theorem mt_dgetS:MtR X "dict.get" rDGetS:=by
 intro pins s σ H x vs v us Q I rx rv h
 obtain ⟨d,n,kvs,rfl,rfl,hd,q⟩:=h
 cases rx
 obtain ⟨u,rfl,ru⟩:=rv.one
 obtain ⟨t,rfl⟩:=(show ∃ t,u=Value.str n t from ru)
 obtain ⟨_,hm,xs,rel,dd⟩:=dk_of I.hok hd
 refine call_meetsIn PySem.F.slot_dict_get dd.typeIs PySem.F.entry_dict_get (PySem.F.args_dict_get_2 _ _) (meets_dict_get (mixKind X.prog X.w) d (mixKind_str X.prog X.w n t) hm) ⟨_,dd.mapOf,?_⟩
 exact ⟨(valV kvs (kS n)).getD .non,H,I.tok _,(rel.val (kS n)).getD (show RelV V.non Value.none from rfl),q⟩
theorem call_lenD:CallR X (.builtin "len") (λ xs H Q => ∃ (d:Addr) (kvs:List (Key×V)),xs=[V.ref d]/\H d=some (.dK kvs)/\Q (.int kvs.length) H):=by
 intro pins s σ H xs us Q I r h
 obtain ⟨d,kvs,rfl,hd,q⟩:=h
 obtain ⟨u,rfl,rx⟩:=vals1 r
 cases rx
 exact d_len I (.inl hd) λ t s' I'=>⟨.int _,H,I',⟨t,rfl⟩,q⟩
end
end L2
namespace Mth
open PySem PySem.NumText
abbrev sg (c:Nat):Str:=⟨#[c]⟩
abbrev sgs (x:Str):List Nat:=x.cps.toList
instance (x:List Nat):Decidable (AllDigits x):=by unfold AllDigits;infer_instance
def Asc (x:Str):Prop := ∀ c∈sgs x,c<128
theorem Asc.all {x:Str} (h:Asc x):x.cps.all (· < 128)=true:=by
 rw [Array.all_eq_true']
 intro c hc
 exact decide_eq_true (h c (Array.mem_toList_iff.mpr hc))
end Mth
namespace Tp
open PySem PyProof.Rows
open AutoSeq1 (wpAny_loadPart')
end Tp
namespace Sds
open PySem PySem.W PyProof.Rows L2
section
variable {prog:Program} {w:World} {A:Around} {E:Value->Shared->Prop} {s:Shared}
theorem take_all {T:String} {r d:Addr} {n:Nat} {P:Nat->Value->Prop} {OK:Heap->Prop} {R:List Value->Shared->Prop} (K:KdlSrc prog w T r d n P OK) (hh:A.handled=none) (hok:OK s.heap) (hn:n<=sizeLine)
  (h : ∀ (g:Heap) (tk:Nat) (acc:Array Value),(∀ b o,s.heap.get? b=some o->g.get? b=some o)->s.heap.objs.size<g.objs.size->ItemsOf P acc n->R acc.toList { s with heap:=g,toks:=tk }) :
  wpAny (model prog w) A (collect (.ref r)) R E s:=by
 have lt:=K.there _ hok;have mine:(s.heap.push (seqObj "list" #[] 0)).get? s.heap.objs.size=some (seqObj "list" #[] 0):=Heap.get?_push_size _ rfl
 have key:=kdl_extend (A:=A) (s:={ s with heap:=s.heap.push (seqObj "list" #[] 0) })
  (R:=λ (z:Result) (s':Shared) => ∃ (g:Heap) (tk:Nat) (acc:Array Value) (c:Nat),z=.ok (.ret (.ref s.heap.objs.size))/\s'={ s with heap:=g,toks:=tk }/\(∀ b o,s.heap.get? b=some o->g.get? b=some o)/\g.get? s.heap.objs.size=some { cls:=.type "list", dict:=none,data:=.seq acc c,slots:=#[] }/\ItemsOf P acc n)
  K hh (K.keep _ _ hok λ b _ o e=>Heap.get?_push_of_some _ e) s.heap.objs.size (Nat.ne_of_gt lt.1) (Nat.ne_of_gt lt.2) (.ref s.heap.objs.size) 0 mine
  (λ g tk acc c hk hS hacc=>⟨g,tk,acc,c,rfl,rfl,λ b o e=>hk b o (Nat.ne_of_lt (Heap.lt_size e)) (Heap.get?_push_of_some _ e),hS,hacc⟩) hn
 unfold collect
 refine wpAny_bind (wpAny_runValue (codeAny_builtin entry_proto_collect' (show wpAny _ _ (do again (.builtin "list.__iadd__" ⟨[<-newList [],.ref r],[]⟩)) _ _ s from ?_)))
 refine wpAny_bind (wpAny_newList (wpAny_pure ⟨Code.quiet_builtin _ (by decide +kernel),codeAny_builtin entry_list_iadd' (show wpAny _ _ (Builtin.List.listExtendWith (.ref s.heap.objs.size) (.ref r) (.ref s.heap.objs.size)) _ _ { s with heap:=s.heap.push (seqObj "list" #[] 0) } from ?_)⟩))
 refine wpAny_mono key (λ z s' x=>?_) λ e s' x=>?_
 ·cases z with
  | again c =>
   refine ⟨x.1,codeAny_mono x.2 λ _ _ ⟨g,tk,acc,c',e1,e2,hk,hS,hacc⟩=>?_⟩
   subst e1 e2
   exact (show wpAny _ A (load s.heap.objs.size>>=_) _ _ _ from wpAny_bind (wpAny_load hS (wpAny_pure (h g tk acc hk (Heap.lt_size hS) hacc))))
  | done v =>
   obtain ⟨g,tk,acc,c',e1,e2,hk,hS,hacc⟩:=x
   subst e2
   cases e1
   exact (show wpAny _ A (load s.heap.objs.size>>=_) _ _ _ from wpAny_bind (wpAny_load hS (wpAny_pure (h g tk acc hk (Heap.lt_size hS) hacc))))
 ·obtain ⟨_,_,_,_,e1,_⟩:=x
  cases e1
theorem sorted_dict {d:Addr} {vs:List (Key×Value)} {ns:List Str} {R:Value->Shared->Prop} (hh:A.handled=none) (lo:(d == sysModules)=false) (dd:s.heap.DictOf (mixKind prog w) d vs) (hk:vs.map (·.1)=ns.map kS) (h64:ns.length<64)
  (k : ∀ (h':Heap) (tk:Nat) (p:Addr) (out:Array Value) (e:Nat) (ms:List Str),(∀ b ob,s.heap.get? b=some ob->h'.get? b=some ob)->s.heap.objs.size<=p->StrsAre out.toList ms->ms.Perm ns->sortedS ms=true->h'.get? p=some (seqObj "list" out e)->R (.ref p) { s with heap:=h',toks:=tk }) :
  wpAny (model prog w) A (call (.builtin "sorted") [.ref d]) R E s:=by
 obtain ⟨ep,hat⟩:=dd.dictAt
 have hl:vs.length=ns.length:=by
  have:=congrArg List.length hk
  simpa using this
 refine Calls.call_function_entry kind_sorted plain_sorted entry_sorted (args_sorted1 _) (show wpAny _ _ (Builtin.«sorted» _) _ _ s from ?_)
 unfold Builtin.«sorted»
 refine wpAny_bind (m:=checkCount "sorted" 1 1 _) (wpAny_pure (wpAny_bind (take_all (A:=A.in1) (kdl_dict (knd:=mixKind prog w) (kvs:=vs) (ep:=ep) lo) hh hat (by rw [hl,sizeLine_eq];omega) λ h1 t1 acc k1 lt1 hacc=>wpAny_bind (wpAny_newList ?_ ?_))))
 ·have al:acc.toList.length=ns.length:=by rw [Array.length_toList,hacc.1,hl]
  have at' : ∀ (j:Nat) (v:Value),acc.toList[j]?=some v -> ∃ x t,ns[j]?=some x/\v=.str x t:=λ j v hv=>by
   obtain ⟨key,x,hx,hi⟩:=hacc.2 j v (by rw [<-Array.getElem?_toList];exact hv)
   have h2:(ns.map kS)[j]?=some key:=by rw [<-hk,List.getElem?_map,hx];rfl
   rw [List.getElem?_map] at h2
   obtain ⟨y,hy,e⟩:=Option.map_eq_some_iff.mp h2
   subst e
   rcases keyIs_shape (show keyIs (kS y) v=true from hi) with ⟨i,t,e,_⟩ | ⟨z,t,e,rfl⟩
   ·cases e
   ·cases e
    exact ⟨y,t,hy,rfl⟩
  have hS:StrsAre acc.toList ns:=by
   have h1:=strsAre_map acc.toList λ v hv=>by
    obtain ⟨j,hj⟩:=List.getElem?_of_mem hv
    obtain ⟨x,t,_,e⟩:=at' j v hj
    exact ⟨x,t,e⟩
   have e:acc.toList.map strOf=ns:=by
    apply List.ext_getElem?
    intro j
    rw [List.getElem?_map]
    cases hj:acc.toList[j]? with
    | some v =>
     obtain ⟨x,t,hx,rfl⟩:=at' j v hj
     rw [hx]
     rfl
    | none =>
     have:=List.getElem?_eq_none_iff.mp hj
     rw [List.getElem?_eq_none (by omega)]
     rfl
   rw [e] at h1
   exact h1
  have few:acc.toList.length<64:=by omega
  have at1:(h1.push (seqObj "list" acc.toList.toArray 0)).get? h1.objs.size=some (seqObj "list" acc.toList.toArray 0):=Heap.get?_push_size _ rfl
  refine wpAny_bind (wpAny_holding (wpAny_call_entry slot_list_sort ⟨_,at1,rfl⟩ entry_list_sort (list_sort_treeK strKind_oneLt at1 hS.keysOf (λ v₁ v₂ rest e=>keyKind_strs (by rw [<-e];exact hS)) few λ st' hp hs=>⟨_,rfl,wpAny_pure ⟨_,rfl,?_⟩⟩) (args_list_sort _)))
  obtain ⟨ms,m1,m2,m3⟩:=sorted_out_str hS hp hs
  obtain ⟨e,he⟩:=sortedHeap_at (out:=(arrOf st').map (·.2)) at1
  exact k _ t1 h1.objs.size _ e ms (λ b' ob y=>(sortedHeap_old (Nat.ne_of_lt (Heap.lt_size (k1 b' ob y))) (by rw [Heap.size_push];exact Nat.lt_succ_of_lt (Heap.lt_size (k1 b' ob y)))).trans (Heap.get?_push_of_some _ (k1 b' ob y))) (Nat.le_of_lt lt1) m1 m2 m3 he
 ·rw [Array.length_toList,hacc.1,hl,sizeLine_eq];omega
end
end Sds
namespace L2
open PySem PySem.Spec PyProof.Rows
section
variable {X:Cx}
theorem vals_strsA : ∀ {vs:List Value} {ns:List Str},StrsAre vs ns->Vals (ns.map V.str) vs
 | _,_,.nil=>.nil
 | _,_,.cons y t h=>.cons ⟨t,rfl⟩ (vals_strsA h)
theorem call_sortedDS (hc:X.calm=true):CallR X (.builtin "sorted") (λ xs H Q => ∃ (d:Addr) (kvs:List (Key×V)) (ns:List Str),xs=[V.ref d]/\H d=some (.dK kvs)/\kvs.map (·.1)=ns.map kS/\ns.length<64 /\ ∀ ms:List Str,ms.Perm ns->sortedS ms=true->NewA (.lst (ms.map V.str)) H Q):=by
 intro pins s σ H xs us Q I r h
 obtain ⟨d,kvs,ns,rfl,hd,hk,h64,q⟩:=h
 obtain ⟨u,rfl,rx⟩:=vals1 r
 cases rx
 obtain ⟨_,lo,vs,rel,dd⟩:=dk_of I.hok hd
 refine Sds.sorted_dict (I.ok.hd.1 hc) lo dd (by rw [<-rel.keys];exact hk) h64 λ h3 tk3 pa out e ms old ge ho pm so at3=>?_
 refine ⟨.ref pa,_,I.laid (a:=pa) (t':=tk3) old ge (show ObjOk X.prog X.w _ _ _ (.lst (ms.map V.str)) from ⟨?_,out.toList,e,vals_strsA ho,?_⟩),rfl,(q ms pm so).at _ (I.hok.fresh ge)⟩
 ·rw [List.length_map,pm.length_eq,sizeLine_eq];omega
 ·exact at3
theorem op_neLS (hu:X.A.units+1<cLine):OpR X (compareOp .NotEq) (λ x y H Q => ∃ (a b:Addr) (xs:List V),x=.ref a/\y=.ref b/\H a=some (.lst xs)/\H b=some (.lst xs)/\(∀ x∈xs,scS x=true)/\Q (.bl false) H):=by
 intro pins s σ H x y v u Q I rx ry h
 obtain ⟨a,b,xs,rfl,rfl,ha,hb,hs,q⟩:=h
 cases rx
 cases ry
 obtain ⟨_,its,n1,rv,e1,pa⟩:=I.lstM ha
 obtain ⟨_,jts,n2,rw',e2,pb⟩:=I.lstM hb
 have la:s.heap.IsList a its.toArray:=⟨_,pa,rfl,n1,rfl⟩
 have lb:s.heap.IsList b jts.toArray:=⟨_,pb,rfl,n2,rfl⟩
 have l1:=rv.length
 have l2:=rw'.length
 have hsz:its.toArray.size=jts.toArray.size:=by rw [List.size_toArray,List.size_toArray,<-l1,<-l2]
 have:=SeqAt.RcNeAt.lists (A:=X.A) (s:=s) (e:=λ _=>true) la lb hsz (Nat.lt_of_succ_lt hu) λ j h1 h2=>eqAt_items hs rv rw' j h1 h2
 rw [show (!((List.range its.toArray.size).all λ _=>true))=false by
   rw [Bool.not_eq_false']
   rw [List.all_eq_true]
   intro _ _
   rfl] at this
 exact this X.prog X.w _ _ ⟨.bl false,H,I,rfl,q⟩
end
theorem qe_cD {X:Cx} {CX:CXT} {k:Nat} {f:Addr} {fd:FuncData} {ps:List Str} {sp:Sp} {E:XK} {x:Str} {p pos:Pos} {e:Expr} {es:List Expr} {t:TA} {st:Stmt} (F:FnOk X.prog X.w X.K X.mg X.base CX k f fd ps sp) (hr:Room k X.A) (hg:Gl X x) (D:W2.Df X.K X.mg x st ps f fd) (hx:Passes CX X E) (ha:QA X (e::es) t) (hdb:(x == ("__debug__" : Str))=false:=by decide) (he:starEach (e::es) X.env=(false,eval e X.env)::starEach es X.env:=by rfl) (hpl:(backTo pos (starEach es X.env)).any (·.1)=false:=by rfl):QE X (.Call (.Name x p) (e::es) [] pos) (tCall sp [] E t) :=
 qe_call F hr hg D.at_ D.fn.kp D.bd .nil hx ha hdb he hpl
end L2
namespace W2
open PySem L2 Mth Xn
def top (i:Nat):Stmt:=PySem.Challenge.pw_wholefract_k93_whole_a_bench_and_steps.main.body.getD i (.Pass ⟨0,0,0,0⟩)
abbrev s_is_whole:Stmt:=top 13
abbrev s_iw9:Stmt:=top 14
abbrev s_po9:Stmt:=top 15
abbrev s_ho9:Stmt:=top 16
abbrev s_wp9:Stmt:=top 17
abbrev s_ip9:Stmt:=top 18
abbrev s_if9:Stmt:=top 19
abbrev s_is_term:Stmt:=top 20
abbrev s_co9:Stmt:=top 23
abbrev s_fc9:Stmt:=top 24
abbrev s_fits:Stmt:=top 25
abbrev s_first_of:Stmt:=top 26
abbrev s_moved:Stmt:=top 27
abbrev s_first_fit:Stmt:=top 28
abbrev s_after:Stmt:=top 29
abbrev s_ss9:Stmt:=top 30
abbrev s_sl9:Stmt:=top 31
abbrev s_sf9:Stmt:=top 32
abbrev s_leap:Stmt:=top 33
abbrev s_is_name:Stmt:=top 40
abbrev s_gone_on:Stmt:=top 41
abbrev s_fate:Stmt:=top 43
abbrev s_l_cell_at:Stmt:=top 45
abbrev s_l_pot:Stmt:=top 46
abbrev s_l_take:Stmt:=top 47
abbrev s_l_order:Stmt:=top 48
abbrev s_l_places:Stmt:=top 49
abbrev s_l_primes:Stmt:=top 50
abbrev s_l_product:Stmt:=top 51
abbrev s_l_fraction:Stmt:=top 52
abbrev s_l_program:Stmt:=top 53
abbrev s_l_cp:Stmt:=top 54
abbrev s_l_line:Stmt:=top 55
abbrev s_l_later:Stmt:=top 56
abbrev s_l_runs:Stmt:=top 57
abbrev s_law:Stmt:=top 58
def inCls (s:Stmt) (j:Nat):Stmt:=match s with | .ClassDef _ _ _ b _ _ _ _ _ _ _=>b.getD j (.Pass ⟨0,0,0,0⟩) | s=>s
abbrev s_init_A:Stmt:=inCls (top 2) 0
theorem sc_init_A:FnScope ["self", "steps"] ["self", "steps"] (defScope s_init_A):=⟨rfl,rfl,rfl,by decide +kernel,rfl,by decide +kernel,by decide +kernel⟩
abbrev s_Binit:Stmt:=inCls (top 39) 0
abbrev s_Bput:Stmt:=inCls (top 39) 1
abbrev s_Brun:Stmt:=inCls (top 39) 2
abbrev s_Bdrop:Stmt:=inCls (top 39) 3
abbrev s_Bundo:Stmt:=inCls (top 39) 4
abbrev s_Bnames:Stmt:=inCls (top 39) 5
abbrev s_Bpowers:Stmt:=inCls (top 39) 6
abbrev s_Bgone:Stmt:=inCls (top 39) 7
abbrev s_Bheld_by:Stmt:=inCls (top 39) 8
abbrev s_Bdone:Stmt:=inCls (top 39) 9
abbrev s_Bhold:Stmt:=inCls (top 39) 10
theorem sc_is_whole:FnScope ["thing"] ["thing"] (defScope s_is_whole):=⟨rfl,rfl,rfl,by decide +kernel,rfl,by decide +kernel,by decide +kernel⟩
theorem sc_iw9:FnScope ["thing"] ["thing"] (defScope s_iw9):=⟨rfl,rfl,rfl,by decide +kernel,rfl,by decide +kernel,by decide +kernel⟩
theorem sc_po9:FnScope ["number"] ["number"] (defScope s_po9):=⟨rfl,rfl,rfl,by decide +kernel,rfl,by decide +kernel,by decide +kernel⟩
theorem sc_ho9:FnScope ["prime", "number", "times", "rest"] ["prime", "number"] (defScope s_ho9):=⟨rfl,rfl,rfl,by decide +kernel,rfl,by decide +kernel,by decide +kernel⟩
theorem sc_wp9:FnScope ["number", "rest", "prime"] ["number"] (defScope s_wp9):=⟨rfl,rfl,rfl,by decide +kernel,rfl,by decide +kernel,by decide +kernel⟩
theorem sc_ip9:FnScope ["thing"] ["thing"] (defScope s_ip9):=⟨rfl,rfl,rfl,by decide +kernel,rfl,by decide +kernel,by decide +kernel⟩
theorem sc_if9:FnScope ["thing", "top", "bottom"] ["thing"] (defScope s_if9):=⟨rfl,rfl,rfl,by decide +kernel,rfl,by decide +kernel,by decide +kernel⟩
theorem sc_is_term:FnScope ["thing"] ["thing"] (defScope s_is_term):=⟨rfl,rfl,rfl,by decide +kernel,rfl,by decide +kernel,by decide +kernel⟩
theorem sc_co9:FnScope ["program"] ["program"] (defScope s_co9):=⟨rfl,rfl,rfl,by decide +kernel,rfl,by decide +kernel,by decide +kernel⟩
theorem sc_fc9:FnScope ["fraction", "tops", "bottoms"] ["fraction"] (defScope s_fc9):=⟨rfl,rfl,rfl,by decide +kernel,rfl,by decide +kernel,by decide +kernel⟩
theorem sc_fits:FnScope ["changes", "powers", "change", "power"] ["changes", "powers"] (defScope s_fits):=⟨rfl,rfl,rfl,by decide +kernel,rfl,by decide +kernel,by decide +kernel⟩
theorem sc_first_of:FnScope ["rows", "powers", "number", "changes"] ["rows", "powers"] (defScope s_first_of):=⟨rfl,rfl,rfl,by decide +kernel,rfl,by decide +kernel,by decide +kernel⟩
theorem sc_moved:FnScope ["powers", "changes", "many"] ["powers", "changes", "many"] (defScope s_moved):=⟨rfl,rfl,rfl,by decide +kernel,rfl,by decide +kernel,by decide +kernel⟩
theorem sc_first_fit:FnScope ["program", "powers"] ["program", "powers"] (defScope s_first_fit):=⟨rfl,rfl,rfl,by decide +kernel,rfl,by decide +kernel,by decide +kernel⟩
theorem sc_after:FnScope ["program", "powers", "many", "rows", "reached", "done", "number"] ["program", "powers", "many"] (defScope s_after):=⟨rfl,rfl,rfl,by decide +kernel,rfl,by decide +kernel,by decide +kernel⟩
theorem sc_ss9:FnScope ["rows", "powers", "number", "used", "ends"] ["rows", "powers", "number"] (defScope s_ss9):=⟨rfl,rfl,rfl,by decide +kernel,rfl,by decide +kernel,by decide +kernel⟩
theorem sc_sl9:FnScope ["powers", "used"] ["powers", "used"] (defScope s_sl9):=⟨rfl,rfl,rfl,by decide +kernel,rfl,by decide +kernel,by decide +kernel⟩
theorem sc_sf9:FnScope ["powers", "used", "ahead", "many", "power", "change", "change_ahead", "lacking"] ["powers", "used", "ahead"] (defScope s_sf9):=⟨rfl,rfl,rfl,by decide +kernel,rfl,by decide +kernel,by decide +kernel⟩
theorem sc_leap:FnScope ["program", "powers", "many", "rows", "reached", "done", "stretches", "number", "steps"] ["program", "powers", "many"] (defScope s_leap):=⟨rfl,rfl,rfl,by decide +kernel,rfl,by decide +kernel,by decide +kernel⟩
theorem sc_is_name:FnScope ["thing"] ["thing"] (defScope s_is_name):=⟨rfl,rfl,rfl,by decide +kernel,rfl,by decide +kernel,by decide +kernel⟩
theorem sc_gone_on:FnScope ["program", "powers", "many", "rest"] ["program", "powers", "many"] (defScope s_gone_on):=⟨rfl,rfl,rfl,by decide +kernel,rfl,by decide +kernel,by decide +kernel⟩
theorem sc_fate:FnScope ["program", "powers", "most", "rows", "seen", "reached", "done", "number"] ["program", "powers", "most"] (defScope s_fate):=⟨rfl,rfl,rfl,by decide +kernel,rfl,by decide +kernel,by decide +kernel⟩
theorem sc_l_cell_at:FnScope ["script", "k"] ["script", "k"] (defScope s_l_cell_at):=⟨rfl,rfl,rfl,by decide +kernel,rfl,by decide +kernel,by decide +kernel⟩
theorem sc_l_pot:FnScope ["cell", "number", "j", "more"] ["cell"] (defScope s_l_pot):=⟨rfl,rfl,rfl,by decide +kernel,rfl,by decide +kernel,by decide +kernel⟩
theorem sc_l_take:FnScope ["pot", "far", "found"] ["pot", "far"] (defScope s_l_take):=⟨rfl,rfl,rfl,by decide +kernel,rfl,by decide +kernel,by decide +kernel⟩
theorem sc_l_order:FnScope ["pot", "wide", "found", "k"] ["pot", "wide"] (defScope s_l_order):=⟨rfl,rfl,rfl,by decide +kernel,rfl,by decide +kernel,by decide +kernel⟩
theorem sc_l_places:FnScope ["pot", "wide"] ["pot"] (defScope s_l_places):=⟨rfl,rfl,rfl,by decide +kernel,rfl,by decide +kernel,by decide +kernel⟩
theorem sc_l_primes:FnScope [] [] (defScope s_l_primes):=⟨rfl,rfl,rfl,by decide +kernel,rfl,by decide +kernel,by decide +kernel⟩
theorem sc_l_product:FnScope ["line", "found", "prime", "often", "turn"] ["line"] (defScope s_l_product):=⟨rfl,rfl,rfl,by decide +kernel,rfl,by decide +kernel,by decide +kernel⟩
theorem sc_l_fraction:FnScope ["pot", "places", "found", "turn", "place", "top", "bottom"] ["pot", "places"] (defScope s_l_fraction):=⟨rfl,rfl,rfl,by decide +kernel,rfl,by decide +kernel,by decide +kernel⟩
theorem sc_l_program:FnScope ["pot", "places", "most"] ["pot", "places", "most"] (defScope s_l_program):=⟨rfl,rfl,rfl,by decide +kernel,rfl,by decide +kernel,by decide +kernel⟩
theorem sc_l_cp:FnScope ["pot", "places", "most", "found", "some", "k", "sides", "turn", "line", "lap", "less", "top"] ["pot", "places", "most"] (defScope s_l_cp):=⟨rfl,rfl,rfl,by decide +kernel,rfl,by decide +kernel,by decide +kernel⟩
theorem sc_l_line:FnScope ["pot", "places", "most", "found", "place"] ["pot", "places", "most"] (defScope s_l_line):=⟨rfl,rfl,rfl,by decide +kernel,rfl,by decide +kernel,by decide +kernel⟩
theorem sc_l_later:FnScope ["due", "steps"] ["due", "steps"] (defScope s_l_later):=⟨rfl,rfl,rfl,by decide +kernel,rfl,by decide +kernel,by decide +kernel⟩
theorem sc_l_runs:FnScope ["pot", "program", "bench", "places", "steps", "turn", "share", "went"] ["pot", "program", "bench", "places"] (defScope s_l_runs):=⟨rfl,rfl,rfl,by decide +kernel,rfl,by decide +kernel,by decide +kernel⟩
theorem sc_law:FnScope ["script", "k", "pot", "places", "program", "line", "bench", "steps", "row", "due"] ["script"] (defScope s_law):=⟨rfl,rfl,rfl,by decide +kernel,rfl,by decide +kernel,by decide +kernel⟩
theorem sc_Binit:FnScope ["self", "program"] ["self", "program"] (defScope s_Binit):=⟨rfl,rfl,rfl,by decide +kernel,rfl,by decide +kernel,by decide +kernel⟩
theorem sc_Bput:FnScope ["self", "name", "powers"] ["self", "name", "powers"] (defScope s_Bput):=⟨rfl,rfl,rfl,by decide +kernel,rfl,by decide +kernel,by decide +kernel⟩
theorem sc_Brun:FnScope ["self", "name", "many", "begin", "end"] ["self", "name", "many"] (defScope s_Brun):=⟨rfl,rfl,rfl,by decide +kernel,rfl,by decide +kernel,by decide +kernel⟩
theorem sc_Bdrop:FnScope ["self", "name"] ["self", "name"] (defScope s_Bdrop):=⟨rfl,rfl,rfl,by decide +kernel,rfl,by decide +kernel,by decide +kernel⟩
theorem sc_Bundo:FnScope ["self", "deed"] ["self"] (defScope s_Bundo):=⟨rfl,rfl,rfl,by decide +kernel,rfl,by decide +kernel,by decide +kernel⟩
theorem sc_Bnames:FnScope ["self"] ["self"] (defScope s_Bnames):=⟨rfl,rfl,rfl,by decide +kernel,rfl,by decide +kernel,by decide +kernel⟩
theorem sc_Bpowers:FnScope ["self", "name"] ["self", "name"] (defScope s_Bpowers):=⟨rfl,rfl,rfl,by decide +kernel,rfl,by decide +kernel,by decide +kernel⟩
theorem sc_Bgone:FnScope ["self", "name"] ["self", "name"] (defScope s_Bgone):=⟨rfl,rfl,rfl,by decide +kernel,rfl,by decide +kernel,by decide +kernel⟩
theorem sc_Bheld_by:FnScope ["self", "name"] ["self", "name"] (defScope s_Bheld_by):=⟨rfl,rfl,rfl,by decide +kernel,rfl,by decide +kernel,by decide +kernel⟩
theorem sc_Bdone:FnScope ["self", "name", "what"] ["self", "name", "what"] (defScope s_Bdone):=⟨rfl,rfl,rfl,by decide +kernel,rfl,by decide +kernel,by decide +kernel⟩
theorem sc_Bhold:FnScope ["self", "name", "what"] ["self", "name", "what"] (defScope s_Bhold):=⟨rfl,rfl,rfl,by decide +kernel,rfl,by decide +kernel,by decide +kernel⟩
structure Tx (K:W.Frag) (mg:Str->Option Value) where
 f_is_whole:Addr
 fd_is_whole:FuncData
 D_is_whole:Df K mg "is_whole" s_is_whole ["thing"] f_is_whole fd_is_whole
 f_iw9:Addr
 fd_iw9:FuncData
 D_iw9:Df K mg "is_powers" s_iw9 ["thing"] f_iw9 fd_iw9
 f_po9:Addr
 fd_po9:FuncData
 D_po9:Df K mg "powers_of" s_po9 ["number"] f_po9 fd_po9
 f_ho9:Addr
 fd_ho9:FuncData
 D_ho9:Df K mg "how_often" s_ho9 ["prime", "number"] f_ho9 fd_ho9
 f_wp9:Addr
 fd_wp9:FuncData
 D_wp9:Df K mg "without_primes" s_wp9 ["number"] f_wp9 fd_wp9
 f_ip9:Addr
 fd_ip9:FuncData
 D_ip9:Df K mg "is_program" s_ip9 ["thing"] f_ip9 fd_ip9
 f_if9:Addr
 fd_if9:FuncData
 D_if9:Df K mg "is_fraction" s_if9 ["thing"] f_if9 fd_if9
 f_is_term:Addr
 fd_is_term:FuncData
 D_is_term:Df K mg "is_term" s_is_term ["thing"] f_is_term fd_is_term
 f_co9:Addr
 fd_co9:FuncData
 D_co9:Df K mg "changes_of" s_co9 ["program"] f_co9 fd_co9
 f_fc9:Addr
 fd_fc9:FuncData
 D_fc9:Df K mg "fraction_changes" s_fc9 ["fraction"] f_fc9 fd_fc9
 f_fits:Addr
 fd_fits:FuncData
 D_fits:Df K mg "fits" s_fits ["changes", "powers"] f_fits fd_fits
 f_first_of:Addr
 fd_first_of:FuncData
 D_first_of:Df K mg "first_of" s_first_of ["rows", "powers"] f_first_of fd_first_of
 f_moved:Addr
 fd_moved:FuncData
 D_moved:Df K mg "moved" s_moved ["powers", "changes", "many"] f_moved fd_moved
 f_first_fit:Addr
 fd_first_fit:FuncData
 D_first_fit:Df K mg "first_fit" s_first_fit ["program", "powers"] f_first_fit fd_first_fit
 f_after:Addr
 fd_after:FuncData
 D_after:Df K mg "after" s_after ["program", "powers", "many"] f_after fd_after
 f_ss9:Addr
 fd_ss9:FuncData
 D_ss9:Df K mg "stretch_steps" s_ss9 ["rows", "powers", "number"] f_ss9 fd_ss9
 f_sl9:Addr
 fd_sl9:FuncData
 D_sl9:Df K mg "steps_to_lack" s_sl9 ["powers", "used"] f_sl9 fd_sl9
 f_sf9:Addr
 fd_sf9:FuncData
 D_sf9:Df K mg "steps_to_fit" s_sf9 ["powers", "used", "ahead"] f_sf9 fd_sf9
 f_leap:Addr
 fd_leap:FuncData
 D_leap:Df K mg "leap" s_leap ["program", "powers", "many"] f_leap fd_leap
 f_is_name:Addr
 fd_is_name:FuncData
 D_is_name:Df K mg "is_name" s_is_name ["thing"] f_is_name fd_is_name
 f_gone_on:Addr
 fd_gone_on:FuncData
 D_gone_on:Df K mg "gone_on" s_gone_on ["program", "powers", "many"] f_gone_on fd_gone_on
 f_fate:Addr
 fd_fate:FuncData
 D_fate:Df K mg "fate" s_fate ["program", "powers", "most"] f_fate fd_fate
 f_l_cell_at:Addr
 fd_l_cell_at:FuncData
 D_l_cell_at:Df K mg "_law_cell_at" s_l_cell_at ["script", "k"] f_l_cell_at fd_l_cell_at
 f_l_pot:Addr
 fd_l_pot:FuncData
 D_l_pot:Df K mg "_law_pot" s_l_pot ["cell"] f_l_pot fd_l_pot
 f_l_take:Addr
 fd_l_take:FuncData
 D_l_take:Df K mg "_law_take" s_l_take ["pot", "far"] f_l_take fd_l_take
 f_l_order:Addr
 fd_l_order:FuncData
 D_l_order:Df K mg "_law_order" s_l_order ["pot", "wide"] f_l_order fd_l_order
 f_l_places:Addr
 fd_l_places:FuncData
 D_l_places:Df K mg "_law_places" s_l_places ["pot"] f_l_places fd_l_places
 f_l_primes:Addr
 fd_l_primes:FuncData
 D_l_primes:Df K mg "_law_primes" s_l_primes [] f_l_primes fd_l_primes
 f_l_product:Addr
 fd_l_product:FuncData
 D_l_product:Df K mg "_law_product" s_l_product ["line"] f_l_product fd_l_product
 f_l_fraction:Addr
 fd_l_fraction:FuncData
 D_l_fraction:Df K mg "_law_fraction" s_l_fraction ["pot", "places"] f_l_fraction fd_l_fraction
 f_l_program:Addr
 fd_l_program:FuncData
 D_l_program:Df K mg "_law_program" s_l_program ["pot", "places", "most"] f_l_program fd_l_program
 f_l_cp:Addr
 fd_l_cp:FuncData
 D_l_cp:Df K mg "_law_calm_program" s_l_cp ["pot", "places", "most"] f_l_cp fd_l_cp
 f_l_line:Addr
 fd_l_line:FuncData
 D_l_line:Df K mg "_law_line" s_l_line ["pot", "places", "most"] f_l_line fd_l_line
 f_l_later:Addr
 fd_l_later:FuncData
 D_l_later:Df K mg "_law_later" s_l_later ["due", "steps"] f_l_later fd_l_later
 f_l_runs:Addr
 fd_l_runs:FuncData
 D_l_runs:Df K mg "_law_runs" s_l_runs ["pot", "program", "bench", "places"] f_l_runs fd_l_runs
 c_FractError:Addr
 k_FractError:mg "FractError" = some (.ref c_FractError)
 c_A:Addr
 k_A:mg "AtRest" = some (.ref c_A)
 c_NoNumber:Addr
 k_NoNumber:mg "NoNumber" = some (.ref c_NoNumber)
 c_TooMany:Addr
 k_TooMany:mg "TooMany" = some (.ref c_TooMany)
 c_NoProgram:Addr
 k_NoProgram:mg "NoProgram" = some (.ref c_NoProgram)
 c_NoPowers:Addr
 k_NoPowers:mg "NoPowers" = some (.ref c_NoPowers)
 c_NoName:Addr
 k_NoName:mg "NoName" = some (.ref c_NoName)
 c_NoDeed:Addr
 k_NoDeed:mg "NoDeed" = some (.ref c_NoDeed)
 c_Bench:Addr
 k_Bench:mg "Bench" = some (.ref c_Bench)
 E_FractError:ECls K mg "FractError" c_FractError
 f_init_A:Addr
 fd_init_A:FuncData
 I_A:XI K mg "AtRest" c_A c_FractError f_init_A
 N_A:Fun K "__init__" "AtRest.__init__" s_init_A f_init_A fd_init_A
 B_A:Binds K fd_init_A ["self", "steps"] []
 UI_A:UnderI K c_A c_FractError
 FA_A:W.findIn K (.ref c_A) "steps" = some none
 V_A:W.kitOne K (.ref c_A) (.type "ValueError")=some true
 q_A_A:W.kitOne K (.ref c_A) (.ref c_A)=some true
 q_A_NoNumber:W.kitOne K (.ref c_A) (.ref c_NoNumber)=some false
 q_A_TooMany:W.kitOne K (.ref c_A) (.ref c_TooMany)=some false
 q_A_NoProgram:W.kitOne K (.ref c_A) (.ref c_NoProgram)=some false
 q_A_NoPowers:W.kitOne K (.ref c_A) (.ref c_NoPowers)=some false
 q_A_NoName:W.kitOne K (.ref c_A) (.ref c_NoName)=some false
 q_A_NoDeed:W.kitOne K (.ref c_A) (.ref c_NoDeed)=some false
 P_Bench:Cls K c_Bench
 A_Bdeeds:NoAttr K c_Bench "deeds"
 A_Bheld:NoAttr K c_Bench "held"
 A_Bprogram:NoAttr K c_Bench "program"
 f_Binit:Addr
 fd_Binit:FuncData
 D_Binit:Mi K c_Bench "Bench.__init__" s_Binit ["self", "program"] f_Binit fd_Binit
 f_Bput:Addr
 fd_Bput:FuncData
 D_Bput:Mf K c_Bench "put" "Bench.put" s_Bput ["self", "name", "powers"] f_Bput fd_Bput
 f_Brun:Addr
 fd_Brun:FuncData
 D_Brun:Mf K c_Bench "run" "Bench.run" s_Brun ["self", "name", "many"] f_Brun fd_Brun
 f_Bdrop:Addr
 fd_Bdrop:FuncData
 D_Bdrop:Mf K c_Bench "drop" "Bench.drop" s_Bdrop ["self", "name"] f_Bdrop fd_Bdrop
 f_Bundo:Addr
 fd_Bundo:FuncData
 D_Bundo:Mf K c_Bench "undo" "Bench.undo" s_Bundo ["self"] f_Bundo fd_Bundo
 f_Bnames:Addr
 fd_Bnames:FuncData
 D_Bnames:Mf K c_Bench "names" "Bench.names" s_Bnames ["self"] f_Bnames fd_Bnames
 f_Bpowers:Addr
 fd_Bpowers:FuncData
 D_Bpowers:Mf K c_Bench "powers" "Bench.powers" s_Bpowers ["self", "name"] f_Bpowers fd_Bpowers
 f_Bgone:Addr
 fd_Bgone:FuncData
 D_Bgone:Mf K c_Bench "gone" "Bench.gone" s_Bgone ["self", "name"] f_Bgone fd_Bgone
 f_Bheld_by:Addr
 fd_Bheld_by:FuncData
 D_Bheld_by:Mf K c_Bench "held_by" "Bench.held_by" s_Bheld_by ["self", "name"] f_Bheld_by fd_Bheld_by
 f_Bdone:Addr
 fd_Bdone:FuncData
 D_Bdone:Mf K c_Bench "done" "Bench.done" s_Bdone ["self", "name", "what"] f_Bdone fd_Bdone
 f_Bhold:Addr
 fd_Bhold:FuncData
 D_Bhold:Mf K c_Bench "hold" "Bench.hold" s_Bhold ["self", "name", "what"] f_Bhold fd_Bhold
 m_len:mg "len" = none
 m_isinstance:mg "isinstance" = none
 m_int:mg "int" = none
 m_bool:mg "bool" = none
 m_tuple:mg "tuple" = none
 m_range:mg "range" = none
 m_max:mg "max" = none
 m_min:mg "min" = none
 m_all:mg "all" = none
 m_zip:mg "zip" = none
 m_str:mg "str" = none
 m_sorted:mg "sorted" = none
 m_enumerate:mg "enumerate" = none
 m_ValueError:mg "ValueError" = none
 a_PRIMES:Addr
 g_PRIMES:mg "PRIMES" = some (.ref a_PRIMES)
 t_PRIMES : ∀ H,SqT K H a_PRIMES [.int 2,.int 3,.int 5,.int 7,.int 11,.int 13,.int 17,.int 19,.int 23,.int 29]
 g_MF9 : ∃ t,mg "MOST_FRACTIONS" = some (.int 16 t)
 g_MOST_TERM : ∃ t,mg "MOST_TERM" = some (.int 1000000000000 t)
 g_MS9 : ∃ t,mg "MOST_STRETCHES" = some (.int 2000 t)
 g_MOST_POWER : ∃ t,mg "MOST_POWER" = some (.int 1000000 t)
 g_LETTERS : ∃ t,mg "LETTERS" = some (.str "abcdefghijklmnopqrstuvwxyz" t)
 g_MOST_LETTERS : ∃ t,mg "MOST_LETTERS" = some (.int 8 t)
 g_MOST_NAMES : ∃ t,mg "MOST_NAMES" = some (.int 12 t)
section
variable {P:Program} {w:World} {K:PySem.W.Frag} {mg:Str->Option Value} {base:Heap}
def sp_l_take:Sp:=λ vs H Q _ => ∃ (a:Addr) (n far:Int),vs=[.ref a,.int far]/\H a=some (.lst [.int n])/\0<far/\far<1073741824/\Q (.int (n % far)) (upd H a (.lst [.int (n / far)]))
theorem ok_l_take (T:Tx K mg):FnOk P w K mg base CX0 1 T.f_l_take T.fd_l_take ["pot", "far"] sp_l_take:=by
 refine T.D_l_take.fn.okQ sc_l_take (λ vs H Q E h=>?_) (λ cdv A outer s H vs Q E hr h=>?_)
 ·obtain ⟨a,n,far,rfl,_⟩:=h
  rfl
 ·obtain ⟨a,n,far,rfl,ha,h0,h1,q⟩:=h
  refine ⟨_,(qss_cons (qs_set (i:=2) sc_l_take.nd rfl (Or.inl rfl) (qe_op op_mod (qe_ix ix_list (qv 0) qe_int (λ _ _=>rfl)) (qv 1)))
   (qss_cons (qs_asg (qe_op op_fdiv (qe_ix ix_list (qv 0) qe_int (λ _ _=>rfl)) (qv 1)) (qg_sub (qv 0) qe_int set_list))
   (qss_one (qs_ret (qv 2))))),?_⟩
  refine ⟨_,rfl,a,_,_,_,rfl,rfl,SqL.of ha,rfl,_,rfl,_,_,rfl,rfl,h0,?_⟩
  refine ⟨_,rfl,a,_,_,_,rfl,rfl,SqL.of ha,rfl,_,rfl,_,_,rfl,rfl,⟨h0,h1⟩,_,rfl,a,_,_,0,rfl,rfl,ha,rfl,?_⟩
  exact ⟨_,rfl,q⟩
def sp_l_cell_at (K:PySem.W.Frag):Sp:=λ vs H Q _ => ∃ (a:Addr) (ns:List Int) (k:Int),vs=[.ref a,.int k]/\SqL K H a (ns.map V.int)/\0<=k /\ ∀ c:Int,Q (.int c) H
theorem ok_l_cell_at (T:Tx K mg):FnOk P w K mg base CX0 1 T.f_l_cell_at T.fd_l_cell_at ["script", "k"] (sp_l_cell_at K):=by
 refine T.D_l_cell_at.fn.okQ sc_l_cell_at (λ vs H Q E h=>?_) (λ cdv A outer s H vs Q E hr h=>?_)
 ·obtain ⟨a,ns,k,rfl,_⟩:=h
  rfl
 ·obtain ⟨a,ns,k,rfl,hS,h0,q⟩:=h
  refine ⟨_,(qss_cons (qs_if (qt_cmpR op_lt (qv 1) (qe_callB call_len_seq (by rfl) T.m_len b_len (qa_c (qv 0) qa_nil)) (nomark _))
    (qss_one (qs_ret (qe_ix ix_list (qv 0) (qv 1) (λ _ _=>rfl))))
    qss_nil)
   (qss_one (qs_ret qe_int))),?_⟩
  refine ⟨_,rfl,_,rfl,a,_,rfl,.inl hS,_,_,rfl,rfl,_,rfl,?_⟩
  refine ite2 (λ hlt=>?_) (λ _=>q 0)
  have hlt':k<((ns.map V.int).length:Int):=by simpa using hlt
  rw [List.length_map] at hlt'
  have hk:k.toNat<ns.length:=by omega
  have e:(ns.map V.int)[k.toNat]?=some (V.int ns[k.toNat]):=by rw [List.getElem?_map,List.getElem?_eq_getElem hk];rfl
  exact ⟨_,rfl,_,rfl,a,_,_,_,rfl,rfl,hS,atI_of h0 e,q _⟩
def sp_l_pot:Sp:=λ vs H Q _ => ∃ c:Int,vs=[.int c] /\ ∀ (n:Int) (p:Addr),H p=none->Q (.ref p) (upd H p (.lst [.int n]))
theorem ok_l_pot (T:Tx K mg):FnOk P w K mg base CX0 1 T.f_l_pot T.fd_l_pot ["cell"] sp_l_pot:=by
 refine T.D_l_pot.fn.okQ sc_l_pot (λ vs H Q E h=>?_) (λ cdv A outer s H vs Q E hr h=>?_)
 ·obtain ⟨c,rfl,_⟩:=h
  rfl
 ·obtain ⟨c,rfl,q⟩:=h
  refine ⟨_,(qss_cons (qs_if (qt_cmpR op_ge (qv 0) (qe_op op_pow qe_int qe_int) (nomark _))
    (qss_one (qs_ret (qe_lst (qa_c (qe_op op_sub (qv 0) (qe_op op_pow qe_int qe_int)) qa_nil))))
    qss_nil)
   (qss_cons (qs_set (i:=1) sc_l_pot.nd rfl (Or.inl rfl) qe_int)
   (qss_cons (qs_for PassesOwn.never rfl (qi_range1 rfl T.m_range (qa_c qe_int qa_nil)) (qg_name (i:=2) sc_l_pot.nd rfl (Or.inl rfl))
    (qss_cons (qs_set (i:=3) sc_l_pot.nd rfl (Or.inl rfl) (qe_op op_mod (qe_op op_mul (qe_op op_add (qe_op op_add (qe_op op_mod (qv 0) qe_int) (qe_op op_mul qe_int (qv 2))) qe_int) qe_int) qe_int))
   (qss_cons (qs_set (i:=3) sc_l_pot.nd rfl (Or.inl rfl) (qe_op op_mod (qe_op op_add (qe_op op_add (qe_op op_mul (qv 3) (qv 3)) (qe_op op_mul qe_int (qv 2))) qe_int) qe_int))
   (qss_one (qs_set (i:=1) sc_l_pot.nd rfl (Or.inl rfl) (qe_op op_add (qe_op op_mul (qv 1) qe_int) (qv 3)))))))
   (qss_one (qs_ret (qe_lst (qa_c (qv 1) qa_nil))))))),?_⟩
  refine ⟨_,rfl,_,_,rfl,rfl,⟨by decide,by decide,by decide⟩,_,_,rfl,rfl,_,rfl,?_⟩
  refine ite2 (λ _=>?_) (λ _=>?_)
  ·refine ⟨_,rfl,_,_,rfl,rfl,⟨by decide,by decide,by decide⟩,_,_,rfl,rfl,(by show 1<=sizeLine;decide),λ p hp=>?_⟩
   exact q _ p hp
  ·refine ⟨64,rfl,by decide,by decide,for_range (n:=64) (λ i σ H2 => ∃ (n:Int) (u v:Option V),σ=[some (.int c),some (.int n),u,v]/\H2=H) ⟨0,none,none,rfl,rfl⟩ ?_ ?_⟩
   ·rintro i σ H2 hi ⟨n,u,v,rfl,rfl⟩
    refine ⟨_,rfl,_,_,rfl,rfl,(by show (0:Int)<2147483629;decide),_,rfl,_,_,rfl,rfl,.inl ⟨by decide,by decide⟩,_,_,rfl,rfl,_,_,rfl,rfl,_,_,rfl,rfl,.inr ⟨by decide,by decide⟩,_,_,rfl,rfl,(by show (0:Int)<2147483647;decide),?_⟩
    refine ⟨_,rfl,_,rfl,_,_,rfl,rfl,.inl ?_,_,rfl,_,_,rfl,rfl,.inl ⟨by decide,by decide⟩,_,_,rfl,rfl,_,_,rfl,rfl,_,_,rfl,rfl,(by show (0:Int)<2147483587;decide),?_⟩
    ·have h1:=Int.emod_nonneg ((c % 2147483629+7919 * (0+(i:Int))+1) * 48271) (show (2147483647:Int)≠0 by decide)
     have h2:=Int.emod_lt_of_pos ((c % 2147483629+7919 * (0+(i:Int))+1) * 48271) (show (0:Int)<2147483647 by decide)
     exact ⟨by omega,by omega⟩
    refine ⟨_,rfl,_,_,rfl,rfl,.inr ⟨by decide,by decide⟩,_,rfl,_,_,rfl,rfl,?_⟩
    exact ⟨_,_,_,rfl,rfl⟩
   ·rintro σ H2 ⟨n,u,v,rfl,rfl⟩
    exact ⟨_,rfl,(by show 1<=sizeLine;decide),λ p hp=>q n p hp⟩
def sp_l_order:Sp:=λ vs H Q _ => ∃ (a:Addr) (n wd:Int),vs=[.ref a,.int wd]/\H a=some (.lst [.int n])/\0<=wd/\wd<=100 /\
 ∀ (p:Addr) (H':Hp) (n':Int) (ns:List Int),H p=none->But a H H'->H' a=some (.lst [.int n'])->H' p=some (.tup (ns.map V.int))->ns.length=wd.toNat->(∀ m∈ns,0<=m/\m<wd)->Q (.ref p) H'
theorem ok_l_order (T:Tx K mg):FnOk P w K mg base CX0 2 T.f_l_order T.fd_l_order ["pot", "wide"] sp_l_order:=by
 refine T.D_l_order.fn.okQ sc_l_order (λ vs H Q E h=>?_) (λ cdv A outer s H vs Q E hr h=>?_)
 ·obtain ⟨a,n,wd,rfl,_⟩:=h
  rfl
 ·obtain ⟨a,n,wd,rfl,ha,h0,h1,q⟩:=h
  refine ⟨_,(qss_cons (qs_set (i:=2) sc_l_order.nd rfl (Or.inl rfl) (qe_lst qa_nil))
   (qss_cons (qs_for PassesOwn.never rfl (qi_range1 rfl T.m_range (qa_c (qv 1) qa_nil)) (qg_name (i:=3) sc_l_order.nd rfl (Or.inl rfl))
    (qss_one (qs_expr (qe_bm PySem.F.plainAttrs_list PySem.F.slot_list_insert PySem.F.type_list_insert mt_insert (qv 2) (qa_c (qe_cD (ok_l_take T) (hr.mono (by decide)) rfl T.D_l_take pass0 (qa_c (qv 0) (qa_c (qe_op op_add (qv 3) qe_int) qa_nil))) (qa_c (qv 3) qa_nil))))))
   (qss_one (qs_ret (qe_callTy call_tuple_of (by rfl) T.m_tuple b_tuple (qa_c (qv 2) qa_nil)))))),?_⟩
  refine ⟨(by show 0<=sizeLine;decide),λ l hl=>?_⟩
  have nal:a≠l:=ne_of_none ha hl
  refine ⟨_,rfl,wd,rfl,by omega,by omega,for_range (n:=wd.toNat) (λ i σ H2 => ∃ (n':Int) (ns:List Int) (u:Option V),σ=[some (.ref a),some (.int wd),some (.ref l),u]/\But a H H2/\H2 a=some (.lst [.int n'])/\H2 l=some (.lst (ns.map V.int))/\ns.length=i /\ ∀ m∈ns,0<=m/\m<wd)
   ⟨n,[],none,rfl,λ b o _ e=>by rw [upd_ne (ne_of_none e hl)];exact e,by rw [upd_ne nal];exact ha,upd_same,rfl,λ m hm=>absurd hm (by simp)⟩ ?_ ?_⟩
  ·rintro i σ H2 hi ⟨n',ns,u,rfl,bt,ha2,hl2,hn,hm⟩
   refine ⟨_,rfl,.inl ⟨rfl,_,SqL.of hl2⟩,_,rfl,_,rfl,_,_,rfl,rfl,a,n',_,rfl,ha2,by omega,by omega,_,rfl,l,_,_,_,rfl,rfl,by rw [upd_ne nal.symm];exact hl2,?_,?_,?_,?_⟩
   ·exact Int.emod_nonneg _ (by omega)
   ·have:=Int.emod_lt_of_pos n' (show (0:Int)<0+(i:Int)+1 by omega)
    omega
   ·rw [List.length_map,hn,sizeLine_eq];omega
   ·refine ⟨n' / (0+(i:Int)+1),ns.take (min (n' % (0+(i:Int)+1)).toNat (ns.map V.int).length)++(0+(i:Int))::ns.drop (min (n' % (0+(i:Int)+1)).toNat (ns.map V.int).length),_,rfl,?_,?_,?_,?_,?_⟩
    ·intro b o nb e
     rw [upd_ne (ne_of_none e hl),upd_ne nb]
     exact bt b o nb e
    ·rw [upd_ne nal,upd_same]
    ·rw [upd_same,List.map_append,List.map_cons,List.map_take,List.map_drop]
    ·rw [List.length_append,List.length_cons,List.length_take,List.length_drop,List.length_map,hn]
     omega
    ·intro m hm'
     rcases List.mem_append.mp hm' with z | z
     ·exact hm m (List.mem_of_mem_take z)
     ·rcases List.mem_cons.mp z with z | z
      ·rw [z];omega
      ·exact hm m (List.mem_of_mem_drop z)
  ·rintro σ H2 ⟨n',ns,u,rfl,bt,ha2,hl2,hn,hm⟩
   refine ⟨_,rfl,l,_,rfl,.inl ⟨SqL.of hl2,λ p hp=>?_⟩⟩
   have npa:p≠a:=λ z=>by rw [z,ha2] at hp;cases hp
   refine q p _ n' ns (bt.free hp npa) (bt.new hp) ?_ upd_same hn hm
   rw [upd_ne npa.symm]
   exact ha2
def sp_l_places:Sp:=λ vs H Q _ => ∃ (a:Addr) (n:Int),vs=[.ref a]/\H a=some (.lst [.int n]) /\
 ∀ (p:Addr) (H':Hp) (n':Int) (ns:List Int),But a H H'->H' a=some (.lst [.int n'])->H' p=some (.tup (ns.map V.int))->1<=ns.length->ns.length<=5->(∀ m∈ns,0<=m/\m<10)->Q (.ref p) H'
theorem ok_l_places (T:Tx K mg):FnOk P w K mg base CX0 3 T.f_l_places T.fd_l_places ["pot"] sp_l_places:=by
 refine T.D_l_places.fn.okQ sc_l_places (λ vs H Q E h=>?_) (λ cdv A outer s H vs Q E hr h=>?_)
 ·obtain ⟨a,n,rfl,_⟩:=h
  rfl
 ·obtain ⟨a,n,rfl,ha,q⟩:=h
  refine ⟨_,(qss_cons (qs_set (i:=1) sc_l_places.nd rfl (Or.inl rfl) (qe_op op_add qe_int (qe_cD (ok_l_take T) (hr.mono (by decide)) rfl T.D_l_take pass0 (qa_c (qv 0) (qa_c qe_int qa_nil)))))
   (qss_cons (qs_if (qt_cmpR op_eq (qe_cD (ok_l_take T) (hr.mono (by decide)) rfl T.D_l_take pass0 (qa_c (qv 0) (qa_c qe_int qa_nil))) qe_int (nomark _))
    (qss_one (qs_ret (qe_callTy (call_tuple_range rfl) (by rfl) T.m_tuple b_tuple (qa_c (qe_callTy call_range (by rfl) T.m_range b_range (qa_c (qv 1) qa_nil)) qa_nil))))
    qss_nil)
   (qss_one (qs_ret (qe_slice sl_tupA (qe_cD (ok_l_order T) (hr.mono (by decide)) rfl T.D_l_order pass0 (qa_c (qv 0) (qa_c qe_int qa_nil))) qo_none (qo_some (qv 1))))))),?_⟩
  refine ⟨_,rfl,a,n,5,rfl,ha,by decide,by decide,_,_,rfl,rfl,?_⟩
  refine ⟨_,rfl,a,_,2,rfl,upd_same,by decide,by decide,rfl,_,rfl,?_⟩
  have g0:=Int.emod_nonneg n (show (5:Int)≠0 by decide)
  have g1:=Int.emod_lt_of_pos n (show (0:Int)<5 by decide)
  refine ite2 (λ _=>?_) (λ _=>?_)
  ·refine ⟨_,rfl,_,rfl,λ p hp=>⟨p,_,rfl,upd_same,by omega,by omega,λ l hl=>?_⟩⟩
   have npa:p≠a:=λ z=>by rw [z,upd_same] at hp;cases hp
   have nla:l≠a:=λ z=>by rw [z,upd_ne npa.symm,upd_same] at hl;cases hl
   refine q l _ (n / 5 / 2) ((List.range (1+n % 5).toNat).map λ i=>((i:Nat):Int)) (((But.upd.set).new hp).new hl) ?_ ?_ ?_ ?_ ?_
   ·rw [upd_ne nla.symm,upd_ne npa.symm,upd_same]
   ·rw [upd_same,List.map_map]
    rfl
   ·rw [List.length_map,List.length_range];omega
   ·rw [List.length_map,List.length_range];omega
   ·intro m hm
    obtain ⟨i,hi,rfl⟩:=List.mem_map.mp hm
    have:=List.mem_range.mp hi
    omega
  ·refine ⟨_,rfl,a,_,10,rfl,upd_same,by decide,by decide,λ p H' n' ns hp bt ha' hp' hlen hm=>?_⟩
   have hl10:ns.length=10:=hlen
   refine ⟨_,rfl,_,rfl,.inl ⟨p,_,rfl,SqT.of hp',?_,λ l hl=>?_⟩⟩
   ·rintro ⟨_,h⟩
    rw [sIx_of (by omega),List.length_map] at h
    omega
   have nla:l≠a:=λ z=>by rw [z,ha'] at hl;cases hl
   have b1:But a H (upd (upd H a (.lst [.int (n / 5)])) a (.lst [.int (n / 5 / 2)])):=But.upd.set
   have b2:But a H H':=b1.trans bt
   refine q l _ n' (ns.take (1+n % 5).toNat) (b2.new hl) ?_ ?_ ?_ ?_ ?_
   ·rw [upd_ne nla.symm];exact ha'
   ·rw [upd_same,cutV_pre (by omega),List.map_take]
   ·rw [List.length_take];omega
   ·rw [List.length_take];omega
   ·intro m hm'
    exact hm m (List.mem_of_mem_take hm')
def primesV:List V:=[.int 2,.int 3,.int 5,.int 7,.int 11,.int 13,.int 17,.int 19,.int 23,.int 29]
def sp_l_primes:Sp:=λ vs H Q _=>vs=[] /\ ∀ p,H p=none->Q (.ref p) (upd H p (.tup primesV))
theorem ok_l_primes (T:Tx K mg):FnOk P w K mg base CX0 1 T.f_l_primes T.fd_l_primes [] sp_l_primes:=by
 refine T.D_l_primes.fn.okQ sc_l_primes (λ vs H Q E h=>?_) (λ cdv A outer s H vs Q E hr h=>?_)
 ·obtain ⟨rfl,_⟩:=h
  rfl
 ·obtain ⟨rfl,q⟩:=h
  refine ⟨_,(qss_one (qs_ret (qe_tup (qa_c qe_int (qa_c qe_int (qa_c qe_int (qa_c qe_int (qa_c qe_int (qa_c qe_int (qa_c qe_int (qa_c qe_int (qa_c qe_int (qa_c qe_int qa_nil))))))))))))),?_⟩
  exact ⟨(by show 10<=sizeLine;decide),λ p hp=>q p hp⟩
theorem primesV_get {i:Nat} {x:V} (h:primesV[i]?=some x) : ∃ p:Nat,x=.int (p:Int)/\primes[i]?=some p/\p<30:=by
 match i,h with
 | 0,h=>cases h;exact ⟨2,rfl,rfl,by decide⟩
 | 1,h=>cases h;exact ⟨3,rfl,rfl,by decide⟩
 | 2,h=>cases h;exact ⟨5,rfl,rfl,by decide⟩
 | 3,h=>cases h;exact ⟨7,rfl,rfl,by decide⟩
 | 4,h=>cases h;exact ⟨11,rfl,rfl,by decide⟩
 | 5,h=>cases h;exact ⟨13,rfl,rfl,by decide⟩
 | 6,h=>cases h;exact ⟨17,rfl,rfl,by decide⟩
 | 7,h=>cases h;exact ⟨19,rfl,rfl,by decide⟩
 | 8,h=>cases h;exact ⟨23,rfl,rfl,by decide⟩
 | 9,h=>cases h;exact ⟨29,rfl,rfl,by decide⟩
 | (k+10),h=>cases h
theorem prodR_snoc : ∀ (ps es:List Nat) (i p e:Nat),ps[i]?=some p->es[i]?=some e->prodR (ps.take (i+1)) (es.take (i+1))=prodR (ps.take i) (es.take i) * p ^ e
 | [],_,_,_,_,h,_=>by cases h
 | _,[],_,_,_,_,h=>by cases h
 | p0::ps,e0::es,0,p,e,h,h'=>by
  have z:p0=p:=Option.some.inj h
  have z':e0=e:=Option.some.inj h'
  subst z;subst z'
  show p0 ^ e0 * 1=1 * p0 ^ e0
  omega
 | p0::ps,e0::es,i+1,p,e,h,h'=>by
  show p0 ^ e0 * prodR (ps.take (i+1)) (es.take (i+1))=p0 ^ e0 * prodR (ps.take i) (es.take i) * p ^ e
  rw [prodR_snoc ps es i p e h h',Nat.mul_assoc]
def sp_l_product (K:PySem.W.Frag):Sp:=λ vs H Q _ => ∃ (b:Addr) (es:List Int),vs=[.ref b]/\SqT K H b (es.map V.int)/\es.length=10/\(∀ e∈es,0<=e/\e<2 ^ 62) /\ ∀ H',Same H H'->Q (.int (prod (es.map Int.toNat):Nat)) H'
theorem ok_l_product (T:Tx K mg):FnOk P w K mg base CX0 2 T.f_l_product T.fd_l_product ["line"] (sp_l_product K):=by
 refine T.D_l_product.fn.okQ sc_l_product (λ vs H Q E h=>?_) (λ cdv A outer s H vs Q E hr h=>?_)
 ·obtain ⟨b,es,rfl,_⟩:=h
  rfl
 ·obtain ⟨b,es,rfl,hb,he,hm,q⟩:=h
  refine ⟨_,(qss_cons (qs_set (i:=1) sc_l_product.nd rfl (Or.inl rfl) qe_int)
   (qss_cons (qs_for PassesOwn.never rfl (qi_zip rfl rfl T.m_zip (qa_c (qe_call0 (ok_l_primes T) (hr.mono (by decide)) rfl T.D_l_primes.at_ T.D_l_primes.fn.kp T.D_l_primes.bd .nil pass0) (qa_c (qv 0) qa_nil))) (qg_tup rfl (qgs_cons (qg_name (i:=2) sc_l_product.nd rfl (Or.inl rfl)) (qgs_cons (qg_name (i:=3) sc_l_product.nd rfl (Or.inl rfl)) qgs_nil)))
    (qss_one (qs_for PassesOwn.never rfl (qi_range1 rfl T.m_range (qa_c (qv 3) qa_nil)) (qg_name (i:=4) sc_l_product.nd rfl (Or.inl rfl))
    (qss_one (qs_set (i:=1) sc_l_product.nd rfl (Or.inl rfl) (qe_op op_mul (qv 1) (qv 2)))))))
   (qss_one (qs_ret (qv 1))))),?_⟩
  refine ⟨rfl,λ t ht=>⟨_,rfl,t,b,rfl,⟨_,SqT.of upd_same⟩,⟨_,Same.tup (Same.new ht) hb⟩,?_⟩⟩
  have hpl:primesV.length=10:=rfl
  have hel:(es.map V.int).length=10:=by rw [List.length_map];exact he
  refine for_zip (xs:=primesV) (ys:=es.map V.int) (λ i σ H2=>(∃ u v x:Option V,σ=[some (.ref b),some (.int (prodR (primes.take i) ((es.map Int.toNat).take i):Nat)),u,v,x])/\Same (upd H t (.tup primesV)) H2) ⟨⟨none,none,none,rfl⟩,Same.refl _⟩ ?_ ?_ ?_
  ·rintro i σ H2 hi ⟨_,s2⟩
   exact ⟨SqT.of (s2 _ _ upd_same),Same.tup s2 (Same.tup (Same.new ht) hb)⟩
  ·rintro i x y z σ H2 hx hy hz ⟨⟨u,v,x',rfl⟩,s2⟩
   obtain ⟨p,rfl,hp,hp30⟩:=primesV_get hx
   obtain ⟨e,rfl,hee⟩:=map_int_get hy
   obtain ⟨e0,e1⟩:=hm e (List.mem_of_getElem? hee)
   refine ⟨z,_,rfl,SqT.of upd_same,rfl,_,_,rfl,_,_,rfl,rfl,?_⟩
   refine ⟨_,rfl,e,rfl,by omega,e1,for_range (n:=e.toNat) (λ j σ H3=>(∃ x:Option V,σ=[some (.ref b),some (.int ((prodR (primes.take i) ((es.map Int.toNat).take i) * p ^ j:Nat):Int)),some (.int p),some (.int e),x])/\Same (upd H t (.tup primesV)) H3) ⟨⟨x',by rw [Nat.pow_zero,Nat.mul_one];rfl⟩,Same.more s2 hz⟩ ?_ ?_⟩
   ·rintro j σ H3 hj ⟨⟨x2,rfl⟩,s3⟩
    refine ⟨_,rfl,_,rfl,_,_,rfl,rfl,.inr ⟨by omega,by omega⟩,⟨some (.int (0+(j:Int))),?_⟩,s3⟩
    rw [Nat.pow_succ,<-Nat.mul_assoc,Int.natCast_mul _ p]
    rfl
   ·rintro σ H3 ⟨⟨x2,rfl⟩,s3⟩
    refine ⟨⟨some (.int p),some (.int e),x2,?_⟩,s3⟩
    have hee':(es.map Int.toNat)[i]?=some e.toNat:=by rw [List.getElem?_map,hee];rfl
    rw [prodR_snoc primes (es.map Int.toNat) i p e.toNat hp hee']
  ·rintro σ H2 ⟨⟨u,v,x,rfl⟩,s2⟩
   have e2:min primesV.length (es.map V.int).length=10:=by rw [hpl,hel];rfl
   refine ⟨_,rfl,?_⟩
   rw [e2]
   have z1:primes.take 10=primes:=rfl
   have z2:(es.map Int.toNat).take 10=es.map Int.toNat:=List.take_of_length_le (by rw [List.length_map,he];exact Nat.le_refl _)
   rw [z1,z2]
   exact q H2 ((Same.new ht).trans s2)
def FrI (a b l:Addr) (H:Hp) (cu cd:Nat) (σ:St) (H2:Hp):Prop := ∃ (n':Int) (xs:List Int) (u v t1 t2:Option V),σ=[some (.ref a),some (.ref b),some (.ref l),u,v,t1,t2]/\But a H H2/\H2 a=some (.lst [.int n'])/\H2 l=some (.lst (xs.map V.int))/\xs.length=10/\(ups xs).sum<=cu/\(downs xs).sum<=cd
def mx0:V->V
 | .int j=>.int (if j > 0 then j else 0)
 | v=>v
def mx1:V->V
 | .int j=>.int (if 0 - j > 0 then 0 - j else 0)
 | v=>v
theorem mx0_map (xs:List Int):(xs.map V.int).map mx0=(xs.map λ x=>if x > 0 then x else 0).map V.int:=by rw [List.map_map,List.map_map];rfl
theorem mx1_map (xs:List Int):(xs.map V.int).map mx1=(xs.map λ x=>if 0 - x > 0 then 0 - x else 0).map V.int:=by rw [List.map_map,List.map_map];rfl
theorem ups_eq (xs:List Int):(xs.map λ x=>if x > 0 then x else 0).map Int.toNat=ups xs:=by
 rw [List.map_map]
 refine List.map_congr_left λ x _=>?_
 show (if x > 0 then x else 0).toNat=x.toNat
 split<;>omega
theorem downs_eq (xs:List Int):(xs.map λ x=>if 0 - x > 0 then 0 - x else 0).map Int.toNat=downs xs:=by
 rw [List.map_map]
 refine List.map_congr_left λ x _=>?_
 show (if 0 - x > 0 then 0 - x else 0).toNat=(-x).toNat
 split<;>omega
theorem mem_le_sum : ∀ {l:List Nat} {x:Nat},x∈l->x<=l.sum
 | [],_,h=>by cases h
 | y::r,x,h=>by
  rw [List.sum_cons]
  rcases List.mem_cons.mp h with z | z
  ·omega
  ·have:=mem_le_sum z;omega
def sp_l_fraction:Sp:=λ vs H Q _ => ∃ (a b:Addr) (n:Int) (ns:List Int),vs=[.ref a,.ref b]/\H a=some (.lst [.int n])/\H b=some (.tup (ns.map V.int))/\1<=ns.length/\ns.length<=10/\(∀ m∈ns,0<=m/\m<10) /\
 ∀ (p:Addr) (H':Hp) (n' i j:Int),But a H H'->H' a=some (.lst [.int n'])->H' p=some (.tup [.int i,.int j])->fracB i j=true->Q (.ref p) H'
theorem ok_l_fraction (T:Tx K mg):FnOk P w K mg base CX0 3 T.f_l_fraction T.fd_l_fraction ["pot", "places"] sp_l_fraction:=by
 refine T.D_l_fraction.fn.okQ sc_l_fraction (λ vs H Q E h=>?_) (λ cdv A outer s H vs Q E hr h=>?_)
 ·obtain ⟨a,b,n,ns,rfl,_⟩:=h
  rfl
 ·obtain ⟨a,b,n,ns,rfl,ha,hb,hn1,hn2,hm,q⟩:=h
  refine ⟨_,(qss_cons (qs_set (i:=2) sc_l_fraction.nd rfl (Or.inl rfl) (qe_op op_rep (qe_lst (qa_c qe_int qa_nil)) qe_int))
   (qss_cons (qs_for PassesOwn.never rfl (qi_range1 rfl T.m_range (qa_c (qe_cD (ok_l_take T) (hr.mono (by decide)) rfl T.D_l_take pass0 (qa_c (qv 0) (qa_c qe_int qa_nil))) qa_nil)) (qg_name (i:=3) sc_l_fraction.nd rfl (Or.inl rfl))
    (qss_cons (qs_set (i:=4) sc_l_fraction.nd rfl (Or.inl rfl) (qe_ix ix_tup (qv 1) (qe_cD (ok_l_take T) (hr.mono (by decide)) rfl T.D_l_take pass0 (qa_c (qv 0) (qa_c (qe_callB call_len_seq (by rfl) T.m_len b_len (qa_c (qv 1) qa_nil)) qa_nil))) (λ _ _=>rfl)))
   (qss_one (qs_asg (qe_op op_add (qe_ix ix_list (qv 2) (qv 4) (λ _ _=>rfl)) qe_int) (qg_sub (qv 2) (qv 4) set_list)))))
   (qss_cons (qs_for PassesOwn.never rfl (qi_range1 rfl T.m_range (qa_c (qe_cD (ok_l_take T) (hr.mono (by decide)) rfl T.D_l_take pass0 (qa_c (qv 0) (qa_c qe_int qa_nil))) qa_nil)) (qg_name (i:=3) sc_l_fraction.nd rfl (Or.inl rfl))
    (qss_cons (qs_set (i:=4) sc_l_fraction.nd rfl (Or.inl rfl) (qe_ix ix_tup (qv 1) (qe_cD (ok_l_take T) (hr.mono (by decide)) rfl T.D_l_take pass0 (qa_c (qv 0) (qa_c (qe_callB call_len_seq (by rfl) T.m_len b_len (qa_c (qv 1) qa_nil)) qa_nil))) (λ _ _=>rfl)))
   (qss_one (qs_asg (qe_op op_sub (qe_ix ix_list (qv 2) (qv 4) (λ _ _=>rfl)) qe_int) (qg_sub (qv 2) (qv 4) set_list)))))
   (qss_cons (qs_set (i:=5) sc_l_fraction.nd rfl (Or.inl rfl) (qe_callTy call_tuple_of (by rfl) T.m_tuple b_tuple (qa_c (qe_comp (compOk_of (osc:=defScope s_l_fraction) (XN:=["pot", "places", "found", "turn", "place", "top", "bottom"]) (N:=["one"]) (js:=[none]) rfl rfl rfl (List.forall_mem_nil _) (by decide +kernel) rfl) rfl (qi_list (qv 2)) (λ _ _ _ _=>(qg_name (i:=0) (show List.Nodup (["one"]:List Str) from by decide +kernel) rfl (Or.inl rfl) (Or.inr rfl))) (λ _ _ _ _=>qts_nil)
     (λ _ _ _ _=>(qe_callB (call_max2 rfl) (by rfl) T.m_max b_max (qa_c qe_int (qa_c (qv 0) qa_nil))))) qa_nil)))
   (qss_cons (qs_set (i:=6) sc_l_fraction.nd rfl (Or.inl rfl) (qe_callTy call_tuple_of (by rfl) T.m_tuple b_tuple (qa_c (qe_comp (compOk_of (osc:=defScope s_l_fraction) (XN:=["pot", "places", "found", "turn", "place", "top", "bottom"]) (N:=["one"]) (js:=[none]) rfl rfl rfl (List.forall_mem_nil _) (by decide +kernel) rfl) rfl (qi_list (qv 2)) (λ _ _ _ _=>(qg_name (i:=0) (show List.Nodup (["one"]:List Str) from by decide +kernel) rfl (Or.inl rfl) (Or.inr rfl))) (λ _ _ _ _=>qts_nil)
     (λ _ _ _ _=>(qe_callB (call_max2 rfl) (by rfl) T.m_max b_max (qa_c qe_int (qa_c (qe_op op_sub qe_int (qv 0)) qa_nil))))) qa_nil)))
   (qss_one (qs_ret (qe_tup (qa_c (qe_cD (ok_l_product T) (hr.mono (by decide)) rfl T.D_l_product pass0 (qa_c (qv 5) qa_nil)) (qa_c (qe_cD (ok_l_product T) (hr.mono (by decide)) rfl T.D_l_product pass0 (qa_c (qv 6) qa_nil)) qa_nil)))))))))),?_⟩
  refine ⟨(by show 1<=sizeLine;decide),λ l0 hl0=>⟨l0,10,_,rfl,rfl,upd_same,by decide,by decide,by decide,λ l hl=>?_⟩⟩
  have nab:b≠a:=ne_of hb ha (by intro z;cases z)
  have na0:a≠l0:=ne_of_none ha hl0
  have nal:a≠l:=ne_of_none (by rw [upd_ne na0];exact ha) hl
  have b1:But a H (upd (upd H l0 (.lst [.int 0])) l (.lst (List.replicate (10:Int).toNat [V.int 0]).flatten)):=((But.refl a H).new hl0).new hl
  have hlH:H l=none:=by
   have:=hl
   unfold upd at this
   split at this
   ·cases this
   ·exact this
  have turn : ∀ (H2:Hp) (n':Int),But a H H2->H2 a=some (.lst [.int n']) -> ∃ m:Int,0<=m/\m<10/\0<=n' % ((ns.map V.int).length:Int)/\(ns.map V.int)[(n' % ((ns.map V.int).length:Int)).toNat]?=some (.int m):=by
   intro H2 n' _ _
   have l0':((ns.map V.int).length:Int)=(ns.length:Int):=by rw [List.length_map]
   rw [l0']
   have g0:=Int.emod_nonneg n' (show (ns.length:Int)≠0 by omega)
   have g1:=Int.emod_lt_of_pos n' (show (0:Int)<ns.length by omega)
   have hk:(n' % (ns.length:Int)).toNat<ns.length:=by omega
   obtain ⟨m0,m1⟩:=hm _ (List.getElem_mem hk)
   exact ⟨ns[(n' % (ns.length:Int)).toNat],m0,m1,g0,by rw [List.getElem?_map,List.getElem?_eq_getElem hk];rfl⟩
  have lenn:((ns.map V.int).length:Int)=(ns.length:Int):=by rw [List.length_map]
  have m40:=Int.emod_nonneg n (show (4:Int)≠0 by decide)
  have m41:=Int.emod_lt_of_pos n (show (0:Int)<4 by decide)
  refine ⟨_,rfl,a,n,4,rfl,(by rw [upd_ne nal,upd_ne na0];exact ha),by decide,by decide,_,rfl,by omega,by omega,for_range (n:=(n % 4).toNat) (λ i σ H2=>FrI a b l H i 0 σ H2) ?_ ?_ ?_⟩
  ·exact ⟨n / 4,List.replicate 10 0,none,none,none,none,rfl,b1.set,upd_same,by rw [upd_ne nal.symm,upd_same];rfl,rfl,by decide,by decide⟩
  ·rintro i σ H2 hi ⟨n',xs,u,v,t1,t2,rfl,bt,ha2,hl2,hx,hu,hd⟩
   obtain ⟨m,m0,m1,g0,hget⟩:=turn H2 n' bt ha2
   have hb2:H2 b=some (.tup (ns.map V.int)):=bt b _ nab hb
   refine ⟨_,rfl,_,rfl,_,rfl,b,_,rfl,.inr (SqT.of hb2),a,n',_,rfl,ha2,by omega,by omega,b,_,_,_,rfl,rfl,SqT.of (by rw [upd_ne nab];exact hb2),atI_of g0 hget,?_⟩
   have hl3:(upd H2 a (.lst [.int (n' / ((ns.map V.int).length:Int))])) l=some (.lst (xs.map V.int)):=by rw [upd_ne nal.symm];exact hl2
   have hmx:m.toNat<xs.length:=by omega
   have hxm:xs[m.toNat]?=some xs[m.toNat]:=List.getElem?_eq_getElem hmx
   have hxv:(xs.map V.int)[m.toNat]?=some (.int xs[m.toNat]):=by rw [List.getElem?_map,hxm];rfl
   refine ⟨_,rfl,_,rfl,l,_,_,_,rfl,rfl,SqL.of hl3,atI_of m0 hxv,_,_,rfl,rfl,_,rfl,_,rfl,l,_,_,_,rfl,rfl,hl3,ixN_of m0 (by rw [List.length_map,hx];omega),?_⟩
   refine ⟨n' / ((ns.map V.int).length:Int),xs.set m.toNat (xs[m.toNat]+1),_,_,t1,t2,rfl,?_,?_,?_,?_,?_,?_⟩
   ·intro c o nc e
    rw [upd_ne (ne_of_none e hlH),upd_ne nc]
    exact bt c o nc e
   ·rw [upd_ne nal,upd_same]
   ·rw [upd_same,List.map_set]
   ·rw [List.length_set];exact hx
   ·exact Nat.le_trans (ups_up hxm) (by omega)
   ·exact Nat.le_trans (downs_up hxm) hd
  rintro σ H2 ⟨n',xs,u,v,t1,t2,rfl,bt,ha2,hl2,hx,hu,hd⟩
  have m42:=Int.emod_nonneg n' (show (4:Int)≠0 by decide)
  have m43:=Int.emod_lt_of_pos n' (show (0:Int)<4 by decide)
  refine ⟨_,rfl,a,n',4,rfl,ha2,by decide,by decide,_,rfl,by omega,by omega,for_range (n:=(n' % 4).toNat) (λ i σ H2=>FrI a b l H 3 i σ H2) ?_ ?_ ?_⟩
  ·exact ⟨n' / 4,xs,u,v,t1,t2,rfl,bt.set,upd_same,by rw [upd_ne nal.symm];exact hl2,hx,by omega,hd⟩
  ·clear hu hd hx hl2 ha2 bt
   rintro i σ H2 hi ⟨n',xs,u,v,t1,t2,rfl,bt,ha2,hl2,hx,hu,hd⟩
   obtain ⟨m,m0,m1,g0,hget⟩:=turn H2 n' bt ha2
   have hb2:H2 b=some (.tup (ns.map V.int)):=bt b _ nab hb
   refine ⟨_,rfl,_,rfl,_,rfl,b,_,rfl,.inr (SqT.of hb2),a,n',_,rfl,ha2,by omega,by omega,b,_,_,_,rfl,rfl,SqT.of (by rw [upd_ne nab];exact hb2),atI_of g0 hget,?_⟩
   have hl3:(upd H2 a (.lst [.int (n' / ((ns.map V.int).length:Int))])) l=some (.lst (xs.map V.int)):=by rw [upd_ne nal.symm];exact hl2
   have hmx:m.toNat<xs.length:=by omega
   have hxm:xs[m.toNat]?=some xs[m.toNat]:=List.getElem?_eq_getElem hmx
   have hxv:(xs.map V.int)[m.toNat]?=some (.int xs[m.toNat]):=by rw [List.getElem?_map,hxm];rfl
   refine ⟨_,rfl,_,rfl,l,_,_,_,rfl,rfl,SqL.of hl3,atI_of m0 hxv,_,_,rfl,rfl,_,rfl,_,rfl,l,_,_,_,rfl,rfl,hl3,ixN_of m0 (by rw [List.length_map,hx];omega),?_⟩
   refine ⟨n' / ((ns.map V.int).length:Int),xs.set m.toNat (xs[m.toNat] - 1),_,_,t1,t2,rfl,?_,?_,?_,?_,?_,?_⟩
   ·intro c o nc e
    rw [upd_ne (ne_of_none e hlH),upd_ne nc]
    exact bt c o nc e
   ·rw [upd_ne nal,upd_same]
   ·rw [upd_same,List.map_set]
   ·rw [List.length_set];exact hx
   ·exact Nat.le_trans (ups_down hxm) hu
   ·exact Nat.le_trans (downs_down hxm) (by omega)
  clear hu hd hx hl2 ha2 bt
  rintro σ H2 ⟨n',xs,u,v,t1,t2,rfl,bt,ha2,hl2,hx,hu,hd⟩
  have hd3:(downs xs).sum<=3:=by omega
  refine ⟨_,rfl,l,rfl,⟨_,SqL.of hl2⟩,λ D hD=>comp_map_list (xs:=xs.map V.int) (f:=mx0) rfl (by rw [List.length_map,hx];decide) hD (SqL.of hl2) ?_ ⟨D,_,rfl,.inl ⟨SqL.of upd_same,λ t ht=>?_⟩⟩⟩
  ·intro x H' R hxm r
   obtain ⟨j,_,rfl⟩:=List.mem_map.mp hxm
   exact ⟨_,rfl,_,_,rfl,r⟩
  have hl4:(upd (upd H2 D (.lst ((xs.map V.int).map mx0))) t (.tup ((xs.map V.int).map mx0))) l=some (.lst (xs.map V.int)):=(Same.more (Same.new hD) ht) _ _ hl2
  refine ⟨_,rfl,l,rfl,⟨_,SqL.of hl4⟩,λ D' hD'=>comp_map_list (xs:=xs.map V.int) (f:=mx1) rfl (by rw [List.length_map,hx];decide) hD' (SqL.of hl4) ?_ ⟨D',_,rfl,.inl ⟨SqL.of upd_same,λ t' ht'=>?_⟩⟩⟩
  ·intro x H' R hxm r
   obtain ⟨j,_,rfl⟩:=List.mem_map.mp hxm
   exact ⟨_,rfl,_,_,rfl,rfl,_,_,rfl,r⟩
  have s4:Same H2 (upd (upd (upd (upd H2 D (.lst ((xs.map V.int).map mx0))) t (.tup ((xs.map V.int).map mx0))) D' (.lst ((xs.map V.int).map mx1))) t' (.tup ((xs.map V.int).map mx1))):=Same.more (Same.more (Same.more (Same.new hD) ht) hD') ht'
  have ht4:(upd (upd (upd (upd H2 D (.lst ((xs.map V.int).map mx0))) t (.tup ((xs.map V.int).map mx0))) D' (.lst ((xs.map V.int).map mx1))) t' (.tup ((xs.map V.int).map mx1))) t=some (.tup ((xs.map V.int).map mx0)):=(Same.more (Same.new hD') ht') _ _ upd_same
  refine ⟨_,rfl,t,xs.map λ x=>if x > 0 then x else 0,rfl,?_,by rw [List.length_map];exact hx,?_,λ H5 s5=>⟨_,rfl,t',xs.map λ x=>if 0 - x > 0 then 0 - x else 0,rfl,?_,by rw [List.length_map];exact hx,?_,λ H6 s6=>⟨(by show 2<=sizeLine;decide),λ p hp=>?_⟩⟩⟩
  ·rw [<-mx0_map];exact SqT.of ht4
  ·intro e he
   obtain ⟨x,hxm,rfl⟩:=List.mem_map.mp he
   have:=mem_le_sum (List.mem_map_of_mem (f:=Int.toNat) hxm)
   have h3:(xs.map Int.toNat).sum<=3:=hu
   split<;>omega
  ·rw [<-mx1_map];exact SqT.of (s5 _ _ upd_same)
  ·intro e he
   obtain ⟨x,hxm,rfl⟩:=List.mem_map.mp he
   have:=mem_le_sum (List.mem_map_of_mem (f:=λ x:Int=>(-x).toNat) hxm)
   have h3:(xs.map λ x:Int=>(-x).toNat).sum<=3:=hd3
   split<;>omega
  ·have s6':Same H2 H6:=(s4.trans s5).trans s6
   refine q p _ n' _ _ ((bt.trans (But.of s6')).new hp) ?_ upd_same ?_
   ·exact (Same.new hp) _ _ (s6' _ _ ha2)
   ·rw [ups_eq,downs_eq]
    exact frac_of_row hu hd3
def FracAt (H:Hp) (x:V):Prop := ∃ (c:Addr) (i j:Int),x=.ref c/\H c=some (.tup [.int i,.int j])/\fracB i j=true
theorem FracAt.stay {H H':Hp} {x:V} (a:Addr) (n:Int) (h:FracAt H x) (ha:H a=some (.lst [.int n])) (bt:But a H H'):FracAt H' x:=by
 obtain ⟨c,i,j,rfl,hc,f⟩:=h
 exact ⟨c,i,j,rfl,bt c _ (ne_of hc ha (by intro z;cases z)) hc,f⟩
def sp_l_program:Sp:=λ vs H Q _ => ∃ (a b:Addr) (n most:Int) (ns:List Int),vs=[.ref a,.ref b,.int most]/\H a=some (.lst [.int n])/\H b=some (.tup (ns.map V.int))/\1<=ns.length/\ns.length<=10/\(∀ m∈ns,0<=m/\m<10)/\1<=most/\most<=16 /\
 ∀ (p:Addr) (H':Hp) (n':Int) (xs:List V),But a H H'->H' a=some (.lst [.int n'])->H' p=some (.tup xs)->1<=xs.length->(xs.length:Int)<=most->(∀ x∈xs,FracAt H' x)->Q (.ref p) H'
theorem ok_l_program (T:Tx K mg):FnOk P w K mg base CX0 4 T.f_l_program T.fd_l_program ["pot", "places", "most"] sp_l_program:=by
 refine T.D_l_program.fn.okQ sc_l_program (λ vs H Q E h=>?_) (λ cdv A outer s H vs Q E hr h=>?_)
 ·obtain ⟨a,b,n,most,ns,rfl,_⟩:=h
  rfl
 ·obtain ⟨a,b,n,most,ns,rfl,ha,hb,hn1,hn2,hm,k1,k2,q⟩:=h
  refine ⟨_,(qss_one (qs_ret (qe_callTy call_tuple_of (by rfl) T.m_tuple b_tuple (qa_c (qe_comp (compOk_of (osc:=defScope s_l_program) (XN:=["pot", "places", "most"]) (N:=["k", "pot", "places"]) (js:=[none,some 0,some 1]) rfl rfl rfl (List.forall_mem_cons.mpr ⟨rfl,(List.forall_mem_cons.mpr ⟨rfl,(List.forall_mem_nil _)⟩)⟩) (by decide +kernel) rfl) rfl (qi_range1 rfl T.m_range (qa_c (qe_op op_add qe_int (qe_cD (ok_l_take T) (hr.mono (by decide)) rfl T.D_l_take pass0 (qa_c (qv 0) (qa_c (qv 2) qa_nil)))) qa_nil)) (λ _ _ _ _=>(qg_name (i:=0) (show List.Nodup (["k", "pot", "places"]:List Str) from by decide +kernel) rfl (Or.inl rfl) (Or.inr rfl))) (λ _ _ _ _=>qts_nil)
     (λ _ _ _ _=>(qe_cD (ok_l_fraction T) (hr.mono (by decide)) rfl T.D_l_fraction pass0 (qa_c (qv 1) (qa_c (qv 2) qa_nil))))) qa_nil)))),?_⟩
  have nab:b≠a:=ne_of hb ha (by intro z;cases z)
  have g0:=Int.emod_nonneg n (show most≠0 by omega)
  have g1:=Int.emod_lt_of_pos n (show 0<most by omega)
  refine ⟨_,rfl,_,rfl,a,n,most,rfl,ha,by omega,by omega,_,_,rfl,rfl,_,rfl,by omega,by omega,λ D hD=>?_⟩
  have nDa:D≠a:=λ z=>by rw [z,upd_same] at hD;cases hD
  have hDH:H D=none:=by rw [upd_ne nDa] at hD;exact hD
  refine comp_range (n:=(1+n % most).toNat) (by rw [sizeLine_eq];omega) (λ i σ' H' ys=>(∃ (u:Option V) (n':Int),σ'=[u,some (.ref a),some (.ref b)]/\H' a=some (.lst [.int n']))/\But a H H' /\ ∀ y∈ys,FracAt H' y) ⟨⟨none,n / most,rfl,by rw [upd_ne nDa.symm,upd_same]⟩,(But.upd).new hD,λ y hy=>absurd hy (by simp)⟩ ?_ ?_
  ·rintro i σ' H' ys R hi hD' hyl ⟨⟨u,n',rfl,ha'⟩,bt,hy⟩ k
   have hb':=bt b _ nab hb
   refine ⟨_,rfl,_,rfl,a,b,n',ns,rfl,ha',hb',hn1,hn2,hm,λ p H4 n4 i4 j4 bt4 ha4 hp4 f4=>?_⟩
   have hD4:H4 D=some (.lst ys):=bt4 D _ nDa hD'
   have kp : ∀ c o,c≠D->H4 c=some o->(upd H4 D (.lst (ys++[V.ref p]))) c=some o:=λ c o nc e=>by rw [upd_ne nc];exact e
   have npD:p≠D:=ne_of hp4 hD4 (by intro z;cases z)
   refine k _ _ _ hD4 ⟨⟨_,n4,rfl,kp _ _ nDa.symm ha4⟩,?_,?_⟩
   ·intro c o nc e
    exact kp c o (ne_of_none e hDH) (bt4 c o nc (bt c o nc e))
   ·intro y hym
    rcases List.mem_append.mp hym with z | z
    ·obtain ⟨c,i',j',rfl,hc,f⟩:=FracAt.stay a n' (hy y z) ha' bt4
     exact ⟨c,i',j',rfl,kp _ _ (ne_of hc hD4 (by intro z;cases z)) hc,f⟩
    ·rw [List.mem_singleton] at z
     subst z
     exact ⟨p,i4,j4,rfl,kp _ _ npD hp4,f4⟩
  ·rintro σ' H' ys hD' hyl ⟨⟨u,n',rfl,ha'⟩,bt,hy⟩
   refine ⟨D,_,rfl,.inl ⟨SqL.of hD',λ p hp=>?_⟩⟩
   refine q p _ n' ys (bt.new hp) ((Same.new hp) _ _ ha') upd_same (by rw [hyl];omega) (by rw [hyl];omega) λ x hx=>?_
   obtain ⟨c,i',j',rfl,hc,f⟩:=hy x hx
   exact ⟨c,i',j',rfl,(Same.new hp) _ _ hc,f⟩
def sp_l_takeA:Sp:=λ vs H Q _ => ∃ (a:Addr) (n far:Int),vs=[.ref a,.int far]/\H a=some (.lst [.int n])/\0<far/\far<1073741824 /\
 ∀ (r n':Int) (H':Hp),0<=r->r<far->But a H H'->H' a=some (.lst [.int n'])->Q (.int r) H'
theorem ok_l_takeA (T:Tx K mg):FnOk P w K mg base CX0 1 T.f_l_take T.fd_l_take ["pot", "far"] sp_l_takeA :=
 (ok_l_take T).imp λ vs H Q E ⟨a,n,far,e,ha,h0,h1,q⟩=>⟨a,n,far,e,ha,h0,h1,q _ (n / far) _ (Int.emod_nonneg n (by omega)) (Int.emod_lt_of_pos n h0) But.upd upd_same⟩
def sp_l_line:Sp:=λ vs H Q _ => ∃ (a b:Addr) (n most:Int) (ns:List Int),vs=[.ref a,.ref b,.int most]/\H a=some (.lst [.int n])/\H b=some (.tup (ns.map V.int))/\ns.length<=10/\(∀ m∈ns,0<=m/\m<10)/\0<=most/\most<=1000000 /\
 ∀ (p:Addr) (H':Hp) (n':Int) (es:List Int),But a H H'->H' a=some (.lst [.int n'])->H' p=some (.tup (es.map V.int))->es.length=10->(∀ e∈es,0<=e/\e<=most)->Q (.ref p) H'
theorem mem_set {α : Type} {xs:List α} {i:Nat} {v x : α} (h:x∈xs.set i v):x=v\/x∈xs:=(List.mem_or_eq_of_mem_set h).elim .inr .inl
theorem ok_l_line (T:Tx K mg):FnOk P w K mg base CX0 2 T.f_l_line T.fd_l_line ["pot", "places", "most"] sp_l_line:=by
 refine T.D_l_line.fn.okQ sc_l_line (λ vs H Q E h=>?_) (λ cdv A outer s H vs Q E hr h=>?_)
 ·obtain ⟨a,b,n,most,ns,rfl,_⟩:=h
  rfl
 ·obtain ⟨a,b,n,most,ns,rfl,ha,hb,hn,hm,m0,m1,q⟩:=h
  refine ⟨_,(qss_cons (qs_set (i:=3) sc_l_line.nd rfl (Or.inl rfl) (qe_op op_repLA (qe_lstA (qa_c qe_int qa_nil)) qe_int))
   (qss_cons (qs_for PassesOwn.never rfl (qi_tup (qv 1)) (qg_name (i:=4) sc_l_line.nd rfl (Or.inl rfl))
    (qss_one (qs_asg (qe_cD (ok_l_takeA T) (hr.mono (by decide)) rfl T.D_l_take pass0 (qa_c (qv 0) (qa_c (qe_op op_add (qv 2) qe_int) qa_nil))) (qg_sub (qv 3) (qv 4) set_list))))
   (qss_cons (qs_if (qt_cmpR op_eq (qe_cD (ok_l_takeA T) (hr.mono (by decide)) rfl T.D_l_take pass0 (qa_c (qv 0) (qa_c qe_int qa_nil))) qe_int (nomark _))
    (qss_one (qs_asg (qe_cD (ok_l_takeA T) (hr.mono (by decide)) rfl T.D_l_take pass0 (qa_c (qv 0) (qa_c (qe_op op_add (qv 2) qe_int) qa_nil))) (qg_sub (qv 3) (qe_cD (ok_l_takeA T) (hr.mono (by decide)) rfl T.D_l_take pass0 (qa_c (qv 0) (qa_c qe_int qa_nil))) set_list)))
    qss_nil)
   (qss_one (qs_ret (qe_callTy call_tuple_ofA (by rfl) T.m_tuple b_tuple (qa_c (qv 3) qa_nil))))))),?_⟩
  have nab:b≠a:=ne_of hb ha (by intro z;cases z)
  refine ⟨(by show 1<=sizeLine;decide),λ l0 H1 f1 s1 hl0=>⟨l0,10,_,rfl,rfl,hl0,by decide,by decide,by decide,λ l H2 f2 s2 hl=>?_⟩⟩
  have nal:a≠l:=ne_of_none (s1 _ _ ha) f2
  have hlH:H l=none:=s1.free f2
  refine ⟨_,rfl,b,rfl,⟨_,SqT.of (s2 _ _ (s1 _ _ hb))⟩,for_tup (xs:=ns.map V.int) (λ i σ H3 => ∃ (n':Int) (es:List Int) (u:Option V),σ=[some (.ref a),some (.ref b),some (.int most),some (.ref l),u]/\But a H H3/\H3 a=some (.lst [.int n'])/\H3 l=some (.lst (es.map V.int))/\es.length=10 /\ ∀ e∈es,0<=e/\e<=most)
   ⟨n,List.replicate 10 0,none,rfl,But.of (s1.trans s2),s2 _ _ (s1 _ _ ha),hl,rfl,λ e he=>by rw [(List.mem_replicate.mp he).2];omega⟩ (λ i σ H3 _ ⟨_,_,_,_,bt,_⟩=>SqT.of (bt _ _ nab hb)) ?_ ?_⟩
  ·rintro i x σ H3 hx ⟨n',es,u,rfl,bt,ha3,hl3,he,hes⟩
   obtain ⟨m,rfl,hmn⟩:=map_int_get hx
   obtain ⟨k0,k1⟩:=hm m (List.mem_of_getElem? hmn)
   refine ⟨_,rfl,_,rfl,_,_,rfl,rfl,a,n',_,rfl,ha3,by omega,by omega,λ r n2 H4 r0 r1 b4 ha4=>?_⟩
   refine ⟨_,rfl,_,rfl,l,_,_,_,rfl,rfl,b4 _ _ nal.symm hl3,ixN_of k0 (by rw [List.length_map,he];omega),⟨n2,es.set m.toNat r,_,rfl,?_,?_,?_,?_,?_⟩⟩
   ·intro c o nc e
    rw [upd_ne (ne_of_none e hlH)]
    exact b4 c o nc (bt c o nc e)
   ·rw [upd_ne nal];exact ha4
   ·rw [upd_same,List.map_set]
   ·rw [List.length_set];exact he
   ·intro e hme
    rcases mem_set hme with z | z
    ·rw [z];omega
    ·exact hes e z
  rintro σ H3 ⟨n',es,u,rfl,bt,ha3,hl3,he,hes⟩
  have fin : ∀ (H5:Hp) (n5:Int) (es':List Int),But a H H5->H5 a=some (.lst [.int n5])->H5 l=some (.lst (es'.map V.int))->es'.length=10->(∀ e∈es',0<=e/\e<=most) -> ∀ p H',H5 p=none->Same H5 H'->H' p=some (.tup (es'.map V.int))->Q (.ref p) H' :=
   λ H5 n5 es' bt5 ha5 hl5 he5 hes5 p H' fp sp hp=>q p H' n5 es' (bt5.trans (But.of sp)) (sp _ _ ha5) hp he5 hes5
  refine ⟨_,rfl,a,n',6,rfl,ha3,by decide,by decide,λ r n2 H4 r0 r1 b4 ha4=>⟨rfl,_,rfl,ite2 (λ _=>?_) (λ _=>?_)⟩⟩
  ·refine ⟨_,rfl,_,rfl,_,_,rfl,rfl,a,n2,_,rfl,ha4,by omega,by omega,λ r3 n3 H5 r30 r31 b5 ha5=>?_⟩
   refine ⟨_,rfl,_,rfl,a,n3,10,rfl,ha5,by decide,by decide,λ r4 n4 H6 r40 r41 b6 ha6=>?_⟩
   have hl6:H6 l=some (.lst (es.map V.int)):=b6 _ _ nal.symm (b5 _ _ nal.symm (b4 _ _ nal.symm hl3))
   refine ⟨l,_,_,_,rfl,rfl,hl6,ixN_of r40 (by rw [List.length_map,he];omega),?_⟩
   refine ⟨_,rfl,l,_,rfl,SqL.of upd_same,?_⟩
   rw [<-List.map_set]
   refine fin _ n4 (es.set r4.toNat r3) ?_ ?_ ?_ ?_ ?_
   ·intro c o nc e
    rw [upd_ne (ne_of_none e hlH)]
    exact b6 c o nc (b5 c o nc (b4 c o nc (bt c o nc e)))
   ·rw [upd_ne nal];exact ha6
   ·rw [upd_same]
   ·rw [List.length_set];exact he
   ·intro e hme
    rcases mem_set hme with z | z
    ·rw [z];omega
    ·exact hes e z
  ·have hl4:H4 l=some (.lst (es.map V.int)):=b4 _ _ nal.symm hl3
   exact ⟨_,rfl,l,_,rfl,SqL.of hl4,fin H4 n2 es (bt.trans b4) ha4 hl4 he hes⟩
def sp_whole:Sp:=λ vs H Q _ => ∃ v,vs=[v]/\kindV H v/\Q (.bl (isW v)) H
theorem okH_is_whole (T:Tx K mg):FnOkH P w K mg base 1 T.f_is_whole T.fd_is_whole ["thing"] sp_whole:=by
 refine T.D_is_whole.fn.okH sc_is_whole (λ vs H Q E h=>?_) (λ cdv A outer s H vs Q E hr h=>?_)
 ·obtain ⟨v,rfl,_⟩:=h
  rfl
 ·obtain ⟨v,rfl,k,q⟩:=h
  refine ⟨_,(qss_one (qs_ret (qe_and (qe_callB call_isi (by rfl) T.m_isinstance b_isinstance (qa_c (qv 0) (qa_c (qe_ty (by rfl) T.m_int b_int) qa_nil))) (qe_one (qe_not (qe_callB call_isi (by rfl) T.m_isinstance b_isinstance (qa_c (qv 0) (qa_c (qe_ty (by rfl) T.m_bool b_bool) qa_nil)))))))),?_⟩
  obtain ⟨t,ty,e⟩:=isi_I (K:=K) k
  obtain ⟨t',ty',e'⟩:=isi_B (K:=K) k
  rw [<-isW_eq] at q
  refine ⟨v,rfl,v, "int", t,_,rfl,ty,e,_,rfl,?_⟩
  cases hi:isI v with
  | false =>
   rw [hi] at q
   exact iteF q
  | true =>
   rw [hi] at q
   exact iteT ⟨v,rfl,v, "bool", t',_,rfl,ty',e',_,rfl,q⟩
theorem ok_is_whole (T:Tx K mg):FnOk P w K mg base CX0 1 T.f_is_whole T.fd_is_whole ["thing"] sp_whole:=(okH_is_whole T).fn
def natAt (σ:St) (i:Nat):Nat:=match σ[i]? with
 | some (some (.int r))=>r.toNat
 | _=>0
theorem int_eq0 {i j:Int} (h:decide (V.int i=V.int j)=true):i=j:=by
 have:=of_decide_eq_true h
 injection this
theorem int_ne0 {i j:Int} (h : ¬ decide (V.int i=V.int j)=true):i≠j:=λ z=>h (decide_eq_true (by rw [z]))
theorem stripL_snoc : ∀ (ps:List Nat) (i p n:Nat),ps[i]?=some p->stripL (ps.take (i+1)) n=strip p (stripL (ps.take i) n):=by
 intro ps i p n h
 unfold stripL
 rw [List.take_add_one,h,List.foldl_append]
 rfl
def sp_wp9:Sp:=λ vs H Q _ => ∃ m:Int,vs=[.int m]/\1<=m/\Q (.int (stripAll m.toNat:Nat)) H
theorem okH_wp9 (T:Tx K mg):FnOkH P w K mg base 1 T.f_wp9 T.fd_wp9 ["number"] sp_wp9:=by
 refine T.D_wp9.fn.okH sc_wp9 (λ vs H Q E h=>?_) (λ cdv A outer s H vs Q E hr h=>?_)
 ·obtain ⟨m,rfl,_⟩:=h
  rfl
 ·obtain ⟨m,rfl,hm,q⟩:=h
  refine ⟨_,(qss_cons (qs_set (i:=1) sc_wp9.nd rfl (Or.inl rfl) (qv 0))
   (qss_cons (qs_for PassesOwn.never rfl (qi_tup (qe_glob (v:=.ref T.a_PRIMES) (by rfl) T.g_PRIMES rfl)) (qg_name (i:=2) sc_wp9.nd rfl (Or.inl rfl))
    (qss_one (qs_while PassesOwn.never (qt_cmpR op_eq (qe_op op_mod (qv 1) (qv 2)) qe_int (nomark _))
    (qss_one (qs_set (i:=1) sc_wp9.nd rfl (Or.inl rfl) (qe_op op_fdiv (qv 1) (qv 2)))))))
   (qss_one (qs_ret (qv 1))))),?_⟩
  refine ⟨_,rfl,T.a_PRIMES,rfl,⟨primesV,T.t_PRIMES H⟩,for_tup (xs:=primesV) (λ i σ H2=>(∃ u:Option V,σ=[some (.int m),some (.int (stripL (primes.take i) m.toNat:Nat)),u])/\H2=H) ⟨⟨none,?_⟩,rfl⟩ (λ i σ H2 _ _=>T.t_PRIMES H2) ?_ ?_⟩
  ·show [some (V.int m),some (V.int m),none]=_
   rw [show stripL (primes.take 0) m.toNat=m.toNat from rfl,Int.toNat_of_nonneg (by omega)]
  ·rintro i x σ H2 hx ⟨⟨u,rfl⟩,rfl⟩
   obtain ⟨p,rfl,hp,hp30⟩:=primesV_get hx
   have hp2:2<=p:=two_le p (List.mem_of_getElem? hp)
   have hpos:1<=stripL (primes.take i) m.toNat:=stripL_pos _ (λ r hr=>two_le r (List.mem_of_mem_take hr)) _ (by omega)
   refine while_own (λ σ H3 => ∃ r:Nat,σ=[some (.int m),some (.int (r:Int)),some (.int (p:Int))]/\1<=r/\strip p r=strip p (stripL (primes.take i) m.toNat)/\H3=H2) (λ σ _=>natAt σ 1) ⟨_,rfl,hpos,rfl,rfl⟩ ?_
   rintro σ H3 ⟨r,rfl,hr1,hrs,rfl⟩
   refine ⟨_,rfl,_,rfl,_,_,rfl,rfl,(by show (0:Int)<p;omega),rfl,_,rfl,ite2 (λ h=>?_) (λ h=>?_)⟩
   ·have h0:(r:Int) % (p:Int)=0:=int_eq0 h
    have h0':r % p=0:=by omega
    refine whN ⟨_,rfl,_,rfl,_,_,rfl,rfl,⟨by omega,by omega⟩,?_⟩
    refine ⟨⟨r / p,?_,div_pos_of hr1 h0',by rw [<-strip_div hp2 hr1 h0'];exact hrs,rfl⟩,?_⟩
    ·rw [Int.natCast_ediv];rfl
    ·show ((r:Int) / (p:Int)).toNat<((r:Int)).toNat
     rw [<-Int.natCast_ediv,Int.toNat_natCast,Int.toNat_natCast]
     exact Nat.div_lt_self hr1 hp2
   ·have h0 : ¬ (r:Int) % (p:Int)=0:=int_ne0 h
    have h0':r % p≠0:=by omega
    refine ⟨⟨some (.int (p:Int)),?_⟩,rfl⟩
    rw [stripL_snoc primes i p _ hp,<-hrs,strip_not h0']
  ·rintro σ H2 ⟨⟨u,rfl⟩,rfl⟩
   exact ⟨_,rfl,q⟩
theorem ok_wp9 (T:Tx K mg):FnOk P w K mg base CX0 1 T.f_wp9 T.fd_wp9 ["number"] sp_wp9:=(okH_wp9 T).fn
def sp_ho9:Sp:=λ vs H Q _ => ∃ (p:Nat) (m:Int),vs=[.int (p:Int),.int m]/\2<=p/\p<30/\1<=m/\Q (.int (cnt p m.toNat:Nat)) H
theorem okH_ho9 (T:Tx K mg):FnOkH P w K mg base 1 T.f_ho9 T.fd_ho9 ["prime", "number"] sp_ho9:=by
 refine T.D_ho9.fn.okH sc_ho9 (λ vs H Q E h=>?_) (λ cdv A outer s H vs Q E hr h=>?_)
 ·obtain ⟨p,m,rfl,_⟩:=h
  rfl
 ·obtain ⟨p,m,rfl,hp2,hp30,hm,q⟩:=h
  refine ⟨_,(qss_cons (qs_set (i:=2) sc_ho9.nd rfl (Or.inl rfl) qe_int)
   (qss_cons (qs_set (i:=3) sc_ho9.nd rfl (Or.inl rfl) (qv 1))
   (qss_cons (qs_while PassesOwn.never (qt_cmpR op_eq (qe_op op_mod (qv 3) (qv 0)) qe_int (nomark _))
    (qss_cons (qs_set (i:=3) sc_ho9.nd rfl (Or.inl rfl) (qe_op op_fdiv (qv 3) (qv 0)))
   (qss_one (qs_set (i:=2) sc_ho9.nd rfl (Or.inl rfl) (qe_op op_add (qv 2) qe_int)))))
   (qss_one (qs_ret (qv 2)))))),?_⟩
  refine ⟨_,rfl,?_⟩
  refine while_own (λ σ H3 => ∃ o r:Nat,σ=[some (.int (p:Int)),some (.int m),some (.int (o:Int)),some (.int (r:Int))]/\1<=r/\o+cnt p r=cnt p m.toNat/\H3=H) (λ σ _=>natAt σ 3) ⟨0,m.toNat,by rw [Int.toNat_of_nonneg (by omega)];rfl,by omega,Nat.zero_add _,rfl⟩ ?_
  rintro σ H3 ⟨o,r,rfl,hr1,hro,rfl⟩
  refine ⟨_,rfl,_,rfl,_,_,rfl,rfl,(by show (0:Int)<p;omega),rfl,_,rfl,ite2 (λ h=>?_) (λ h=>?_)⟩
  ·have h0:(r:Int) % (p:Int)=0:=int_eq0 h
   have h0':r % p=0:=by omega
   refine whN ⟨_,rfl,_,rfl,_,_,rfl,rfl,⟨by omega,by omega⟩,_,rfl,_,_,rfl,rfl,?_⟩
   refine ⟨⟨o+1,r / p,?_,div_pos_of hr1 h0',by rw [cnt_div hp2 hr1 h0'] at hro;omega,rfl⟩,?_⟩
   ·rw [Int.natCast_ediv,Int.natCast_add];rfl
   ·show ((r:Int) / (p:Int)).toNat<((r:Int)).toNat
    rw [<-Int.natCast_ediv,Int.toNat_natCast,Int.toNat_natCast]
    exact Nat.div_lt_self hr1 hp2
  ·have h0 : ¬ (r:Int) % (p:Int)=0:=int_ne0 h
   have h0':r % p≠0:=by omega
   rw [cnt_not h0',Nat.add_zero] at hro
   subst hro
   exact ⟨_,rfl,q⟩
end
section
variable {P:Program} {w:World} {K:PySem.W.Frag} {mg:Str->Option Value} {base:Heap}
def sp_po9:Sp:=λ vs H Q _ => ∃ i:Int,vs=[.int i]/\1<=i/\stripAll i.toNat=1 /\ ∀ p H',Same H H'->H' p=some (tupI (natI (powsOf i.toNat)))->Q (.ref p) H'
theorem okH_po9 (T:Tx K mg):FnOkH P w K mg base 2 T.f_po9 T.fd_po9 ["number"] sp_po9:=by
 refine T.D_po9.fn.okH sc_po9 (λ vs H Q E h=>?_) (λ cdv A outer s H vs Q E hr h=>?_)
 ·obtain ⟨i,rfl,_⟩:=h
  rfl
 ·obtain ⟨i,rfl,h1,hz,q⟩:=h
  refine ⟨_,(qss_cons (qs_if (QW.pt (qw_or (qt_not (qt_val (qe_callH (okH_is_whole T) (hr.mono (by decide)) rfl rfl T.D_is_whole.at_ T.D_is_whole.fn.kp T.D_is_whole.bd (qa_c (qv 0) qa_nil)))) (qw_or (qt_cmpR op_lt (qv 0) qe_int (nomark _)) (qw_or1 (qt_cmpR op_ne (qe_callH (okH_wp9 T) (hr.mono (by decide)) rfl rfl T.D_wp9.at_ T.D_wp9.fn.kp T.D_wp9.bd (qa_c (qv 0) qa_nil)) qe_int (nomark _))))))
    (qss_one qs_never)
    qss_nil)
   (qss_one (qs_ret (qe_callTy call_tuple_ofA (by rfl) T.m_tuple b_tuple (qa_c (qe_comp (compOk_of (osc:=defScope s_po9) (XN:=["number"]) (N:=["prime", "number"]) (js:=[none,some 0]) rfl rfl rfl (List.forall_mem_cons.mpr ⟨rfl,(List.forall_mem_nil _)⟩) (by decide +kernel) rfl) rfl (qi_tup (qe_glob (v:=.ref T.a_PRIMES) (by rfl) T.g_PRIMES rfl)) (λ _ _ _ _=>(qg_name (i:=0) (show List.Nodup (["prime", "number"]:List Str) from by decide +kernel) rfl (Or.inl rfl) (Or.inr rfl))) (λ _ _ _ _=>qts_nil)
     (λ _ _ _ _=>(qe_callH (okH_ho9 T) (hr.mono (by decide)) rfl rfl T.D_ho9.at_ T.D_ho9.fn.kp T.D_ho9.bd (qa_c (qv 0) (qa_c (qv 1) qa_nil))))) qa_nil))))),?_⟩
  refine ⟨_,rfl,_,rfl,trivial,_,rfl,iteF ?_⟩
  refine ⟨_,rfl,_,_,rfl,rfl,_,rfl,?_⟩
  rw [decide_eq_false (show ¬ i<1 by omega)]
  refine iteF ⟨_,rfl,i,rfl,h1,rfl,_,rfl,?_⟩
  rw [hz]
  refine iteF ?_
  refine ⟨T.a_PRIMES,rfl,⟨primesV,T.t_PRIMES H⟩,λ D hD=>comp_map_tup (xs:=primesV) (f:=λ v=>match v with | .int p=>V.int (cnt p.toNat i.toNat:Nat) | v=>v) rfl (by decide) hD (T.t_PRIMES H) ?_ ?_⟩
  ·intro x H' R hx r
   obtain ⟨z,hz⟩:=List.getElem?_of_mem hx
   obtain ⟨p,rfl,hp,hp30⟩:=primesV_get hz
   have hp2:2<=p:=two_le p (List.mem_of_getElem? hp)
   refine ⟨_,rfl,_,rfl,p,i,rfl,hp2,hp30,by omega,?_⟩
   have r2:R (V.int (cnt ((p:Int).toNat) i.toNat:Nat)) H':=r
   rw [Int.toNat_natCast] at r2
   exact r2
  ·refine ⟨D,_,rfl,SqL.of upd_same,λ p H' fp sp hp=>q p H' ((Same.new hD).trans sp) ?_⟩
   rw [hp]
   rfl
theorem zip_chg (n d:Nat):List.zipWith (λ x y:Int=>x - y) (natI (powsOf n)) (natI (powsOf d))=chg n d:=by
 unfold natI chg
 rw [List.zipWith_map]
def sp_fc9:Sp:=λ vs H Q _ => ∃ (b:Addr) (i j:Int),vs=[.ref b]/\H b=some (.tup [.int i,.int j])/\fracB i j=true /\ ∀ p H',Same H H'->H' p=some (tupI (chg i.toNat j.toNat))->Q (.ref p) H'
theorem okH_fc9 (T:Tx K mg):FnOkH P w K mg base 3 T.f_fc9 T.fd_fc9 ["fraction"] sp_fc9:=by
 refine T.D_fc9.fn.okH sc_fc9 (λ vs H Q E h=>?_) (λ cdv A outer s H vs Q E hr h=>?_)
 ·obtain ⟨b,i,j,rfl,_⟩:=h
  rfl
 ·obtain ⟨b,i,j,rfl,hb,hf,q⟩:=h
  refine ⟨_,(qss_cons (qs_set (i:=1) sc_fc9.nd rfl (Or.inl rfl) (qe_callH (okH_po9 T) (hr.mono (by decide)) rfl rfl T.D_po9.at_ T.D_po9.fn.kp T.D_po9.bd (qa_c (qe_ix ix_tup (qv 0) qe_int (λ _ _=>rfl)) qa_nil)))
   (qss_cons (qs_set (i:=2) sc_fc9.nd rfl (Or.inl rfl) (qe_callH (okH_po9 T) (hr.mono (by decide)) rfl rfl T.D_po9.at_ T.D_po9.fn.kp T.D_po9.bd (qa_c (qe_ix ix_tup (qv 0) qe_int (λ _ _=>rfl)) qa_nil)))
   (qss_one (qs_ret (qe_callTy call_tuple_ofA (by rfl) T.m_tuple b_tuple (qa_c (qe_comp (compOk_of (osc:=defScope s_fc9) (XN:=["fraction", "tops", "bottoms"]) (N:=["top", "bottom"]) (js:=[none,none]) rfl rfl rfl (List.forall_mem_nil _) (by decide +kernel) rfl) rfl (qi_zip rfl rfl T.m_zip (qa_c (qv 1) (qa_c (qv 2) qa_nil))) (λ _ _ _ _=>(qg_tupN (K:=K) (n:=2) rfl rfl (qgs_cons (qg_name (i:=0) (show List.Nodup (["top", "bottom"]:List Str) from by decide +kernel) rfl (Or.inl rfl) (Or.inr rfl)) (qgs_cons (qg_name (i:=1) (show List.Nodup (["top", "bottom"]:List Str) from by decide +kernel) rfl (Or.inl rfl) (Or.inr rfl)) qgs_nil)))) (λ _ _ _ _=>qts_nil)
     (λ _ _ _ _=>(qe_op op_sub (qv 0) (qv 1)))) qa_nil)))))),?_⟩
  obtain ⟨⟨i1,i2⟩,⟨j1,j2⟩⟩:=fracB_parts hf
  refine ⟨_,rfl,b,_,_,_,rfl,rfl,SqT.of hb,rfl,i,rfl,i1,i2,λ p1 H1 s1 hp1=>?_⟩
  refine ⟨_,rfl,b,_,_,_,rfl,rfl,SqT.of (s1 _ _ hb),rfl,j,rfl,j1,j2,λ p2 H2 s2 hp2=>?_⟩
  refine ⟨_,rfl,_,rfl,p1,p2,rfl,⟨_,SqT.of (s2 _ _ hp1)⟩,⟨_,SqT.of hp2⟩,λ D hD=>?_⟩
  refine comp_zip_ints (f:=λ x y=>x - y) (σ0:=[]) (xs:=natI (powsOf i.toNat)) (ys:=natI (powsOf j.toNat)) (by simp [natI,powsOf,primes];decide) ⟨_,_,rfl⟩ hD (s2 _ _ hp1) hp2 (λ x y H' R _ _ r=>⟨_,rfl,_,rfl,_,_,rfl,rfl,r⟩) λ H3 s3 h3=>?_
  refine ⟨D,_,rfl,SqL.of h3,λ p H4 fp s4 hp=>q p H4 (((s1.trans s2).trans s3).trans s4) ?_⟩
  rw [hp,zip_chg]
def sp_co9:Sp:=λ vs H Q _ => ∃ (b:Addr) (xs:List V) (fs:List (Int×Int)),vs=[.ref b]/\H b=some (.tup xs)/\FrcsV H xs fs/\xs.length<=1000 /\
 ∀ l H' ys,H l=none->Same H H'->H' l=some (.lst ys)->RowsV H' ys (rowsOf fs)->Q (.ref l) H'
theorem okH_co9 (T:Tx K mg):FnOkH P w K mg base 4 T.f_co9 T.fd_co9 ["program"] sp_co9:=by
 refine T.D_co9.fn.okH sc_co9 (λ vs H Q E h=>?_) (λ cdv A outer s H vs Q E hr h=>?_)
 ·obtain ⟨b,xs,fs,rfl,_⟩:=h
  rfl
 ·obtain ⟨b,xs,fs,rfl,hb,hf,hl,q⟩:=h
  refine ⟨_,(qss_one (qs_ret (qe_comp (compOk_of (osc:=defScope s_co9) (XN:=["program"]) (N:=["fraction"]) (js:=[none]) rfl rfl rfl (List.forall_mem_nil _) (by decide +kernel) rfl) rfl (qi_tup (qv 0)) (λ _ _ _ _=>(qg_name (i:=0) (show List.Nodup (["fraction"]:List Str) from by decide +kernel) rfl (Or.inl rfl) (Or.inr rfl))) (λ _ _ _ _=>qts_nil)
     (λ _ _ _ _=>(qe_callH (okH_fc9 T) (hr.mono (by decide)) rfl rfl T.D_fc9.at_ T.D_fc9.fn.kp T.D_fc9.bd (qa_c (qv 0) qa_nil)))))),?_⟩
  refine ⟨_,rfl,b,rfl,⟨_,SqT.of hb⟩,λ D hD=>?_⟩
  refine comp_tup (xs:=xs) (by rw [sizeLine_eq];omega) (λ i σ' H' ys=>(∃ u:Option V,σ'=[u])/\Same H H'/\RowsV H' ys ((rowsOf fs).take i)) ⟨⟨_,rfl⟩,Same.new hD,RowsV.nil⟩ (λ i σ' H' ys _ _ ⟨_,s',_⟩=>SqT.of (s' _ _ hb)) ?_ ?_
  ·rintro i x σ' H' ys R hx hD' hyl ⟨⟨u,rfl⟩,s',hr'⟩ kk
   obtain ⟨a,d,c,f1,rfl,hc,f4⟩:=hf.2 i x hx
   refine ⟨_,rfl,c,a,d,rfl,s' _ _ hc,f4,λ p H2 s2 hp=>?_⟩
   refine kk _ _ _ (s2 _ _ hD') ⟨⟨_,rfl⟩,?_,?_⟩
   ·intro e o eo
    rw [upd_ne (ne_of_none eo hD)]
    exact s2 _ _ (s' _ _ eo)
   ·have e1:(rowsOf fs)[i]?=some (chg a.toNat d.toNat):=by unfold rowsOf;rw [List.getElem?_map,f1];rfl
    rw [List.take_add_one,e1]
    exact RowsV.but ((hr'.same s2).app (RowsV.one ⟨p,rfl,hp⟩)) (s2 _ _ hD') But.upd
  ·rintro σ' H' ys hD' hyl ⟨_,s',hr'⟩
   rw [List.take_of_length_le (by rw [rowsOf_len,<-hf.1];exact Nat.le_refl _)] at hr'
   exact q D H' ys hD s' hD' hr'
theorem ok_co9 (T:Tx K mg):FnOk P w K mg base CX0 4 T.f_co9 T.fd_co9 ["program"] sp_co9:=(okH_co9 T).fn
def sp_fits:Sp:=λ vs H Q _ => ∃ (a b:Addr) (cs ps:List Int),vs=[.ref a,.ref b]/\H a=some (tupI cs)/\H b=some (tupI ps) /\ ∀ H',Same H H'->Q (.bl (fitsB cs ps)) H'
theorem fits_no {cs ps:List Int} {i:Nat} {a b:Int} (h1:cs[i]?=some a) (h2:ps[i]?=some b) (h:b+a<0):fitsB cs ps=false:=by
 rw [Bool.eq_false_iff]
 intro z
 have:=fitsB_iff.mp z i a b h1 h2
 omega
theorem okH_fits (T:Tx K mg):FnOkH P w K mg base 1 T.f_fits T.fd_fits ["changes", "powers"] sp_fits:=by
 refine T.D_fits.fn.okH sc_fits (λ vs H Q E h=>?_) (λ cdv A outer s H vs Q E hr h=>?_)
 ·obtain ⟨a,b,cs,ps,rfl,_⟩:=h
  rfl
 ·obtain ⟨a,b,cs,ps,rfl,ha,hb,q⟩:=h
  refine ⟨_,(qss_cons (qs_for PassesOwn.never rfl (qi_zip rfl rfl T.m_zip (qa_c (qv 0) (qa_c (qv 1) qa_nil))) (qg_tup rfl (qgs_cons (qg_name (i:=2) sc_fits.nd rfl (Or.inl rfl)) (qgs_cons (qg_name (i:=3) sc_fits.nd rfl (Or.inl rfl)) qgs_nil)))
    (qss_one (qs_if (qt_cmpR op_lt (qe_op op_add (qv 3) (qv 2)) qe_int (nomark _))
    (qss_one (qs_ret qe_bl))
    qss_nil)))
   (qss_one (qs_ret qe_bl))),?_⟩
  refine ⟨_,rfl,_,rfl,a,b,rfl,⟨_,SqT.of ha⟩,⟨_,SqT.of hb⟩,?_⟩
  refine for_zip (xs:=cs.map V.int) (ys:=ps.map V.int) (λ i σ H2=>(∃ u v:Option V,σ=[some (.ref a),some (.ref b),u,v])/\Same H H2 /\ ∀ j,j<i -> ∀ x y,cs[j]?=some x->ps[j]?=some y->0<=y+x) ⟨⟨none,none,rfl⟩,Same.refl H,λ j hj=>by omega⟩ (λ i σ H2 _ ⟨_,s2,_⟩=>⟨SqT.of (s2 _ _ ha),SqT.of (s2 _ _ hb)⟩) ?_ ?_
  ·rintro i x y p σ H2 hx hy hp ⟨⟨u,v,rfl⟩,s2,hall⟩
   obtain ⟨x,rfl,hx'⟩:=map_int_get hx
   obtain ⟨y,rfl,hy'⟩:=map_int_get hy
   refine ⟨p,_,rfl,SqT.of upd_same,rfl,_,_,rfl,_,_,rfl,rfl,?_⟩
   refine ⟨_,rfl,_,rfl,_,_,rfl,rfl,_,_,rfl,rfl,_,rfl,ite2 (λ h=>?_) (λ h=>?_)⟩
   ·have h0:y+x<0:=of_decide_eq_true h
    have q':=q _ (Same.more (o:=.tup [.int x,.int y]) s2 hp)
    rw [fits_no hx' hy' h0] at q'
    exact q'
   ·have h0 : ¬ y+x<0:=λ z=>h (decide_eq_true z)
    refine ⟨⟨_,_,rfl⟩,Same.more s2 hp,λ j hj x' y' e1 e2=>?_⟩
    by_cases hji:j=i
    ·subst hji
     rw [hx'] at e1;rw [hy'] at e2
     cases e1;cases e2
     omega
    ·exact hall j (by omega) x' y' e1 e2
  ·rintro σ H2 ⟨⟨u,v,rfl⟩,s2,hall⟩
   have q':=q H2 s2
   rw [fitsB_iff.mpr λ j x y e1 e2=>hall j ?_ x y e1 e2] at q'
   ·exact q'
   ·have h1:=(List.getElem?_eq_some_iff.mp e1).1
    have h2:=(List.getElem?_eq_some_iff.mp e2).1
    rw [List.length_map,List.length_map]
    omega
def sp_first_of:Sp:=λ vs H Q _ => ∃ (l b:Addr) (ys:List V) (rows:List (List Int)) (ps:List Int),vs=[.ref l,.ref b]/\H l=some (.lst ys)/\RowsV H ys rows/\H b=some (tupI ps) /\ ∀ H',Same H H'->Q (optV (fstI rows ps)) H'
theorem okH_first_of (T:Tx K mg):FnOkH P w K mg base 2 T.f_first_of T.fd_first_of ["rows", "powers"] sp_first_of:=by
 refine T.D_first_of.fn.okH sc_first_of (λ vs H Q E h=>?_) (λ cdv A outer s H vs Q E hr h=>?_)
 ·obtain ⟨l,b,ys,rows,ps,rfl,_⟩:=h
  rfl
 ·obtain ⟨l,b,ys,rows,ps,rfl,hl,hrs,hb,q⟩:=h
  refine ⟨_,(qss_cons (qs_for PassesOwn.never rfl (qi_enum rfl rfl T.m_enumerate (qa_c (qv 0) qa_nil)) (qg_tup rfl (qgs_cons (qg_name (i:=2) sc_first_of.nd rfl (Or.inl rfl)) (qgs_cons (qg_name (i:=3) sc_first_of.nd rfl (Or.inl rfl)) qgs_nil)))
    (qss_one (qs_if (qt_val (qe_callH (okH_fits T) (hr.mono (by decide)) rfl rfl T.D_fits.at_ T.D_fits.fn.kp T.D_fits.bd (qa_c (qv 3) (qa_c (qv 1) qa_nil))))
    (qss_one (qs_ret (qv 2)))
    qss_nil)))
   (qss_one (qs_ret qe_non))),?_⟩
  refine ⟨_,rfl,l,ys,rfl,hl,?_⟩
  refine for_enum (xs:=ys) (λ i σ H2=>(∃ u v:Option V,σ=[some (.ref l),some (.ref b),u,v])/\Same H H2 /\ ∀ j,j<i -> ∀ c,rows[j]?=some c->fitsB c ps=false) ⟨⟨none,none,rfl⟩,Same.refl H,λ j hj=>by omega⟩ (λ i σ H2 _ ⟨_,s2,_⟩=>s2 _ _ hl) ?_ ?_
  ·rintro i x p σ H2 hx hp ⟨⟨u,v,rfl⟩,s2,hall⟩
   obtain ⟨c,a,hc,rfl,ha⟩:=hrs.at hx
   have s3:=Same.more (o:=.tup [.int (i:Int),.ref a]) s2 hp
   refine ⟨p,_,rfl,SqT.of upd_same,rfl,_,_,rfl,_,_,rfl,rfl,?_⟩
   refine ⟨_,rfl,_,rfl,a,b,c,ps,rfl,s3 _ _ ha,s3 _ _ hb,λ H4 s4=>⟨_,rfl,ite2 (λ h=>?_) (λ h=>?_)⟩⟩
   ·have q':=q H4 (s3.trans s4)
    rw [fstI_at rows ps i hall (λ c' e=>by rw [hc] at e;cases e;exact h) (List.getElem?_eq_some_iff.mp hc).1] at q'
    exact ⟨_,rfl,q'⟩
   ·refine ⟨⟨_,_,rfl⟩,s3.trans s4,λ j hj c' e=>?_⟩
    by_cases hji:j=i
    ·subst hji
     rw [hc] at e
     cases e
     cases z:fitsB c ps with
     | true=>exact absurd z h
     | false=>rfl
    ·exact hall j (by omega) c' e
  ·rintro σ H2 ⟨⟨u,v,rfl⟩,s2,hall⟩
   have q':=q H2 s2
   rw [fstI_none rows ps λ j c e=>hall j (by rw [hrs.1];exact (List.getElem?_eq_some_iff.mp e).1) c e] at q'
   exact q'
theorem ok_first_of (T:Tx K mg):FnOk P w K mg base CX0 2 T.f_first_of T.fd_first_of ["rows", "powers"] sp_first_of:=(okH_first_of T).fn
def sp_moved:Sp:=λ vs H Q _ => ∃ (a b:Addr) (ps cs:List Int) (m:Int),vs=[.ref a,.ref b,.int m]/\H a=some (tupI ps)/\H b=some (tupI cs)/\(-(2 ^ 64)<m/\m<2 ^ 64)/\ps.length<=1000 /\ ∀ p H',Same H H'->H' p=some (tupI (mvd ps cs m))->Q (.ref p) H'
theorem okH_moved (T:Tx K mg):FnOkH P w K mg base 1 T.f_moved T.fd_moved ["powers", "changes", "many"] sp_moved:=by
 refine T.D_moved.fn.okH sc_moved (λ vs H Q E h=>?_) (λ cdv A outer s H vs Q E hr h=>?_)
 ·obtain ⟨a,b,ps,cs,m,rfl,_⟩:=h
  rfl
 ·obtain ⟨a,b,ps,cs,m,rfl,ha,hb,hm,hl,q⟩:=h
  refine ⟨_,(qss_one (qs_ret (qe_callTy call_tuple_ofA (by rfl) T.m_tuple b_tuple (qa_c (qe_comp (compOk_of (osc:=defScope s_moved) (XN:=["powers", "changes", "many"]) (N:=["power", "change", "many"]) (js:=[none,none,some 2]) rfl rfl rfl (List.forall_mem_cons.mpr ⟨rfl,(List.forall_mem_nil _)⟩) (by decide +kernel) rfl) rfl (qi_zip rfl rfl T.m_zip (qa_c (qv 0) (qa_c (qv 1) qa_nil))) (λ _ _ _ _=>(qg_tupN (K:=K) (n:=2) rfl rfl (qgs_cons (qg_name (i:=0) (show List.Nodup (["power", "change", "many"]:List Str) from by decide +kernel) rfl (Or.inl rfl) (Or.inr rfl)) (qgs_cons (qg_name (i:=1) (show List.Nodup (["power", "change", "many"]:List Str) from by decide +kernel) rfl (Or.inl rfl) (Or.inr rfl)) qgs_nil)))) (λ _ _ _ _=>qts_nil)
     (λ _ _ _ _=>(qe_op op_add (qv 0) (qe_op op_mul (qv 2) (qv 1))))) qa_nil)))),?_⟩
  refine ⟨_,rfl,_,rfl,a,b,rfl,⟨_,SqT.of ha⟩,⟨_,SqT.of hb⟩,λ D hD=>?_⟩
  refine comp_zip_ints (f:=λ x y=>x+m * y) (σ0:=[some (.int m)]) (xs:=ps) (ys:=cs) (by rw [sizeLine_eq];omega) ⟨_,_,rfl⟩ hD ha hb (λ x y H' R _ _ r=>⟨_,rfl,_,rfl,_,rfl,_,_,rfl,rfl,.inl hm,_,_,rfl,rfl,r⟩) λ H3 s3 h3=>?_
  exact ⟨D,_,rfl,SqL.of h3,λ p H4 fp s4 hp=>q p H4 (s3.trans s4) hp⟩
theorem ok_moved (T:Tx K mg):FnOk P w K mg base CX0 1 T.f_moved T.fd_moved ["powers", "changes", "many"] sp_moved:=(okH_moved T).fn
theorem goN_pre {rows:List (List Int)} {p:List Int} : ∀ {k j:Nat} {q:List Int},goN rows k p=some q->j<=k -> ∃ r,goN rows j p=some r
 | 0,j,q,h,hj=>by rw [show j=0 by omega];exact ⟨q,h⟩
 | k+1,j,q,h,hj=>by
  by_cases e:j=k+1
  ·rw [e];exact ⟨q,h⟩
  ·obtain ⟨r,h1,_⟩:=Option.bind_eq_some_iff.mp h
   exact goN_pre h1 (by omega)
def sp_after:Sp:=λ vs H Q _ => ∃ (b a:Addr) (xs:List V) (fs:List (Int×Int)) (ps r:List Int) (m:Int),vs=[.ref b,.ref a,.int m]/\H b=some (.tup xs)/\FrcsV H xs fs/\xs.length<=1000/\H a=some (tupI ps)/\ps.length=10/\nn ps=true/\0<=m/\m<2 ^ 62/\goN (rowsOf fs) m.toNat ps=some r /\
 ∀ q' H',Same H H'->H' q'=some (tupI r)->Q (.ref q') H'
theorem ok_after (T:Tx K mg):FnOk P w K mg base CX0 5 T.f_after T.fd_after ["program", "powers", "many"] sp_after:=by
 refine T.D_after.fn.okQ sc_after (λ vs H Q E h=>?_) (λ cdv A outer s H vs Q E hr h=>?_)
 ·obtain ⟨b,a,xs,fs,ps,r,m,rfl,_⟩:=h
  rfl
 ·obtain ⟨b,a,xs,fs,ps,r,m,rfl,hb,hf,hl,ha,hp10,hnn,m0,m4,hgo,q⟩:=h
  refine ⟨_,(qss_cons (qs_set (i:=3) sc_after.nd rfl (Or.inl rfl) (qe_cD (ok_co9 T) (hr.mono (by decide)) rfl T.D_co9 pass0 (qa_c (qv 0) qa_nil)))
   (qss_cons (qs_set (i:=4) sc_after.nd rfl (Or.inl rfl) (qv 1))
   (qss_cons (qs_for PassesOwn.never rfl (qi_range1 rfl T.m_range (qa_c (qv 2) qa_nil)) (qg_name (i:=5) sc_after.nd rfl (Or.inl rfl))
    (qss_cons (qs_set (i:=6) sc_after.nd rfl (Or.inl rfl) (qe_cD (ok_first_of T) (hr.mono (by decide)) rfl T.D_first_of pass0 (qa_c (qv 3) (qa_c (qv 4) qa_nil))))
   (qss_cons (qs_if (qt_cmpR op_isN (qv 6) qe_non (nomark _))
    (qss_one qs_never)
    qss_nil)
   (qss_one (qs_set (i:=4) sc_after.nd rfl (Or.inl rfl) (qe_cD (ok_moved T) (hr.mono (by decide)) rfl T.D_moved pass0 (qa_c (qv 4) (qa_c (qe_ix ix_list (qv 3) (qv 6) (λ _ _=>rfl)) (qa_c qe_int qa_nil)))))))))
   (qss_one (qs_ret (qv 4)))))),?_⟩
  refine ⟨_,rfl,b,xs,fs,rfl,hb,hf,hl,λ l H1 ys fl s1 hl1 hr1=>?_⟩
  refine ⟨_,rfl,_,rfl,m,rfl,by omega,m4,for_range (n:=m.toNat) (λ i σ H3 => ∃ (c:Addr) (cur:List Int) (u v:Option V),σ=[some (.ref b),some (.ref a),some (.int m),some (.ref l),some (.ref c),u,v]/\Same H1 H3/\H3 c=some (tupI cur)/\goN (rowsOf fs) i ps=some cur)
   ⟨a,ps,none,none,rfl,Same.refl H1,s1 _ _ ha,rfl⟩ ?_ ?_⟩
  ·rintro i σ H3 hi ⟨c,cur,u,v,rfl,s3,hc3,hg3⟩
   obtain ⟨nx,hnx⟩:=goN_pre (j:=i+1) hgo (by omega)
   have hst:stp (rowsOf fs) cur=some nx:=by
    have:(goN (rowsOf fs) i ps).bind (stp (rowsOf fs))=some nx:=hnx
    rw [hg3] at this
    exact this
   obtain ⟨k,d,h1,h2,_,h4⟩:=stp_some hst
   obtain ⟨x,e,hx,rfl,he⟩:=(hr1.same s3).of h2
   have c10:=(goN_ok (rowsOf_10 fs) hp10 hnn hg3).1
   refine ⟨_,rfl,_,rfl,l,c,ys,rowsOf fs,cur,rfl,s3 _ _ hl1,hr1.same s3,hc3,λ H4 s4=>?_⟩
   rw [h1]
   refine ⟨_,rfl,rfl,_,rfl,iteF ⟨_,rfl,_,rfl,_,rfl,l,_,_,_,rfl,rfl,SqL.of (s4 _ _ (s3 _ _ hl1)),atI_of (Int.natCast_nonneg k) (by rw [Int.toNat_natCast];exact hx),c,e,cur,d,1,rfl,s4 _ _ hc3,s4 _ _ he,⟨by decide,by decide⟩,by omega,λ p H6 s6 hp6=>?_⟩⟩
   rw [<-h4] at hp6
   exact ⟨p,nx,_,_,rfl,(s3.trans s4).trans s6,hp6,hnx⟩
  ·rintro σ H3 ⟨c,cur,u,v,rfl,s3,hc3,hg3⟩
   rw [hgo] at hg3
   cases hg3
   exact ⟨_,rfl,q c H3 (s1.trans s3) hc3⟩
def FoV (H:Hp) (v:V):FO->Prop
 | .round b l => ∃ a,v=.ref a/\H a=some (.tup [.str "round", .int (b:Int),.int (l:Int)])
 | .rests n c => ∃ a d,v=.ref a/\H a=some (.tup [.str "rests", .int (n:Int),.ref d])/\H d=some (tupI c)
 | .open_ => ∃ a,v=.ref a/\H a=some (.tup [.str "open"])
theorem FoV.same {H H':Hp} {v:V} {o:FO} (h:FoV H v o) (s:Same H H'):FoV H' v o:=by
 cases o with
 | round b l=>obtain ⟨a,e,h⟩:=h;exact ⟨a,e,s _ _ h⟩
 | rests n c=>obtain ⟨a,d,e,h,h'⟩:=h;exact ⟨a,d,e,s _ _ h,s _ _ h'⟩
 | open_=>obtain ⟨a,e,h⟩:=h;exact ⟨a,e,s _ _ h⟩
structure SeenD (rows:List (List Int)) (ps:List Int) (i:Nat) (kvs:List (List Key×V)):Prop where
 len:kvs.length<=i
 out : ∀ e v,valV kvs (kI e)=some v -> ∃ j:Nat,j<i/\v=.int (j:Int)/\goN rows j ps=some e
 inn : ∀ (j:Nat),j<i -> ∀ e,goN rows j ps=some e -> ∃ v,valV kvs (kI e)=some v
theorem SeenD.nil {rows:List (List Int)} {ps:List Int}:SeenD rows ps 0 []:=⟨Nat.le_refl _,(λ e v h=>by cases h),(λ j h=>by omega)⟩
theorem SeenD.put {rows:List (List Int)} {ps cur:List Int} {i:Nat} {kvs:List (List Key×V)} (S:SeenD rows ps i kvs) (hc:goN rows i ps=some cur):SeenD rows ps (i+1) (putK kvs (kI cur) (.int (i:Int))):=by
 refine ⟨?_,λ e v h=>?_,λ j hj e he=>?_⟩
 ·have:=length_putK kvs (kI cur) (.int (i:Int))
  have:=S.len
  omega
 ·by_cases z:e=cur
  ·subst z
   rw [valV_put_self] at h
   exact ⟨i,by omega,(Option.some.inj h).symm,hc⟩
  ·rw [valV_put_ne z] at h
   obtain ⟨j,h1,h2⟩:=S.out e v h
   exact ⟨j,by omega,h2⟩
 ·by_cases z:e=cur
  ·subst z
   exact ⟨_,valV_put_self⟩
  ·rw [valV_put_ne z]
   by_cases hji:j=i
   ·subst hji
    rw [hc] at he
    exact absurd (Option.some.inj he).symm z
   ·exact S.inn j (by omega) e he
theorem SeenD.fresh {rows:List (List Int)} {ps cur:List Int} {i:Nat} {kvs:List (List Key×V)} (S:SeenD rows ps i kvs) (D:Dst rows ps i) (hc:goN rows i ps=some cur) (hn:valV kvs (kI cur)=none):Dst rows ps (i+1):=λ j k hjk hk e=>by
 by_cases hki:k=i
 ·subst hki
  rw [hc] at e
  obtain ⟨v,hv⟩:=S.inn j hjk cur e
  rw [hn] at hv
  cases hv
 ·exact D j k hjk (by omega) e
def sp_fate:Sp:=λ vs H Q _ => ∃ (b a:Addr) (xs:List V) (fs:List (Int×Int)) (ps:List Int) (m:Int),vs=[.ref b,.ref a,.int m]/\H b=some (.tup xs)/\FrcsV H xs fs/\xs.length<=1000/\H a=some (tupI ps)/\ps.length=10/\nn ps=true/\0<=m/\m<=1000 /\
 ∀ v H' o,Same H H'->FateR (rowsOf fs) m.toNat ps o->FoV H' v o->Q v H'
theorem ok_fate (T:Tx K mg):FnOk P w K mg base CX0 5 T.f_fate T.fd_fate ["program", "powers", "most"] sp_fate:=by
 refine T.D_fate.fn.okQ sc_fate (λ vs H Q E h=>?_) (λ cdv A outer s H vs Q E hr h=>?_)
 ·obtain ⟨b,a,xs,fs,ps,m,rfl,_⟩:=h
  rfl
 ·obtain ⟨b,a,xs,fs,ps,m,rfl,hb,hf,hl,ha,hp10,hnn,m0,m4,q⟩:=h
  refine ⟨_,(qss_cons (qs_set (i:=3) sc_fate.nd rfl (Or.inl rfl) (qe_cD (ok_co9 T) (hr.mono (by decide)) rfl T.D_co9 pass0 (qa_c (qv 0) qa_nil)))
   (qss_cons (qs_set (i:=4) sc_fate.nd rfl (Or.inl rfl) qe_dnewT)
   (qss_cons (qs_set (i:=5) sc_fate.nd rfl (Or.inl rfl) (qv 1))
   (qss_cons (qs_for PassesOwn.never rfl (qi_range1 rfl T.m_range (qa_c (qe_op op_add (qv 2) qe_int) qa_nil)) (qg_name (i:=6) sc_fate.nd rfl (Or.inl rfl))
    (qss_cons (qs_if (qt_cmpR (op_inD (hu_of hr)) (qv 5) (qv 4) (by with_unfolding_all rfl))
    (qss_one (qs_ret (qe_tupA (qa_c qe_str (qa_c (qe_dget (hu_of hr) (qv 4) (qv 5) (λ _ _=>rfl)) (qa_c (qe_op op_sub (qv 6) (qe_dget (hu_of hr) (qv 4) (qv 5) (λ _ _=>rfl))) qa_nil))))))
    qss_nil)
   (qss_cons (qs_set (i:=7) sc_fate.nd rfl (Or.inl rfl) (qe_cD (ok_first_of T) (hr.mono (by decide)) rfl T.D_first_of pass0 (qa_c (qv 3) (qa_c (qv 5) qa_nil))))
   (qss_cons (qs_if (qt_cmpR op_isN (qv 7) qe_non (nomark _))
    (qss_one (qs_ret (qe_tupA (qa_c qe_str (qa_c (qv 6) (qa_c (qv 5) qa_nil))))))
    qss_nil)
   (qss_cons (qs_dput (hu_of hr) (qv 4) (qv 5) (qv 6) rfl)
   (qss_one (qs_set (i:=5) sc_fate.nd rfl (Or.inl rfl) (qe_cD (ok_moved T) (hr.mono (by decide)) rfl T.D_moved pass0 (qa_c (qv 5) (qa_c (qe_ix ix_list (qv 3) (qv 7) (λ _ _=>rfl)) (qa_c qe_int qa_nil)))))))))))
   (qss_one (qs_ret (qe_tupA (qa_c qe_str qa_nil)))))))),?_⟩
  refine ⟨_,rfl,b,xs,fs,rfl,hb,hf,hl,λ l H1 ys fl s1 hl1 hr1=>?_⟩
  refine λ d H2 f2 s2 hd2=>?_
  have fd:H d=none:=s1.free f2
  have R:=rowsOf_10 fs
  refine ⟨_,rfl,_,rfl,_,_,rfl,rfl,m+1,rfl,by omega,by omega,for_range (n:=(m+1).toNat) (λ i σ H3 => ∃ (c:Addr) (cur:List Int) (kvs:List (List Key×V)) (u v:Option V),σ=[some (.ref b),some (.ref a),some (.int m),some (.ref l),some (.ref d),some (.ref c),u,v]/\Same H1 H3/\H3 d=some (.dT kvs)/\H3 c=some (tupI cur)/\goN (rowsOf fs) i ps=some cur/\Dst (rowsOf fs) ps i/\SeenD (rowsOf fs) ps i kvs)
   ⟨a,ps,[],none,none,rfl,s2,hd2,s2 _ _ (s1 _ _ ha),rfl,λ _ _ _ h=>by omega,SeenD.nil⟩ ?_ ?_⟩
  ·rintro i σ H3 hi ⟨c,cur,kvs,u,v,rfl,s3,hd3,hc3,hg3,hD3,hS3⟩
   have hc10:=goN_ok R hp10 hnn hg3
   refine ⟨_,rfl,_,rfl,c,d,cur,kvs,rfl,rfl,hc3,hd3,_,rfl,?_⟩
   cases hv:valV kvs (kI cur) with
   | some v0 =>
    obtain ⟨j,hj,rfl,hgj⟩:=hS3.out cur v0 hv
    refine iteT ?_
    refine ⟨_,rfl,_,rfl,d,c,cur,kvs,_,rfl,rfl,hd3,hc3,hv,_,rfl,_,rfl,_,rfl,d,c,cur,kvs,_,rfl,rfl,hd3,hc3,hv,_,_,rfl,rfl,(by show 3<=sizeLine;decide),λ t H4 f4 s4 ht=>?_⟩
    refine q (.ref t) H4 (.round j (i - j)) ((s1.trans s3).trans s4) ⟨by omega,by omega,⟨cur,hgj,by rw [show j+(i - j)=i by omega];exact hg3⟩,by rw [show j+(i - j)=i by omega];exact hD3⟩ ⟨t,rfl,?_⟩
    rw [ht]
    show some (HO.tup [_,_,V.int (0+(i:Int) - (j:Int))])=_
    rw [show (0+(i:Int) - (j:Int))=((i - j:Nat):Int) by omega]
   | none =>
    refine iteF ?_
    have hD4:=hS3.fresh hD3 hg3 hv
    refine ⟨_,rfl,_,rfl,l,c,ys,rowsOf fs,cur,rfl,s3 _ _ hl1,hr1.same s3,hc3,λ H4 s4=>?_⟩
    cases hfst:fstI (rowsOf fs) cur with
    | none =>
     refine ⟨_,rfl,rfl,_,rfl,iteT ⟨_,rfl,_,rfl,(by show 3<=sizeLine;decide),λ t H5 f5 s5 ht=>?_⟩⟩
     refine q (.ref t) H5 (.rests i cur) (((s1.trans s3).trans s4).trans s5) ⟨by omega,hg3,hfst⟩ ⟨t,c,rfl,?_,s5 _ _ (s4 _ _ hc3)⟩
     rw [ht,Int.zero_add]
    | some k =>
     obtain ⟨c1,hc1,_,hk⟩:=fstI_lt hfst
     obtain ⟨x,e,hx,rfl,he⟩:=(hr1.same s3).of hc1
     have hst:=stp_of hfst hc1
     refine ⟨_,rfl,rfl,_,rfl,iteF ⟨_,rfl,_,rfl,_,rfl,d,c,cur,kvs,rfl,rfl,s4 _ _ hd3,s4 _ _ hc3,(by have:=hS3.len;rw [sizeLine_eq];omega),λ H5 b5 h5=>?_⟩⟩
     have kp:Same H1 H5:=λ c o eo=>b5 c o (λ z=>by rw [z,f2] at eo;cases eo) (s4 _ _ (s3 _ _ eo))
     have ncd:c≠d:=ne_of hc3 hd3 (by intro z;cases z)
     have ned:e≠d:=ne_of he hd3 (by intro z;cases z)
     refine ⟨_,rfl,_,rfl,_,rfl,l,_,_,_,rfl,rfl,SqL.of (kp _ _ hl1),atI_of (Int.natCast_nonneg k) (by rw [Int.toNat_natCast];exact hx),c,e,cur,c1,1,rfl,b5 _ _ ncd (s4 _ _ hc3),b5 _ _ ned (s4 _ _ he),⟨by decide,by decide⟩,by omega,λ p H6 s6 hp6=>?_⟩
     refine ⟨p,mvd cur c1 1,_,_,_,rfl,kp.trans s6,s6 _ _ h5,hp6,?_,hD4,?_⟩
     ·show (goN (rowsOf fs) i ps).bind _=_
      rw [hg3]
      exact hst
     ·rw [Int.zero_add]
      exact hS3.put hg3
  ·rintro σ H3 ⟨c,cur,kvs,u,v,rfl,s3,hd3,hc3,hg3,hD3,hS3⟩
   have em:(m+1).toNat=m.toNat+1:=by omega
   rw [em] at hg3 hD3
   exact ⟨(by show 1<=sizeLine;decide),λ t H4 f4 s4 ht=>q (.ref t) H4 .open_ ((s1.trans s3).trans s4) ⟨⟨cur,hg3⟩,hD3⟩ ⟨t,rfl,ht⟩⟩
end
section
variable {P:Program} {w:World} {K:PySem.W.Frag} {mg:Str->Option Value} {base:Heap}
def sp_sl9:Sp:=λ vs H Q _ => ∃ (a b:Addr) (ps cs:List Int),vs=[.ref a,.ref b]/\H a=some (tupI ps)/\H b=some (tupI cs)/\ps.length=10/\cs.length=10/\nn ps=true/\(∀ x∈cs,-40<x/\x<40) /\ ∀ H' o,Same H H'->LackR ps cs o->Q (optV o) H'
theorem okH_sl9 (T:Tx K mg):FnOkH P w K mg base 1 T.f_sl9 T.fd_sl9 ["powers", "used"] sp_sl9:=by
 refine T.D_sl9.fn.okH sc_sl9 (λ vs H Q E h=>?_) (λ cdv A outer s H vs Q E hr h=>?_)
 ·obtain ⟨a,b,ps,cs,rfl,_⟩:=h
  rfl
 ·obtain ⟨a,b,ps,cs,rfl,ha,hb,hp10,hc10,hnn,hcb,q⟩:=h
  refine ⟨_,(qss_one (qs_ret (qe_minD rfl (by rfl) T.m_min b_min (qa_c (qe_comp (compOk_of (osc:=defScope s_sl9) (XN:=["powers", "used"]) (N:=["power", "change"]) (js:=[none,none]) rfl rfl rfl (List.forall_mem_nil _) (by decide +kernel) rfl) rfl (qi_zip rfl rfl T.m_zip (qa_c (qv 0) (qa_c (qv 1) qa_nil))) (λ _ _ _ _=>(qg_tupN (K:=K) (n:=2) rfl rfl (qgs_cons (qg_name (i:=0) (show List.Nodup (["power", "change"]:List Str) from by decide +kernel) rfl (Or.inl rfl) (Or.inr rfl)) (qgs_cons (qg_name (i:=1) (show List.Nodup (["power", "change"]:List Str) from by decide +kernel) rfl (Or.inl rfl) (Or.inr rfl)) qgs_nil)))) (λ _ _ _ _=>(qts_one (qt_cmpR op_lt (qv 1) qe_int (nomark _))))
     (λ _ _ _ _=>(qe_op op_fdiv (qv 0) (qe_un un_neg (qv 1))))) qa_nil)))),?_⟩
  refine ⟨_,rfl,_,rfl,a,b,rfl,⟨_,SqT.of ha⟩,⟨_,SqT.of hb⟩,λ D hD=>?_⟩
  refine comp_zip_if (K:=K) (t:=λ _ y=>decide (y<0)) (f:=λ x y=>x / (-y)) (σ0:=[]) (xs:=ps) (ys:=cs) (by rw [hp10,hc10,sizeLine_eq];decide) ⟨_,_,rfl⟩ hD ha hb (λ x y H' R _ _ r=>⟨_,rfl,_,_,rfl,rfl,_,rfl,r⟩) (λ x y H' R _ hy ht r=>?_) λ H1 s1 h1=>?_
  ·have h1:y<0:=of_decide_eq_true ht
   have h2:=hcb y hy
   exact ⟨_,rfl,_,rfl,_,rfl,_,_,rfl,rfl,⟨by omega,by omega⟩,r⟩
  ·refine ⟨D,lackL ps cs,rfl,SqL.of h1,λ e=>q H1 none s1 (lack_none hnn e),λ M m1 m2=>?_⟩
   obtain ⟨M0,L⟩:=lack_some hnn m1 m2
   have:=q H1 _ s1 L
   rw [show optV (some M.toNat)=V.int M by show V.int (M.toNat:Int)=_;rw [Int.toNat_of_nonneg M0]] at this
   exact this
def sp_sf9:Sp:=λ vs H Q _ => ∃ (a b c:Addr) (ps cs ds:List Int),vs=[.ref a,.ref b,.ref c]/\H a=some (tupI ps)/\H b=some (tupI cs)/\H c=some (tupI ds)/\ps.length=10/\cs.length=10/\ds.length=10/\nn ps=true/\(∀ x∈cs,-40<x/\x<40)/\(∀ x∈ds,-40<x/\x<40) /\ ∀ H' o,Same H H'->FitR ps cs ds o->Q (optV o) H'
theorem okH_sf9 (T:Tx K mg):FnOkH P w K mg base 2 T.f_sf9 T.fd_sf9 ["powers", "used", "ahead"] sp_sf9:=by
 refine T.D_sf9.fn.okH sc_sf9 (λ vs H Q E h=>?_) (λ cdv A outer s H vs Q E hr h=>?_)
 ·obtain ⟨a,b,c,ps,cs,ds,rfl,_⟩:=h
  rfl
 ·obtain ⟨a,b,c,ps,cs,ds,rfl,ha,hb,hc,hp10,hc10,hd10,hnn,hcb,hdb,q⟩:=h
  refine ⟨_,(qss_cons (qs_set (i:=3) sc_sf9.nd rfl (Or.inl rfl) qe_int)
   (qss_cons (qs_for PassesOwn.never rfl (qi_zip3 rfl rfl T.m_zip (qa_c (qv 0) (qa_c (qv 1) (qa_c (qv 2) qa_nil)))) (qg_tup rfl (qgs_cons (qg_name (i:=4) sc_sf9.nd rfl (Or.inl rfl)) (qgs_cons (qg_name (i:=5) sc_sf9.nd rfl (Or.inl rfl)) (qgs_cons (qg_name (i:=6) sc_sf9.nd rfl (Or.inl rfl)) qgs_nil))))
    (qss_cons (qs_set (i:=7) sc_sf9.nd rfl (Or.inl rfl) (qe_op op_sub (qe_un un_neg (qv 6)) (qv 4)))
   (qss_one (qs_if (qt_cmpR op_gt (qv 7) qe_int (nomark _))
    (qss_cons (qs_if (qt_cmpR op_le (qv 5) qe_int (nomark _))
    (qss_one (qs_ret qe_non))
    qss_nil)
   (qss_one (qs_set (i:=3) sc_sf9.nd rfl (Or.inl rfl) (qe_callB (call_max2 rfl) (by rfl) T.m_max b_max (qa_c (qv 3) (qa_c (qe_op op_fdiv (qe_op op_sub (qe_op op_add (qv 7) (qv 5)) qe_int) (qv 5)) qa_nil))))))
    qss_nil))))
   (qss_cons (qs_if (qt_val (qe_callH (okH_fits T) (hr.mono (by decide)) rfl rfl T.D_fits.at_ T.D_fits.fn.kp T.D_fits.bd (qa_c (qv 2) (qa_c (qe_callH (okH_moved T) (hr.mono (by decide)) rfl rfl T.D_moved.at_ T.D_moved.fn.kp T.D_moved.bd (qa_c (qv 0) (qa_c (qv 1) (qa_c (qv 3) qa_nil)))) qa_nil))))
    (qss_one (qs_ret (qv 3)))
    qss_nil)
   (qss_one (qs_ret qe_non))))),?_⟩
  refine ⟨_,rfl,_,rfl,_,rfl,a,b,c,rfl,⟨_,SqT.of ha⟩,⟨_,SqT.of hb⟩,⟨_,SqT.of hc⟩,?_⟩
  refine for_zip3 (K:=K) (xs:=ps.map V.int) (ys:=cs.map V.int) (zs:=ds.map V.int) (by rw [List.length_map,List.length_map,hp10,hc10]) (by rw [List.length_map,List.length_map,hp10,hd10]) (λ i σ H2 => ∃ (m:Int) (u1 u2 u3 u4:Option V),σ=[some (.ref a),some (.ref b),some (.ref c),some (.int m),u1,u2,u3,u4]/\Same H H2/\FitI ps cs ds i m) ⟨0,none,none,none,none,rfl,Same.refl H,FitI.start⟩ (λ i σ H2 _ ⟨_,_,_,_,_,_,s2,_⟩=>⟨SqT.of (s2 _ _ ha),SqT.of (s2 _ _ hb),SqT.of (s2 _ _ hc)⟩) ?_ ?_
  ·rintro i x y z p σ H2 hx hy hz hp ⟨m,u1,u2,u3,u4,rfl,s2,hI⟩
   obtain ⟨x,rfl,hx'⟩:=map_int_get hx
   obtain ⟨y,rfl,hy'⟩:=map_int_get hy
   obtain ⟨z,rfl,hz'⟩:=map_int_get hz
   have s3:Same H (upd H2 p (.tup [.int x,.int y,.int z])):=Same.more s2 hp
   have zb:=hdb z (List.mem_of_getElem? hz')
   have yb:=hcb y (List.mem_of_getElem? hy')
   have x0:=nn_iff.mp hnn x (List.mem_of_getElem? hx')
   refine ⟨p,_,rfl,SqT.of upd_same,rfl,_,_,rfl,_,_,rfl,_,_,rfl,rfl,?_⟩
   refine ⟨_,rfl,_,rfl,_,rfl,_,_,rfl,rfl,?_⟩
   refine ⟨_,rfl,_,_,rfl,rfl,_,rfl,ite2 (λ h=>?_) (λ h=>?_)⟩
   ·have hl:0 < -z - x:=of_decide_eq_true h
    refine ⟨_,rfl,_,_,rfl,rfl,_,rfl,ite2 (λ h'=>?_) (λ h'=>?_)⟩
    ·exact q _ none s3 (FitI.never hx' hy' hz' hl (of_decide_eq_true h'))
    ·have hy0:0<y:=by
      have : ¬ y<=0:=λ w=>h' (decide_eq_true w)
      omega
     exact ⟨_,rfl,_,rfl,_,rfl,_,_,rfl,rfl,_,_,rfl,rfl,_,rfl,_,_,rfl,rfl,⟨hy0,by omega⟩,_,_,rfl,_,_,_,_,_,rfl,s3,hI.more hx' hy' hz' hl (by omega) hy0⟩
   ·exact ⟨m,_,_,_,_,rfl,s3,hI.skip (y:=y) hx' hz' λ w=>h (decide_eq_true w)⟩
  ·rintro σ H2 ⟨m,u1,u2,u3,u4,rfl,s2,hI⟩
   rw [List.length_map,hp10] at hI
   have h0:=hI.1
   have h1:=hI.2.1
   refine ⟨_,rfl,_,rfl,_,rfl,_,rfl,a,b,ps,cs,m,rfl,s2 _ _ ha,s2 _ _ hb,⟨by omega,by omega⟩,by omega,λ r H3 s3 h3=>?_⟩
   refine ⟨c,r,ds,mvd ps cs m,rfl,s3 _ _ (s2 _ _ hc),h3,λ H4 s4=>?_⟩
   have s24:=(s2.trans s3).trans s4
   refine ⟨_,rfl,ite2 (λ h=>?_) (λ h=>?_)⟩
   ·have:=q H4 _ s24 (hI.yes h)
    rw [show optV (some m.toNat)=V.int m by show V.int (m.toNat:Int)=_;rw [Int.toNat_of_nonneg h0]] at this
    exact ⟨_,rfl,this⟩
   ·exact q H4 none s24 (hI.no hp10 (Bool.eq_false_iff.mpr h))
theorem opt_filter : ∀ (os:List (Option Nat)),(os.map optV).filter (λ v => !decide (v=V.non))=((os.filterMap id).map λ n:Nat=>(n:Int)).map V.int
 | []=>rfl
 | none::os=>by
  show (os.map optV).filter _=_
  rw [opt_filter os]
  rfl
 | some n::os=>by
  show V.int (n:Int)::(os.map optV).filter _=_
  rw [opt_filter os]
  rfl
def sp_ss9:Sp:=λ vs H Q _ => ∃ (l a:Addr) (ys:List V) (rows:List (List Int)) (ps c:List Int) (k:Nat),vs=[.ref l,.ref a,.int (k:Int)]/\H l=some (.lst ys)/\RowsV H ys rows/\ys.length<=1000/\H a=some (tupI ps)/\ps.length=10/\nn ps=true/\R10 rows/\RB rows/\rows[k]?=some c /\
 ∀ H' o,Same H H'->StR rows ps c k o->(∀ T,o=some T->(∃ x∈ps,(T:Int)<=x)\/T<=1000)->Q (optV o) H'
theorem okH_ss9 (T:Tx K mg):FnOkH P w K mg base 3 T.f_ss9 T.fd_ss9 ["rows", "powers", "number"] sp_ss9:=by
 refine T.D_ss9.fn.okH sc_ss9 (λ vs H Q E h=>?_) (λ cdv A outer s H vs Q E hr h=>?_)
 ·obtain ⟨l,a,ys,rows,ps,c,k,rfl,_⟩:=h
  rfl
 ·obtain ⟨l,a,ys,rows,ps,c,k,rfl,hl,hR,hyl,ha,hp10,hnn,R,B,hk,q⟩:=h
  refine ⟨_,(qss_cons (qs_set (i:=3) sc_ss9.nd rfl (Or.inr rfl) (qe_ix ix_list (qv 0) (qv 2) (λ _ _=>rfl)))
   (qss_cons (qs_set (i:=4) sc_ss9.nd rfl (Or.inl rfl) (qe_op op_catLA (qe_lstA (qa_c (qe_callH (okH_sl9 T) (hr.mono (by decide)) rfl rfl T.D_sl9.at_ T.D_sl9.fn.kp T.D_sl9.bd (qa_c (qv 1) (qa_c (qv 3) qa_nil))) qa_nil)) (qe_comp (compOk_of (osc:=defScope s_ss9) (XN:=["rows", "powers", "number", "used", "ends"]) (N:=["ahead", "powers", "used"]) (js:=[none,some 1,some 3]) rfl rfl rfl (List.forall_mem_cons.mpr ⟨rfl,(List.forall_mem_cons.mpr ⟨rfl,(List.forall_mem_nil _)⟩)⟩) (by decide +kernel) rfl) rfl (qi_list (qe_slice sl_list (qv 0) qo_none (qo_some (qv 2)))) (λ _ _ _ _=>(qg_name (i:=0) (show List.Nodup (["ahead", "powers", "used"]:List Str) from by decide +kernel) rfl (Or.inl rfl) (Or.inr rfl))) (λ _ _ _ _=>qts_nil)
     (λ _ _ _ _=>(qe_callH (okH_sf9 T) (hr.mono (by decide)) rfl rfl T.D_sf9.at_ T.D_sf9.fn.kp T.D_sf9.bd (qa_c (qv 1) (qa_c (qv 2) (qa_c (qv 0) qa_nil))))))))
   (qss_one (qs_ret (qe_minD rfl (by rfl) T.m_min b_min (qa_c (qe_comp (compOk_of (osc:=defScope s_ss9) (XN:=["rows", "powers", "number", "used", "ends"]) (N:=["end"]) (js:=[none]) rfl rfl rfl (List.forall_mem_nil _) (by decide +kernel) rfl) rfl (qi_list (qv 4)) (λ _ _ _ _=>(qg_name (i:=0) (show List.Nodup (["end"]:List Str) from by decide +kernel) rfl (Or.inl rfl) (Or.inr rfl))) (λ _ _ _ _=>(qts_one (qt_cmpR op_notN (qv 0) qe_non (nomark _))))
     (λ _ _ _ _=>(qv 0))) qa_nil)))))),?_⟩
  obtain ⟨x,e,hx,rfl,he⟩:=hR.of hk
  have hcm:=List.mem_of_getElem? hk
  have hkl:=(List.getElem?_eq_some_iff.mp hk).1
  refine ⟨_,rfl,_,rfl,l,_,_,_,rfl,rfl,SqL.of hl,atI_of (Int.natCast_nonneg k) (by rw [Int.toNat_natCast];exact hx),?_⟩
  refine ⟨_,rfl,_,rfl,a,e,ps,c,rfl,ha,he,hp10,R c hcm,hnn,B c hcm,λ H1 o s1 hL=>?_⟩
  refine ⟨(by show 1<=sizeLine;decide),λ l1 H2 f2 s2 hl1=>?_⟩
  have s12:=s1.trans s2
  refine ⟨_,rfl,_,rfl,_,rfl,l,ys,rfl,SqL.of (s12 _ _ hl),λ d hd=>?_⟩
  rw [cutV_pre (Int.natCast_nonneg k),Int.toNat_natCast]
  have s3:Same H2 (upd H2 d (.lst (ys.take k))):=Same.new hd
  have htk:(ys.take k).length=k:=by rw [List.length_take,hR.1];omega
  refine ⟨d,rfl,⟨_,SqL.of upd_same⟩,λ D hD=>?_⟩
  refine comp_list (K:=K) (xs:=ys.take k) (by rw [htk,sizeLine_eq,<-hR.1] at *;omega) (λ i σ' H' zs=>(∃ u:Option V,σ'=[u,some (.ref a),some (.ref e)])/\Same (upd H2 d (.lst (ys.take k))) H' /\ ∃ os:List (Option Nat),zs=os.map optV/\os.length=i /\ ∀ j,j<i -> ∀ r,rows[j]?=some r -> ∃ z,os[j]?=some z/\FitR ps c r z) ⟨⟨_,rfl⟩,Same.new hD,[],rfl,rfl,λ j hj=>absurd hj (by omega)⟩ (λ i σ' H' zs _ _ ⟨_,s',_⟩=>SqL.of (s' _ _ upd_same)) ?_ ?_
  ·rintro j x σ' H' zs RR hx' hD' hzl ⟨⟨u,rfl⟩,s',os,rfl,hol,hF⟩ kk
   have hjk:j<k:=by
    have:=(List.getElem?_eq_some_iff.mp hx').1
    omega
   have hxy:ys[j]?=some x:=by rw [List.getElem?_take_of_lt hjk] at hx';exact hx'
   obtain ⟨r,ra,hr1,rfl,hra⟩:=hR.at hxy
   have hrm:=List.mem_of_getElem? hr1
   have sH:Same H H':=(s12.trans s3).trans s'
   refine ⟨_,rfl,_,rfl,_,rfl,a,e,ra,ps,c,r,rfl,sH _ _ ha,sH _ _ he,sH _ _ hra,hp10,R c hcm,R r hrm,hnn,B c hcm,B r hrm,λ H4 z s4 hz=>?_⟩
   refine kk _ _ _ (s4 _ _ hD') ⟨⟨_,rfl⟩,?_,os++[z],?_,?_,?_⟩
   ·intro c2 o2 e2
    rw [upd_ne (ne_of_none e2 hD)]
    exact s4 _ _ (s' c2 o2 e2)
   ·rw [List.map_append];rfl
   ·rw [List.length_append,hol];rfl
   ·intro i hi r' hr'
    by_cases hij:i<j
    ·obtain ⟨z',h1,h2⟩:=hF i hij r' hr'
     exact ⟨z',by rw [List.getElem?_append_left (by omega)];exact h1,h2⟩
    ·have:i=j:=by omega
     subst this
     rw [hr1] at hr'
     cases hr'
     exact ⟨z,by rw [<-hol,List.getElem?_concat_length],hz⟩
  ·rintro σ' H4 zs hD4 hzl ⟨_,s4,os,rfl,hol,hF⟩
   rw [htk] at hol hF
   have s24:=s3.trans s4
   refine ⟨l1,D,_,_,rfl,rfl,s24 _ _ hl1,hD4,?_,λ en H5 f5 s5 h5=>?_⟩
   ·rw [List.length_map,hol,sizeLine_eq]
    show 1+k<=_
    have:=hR.1
    omega
   have s05:Same H H5:=(s12.trans s24).trans s5
   refine ⟨_,rfl,en,rfl,⟨_,SqL.of h5⟩,λ D2 hD2=>?_⟩
   refine comp_list_if (K:=K) (t:=λ v => !decide (v=V.non)) (σ0:=[]) (xs:=(o::os).map optV) ?_ ⟨_,rfl⟩ hD2 h5 (λ x H' RR _ _ r=>⟨_,rfl,rfl,_,rfl,r⟩) (λ x H' RR _ _ _ r=>⟨_,rfl,r⟩) λ H6 s6 h6=>?_
   ·rw [List.length_map,List.length_cons,hol,sizeLine_eq]
    have:=hR.1
    omega
   rw [opt_filter] at h6
   refine ⟨D2,_,rfl,SqL.of h6,λ ee=>?_,λ M m1 m2=>?_⟩
   ·exact q H6 none (s05.trans s6) (st_none hk hL hF (List.map_eq_nil_iff.mp ee)) (λ T z=>by cases z)
   ·obtain ⟨n,hn,rfl⟩:=List.mem_map.mp m1
    obtain ⟨h1,h2⟩:=st_some hk hol hL hF hn λ b hb=>by
     have:=m2 (b:Int) (List.mem_map_of_mem hb)
     omega
    exact q H6 (some n) (s05.trans s6) h1 (λ T z=>by cases z;exact h2)
theorem ok_ss9 (T:Tx K mg):FnOk P w K mg base CX0 3 T.f_ss9 T.fd_ss9 ["rows", "powers", "number"] sp_ss9:=(okH_ss9 T).fn
theorem term_le {i:Int} (h:termB i=true):i<=1000000000000:=by
 unfold termB at h
 simp only [Bool.and_eq_true,decide_eq_true_eq] at h
 exact h.1.2
theorem fracB_le {i j:Int} (h:fracB i j=true):i<=1000000000000/\j<=1000000000000:=by
 unfold fracB at h
 simp only [Bool.and_eq_true] at h
 exact ⟨term_le h.1.1,term_le h.1.2⟩
theorem rows_RB {H:Hp} {xs:List V} {fs:List (Int×Int)} (hf:FrcsV H xs fs):RB (rowsOf fs):=λ c hc x hx=>by
 obtain ⟨⟨i,j⟩,hm,rfl⟩:=List.mem_map.mp hc
 obtain ⟨k,hk⟩:=List.getElem?_of_mem hm
 have hkl:k<xs.length:=by rw [hf.1];exact (List.getElem?_eq_some_iff.mp hk).1
 obtain ⟨i',j',a,h1,_,_,f⟩:=hf.2 k _ (List.getElem?_eq_getElem hkl)
 rw [hk] at h1
 cases h1
 obtain ⟨⟨i1,_⟩,⟨j1,_⟩⟩:=fracB_parts f
 obtain ⟨ib,jb⟩:=fracB_le f
 exact chg_40 (by omega) (by omega) (by omega) (by omega) hx
def intOf:Option (Option V)->Nat
 | some (some (V.int i))=>i.toNat
 | _=>0
def cnt5 (σ:St):Nat:=intOf σ[5]?
def sp_leapQ:Sp:=λ vs H Q _ => ∃ (b a:Addr) (xs:List V) (fs:List (Int×Int)) (ps rr:List Int) (m:Int),vs=[.ref b,.ref a,.int m]/\H b=some (.tup xs)/\FrcsV H xs fs/\xs.length<=1000/\H a=some (tupI ps)/\ps.length=10/\nn ps=true/\0<=m/\m<=2000/\goN (rowsOf fs) m.toNat ps=some rr /\
 ∀ q' H',Same H H'->H' q'=some (tupI rr)->Q (.ref q') H'
theorem okH_leap (T:Tx K mg):FnOkH P w K mg base 5 T.f_leap T.fd_leap ["program", "powers", "many"] sp_leapQ:=by
 refine T.D_leap.fn.okH sc_leap (λ vs H Q E h=>?_) (λ cdv A outer s H vs Q E hr h=>?_)
 ·obtain ⟨b,a,xs,fs,ps,rr,m,rfl,_⟩:=h
  rfl
 ·obtain ⟨b,a,xs,fs,ps,rr,m,rfl,hb,hf,hl,ha,hp10,hnn,m0,m4,hgo,q⟩:=h
  refine ⟨_,(qss_cons (qs_set (i:=3) sc_leap.nd rfl (Or.inl rfl) (qe_callH (okH_co9 T) (hr.mono (by decide)) rfl rfl T.D_co9.at_ T.D_co9.fn.kp T.D_co9.bd (qa_c (qv 0) qa_nil)))
   (qss_cons (qs_set (i:=4) sc_leap.nd rfl (Or.inl rfl) (qv 1))
   (qss_cons (qs_set (i:=5) sc_leap.nd rfl (Or.inl rfl) qe_int)
   (qss_cons (qs_set (i:=6) sc_leap.nd rfl (Or.inl rfl) qe_int)
   (qss_cons (qs_while PassesOwn.never (qt_cmpR op_lt (qv 5) (qv 2) (nomark _))
    (qss_cons (qs_set (i:=7) sc_leap.nd rfl (Or.inl rfl) (qe_callH (okH_first_of T) (hr.mono (by decide)) rfl rfl T.D_first_of.at_ T.D_first_of.fn.kp T.D_first_of.bd (qa_c (qv 3) (qa_c (qv 4) qa_nil))))
   (qss_cons (qs_if (qt_cmpR op_isN (qv 7) qe_non (nomark _))
    (qss_one qs_never)
    qss_nil)
   (qss_cons (qs_if (qt_cmpR op_eq (qv 6) (qe_globC (by rfl) T.g_MS9) (nomark _))
    (qss_one qs_never)
    qss_nil)
   (qss_cons (qs_set (i:=8) sc_leap.nd rfl (Or.inl rfl) (qe_callH (okH_ss9 T) (hr.mono (by decide)) rfl rfl T.D_ss9.at_ T.D_ss9.fn.kp T.D_ss9.bd (qa_c (qv 3) (qa_c (qv 4) (qa_c (qv 7) qa_nil)))))
   (qss_cons (qs_ifJ (QW.pt (qw_or (qt_cmpR op_isN (qv 8) qe_non (nomark _)) (qw_or1 (qt_cmpR op_gt (qv 8) (qe_op op_sub (qv 2) (qv 5)) (nomark _)))))
    (qss_one (qs_set (i:=8) sc_leap.nd rfl (Or.inl rfl) (qe_op op_sub (qv 2) (qv 5))))
    qss_nil)
   (qss_cons (qs_set (i:=4) sc_leap.nd rfl (Or.inl rfl) (qe_callH (okH_moved T) (hr.mono (by decide)) rfl rfl T.D_moved.at_ T.D_moved.fn.kp T.D_moved.bd (qa_c (qv 4) (qa_c (qe_ix ix_list (qv 3) (qv 7) (λ _ _=>rfl)) (qa_c (qv 8) qa_nil)))))
   (qss_cons (qs_set (i:=5) sc_leap.nd rfl (Or.inl rfl) (qe_op op_add (qv 5) (qv 8)))
   (qss_one (qs_set (i:=6) sc_leap.nd rfl (Or.inl rfl) (qe_op op_add (qv 6) qe_int)))))))))))
   (qss_one (qs_ret (qv 4)))))))),?_⟩
  refine ⟨_,rfl,b,xs,fs,rfl,hb,hf,hl,λ l H1 ys fl s1 hl1 hr1=>?_⟩
  have R:=rowsOf_10 fs
  have B:=rows_RB hf
  have hyl:ys.length<=1000:=by rw [hr1.1,rowsOf_len,<-hf.1];exact hl
  refine ⟨_,rfl,?_⟩
  refine while_own (λ σ H3 => ∃ (cu:Addr) (cur:List Int) (d st:Nat) (u v:Option V),σ=[some (.ref b),some (.ref a),some (.int m),some (.ref l),some (.ref cu),some (.int (d:Int)),some (.int (st:Int)),u,v]/\Same H1 H3/\H3 cu=some (tupI cur)/\goN (rowsOf fs) d ps=some cur/\(d:Int)<=m/\st<=d)
   (λ σ _=>m.toNat - cnt5 σ) ⟨a,ps,0,0,none,none,rfl,Same.refl H1,s1 _ _ ha,rfl,m0,Nat.le_refl _⟩ ?_
  rintro σ H3 ⟨cu,cur,d,st,u,v,rfl,s3,hcu,hg,hdm,hsd⟩
  have hc10:=goN_ok R hp10 hnn hg
  refine ⟨_,rfl,_,rfl,_,_,rfl,rfl,_,rfl,ite2 (λ h=>?_) (λ h=>?_)⟩
  ·have h0:(d:Int)<m:=of_decide_eq_true h
   refine whN ⟨_,rfl,_,rfl,l,cu,ys,rowsOf fs,cur,rfl,s3 _ _ hl1,hr1.same s3,hcu,λ H4 s4=>?_⟩
   cases hfst:fstI (rowsOf fs) cur with
   | none =>
    have:=goN_restLt hg hfst hgo
    omega
   | some k =>
    obtain ⟨c,hc,_,hk⟩:=fstI_lt hfst
    obtain ⟨x,e,hx,rfl,he⟩:=(hr1.same s3).of hc
    have hcc:=R c (List.mem_of_getElem? hc)
    refine ⟨_,rfl,rfl,_,rfl,iteF ⟨_,rfl,rfl,_,rfl,?_⟩⟩
    rw [decide_eq_false (show ¬ V.int (st:Int)=V.int 2000 from λ z=>by injection z with z;omega)]
    refine iteF ?_
    refine ⟨_,rfl,_,rfl,_,rfl,l,cu,ys,rowsOf fs,cur,c,k,rfl,s4 _ _ (s3 _ _ hl1),(hr1.same s3).same s4,hyl,s4 _ _ hcu,hc10.1,hc10.2,R,B,hc,λ H5 o s5 hS hT=>?_⟩
    have s35:=s4.trans s5
    have hf0:fstI (rowsOf fs) (mvd cur c (0:Nat))=some k:=by rw [show ((0:Nat):Int)=0 from rfl,mvd_zero hc10.1 hcc];exact hfst
    refine ⟨λ σ' H' => ∃ sN:Nat,σ'=[some (.ref b),some (.ref a),some (.int m),some (.ref l),some (.ref cu),some (.int (d:Int)),some (.int (st:Int)),some (.int (k:Int)),some (.int (sN:Int))]/\H5=H'/\1<=sN/\(d:Int)+sN<=m /\ ∀ t:Nat,t<sN->fstI (rowsOf fs) (mvd cur c t)=some k,?_,?_⟩
    ·have all : ∀ (σ':St),σ'=[some (.ref b),some (.ref a),some (.int m),some (.ref l),some (.ref cu),some (.int (d:Int)),some (.int (st:Int)),some (.int (k:Int)),some (.int (m - (d:Int)))]->(∀ t:Nat,(t:Int)<m - d->fstI (rowsOf fs) (mvd cur c t)=some k) -> ∃ sN:Nat,σ'=[some (.ref b),some (.ref a),some (.int m),some (.ref l),some (.ref cu),some (.int (d:Int)),some (.int (st:Int)),some (.int (k:Int)),some (.int (sN:Int))]/\H5=H5/\1<=sN/\(d:Int)+sN<=m /\ ∀ t:Nat,t<sN->fstI (rowsOf fs) (mvd cur c t)=some k:=λ σ' eσ hall=>by
      refine ⟨(m - d).toNat,?_,rfl,by omega,by omega,λ t ht=>hall t (by omega)⟩
      rw [eσ,Int.toNat_of_nonneg (by omega)]
     cases o with
     | none =>
      exact ⟨_,rfl,rfl,_,rfl,iteT (iteT ⟨_,rfl,_,rfl,_,_,rfl,rfl,all _ rfl λ t _=>hS t⟩)⟩
     | some T' =>
      refine ⟨_,rfl,rfl,_,rfl,iteF ⟨_,rfl,_,rfl,_,rfl,_,_,rfl,rfl,_,_,rfl,rfl,_,rfl,ite2 (λ h'=>?_) (λ h'=>?_)⟩⟩
      ·have hgt:(T':Int) > m - d:=of_decide_eq_true h'
       exact ⟨_,rfl,_,rfl,_,_,rfl,rfl,all _ rfl λ t ht=>hS.1 t (by omega)⟩
      ·have hgt : ¬ (T':Int) > m - d:=λ z=>h' (decide_eq_true z)
       refine ⟨T',rfl,rfl,?_,by omega,hS.1⟩
       by_cases z:T'=0
       ·subst z
        exact absurd hf0 hS.2
       ·omega
    rintro σ' H' ⟨sN,rfl,rfl,hs1,hs2,hall⟩
    refine ⟨_,rfl,_,rfl,_,rfl,l,_,_,_,rfl,rfl,SqL.of (s35 _ _ (s3 _ _ hl1)),atI_of (Int.natCast_nonneg k) (by rw [Int.toNat_natCast];exact hx),_,rfl,cu,e,cur,c,(sN:Int),rfl,s35 _ _ hcu,s35 _ _ he,⟨by omega,by omega⟩,by omega,λ p H6 s6 hp6=>?_⟩
    refine ⟨_,rfl,_,rfl,_,_,rfl,rfl,_,rfl,_,_,rfl,rfl,⟨p,mvd cur c sN,d+sN,st+1,_,_,rfl,(s3.trans s35).trans s6,hp6,goN_plus hg hc hc10.1 hcc hall,by omega,by omega⟩,?_⟩
    show m.toNat - ((d:Int)+(sN:Int)).toNat<m.toNat - ((d:Int)).toNat
    omega
  ·have h0 : ¬ (d:Int)<m:=λ z=>h (decide_eq_true z)
   have e:d=m.toNat:=by omega
   subst e
   rw [hgo] at hg
   cases hg
   exact ⟨_,rfl,q cu H3 (s1.trans s3) hcu⟩
end
section
variable {P:Program} {w:World} {K:PySem.W.Frag} {mg:Str->Option Value} {base:Heap}
theorem ok_init_A (T:Tx K mg):FnOk P w K mg base CX0 1 T.f_init_A T.fd_init_A ["self", "steps"] (sp_init T.c_A "steps"):=by
 refine T.N_A.okQ sc_init_A (λ vs H Q E h=>?_) (λ cdv A outer s H vs Q E hr h=>?_)
 ·obtain ⟨e,t,v,rfl,_⟩:=h
  rfl
 ·obtain ⟨e,t,v,rfl,he,q⟩:=h
  refine ⟨_,(qss_one (qs_fldX rfl (qv 0) (qv 1) rfl)),?_⟩
  obtain ⟨cd,c1,c2,c3⟩:=T.I_A.cls
  refine ⟨_,rfl,_,rfl,e,T.c_A,T.c_FractError,t,cd,rfl,he,c1,c2,c3,T.I_A.xc.ob,T.I_A.sa,?_,λ dx hdx=>q dx hdx⟩
  show PySem.W.takerIn K T.c_A "steps" = some none
  unfold PySem.W.takerIn
  rw [T.FA_A]
  rfl
def sp_leapX (C:Addr):Sp:=λ vs H Q E => ∃ (b a:Addr) (xs:List V) (fs:List (Int×Int)) (ps:List Int) (m:Int),vs=[.ref b,.ref a,.int m]/\H b=some (.tup xs)/\FrcsV H xs fs/\xs.length<=1000/\H a=some (tupI ps)/\ps.length=10/\nn ps=true/\0<=m/\m<=2000 /\
 (∀ r,goN (rowsOf fs) m.toNat ps=some r -> ∀ q' H',Same H H'->H' q'=some (tupI r)->Q (.ref q') H') /\
 (∀ (n:Nat) r,n<m.toNat->goN (rowsOf fs) n ps=some r->fstI (rowsOf fs) r=none -> ∀ dx H',Same H H'->H' dx=some (.xd [("steps", .int (n:Int))])->E (.ref C) (some dx) H')
theorem ok_leapX (T:Tx K mg):FnOk P w K mg base (CXE P w) 5 T.f_leap T.fd_leap ["program", "powers", "many"] (sp_leapX T.c_A):=by
 refine T.D_leap.fn.okX sc_leap (λ vs H Q E h=>?_) (λ cdv A outer s H vs Q E hr h=>?_)
 ·obtain ⟨b,a,xs,fs,ps,m,rfl,_⟩:=h
  rfl
 ·obtain ⟨b,a,xs,fs,ps,m,rfl,hb,hf,hl,ha,hp10,hnn,m0,m4,q1,q2⟩:=h
  refine ⟨_,(qss_cons (qs_set (i:=3) sc_leap.nd rfl (Or.inl rfl) (qe_cD (ok_co9 T) (hr.mono (by decide)) rfl T.D_co9 pass0 (qa_c (qv 0) qa_nil)))
   (qss_cons (qs_set (i:=4) sc_leap.nd rfl (Or.inl rfl) (qv 1))
   (qss_cons (qs_set (i:=5) sc_leap.nd rfl (Or.inl rfl) qe_int)
   (qss_cons (qs_set (i:=6) sc_leap.nd rfl (Or.inl rfl) qe_int)
   (qss_cons (qs_while PassesOwn.leaving (qt_cmpR op_lt (qv 5) (qv 2) (nomark _))
    (qss_cons (qs_set (i:=7) sc_leap.nd rfl (Or.inl rfl) (qe_cD (ok_first_of T) (hr.mono (by decide)) rfl T.D_first_of pass0 (qa_c (qv 3) (qa_c (qv 4) qa_nil))))
   (qss_cons (qs_if (qt_cmpR op_isN (qv 7) qe_non (nomark _))
    (qss_one (qs_raiseI xok_cx rfl rfl T.I_A (ok_init_A T) (hr.mono (by decide)) T.B_A (by rfl) (qa_c (qv 5) qa_nil)))
    qss_nil)
   (qss_cons (qs_if (qt_cmpR op_eq (qv 6) (qe_globC (by rfl) T.g_MS9) (nomark _))
    (qss_one qs_never)
    qss_nil)
   (qss_cons (qs_set (i:=8) sc_leap.nd rfl (Or.inl rfl) (qe_cD (ok_ss9 T) (hr.mono (by decide)) rfl T.D_ss9 pass0 (qa_c (qv 3) (qa_c (qv 4) (qa_c (qv 7) qa_nil)))))
   (qss_cons (qs_ifJ (QW.pt (qw_or (qt_cmpR op_isN (qv 8) qe_non (nomark _)) (qw_or1 (qt_cmpR op_gt (qv 8) (qe_op op_sub (qv 2) (qv 5)) (nomark _)))))
    (qss_one (qs_set (i:=8) sc_leap.nd rfl (Or.inl rfl) (qe_op op_sub (qv 2) (qv 5))))
    qss_nil)
   (qss_cons (qs_set (i:=4) sc_leap.nd rfl (Or.inl rfl) (qe_cD (ok_moved T) (hr.mono (by decide)) rfl T.D_moved pass0 (qa_c (qv 4) (qa_c (qe_ix ix_list (qv 3) (qv 7) (λ _ _=>rfl)) (qa_c (qv 8) qa_nil)))))
   (qss_cons (qs_set (i:=5) sc_leap.nd rfl (Or.inl rfl) (qe_op op_add (qv 5) (qv 8)))
   (qss_one (qs_set (i:=6) sc_leap.nd rfl (Or.inl rfl) (qe_op op_add (qv 6) qe_int)))))))))))
   (qss_one (qs_ret (qv 4)))))))),?_⟩
  refine ⟨_,rfl,b,xs,fs,rfl,hb,hf,hl,λ l H1 ys fl s1 hl1 hr1=>?_⟩
  have R:=rowsOf_10 fs
  have B:=rows_RB hf
  have hyl:ys.length<=1000:=by rw [hr1.1,rowsOf_len,<-hf.1];exact hl
  refine ⟨_,rfl,?_⟩
  refine while_own (λ σ H3 => ∃ (cu:Addr) (cur:List Int) (d st:Nat) (u v:Option V),σ=[some (.ref b),some (.ref a),some (.int m),some (.ref l),some (.ref cu),some (.int (d:Int)),some (.int (st:Int)),u,v]/\Same H1 H3/\H3 cu=some (tupI cur)/\goN (rowsOf fs) d ps=some cur/\(d:Int)<=m/\st<=d)
   (λ σ _=>m.toNat - cnt5 σ) ⟨a,ps,0,0,none,none,rfl,Same.refl H1,s1 _ _ ha,rfl,m0,Nat.le_refl _⟩ ?_
  rintro σ H3 ⟨cu,cur,d,st,u,v,rfl,s3,hcu,hg,hdm,hsd⟩
  have hc10:=goN_ok R hp10 hnn hg
  refine ⟨_,rfl,_,rfl,_,_,rfl,rfl,_,rfl,ite2 (λ h=>?_) (λ h=>?_)⟩
  ·have h0:(d:Int)<m:=of_decide_eq_true h
   refine whN ⟨_,rfl,_,rfl,l,cu,ys,rowsOf fs,cur,rfl,s3 _ _ hl1,hr1.same s3,hcu,λ H4 s4=>?_⟩
   cases hfst:fstI (rowsOf fs) cur with
   | none =>
    refine ⟨_,rfl,rfl,_,rfl,iteT ⟨_,rfl,_,rfl,λ dx H5 s5 hdx=>?_⟩⟩
    exact q2 d cur (by omega) hg hfst dx H5 (((s1.trans s3).trans s4).trans s5) hdx
   | some k =>
    obtain ⟨c,hc,_,hk⟩:=fstI_lt hfst
    obtain ⟨x,e,hx,rfl,he⟩:=(hr1.same s3).of hc
    have hcc:=R c (List.mem_of_getElem? hc)
    refine ⟨_,rfl,rfl,_,rfl,iteF ⟨_,rfl,rfl,_,rfl,?_⟩⟩
    rw [decide_eq_false (show ¬ V.int (st:Int)=V.int 2000 from λ z=>by injection z with z;omega)]
    refine iteF ?_
    refine ⟨_,rfl,_,rfl,_,rfl,l,cu,ys,rowsOf fs,cur,c,k,rfl,s4 _ _ (s3 _ _ hl1),(hr1.same s3).same s4,hyl,s4 _ _ hcu,hc10.1,hc10.2,R,B,hc,λ H5 o s5 hS hT=>?_⟩
    have s35:=s4.trans s5
    have hf0:fstI (rowsOf fs) (mvd cur c (0:Nat))=some k:=by rw [show ((0:Nat):Int)=0 from rfl,mvd_zero hc10.1 hcc];exact hfst
    refine ⟨λ σ' H' => ∃ sN:Nat,σ'=[some (.ref b),some (.ref a),some (.int m),some (.ref l),some (.ref cu),some (.int (d:Int)),some (.int (st:Int)),some (.int (k:Int)),some (.int (sN:Int))]/\H5=H'/\1<=sN/\(d:Int)+sN<=m /\ ∀ t:Nat,t<sN->fstI (rowsOf fs) (mvd cur c t)=some k,?_,?_⟩
    ·have all : ∀ (σ':St),σ'=[some (.ref b),some (.ref a),some (.int m),some (.ref l),some (.ref cu),some (.int (d:Int)),some (.int (st:Int)),some (.int (k:Int)),some (.int (m - (d:Int)))]->(∀ t:Nat,(t:Int)<m - d->fstI (rowsOf fs) (mvd cur c t)=some k) -> ∃ sN:Nat,σ'=[some (.ref b),some (.ref a),some (.int m),some (.ref l),some (.ref cu),some (.int (d:Int)),some (.int (st:Int)),some (.int (k:Int)),some (.int (sN:Int))]/\H5=H5/\1<=sN/\(d:Int)+sN<=m /\ ∀ t:Nat,t<sN->fstI (rowsOf fs) (mvd cur c t)=some k:=λ σ' eσ hall=>by
      refine ⟨(m - d).toNat,?_,rfl,by omega,by omega,λ t ht=>hall t (by omega)⟩
      rw [eσ,Int.toNat_of_nonneg (by omega)]
     cases o with
     | none =>
      exact ⟨_,rfl,rfl,_,rfl,iteT (iteT ⟨_,rfl,_,rfl,_,_,rfl,rfl,all _ rfl λ t _=>hS t⟩)⟩
     | some T' =>
      refine ⟨_,rfl,rfl,_,rfl,iteF ⟨_,rfl,_,rfl,_,rfl,_,_,rfl,rfl,_,_,rfl,rfl,_,rfl,ite2 (λ h'=>?_) (λ h'=>?_)⟩⟩
      ·have hgt:(T':Int) > m - d:=of_decide_eq_true h'
       exact ⟨_,rfl,_,rfl,_,_,rfl,rfl,all _ rfl λ t ht=>hS.1 t (by omega)⟩
      ·have hgt : ¬ (T':Int) > m - d:=λ z=>h' (decide_eq_true z)
       refine ⟨T',rfl,rfl,?_,by omega,hS.1⟩
       by_cases z:T'=0
       ·subst z
        exact absurd hf0 hS.2
       ·omega
    rintro σ' H' ⟨sN,rfl,rfl,hs1,hs2,hall⟩
    refine ⟨_,rfl,_,rfl,_,rfl,l,_,_,_,rfl,rfl,SqL.of (s35 _ _ (s3 _ _ hl1)),atI_of (Int.natCast_nonneg k) (by rw [Int.toNat_natCast];exact hx),_,rfl,cu,e,cur,c,(sN:Int),rfl,s35 _ _ hcu,s35 _ _ he,⟨by omega,by omega⟩,by omega,λ p H6 s6 hp6=>?_⟩
    refine ⟨_,rfl,_,rfl,_,_,rfl,rfl,_,rfl,_,_,rfl,rfl,⟨p,mvd cur c sN,d+sN,st+1,_,_,rfl,(s3.trans s35).trans s6,hp6,goN_plus hg hc hc10.1 hcc hall,by omega,by omega⟩,?_⟩
    show m.toNat - ((d:Int)+(sN:Int)).toNat<m.toNat - ((d:Int)).toNat
    omega
  ·have h0 : ¬ (d:Int)<m:=λ z=>h (decide_eq_true z)
   have e:d=m.toNat:=by omega
   subst e
   exact ⟨_,rfl,q1 cur hg cu H3 (s1.trans s3) hcu⟩
def wGone (T:Tx K mg) (H:Hp) (b a:Addr) (fs:List (Int×Int)) (ps:List Int) (m:Int):St->XK:=λ σ Cv d H1=>σ=[some (.ref b),some (.ref a),some (.int m),none]/\Cv=.ref T.c_A /\ ∃ (dx:Addr) (n:Nat) (r:List Int),d=some dx/\H1 dx=some (.xd [("steps", .int (n:Int))])/\Same H H1/\n<m.toNat/\goN (rowsOf fs) n ps=some r/\fstI (rowsOf fs) r=none
def sp_gone_on:Sp:=λ vs H Q _ => ∃ (b a:Addr) (xs:List V) (fs:List (Int×Int)) (ps:List Int) (m:Int),vs=[.ref b,.ref a,.int m]/\H b=some (.tup xs)/\FrcsV H xs fs/\xs.length<=1000/\H a=some (tupI ps)/\ps.length=10/\nn ps=true/\0<=m/\m<=2000 /\
 ∀ (k:Nat) r t q' H',k<=m.toNat->goN (rowsOf fs) k ps=some r->(k=m.toNat\/fstI (rowsOf fs) r=none)->Same H H'->H' t=some (.tup [.int (k:Int),.ref q'])->H' q'=some (tupI r)->Q (.ref t) H'
theorem ok_gone_on (T:Tx K mg):FnOk P w K mg base CX0 7 T.f_gone_on T.fd_gone_on ["program", "powers", "many"] sp_gone_on:=by
 refine T.D_gone_on.fn.okQ sc_gone_on (λ vs H Q E h=>?_) (λ cdv A outer s H vs Q E hr h=>?_)
 ·obtain ⟨b,a,xs,fs,ps,m,rfl,_⟩:=h
  rfl
 ·obtain ⟨b,a,xs,fs,ps,m,rfl,hb,hf,hl,ha,hp10,hnn,m0,m4,q⟩:=h
  refine ⟨_,(qss_one (qs_tryM (E:=(wGone T H b a fs ps m)) (i:=3) rfl rfl rfl T.I_A.at_ (match_self T.I_A) (by rfl) sc_gone_on.nd rfl rfl (λ _ _ xk=>(qss_one (qs_ret (qe_tupA (qa_c (qe_callB (call_max2 rfl) (by rfl) T.m_max b_max (qa_c (qv 2) (qa_c qe_int qa_nil))) (qa_c (qe_callES (ok_leapX T) (hr.mono (by decide)) rfl xk rfl T.D_leap.at_ T.D_leap.fn.kp T.D_leap.bd (qa_c (qv 0) (qa_c (qv 1) (qa_c (qv 2) qa_nil)))) qa_nil))))))
    (λ _=>(qss_one (qs_ret (qe_tupA (qa_c (qe_fldXN (K:=K) rfl (qv 3) (by rfl)) (qa_c (qe_callS (okH_leap T) ((hr.mark _).mono (by decide)) rfl rfl T.D_leap.at_ T.D_leap.fn.kp T.D_leap.bd (qa_c (qv 0) (qa_c (qv 1) (qa_c (qe_fldXN (K:=K) rfl (qv 3) (by rfl)) qa_nil)))) qa_nil)))))))),?_⟩
  refine ⟨⟨_,rfl,_,_,rfl,_,rfl,_,rfl,_,rfl,b,a,xs,fs,ps,m,rfl,hb,hf,hl,ha,hp10,hnn,m0,m4,λ r hg q' H1 s1 hq'=>?_,λ n r hn hg hf' dx H' s' hdx=>⟨rfl,rfl,dx,n,r,rfl,hdx,s',hn,hg,hf'⟩⟩,?_⟩
  ·refine ⟨(by show 2<=sizeLine;decide),λ t H2 f2 s2 ht=>?_⟩
   refine q m.toNat r t q' H2 (Nat.le_refl _) hg (.inl rfl) (s1.trans s2) ?_ (s2 _ _ hq')
   rw [ht]
   show some (HO.tup [V.int (if (0:Int) > m then 0 else m),_])=_
   rw [if_neg (by omega),Int.toNat_of_nonneg m0]
  ·rintro C d H1 σ1 ⟨rfl,hC,dx,n,r,rfl,hdx,s1,hn,hg,hf'⟩
   cases hC
   refine ⟨rfl,λ e he hσ=>?_⟩
   have s2:Same H1 (upd H1 e (excO e T.c_A (some dx))):=Same.new he
   have hd2:=s2 _ _ hdx
   have fe:H e=none:=s1.free he
   refine ⟨_,rfl,e,T.c_A,dx,_,_,rfl,upd_same,hd2,T.I_A.xc,T.I_A.hd,T.FA_A,rfl,_,rfl,_,rfl,_,rfl,e,T.c_A,dx,_,_,rfl,upd_same,hd2,T.I_A.xc,T.I_A.hd,T.FA_A,rfl,⟨_,_,upd_same⟩,λ H2 h2 k2=>?_⟩
   have s02:Same H H2:=λ c o ec=>by
    have nc:c≠e:=λ z=>by rw [z,fe] at ec;cases ec
    rw [k2 c nc,upd_ne nc]
    exact s1 _ _ ec
   refine ⟨b,a,xs,fs,ps,r,(n:Int),rfl,s02 _ _ hb,hf.same s02,hl,s02 _ _ ha,hp10,hnn,by omega,by omega,by rw [Int.toNat_natCast];exact hg,λ q' H3 s3 hq'=>?_⟩
   refine ⟨(by show 2<=sizeLine;decide),λ t H4 f4 s4 ht=>?_⟩
   exact q n r t q' H4 (by omega) hg (.inr hf') ((s02.trans s3).trans s4) ht (s4 _ _ hq')
end
def isLow (c:Nat):Bool:=decide (97<=c/\c<=122)
theorem lets (c:Nat):decide (c∈(("abcdefghijklmnopqrstuvwxyz" : String):Str).cps.toList)=isLow c:=by
 have e:(("abcdefghijklmnopqrstuvwxyz" : String):Str).cps.toList=[97,98,99,100,101,102,103,104,105,106,107,108,109,110,111,112,113,114,115,116,117,118,119,120,121,122]:=by decide +kernel
 rw [e]
 unfold isLow
 apply decide_eq_decide.mpr
 simp only [List.mem_cons,List.not_mem_nil,or_false]
 omega
theorem sgs_all (x:Str) (t:Nat->Bool):(((List.range x.cps.size).map λ i=>t (x.cps.getD i 0)).all id)=(sgs x).all t:=by
 have e:sgs x=(List.range x.cps.size).map λ i=>x.cps.getD i 0:=by
  apply List.ext_getElem?
  intro i
  rcases Nat.lt_or_ge i x.cps.size with h | h
  ·rw [List.getElem?_map,List.getElem?_range h]
   simp [sgs,h]
  ·rw [List.getElem?_eq_none (by show x.cps.toList.length<=i;rw [Array.length_toList];exact h),List.getElem?_eq_none (by rw [List.length_map,List.length_range];exact h)]
 rw [e,List.all_map,List.all_map]
 rfl
section
variable {P:Program} {w:World} {K:PySem.W.Frag} {mg:Str->Option Value} {base:Heap}
def termV:V->Bool
 | .int i=>termB i
 | _=>false
def sp_is_term:Sp:=λ vs H Q _ => ∃ v,vs=[v]/\kindV H v/\Q (.bl (termV v)) H
theorem ok_is_term (T:Tx K mg):FnOk P w K mg base CX0 2 T.f_is_term T.fd_is_term ["thing"] sp_is_term:=by
 refine T.D_is_term.fn.okQ sc_is_term (λ vs H Q E h=>?_) (λ cdv A outer s H vs Q E hr h=>?_)
 ·obtain ⟨v,rfl,_⟩:=h
  rfl
 ·obtain ⟨v,rfl,k,q⟩:=h
  refine ⟨_,(qss_cons (qs_if (QW.pt (qw_or (qt_not (qt_val (qe_cD (ok_is_whole T) (hr.mono (by decide)) rfl T.D_is_whole pass0 (qa_c (qv 0) qa_nil)))) (qw_or (qt_cmpR op_lt (qv 0) qe_int (nomark _)) (qw_or1 (qt_cmpR op_gt (qv 0) (qe_globC (by rfl) T.g_MOST_TERM) (nomark _))))))
    (qss_one (qs_ret qe_bl))
    qss_nil)
   (qss_one (qs_ret (qe_cmpR op_eq (qe_cD (ok_wp9 T) (hr.mono (by decide)) rfl T.D_wp9 pass0 (qa_c (qv 0) qa_nil)) qe_int (nomark _))))),?_⟩
  refine ⟨_,rfl,v,rfl,k,_,rfl,?_⟩
  cases hw:isW v with
  | false =>
   refine iteT (iteT ?_)
   have e:termV v=false:=by cases v<;>first | rfl | cases hw
   rw [e] at q
   exact q
  | true =>
   obtain ⟨i,rfl⟩:=isW_int hw
   refine iteF ⟨_,rfl,_,_,rfl,rfl,_,rfl,ite2 (λ h=>?_) (λ h=>⟨_,rfl,_,_,rfl,rfl,_,rfl,ite2 (λ h'=>?_) (λ h'=>?_)⟩)⟩
   ·have h1:i<1:=of_decide_eq_true h
    have e:termV (.int i)=false:=by
     show (decide (1<=i)&&decide (i<=1000000000000)&&decide (stripAll i.toNat=1))=false
     rw [decide_eq_false (by omega : ¬ 1<=i)];rfl
    rw [e] at q
    exact iteT q
   ·have h1:1000000000000<i:=of_decide_eq_true h'
    have e:termV (.int i)=false:=by
     show (decide (1<=i)&&decide (i<=1000000000000)&&decide (stripAll i.toNat=1))=false
     rw [decide_eq_false (by omega : ¬ i<=1000000000000),Bool.and_false];rfl
    rw [e] at q
    exact q
   ·have h1 : ¬ i<1:=λ z=>h (decide_eq_true z)
    have h2 : ¬ 1000000000000<i:=λ z=>h' (decide_eq_true z)
    refine ⟨_,rfl,i,rfl,by omega,rfl,?_⟩
    have e:termV (.int i)=decide (V.int (stripAll i.toNat:Nat)=V.int 1):=by
     show (decide (1<=i)&&decide (i<=1000000000000)&&decide (stripAll i.toNat=1))=_
     rw [decide_eq_true (by omega:1<=i),decide_eq_true (by omega:i<=1000000000000),Bool.and_self,Bool.true_and]
     by_cases z:stripAll i.toNat=1
     ·rw [z];rfl
     ·rw [decide_eq_false z,decide_eq_false]
      intro y
      injection y with y
      omega
    rw [e] at q
    exact q
def fracV (H:Hp) (v:V):Bool:=match isT H v with
 | some [.int i,.int j]=>fracB i j
 | _=>false
theorem all_primes (i j:Nat):((primesV.map λ v=>match v with | .int p=>V.bl ((!decide (V.int ((i:Int) % p)=V.int 0)) || !decide (V.int ((j:Int) % p)=V.int 0)) | v=>v))=(primes.map λ p=>(i % p != 0||j % p != 0)).map V.bl:=by
 have e : ∀ (a p:Nat),(!decide (V.int ((a:Int) % (p:Int))=V.int 0))=(a % p != 0):=by
  intro a p
  by_cases z:a % p=0
  ·have:(a:Int) % (p:Int)=0:=by omega
   rw [this,z];rfl
  ·have:(a:Int) % (p:Int)≠0:=by omega
   rw [decide_eq_false (λ y=>this (by injection y))]
   have:(a % p != 0)=true:=by simpa using z
   rw [this];rfl
 have e2:primesV=primes.map λ p=>V.int ((p:Nat):Int):=rfl
 rw [e2,List.map_map,List.map_map]
 refine List.map_congr_left λ p _=>?_
 show V.bl ((!decide (V.int ((i:Int) % (p:Int))=V.int 0)) || !decide (V.int ((j:Int) % (p:Int))=V.int 0))=V.bl (i % p != 0||j % p != 0)
 rw [e,e]
def sp_if9:Sp:=λ vs H Q _ => ∃ v,vs=[v]/\wf1 H v /\ ∀ H',Same H H'->Q (.bl (fracV H v)) H'
theorem ok_if9 (T:Tx K mg):FnOk P w K mg base CX0 3 T.f_if9 T.fd_if9 ["thing"] sp_if9:=by
 refine T.D_if9.fn.okQ sc_if9 (λ vs H Q E h=>?_) (λ cdv A outer s H vs Q E hr h=>?_)
 ·obtain ⟨v,rfl,_⟩:=h
  rfl
 ·obtain ⟨v,rfl,⟨k,kp⟩,q⟩:=h
  refine ⟨_,(qss_cons (qs_if (QW.pt (qw_or (qt_not (qt_val (qe_callB call_isi (by rfl) T.m_isinstance b_isinstance (qa_c (qv 0) (qa_c (qe_ty (by rfl) T.m_tuple b_tuple) qa_nil))))) (qw_or1 (qt_cmpR op_ne (qe_callB call_len_seq (by rfl) T.m_len b_len (qa_c (qv 0) qa_nil)) qe_int (nomark _)))))
    (qss_one (qs_ret qe_bl))
    qss_nil)
   (qss_cons (qs_set (i:=1) sc_if9.nd rfl (Or.inr rfl) (qe_ix ix_tup (qv 0) qe_int (λ _ _=>rfl)))
   (qss_cons (qs_set (i:=2) sc_if9.nd rfl (Or.inr rfl) (qe_ix ix_tup (qv 0) qe_int (λ _ _=>rfl)))
   (qss_cons (qs_if (QW.pt (qw_or (qt_not (qt_val (qe_cD (ok_is_term T) (hr.mono (by decide)) rfl T.D_is_term pass0 (qa_c (qv 1) qa_nil)))) (qw_or1 (qt_not (qt_val (qe_cD (ok_is_term T) (hr.mono (by decide)) rfl T.D_is_term pass0 (qa_c (qv 2) qa_nil)))))))
    (qss_one (qs_ret qe_bl))
    qss_nil)
   (qss_one (qs_ret (qe_callB (call_all rfl) (by rfl) T.m_all b_all (qa_c (qe_comp (compOk_of (osc:=defScope s_if9) (XN:=["thing", "top", "bottom"]) (N:=["prime", "top", "bottom"]) (js:=[none,some 1,some 2]) rfl rfl rfl (List.forall_mem_cons.mpr ⟨rfl,(List.forall_mem_cons.mpr ⟨rfl,(List.forall_mem_nil _)⟩)⟩) (by decide +kernel) rfl) rfl (qi_tup (qe_glob (v:=.ref T.a_PRIMES) (by rfl) T.g_PRIMES rfl)) (λ _ _ _ _=>(qg_name (i:=0) (show List.Nodup (["prime", "top", "bottom"]:List Str) from by decide +kernel) rfl (Or.inl rfl) (Or.inr rfl))) (λ _ _ _ _=>qts_nil)
     (λ _ _ _ _=>(qe_or (qe_cmpR op_ne (qe_op op_mod (qv 1) (qv 0)) qe_int (nomark _)) (qe_one (qe_cmpR op_ne (qe_op op_mod (qv 2) (qv 0)) qe_int (nomark _)))))) qa_nil)))))))),?_⟩
  obtain ⟨t,ty,e⟩:=isi_T (K:=K) k
  refine ⟨_,rfl,v, "tuple", t,_,rfl,ty,e,_,rfl,?_⟩
  cases hT:isT H v with
  | none =>
   refine iteT (iteT ?_)
   have q':=q H (Same.refl H)
   rw [show fracV H v=false by unfold fracV;rw [hT]] at q'
   exact q'
  | some xs =>
   obtain ⟨a,rfl,ha⟩:=isT_some hT
   obtain ⟨hl,hk⟩:=kp xs hT
   refine iteF ⟨_,rfl,a,xs,rfl,.inr (SqT.of ha),rfl,_,rfl,ite2 (λ h=>?_) (λ h=>?_)⟩
   ·have q':=q H (Same.refl H)
    have e2:xs.length≠2:=λ z=>by
     rw [z] at h
     exact absurd h (by decide)
    rw [show fracV H (.ref a)=false by
     unfold fracV;rw [hT]
     split
     ·rename_i i j z
      cases z
      exact absurd rfl e2
     ·rfl] at q'
    exact q'
   ·have e2:xs.length=2:=by
     have h':decide (V.int (xs.length:Int)=V.int 2)=true:=by
      cases z:decide (V.int (xs.length:Int)=V.int 2) with
      | true=>rfl
      | false=>rw [z] at h;exact absurd rfl h
     have:=int_eq0 h'
     omega
    match xs,e2,hT,ha,hk with
    | [x,y],_,hT,ha,hk =>
     have kx:kindV H x:=hk x (by simp)
     have ky:kindV H y:=hk y (by simp)
     refine ⟨_,rfl,a,_,_,x,rfl,rfl,SqT.of ha,rfl,?_⟩
     refine ⟨_,rfl,a,_,_,y,rfl,rfl,SqT.of ha,rfl,?_⟩
     have fv : ∀ {b:Bool},termV x=false\/termV y=false->fracV H (.ref a)=false:=by
      intro _ z
      unfold fracV
      rw [hT]
      split
      ·rename_i i j z2
       cases z2
       show (termB i&&termB j&&noShare i.toNat j.toNat)=false
       rcases z with z | z
       ·rw [show termB i=false from z];rfl
       ·rw [show termB j=false from z,Bool.and_false];rfl
      ·rfl
     refine ⟨_,rfl,x,rfl,kx,_,rfl,?_⟩
     cases tx:termV x with
     | false =>
      refine iteT (iteT ?_)
      have q':=q H (Same.refl H)
      rw [fv (b:=true) (.inl tx)] at q'
      exact q'
     | true =>
      refine iteF ⟨_,rfl,y,rfl,ky,_,rfl,?_⟩
      cases t2:termV y with
      | false =>
       refine iteT ?_
       have q':=q H (Same.refl H)
       rw [fv (b:=true) (.inr t2)] at q'
       exact q'
      | true =>
       refine iteF ?_
       obtain ⟨i,rfl⟩ : ∃ i,x=.int i:=by cases x<;>first | exact ⟨_,rfl⟩ | cases tx
       obtain ⟨j,rfl⟩ : ∃ j,y=.int j:=by cases y<;>first | exact ⟨_,rfl⟩ | cases t2
       have tB:termB i=true:=tx
       have tB':termB j=true:=t2
       have i1:1<=i:=by
        unfold termB at tB
        simp only [Bool.and_eq_true,decide_eq_true_eq] at tB
        exact tB.1.1
       have j1:1<=j:=by
        unfold termB at tB'
        simp only [Bool.and_eq_true,decide_eq_true_eq] at tB'
        exact tB'.1.1
       refine ⟨T.a_PRIMES,rfl,⟨primesV,T.t_PRIMES H⟩,λ D hD=>comp_map_tup (xs:=primesV) (f:=λ v=>match v with | .int p=>V.bl ((!decide (V.int ((i.toNat:Int) % p)=V.int 0)) || !decide (V.int ((j.toNat:Int) % p)=V.int 0)) | v=>v) rfl (by decide) hD (T.t_PRIMES H) ?_ ?_⟩
       ·intro x H' R hx r
        obtain ⟨z,hz⟩:=List.getElem?_of_mem hx
        obtain ⟨p,rfl,hp,hp30⟩:=primesV_get hz
        have hp2:2<=p:=two_le p (List.mem_of_getElem? hp)
        have ei:((i.toNat:Nat):Int)=i:=Int.toNat_of_nonneg (by omega)
        have ej:((j.toNat:Nat):Int)=j:=Int.toNat_of_nonneg (by omega)
        have r':R (V.bl ((!decide (V.int (i % (p:Int))=V.int 0)) || !decide (V.int (j % (p:Int))=V.int 0))) H':=by
         have r2:R (V.bl ((!decide (V.int ((i.toNat:Int) % (p:Int))=V.int 0)) || !decide (V.int ((j.toNat:Int) % (p:Int))=V.int 0))) H':=r
         rw [ei,ej] at r2
         exact r2
        refine ⟨_,rfl,_,rfl,_,_,rfl,rfl,(by show (0:Int)<p;omega),rfl,_,rfl,?_⟩
        cases z:decide (V.int (i % (p:Int))=V.int 0) with
        | false =>
         rw [z] at r'
         exact iteT r'
        | true =>
         rw [z] at r'
         exact iteF ⟨_,rfl,_,rfl,_,_,rfl,rfl,(by show (0:Int)<p;omega),rfl,r'⟩
       ·rw [all_primes]
        refine ⟨D,_,rfl,SqL.of upd_same,?_⟩
        have e3:fracV H (.ref a)=(primes.map λ p=>(i.toNat % p != 0||j.toNat % p != 0)).all id:=by
         unfold fracV
         rw [hT]
         show (termB i&&termB j&&noShare i.toNat j.toNat)=_
         rw [tB,tB',Bool.and_self,Bool.true_and]
         rw [List.all_map]
         rfl
        rw [e3] at q
        exact q _ (Same.new hD)
theorem Same.isT {H H':Hp} (s:Same H H') {v:V} (k:kindV H v):W2.isT H' v=W2.isT H v:=(Keep.of s).isT k
theorem Same.wf1 {H H':Hp} (s:Same H H') {v:V} (k:W2.wf1 H v):W2.wf1 H' v:=(Keep.of s).wf1 k
theorem Same.fracV {H H':Hp} (s:Same H H') {v:V} (k:kindV H v):W2.fracV H' v=W2.fracV H v:=by
 unfold W2.fracV
 rw [Same.isT s k]
def progV (H:Hp) (v:V):Bool:=match isT H v with
 | some xs=>decide (1<=xs.length)&&decide (xs.length<=16)&&xs.all (fracV H)
 | none=>false
def sp_ip9:Sp:=λ vs H Q _ => ∃ v,vs=[v]/\wf2 H v /\ ∀ H',Same H H'->Q (.bl (progV H v)) H'
theorem ok_ip9 (T:Tx K mg):FnOk P w K mg base CX0 4 T.f_ip9 T.fd_ip9 ["thing"] sp_ip9:=by
 refine T.D_ip9.fn.okQ sc_ip9 (λ vs H Q E h=>?_) (λ cdv A outer s H vs Q E hr h=>?_)
 ·obtain ⟨v,rfl,_⟩:=h
  rfl
 ·obtain ⟨v,rfl,⟨k,kp⟩,q⟩:=h
  refine ⟨_,(qss_cons (qs_if (QW.pt (qw_or (qt_not (qt_val (qe_callB call_isi (by rfl) T.m_isinstance b_isinstance (qa_c (qv 0) (qa_c (qe_ty (by rfl) T.m_tuple b_tuple) qa_nil))))) (qw_or (qt_cmpR op_lt (qe_callB call_len_seq (by rfl) T.m_len b_len (qa_c (qv 0) qa_nil)) qe_int (nomark _)) (qw_or1 (qt_cmpR op_gt (qe_callB call_len_seq (by rfl) T.m_len b_len (qa_c (qv 0) qa_nil)) (qe_globC (by rfl) T.g_MF9) (nomark _))))))
    (qss_one (qs_ret qe_bl))
    qss_nil)
   (qss_one (qs_ret (qe_callB (call_all rfl) (by rfl) T.m_all b_all (qa_c (qe_comp (compOk_of (osc:=defScope s_ip9) (XN:=["thing"]) (N:=["part"]) (js:=[none]) rfl rfl rfl (List.forall_mem_nil _) (by decide +kernel) rfl) rfl (qi_tup (qv 0)) (λ _ _ _ _=>(qg_name (i:=0) (show List.Nodup (["part"]:List Str) from by decide +kernel) rfl (Or.inl rfl) (Or.inr rfl))) (λ _ _ _ _=>qts_nil)
     (λ _ _ _ _=>(qe_cD (ok_if9 T) (hr.mono (by decide)) rfl T.D_if9 pass0 (qa_c (qv 0) qa_nil)))) qa_nil))))),?_⟩
  obtain ⟨t,ty,e⟩:=isi_T (K:=K) k
  refine ⟨_,rfl,v, "tuple", t,_,rfl,ty,e,_,rfl,?_⟩
  cases hT:isT H v with
  | none =>
   refine iteT (iteT ?_)
   have q':=q H (Same.refl H)
   rw [show progV H v=false by unfold progV;rw [hT]] at q'
   exact q'
  | some xs =>
   obtain ⟨a,rfl,ha⟩:=isT_some hT
   obtain ⟨hl,hk⟩:=kp xs hT
   have pv:progV H (.ref a)=(decide (1<=xs.length)&&decide (xs.length<=16)&&xs.all (fracV H)):=by unfold progV;rw [hT]
   refine iteF ⟨_,rfl,a,xs,rfl,.inr (SqT.of ha),_,_,rfl,rfl,_,rfl,ite2 (λ h=>?_) (λ h=>⟨_,rfl,a,xs,rfl,.inr (SqT.of ha),_,_,rfl,rfl,_,rfl,ite2 (λ h'=>?_) (λ h'=>?_)⟩)⟩
   ·have h1:(xs.length:Int)<1:=of_decide_eq_true h
    have q':=q H (Same.refl H)
    rw [pv,decide_eq_false (by omega : ¬ 1<=xs.length)] at q'
    exact iteT q'
   ·have h1:(16:Int)<xs.length:=of_decide_eq_true h'
    have q':=q H (Same.refl H)
    rw [pv,decide_eq_false (by omega : ¬ xs.length<=16),Bool.and_false] at q'
    exact q'
   ·have h1 : ¬ (xs.length:Int)<1:=λ z=>h (decide_eq_true z)
    have h2 : ¬ (16:Int)<xs.length:=λ z=>h' (decide_eq_true z)
    refine ⟨_,rfl,a,rfl,⟨_,SqT.of ha⟩,λ D hD=>comp_tup (K:=K) (a:=a) (xs:=xs) (by rw [sizeLine_eq];omega) (λ i σ' H' ys=>(∃ u:Option V,σ'=[u])/\Same H H'/\ys=((xs.take i).map (fracV H)).map V.bl) ⟨⟨_,rfl⟩,Same.new hD,rfl⟩ (λ i σ' H' ys _ _ ⟨_,s',_⟩=>SqT.of (s' _ _ ha)) ?_ ?_⟩
    ·rintro i x σ' H' ys R hx hD' hyl ⟨⟨u,rfl⟩,s',rfl⟩ kk
     obtain ⟨kx,_⟩:=id (hk x (List.mem_of_getElem? hx))
     refine ⟨_,rfl,x,rfl,Same.wf1 s' (hk x (List.mem_of_getElem? hx)),λ H4 s4=>kk _ _ _ (s4 _ _ hD') ⟨⟨_,rfl⟩,?_,?_⟩⟩
     ·intro b o eb
      rw [upd_ne (ne_of_none eb hD)]
      exact s4 _ _ (s' _ _ eb)
     ·rw [Same.fracV s' kx,take_map_succ hx,List.map_append]
      rfl
    ·rintro σ' H' ys hD' hyl ⟨_,s',rfl⟩
     refine ⟨D,_,rfl,SqL.of hD',?_⟩
     have q':=q H' s'
     rw [pv,decide_eq_true (by omega:1<=xs.length),decide_eq_true (by omega:xs.length<=16),Bool.and_self,Bool.true_and] at q'
     rw [List.take_length,List.all_map]
     exact q'
def powB:V->Bool
 | .int i=>decide (0<=i)
 | _=>false
def powsV (H:Hp) (v:V):Bool:=match isT H v with
 | some xs=>decide (xs.length=10)&&xs.all powB
 | none=>false
def sp_iw9:Sp:=λ vs H Q _ => ∃ v,vs=[v]/\wf1 H v /\ ∀ H',Same H H'->Q (.bl (powsV H v)) H'
theorem ok_iw9 (T:Tx K mg):FnOk P w K mg base CX0 2 T.f_iw9 T.fd_iw9 ["thing"] sp_iw9:=by
 refine T.D_iw9.fn.okQ sc_iw9 (λ vs H Q E h=>?_) (λ cdv A outer s H vs Q E hr h=>?_)
 ·obtain ⟨v,rfl,_⟩:=h
  rfl
 ·obtain ⟨v,rfl,⟨k,kp⟩,q⟩:=h
  refine ⟨_,(qss_cons (qs_if (QW.pt (qw_or (qt_not (qt_val (qe_callB call_isi (by rfl) T.m_isinstance b_isinstance (qa_c (qv 0) (qa_c (qe_ty (by rfl) T.m_tuple b_tuple) qa_nil))))) (qw_or1 (qt_cmpR op_ne (qe_callB call_len_seq (by rfl) T.m_len b_len (qa_c (qv 0) qa_nil)) (qe_callB call_len_seq (by rfl) T.m_len b_len (qa_c (qe_glob (v:=.ref T.a_PRIMES) (by rfl) T.g_PRIMES rfl) qa_nil)) (nomark _)))))
    (qss_one (qs_ret qe_bl))
    qss_nil)
   (qss_one (qs_ret (qe_callB (call_all rfl) (by rfl) T.m_all b_all (qa_c (qe_comp (compOk_of (osc:=defScope s_iw9) (XN:=["thing"]) (N:=["part"]) (js:=[none]) rfl rfl rfl (List.forall_mem_nil _) (by decide +kernel) rfl) rfl (qi_tup (qv 0)) (λ _ _ _ _=>(qg_name (i:=0) (show List.Nodup (["part"]:List Str) from by decide +kernel) rfl (Or.inl rfl) (Or.inr rfl))) (λ _ _ _ _=>qts_nil)
     (λ _ _ _ _=>(qe_and (qe_cD (ok_is_whole T) (hr.mono (by decide)) rfl T.D_is_whole pass0 (qa_c (qv 0) qa_nil)) (qe_one (qe_cmpR op_ge (qv 0) qe_int (nomark _)))))) qa_nil))))),?_⟩
  obtain ⟨t,ty,e⟩:=isi_T (K:=K) k
  refine ⟨_,rfl,v, "tuple", t,_,rfl,ty,e,_,rfl,?_⟩
  cases hT:isT H v with
  | none =>
   refine iteT (iteT ?_)
   have q':=q H (Same.refl H)
   rw [show powsV H v=false by unfold powsV;rw [hT]] at q'
   exact q'
  | some xs =>
   obtain ⟨a,rfl,ha⟩:=isT_some hT
   obtain ⟨hl,hk⟩:=kp xs hT
   have pv:powsV H (.ref a)=(decide (xs.length=10)&&xs.all powB):=by unfold powsV;rw [hT]
   refine iteF ⟨_,rfl,a,xs,rfl,.inr (SqT.of ha),T.a_PRIMES,_,rfl,.inr (T.t_PRIMES H),rfl,_,rfl,ite2 (λ h=>?_) (λ h=>?_)⟩
   ·have e2:xs.length≠10:=λ z=>by
     rw [z] at h
     exact absurd h (by decide)
    have q':=q H (Same.refl H)
    rw [pv,decide_eq_false e2] at q'
    exact q'
   ·have e2:xs.length=10:=by
     have h':decide (V.int (xs.length:Int)=V.int 10)=true:=by
      cases z:decide (V.int (xs.length:Int)=V.int 10) with
      | true=>rfl
      | false=>exact absurd (show (!decide (V.int (xs.length:Int)=V.int 10))=true by rw [z];rfl) h
     have:=int_eq0 h'
     omega
    refine ⟨_,rfl,a,rfl,⟨_,SqT.of ha⟩,λ D hD=>comp_map_tupS (xs:=xs) (f:=λ v=>.bl (powB v)) rfl (by rw [e2];decide) hD (SqT.of ha) ?_ ⟨D,xs.map powB,rfl,?_,?_⟩⟩
    ·intro x H' R s' hx r
     refine ⟨_,rfl,x,rfl,Same.kind s' (hk x hx),_,rfl,?_⟩
     cases hw:isW x with
     | false =>
      refine iteF ?_
      have e3:powB x=false:=by cases x<;>first | rfl | cases hw
      have r2:R (.bl (powB x)) H':=r
      rw [e3] at r2
      exact r2
     | true =>
      obtain ⟨n,rfl⟩:=isW_int hw
      exact iteT ⟨_,rfl,_,_,rfl,rfl,r⟩
    ·rw [List.map_map]
     exact SqL.of upd_same
    ·have q':=q _ (Same.new (o:=.lst (xs.map λ v=>V.bl (powB v))) hD)
     rw [pv,decide_eq_true e2,Bool.true_and] at q'
     rw [List.all_map]
     exact q'
def NameS (x:Str):Prop:=Asc x/\1<=x.length/\x.length<=8/\(sgs x).all isLow=true
def sp_is_name:Sp:=λ vs H Q _ => ∃ x:Str,vs=[.str x]/\NameS x /\ ∀ H',Same H H'->Q (.bl true) H'
theorem ok_is_name (T:Tx K mg):FnOk P w K mg base CX0 1 T.f_is_name T.fd_is_name ["thing"] sp_is_name:=by
 refine T.D_is_name.fn.okQ sc_is_name (λ vs H Q E h=>?_) (λ cdv A outer s H vs Q E hr h=>?_)
 ·obtain ⟨x,rfl,_⟩:=h
  rfl
 ·obtain ⟨x,rfl,⟨ha,h1,h8,hl⟩,q⟩:=h
  refine ⟨_,(qss_cons (qs_if (QW.pt (qw_or (qt_not (qt_val (qe_callB call_isi (by rfl) T.m_isinstance b_isinstance (qa_c (qv 0) (qa_c (qe_ty (by rfl) T.m_str b_str) qa_nil))))) (qw_or (qt_cmpR op_lt (qe_callB call_len_str (by rfl) T.m_len b_len (qa_c (qv 0) qa_nil)) qe_int (nomark _)) (qw_or1 (qt_cmpR op_gt (qe_callB call_len_str (by rfl) T.m_len b_len (qa_c (qv 0) qa_nil)) (qe_globC (by rfl) T.g_MOST_LETTERS) (nomark _))))))
    (qss_one (qs_ret qe_bl))
    qss_nil)
   (qss_one (qs_ret (qe_callB (call_all rfl) (by rfl) T.m_all b_all (qa_c (qe_comp (compOk_of (osc:=defScope s_is_name) (XN:=["thing"]) (N:=["sign"]) (js:=[none]) rfl rfl rfl (List.forall_mem_nil _) (by decide +kernel) rfl) rfl (qi_str (qv 0)) (λ _ _ _ _=>(qg_name (i:=0) (show List.Nodup (["sign"]:List Str) from by decide +kernel) rfl (Or.inl rfl) (Or.inr rfl))) (λ _ _ _ _=>qts_nil)
     (λ _ _ _ _=>(qe_cmpR op_in_str (qv 0) (qe_globS (by rfl) T.g_LETTERS) (by with_unfolding_all rfl)))) qa_nil))))),?_⟩
  have hz:x.length<=sizeLine:=by rw [sizeLine_eq];omega
  refine ⟨_,rfl,.str x, "str", _,true,rfl,.str x,by kernel_rfl,_,rfl,iteF ⟨_,rfl,_,rfl,hz,_,_,rfl,rfl,_,rfl,?_⟩⟩
  rw [decide_eq_false (show ¬ (x.length:Int)<1 by omega)]
  refine iteF ⟨_,rfl,_,rfl,hz,_,_,rfl,rfl,_,rfl,?_⟩
  rw [decide_eq_false (show ¬ (x.length:Int) > 8 by omega)]
  refine iteF ⟨_,rfl,_,rfl,ha.all,λ D hD=>comp_strG (x:=x) (σ0:=[]) (t:=λ _=>true) (f:=λ i=>V.bl (isLow (x.cps.getD i 0))) (by show x.length<=_;exact hz) ⟨_,rfl⟩ hD (λ i c H' R s' hc r=>r H' (Same.refl _)) (λ i c H' R s' hc ht r=>?_) λ H1 s1 hD1=>?_⟩
  ·have e:x.cps.getD i 0=c:=by rw [Array.getD_eq_getD_getElem?,hc];rfl
   have r':=r H' (Same.refl _)
   rw [e] at r'
   refine ⟨_,rfl,_,_,rfl,rfl,?_⟩
   rw [show (⟨#[c]⟩:Str)=sg c from rfl,StrLaws.found_one,lets]
   exact r'
  ·have e:(((List.range x.cps.size).filter λ _=>true).map λ i=>V.bl (isLow (x.cps.getD i 0)))=((List.range x.cps.size).map λ i=>isLow (x.cps.getD i 0)).map V.bl:=by
    rw [List.filter_eq_self.mpr (λ _ _=>rfl),List.map_map]
    rfl
   rw [e] at hD1
   refine ⟨D,_,rfl,SqL.of hD1,?_⟩
   rw [sgs_all,hl]
   exact q H1 s1
end
section
variable {P:Program} {w:World} {K:PySem.W.Frag} {mg:Str->Option Value} {base:Heap}
structure Bn (T:Tx K mg) (H:Hp) (bn pr hd dl:Addr) (kvs:List (Key×V)) (ds:List V):Prop where
 at_ : ∃ dx,H bn=some (.ins T.c_Bench dx [("program", .ref pr),("held", .ref hd),("deeds", .ref dl)])
 hd:H hd=some (.dK kvs)
 dl:H dl=some (.lst ds)
theorem Bn.same {T:Tx K mg} {H H':Hp} {bn pr hd dl:Addr} {kvs:List (Key×V)} {ds:List V} (b:Bn T H bn pr hd dl kvs ds) (s:Same H H'):Bn T H' bn pr hd dl kvs ds :=
 ⟨let ⟨dx,h⟩:=b.at_;⟨dx,s _ _ h⟩,s _ _ b.hd,s _ _ b.dl⟩
def holdK (kvs:List (Key×V)) (x:Str):V->List (Key×V)
 | .non=>dropK kvs (kS x)
 | w=>putK kvs (kS x) w
def Kp2 (a b:Addr) (H H':Hp):Prop := ∀ c o,c≠a->c≠b->H c=some o->H' c=some o
def sp_hold (T:Tx K mg):Sp:=λ vs H Q _ => ∃ (bn pr hd dl:Addr) (kvs:List (Key×V)) (ds:List V) (x:Str) (w:V),vs=[.ref bn,.str x,w]/\Bn T H bn pr hd dl kvs ds/\kvs.length<=100/\((w=.non /\ ∃ v,valV kvs (kS x)=some v) \/ ∃ t,w=.ref t) /\
 ∀ H',But hd H H'->H' hd=some (.dK (holdK kvs x w))->Q .non H'
theorem ok_Bhold (T:Tx K mg):FnOk P w K mg base CX0 1 T.f_Bhold T.fd_Bhold ["self", "name", "what"] (sp_hold T):=by
 refine T.D_Bhold.fn.okQ sc_Bhold (λ vs H Q E h=>?_) (λ cdv A outer s H vs Q E hr h=>?_)
 ·obtain ⟨bn,pr,hd,dl,kvs,ds,x,w,rfl,_⟩:=h
  rfl
 ·obtain ⟨bn,pr,hd,dl,kvs,ds,x,w,rfl,B,hk,hw,q⟩:=h
  refine ⟨_,(qss_one (qs_if (qt_cmpR op_isN (qv 2) qe_non (nomark _))
    (qss_one (qs_expr (qe_bm PySem.F.plainAttrs_dict PySem.F.slot_dict_pop PySem.F.type_dict_pop mt_dpopS (qe_fld (qv 0) (by rfl)) (qa_c (qv 1) qa_nil))))
    (qss_one (qs_dputS (hu_of hr) (qe_fld (qv 0) (by rfl)) (qv 1) (qv 2) rfl)))),?_⟩
  obtain ⟨dx,hb⟩:=B.at_
  rcases hw with ⟨rfl,v,hv⟩ | ⟨t,rfl⟩
  ·refine ⟨_,rfl,rfl,_,rfl,iteT ⟨_,rfl,bn,_,dx,_,_,rfl,hb,T.P_Bench,T.A_Bheld,rfl,?_,_,rfl,hd,x,kvs,v,rfl,rfl,B.hd,hv,λ H' b' h'=>q H' b' h'⟩⟩
   exact .inr (.inr (.inl ⟨rfl,.inl ⟨kvs,B.hd⟩⟩))
  ·refine ⟨_,rfl,rfl,_,rfl,iteF ⟨_,rfl,_,rfl,bn,_,dx,_,_,rfl,hb,T.P_Bench,T.A_Bheld,rfl,_,rfl,hd,x,kvs,rfl,rfl,B.hd,by rw [sizeLine_eq];omega,λ H' b' h'=>q H' b' h'⟩⟩
def sp_done (T:Tx K mg):Sp:=λ vs H Q _ => ∃ (bn pr hd dl:Addr) (kvs:List (Key×V)) (ds:List V) (x:Str) (w:V),vs=[.ref bn,.str x,w]/\Bn T H bn pr hd dl kvs ds/\kvs.length<=100/\ds.length<=1000/\((w=.non /\ ∃ v,valV kvs (kS x)=some v) \/ ∃ t,w=.ref t) /\
 ∀ t H',Kp2 hd dl H H'->H' t=some (.tup [.str x,(valV kvs (kS x)).getD .non])->Bn T H' bn pr hd dl (holdK kvs x w) (ds++[.ref t])->Q .non H'
theorem ok_Bdone (T:Tx K mg):FnOk P w K mg base CX0 2 T.f_Bdone T.fd_Bdone ["self", "name", "what"] (sp_done T):=by
 refine T.D_Bdone.fn.okQ sc_Bdone (λ vs H Q E h=>?_) (λ cdv A outer s H vs Q E hr h=>?_)
 ·obtain ⟨bn,pr,hd,dl,kvs,ds,x,w,rfl,_⟩:=h
  rfl
 ·obtain ⟨bn,pr,hd,dl,kvs,ds,x,w,rfl,B,hk,hds,hw,q⟩:=h
  refine ⟨_,(qss_cons (qs_expr (qe_bm PySem.F.plainAttrs_list PySem.F.slot_list_append PySem.F.type_list_append mt_appendA (qe_fld (qv 0) (by rfl)) (qa_c (qe_tupA (qa_c (qv 1) (qa_c (qe_bm PySem.F.plainAttrs_dict PySem.F.slot_dict_get PySem.F.type_dict_get mt_dgetS (qe_fld (qv 0) (by rfl)) (qa_c (qv 1) qa_nil)) qa_nil))) qa_nil)))
   (qss_one (qs_expr (qe_meth (qv 0) T.P_Bench T.D_Bhold.me (ok_Bhold T) (hr.mono (by decide)) T.D_Bhold.bd .nil pass0 (qa_c (qv 1) (qa_c (qv 2) qa_nil)))))),?_⟩
  obtain ⟨dx,hb⟩:=B.at_
  have nhd:hd≠dl:=ne_of B.hd B.dl (by intro z;cases z)
  have nbd:bn≠dl:=ne_of hb B.dl (by intro z;cases z)
  have nbh:bn≠hd:=ne_of hb B.hd (by intro z;cases z)
  refine ⟨_,rfl,bn,_,dx,_,_,rfl,hb,T.P_Bench,T.A_Bdeeds,rfl,.inl ⟨rfl,_,SqL.of B.dl⟩,_,rfl,_,rfl,bn,_,dx,_,_,rfl,hb,T.P_Bench,T.A_Bheld,rfl,.inr (.inr (.inl ⟨rfl,.inl ⟨kvs,B.hd⟩⟩)),_,rfl,hd,x,kvs,rfl,rfl,B.hd,(by show 2<=sizeLine;decide),λ t H1 f1 s1 ht=>?_⟩
  refine ⟨dl,ds,_,rfl,rfl,s1 _ _ B.dl,by rw [sizeLine_eq];omega,λ H2 b2 h2=>?_⟩
  have ntd:t≠dl:=λ z=>by rw [z,B.dl] at f1;cases f1
  have nth:t≠hd:=λ z=>by rw [z,B.hd] at f1;cases f1
  have B2:Bn T H2 bn pr hd dl kvs (ds++[.ref t]):=⟨⟨dx,b2 _ _ nbd (s1 _ _ hb)⟩,b2 _ _ nhd (s1 _ _ B.hd),h2⟩
  obtain ⟨dx2,hb2⟩:=B2.at_
  refine ⟨_,rfl,bn,dx2,_,rfl,hb2,rfl,_,rfl,_,rfl,bn,pr,hd,dl,kvs,_,x,w,rfl,B2,hk,hw,λ H3 b3 h3=>?_⟩
  refine q t H3 (λ c o n1 n2 ec=>b3 _ _ n1 (b2 _ _ n2 (s1 _ _ ec))) (b3 _ _ nth (b2 _ _ ntd ht)) ⟨⟨dx2,b3 _ _ nbh hb2⟩,h3,b3 _ _ (Ne.symm nhd) B2.dl⟩
def sp_held_by (T:Tx K mg):Sp:=λ vs H Q _ => ∃ (bn pr hd dl:Addr) (kvs:List (Key×V)) (ds:List V) (x:Str) (v:V),vs=[.ref bn,.str x]/\Bn T H bn pr hd dl kvs ds/\valV kvs (kS x)=some v/\Q v H
theorem ok_Bheld_by (T:Tx K mg):FnOk P w K mg base CX0 1 T.f_Bheld_by T.fd_Bheld_by ["self", "name"] (sp_held_by T):=by
 refine T.D_Bheld_by.fn.okQ sc_Bheld_by (λ vs H Q E h=>?_) (λ cdv A outer s H vs Q E hr h=>?_)
 ·obtain ⟨bn,pr,hd,dl,kvs,ds,x,w,rfl,_⟩:=h
  rfl
 ·obtain ⟨bn,pr,hd,dl,kvs,ds,x,v,rfl,B,hv,q⟩:=h
  refine ⟨_,(qss_cons (qs_if (QW.pt (qw_or (qt_not (qt_val (qe_callB call_isi (by rfl) T.m_isinstance b_isinstance (qa_c (qv 1) (qa_c (qe_ty (by rfl) T.m_str b_str) qa_nil))))) (qw_or1 (qt_cmpR (op_notInDS (hu_of hr)) (qv 1) (qe_fld (qv 0) (by rfl)) (by with_unfolding_all rfl)))))
    (qss_one qs_never)
    qss_nil)
   (qss_one (qs_ret (qe_dgetS (hu_of hr) (qe_fld (qv 0) (by rfl)) (qv 1) (λ _ _=>rfl))))),?_⟩
  obtain ⟨dx,hb⟩:=B.at_
  refine ⟨_,rfl,.str x, "str", _,true,rfl,.str x,by kernel_rfl,_,rfl,iteF ⟨_,rfl,_,rfl,bn,_,dx,_,_,rfl,hb,T.P_Bench,T.A_Bheld,rfl,x,hd,kvs,rfl,rfl,B.hd,_,rfl,?_⟩⟩
  rw [hv]
  exact iteF ⟨_,rfl,bn,_,dx,_,_,rfl,hb,T.P_Bench,T.A_Bheld,rfl,_,rfl,hd,x,kvs,v,rfl,rfl,B.hd,hv,q⟩
end
section
variable {P:Program} {w:World} {K:PySem.W.Frag} {mg:Str->Option Value} {base:Heap}
def sp_bpow (T:Tx K mg):Sp:=λ vs H Q _ => ∃ (bn pr hd dl:Addr) (kvs:List (Key×V)) (ds:List V) (x:Str) (w:Addr) (a b:V),vs=[.ref bn,.str x]/\Bn T H bn pr hd dl kvs ds/\valV kvs (kS x)=some (.ref w)/\H w=some (.tup [a,b])/\Q a H
theorem ok_Bpowers (T:Tx K mg):FnOk P w K mg base CX0 2 T.f_Bpowers T.fd_Bpowers ["self", "name"] (sp_bpow T):=by
 refine T.D_Bpowers.fn.okQ sc_Bpowers (λ vs H Q E h=>?_) (λ cdv A outer s H vs Q E hr h=>?_)
 ·obtain ⟨bn,pr,hd,dl,kvs,ds,x,w,a,b,rfl,_⟩:=h
  rfl
 ·obtain ⟨bn,pr,hd,dl,kvs,ds,x,w,a,b,rfl,B,hv,hw,q⟩:=h
  refine ⟨_,(qss_one (qs_ret (qe_ix ix_tup (qe_meth (qv 0) T.P_Bench T.D_Bheld_by.me (ok_Bheld_by T) (hr.mono (by decide)) T.D_Bheld_by.bd .nil pass0 (qa_c (qv 1) qa_nil)) qe_int (λ _ _=>rfl)))),?_⟩
  obtain ⟨dx,hb⟩:=B.at_
  exact ⟨_,rfl,bn,dx,_,rfl,hb,rfl,_,rfl,bn,pr,hd,dl,kvs,ds,x,_,rfl,B,hv,w,_,_,_,rfl,rfl,SqT.of hw,rfl,q⟩
def sp_bgone (T:Tx K mg):Sp:=λ vs H Q _ => ∃ (bn pr hd dl:Addr) (kvs:List (Key×V)) (ds:List V) (x:Str) (w:Addr) (a b:V),vs=[.ref bn,.str x]/\Bn T H bn pr hd dl kvs ds/\valV kvs (kS x)=some (.ref w)/\H w=some (.tup [a,b])/\Q b H
theorem ok_Bgone (T:Tx K mg):FnOk P w K mg base CX0 2 T.f_Bgone T.fd_Bgone ["self", "name"] (sp_bgone T):=by
 refine T.D_Bgone.fn.okQ sc_Bgone (λ vs H Q E h=>?_) (λ cdv A outer s H vs Q E hr h=>?_)
 ·obtain ⟨bn,pr,hd,dl,kvs,ds,x,w,a,b,rfl,_⟩:=h
  rfl
 ·obtain ⟨bn,pr,hd,dl,kvs,ds,x,w,a,b,rfl,B,hv,hw,q⟩:=h
  refine ⟨_,(qss_one (qs_ret (qe_ix ix_tup (qe_meth (qv 0) T.P_Bench T.D_Bheld_by.me (ok_Bheld_by T) (hr.mono (by decide)) T.D_Bheld_by.bd .nil pass0 (qa_c (qv 1) qa_nil)) qe_int (λ _ _=>rfl)))),?_⟩
  obtain ⟨dx,hb⟩:=B.at_
  exact ⟨_,rfl,bn,dx,_,rfl,hb,rfl,_,rfl,bn,pr,hd,dl,kvs,ds,x,_,rfl,B,hv,w,_,_,_,rfl,rfl,SqT.of hw,rfl,q⟩
def sp_bnames (T:Tx K mg):Sp:=λ vs H Q _ => ∃ (bn pr hd dl:Addr) (kvs:List (Key×V)) (ds:List V) (ns:List Str),vs=[.ref bn]/\Bn T H bn pr hd dl kvs ds/\kvs.map (·.1)=ns.map kS/\ns.length<64 /\ ∀ ms:List Str,ms.Perm ns->PyProof.Rows.sortedS ms=true -> ∀ l H',H l=none->Same H H'->H' l=some (.lst (ms.map V.str))->Q (.ref l) H'
theorem ok_Bnames (T:Tx K mg):FnOk P w K mg base CX0 1 T.f_Bnames T.fd_Bnames ["self"] (sp_bnames T):=by
 refine T.D_Bnames.fn.okQ sc_Bnames (λ vs H Q E h=>?_) (λ cdv A outer s H vs Q E hr h=>?_)
 ·obtain ⟨bn,pr,hd,dl,kvs,ds,ns,rfl,_⟩:=h
  rfl
 ·obtain ⟨bn,pr,hd,dl,kvs,ds,ns,rfl,B,hk,h64,q⟩:=h
  refine ⟨_,(qss_one (qs_ret (qe_callB (call_sortedDS rfl) (by rfl) T.m_sorted b_sorted (qa_c (qe_fld (qv 0) (by rfl)) qa_nil)))),?_⟩
  obtain ⟨dx,hb⟩:=B.at_
  exact ⟨_,rfl,bn,_,dx,_,_,rfl,hb,T.P_Bench,T.A_Bheld,rfl,hd,kvs,ns,rfl,B.hd,hk,h64,λ ms pm so l H' f s' e=>q ms pm so l H' f s' e⟩
def sp_bundo (T:Tx K mg):Sp:=λ vs H Q _ => ∃ (bn pr hd dl:Addr) (kvs:List (Key×V)) (ds:List V) (t w:Addr) (x:Str),vs=[.ref bn]/\Bn T H bn pr hd dl kvs (ds++[.ref t])/\kvs.length<=100/\H t=some (.tup [.str x,.ref w]) /\
 ∀ H',Kp2 hd dl H H'->Bn T H' bn pr hd dl (putK kvs (kS x) (.ref w)) ds->Q .non H'
theorem ok_Bundo (T:Tx K mg):FnOk P w K mg base CX0 2 T.f_Bundo T.fd_Bundo ["self"] (sp_bundo T):=by
 refine T.D_Bundo.fn.okQ sc_Bundo (λ vs H Q E h=>?_) (λ cdv A outer s H vs Q E hr h=>?_)
 ·obtain ⟨bn,pr,hd,dl,kvs,ds,t,w,x,rfl,_⟩:=h
  rfl
 ·obtain ⟨bn,pr,hd,dl,kvs,ds,t,w,x,rfl,B,hk,ht,q⟩:=h
  refine ⟨_,(qss_cons (qs_if (qt_cmpR op_eq (qe_callB call_len_seq (by rfl) T.m_len b_len (qa_c (qe_fld (qv 0) (by rfl)) qa_nil)) qe_int (nomark _))
    (qss_one qs_never)
    qss_nil)
   (qss_cons (qs_set (i:=1) sc_Bundo.nd rfl (Or.inl rfl) (qe_bm0 PySem.F.plainAttrs_list PySem.F.slot_list_pop PySem.F.type_list_pop mt_pop (qe_fld (qv 0) (by rfl))))
   (qss_one (qs_expr (qe_meth (qv 0) T.P_Bench T.D_Bhold.me (ok_Bhold T) (hr.mono (by decide)) T.D_Bhold.bd .nil pass0 (qa_c (qe_ix ix_tup (qv 1) qe_int (λ _ _=>rfl)) (qa_c (qe_ix ix_tup (qv 1) qe_int (λ _ _=>rfl)) qa_nil))))))),?_⟩
  obtain ⟨dx,hb⟩:=B.at_
  have nhd:hd≠dl:=ne_of B.hd B.dl (by intro z;cases z)
  have nbd:bn≠dl:=ne_of hb B.dl (by intro z;cases z)
  have nbh:bn≠hd:=ne_of hb B.hd (by intro z;cases z)
  have ntd:t≠dl:=ne_of ht B.dl (by intro z;cases z)
  have nth:t≠hd:=ne_of ht B.hd (by intro z;cases z)
  refine ⟨_,rfl,bn,_,dx,_,_,rfl,hb,T.P_Bench,T.A_Bdeeds,rfl,dl,_,rfl,.inl (SqL.of B.dl),rfl,_,rfl,?_⟩
  rw [decide_eq_false (show ¬ V.int ((ds++[V.ref t]).length:Int)=V.int 0 from λ z=>by injection z with z;rw [List.length_append] at z;simp at z;omega)]
  refine iteF ⟨_,rfl,bn,_,dx,_,_,rfl,hb,T.P_Bench,T.A_Bdeeds,rfl,.inl ⟨rfl,_,SqL.of B.dl⟩,dl,_,.ref t,rfl,rfl,B.dl,by simp,?_⟩
  have b2:But dl H (upd H dl (.lst (ds++[V.ref t]).dropLast)):=But.upd
  have B2:Bn T (upd H dl (.lst (ds++[V.ref t]).dropLast)) bn pr hd dl kvs ds:=⟨⟨dx,b2 _ _ nbd hb⟩,b2 _ _ nhd B.hd,by rw [upd_same,List.dropLast_concat]⟩
  generalize upd H dl (.lst (ds++[V.ref t]).dropLast)=H2 at b2 B2
  obtain ⟨dx2,hb2⟩:=B2.at_
  have ht2:=b2 _ _ ntd ht
  refine ⟨_,rfl,bn,dx2,_,rfl,hb2,rfl,_,rfl,t,_,_,_,rfl,rfl,SqT.of ht2,rfl,_,rfl,t,_,_,_,rfl,rfl,SqT.of ht2,rfl,bn,pr,hd,dl,kvs,_,x,_,rfl,B2,hk,.inr ⟨w,rfl⟩,λ H3 b3 h3=>?_⟩
  exact q H3 (λ c o n1 n2 ec=>b3 _ _ n1 (b2 _ _ n2 ec)) ⟨⟨dx2,b3 _ _ nbh hb2⟩,h3,b3 _ _ (Ne.symm nhd) B2.dl⟩
def sp_bdrop (T:Tx K mg):Sp:=λ vs H Q _ => ∃ (bn pr hd dl:Addr) (kvs:List (Key×V)) (ds:List V) (x:Str) (v:V),vs=[.ref bn,.str x]/\Bn T H bn pr hd dl kvs ds/\kvs.length<=100/\ds.length<=1000/\valV kvs (kS x)=some v /\
 ∀ t H',Kp2 hd dl H H'->H' t=some (.tup [.str x,v])->Bn T H' bn pr hd dl (dropK kvs (kS x)) (ds++[.ref t])->Q .non H'
theorem ok_Bdrop (T:Tx K mg):FnOk P w K mg base CX0 3 T.f_Bdrop T.fd_Bdrop ["self", "name"] (sp_bdrop T):=by
 refine T.D_Bdrop.fn.okQ sc_Bdrop (λ vs H Q E h=>?_) (λ cdv A outer s H vs Q E hr h=>?_)
 ·obtain ⟨bn,pr,hd,dl,kvs,ds,x,v,rfl,_⟩:=h
  rfl
 ·obtain ⟨bn,pr,hd,dl,kvs,ds,x,v,rfl,B,hk,hds,hv,q⟩:=h
  refine ⟨_,(qss_cons (qs_expr (qe_meth (qv 0) T.P_Bench T.D_Bheld_by.me (ok_Bheld_by T) (hr.mono (by decide)) T.D_Bheld_by.bd .nil pass0 (qa_c (qv 1) qa_nil)))
   (qss_one (qs_expr (qe_meth (qv 0) T.P_Bench T.D_Bdone.me (ok_Bdone T) (hr.mono (by decide)) T.D_Bdone.bd .nil pass0 (qa_c (qv 1) (qa_c qe_non qa_nil)))))),?_⟩
  obtain ⟨dx,hb⟩:=B.at_
  refine ⟨_,rfl,bn,dx,_,rfl,hb,rfl,_,rfl,bn,pr,hd,dl,kvs,ds,x,v,rfl,B,hv,?_⟩
  refine ⟨_,rfl,bn,dx,_,rfl,hb,rfl,_,rfl,bn,pr,hd,dl,kvs,ds,x,.non,rfl,B,hk,hds,.inl ⟨rfl,v,hv⟩,λ t H' k' ht B'=>?_⟩
  rw [hv] at ht
  exact q t H' k' ht B'
def sp_bput (T:Tx K mg):Sp:=λ vs H Q _ => ∃ (bn pr hd dl a:Addr) (kvs:List (Key×V)) (ds:List V) (x:Str) (ps:List Int),vs=[.ref bn,.str x,.ref a]/\Bn T H bn pr hd dl kvs ds/\kvs.length<12/\ds.length<=1000/\NameS x/\H a=some (tupI ps)/\ps.length=10/\(∀ i∈ps,0<=i/\i<=1000000) /\
 ∀ t w H',Kp2 hd dl H H'->H' w=some (.tup [.ref a,.int 0])->H' t=some (.tup [.str x,(valV kvs (kS x)).getD .non])->Bn T H' bn pr hd dl (putK kvs (kS x) (.ref w)) (ds++[.ref t])->Q .non H'
theorem ok_Bput (T:Tx K mg):FnOk P w K mg base CX0 3 T.f_Bput T.fd_Bput ["self", "name", "powers"] (sp_bput T):=by
 refine T.D_Bput.fn.okQ sc_Bput (λ vs H Q E h=>?_) (λ cdv A outer s H vs Q E hr h=>?_)
 ·obtain ⟨bn,pr,hd,dl,a,kvs,ds,x,ps,rfl,_⟩:=h
  rfl
 ·obtain ⟨bn,pr,hd,dl,a,kvs,ds,x,ps,rfl,B,hk,hds,hx,ha,hp10,hp,q⟩:=h
  refine ⟨_,(qss_cons (qs_if (qt_not (qt_val (qe_cD (ok_is_name T) (hr.mono (by decide)) rfl T.D_is_name pass0 (qa_c (qv 1) qa_nil))))
    (qss_one qs_never)
    qss_nil)
   (qss_cons (qs_if (QW.pt (qw_or (qt_not (qt_val (qe_cD (ok_iw9 T) (hr.mono (by decide)) rfl T.D_iw9 pass0 (qa_c (qv 2) qa_nil)))) (qw_or1 (qt_cmpR op_gt (qe_callB (call_maxT rfl) (by rfl) T.m_max b_max (qa_c (qv 2) qa_nil)) (qe_globC (by rfl) T.g_MOST_POWER) (nomark _)))))
    (qss_one qs_never)
    qss_nil)
   (qss_cons (qs_ifJ (QW.pt (qw_and (qt_cmpR (op_notInDS (hu_of hr)) (qv 1) (qe_fld (qv 0) (by rfl)) (by with_unfolding_all rfl)) (qw_and1 (qt_cmpR op_eq (qe_callB call_lenD (by rfl) T.m_len b_len (qa_c (qe_fld (qv 0) (by rfl)) qa_nil)) (qe_globC (by rfl) T.g_MOST_NAMES) (nomark _)))))
    (qss_one qs_never)
    qss_nil)
   (qss_one (qs_expr (qe_meth (qv 0) T.P_Bench T.D_Bdone.me (ok_Bdone T) (hr.mono (by decide)) T.D_Bdone.bd .nil pass0 (qa_c (qv 1) (qa_c (qe_tupA (qa_c (qv 2) (qa_c qe_int qa_nil))) qa_nil)))))))),?_⟩
  refine ⟨_,rfl,x,rfl,hx,λ H1 s1=>⟨_,rfl,iteF ?_⟩⟩
  have B1:=B.same s1
  have ha1:=s1 _ _ ha
  have hpow:powsV H1 (.ref a)=true:=by
   unfold powsV
   rw [isT_ref ha1]
   show (decide ((ps.map V.int).length=10)&&(ps.map V.int).all powB)=true
   rw [List.length_map,decide_eq_true hp10,Bool.true_and,List.all_map,List.all_eq_true]
   intro i hi
   exact decide_eq_true (hp i hi).1
  refine ⟨_,rfl,.ref a,rfl,?_,λ H2 s2=>⟨_,rfl,?_⟩⟩
  ·exact wf1_tup ha1 (by rw [List.length_map];omega) λ y hy=>by obtain ⟨i,_,rfl⟩:=List.mem_map.mp hy;trivial
  rw [hpow]
  refine iteF ⟨_,rfl,a,ps,rfl,SqT.of (s2 _ _ ha1),(by intro z;rw [z] at hp10;cases hp10),λ M hM _=>⟨_,_,rfl,rfl,_,rfl,?_⟩⟩
  rw [decide_eq_false (show ¬ M > 1000000 from by have:=(hp M hM).2;omega)]
  refine iteF ?_
  have B2:=B1.same s2
  obtain ⟨dx,hb⟩:=B2.at_
  refine ⟨λ σ' H'=>σ'=[some (.ref bn),some (.str x),some (.ref a)]/\H2=H',?_,?_⟩
  ·refine ⟨_,rfl,_,rfl,bn,_,dx,_,_,rfl,hb,T.P_Bench,T.A_Bheld,rfl,x,hd,kvs,rfl,rfl,B2.hd,_,rfl,?_⟩
   cases hs:(valV kvs (kS x)).isSome with
   | true=>exact iteF (iteF ⟨rfl,rfl⟩)
   | false =>
    refine iteT ⟨_,rfl,bn,_,dx,_,_,rfl,hb,T.P_Bench,T.A_Bheld,rfl,hd,kvs,rfl,B2.hd,rfl,_,rfl,?_⟩
    rw [decide_eq_false (show ¬ V.int (kvs.length:Int)=V.int 12 from λ z=>by injection z with z;omega)]
    exact iteF ⟨rfl,rfl⟩
  ·rintro σ' H' ⟨rfl,rfl⟩
   refine ⟨_,rfl,bn,dx,_,rfl,hb,rfl,_,rfl,_,rfl,(by show 2<=sizeLine;decide),λ w H3 f3 s3 hw=>?_⟩
   refine ⟨bn,pr,hd,dl,kvs,ds,x,.ref w,rfl,B2.same s3,by omega,hds,.inr ⟨w,rfl⟩,λ t H4 k4 ht B4=>?_⟩
   have nwd:w≠dl:=λ z=>by rw [z,B2.dl] at f3;cases f3
   have nwh:w≠hd:=λ z=>by rw [z,B2.hd] at f3;cases f3
   exact q t w H4 (λ c o n1 n2 ec=>k4 _ _ n1 n2 (s3 _ _ (s2 _ _ (s1 _ _ ec)))) (k4 _ _ nwh nwd hw) ht B4
def sp_brun (T:Tx K mg):Sp:=λ vs H Q _ => ∃ (bn pr hd dl:Addr) (kvs:List (Key×V)) (ds:List V) (x:Str) (w a:Addr) (xs:List V) (fs:List (Int×Int)) (ps:List Int) (n m:Int),vs=[.ref bn,.str x,.int m]/\Bn T H bn pr hd dl kvs ds/\kvs.length<=100/\ds.length<=1000 /\
 H pr=some (.tup xs)/\FrcsV H xs fs/\xs.length<=1000/\valV kvs (kS x)=some (.ref w)/\H w=some (.tup [.ref a,.int n])/\H a=some (tupI ps)/\ps.length=10/\nn ps=true/\0<=m/\m<=2000 /\
 ∀ (k:Nat) r q' w' t H',k<=m.toNat->goN (rowsOf fs) k ps=some r->(k=m.toNat\/fstI (rowsOf fs) r=none)->Kp2 hd dl H H'->H' q'=some (tupI r)->H' w'=some (.tup [.ref q',.int (n+(k:Int))])->H' t=some (.tup [.str x,.ref w]) ->
  Bn T H' bn pr hd dl (putK kvs (kS x) (.ref w')) (ds++[.ref t])->Q (.int (k:Int)) H'
theorem ok_Brun (T:Tx K mg):FnOk P w K mg base CX0 8 T.f_Brun T.fd_Brun ["self", "name", "many"] (sp_brun T):=by
 refine T.D_Brun.fn.okQ sc_Brun (λ vs H Q E h=>?_) (λ cdv A outer s H vs Q E hr h=>?_)
 ·obtain ⟨bn,pr,hd,dl,kvs,ds,x,w,a,xs,fs,ps,n,m,rfl,_⟩:=h
  rfl
 ·obtain ⟨bn,pr,hd,dl,kvs,ds,x,w,a,xs,fs,ps,n,m,rfl,B,hk,hds,hpr,hf,hl,hv,hw,ha,hp10,hnn,m0,m4,q⟩:=h
  refine ⟨_,(qss_cons (qs_set (i:=3) sc_Brun.nd rfl (Or.inl rfl) (qe_meth (qv 0) T.P_Bench T.D_Bheld_by.me (ok_Bheld_by T) (hr.mono (by decide)) T.D_Bheld_by.bd .nil pass0 (qa_c (qv 1) qa_nil)))
   (qss_cons (qs_set (i:=4) sc_Brun.nd rfl (Or.inl rfl) (qe_cD (ok_gone_on T) (hr.mono (by decide)) rfl T.D_gone_on pass0 (qa_c (qe_fld (qv 0) (by rfl)) (qa_c (qe_ix ix_tup (qv 3) qe_int (λ _ _=>rfl)) (qa_c (qv 2) qa_nil)))))
   (qss_cons (qs_expr (qe_meth (qv 0) T.P_Bench T.D_Bdone.me (ok_Bdone T) (hr.mono (by decide)) T.D_Bdone.bd .nil pass0 (qa_c (qv 1) (qa_c (qe_tupA (qa_c (qe_ix ix_tup (qv 4) qe_int (λ _ _=>rfl)) (qa_c (qe_op op_add (qe_ix ix_tup (qv 3) qe_int (λ _ _=>rfl)) (qe_ix ix_tup (qv 4) qe_int (λ _ _=>rfl))) qa_nil))) qa_nil))))
   (qss_one (qs_ret (qe_ix ix_tup (qv 4) qe_int (λ _ _=>rfl))))))),?_⟩
  obtain ⟨dx,hb⟩:=B.at_
  refine ⟨_,rfl,bn,dx,_,rfl,hb,rfl,_,rfl,bn,pr,hd,dl,kvs,ds,x,_,rfl,B,hv,?_⟩
  refine ⟨_,rfl,bn,_,dx,_,_,rfl,hb,T.P_Bench,T.A_Bprogram,rfl,_,rfl,w,_,_,_,rfl,rfl,SqT.of hw,rfl,_,rfl,pr,a,xs,fs,ps,m,rfl,hpr,hf,hl,ha,hp10,hnn,m0,m4,λ k r e q' H1 k1 hg hor s1 he hq'=>?_⟩
  have B1:=B.same s1
  refine ⟨_,rfl,bn,dx,_,rfl,s1 _ _ hb,rfl,_,rfl,_,rfl,e,_,_,_,rfl,rfl,SqT.of he,rfl,_,rfl,w,_,_,_,rfl,rfl,SqT.of (s1 _ _ hw),rfl,_,rfl,e,_,_,_,rfl,rfl,SqT.of he,rfl,_,_,rfl,rfl,(by show 2<=sizeLine;decide),λ w' H2 f2 s2 hw'=>?_⟩
  have B2:=B1.same s2
  refine ⟨bn,pr,hd,dl,kvs,ds,x,.ref w',rfl,B2,hk,hds,.inr ⟨w',rfl⟩,λ t H3 k3 ht B3=>?_⟩
  rw [hv] at ht
  have nwd:w'≠dl:=λ z=>by rw [z,B1.dl] at f2;cases f2
  have nwh:w'≠hd:=λ z=>by rw [z,B1.hd] at f2;cases f2
  have kp : ∀ {c:Addr} {xs:List V},H2 c=some (.tup xs)->H3 c=some (.tup xs):=λ {c xs} hc=>k3 _ _ (ne_of hc B2.hd (by intro z;cases z)) (ne_of hc B2.dl (by intro z;cases z)) hc
  refine ⟨_,rfl,e,_,_,_,rfl,rfl,SqT.of (kp (s2 _ _ he)),rfl,?_⟩
  exact q k r q' w' t H3 k1 hg hor (λ c o n1 n2 ec=>k3 _ _ n1 n2 (s2 _ _ (s1 _ _ ec))) (kp (s2 _ _ hq')) (k3 _ _ nwh nwd hw') ht B3
end
theorem progV_tup {H:Hp} {p:Addr} {xs:List V} (h:H p=some (.tup xs)) (h1:1<=xs.length) (h2:xs.length<=16) (hf : ∀ x∈xs,FracAt H x):progV H (.ref p)=true:=by
 unfold progV
 rw [isT_ref h]
 show (decide _&&decide _&&xs.all (fracV H))=true
 rw [decide_eq_true h1,decide_eq_true h2]
 refine List.all_eq_true.mpr λ x hx=>?_
 obtain ⟨c,i,j,rfl,hc,f⟩:=hf x hx
 unfold fracV
 rw [isT_ref hc]
 exact f
theorem wf2_prog {H:Hp} {p:Addr} {xs:List V} (h:H p=some (.tup xs)) (h2:xs.length<=16) (hf : ∀ x∈xs,FracAt H x):wf2 H (.ref p) :=
 wf2_tup h (by omega) λ x hx=>by
  obtain ⟨c,i,j,rfl,hc,f⟩:=hf x hx
  exact wf1_tup hc (by simp) (all2 trivial trivial)
section
variable {P:Program} {w:World} {K:PySem.W.Frag} {mg:Str->Option Value} {base:Heap}
def sp_binit (T:Tx K mg):Sp:=λ vs H Q _ => ∃ (bn dx pr:Addr) (xs:List V),vs=[.ref bn,.ref pr]/\H bn=some (.ins T.c_Bench dx [])/\H pr=some (.tup xs)/\1<=xs.length/\xs.length<=16/\(∀ x∈xs,FracAt H x) /\
 ∀ hd dl H',But bn H H'->H hd=none->H dl=none->Bn T H' bn pr hd dl [] []->Q .non H'
theorem ok_Binit (T:Tx K mg):FnOk P w K mg base CX0 5 T.f_Binit T.fd_Binit ["self", "program"] (sp_binit T):=by
 refine T.D_Binit.fn.okQ sc_Binit (λ vs H Q E h=>?_) (λ cdv A outer s H vs Q E hr h=>?_)
 ·obtain ⟨bn,dx,pr,xs,rfl,_⟩:=h
  rfl
 ·obtain ⟨bn,dx,pr,xs,rfl,hb,hpr,x1,x16,hfr,q⟩:=h
  refine ⟨_,(qss_cons (qs_if (qt_not (qt_val (qe_cD (ok_ip9 T) (hr.mono (by decide)) rfl T.D_ip9 pass0 (qa_c (qv 1) qa_nil))))
    (qss_one qs_never)
    qss_nil)
   (qss_cons (qs_fld (qv 0) (qv 1) rfl)
   (qss_cons (qs_fld (qv 0) qe_dnewA rfl)
   (qss_one (qs_fld (qv 0) (qe_lstA qa_nil) rfl))))),?_⟩
  refine ⟨_,rfl,.ref pr,rfl,wf2_prog hpr x16 hfr,λ H1 s1=>⟨_,rfl,?_⟩⟩
  rw [progV_tup hpr x1 x16 hfr]
  refine iteF ⟨_,rfl,_,rfl,bn,_,dx,_,rfl,s1 _ _ hb,T.P_Bench,T.A_Bprogram,by decide,?_⟩
  refine λ hd H2 f2 s2 h2=>⟨_,rfl,bn,_,dx,_,rfl,s2 _ _ upd_same,T.P_Bench,T.A_Bheld,(by show (1:Nat)<1000;decide),?_⟩
  refine ⟨(by show 0<=sizeLine;decide),λ dl H3 f3 s3 h3=>⟨_,rfl,bn,_,dx,_,rfl,s3 _ _ upd_same,T.P_Bench,T.A_Bdeeds,(by show (2:Nat)<1000;decide),?_⟩⟩
  have nhb:hd≠bn:=λ z=>by rw [z,upd_same] at f2;cases f2
  have ndb:dl≠bn:=λ z=>by rw [z,upd_same] at f3;cases f3
  have ndh:dl≠hd:=λ z=>by rw [z,upd_ne nhb,h2] at f3;cases f3
  have fhd:H hd=none:=s1.free (by rw [upd_ne nhb] at f2;exact f2)
  have fdl:H dl=none:=by
   rw [upd_ne ndb] at f3
   have g:=s2.free f3
   rw [upd_ne ndb] at g
   exact s1.free g
  refine q hd dl _ (λ c o nc ec=>?_) fhd fdl ⟨⟨dx,upd_same⟩,?_,?_⟩
  ·rw [upd_ne nc]
   refine s3 _ _ ?_
   rw [upd_ne nc]
   refine s2 _ _ ?_
   rw [upd_ne nc]
   exact s1 _ _ ec
  ·rw [upd_ne nhb]
   refine s3 _ _ ?_
   rw [upd_ne nhb]
   exact h2
  ·rw [upd_ne ndb]
   exact h3
end
def KpT (H H':Hp):Prop := ∀ c xs,H c=some (.tup xs)->H' c=some (.tup xs)
theorem KpT.trans {H H1 H2:Hp} (a:KpT H H1) (b:KpT H1 H2):KpT H H2:=λ c xs h=>b c xs (a c xs h)
theorem FrcsV.kpT {H H':Hp} {xs:List V} {fs:List (Int×Int)} (h:FrcsV H xs fs) (k:KpT H H'):FrcsV H' xs fs:=⟨h.1,λ i x hx=>by
 obtain ⟨a,b,c,h1,h2,h3,h4⟩:=h.2 i x hx
 exact ⟨a,b,c,h1,h2,k _ _ h3,h4⟩⟩
section
variable {P:Program} {w:World} {K:PySem.W.Frag} {mg:Str->Option Value} {base:Heap}
structure Rn (T:Tx K mg) (pt pl pr bn hd dl:Addr) (xs:List V) (fs:List (Int×Int)) (ns:List Int) (H0 H:Hp) (kvs:List (Key×V)) (ds:List V):Prop where
 pot : ∃ n,H pt=some (.lst [.int n])
 npd:pt≠dl
 hpl:H pl=some (.tup (ns.map V.int))
 hpr:H pr=some (.tup xs)
 hf:FrcsV H xs fs
 B:Bn T H bn pr hd dl kvs ds
 old : ∀ c o,c≠pt->c≠hd->c≠dl->H0 c=some o->H c=some o
section
variable {T:Tx K mg} {pt pl pr bn hd dl:Addr} {xs:List V} {fs:List (Int×Int)} {ns:List Int} {H0 H H':Hp} {kvs kvs':List (Key×V)} {ds ds':List V}
theorem Rn.tT (R:Rn T pt pl pr bn hd dl xs fs ns H0 H kvs ds) (b:But pt H H'):KpT H H':=λ c ys h=>by
 obtain ⟨n,hp⟩:=R.pot
 exact b _ _ (ne_of h hp (by intro z;cases z)) h
theorem Rn.dT (R:Rn T pt pl pr bn hd dl xs fs ns H0 H kvs ds) (k:Kp2 hd dl H H'):KpT H H':=λ c ys h =>
 k _ _ (ne_of h R.B.hd (by intro z;cases z)) (ne_of h R.B.dl (by intro z;cases z)) h
theorem Rn.take (R:Rn T pt pl pr bn hd dl xs fs ns H0 H kvs ds) (b:But pt H H') {n':Int} (h:H' pt=some (.lst [.int n'])):Rn T pt pl pr bn hd dl xs fs ns H0 H' kvs ds:=by
 have k:=R.tT b
 obtain ⟨n,hp⟩:=R.pot
 obtain ⟨dx,hb⟩:=R.B.at_
 exact ⟨⟨_,h⟩,R.npd,k _ _ R.hpl,k _ _ R.hpr,R.hf.kpT k,⟨⟨dx,b _ _ (ne_of hb hp (by intro z;cases z)) hb⟩,b _ _ (ne_of R.B.hd hp (by intro z;cases z)) R.B.hd,b _ _ (Ne.symm R.npd) R.B.dl⟩,λ c o n1 n2 n3 e=>b _ _ n1 (R.old c o n1 n2 n3 e)⟩
theorem Rn.deed (R:Rn T pt pl pr bn hd dl xs fs ns H0 H kvs ds) (k:Kp2 hd dl H H') (B':Bn T H' bn pr hd dl kvs' ds'):Rn T pt pl pr bn hd dl xs fs ns H0 H' kvs' ds':=by
 have kt:=R.dT k
 obtain ⟨n,hp⟩:=R.pot
 exact ⟨⟨_,k _ _ (ne_of hp R.B.hd (by intro z;cases z)) R.npd hp⟩,R.npd,kt _ _ R.hpl,kt _ _ R.hpr,R.hf.kpT kt,B',λ c o n1 n2 n3 e=>k _ _ n2 n3 (R.old c o n1 n2 n3 e)⟩
theorem Rn.same (R:Rn T pt pl pr bn hd dl xs fs ns H0 H kvs ds) (s:Same H H'):Rn T pt pl pr bn hd dl xs fs ns H0 H' kvs ds:=by
 obtain ⟨n,hp⟩:=R.pot
 exact ⟨⟨_,s _ _ hp⟩,R.npd,s _ _ R.hpl,s _ _ R.hpr,R.hf.same s,R.B.same s,λ c o n1 n2 n3 e=>s _ _ (R.old c o n1 n2 n3 e)⟩
end
abbrev kM:Key:=kS "mine"
abbrev kO:Key:=kS "other"
theorem kMO:kM≠kO:=by decide +kernel
theorem val1 (v:V):valV [(kM,v)] kM=some v:=valV_pos rfl
theorem val1o (v:V):valV [(kM,v)] kO=none:=by rw [valV_neg (by exact kMO)];rfl
theorem val2 (v u:V):valV [(kM,v),(kO,u)] kM=some v:=valV_pos rfl
theorem val2o (v u:V):valV [(kM,v),(kO,u)] kO=some u:=by rw [valV_neg (by exact kMO)];exact valV_pos rfl
theorem put0 (v:V):putK ([]:List (Key×V)) kM v=[(kM,v)]:=rfl
theorem put1o (v u:V):putK [(kM,v)] kO u=[(kM,v),(kO,u)]:=by
 unfold putK
 rw [if_neg (by rw [valV_any,val1o];exact Bool.false_ne_true)]
 rfl
theorem put2o (v u u':V):putK [(kM,v),(kO,u)] kO u'=[(kM,v),(kO,u')]:=by
 unfold putK
 rw [if_pos (by rw [valV_any,val2o];rfl)]
 show [if kM=kO then (kM,u') else (kM,v),if kO=kO then (kO,u') else (kO,u)]=_
 rw [if_neg kMO,if_pos rfl]
theorem put2 (v u v':V):putK [(kM,v),(kO,u)] kM v'=[(kM,v'),(kO,u)]:=by
 unfold putK
 rw [if_pos (by rw [valV_any,val2];rfl)]
 simp [Ne.symm kMO]
theorem drop2 (v u:V):dropK [(kM,v),(kO,u)] kO=[(kM,v)]:=by
 unfold dropK
 rw [List.filter_cons_of_pos (by exact decide_eq_true kMO),List.filter_cons_of_neg (by simp)]
 rfl
theorem nmM:NameS "mine" := ⟨by unfold Asc;decide +kernel,by decide +kernel,by decide +kernel,by decide +kernel⟩
theorem nmO:NameS "other" := ⟨by unfold Asc;decide +kernel,by decide +kernel,by decide +kernel,by decide +kernel⟩
theorem gone_le {rows:List (List Int)} {p r r':List Int} {k j:Nat} (h1:goN rows k p=some r) (hr:fstI rows r=none) (h2:goN rows j p=some r'):j<=k:=Nat.le_of_not_lt λ z=>by
 obtain ⟨nx,hnx⟩:=goN_pre (j:=k+1) h2 z
 have h3:(goN rows k p).bind (stp rows)=some nx:=hnx
 rw [h1] at h3
 obtain ⟨_,_,e1,_⟩:=stp_some h3
 rw [hr] at e1
 cases e1
theorem gone_one {rows:List (List Int)} {p r r':List Int} {k j m:Nat} (hk:k<=m) (hj:j<=m) (h1:goN rows k p=some r) (o1:k=m\/fstI rows r=none) (h2:goN rows j p=some r') (o2:j=m\/fstI rows r'=none):j=k:=by
 rcases o1 with o1 | o1<;>rcases o2 with o2 | o2
 ·omega
 ·have:=gone_le h2 o2 h1
  omega
 ·have:=gone_le h1 o1 h2
  omega
 ·have:=gone_le h1 o1 h2
  have:=gone_le h2 o2 h1
  omega
def sp_first_fit:Sp:=λ vs H Q _ => ∃ (b a:Addr) (xs:List V) (fs:List (Int×Int)) (ps:List Int),vs=[.ref b,.ref a]/\H b=some (.tup xs)/\FrcsV H xs fs/\xs.length<=1000/\H a=some (tupI ps) /\ ∀ H',Same H H'->Q (optV (fstI (rowsOf fs) ps)) H'
theorem ok_first_fit (T:Tx K mg):FnOk P w K mg base CX0 5 T.f_first_fit T.fd_first_fit ["program", "powers"] sp_first_fit:=by
 refine T.D_first_fit.fn.okQ sc_first_fit (λ vs H Q E h=>?_) (λ cdv A outer s H vs Q E hr h=>?_)
 ·obtain ⟨b,a,xs,fs,ps,rfl,_⟩:=h
  rfl
 ·obtain ⟨b,a,xs,fs,ps,rfl,hb,hf,hl,ha,q⟩:=h
  refine ⟨_,(qss_one (qs_ret (qe_cD (ok_first_of T) (hr.mono (by decide)) rfl T.D_first_of pass0 (qa_c (qe_cD (ok_co9 T) (hr.mono (by decide)) rfl T.D_co9 pass0 (qa_c (qv 0) qa_nil)) (qa_c (qv 1) qa_nil))))),?_⟩
  refine ⟨_,rfl,b,xs,fs,rfl,hb,hf,hl,λ l H1 ys fl s1 hl1 hr1=>?_⟩
  exact ⟨_,rfl,l,a,ys,rowsOf fs,ps,rfl,hl1,hr1,s1 _ _ ha,λ H2 s2=>q H2 (s1.trans s2)⟩
def sp_l_runs (T:Tx K mg):Sp:=λ vs H Q _ => ∃ (pt pl pr bn hd dl wm am:Addr) (xs:List V) (fs:List (Int×Int)) (ns line:List Int) (ds:List V),vs=[.ref pt,.ref pr,.ref bn,.ref pl]/\Rn T pt pl pr bn hd dl xs fs ns H H [(kM,.ref wm)] ds/\H wm=some (.tup [.ref am,.int 0])/\H am=some (tupI line) /\
 line.length=10/\nn line=true/\xs.length<=16/\ns.length<=10/\(∀ m∈ns,0<=m/\m<10)/\ds.length<=2 /\
 ∀ (st:Nat) wm' am' cur ds' H',Rn T pt pl pr bn hd dl xs fs ns H H' [(kM,.ref wm')] ds'->H' wm'=some (.tup [.ref am',.int (st:Int)])->H' am'=some (tupI cur)->goN (rowsOf fs) st line=some cur->st<=300->Q (.int (st:Int)) H'
theorem ok_l_runs (T:Tx K mg):FnOk P w K mg base CX0 9 T.f_l_runs T.fd_l_runs ["pot", "program", "bench", "places"] (sp_l_runs T):=by
 refine T.D_l_runs.fn.okQ sc_l_runs (λ vs H Q E h=>?_) (λ cdv A outer s H vs Q E hr h=>?_)
 ·obtain ⟨pt,pl,pr,bn,hd,dl,wm,am,xs,fs,ns,line,ds,rfl,_⟩:=h
  rfl
 ·obtain ⟨pt,pl,pr,bn,hd,dl,wm,am,xs,fs,ns,line,ds,rfl,R,hwm,ham,hl10,hnn,hx16,hn10,hns,hds,q⟩:=h
  refine ⟨_,(qss_cons (qs_set (i:=4) sc_l_runs.nd rfl (Or.inl rfl) qe_int)
   (qss_cons (qs_for PassesOwn.never rfl (qi_range1 rfl T.m_range (qa_c (qe_cD (ok_l_takeA T) (hr.mono (by decide)) rfl T.D_l_take pass0 (qa_c (qv 0) (qa_c qe_int qa_nil))) qa_nil)) (qg_name (i:=5) sc_l_runs.nd rfl (Or.inl rfl))
    (qss_cons (qs_expr (qe_meth (qv 2) T.P_Bench T.D_Bput.me (ok_Bput T) (hr.mono (by decide)) T.D_Bput.bd .nil pass0 (qa_c qe_str (qa_c (qe_cD (ok_l_line T) (hr.mono (by decide)) rfl T.D_l_line pass0 (qa_c (qv 0) (qa_c (qv 3) (qa_c qe_int qa_nil)))) qa_nil))))
   (qss_cons (qs_expr (qe_meth (qv 2) T.P_Bench T.D_Brun.me (ok_Brun T) (hr.mono (by decide)) T.D_Brun.bd .nil pass0 (qa_c qe_str (qa_c (qe_cD (ok_l_takeA T) (hr.mono (by decide)) rfl T.D_l_take pass0 (qa_c (qv 0) (qa_c qe_int qa_nil))) qa_nil))))
   (qss_cons (qs_set (i:=6) sc_l_runs.nd rfl (Or.inl rfl) (qe_cD (ok_l_takeA T) (hr.mono (by decide)) rfl T.D_l_take pass0 (qa_c (qv 0) (qa_c qe_int qa_nil))))
   (qss_cons (qs_set (i:=7) sc_l_runs.nd rfl (Or.inl rfl) (qe_meth (qv 2) T.P_Bench T.D_Brun.me (ok_Brun T) (hr.mono (by decide)) T.D_Brun.bd .nil pass0 (qa_c qe_str (qa_c (qv 6) qa_nil))))
   (qss_cons (qs_ifJ (qt_cmpR op_eq (qe_cD (ok_l_takeA T) (hr.mono (by decide)) rfl T.D_l_take pass0 (qa_c (qv 0) (qa_c qe_int qa_nil))) qe_int (nomark _))
    (qss_cons (qs_expr (qe_meth0 (qv 2) T.P_Bench T.D_Bundo.me (ok_Bundo T) (hr.mono (by decide)) T.D_Bundo.bd .nil pass0))
   (qss_one (qs_if (QW.pt (qw_or (qt_cmpR op_ne (qe_meth (qv 2) T.P_Bench T.D_Bgone.me (ok_Bgone T) (hr.mono (by decide)) T.D_Bgone.bd .nil pass0 (qa_c qe_str qa_nil)) (qv 4) (nomark _)) (qw_or1 (qt_cmpR op_ne (qe_meth (qv 2) T.P_Bench T.D_Brun.me (ok_Brun T) (hr.mono (by decide)) T.D_Brun.bd .nil pass0 (qa_c qe_str (qa_c (qv 6) qa_nil))) (qv 7) (nomark _)))))
    (qss_one (qs_ret qe_non))
    qss_nil)))
    qss_nil)
   (qss_cons (qs_set (i:=4) sc_l_runs.nd rfl (Or.inl rfl) (qe_op op_add (qv 4) (qv 7)))
   (qss_cons (qs_ifJ (QW.pt (qw_or (qt_cmpR op_gt (qv 7) (qv 6) (nomark _)) (qw_or1 (QW.pt (qw_and (qt_cmpR op_lt (qv 7) (qv 6) (nomark _)) (qw_and1 (qt_cmpR op_notN (qe_cD (ok_first_fit T) (hr.mono (by decide)) rfl T.D_first_fit pass0 (qa_c (qv 1) (qa_c (qe_meth (qv 2) T.P_Bench T.D_Bpowers.me (ok_Bpowers T) (hr.mono (by decide)) T.D_Bpowers.bd .nil pass0 (qa_c qe_str qa_nil)) qa_nil))) qe_non (nomark _))))))))
    (qss_one (qs_ret qe_non))
    qss_nil)
   (qss_one (qs_expr (qe_meth (qv 2) T.P_Bench T.D_Bdrop.me (ok_Bdrop T) (hr.mono (by decide)) T.D_Bdrop.bd .nil pass0 (qa_c qe_str qa_nil))))))))))))
   (qss_one (qs_ret (qv 4))))),?_⟩
  obtain ⟨n0,hp0⟩:=R.pot
  refine ⟨_,rfl,pt,n0,7,rfl,hp0,by decide,by decide,λ mm n1 H1 mm0 mml b1 hp1=>?_⟩
  have R1:=R.take b1 hp1
  have k1:=R.tT b1
  refine ⟨mm,rfl,by omega,by omega,for_range (n:=mm.toNat) (λ i σ H2 => ∃ (st:Nat) (wm am:Addr) (cur:List Int) (ds:List V) (u5 u6 u7:Option V),σ=[some (.ref pt),some (.ref pr),some (.ref bn),some (.ref pl),some (.int (st:Int)),u5,u6,u7]/\Rn T pt pl pr bn hd dl xs fs ns H H2 [(kM,.ref wm)] ds/\H2 wm=some (.tup [.ref am,.int (st:Int)])/\H2 am=some (tupI cur)/\goN (rowsOf fs) st line=some cur/\st<=41 * i/\ds.length<=2+4 * i)
   ⟨0,wm,am,line,ds,none,none,none,rfl,R1,k1 _ _ hwm,k1 _ _ ham,rfl,Nat.zero_le _,by omega⟩ ?_ ?_⟩
  ·rintro i σ H2 hi ⟨st,wm,am,cur,ds,u5,u6,u7,rfl,R2,hwm2,ham2,hgo,hst,hdl⟩
   obtain ⟨n2,hp2⟩:=R2.pot
   obtain ⟨dx,hb2⟩:=R2.B.at_
   have hcur:=goN_ok (rowsOf_10 fs) hl10 hnn hgo
   refine ⟨_,rfl,bn,dx,_,rfl,hb2,rfl,_,rfl,_,rfl,pt,pl,n2,5,ns,rfl,hp2,R2.hpl,hn10,hns,by decide,by decide,λ ln H3 n3 es b3 hp3 hln hl10' hes=>?_⟩
   have R3:=R2.take b3 hp3
   have k3:=R2.tT b3
   refine ⟨bn,pr,hd,dl,ln,_,ds, "other", es,rfl,R3.B,(by show 1<12;decide),by omega,nmO,hln,hl10',λ e he=>⟨(hes e he).1,by have:=(hes e he).2;omega⟩,λ t4 w4 H4 kp4 hw4 ht4 B4=>?_⟩
   rw [put1o] at B4
   have R4:=R3.deed kp4 B4
   have k4:=R3.dT kp4
   obtain ⟨n4,hp4⟩:=R4.pot
   obtain ⟨dx4,hb4⟩:=R4.B.at_
   refine ⟨_,rfl,bn,dx4,_,rfl,hb4,rfl,_,rfl,pt,n4,9,rfl,hp4,by decide,by decide,λ m5 n5 H5 m50 m5l b5 hp5=>?_⟩
   have R5:=R4.take b5 hp5
   have k5:=R4.tT b5
   refine ⟨bn,pr,hd,dl,_,_, "other", w4,ln,xs,fs,es,0,m5,rfl,R5.B,(by show 2<=100;decide),(by rw [List.length_append];show ds.length+1<=1000;omega),R5.hpr,R5.hf,by omega,val2o _ _,k5 _ _ hw4,k5 _ _ (k4 _ _ hln),hl10',nn_iff.mpr λ e he=>(hes e he).1,m50,by omega,λ k6 r6 q6 w6 t6 H6 _ _ _ kp6 hq6 hw6 ht6 B6=>?_⟩
   rw [put2o] at B6
   have R6:=R5.deed kp6 B6
   have k6':=R5.dT kp6
   obtain ⟨n6,hp6⟩:=R6.pot
   refine ⟨_,rfl,pt,n6,41,rfl,hp6,by decide,by decide,λ sh n7 H7 sh0 shl b7 hp7=>?_⟩
   have R7:=R6.take b7 hp7
   have k7:=((((k3.trans k4).trans k5).trans k6').trans (R6.tT b7))
   have hwm7:=k7 _ _ hwm2
   have ham7:=k7 _ _ ham2
   obtain ⟨dx7,hb7⟩:=R7.B.at_
   refine ⟨_,rfl,bn,dx7,_,rfl,hb7,rfl,_,rfl,bn,pr,hd,dl,_,_, "mine", wm,am,xs,fs,cur,(st:Int),sh,rfl,R7.B,(by show 2<=100;decide),(by rw [List.length_append,List.length_append];show ds.length+1+1<=1000;omega),R7.hpr,R7.hf,by omega,val2 _ _,hwm7,ham7,hcur.1,hcur.2,sh0,by omega,λ k8 r8 q8 w8 t8 H8 k8l hg8 hor8 kp8 hq8 hw8 ht8 B8=>?_⟩
   rw [put2] at B8
   have R8:=R7.deed kp8 B8
   have k8':=R7.dT kp8
   refine ⟨λ σ' H' => ∃ (wm' am':Addr) (ds':List V),σ'=[some (.ref pt),some (.ref pr),some (.ref bn),some (.ref pl),some (.int (st:Int)),some (.int (0+(i:Int))),some (.int sh),some (.int (k8:Int))]/\Rn T pt pl pr bn hd dl xs fs ns H H' [(kM,.ref wm'),(kO,.ref w6)] ds'/\H' wm'=some (.tup [.ref am',.int ((st:Int)+(k8:Int))])/\H' am'=some (tupI r8)/\ds'.length<=ds.length+3,?_,?_⟩
   ·obtain ⟨n8,hp8⟩:=R8.pot
    refine ⟨_,rfl,pt,n8,3,rfl,hp8,by decide,by decide,λ c9 n9 H9 c90 c9l b9 hp9=>⟨rfl,_,rfl,ite2 (λ h=>?_) (λ h=>?_)⟩⟩
    ·have R9:=R8.take b9 hp9
     have k9:=R8.tT b9
     obtain ⟨dx9,hb9⟩:=R9.B.at_
     refine ⟨_,rfl,bn,dx9,_,rfl,hb9,rfl,bn,pr,hd,dl,_,_,t8,wm, "mine", rfl,R9.B,(by show 2<=100;decide),k9 _ _ ht8,λ H10 kp10 B10=>?_⟩
     rw [put2] at B10
     have R10:=R9.deed kp10 B10
     have k10:=(k8'.trans k9).trans (R9.dT kp10)
     have hwm10:=k10 _ _ hwm7
     have ham10:=k10 _ _ ham7
     obtain ⟨dx10,hb10⟩:=R10.B.at_
     refine ⟨_,rfl,bn,dx10,_,rfl,hb10,rfl,bn,pr,hd,dl,_,_, "mine", wm,_,_,rfl,R10.B,val2 _ _,hwm10,_,rfl,rfl,_,rfl,?_⟩
     rw [decide_eq_true rfl]
     refine iteF ⟨_,rfl,bn,dx10,_,rfl,hb10,rfl,_,rfl,bn,pr,hd,dl,_,_, "mine", wm,am,xs,fs,cur,(st:Int),sh,rfl,R10.B,(by show 2<=100;decide),(by rw [List.length_append,List.length_append];show ds.length+1+1<=1000;omega),R10.hpr,R10.hf,by omega,val2 _ _,hwm10,ham10,hcur.1,hcur.2,sh0,by omega,λ k11 r11 q11 w11 t11 H11 k11l hg11 hor11 kp11 hq11 hw11 ht11 B11=>?_⟩
     rw [put2] at B11
     have R11:=R10.deed kp11 B11
     have ek:k11=k8:=gone_one k8l k11l hg8 hor8 hg11 hor11
     subst ek
     rw [hg8] at hg11
     cases hg11
     refine ⟨_,rfl,rfl,_,rfl,?_⟩
     rw [decide_eq_true rfl]
     exact iteF ⟨w11,q11,_,rfl,R11,hw11,hq11,by rw [List.length_append,List.length_append,List.length_append];show ds.length+1+1+1<=_;omega⟩
    ·have R9:=R8.take b9 hp9
     have k9:=R8.tT b9
     exact ⟨w8,q8,_,rfl,R9,k9 _ _ hw8,k9 _ _ hq8,by rw [List.length_append,List.length_append,List.length_append];show ds.length+1+1+1<=_;omega⟩
   ·rintro σ' H' ⟨wm',am',ds',rfl,R',hwm',ham',hds'⟩
    refine ⟨_,rfl,_,rfl,_,_,rfl,rfl,?_⟩
    refine ⟨λ σ'' H''=>σ''=[some (.ref pt),some (.ref pr),some (.ref bn),some (.ref pl),some (.int ((st:Int)+(k8:Int))),some (.int (0+(i:Int))),some (.int sh),some (.int (k8:Int))]/\Same H' H'',?_,?_⟩
    ·refine ⟨_,rfl,_,rfl,_,_,rfl,rfl,_,rfl,?_⟩
     rw [decide_eq_false (show ¬ (k8:Int) > sh from by omega)]
     refine iteF ⟨_,rfl,_,rfl,_,_,rfl,rfl,_,rfl,ite2 (λ h=>?_) (λ h=>?_)⟩
     ·have h0:(k8:Int)<sh:=of_decide_eq_true h
      have hrest:fstI (rowsOf fs) r8=none:=hor8.resolve_left (by omega)
      obtain ⟨dx',hb'⟩:=R'.B.at_
      refine ⟨_,rfl,_,rfl,bn,dx',_,rfl,hb',rfl,bn,pr,hd,dl,_,_, "mine", wm',_,_,rfl,R'.B,val2 _ _,hwm',pr,am',xs,fs,r8,rfl,R'.hpr,R'.hf,by omega,ham',λ H'' s''=>?_⟩
      rw [hrest]
      exact ⟨rfl,_,rfl,iteF ⟨rfl,s''⟩⟩
     ·exact iteF ⟨rfl,Same.refl _⟩
    ·rintro σ'' H'' ⟨rfl,s''⟩
     have R'':=R'.same s''
     obtain ⟨dx',hb'⟩:=R''.B.at_
     refine ⟨_,rfl,bn,dx',_,rfl,hb',rfl,bn,pr,hd,dl,_,_, "other", _,rfl,R''.B,(by show 2<=100;decide),by omega,val2o _ _,λ t12 H12 kp12 _ B12=>?_⟩
     rw [drop2] at B12
     have k12:=R''.dT kp12
     refine ⟨st+k8,wm',am',r8,_,_,_,_,by rw [Int.natCast_add],R''.deed kp12 B12,k12 _ _ (s'' _ _ (by rw [Int.natCast_add];exact hwm')),k12 _ _ (s'' _ _ ham'),?_,by omega,by rw [List.length_append];show ds'.length+1<=_;omega⟩
     rw [goN_add,hgo]
     exact hg8
  ·rintro σ H2 ⟨st,wm,am,cur,ds,u5,u6,u7,rfl,R2,hwm2,ham2,hgo,hst,hdl⟩
   exact ⟨_,rfl,q st wm am cur ds H2 R2 hwm2 ham2 hgo (by omega)⟩
end
section
variable {P:Program} {w:World} {K:PySem.W.Frag} {mg:Str->Option Value} {base:Heap}
def sp_l_productL:Sp:=λ vs H Q _ => ∃ (b:Addr) (es:List Int),vs=[.ref b]/\H b=some (.lst (es.map V.int))/\es.length=10/\(∀ e∈es,0<=e/\e<2 ^ 62) /\ ∀ H',Same H H'->Q (.int (prod (es.map Int.toNat):Nat)) H'
theorem ok_l_productL (T:Tx K mg):FnOk P w K mg base CX0 2 T.f_l_product T.fd_l_product ["line"] sp_l_productL:=by
 refine T.D_l_product.fn.okQ sc_l_product (λ vs H Q E h=>?_) (λ cdv A outer s H vs Q E hr h=>?_)
 ·obtain ⟨b,es,rfl,_⟩:=h
  rfl
 ·obtain ⟨b,es,rfl,hb,he,hm,q⟩:=h
  refine ⟨_,(qss_cons (qs_set (i:=1) sc_l_product.nd rfl (Or.inl rfl) qe_int)
   (qss_cons (qs_for PassesOwn.never rfl (qi_zipM rfl rfl T.m_zip (qa_c (qe_call0 (ok_l_primes T) (hr.mono (by decide)) rfl T.D_l_primes.at_ T.D_l_primes.fn.kp T.D_l_primes.bd .nil pass0) (qa_c (qv 0) qa_nil))) (qg_tup rfl (qgs_cons (qg_name (i:=2) sc_l_product.nd rfl (Or.inl rfl)) (qgs_cons (qg_name (i:=3) sc_l_product.nd rfl (Or.inl rfl)) qgs_nil)))
    (qss_one (qs_for PassesOwn.never rfl (qi_range1 rfl T.m_range (qa_c (qv 3) qa_nil)) (qg_name (i:=4) sc_l_product.nd rfl (Or.inl rfl))
    (qss_one (qs_set (i:=1) sc_l_product.nd rfl (Or.inl rfl) (qe_op op_mul (qv 1) (qv 2)))))))
   (qss_one (qs_ret (qv 1))))),?_⟩
  refine ⟨rfl,λ t ht=>⟨_,rfl,t,b,rfl,⟨_,SqT.of upd_same⟩,⟨_,SqL.of ((Same.new ht) _ _ hb)⟩,?_⟩⟩
  have hpl:primesV.length=10:=rfl
  have hel:(es.map V.int).length=10:=by rw [List.length_map];exact he
  refine for_zipM (xs:=primesV) (ys:=es.map V.int) (λ i σ H2=>(∃ u v x:Option V,σ=[some (.ref b),some (.int (prodR (primes.take i) ((es.map Int.toNat).take i):Nat)),u,v,x])/\Same (upd H t (.tup primesV)) H2) ⟨⟨none,none,none,rfl⟩,Same.refl _⟩ ?_ ?_ ?_
  ·rintro i σ H2 hi ⟨_,s2⟩
   exact ⟨SqT.of (s2 _ _ upd_same),SqL.of (s2 _ _ ((Same.new ht) _ _ hb))⟩
  ·rintro i x y z σ H2 hx hy hz ⟨⟨u,v,x',rfl⟩,s2⟩
   obtain ⟨p,rfl,hp,hp30⟩:=primesV_get hx
   obtain ⟨e,rfl,hee⟩:=map_int_get hy
   obtain ⟨e0,e1⟩:=hm e (List.mem_of_getElem? hee)
   refine ⟨z,_,rfl,SqT.of upd_same,rfl,_,_,rfl,_,_,rfl,rfl,?_⟩
   refine ⟨_,rfl,e,rfl,by omega,e1,for_range (n:=e.toNat) (λ j σ H3=>(∃ x:Option V,σ=[some (.ref b),some (.int ((prodR (primes.take i) ((es.map Int.toNat).take i) * p ^ j:Nat):Int)),some (.int p),some (.int e),x])/\Same (upd H t (.tup primesV)) H3) ⟨⟨x',by rw [Nat.pow_zero,Nat.mul_one];rfl⟩,Same.more s2 hz⟩ ?_ ?_⟩
   ·rintro j σ H3 hj ⟨⟨x2,rfl⟩,s3⟩
    refine ⟨_,rfl,_,rfl,_,_,rfl,rfl,.inr ⟨by omega,by omega⟩,⟨some (.int (0+(j:Int))),?_⟩,s3⟩
    rw [Nat.pow_succ,<-Nat.mul_assoc,Int.natCast_mul _ p]
    rfl
   ·rintro σ H3 ⟨⟨x2,rfl⟩,s3⟩
    refine ⟨⟨some (.int p),some (.int e),x2,?_⟩,s3⟩
    have hee':(es.map Int.toNat)[i]?=some e.toNat:=by rw [List.getElem?_map,hee];rfl
    rw [prodR_snoc primes (es.map Int.toNat) i p e.toNat hp hee']
  ·rintro σ H2 ⟨⟨u,v,x,rfl⟩,s2⟩
   have e2:min primesV.length (es.map V.int).length=10:=by rw [hpl,hel];rfl
   refine ⟨_,rfl,?_⟩
   rw [e2]
   have z1:primes.take 10=primes:=rfl
   have z2:(es.map Int.toNat).take 10=es.map Int.toNat:=List.take_of_length_le (by rw [List.length_map,he];exact Nat.le_refl _)
   rw [z1,z2]
   exact q H2 ((Same.new ht).trans s2)
def SideV (H:Hp) (z:V):Prop := ∃ (l:Addr) (s:List Int),z=.ref l/\H l=some (.lst (s.map V.int))/\s.length=10/\(∀ e∈s,0<=e)/\(ups s).sum<=2
theorem ok_l_cp (T:Tx K mg):FnOk P w K mg base CX0 5 T.f_l_cp T.fd_l_cp ["pot", "places", "most"] sp_l_program:=by
 refine T.D_l_cp.fn.okQ sc_l_cp (λ vs H Q E h=>?_) (λ cdv A outer s H vs Q E hr h=>?_)
 ·obtain ⟨a,b,n,most,ns,rfl,_⟩:=h
  rfl
 ·obtain ⟨a,b,n,most,ns,rfl,ha,hb,hn1,hn2,hm,k1,k2,q⟩:=h
  refine ⟨_,(qss_cons (qs_set (i:=3) sc_l_cp.nd rfl (Or.inl rfl) (qe_cD (ok_l_program T) (hr.mono (by decide)) rfl T.D_l_program pass0 (qa_c (qv 0) (qa_c (qv 1) (qa_c (qv 2) qa_nil)))))
   (qss_cons (qs_if (qt_cmpR op_eq (qe_cD (ok_l_takeA T) (hr.mono (by decide)) rfl T.D_l_take pass0 (qa_c (qv 0) (qa_c qe_int qa_nil))) qe_int (nomark _))
    (qss_one (qs_ret (qv 3)))
    qss_nil)
   (qss_cons (qs_set (i:=4) sc_l_cp.nd rfl (Or.inl rfl) (qe_lstA qa_nil))
   (qss_cons (qs_for PassesOwn.never rfl (qi_range1 rfl T.m_range (qa_c (qe_op op_add qe_int (qe_cD (ok_l_takeA T) (hr.mono (by decide)) rfl T.D_l_take pass0 (qa_c (qv 0) (qa_c (qv 2) qa_nil)))) qa_nil)) (qg_name (i:=5) sc_l_cp.nd rfl (Or.inl rfl))
    (qss_cons (qs_set (i:=6) sc_l_cp.nd rfl (Or.inl rfl) (qe_lstA qa_nil))
   (qss_cons (qs_for PassesOwn.never rfl (qi_range1 rfl T.m_range (qa_c qe_int qa_nil)) (qg_name (i:=7) sc_l_cp.nd rfl (Or.inl rfl))
    (qss_cons (qs_set (i:=8) sc_l_cp.nd rfl (Or.inl rfl) (qe_op op_repLA (qe_lstA (qa_c qe_int qa_nil)) qe_int))
   (qss_cons (qs_for PassesOwn.never rfl (qi_range1 rfl T.m_range (qa_c (qe_op op_add qe_int (qe_cD (ok_l_takeA T) (hr.mono (by decide)) rfl T.D_l_take pass0 (qa_c (qv 0) (qa_c qe_int qa_nil)))) qa_nil)) (qg_name (i:=9) sc_l_cp.nd rfl (Or.inl rfl))
    (qss_one (qs_augI (qv 8) (qe_ix ix_tup (qv 1) (qe_cD (ok_l_takeA T) (hr.mono (by decide)) rfl T.D_l_take pass0 (qa_c (qv 0) (qa_c (qe_callB call_len_seq (by rfl) T.m_len b_len (qa_c (qv 1) qa_nil)) qa_nil))) (λ _ _=>rfl)) qe_int)))
   (qss_one (qs_expr (qe_bm PySem.F.plainAttrs_list PySem.F.slot_list_append PySem.F.type_list_append mt_appendA (qv 6) (qa_c (qv 8) qa_nil)))))))
   (qss_cons (qs_setC (i:=10) sc_l_cp.nd rfl (Or.inl rfl) (compOk_of (osc:=defScope s_l_cp) (XN:=["pot", "places", "most", "found", "some", "k", "sides", "turn", "line", "lap", "less", "top"]) (N:=["one", "other"]) (js:=[none,none]) rfl rfl rfl (List.forall_mem_nil _) (by decide +kernel) rfl) rfl (qi_zipL rfl rfl T.m_zip (qa_c (qe_ix ix_list (qv 6) qe_int (λ _ _=>rfl)) (qa_c (qe_ix ix_list (qv 6) qe_int (λ _ _=>rfl)) qa_nil))) (λ _ _ _ _=>(qg_tupN (K:=K) (n:=2) rfl rfl (qgs_cons (qg_name (i:=0) (show List.Nodup (["one", "other"]:List Str) from by decide +kernel) rfl (Or.inl rfl) (Or.inr rfl)) (qgs_cons (qg_name (i:=1) (show List.Nodup (["one", "other"]:List Str) from by decide +kernel) rfl (Or.inl rfl) (Or.inr rfl)) qgs_nil)))) (λ _ _ _ _=>qts_nil)
     (λ _ _ _ _=>(qe_callB (call_min2 rfl) (by rfl) T.m_min b_min (qa_c (qv 0) (qa_c (qv 1) qa_nil)))))
   (qss_cons (qs_set (i:=11) sc_l_cp.nd rfl (Or.inl rfl) (qe_cD (ok_l_productL T) (hr.mono (by decide)) rfl T.D_l_product pass0 (qa_c (qe_comp (compOk_of (osc:=defScope s_l_cp) (XN:=["pot", "places", "most", "found", "some", "k", "sides", "turn", "line", "lap", "less", "top"]) (N:=["one", "other"]) (js:=[none,none]) rfl rfl rfl (List.forall_mem_nil _) (by decide +kernel) rfl) rfl (qi_zipL rfl rfl T.m_zip (qa_c (qe_ix ix_list (qv 6) qe_int (λ _ _=>rfl)) (qa_c (qv 10) qa_nil))) (λ _ _ _ _=>(qg_tupN (K:=K) (n:=2) rfl rfl (qgs_cons (qg_name (i:=0) (show List.Nodup (["one", "other"]:List Str) from by decide +kernel) rfl (Or.inl rfl) (Or.inr rfl)) (qgs_cons (qg_name (i:=1) (show List.Nodup (["one", "other"]:List Str) from by decide +kernel) rfl (Or.inl rfl) (Or.inr rfl)) qgs_nil)))) (λ _ _ _ _=>qts_nil)
     (λ _ _ _ _=>(qe_op op_sub (qv 0) (qv 1)))) qa_nil)))
   (qss_one (qs_expr (qe_bm PySem.F.plainAttrs_list PySem.F.slot_list_append PySem.F.type_list_append mt_appendA (qv 4) (qa_c (qe_tupA (qa_c (qv 11) (qa_c (qe_cD (ok_l_productL T) (hr.mono (by decide)) rfl T.D_l_product pass0 (qa_c (qe_comp (compOk_of (osc:=defScope s_l_cp) (XN:=["pot", "places", "most", "found", "some", "k", "sides", "turn", "line", "lap", "less", "top"]) (N:=["one", "other"]) (js:=[none,none]) rfl rfl rfl (List.forall_mem_nil _) (by decide +kernel) rfl) rfl (qi_zipL rfl rfl T.m_zip (qa_c (qe_ix ix_list (qv 6) qe_int (λ _ _=>rfl)) (qa_c (qv 10) qa_nil))) (λ _ _ _ _=>(qg_tupN (K:=K) (n:=2) rfl rfl (qgs_cons (qg_name (i:=0) (show List.Nodup (["one", "other"]:List Str) from by decide +kernel) rfl (Or.inl rfl) (Or.inr rfl)) (qgs_cons (qg_name (i:=1) (show List.Nodup (["one", "other"]:List Str) from by decide +kernel) rfl (Or.inl rfl) (Or.inr rfl)) qgs_nil)))) (λ _ _ _ _=>qts_nil)
     (λ _ _ _ _=>(qe_op op_sub (qv 0) (qv 1)))) qa_nil)) qa_nil))) qa_nil)))))))))
   (qss_one (qs_ret (qe_callTy call_tuple_ofA (by rfl) T.m_tuple b_tuple (qa_c (qv 4) qa_nil)))))))),?_⟩
  have nab:b≠a:=ne_of hb ha (by intro z;cases z)
  refine ⟨_,rfl,_,rfl,_,rfl,a,b,n,most,ns,rfl,ha,hb,hn1,hn2,hm,k1,k2,λ p H1 n1 xs b1 ha1 hp1 x1 xl hfr=>?_⟩
  refine ⟨_,rfl,a,n1,3,rfl,ha1,by decide,by decide,λ r n2 H2 r0 rl b2 ha2=>⟨rfl,_,rfl,ite2 (λ h=>?_) (λ h=>?_)⟩⟩
  ·exact ⟨_,rfl,q p H2 n2 xs (b1.trans b2) ha2 (b2 _ _ (ne_of hp1 ha1 (by intro z;cases z)) hp1) x1 xl λ x hx=>FracAt.stay a n1 (hfr x hx) ha1 b2⟩
  refine ⟨(by show 0<=sizeLine;decide),λ sm H3 f3 s3 hsm3=>?_⟩
  have b3:But a H H3:=(b1.trans b2).trans (But.of s3)
  have fsm:H sm=none:=(b1.trans b2).free' ha2 f3
  have nsma:sm≠a:=λ z=>by rw [z,ha2] at f3;cases f3
  refine ⟨_,rfl,_,rfl,a,n2,most,rfl,s3 _ _ ha2,by omega,by omega,λ r' n4 H4 r0' rl' b4 ha4=>⟨_,_,rfl,rfl,_,rfl,by omega,by omega,?_⟩⟩
  refine for_range (n:=(1+r').toNat) (λ i σ H5 => ∃ (n5:Int) (ys:List V) (u5 u6 u7 u8 u9 u10 u11:Option V),σ=[some (.ref a),some (.ref b),some (.int most),some (.ref p),some (.ref sm),u5,u6,u7,u8,u9,u10,u11]/\But a H H5/\H5 a=some (.lst [.int n5])/\H5 sm=some (.lst ys)/\ys.length=i /\ ∀ y∈ys,FracAt H5 y)
   ⟨n4,[],none,none,none,none,none,none,none,rfl,b3.trans b4,ha4,b4 _ _ nsma hsm3,rfl,λ y hy=>absurd hy (by simp)⟩ ?_ ?_
  ·rintro i σ H5 hi ⟨n5,ys,u5,u6,u7,u8,u9,u10,u11,rfl,b5,ha5,hsm5,hyl,hfy⟩
   refine ⟨(by show 0<=sizeLine;decide),λ sd H6 f6 s6 hsd6=>?_⟩
   have nsda:sd≠a:=λ z=>by rw [z,ha5] at f6;cases f6
   have nsmd:sm≠sd:=λ z=>by rw [<-z,hsm5] at f6;cases f6
   refine ⟨2,rfl,by decide,by decide,for_range (n:=2) (λ j σ H7 => ∃ (n7:Int) (zs:List V) (v7 v8 v9:Option V),σ=[some (.ref a),some (.ref b),some (.int most),some (.ref p),some (.ref sm),some (.int (0+(i:Int))),some (.ref sd),v7,v8,v9,u10,u11]/\But2 a sd H6 H7/\H7 a=some (.lst [.int n7])/\H7 sd=some (.lst zs)/\zs.length=j /\ ∀ z∈zs,SideV H7 z)
    ⟨n5,[],_,_,_,rfl,λ c o _ _ e=>e,s6 _ _ ha5,hsd6,rfl,λ y hy=>absurd hy (by simp)⟩ ?_ ?_⟩
   ·rintro j σ H7 hj ⟨n7,zs,v7,v8,v9,rfl,b7,ha7,hsd7,hzl,hzs⟩
    refine ⟨(by show 1<=sizeLine;decide),λ l0 H8 f8 s8 h8=>⟨l0,10,_,rfl,rfl,h8,by decide,by decide,by decide,λ ln H9 f9 s9 h9=>?_⟩⟩
    have s79:=s8.trans s9
    have f79:H7 ln=none:=s8.free f9
    have nlna:ln≠a:=λ z=>by rw [z,ha7] at f79;cases f79
    have nlnd:ln≠sd:=λ z=>by rw [z,hsd7] at f79;cases f79
    refine ⟨_,rfl,a,n7,2,rfl,s79 _ _ ha7,by decide,by decide,λ r2 n10 H10 r20 r2l b10 ha10=>⟨_,_,rfl,rfl,_,rfl,by omega,by omega,?_⟩⟩
    have hln10:H10 ln=some (.lst ((List.replicate 10 (0:Int)).map V.int)):=b10 _ _ nlna h9
    have hb10:H10 b=some (.tup (ns.map V.int)):=by
     refine b10 _ _ nab (s79 _ _ (b7 _ _ nab ?_ (s6 _ _ (b5 _ _ nab hb))))
     exact λ z=>by rw [<-z] at hsd6;rw [s6 _ _ (b5 _ _ nab hb)] at hsd6;cases hsd6
    refine for_range (n:=(1+r2).toNat) (λ t σ H11 => ∃ (n11:Int) (es:List Int) (w9:Option V),σ=[some (.ref a),some (.ref b),some (.int most),some (.ref p),some (.ref sm),some (.int (0+(i:Int))),some (.ref sd),some (.int (0+(j:Int))),some (.ref ln),w9,u10,u11]/\But2 a ln H10 H11/\H11 a=some (.lst [.int n11])/\H11 ln=some (.lst (es.map V.int))/\es.length=10/\(∀ e∈es,0<=e)/\(ups es).sum<=t)
     ⟨n10,List.replicate 10 0,_,rfl,λ c o _ _ e=>e,ha10,hln10,rfl,by decide,by decide⟩ ?_ ?_
    ·rintro t σ H11 ht ⟨n11,es,w9,rfl,b11,ha11,hln11,hes,he0,heu⟩
     have nbl:b≠ln:=λ z=>by rw [<-z,hb10] at hln10;cases hln10
     have hb11:=b11 _ _ nab nbl hb10
     refine ⟨_,rfl,_,rfl,_,rfl,_,rfl,b,_,rfl,.inr (SqT.of hb11),a,n11,_,rfl,ha11,by rw [List.length_map];omega,by rw [List.length_map];omega,λ r3 n12 H12 r30 r3l b12 ha12=>?_⟩
     rw [List.length_map] at r3l
     have hr3:r3.toNat<ns.length:=by omega
     obtain ⟨pm0,pm1⟩:=hm _ (List.getElem_mem hr3)
     have hb12:=b12 _ _ nab hb11
     have hln12:=b12 _ _ nlna hln11
     have hpt:(ns[r3.toNat]).toNat<es.length:=by omega
     have hget:(es.map V.int)[(ns[r3.toNat]).toNat]?=some (.int es[(ns[r3.toNat]).toNat]):=by rw [List.getElem?_map,List.getElem?_eq_getElem hpt];rfl
     refine ⟨b,_,_,.int ns[r3.toNat],rfl,rfl,SqT.of hb12,atI_of r30 (by rw [List.getElem?_map,List.getElem?_eq_getElem hr3];rfl),?_⟩
     refine ⟨ln,_,_,_,rfl,rfl,hln12,pm0,hget,_,_,rfl,rfl,ln,_,_,_,rfl,rfl,hln12,ixN_of pm0 (by rw [List.length_map];omega),?_⟩
     refine ⟨n12,es.set (ns[r3.toNat]).toNat (es[(ns[r3.toNat]).toNat]+1),_,rfl,?_,?_,?_,?_,?_,?_⟩
     ·intro c o na nl e
      rw [upd_ne nl]
      exact b12 _ _ na (b11 _ _ na nl e)
     ·rw [upd_ne nlna.symm];exact ha12
     ·rw [upd_same,List.map_set]
     ·rw [List.length_set];exact hes
     ·intro e he
      rcases List.mem_or_eq_of_mem_set he with z | z
      ·exact he0 e z
      ·have:=he0 _ (List.getElem_mem hpt);omega
     ·have:=ups_up (List.getElem?_eq_getElem hpt);omega
    ·rintro σ H11 ⟨n11,es,w9,rfl,b11,ha11,hln11,hes,he0,heu⟩
     have hsd11:H11 sd=some (.lst zs):=b11 _ _ nsda nlnd.symm (b10 _ _ nsda (s79 _ _ hsd7))
     refine ⟨_,rfl,.inl ⟨rfl,_,SqL.of hsd11⟩,_,rfl,sd,_,_,rfl,rfl,hsd11,by rw [sizeLine_eq];omega,λ H12 b12 h12=>?_⟩
     have keep : ∀ c o,c≠a->c≠sd->H7 c=some o->H12 c=some o:=λ c o na nd e =>
      b12 _ _ nd (b11 _ _ na (λ z=>by rw [z,f79] at e;cases e) (b10 _ _ na (s79 _ _ e)))
     refine ⟨n11,zs++[.ref ln],_,_,_,rfl,λ c o na nd e=>keep c o na nd (b7 c o na nd e),b12 _ _ nsda.symm ha11,h12,by rw [List.length_append,hzl];rfl,λ z hz=>?_⟩
     rcases List.mem_append.mp hz with z' | z'
     ·obtain ⟨l,s',rfl,hl,r⟩:=hzs z z'
      refine ⟨l,s',rfl,keep l _ ?_ ?_ hl,r⟩
      ·intro y;rw [y,ha7] at hl
       have h10:=r.1
       have:(s'.map V.int).length=1:=by injection hl with z;injection z with z;rw [<-z];rfl
       rw [List.length_map] at this
       omega
      ·intro y;rw [y,hsd7] at hl
       have h10:=r.1
       have:(s'.map V.int).length=zs.length:=by injection hl with z;injection z with z;rw [<-z]
       rw [List.length_map,hzl] at this
       omega
     ·rw [List.mem_singleton] at z'
      subst z'
      exact ⟨ln,es,rfl,b12 _ _ nlnd hln11,hes,he0,by omega⟩
   ·rintro σ H7 ⟨n7,zs,v7,v8,v9,rfl,b7,ha7,hsd7,hzl,hzs⟩
    match zs,hzl with
    | [z0,z1],_ =>
     obtain ⟨l0,t0,rfl,hl0,t010,t0n,t0s⟩:=hzs z0 (by simp)
     obtain ⟨l1,t1,rfl,hl1,t110,t1n,t1s⟩:=hzs z1 (by simp)
     have hlm:(List.zipWith mn2 t0 t1).length=10:=by rw [List.length_zipWith,t010,t110];rfl
     refine ⟨_,rfl,sd,_,_,_,rfl,rfl,SqL.of hsd7,rfl,_,rfl,sd,_,_,_,rfl,rfl,SqL.of hsd7,rfl,l0,l1,_,_,rfl,hl0,hl1,λ D hD=>?_⟩
     refine comp_zipL_ints (K:=K) (f:=mn2) (σ0:=[]) (xs:=t0) (ys:=t1) (by rw [t010,t110,sizeLine_eq];decide) ⟨_,_,rfl⟩ hD hl0 hl1 (λ x y H' R _ _ r=>⟨_,rfl,_,rfl,_,_,rfl,r⟩) λ H8 s8 h8=>?_
     refine ⟨_,rfl,sd,_,_,_,rfl,rfl,SqL.of (s8 _ _ hsd7),rfl,_,rfl,l0,D,_,_,rfl,s8 _ _ hl0,h8,λ D2 hD2=>?_⟩
     refine comp_zipL_ints (K:=K) (f:=sb2) (σ0:=[]) (xs:=t0) (ys:=List.zipWith mn2 t0 t1) (by rw [t010,hlm,sizeLine_eq];decide) ⟨_,_,rfl⟩ hD2 (s8 _ _ hl0) h8 (λ x y H' R _ _ r=>⟨_,rfl,_,rfl,_,_,rfl,rfl,r⟩) λ H9 s9 h9=>?_
     have su:=Nat.le_trans (ups_sub t0 t1 t1n) t0s
     have sd':=Nat.le_trans (downs_sub t0 t1 t0n) t1s
     refine ⟨D2,_,rfl,h9,by rw [List.length_zipWith,t010,hlm];rfl,bnd_of (λ e he=>d0_mem he) (by rw [d0_eq];exact su) (by decide),λ HA sA=>?_⟩
     have s7A:=(s8.trans s9).trans sA
     have nsmd':sm≠a:=nsma
     have hsm7:H7 sm=some (.lst ys):=b7 _ _ nsma nsmd (s6 _ _ hsm5)
     refine ⟨_,rfl,.inl ⟨rfl,_,SqL.of (s7A _ _ hsm7)⟩,_,rfl,_,rfl,sd,_,_,_,rfl,rfl,SqL.of (s7A _ _ hsd7),rfl,_,rfl,l1,D,_,_,rfl,s7A _ _ hl1,sA _ _ (s9 _ _ h8),λ D3 hD3=>?_⟩
     refine comp_zipL_ints (K:=K) (f:=sb2) (σ0:=[]) (xs:=t1) (ys:=List.zipWith mn2 t0 t1) (by rw [t110,hlm,sizeLine_eq];decide) ⟨_,_,rfl⟩ hD3 (s7A _ _ hl1) (sA _ _ (s9 _ _ h8)) (λ x y H' R _ _ r=>⟨_,rfl,_,rfl,_,_,rfl,rfl,r⟩) λ HB sB hB=>?_
     refine ⟨D3,_,rfl,hB,by rw [List.length_zipWith,t110,hlm];rfl,bnd_of (λ e he=>d1_mem he) (by rw [d1_eq];exact sd') (by decide),λ HC sC=>?_⟩
     have s7C:=(s7A.trans sB).trans sC
     refine ⟨(by show 2<=sizeLine;decide),λ tp HD fD sD hD'=>?_⟩
     have s7D:=s7C.trans sD
     refine ⟨sm,ys,_,rfl,rfl,s7D _ _ hsm7,by rw [sizeLine_eq];omega,λ HE bE hE=>?_⟩
     rw [d0_eq,d1_eq] at hD'
     have keep : ∀ c o,c≠a->c≠sm->H5 c=some o->HE c=some o:=λ c o na nm e =>
      bE _ _ nm (s7D _ _ (b7 _ _ na (λ z=>by rw [z,f6] at e;cases e) (s6 _ _ e)))
     refine ⟨n7,ys++[.ref tp],_,_,_,_,_,_,_,rfl,λ c o na e=>keep c o na (λ z=>by rw [z,fsm] at e;cases e) (b5 c o na e),bE _ _ nsma.symm (s7D _ _ ha7),hE,by rw [List.length_append,hyl];rfl,λ y hy=>?_⟩
     rcases List.mem_append.mp hy with z' | z'
     ·obtain ⟨c,i',j',rfl,hc,f⟩:=hfy y z'
      exact ⟨c,i',j',rfl,keep _ _ (ne_of hc ha5 (by intro z;cases z)) (ne_of hc hsm5 (by intro z;cases z)) hc,f⟩
     ·rw [List.mem_singleton] at z'
      subst z'
      exact ⟨tp,_,_,rfl,bE _ _ (ne_of hD' (s7D _ _ hsm7) (by intro z;cases z)) hD',frac_of_row (by omega) (by omega)⟩
  ·rintro σ H5 ⟨n5,ys,u5,u6,u7,u8,u9,u10,u11,rfl,b5,ha5,hsm5,hyl,hfy⟩
   refine ⟨_,rfl,sm,ys,rfl,SqL.of hsm5,λ p' H6 f6 s6 h6=>?_⟩
   refine q p' H6 n5 ys (b5.trans (But.of s6)) (s6 _ _ ha5) h6 (by rw [hyl];omega) (by rw [hyl];omega) λ x hx=>?_
   obtain ⟨c,i',j',rfl,hc,f⟩:=hfy x hx
   exact ⟨c,i',j',rfl,s6 _ _ hc,f⟩
end
section
variable {P:Program} {w:World} {K:PySem.W.Frag} {mg:Str->Option Value} {base:Heap}
def e3 (b0 b1 b2:Bool):Nat->Bool
 | 0=>b0
 | 1=>b1
 | _=>b2
theorem eq3 {H:Hp} {x0 x1 x2 y0 y1 y2:V} {b0 b1 b2:Bool} (h0:EqV H x0 y0 b0) (h1:EqV H x1 y1 b1) (h2:EqV H x2 y2 b2) : ∀ (j:Nat) x y,[x0,x1,x2][j]?=some x->[y0,y1,y2][j]?=some y->EqV H x y (e3 b0 b1 b2 j):=λ j x y hx hy=>by
 match j,hx,hy with
 | 0,hx,hy=>cases hx;cases hy;exact h0
 | 1,hx,hy=>cases hx;cases hy;exact h1
 | 2,hx,hy=>cases hx;cases hy;exact h2
 | k+3,hx,hy=>cases hx
theorem str_ne {x y:Str} (h:x≠y):decide (V.str x=V.str y)=false:=decide_eq_false λ z=>by injection z with z;exact h z
theorem w1:("round" : Str) ≠ "rests" := by decide
def sp_l_later:Sp:=λ vs H Q _ => ∃ (v:V) (s:Nat) (o:FO),vs=[v,.int (s:Int)]/\FoV H v o/\o≠.open_/\(∀ n c,o=.rests n c->s<=n) /\ ∀ v' H',Same H H'->FoV H' v' (laterO s o)->Q v' H'
theorem ok_l_later (T:Tx K mg):FnOk P w K mg base CX0 1 T.f_l_later T.fd_l_later ["due", "steps"] sp_l_later:=by
 refine T.D_l_later.fn.okQ sc_l_later (λ vs H Q E h=>?_) (λ cdv A outer s H vs Q E hr h=>?_)
 ·obtain ⟨v,s,o,rfl,_⟩:=h
  rfl
 ·obtain ⟨v,n,o,rfl,hV,ho,hs,q⟩:=h
  refine ⟨_,(qss_cons (qs_if (qt_cmpR op_eq (qe_ix ix_tup (qv 0) qe_int (λ _ _=>rfl)) qe_str (nomark _))
    (qss_one (qs_ret (qe_tupA (qa_c qe_str (qa_c (qe_op op_sub (qe_ix ix_tup (qv 0) qe_int (λ _ _=>rfl)) (qv 1)) (qa_c (qe_ix ix_tup (qv 0) qe_int (λ _ _=>rfl)) qa_nil))))))
    qss_nil)
   (qss_cons (qs_if (qt_cmpR op_eq (qe_ix ix_tup (qv 0) qe_int (λ _ _=>rfl)) qe_str (nomark _))
    (qss_one (qs_ret (qe_tupA (qa_c qe_str (qa_c (qe_callB (call_max2 rfl) (by rfl) T.m_max b_max (qa_c qe_int (qa_c (qe_op op_sub (qe_ix ix_tup (qv 0) qe_int (λ _ _=>rfl)) (qv 1)) qa_nil))) (qa_c (qe_ix ix_tup (qv 0) qe_int (λ _ _=>rfl)) qa_nil))))))
    qss_nil)
   (qss_one (qs_ret (qv 0))))),?_⟩
  cases o with
  | open_=>exact absurd rfl ho
  | rests k c =>
   obtain ⟨a,d,rfl,ha,hd⟩:=hV
   have hk:=hs k c rfl
   refine ⟨_,rfl,a,_,_,_,rfl,rfl,SqT.of ha,rfl,rfl,_,rfl,?_⟩
   rw [decide_eq_true rfl]
   refine iteT ⟨_,rfl,a,_,_,_,rfl,rfl,SqT.of ha,rfl,_,rfl,_,_,rfl,rfl,_,rfl,a,_,_,_,rfl,rfl,SqT.of ha,rfl,(by show 3<=sizeLine;decide),λ t H1 f1 s1 h1=>?_⟩
   refine q (.ref t) H1 s1 ⟨t,d,rfl,?_,s1 _ _ hd⟩
   rw [h1]
   show some (HO.tup [_,V.int ((k:Int) - (n:Int)),_])=_
   rw [show (k:Int) - (n:Int)=((k - n:Nat):Int) by omega]
  | round b l =>
   obtain ⟨a,rfl,ha⟩:=hV
   refine ⟨_,rfl,a,_,_,_,rfl,rfl,SqT.of ha,rfl,rfl,_,rfl,?_⟩
   rw [str_ne w1]
   refine iteF ⟨_,rfl,a,_,_,_,rfl,rfl,SqT.of ha,rfl,rfl,_,rfl,?_⟩
   rw [decide_eq_true rfl]
   refine iteT ⟨_,rfl,a,_,_,_,rfl,rfl,SqT.of ha,rfl,_,rfl,_,_,rfl,rfl,_,_,rfl,_,rfl,a,_,_,_,rfl,rfl,SqT.of ha,rfl,(by show 3<=sizeLine;decide),λ t H1 f1 s1 h1=>?_⟩
   refine q (.ref t) H1 s1 ⟨t,rfl,?_⟩
   rw [h1]
   show some (HO.tup [_,V.int (if (b:Int) - (n:Int) > 0 then (b:Int) - (n:Int) else 0),_])=_
   rw [show (if (b:Int) - (n:Int) > 0 then (b:Int) - (n:Int) else 0)=((b - n:Nat):Int) by split<;>omega]
def isO:FO->Bool
 | .open_=>true
 | _=>false
theorem open_ne {H:Hp} {v:V} {o:FO} {t:Addr} (hV:FoV H v o) (ht:H t=some (.tup [.str "open"])) : ∃ (a b:Addr) (xs ys:List V) (e:Nat->Bool),v=.ref a/\V.ref t=.ref b/\H a=some (.tup xs)/\H b=some (.tup ys)/\(∀ (j:Nat) x y,xs[j]?=some x->ys[j]?=some y->EqV H x y (e j))/\(!((List.range (min xs.length ys.length)).all e&&xs.length == ys.length)) = !isO o:=by
 have one : ∀ {xs:List V} {s:Str},xs[0]?=some (.str s) -> ∀ (j:Nat) x y,xs[j]?=some x->[V.str "open"][j]?=some y->EqV H x y (e3 (s == "open") true true j):=λ {xs s} h0 j x y hx hy=>by
  cases j with
  | zero=>rw [h0] at hx;cases hx;cases hy;exact .str _ _
  | succ j=>cases hy
 cases o with
 | round b l=>obtain ⟨a,rfl,ha⟩:=hV;exact ⟨a,t,_,_,_,rfl,rfl,ha,ht,one rfl,rfl⟩
 | rests n c=>obtain ⟨a,d,rfl,ha,hd⟩:=hV;exact ⟨a,t,_,_,_,rfl,rfl,ha,ht,one rfl,rfl⟩
 | open_=>obtain ⟨a,rfl,ha⟩:=hV;exact ⟨a,t,_,_,_,rfl,rfl,ha,ht,one rfl,rfl⟩
theorem same_ne {H:Hp} {v v':V} {o:FO} (hV:FoV H v o) (hV':FoV H v' o) (ho:o≠.open_) : ∃ (a b:Addr) (xs ys:List V) (e:Nat->Bool),v=.ref a/\v'=.ref b/\H a=some (.tup xs)/\H b=some (.tup ys)/\(∀ (j:Nat) x y,xs[j]?=some x->ys[j]?=some y->EqV H x y (e j))/\(!((List.range (min xs.length ys.length)).all e&&xs.length == ys.length))=false:=by
 cases o with
 | open_=>exact absurd rfl ho
 | round b l =>
  obtain ⟨a,rfl,ha⟩:=hV
  obtain ⟨a',rfl,ha'⟩:=hV'
  refine ⟨a,a',_,_,_,rfl,rfl,ha,ha',eq3 (.str _ _) (.int _ _) (.int _ _),?_⟩
  show (!((true&&(((b:Int) == (b:Int))&&(((l:Int) == (l:Int))&&true)))&&true))=false
  simp
 | rests n c =>
  obtain ⟨a,d,rfl,ha,hd⟩:=hV
  obtain ⟨a',d',rfl,ha',hd'⟩:=hV'
  refine ⟨a,a',_,_,_,rfl,rfl,ha,ha',eq3 (.str _ _) (.int _ _) (.row hd hd'),?_⟩
  show (!((true&&(((n:Int) == (n:Int))&&(decide (c=c)&&true)))&&true))=false
  simp
end
theorem SqL.sm {K:PySem.W.Frag} {H H':Hp} {a:Addr} {xs:List V} (hS:SqL K H a xs) (s:Same H H'):SqL K H' a xs:=by
 rcases hS with (h | ⟨u,h⟩) | h
 ·exact .inl (.inl (s _ _ h))
 ·exact .inl (.inr ⟨u,s _ _ h⟩)
 ·exact .inr h
theorem frac_at {H:Hp} {xs:List V} {fs:List (Int×Int)} (h:FrcsV H xs fs) : ∀ x∈xs,FracAt H x:=λ x hx=>by
 obtain ⟨k,hk⟩:=List.getElem?_of_mem hx
 obtain ⟨i,j,c,_,e,hc,f⟩:=h.2 k x hk
 exact ⟨c,i,j,e,hc,f⟩
section
variable {P:Program} {w:World} {K:PySem.W.Frag} {mg:Str->Option Value} {base:Heap}
theorem ok_leapF (T:Tx K mg):FnOk P w K mg base (CXE P w) 5 T.f_leap T.fd_leap ["program", "powers", "many"] sp_leapQ:=(okH_leap T).fn
abbrev kLaw:Nat:=10
def sp_law (K:PySem.W.Frag):Sp:=λ vs H Q _ => ∃ (a:Addr) (ns:List Int),vs=[.ref a]/\SqL K H a (ns.map V.int)/\ns.length<=63 /\ ∀ H',Q (.bl true) H'
theorem ok_law (T:Tx K mg) {f:Addr} {fd:FuncData} (F:Fun K "law" "law" s_law f fd):FnOk P w K mg base CX0 kLaw f fd ["script"] (sp_law K):=by
 refine F.okQ sc_law (λ vs H Q E h=>?_) (λ cdv A outer s H vs Q E hr h=>?_)
 ·obtain ⟨a,ns,rfl,_⟩:=h
  rfl
 ·obtain ⟨a,ns,rfl,hS,hlen,q⟩:=h
  refine ⟨_,(qss_cons (qs_for PassesOwn.never rfl (qi_range1 rfl T.m_range (qa_c (qe_callB (call_max2 rfl) (by rfl) T.m_max b_max (qa_c qe_int (qa_c (qe_callB (call_min2 rfl) (by rfl) T.m_min b_min (qa_c (qe_callB call_len_seq (by rfl) T.m_len b_len (qa_c (qv 0) qa_nil)) (qa_c qe_int qa_nil))) qa_nil))) qa_nil)) (qg_name (i:=1) sc_law.nd rfl (Or.inl rfl))
    (qss_cons (qs_set (i:=2) sc_law.nd rfl (Or.inl rfl) (qe_cD (ok_l_pot T) (hr.mono (by decide)) rfl T.D_l_pot pass0 (qa_c (qe_cD (ok_l_cell_at T) (hr.mono (by decide)) rfl T.D_l_cell_at pass0 (qa_c (qv 0) (qa_c (qv 1) qa_nil))) qa_nil)))
   (qss_cons (qs_set (i:=3) sc_law.nd rfl (Or.inl rfl) (qe_cD (ok_l_places T) (hr.mono (by decide)) rfl T.D_l_places pass0 (qa_c (qv 2) qa_nil)))
   (qss_cons (qs_set (i:=4) sc_law.nd rfl (Or.inl rfl) (qe_cD (ok_l_cp T) (hr.mono (by decide)) rfl T.D_l_cp pass0 (qa_c (qv 2) (qa_c (qv 3) (qa_c qe_int qa_nil)))))
   (qss_cons (qs_set (i:=5) sc_law.nd rfl (Or.inl rfl) (qe_cD (ok_l_line T) (hr.mono (by decide)) rfl T.D_l_line pass0 (qa_c (qv 2) (qa_c (qv 3) (qa_c qe_int qa_nil)))))
   (qss_cons (qs_set (i:=6) sc_law.nd rfl (Or.inl rfl) (qe_make T.D_Binit.mks (ok_Binit T) (hr.mono (by decide)) rfl T.k_Bench T.D_Binit.bd .nil pass0 (qa_c (qv 4) qa_nil)))
   (qss_cons (qs_expr (qe_meth (qv 6) T.P_Bench T.D_Bput.me (ok_Bput T) (hr.mono (by decide)) T.D_Bput.bd .nil pass0 (qa_c qe_str (qa_c (qv 5) qa_nil))))
   (qss_cons (qs_set (i:=7) sc_law.nd rfl (Or.inl rfl) (qe_cD (ok_l_runs T) (hr.mono (by decide)) rfl T.D_l_runs pass0 (qa_c (qv 2) (qa_c (qv 4) (qa_c (qv 6) (qa_c (qv 3) qa_nil))))))
   (qss_cons (qs_if (QW.pt (qw_or (qt_cmpR op_isN (qv 7) qe_non (nomark _)) (qw_or (qt_cmpR op_ne (qe_meth (qv 6) T.P_Bench T.D_Bgone.me (ok_Bgone T) (hr.mono (by decide)) T.D_Bgone.bd .nil pass0 (qa_c qe_str qa_nil)) (qv 7) (nomark _)) (qw_or1 (qt_cmpR (op_neLS (hu_of hr)) (qe_meth0 (qv 6) T.P_Bench T.D_Bnames.me (ok_Bnames T) (hr.mono (by decide)) T.D_Bnames.bd .nil pass0) (qe_lstA (qa_c qe_str qa_nil)) (nomark _))))))
    (qss_one (qs_ret qe_bl))
    qss_nil)
   (qss_cons (qs_set (i:=8) sc_law.nd rfl (Or.inl rfl) (qe_cD (ok_after T) (hr.mono (by decide)) rfl T.D_after pass0 (qa_c (qv 4) (qa_c (qv 5) (qa_c (qv 7) qa_nil)))))
   (qss_cons (qs_if (QW.pt (qw_or (qt_cmpR (op_neT (hu_of hr)) (qe_meth (qv 6) T.P_Bench T.D_Bpowers.me (ok_Bpowers T) (hr.mono (by decide)) T.D_Bpowers.bd .nil pass0 (qa_c qe_str qa_nil)) (qv 8) (nomark _)) (qw_or1 (qt_cmpR (op_neT (hu_of hr)) (qe_cD (ok_leapF T) (hr.mono (by decide)) rfl T.D_leap passF (qa_c (qv 4) (qa_c (qv 5) (qa_c (qv 7) qa_nil)))) (qv 8) (nomark _)))))
    (qss_one (qs_ret qe_bl))
    qss_nil)
   (qss_cons (qs_set (i:=9) sc_law.nd rfl (Or.inl rfl) (qe_cD (ok_fate T) (hr.mono (by decide)) rfl T.D_fate pass0 (qa_c (qv 4) (qa_c (qv 5) (qa_c qe_int qa_nil)))))
   (qss_one (qs_if (QW.pt (qw_and (qt_cmpR (op_neV (hu_of hr)) (qv 9) (qe_tupA (qa_c qe_str qa_nil)) (nomark _)) (qw_and1 (qt_cmpR (op_neV (hu_of hr)) (qe_cD (ok_fate T) (hr.mono (by decide)) rfl T.D_fate pass0 (qa_c (qv 4) (qa_c (qv 8) (qa_c qe_int qa_nil)))) (qe_cD (ok_l_later T) (hr.mono (by decide)) rfl T.D_l_later pass0 (qa_c (qv 9) (qa_c (qv 7) qa_nil))) (nomark _)))))
    (qss_one (qs_ret qe_bl))
    qss_nil))))))))))))))
   (qss_one (qs_ret qe_bl))),?_⟩
  refine ⟨_,rfl,a,_,rfl,.inl hS,_,_,rfl,_,_,rfl,?_⟩
  generalize hm:(if (if (6:Int)<((ns.map V.int).length:Int) then (6:Int) else ((ns.map V.int).length:Int)) > 1 then (if (6:Int)<((ns.map V.int).length:Int) then (6:Int) else ((ns.map V.int).length:Int)) else 1)=m
  have hm1:0<=m/\m<=6:=by
   rw [<-hm]
   split<;>split<;>omega
  refine ⟨m,rfl,by omega,by omega,for_range (n:=m.toNat) (λ i σ H2=>(∃ u1 u2 u3 u4 u5 u6 u7 u8 u9:Option V,σ=[some (.ref a),u1,u2,u3,u4,u5,u6,u7,u8,u9])/\SqL K H2 a (ns.map V.int)) ⟨⟨none,none,none,none,none,none,none,none,none,rfl⟩,hS⟩ ?_ ?_⟩
  ·rintro i σ H2 hi ⟨⟨u1,u2,u3,u4,u5,u6,u7,u8,u9,rfl⟩,hS2⟩
   refine ⟨_,rfl,_,rfl,a,ns,_,rfl,hS2,by omega,λ c=>⟨c,rfl,λ n pt hpt=>?_⟩⟩
   refine ⟨_,rfl,pt,n,rfl,upd_same,λ pl H3 n3 ps b3 ha3 hp3 l1 l5 hm=>?_⟩
   refine ⟨_,rfl,_,rfl,pt,pl,n3,8,ps,rfl,ha3,hp3,l1,by omega,hm,by decide,by decide,λ pr H4 n4 xs b4 ha4 hpr x1 x10 hfr=>?_⟩
   have nplt:pl≠pt:=ne_of hp3 ha3 (by intro z;cases z)
   obtain ⟨fs,hfs4⟩:=frcs_of hfr
   have hx10:xs.length<=8:=by omega
   have nprt:pr≠pt:=ne_of hpr ha4 (by intro z;cases z)
   refine ⟨_,rfl,_,rfl,pt,pl,n4,8,ps,rfl,ha4,b4 _ _ nplt hp3,by omega,hm,by decide,by decide,λ ln H5 n5 es b5 ha5 hln hl10 hes=>?_⟩
   have hnn:nn es=true:=nn_iff.mpr λ e he=>(hes e he).1
   have hpr5:H5 pr=some (.tup xs):=b5 _ _ nprt hpr
   have hfs5:FrcsV H5 xs fs:=hfs4.but ha4 b5
   have hpl5:H5 pl=some (.tup (ps.map V.int)):=b5 _ _ nplt (b4 _ _ nplt hp3)
   have hB:=(b3.trans b4).trans b5
   have S5:Same H2 H5:=λ c' o e=>hB c' o (ne_of_none e hpt) (by rw [upd_ne (ne_of_none e hpt)];exact e)
   refine ⟨_,rfl,λ bn dxx fb fd nd=>?_⟩
   have Sn:Same H5 (upd (upd H5 dxx (.own bn)) bn (.ins T.c_Bench dxx [])):=λ c' o e=>by
    rw [upd_ne (ne_of_none e fb),upd_ne (ne_of_none e fd)]
    exact e
   refine ⟨bn,dxx,pr,xs,rfl,upd_same,Sn _ _ hpr5,x1,by omega,frac_at (hfs5.same Sn),λ hd dl H6 b6 fhd fdl B6=>⟨rfl,?_⟩⟩
   have S6:Same H5 H6:=λ c' o e=>b6 _ _ (ne_of_none e fb) (Sn _ _ e)
   have npd:pt≠dl:=ne_of_none (Sn _ _ ha5) fdl
   have nh : ∀ {c':Addr} {o:HO},H5 c'=some o->c'≠hd/\c'≠dl:=λ {c' o} e=>⟨ne_of_none (Sn _ _ e) fhd,ne_of_none (Sn _ _ e) fdl⟩
   have R6:Rn T pt pl pr bn hd dl xs fs ps H6 H6 [] []:=⟨⟨_,S6 _ _ ha5⟩,npd,S6 _ _ hpl5,S6 _ _ hpr5,hfs5.same S6,B6,λ _ _ _ _ _ e=>e⟩
   obtain ⟨dx6,hb6⟩:=B6.at_
   refine ⟨_,rfl,bn,dx6,_,rfl,hb6,rfl,_,rfl,bn,pr,hd,dl,ln,[],[], "mine", es,rfl,B6,(by show 0<12;decide),(by show 0<=1000;decide),nmM,S6 _ _ hln,hl10,λ e he=>⟨(hes e he).1,by have:=(hes e he).2;omega⟩,λ t7 wm H7 kp7 hwm7 ht7 B7=>?_⟩
   rw [put0] at B7
   have R7:=R6.deed kp7 B7
   have k7:=R6.dT kp7
   have R7':Rn T pt pl pr bn hd dl xs fs ps H7 H7 [(kM,.ref wm)] ([]++[.ref t7]):=⟨R7.pot,R7.npd,R7.hpl,R7.hpr,R7.hf,R7.B,λ _ _ _ _ _ e=>e⟩
   have hln7:H7 ln=some (tupI es):=k7 _ _ (S6 _ _ hln)
   refine ⟨_,rfl,_,rfl,_,rfl,_,rfl,pt,pl,pr,bn,hd,dl,wm,ln,xs,fs,ps,es,_,rfl,R7',hwm7,hln7,hl10,hnn,by omega,by omega,hm,(by show 1<=2;decide),λ st wm' am' cur ds' H8 R8 hwm8 ham8 hgo hst=>?_⟩
   obtain ⟨n7,hp7⟩:=R7.pot
   have hln8:H8 ln=some (tupI es):=R8.old _ _ (ne_of hln7 hp7 (by intro z;cases z)) (ne_of hln7 R7.B.hd (by intro z;cases z)) (ne_of hln7 R7.B.dl (by intro z;cases z)) hln7
   have S8:Same H2 H8:=λ c' o e=>by
    have e5:=S5 _ _ e
    have nn':=nh e5
    exact R8.old _ _ (ne_of_none e hpt) nn'.1 nn'.2 (kp7 _ _ nn'.1 nn'.2 (S6 _ _ e5))
   obtain ⟨dx8,hb8⟩:=R8.B.at_
   refine ⟨_,rfl,rfl,_,rfl,iteF ⟨_,rfl,bn,dx8,_,rfl,hb8,rfl,bn,pr,hd,dl,_,_, "mine", wm',_,_,rfl,R8.B,val1 _,hwm8,_,rfl,rfl,_,rfl,?_⟩⟩
   rw [decide_eq_true rfl]
   refine iteF ⟨_,rfl,bn,dx8,_,rfl,hb8,rfl,bn,pr,hd,dl,_,_,["mine"],rfl,R8.B,rfl,(by show 1<64;decide),λ ms pm so l H9 f9 s9 hl9=>⟨(by show 1<=sizeLine;decide),λ l2 H10 f10 s10 hl10'=>?_⟩⟩
   obtain rfl:=List.perm_singleton.mp pm
   refine ⟨l,l2,[V.str "mine"],rfl,rfl,s10 _ _ hl9,hl10',(by intro x hx;rw [List.mem_singleton.mp hx];rfl),_,rfl,iteF ?_⟩
   have s810:=s9.trans s10
   have R10:=R8.same s810
   refine ⟨_,rfl,_,rfl,_,rfl,pr,ln,xs,fs,es,cur,(st:Int),rfl,R10.hpr,R10.hf,by omega,s810 _ _ hln8,hl10,hnn,by omega,by omega,by rw [Int.toNat_natCast];exact hgo,λ rw' H11 s11 hrw=>?_⟩
   have R11:=R10.same s11
   have s811:=s810.trans s11
   obtain ⟨dx11,hb11⟩:=R11.B.at_
   refine ⟨_,rfl,bn,dx11,_,rfl,hb11,rfl,bn,pr,hd,dl,_,_, "mine", wm',_,_,rfl,R11.B,val1 _,s811 _ _ hwm8,_,rfl,am',rw',cur,cur,rfl,rfl,s811 _ _ ham8,hrw,_,rfl,?_⟩
   rw [decide_eq_true rfl]
   refine iteF ⟨_,rfl,_,rfl,_,rfl,pr,ln,xs,fs,es,cur,(st:Int),rfl,R11.hpr,R11.hf,by omega,s811 _ _ hln8,hl10,hnn,by omega,by omega,by rw [Int.toNat_natCast];exact hgo,λ q' H12 s12 hq'=>⟨_,rfl,q',rw',cur,cur,rfl,rfl,hq',s12 _ _ hrw,_,rfl,?_⟩⟩
   rw [decide_eq_true rfl]
   refine iteF ?_
   have s812:=s811.trans s12
   have R12:=R11.same s12
   have hcur:=goN_ok (rowsOf_10 fs) hl10 hnn hgo
   refine ⟨_,rfl,_,rfl,pr,ln,xs,fs,es,300,rfl,R12.hpr,R12.hf,by omega,s812 _ _ hln8,hl10,hnn,by decide,by decide,λ dv H13 o s13 hF hV=>?_⟩
   refine ⟨_,rfl,(by show 1<=sizeLine;decide),λ t H14 f14 s14 ht=>?_⟩
   obtain ⟨y1,y2,y3,y4,y5,e1,e2,e3',e4,e5,e6⟩:=open_ne (hV.same s14) ht
   refine ⟨y1,y2,y3,y4,y5,e1,e2,e3',e4,e5,_,rfl,?_⟩
   rw [e6]
   have s814:=(s812.trans s13).trans s14
   by_cases ho:o=.open_
   ·subst ho
    exact iteF (iteF ⟨⟨_,_,_,_,_,_,_,_,_,rfl⟩,SqL.sm hS2 (S8.trans s814)⟩)
   ·rw [show (!isO o)=true by cases o<;>first | rfl | exact absurd rfl ho]
    have R14:=(R12.same s13).same s14
    refine iteT ⟨_,rfl,_,rfl,pr,rw',xs,fs,cur,300,rfl,R14.hpr,R14.hf,by omega,s14 _ _ (s13 _ _ (s12 _ _ hrw)),hcur.1,hcur.2,by decide,by decide,λ v2 H15 o2 s15 hF2 hV15=>?_⟩
    obtain ⟨hFl,hsn⟩:=fate_later hgo ho hF
    obtain rfl:=hF2.uniq hFl
    have hV15':=(hV.same s14).same s15
    refine ⟨_,rfl,_,rfl,dv,st,o,rfl,hV15',ho,hsn,λ v3 H16 s16 hV16=>?_⟩
    have hlo:laterO st o≠.open_:=by cases o<;>first | exact absurd rfl ho | (intro z;cases z)
    obtain ⟨z1,z2,z3,z4,z5,g1,g2,g3,g4,g5,g6⟩:=same_ne (hV15.same s16) hV16 hlo
    refine ⟨z1,z2,z3,z4,z5,g1,g2,g3,g4,g5,_,rfl,?_⟩
    rw [g6]
    exact iteF ⟨⟨_,_,_,_,_,_,_,_,_,rfl⟩,SqL.sm hS2 ((S8.trans s814).trans (s15.trans s16))⟩
  ·rintro σ H2 ⟨_,hS2⟩
   exact q H2
end
theorem all_mk {l:W.OpenLaw} {w:World} {K:W.Frag} {h:Heap} {mg:Str->Option Value} {fa f0 f1 f2 f3 f4 f5 f6 f7 f8 f9 f10 f11 f12 f13 f14 f15 f16 f17 f18 f19 f20 f21 f22 f23 f24 f25 f26 f27 f28 f29 f30 f31 f32 f33 f34 f35 h_FractError h_A h_NoNumber h_TooMany h_NoProgram h_NoPowers h_NoName h_NoDeed h_Bench fi_A N_A fi_Binit fi_Bput fi_Brun fi_Bdrop fi_Bundo fi_Bnames fi_Bpowers fi_Bgone fi_Bheld_by fi_Bdone fi_Bhold:Addr} (X:K.In h) (G:h.Ns mainGlobals mg) (hfa:mg "law" = some (.ref fa))
  {od0 an0 od1 an1 od2 an2 od3 an3 od4 an4 od5 an5 od6 an6 od7 an7 od8 an8 od9 an9 od10 an10 od11 an11 od12 an12 od13 an13 od14 an14 od15 an15 od16 an16 od17 an17 od18 an18 od19 an19 od20 an20 od21 an21 od22 an22 od23 an23 od24 an24 od25 an25 od26 an26 od27 an27 od28 an28 od29 an29 od30 an30 od31 an31 od32 an32 od33 an33 od34 an34 od35 an35:Option Addr} {sl0 sl1 sl2 sl3 sl4 sl5 sl6 sl7 sl8 sl9 sl10 sl11 sl12 sl13 sl14 sl15 sl16 sl17 sl18 sl19 sl20 sl21 sl22 sl23 sl24 sl25 sl26 sl27 sl28 sl29 sl30 sl31 sl32 sl33 sl34 sl35:Array (Option Value)} {oc0 kV0 dc0 pm0 cd0 ct0 oc1 kV1 dc1 pm1 cd1 ct1 oc2 kV2 dc2 pm2 cd2 ct2 oc3 kV3 dc3 pm3 cd3 ct3 oc4 kV4 dc4 pm4 cd4 ct4 oc5 kV5 dc5 pm5 cd5 ct5 oc6 kV6 dc6 pm6 cd6 ct6 oc7 kV7 dc7 pm7 cd7 ct7 oc8 kV8 dc8 pm8 cd8 ct8 oc9 kV9 dc9 pm9 cd9 ct9 oc10 kV10 dc10 pm10 cd10 ct10 oc11 kV11 dc11 pm11 cd11 ct11 oc12 kV12 dc12 pm12 cd12 ct12 oc13 kV13 dc13 pm13 cd13 ct13 oc14 kV14 dc14 pm14 cd14 ct14 oc15 kV15 dc15 pm15 cd15 ct15 oc16 kV16 dc16 pm16 cd16 ct16 oc17 kV17 dc17 pm17 cd17 ct17 oc18 kV18 dc18 pm18 cd18 ct18 oc19 kV19 dc19 pm19 cd19 ct19 oc20 kV20 dc20 pm20 cd20 ct20 oc21 kV21 dc21 pm21 cd21 ct21 oc22 kV22 dc22 pm22 cd22 ct22 oc23 kV23 dc23 pm23 cd23 ct23 oc24 kV24 dc24 pm24 cd24 ct24 oc25 kV25 dc25 pm25 cd25 ct25 oc26 kV26 dc26 pm26 cd26 ct26 oc27 kV27 dc27 pm27 cd27 ct27 oc28 kV28 dc28 pm28 cd28 ct28 oc29 kV29 dc29 pm29 cd29 ct29 oc30 kV30 dc30 pm30 cd30 ct30 oc31 kV31 dc31 pm31 cd31 ct31 oc32 kV32 dc32 pm32 cd32 ct32 oc33 kV33 dc33 pm33 cd33 ct33 oc34 kV34 dc34 pm34 cd34 ct34 oc35 kV35 dc35 pm35 cd35 ct35:Value}
  {nm_A qq_A:Str} {bs_A:List Value} {sn_A:List Str} {sub_A:List Value} {ab_A:Bool} {col_A:Option Bool} {dd_A od_A an_A:Option Addr} {kk0_A kk1_A kk2_A kk3_A kk5_A:Option Value} {kV_A dc_A pm_A cd_A ct_A:Value} {sl_A:Array (Option Value)}
  {od_Binit an_Binit:Option Addr} {kV_Binit dc_Binit pm_Binit cd_Binit ct_Binit:Value} {sl_Binit:Array (Option Value)}
  {od_Bput an_Bput:Option Addr} {kV_Bput dc_Bput pm_Bput cd_Bput ct_Bput:Value} {sl_Bput:Array (Option Value)}
  {od_Brun an_Brun:Option Addr} {kV_Brun dc_Brun pm_Brun cd_Brun ct_Brun:Value} {sl_Brun:Array (Option Value)}
  {od_Bdrop an_Bdrop:Option Addr} {kV_Bdrop dc_Bdrop pm_Bdrop cd_Bdrop ct_Bdrop:Value} {sl_Bdrop:Array (Option Value)}
  {od_Bundo an_Bundo:Option Addr} {kV_Bundo dc_Bundo pm_Bundo cd_Bundo ct_Bundo:Value} {sl_Bundo:Array (Option Value)}
  {od_Bnames an_Bnames:Option Addr} {kV_Bnames dc_Bnames pm_Bnames cd_Bnames ct_Bnames:Value} {sl_Bnames:Array (Option Value)}
  {od_Bpowers an_Bpowers:Option Addr} {kV_Bpowers dc_Bpowers pm_Bpowers cd_Bpowers ct_Bpowers:Value} {sl_Bpowers:Array (Option Value)}
  {od_Bgone an_Bgone:Option Addr} {kV_Bgone dc_Bgone pm_Bgone cd_Bgone ct_Bgone:Value} {sl_Bgone:Array (Option Value)}
  {od_Bheld_by an_Bheld_by:Option Addr} {kV_Bheld_by dc_Bheld_by pm_Bheld_by cd_Bheld_by ct_Bheld_by:Value} {sl_Bheld_by:Array (Option Value)}
  {od_Bdone an_Bdone:Option Addr} {kV_Bdone dc_Bdone pm_Bdone cd_Bdone ct_Bdone:Value} {sl_Bdone:Array (Option Value)}
  {od_Bhold an_Bhold:Option Addr} {kV_Bhold dc_Bhold pm_Bhold cd_Bhold ct_Bhold:Value} {sl_Bhold:Array (Option Value)}
  {t_MF9:Tok}
  {t_MOST_TERM:Tok}
  {t_MS9:Tok}
  {t_MOST_POWER:Tok}
  {t_LETTERS:Tok}
  {t_MOST_LETTERS:Tok}
  {t_MOST_NAMES:Tok}
  {x_PRIMES:Addr} {t0_PRIMES t1_PRIMES t2_PRIMES t3_PRIMES t4_PRIMES t5_PRIMES t6_PRIMES t7_PRIMES t8_PRIMES t9_PRIMES:Tok} {n_PRIMES:Nat} {d_PRIMES:Option Addr} {sl_PRIMES:Array (Option Value)}
  (a0:W.nsIn K mainGlobals "is_whole" = some (some (.ref f0)))
  (l0:K.lookup f0=some ⟨oc0,od0,.func (W.fnOf "is_whole" "is_whole" (defArgs s_is_whole) (defBody s_is_whole) (defScope s_is_whole) .none kV0 dc0 pm0 an0 cd0 ct0),sl0⟩)
  (c0:W.codeIn K cd0 "is_whole" = true) (k0:W.keepIn K (.ref f0)=true)
  (a1:W.nsIn K mainGlobals "is_powers" = some (some (.ref f1)))
  (l1:K.lookup f1=some ⟨oc1,od1,.func (W.fnOf "is_powers" "is_powers" (defArgs s_iw9) (defBody s_iw9) (defScope s_iw9) .none kV1 dc1 pm1 an1 cd1 ct1),sl1⟩)
  (c1:W.codeIn K cd1 "is_powers" = true) (k1:W.keepIn K (.ref f1)=true)
  (a2:W.nsIn K mainGlobals "powers_of" = some (some (.ref f2)))
  (l2:K.lookup f2=some ⟨oc2,od2,.func (W.fnOf "powers_of" "powers_of" (defArgs s_po9) (defBody s_po9) (defScope s_po9) .none kV2 dc2 pm2 an2 cd2 ct2),sl2⟩)
  (c2:W.codeIn K cd2 "powers_of" = true) (k2:W.keepIn K (.ref f2)=true)
  (a3:W.nsIn K mainGlobals "how_often" = some (some (.ref f3)))
  (l3:K.lookup f3=some ⟨oc3,od3,.func (W.fnOf "how_often" "how_often" (defArgs s_ho9) (defBody s_ho9) (defScope s_ho9) .none kV3 dc3 pm3 an3 cd3 ct3),sl3⟩)
  (c3:W.codeIn K cd3 "how_often" = true) (k3:W.keepIn K (.ref f3)=true)
  (a4:W.nsIn K mainGlobals "without_primes" = some (some (.ref f4)))
  (l4:K.lookup f4=some ⟨oc4,od4,.func (W.fnOf "without_primes" "without_primes" (defArgs s_wp9) (defBody s_wp9) (defScope s_wp9) .none kV4 dc4 pm4 an4 cd4 ct4),sl4⟩)
  (c4:W.codeIn K cd4 "without_primes" = true) (k4:W.keepIn K (.ref f4)=true)
  (a5:W.nsIn K mainGlobals "is_program" = some (some (.ref f5)))
  (l5:K.lookup f5=some ⟨oc5,od5,.func (W.fnOf "is_program" "is_program" (defArgs s_ip9) (defBody s_ip9) (defScope s_ip9) .none kV5 dc5 pm5 an5 cd5 ct5),sl5⟩)
  (c5:W.codeIn K cd5 "is_program" = true) (k5:W.keepIn K (.ref f5)=true)
  (a6:W.nsIn K mainGlobals "is_fraction" = some (some (.ref f6)))
  (l6:K.lookup f6=some ⟨oc6,od6,.func (W.fnOf "is_fraction" "is_fraction" (defArgs s_if9) (defBody s_if9) (defScope s_if9) .none kV6 dc6 pm6 an6 cd6 ct6),sl6⟩)
  (c6:W.codeIn K cd6 "is_fraction" = true) (k6:W.keepIn K (.ref f6)=true)
  (a7:W.nsIn K mainGlobals "is_term" = some (some (.ref f7)))
  (l7:K.lookup f7=some ⟨oc7,od7,.func (W.fnOf "is_term" "is_term" (defArgs s_is_term) (defBody s_is_term) (defScope s_is_term) .none kV7 dc7 pm7 an7 cd7 ct7),sl7⟩)
  (c7:W.codeIn K cd7 "is_term" = true) (k7:W.keepIn K (.ref f7)=true)
  (a8:W.nsIn K mainGlobals "changes_of" = some (some (.ref f8)))
  (l8:K.lookup f8=some ⟨oc8,od8,.func (W.fnOf "changes_of" "changes_of" (defArgs s_co9) (defBody s_co9) (defScope s_co9) .none kV8 dc8 pm8 an8 cd8 ct8),sl8⟩)
  (c8:W.codeIn K cd8 "changes_of" = true) (k8:W.keepIn K (.ref f8)=true)
  (a9:W.nsIn K mainGlobals "fraction_changes" = some (some (.ref f9)))
  (l9:K.lookup f9=some ⟨oc9,od9,.func (W.fnOf "fraction_changes" "fraction_changes" (defArgs s_fc9) (defBody s_fc9) (defScope s_fc9) .none kV9 dc9 pm9 an9 cd9 ct9),sl9⟩)
  (c9:W.codeIn K cd9 "fraction_changes" = true) (k9:W.keepIn K (.ref f9)=true)
  (a10:W.nsIn K mainGlobals "fits" = some (some (.ref f10)))
  (l10:K.lookup f10=some ⟨oc10,od10,.func (W.fnOf "fits" "fits" (defArgs s_fits) (defBody s_fits) (defScope s_fits) .none kV10 dc10 pm10 an10 cd10 ct10),sl10⟩)
  (c10:W.codeIn K cd10 "fits" = true) (k10:W.keepIn K (.ref f10)=true)
  (a11:W.nsIn K mainGlobals "first_of" = some (some (.ref f11)))
  (l11:K.lookup f11=some ⟨oc11,od11,.func (W.fnOf "first_of" "first_of" (defArgs s_first_of) (defBody s_first_of) (defScope s_first_of) .none kV11 dc11 pm11 an11 cd11 ct11),sl11⟩)
  (c11:W.codeIn K cd11 "first_of" = true) (k11:W.keepIn K (.ref f11)=true)
  (a12:W.nsIn K mainGlobals "moved" = some (some (.ref f12)))
  (l12:K.lookup f12=some ⟨oc12,od12,.func (W.fnOf "moved" "moved" (defArgs s_moved) (defBody s_moved) (defScope s_moved) .none kV12 dc12 pm12 an12 cd12 ct12),sl12⟩)
  (c12:W.codeIn K cd12 "moved" = true) (k12:W.keepIn K (.ref f12)=true)
  (a13:W.nsIn K mainGlobals "first_fit" = some (some (.ref f13)))
  (l13:K.lookup f13=some ⟨oc13,od13,.func (W.fnOf "first_fit" "first_fit" (defArgs s_first_fit) (defBody s_first_fit) (defScope s_first_fit) .none kV13 dc13 pm13 an13 cd13 ct13),sl13⟩)
  (c13:W.codeIn K cd13 "first_fit" = true) (k13:W.keepIn K (.ref f13)=true)
  (a14:W.nsIn K mainGlobals "after" = some (some (.ref f14)))
  (l14:K.lookup f14=some ⟨oc14,od14,.func (W.fnOf "after" "after" (defArgs s_after) (defBody s_after) (defScope s_after) .none kV14 dc14 pm14 an14 cd14 ct14),sl14⟩)
  (c14:W.codeIn K cd14 "after" = true) (k14:W.keepIn K (.ref f14)=true)
  (a15:W.nsIn K mainGlobals "stretch_steps" = some (some (.ref f15)))
  (l15:K.lookup f15=some ⟨oc15,od15,.func (W.fnOf "stretch_steps" "stretch_steps" (defArgs s_ss9) (defBody s_ss9) (defScope s_ss9) .none kV15 dc15 pm15 an15 cd15 ct15),sl15⟩)
  (c15:W.codeIn K cd15 "stretch_steps" = true) (k15:W.keepIn K (.ref f15)=true)
  (a16:W.nsIn K mainGlobals "steps_to_lack" = some (some (.ref f16)))
  (l16:K.lookup f16=some ⟨oc16,od16,.func (W.fnOf "steps_to_lack" "steps_to_lack" (defArgs s_sl9) (defBody s_sl9) (defScope s_sl9) .none kV16 dc16 pm16 an16 cd16 ct16),sl16⟩)
  (c16:W.codeIn K cd16 "steps_to_lack" = true) (k16:W.keepIn K (.ref f16)=true)
  (a17:W.nsIn K mainGlobals "steps_to_fit" = some (some (.ref f17)))
  (l17:K.lookup f17=some ⟨oc17,od17,.func (W.fnOf "steps_to_fit" "steps_to_fit" (defArgs s_sf9) (defBody s_sf9) (defScope s_sf9) .none kV17 dc17 pm17 an17 cd17 ct17),sl17⟩)
  (c17:W.codeIn K cd17 "steps_to_fit" = true) (k17:W.keepIn K (.ref f17)=true)
  (a18:W.nsIn K mainGlobals "leap" = some (some (.ref f18)))
  (l18:K.lookup f18=some ⟨oc18,od18,.func (W.fnOf "leap" "leap" (defArgs s_leap) (defBody s_leap) (defScope s_leap) .none kV18 dc18 pm18 an18 cd18 ct18),sl18⟩)
  (c18:W.codeIn K cd18 "leap" = true) (k18:W.keepIn K (.ref f18)=true)
  (a19:W.nsIn K mainGlobals "is_name" = some (some (.ref f19)))
  (l19:K.lookup f19=some ⟨oc19,od19,.func (W.fnOf "is_name" "is_name" (defArgs s_is_name) (defBody s_is_name) (defScope s_is_name) .none kV19 dc19 pm19 an19 cd19 ct19),sl19⟩)
  (c19:W.codeIn K cd19 "is_name" = true) (k19:W.keepIn K (.ref f19)=true)
  (a20:W.nsIn K mainGlobals "gone_on" = some (some (.ref f20)))
  (l20:K.lookup f20=some ⟨oc20,od20,.func (W.fnOf "gone_on" "gone_on" (defArgs s_gone_on) (defBody s_gone_on) (defScope s_gone_on) .none kV20 dc20 pm20 an20 cd20 ct20),sl20⟩)
  (c20:W.codeIn K cd20 "gone_on" = true) (k20:W.keepIn K (.ref f20)=true)
  (a21:W.nsIn K mainGlobals "fate" = some (some (.ref f21)))
  (l21:K.lookup f21=some ⟨oc21,od21,.func (W.fnOf "fate" "fate" (defArgs s_fate) (defBody s_fate) (defScope s_fate) .none kV21 dc21 pm21 an21 cd21 ct21),sl21⟩)
  (c21:W.codeIn K cd21 "fate" = true) (k21:W.keepIn K (.ref f21)=true)
  (a22:W.nsIn K mainGlobals "_law_cell_at" = some (some (.ref f22)))
  (l22:K.lookup f22=some ⟨oc22,od22,.func (W.fnOf "_law_cell_at" "_law_cell_at" (defArgs s_l_cell_at) (defBody s_l_cell_at) (defScope s_l_cell_at) .none kV22 dc22 pm22 an22 cd22 ct22),sl22⟩)
  (c22:W.codeIn K cd22 "_law_cell_at" = true) (k22:W.keepIn K (.ref f22)=true)
  (a23:W.nsIn K mainGlobals "_law_pot" = some (some (.ref f23)))
  (l23:K.lookup f23=some ⟨oc23,od23,.func (W.fnOf "_law_pot" "_law_pot" (defArgs s_l_pot) (defBody s_l_pot) (defScope s_l_pot) .none kV23 dc23 pm23 an23 cd23 ct23),sl23⟩)
  (c23:W.codeIn K cd23 "_law_pot" = true) (k23:W.keepIn K (.ref f23)=true)
  (a24:W.nsIn K mainGlobals "_law_take" = some (some (.ref f24)))
  (l24:K.lookup f24=some ⟨oc24,od24,.func (W.fnOf "_law_take" "_law_take" (defArgs s_l_take) (defBody s_l_take) (defScope s_l_take) .none kV24 dc24 pm24 an24 cd24 ct24),sl24⟩)
  (c24:W.codeIn K cd24 "_law_take" = true) (k24:W.keepIn K (.ref f24)=true)
  (a25:W.nsIn K mainGlobals "_law_order" = some (some (.ref f25)))
  (l25:K.lookup f25=some ⟨oc25,od25,.func (W.fnOf "_law_order" "_law_order" (defArgs s_l_order) (defBody s_l_order) (defScope s_l_order) .none kV25 dc25 pm25 an25 cd25 ct25),sl25⟩)
  (c25:W.codeIn K cd25 "_law_order" = true) (k25:W.keepIn K (.ref f25)=true)
  (a26:W.nsIn K mainGlobals "_law_places" = some (some (.ref f26)))
  (l26:K.lookup f26=some ⟨oc26,od26,.func (W.fnOf "_law_places" "_law_places" (defArgs s_l_places) (defBody s_l_places) (defScope s_l_places) .none kV26 dc26 pm26 an26 cd26 ct26),sl26⟩)
  (c26:W.codeIn K cd26 "_law_places" = true) (k26:W.keepIn K (.ref f26)=true)
  (a27:W.nsIn K mainGlobals "_law_primes" = some (some (.ref f27)))
  (l27:K.lookup f27=some ⟨oc27,od27,.func (W.fnOf "_law_primes" "_law_primes" (defArgs s_l_primes) (defBody s_l_primes) (defScope s_l_primes) .none kV27 dc27 pm27 an27 cd27 ct27),sl27⟩)
  (c27:W.codeIn K cd27 "_law_primes" = true) (k27:W.keepIn K (.ref f27)=true)
  (a28:W.nsIn K mainGlobals "_law_product" = some (some (.ref f28)))
  (l28:K.lookup f28=some ⟨oc28,od28,.func (W.fnOf "_law_product" "_law_product" (defArgs s_l_product) (defBody s_l_product) (defScope s_l_product) .none kV28 dc28 pm28 an28 cd28 ct28),sl28⟩)
  (c28:W.codeIn K cd28 "_law_product" = true) (k28:W.keepIn K (.ref f28)=true)
  (a29:W.nsIn K mainGlobals "_law_fraction" = some (some (.ref f29)))
  (l29:K.lookup f29=some ⟨oc29,od29,.func (W.fnOf "_law_fraction" "_law_fraction" (defArgs s_l_fraction) (defBody s_l_fraction) (defScope s_l_fraction) .none kV29 dc29 pm29 an29 cd29 ct29),sl29⟩)
  (c29:W.codeIn K cd29 "_law_fraction" = true) (k29:W.keepIn K (.ref f29)=true)
  (a30:W.nsIn K mainGlobals "_law_program" = some (some (.ref f30)))
  (l30:K.lookup f30=some ⟨oc30,od30,.func (W.fnOf "_law_program" "_law_program" (defArgs s_l_program) (defBody s_l_program) (defScope s_l_program) .none kV30 dc30 pm30 an30 cd30 ct30),sl30⟩)
  (c30:W.codeIn K cd30 "_law_program" = true) (k30:W.keepIn K (.ref f30)=true)
  (a31:W.nsIn K mainGlobals "_law_calm_program" = some (some (.ref f31)))
  (l31:K.lookup f31=some ⟨oc31,od31,.func (W.fnOf "_law_calm_program" "_law_calm_program" (defArgs s_l_cp) (defBody s_l_cp) (defScope s_l_cp) .none kV31 dc31 pm31 an31 cd31 ct31),sl31⟩)
  (c31:W.codeIn K cd31 "_law_calm_program" = true) (k31:W.keepIn K (.ref f31)=true)
  (a32:W.nsIn K mainGlobals "_law_line" = some (some (.ref f32)))
  (l32:K.lookup f32=some ⟨oc32,od32,.func (W.fnOf "_law_line" "_law_line" (defArgs s_l_line) (defBody s_l_line) (defScope s_l_line) .none kV32 dc32 pm32 an32 cd32 ct32),sl32⟩)
  (c32:W.codeIn K cd32 "_law_line" = true) (k32:W.keepIn K (.ref f32)=true)
  (a33:W.nsIn K mainGlobals "_law_later" = some (some (.ref f33)))
  (l33:K.lookup f33=some ⟨oc33,od33,.func (W.fnOf "_law_later" "_law_later" (defArgs s_l_later) (defBody s_l_later) (defScope s_l_later) .none kV33 dc33 pm33 an33 cd33 ct33),sl33⟩)
  (c33:W.codeIn K cd33 "_law_later" = true) (k33:W.keepIn K (.ref f33)=true)
  (a34:W.nsIn K mainGlobals "_law_runs" = some (some (.ref f34)))
  (l34:K.lookup f34=some ⟨oc34,od34,.func (W.fnOf "_law_runs" "_law_runs" (defArgs s_l_runs) (defBody s_l_runs) (defScope s_l_runs) .none kV34 dc34 pm34 an34 cd34 ct34),sl34⟩)
  (c34:W.codeIn K cd34 "_law_runs" = true) (k34:W.keepIn K (.ref f34)=true)
  (a35:W.nsIn K mainGlobals "law" = some (some (.ref f35)))
  (l35:K.lookup f35=some ⟨oc35,od35,.func (W.fnOf "law" "law" (defArgs s_law) (defBody s_law) (defScope s_law) .none kV35 dc35 pm35 an35 cd35 ct35),sl35⟩)
  (c35:W.codeIn K cd35 "law" = true) (k35:W.keepIn K (.ref f35)=true)
  (a_FractError:W.nsIn K mainGlobals "FractError" = some (some (.ref h_FractError)))
  (a_A:W.nsIn K mainGlobals "AtRest" = some (some (.ref h_A)))
  (a_NoNumber:W.nsIn K mainGlobals "NoNumber" = some (some (.ref h_NoNumber)))
  (a_TooMany:W.nsIn K mainGlobals "TooMany" = some (some (.ref h_TooMany)))
  (a_NoProgram:W.nsIn K mainGlobals "NoProgram" = some (some (.ref h_NoProgram)))
  (a_NoPowers:W.nsIn K mainGlobals "NoPowers" = some (some (.ref h_NoPowers)))
  (a_NoName:W.nsIn K mainGlobals "NoName" = some (some (.ref h_NoName)))
  (a_NoDeed:W.nsIn K mainGlobals "NoDeed" = some (some (.ref h_NoDeed)))
  (a_Bench:W.nsIn K mainGlobals "Bench" = some (some (.ref h_Bench)))
  (e_FractError:W.excIn K h_FractError bmV "ValueError.__new__" = true)
  (lc_A:K.lookup h_A=some (excClassObj nm_A qq_A h_A N_A bs_A (.ref h_FractError::bmV) true sn_A sub_A ab_A col_A dd_A kk0_A kk1_A kk2_A kk3_A kk5_A "ValueError.__new__"))
  (no_A:W.nsOkIn K N_A=true) (ni_A:W.nsIn K N_A "__init__" = some (some (.ref fi_A)))
  (li_A:K.lookup fi_A=some ⟨.type "function", od_A,.func (W.fnOf "__init__" "AtRest.__init__" (defArgs s_init_A) (defBody s_init_A) (defScope s_init_A) .none kV_A dc_A pm_A an_A cd_A ct_A),sl_A⟩)
  (co_A:W.codeIn K cd_A "AtRest.__init__" = true) (ki_A:W.keepIn K (.ref fi_A)=true)
  (u_A:W.mroIn K h_A (.ref h_FractError)=some true)
  (ne_A:h_A≠h_FractError)
  (x2_A:W.findIn K (.ref h_A) "__getattribute__" = some (some (.builtin "BaseException.__getattribute__")))
  (x3_A:W.findIn K (.ref h_A) "__getattr__" = some none)
  (x4_A:W.findIn K (.ref h_A) "__class__" = some (some (.builtin "object.__class__")))
  (x5_A:W.mroIn K h_A (.type "object")=some true)
  (x6_A:W.mroIn K h_A (.type "BaseException")=some true)
  (v_A:W.mroIn K h_A (.type "ValueError")=some true)
  (sa_A:W.findIn K (.ref h_A) "__setattr__" = some (some (.builtin "object.__setattr__")))
  (fa_A:W.findIn K (.ref h_A) "steps" = some none)
  (q_A_NoNumber:W.mroIn K h_A (.ref h_NoNumber)=some false) (ne_A_NoNumber:h_A≠h_NoNumber)
  (q_A_TooMany:W.mroIn K h_A (.ref h_TooMany)=some false) (ne_A_TooMany:h_A≠h_TooMany)
  (q_A_NoProgram:W.mroIn K h_A (.ref h_NoProgram)=some false) (ne_A_NoProgram:h_A≠h_NoProgram)
  (q_A_NoPowers:W.mroIn K h_A (.ref h_NoPowers)=some false) (ne_A_NoPowers:h_A≠h_NoPowers)
  (q_A_NoName:W.mroIn K h_A (.ref h_NoName)=some false) (ne_A_NoName:h_A≠h_NoName)
  (q_A_NoDeed:W.mroIn K h_A (.ref h_NoDeed)=some false) (ne_A_NoDeed:h_A≠h_NoDeed)
  (pg_Bench:W.plainGet K h_Bench Str.empty=true)
  (hd_Bench:W.hasDictIn K h_Bench=true)
  (po_Bench:W.plainOver K h_Bench=true)
  (st_Bench:W.findIn K (.ref h_Bench) "__setattr__" = some (some (.builtin "object.__setattr__")))
  (mks_Bench:W.makesIn K h_Bench=true)
  (kc_Bench:W.keepIn K (.ref h_Bench)=true)
  (na_Bdeeds:W.findIn K (.ref h_Bench) "deeds" = some none)
  (na_Bheld:W.findIn K (.ref h_Bench) "held" = some none)
  (na_Bprogram:W.findIn K (.ref h_Bench) "program" = some none)
  (fd_Binit:W.findIn K (.ref h_Bench) "__init__" = some (some (.ref fi_Binit)))
  (li_Binit:K.lookup fi_Binit=some ⟨.type "function", od_Binit,.func (W.fnOf "__init__" "Bench.__init__" (defArgs s_Binit) (defBody s_Binit) (defScope s_Binit) .none kV_Binit dc_Binit pm_Binit an_Binit cd_Binit ct_Binit),sl_Binit⟩)
  (co_Binit:W.codeIn K cd_Binit "Bench.__init__" = true) (ki_Binit:W.keepIn K (.ref fi_Binit)=true) (if_Binit:W.isFn K (.ref fi_Binit)=true)
  (fd_Bput:W.findIn K (.ref h_Bench) "put" = some (some (.ref fi_Bput)))
  (li_Bput:K.lookup fi_Bput=some ⟨.type "function", od_Bput,.func (W.fnOf "put" "Bench.put" (defArgs s_Bput) (defBody s_Bput) (defScope s_Bput) .none kV_Bput dc_Bput pm_Bput an_Bput cd_Bput ct_Bput),sl_Bput⟩)
  (co_Bput:W.codeIn K cd_Bput "Bench.put" = true) (ki_Bput:W.keepIn K (.ref fi_Bput)=true) (if_Bput:W.isFn K (.ref fi_Bput)=true)
  (fd_Brun:W.findIn K (.ref h_Bench) "run" = some (some (.ref fi_Brun)))
  (li_Brun:K.lookup fi_Brun=some ⟨.type "function", od_Brun,.func (W.fnOf "run" "Bench.run" (defArgs s_Brun) (defBody s_Brun) (defScope s_Brun) .none kV_Brun dc_Brun pm_Brun an_Brun cd_Brun ct_Brun),sl_Brun⟩)
  (co_Brun:W.codeIn K cd_Brun "Bench.run" = true) (ki_Brun:W.keepIn K (.ref fi_Brun)=true) (if_Brun:W.isFn K (.ref fi_Brun)=true)
  (fd_Bdrop:W.findIn K (.ref h_Bench) "drop" = some (some (.ref fi_Bdrop)))
  (li_Bdrop:K.lookup fi_Bdrop=some ⟨.type "function", od_Bdrop,.func (W.fnOf "drop" "Bench.drop" (defArgs s_Bdrop) (defBody s_Bdrop) (defScope s_Bdrop) .none kV_Bdrop dc_Bdrop pm_Bdrop an_Bdrop cd_Bdrop ct_Bdrop),sl_Bdrop⟩)
  (co_Bdrop:W.codeIn K cd_Bdrop "Bench.drop" = true) (ki_Bdrop:W.keepIn K (.ref fi_Bdrop)=true) (if_Bdrop:W.isFn K (.ref fi_Bdrop)=true)
  (fd_Bundo:W.findIn K (.ref h_Bench) "undo" = some (some (.ref fi_Bundo)))
  (li_Bundo:K.lookup fi_Bundo=some ⟨.type "function", od_Bundo,.func (W.fnOf "undo" "Bench.undo" (defArgs s_Bundo) (defBody s_Bundo) (defScope s_Bundo) .none kV_Bundo dc_Bundo pm_Bundo an_Bundo cd_Bundo ct_Bundo),sl_Bundo⟩)
  (co_Bundo:W.codeIn K cd_Bundo "Bench.undo" = true) (ki_Bundo:W.keepIn K (.ref fi_Bundo)=true) (if_Bundo:W.isFn K (.ref fi_Bundo)=true)
  (fd_Bnames:W.findIn K (.ref h_Bench) "names" = some (some (.ref fi_Bnames)))
  (li_Bnames:K.lookup fi_Bnames=some ⟨.type "function", od_Bnames,.func (W.fnOf "names" "Bench.names" (defArgs s_Bnames) (defBody s_Bnames) (defScope s_Bnames) .none kV_Bnames dc_Bnames pm_Bnames an_Bnames cd_Bnames ct_Bnames),sl_Bnames⟩)
  (co_Bnames:W.codeIn K cd_Bnames "Bench.names" = true) (ki_Bnames:W.keepIn K (.ref fi_Bnames)=true) (if_Bnames:W.isFn K (.ref fi_Bnames)=true)
  (fd_Bpowers:W.findIn K (.ref h_Bench) "powers" = some (some (.ref fi_Bpowers)))
  (li_Bpowers:K.lookup fi_Bpowers=some ⟨.type "function", od_Bpowers,.func (W.fnOf "powers" "Bench.powers" (defArgs s_Bpowers) (defBody s_Bpowers) (defScope s_Bpowers) .none kV_Bpowers dc_Bpowers pm_Bpowers an_Bpowers cd_Bpowers ct_Bpowers),sl_Bpowers⟩)
  (co_Bpowers:W.codeIn K cd_Bpowers "Bench.powers" = true) (ki_Bpowers:W.keepIn K (.ref fi_Bpowers)=true) (if_Bpowers:W.isFn K (.ref fi_Bpowers)=true)
  (fd_Bgone:W.findIn K (.ref h_Bench) "gone" = some (some (.ref fi_Bgone)))
  (li_Bgone:K.lookup fi_Bgone=some ⟨.type "function", od_Bgone,.func (W.fnOf "gone" "Bench.gone" (defArgs s_Bgone) (defBody s_Bgone) (defScope s_Bgone) .none kV_Bgone dc_Bgone pm_Bgone an_Bgone cd_Bgone ct_Bgone),sl_Bgone⟩)
  (co_Bgone:W.codeIn K cd_Bgone "Bench.gone" = true) (ki_Bgone:W.keepIn K (.ref fi_Bgone)=true) (if_Bgone:W.isFn K (.ref fi_Bgone)=true)
  (fd_Bheld_by:W.findIn K (.ref h_Bench) "held_by" = some (some (.ref fi_Bheld_by)))
  (li_Bheld_by:K.lookup fi_Bheld_by=some ⟨.type "function", od_Bheld_by,.func (W.fnOf "held_by" "Bench.held_by" (defArgs s_Bheld_by) (defBody s_Bheld_by) (defScope s_Bheld_by) .none kV_Bheld_by dc_Bheld_by pm_Bheld_by an_Bheld_by cd_Bheld_by ct_Bheld_by),sl_Bheld_by⟩)
  (co_Bheld_by:W.codeIn K cd_Bheld_by "Bench.held_by" = true) (ki_Bheld_by:W.keepIn K (.ref fi_Bheld_by)=true) (if_Bheld_by:W.isFn K (.ref fi_Bheld_by)=true)
  (fd_Bdone:W.findIn K (.ref h_Bench) "done" = some (some (.ref fi_Bdone)))
  (li_Bdone:K.lookup fi_Bdone=some ⟨.type "function", od_Bdone,.func (W.fnOf "done" "Bench.done" (defArgs s_Bdone) (defBody s_Bdone) (defScope s_Bdone) .none kV_Bdone dc_Bdone pm_Bdone an_Bdone cd_Bdone ct_Bdone),sl_Bdone⟩)
  (co_Bdone:W.codeIn K cd_Bdone "Bench.done" = true) (ki_Bdone:W.keepIn K (.ref fi_Bdone)=true) (if_Bdone:W.isFn K (.ref fi_Bdone)=true)
  (fd_Bhold:W.findIn K (.ref h_Bench) "hold" = some (some (.ref fi_Bhold)))
  (li_Bhold:K.lookup fi_Bhold=some ⟨.type "function", od_Bhold,.func (W.fnOf "hold" "Bench.hold" (defArgs s_Bhold) (defBody s_Bhold) (defScope s_Bhold) .none kV_Bhold dc_Bhold pm_Bhold an_Bhold cd_Bhold ct_Bhold),sl_Bhold⟩)
  (co_Bhold:W.codeIn K cd_Bhold "Bench.hold" = true) (ki_Bhold:W.keepIn K (.ref fi_Bhold)=true) (if_Bhold:W.isFn K (.ref fi_Bhold)=true)
  (ty_A:W.typeIn K (.ref h_A)=some (.type "type")) (mo_A:W.mroIn K h_A (.type "object")=some true)
  (ty_NoNumber:W.typeIn K (.ref h_NoNumber)=some (.type "type")) (mo_NoNumber:W.mroIn K h_NoNumber (.type "object")=some true)
  (ty_TooMany:W.typeIn K (.ref h_TooMany)=some (.type "type")) (mo_TooMany:W.mroIn K h_TooMany (.type "object")=some true)
  (ty_NoProgram:W.typeIn K (.ref h_NoProgram)=some (.type "type")) (mo_NoProgram:W.mroIn K h_NoProgram (.type "object")=some true)
  (ty_NoPowers:W.typeIn K (.ref h_NoPowers)=some (.type "type")) (mo_NoPowers:W.mroIn K h_NoPowers (.type "object")=some true)
  (ty_NoName:W.typeIn K (.ref h_NoName)=some (.type "type")) (mo_NoName:W.mroIn K h_NoName (.type "object")=some true)
  (ty_NoDeed:W.typeIn K (.ref h_NoDeed)=some (.type "type")) (mo_NoDeed:W.mroIn K h_NoDeed (.type "object")=some true)
  (y1:W.specialIn K (.builtin "object.__class__") "__get__" = some (some (.builtin "getset_descriptor.__get__"))) (y2:W.takesIn K (.builtin "object.__class__")=some true)
  (z_len:W.nsIn K mainGlobals "len" = some none)
  (z_isinstance:W.nsIn K mainGlobals "isinstance" = some none)
  (z_int:W.nsIn K mainGlobals "int" = some none)
  (z_bool:W.nsIn K mainGlobals "bool" = some none)
  (z_tuple:W.nsIn K mainGlobals "tuple" = some none)
  (z_range:W.nsIn K mainGlobals "range" = some none)
  (z_max:W.nsIn K mainGlobals "max" = some none)
  (z_min:W.nsIn K mainGlobals "min" = some none)
  (z_all:W.nsIn K mainGlobals "all" = some none)
  (z_zip:W.nsIn K mainGlobals "zip" = some none)
  (z_str:W.nsIn K mainGlobals "str" = some none)
  (z_sorted:W.nsIn K mainGlobals "sorted" = some none)
  (z_enumerate:W.nsIn K mainGlobals "enumerate" = some none)
  (z_ValueError:W.nsIn K mainGlobals "ValueError" = some none)
  (g_MF9:W.nsIn K mainGlobals "MOST_FRACTIONS" = some (some (.int 16 t_MF9)))
  (g_MOST_TERM:W.nsIn K mainGlobals "MOST_TERM" = some (some (.int 1000000000000 t_MOST_TERM)))
  (g_MS9:W.nsIn K mainGlobals "MOST_STRETCHES" = some (some (.int 2000 t_MS9)))
  (g_MOST_POWER:W.nsIn K mainGlobals "MOST_POWER" = some (some (.int 1000000 t_MOST_POWER)))
  (g_LETTERS:W.nsIn K mainGlobals "LETTERS" = some (some (.str "abcdefghijklmnopqrstuvwxyz" t_LETTERS)))
  (g_MOST_LETTERS:W.nsIn K mainGlobals "MOST_LETTERS" = some (some (.int 8 t_MOST_LETTERS)))
  (g_MOST_NAMES:W.nsIn K mainGlobals "MOST_NAMES" = some (some (.int 12 t_MOST_NAMES)))
  (g_PRIMES:W.nsIn K mainGlobals "PRIMES" = some (some (.ref x_PRIMES)))
  (y_PRIMES:K.lookup x_PRIMES=some ⟨.type "tuple", d_PRIMES,.seq #[.int 2 t0_PRIMES,.int 3 t1_PRIMES,.int 5 t2_PRIMES,.int 7 t3_PRIMES,.int 11 t4_PRIMES,.int 13 t5_PRIMES,.int 17 t6_PRIMES,.int 19 t7_PRIMES,.int 23 t8_PRIMES,.int 29 t9_PRIMES] n_PRIMES,sl_PRIMES⟩) :
  ∃ fd:FuncData,(∀ (s:Shared) (v:Value),BindsTo s fd ⟨[v],[]⟩ [("script", v)]) /\ ∀ base:Heap,K.In base->base.Ns mainGlobals mg->FnOk l.prog w K mg base CX0 kLaw fa fd ["script"] (sp_law K):=by
 have e:=hfa.symm.trans (W.mg_of X G a35)
 cases e
 have F0:=fun_mk (st:=s_is_whole) l0 c0 k0
 have b0:=F0.binds (ps:=["thing"]) λ _ _ _ _ _ _ us hl=>match us,hl with | [_],_=>rfl
 have F1:=fun_mk (st:=s_iw9) l1 c1 k1
 have b1:=F1.binds (ps:=["thing"]) λ _ _ _ _ _ _ us hl=>match us,hl with | [_],_=>rfl
 have F2:=fun_mk (st:=s_po9) l2 c2 k2
 have b2:=F2.binds (ps:=["number"]) λ _ _ _ _ _ _ us hl=>match us,hl with | [_],_=>rfl
 have F3:=fun_mk (st:=s_ho9) l3 c3 k3
 have b3:=F3.binds (ps:=["prime", "number"]) λ _ _ _ _ _ _ us hl=>match us,hl with | [_,_],_=>rfl
 have F4:=fun_mk (st:=s_wp9) l4 c4 k4
 have b4:=F4.binds (ps:=["number"]) λ _ _ _ _ _ _ us hl=>match us,hl with | [_],_=>rfl
 have F5:=fun_mk (st:=s_ip9) l5 c5 k5
 have b5:=F5.binds (ps:=["thing"]) λ _ _ _ _ _ _ us hl=>match us,hl with | [_],_=>rfl
 have F6:=fun_mk (st:=s_if9) l6 c6 k6
 have b6:=F6.binds (ps:=["thing"]) λ _ _ _ _ _ _ us hl=>match us,hl with | [_],_=>rfl
 have F7:=fun_mk (st:=s_is_term) l7 c7 k7
 have b7:=F7.binds (ps:=["thing"]) λ _ _ _ _ _ _ us hl=>match us,hl with | [_],_=>rfl
 have F8:=fun_mk (st:=s_co9) l8 c8 k8
 have b8:=F8.binds (ps:=["program"]) λ _ _ _ _ _ _ us hl=>match us,hl with | [_],_=>rfl
 have F9:=fun_mk (st:=s_fc9) l9 c9 k9
 have b9:=F9.binds (ps:=["fraction"]) λ _ _ _ _ _ _ us hl=>match us,hl with | [_],_=>rfl
 have F10:=fun_mk (st:=s_fits) l10 c10 k10
 have b10:=F10.binds (ps:=["changes", "powers"]) λ _ _ _ _ _ _ us hl=>match us,hl with | [_,_],_=>rfl
 have F11:=fun_mk (st:=s_first_of) l11 c11 k11
 have b11:=F11.binds (ps:=["rows", "powers"]) λ _ _ _ _ _ _ us hl=>match us,hl with | [_,_],_=>rfl
 have F12:=fun_mk (st:=s_moved) l12 c12 k12
 have b12:=F12.binds (ps:=["powers", "changes", "many"]) λ _ _ _ _ _ _ us hl=>match us,hl with | [_,_,_],_=>rfl
 have F13:=fun_mk (st:=s_first_fit) l13 c13 k13
 have b13:=F13.binds (ps:=["program", "powers"]) λ _ _ _ _ _ _ us hl=>match us,hl with | [_,_],_=>rfl
 have F14:=fun_mk (st:=s_after) l14 c14 k14
 have b14:=F14.binds (ps:=["program", "powers", "many"]) λ _ _ _ _ _ _ us hl=>match us,hl with | [_,_,_],_=>rfl
 have F15:=fun_mk (st:=s_ss9) l15 c15 k15
 have b15:=F15.binds (ps:=["rows", "powers", "number"]) λ _ _ _ _ _ _ us hl=>match us,hl with | [_,_,_],_=>rfl
 have F16:=fun_mk (st:=s_sl9) l16 c16 k16
 have b16:=F16.binds (ps:=["powers", "used"]) λ _ _ _ _ _ _ us hl=>match us,hl with | [_,_],_=>rfl
 have F17:=fun_mk (st:=s_sf9) l17 c17 k17
 have b17:=F17.binds (ps:=["powers", "used", "ahead"]) λ _ _ _ _ _ _ us hl=>match us,hl with | [_,_,_],_=>rfl
 have F18:=fun_mk (st:=s_leap) l18 c18 k18
 have b18:=F18.binds (ps:=["program", "powers", "many"]) λ _ _ _ _ _ _ us hl=>match us,hl with | [_,_,_],_=>rfl
 have F19:=fun_mk (st:=s_is_name) l19 c19 k19
 have b19:=F19.binds (ps:=["thing"]) λ _ _ _ _ _ _ us hl=>match us,hl with | [_],_=>rfl
 have F20:=fun_mk (st:=s_gone_on) l20 c20 k20
 have b20:=F20.binds (ps:=["program", "powers", "many"]) λ _ _ _ _ _ _ us hl=>match us,hl with | [_,_,_],_=>rfl
 have F21:=fun_mk (st:=s_fate) l21 c21 k21
 have b21:=F21.binds (ps:=["program", "powers", "most"]) λ _ _ _ _ _ _ us hl=>match us,hl with | [_,_,_],_=>rfl
 have F22:=fun_mk (st:=s_l_cell_at) l22 c22 k22
 have b22:=F22.binds (ps:=["script", "k"]) λ _ _ _ _ _ _ us hl=>match us,hl with | [_,_],_=>rfl
 have F23:=fun_mk (st:=s_l_pot) l23 c23 k23
 have b23:=F23.binds (ps:=["cell"]) λ _ _ _ _ _ _ us hl=>match us,hl with | [_],_=>rfl
 have F24:=fun_mk (st:=s_l_take) l24 c24 k24
 have b24:=F24.binds (ps:=["pot", "far"]) λ _ _ _ _ _ _ us hl=>match us,hl with | [_,_],_=>rfl
 have F25:=fun_mk (st:=s_l_order) l25 c25 k25
 have b25:=F25.binds (ps:=["pot", "wide"]) λ _ _ _ _ _ _ us hl=>match us,hl with | [_,_],_=>rfl
 have F26:=fun_mk (st:=s_l_places) l26 c26 k26
 have b26:=F26.binds (ps:=["pot"]) λ _ _ _ _ _ _ us hl=>match us,hl with | [_],_=>rfl
 have F27:=fun_mk (st:=s_l_primes) l27 c27 k27
 have b27:=F27.binds (ps:=[]) λ _ _ _ _ _ _ us hl=>match us,hl with | [],_=>rfl
 have F28:=fun_mk (st:=s_l_product) l28 c28 k28
 have b28:=F28.binds (ps:=["line"]) λ _ _ _ _ _ _ us hl=>match us,hl with | [_],_=>rfl
 have F29:=fun_mk (st:=s_l_fraction) l29 c29 k29
 have b29:=F29.binds (ps:=["pot", "places"]) λ _ _ _ _ _ _ us hl=>match us,hl with | [_,_],_=>rfl
 have F30:=fun_mk (st:=s_l_program) l30 c30 k30
 have b30:=F30.binds (ps:=["pot", "places", "most"]) λ _ _ _ _ _ _ us hl=>match us,hl with | [_,_,_],_=>rfl
 have F31:=fun_mk (st:=s_l_cp) l31 c31 k31
 have b31:=F31.binds (ps:=["pot", "places", "most"]) λ _ _ _ _ _ _ us hl=>match us,hl with | [_,_,_],_=>rfl
 have F32:=fun_mk (st:=s_l_line) l32 c32 k32
 have b32:=F32.binds (ps:=["pot", "places", "most"]) λ _ _ _ _ _ _ us hl=>match us,hl with | [_,_,_],_=>rfl
 have F33:=fun_mk (st:=s_l_later) l33 c33 k33
 have b33:=F33.binds (ps:=["due", "steps"]) λ _ _ _ _ _ _ us hl=>match us,hl with | [_,_],_=>rfl
 have F34:=fun_mk (st:=s_l_runs) l34 c34 k34
 have b34:=F34.binds (ps:=["pot", "program", "bench", "places"]) λ _ _ _ _ _ _ us hl=>match us,hl with | [_,_,_,_],_=>rfl
 have F35:=fun_mk (st:=s_law) l35 c35 k35
 have FI_A:=fun_mk (st:=s_init_A) li_A co_A ki_A
 have bI_A:=FI_A.binds (ps:=["self", "steps"]) λ _ _ _ _ _ _ us hl=>match us,hl with | [_,_],_=>rfl
 have FI_Binit:=fun_mk (st:=s_Binit) li_Binit co_Binit ki_Binit
 have bI_Binit:=FI_Binit.binds (ps:=["self", "program"]) λ _ _ _ _ _ _ us hl=>match us,hl with | [_,_],_=>rfl
 have FI_Bput:=fun_mk (st:=s_Bput) li_Bput co_Bput ki_Bput
 have bI_Bput:=FI_Bput.binds (ps:=["self", "name", "powers"]) λ _ _ _ _ _ _ us hl=>match us,hl with | [_,_,_],_=>rfl
 have FI_Brun:=fun_mk (st:=s_Brun) li_Brun co_Brun ki_Brun
 have bI_Brun:=FI_Brun.binds (ps:=["self", "name", "many"]) λ _ _ _ _ _ _ us hl=>match us,hl with | [_,_,_],_=>rfl
 have FI_Bdrop:=fun_mk (st:=s_Bdrop) li_Bdrop co_Bdrop ki_Bdrop
 have bI_Bdrop:=FI_Bdrop.binds (ps:=["self", "name"]) λ _ _ _ _ _ _ us hl=>match us,hl with | [_,_],_=>rfl
 have FI_Bundo:=fun_mk (st:=s_Bundo) li_Bundo co_Bundo ki_Bundo
 have bI_Bundo:=FI_Bundo.binds (ps:=["self"]) λ _ _ _ _ _ _ us hl=>match us,hl with | [_],_=>rfl
 have FI_Bnames:=fun_mk (st:=s_Bnames) li_Bnames co_Bnames ki_Bnames
 have bI_Bnames:=FI_Bnames.binds (ps:=["self"]) λ _ _ _ _ _ _ us hl=>match us,hl with | [_],_=>rfl
 have FI_Bpowers:=fun_mk (st:=s_Bpowers) li_Bpowers co_Bpowers ki_Bpowers
 have bI_Bpowers:=FI_Bpowers.binds (ps:=["self", "name"]) λ _ _ _ _ _ _ us hl=>match us,hl with | [_,_],_=>rfl
 have FI_Bgone:=fun_mk (st:=s_Bgone) li_Bgone co_Bgone ki_Bgone
 have bI_Bgone:=FI_Bgone.binds (ps:=["self", "name"]) λ _ _ _ _ _ _ us hl=>match us,hl with | [_,_],_=>rfl
 have FI_Bheld_by:=fun_mk (st:=s_Bheld_by) li_Bheld_by co_Bheld_by ki_Bheld_by
 have bI_Bheld_by:=FI_Bheld_by.binds (ps:=["self", "name"]) λ _ _ _ _ _ _ us hl=>match us,hl with | [_,_],_=>rfl
 have FI_Bdone:=fun_mk (st:=s_Bdone) li_Bdone co_Bdone ki_Bdone
 have bI_Bdone:=FI_Bdone.binds (ps:=["self", "name", "what"]) λ _ _ _ _ _ _ us hl=>match us,hl with | [_,_,_],_=>rfl
 have FI_Bhold:=fun_mk (st:=s_Bhold) li_Bhold co_Bhold ki_Bhold
 have bI_Bhold:=FI_Bhold.binds (ps:=["self", "name", "what"]) λ _ _ _ _ _ _ us hl=>match us,hl with | [_,_,_],_=>rfl
 have T:Tx K mg:=⟨f0,_,⟨F0,W.mg_of X G a0,b0⟩,f1,_,⟨F1,W.mg_of X G a1,b1⟩,f2,_,⟨F2,W.mg_of X G a2,b2⟩,f3,_,⟨F3,W.mg_of X G a3,b3⟩,f4,_,⟨F4,W.mg_of X G a4,b4⟩,f5,_,⟨F5,W.mg_of X G a5,b5⟩,f6,_,⟨F6,W.mg_of X G a6,b6⟩,f7,_,⟨F7,W.mg_of X G a7,b7⟩,f8,_,⟨F8,W.mg_of X G a8,b8⟩,f9,_,⟨F9,W.mg_of X G a9,b9⟩,f10,_,⟨F10,W.mg_of X G a10,b10⟩,f11,_,⟨F11,W.mg_of X G a11,b11⟩,f12,_,⟨F12,W.mg_of X G a12,b12⟩,f13,_,⟨F13,W.mg_of X G a13,b13⟩,f14,_,⟨F14,W.mg_of X G a14,b14⟩,f15,_,⟨F15,W.mg_of X G a15,b15⟩,f16,_,⟨F16,W.mg_of X G a16,b16⟩,f17,_,⟨F17,W.mg_of X G a17,b17⟩,f18,_,⟨F18,W.mg_of X G a18,b18⟩,f19,_,⟨F19,W.mg_of X G a19,b19⟩,f20,_,⟨F20,W.mg_of X G a20,b20⟩,f21,_,⟨F21,W.mg_of X G a21,b21⟩,f22,_,⟨F22,W.mg_of X G a22,b22⟩,f23,_,⟨F23,W.mg_of X G a23,b23⟩,f24,_,⟨F24,W.mg_of X G a24,b24⟩,f25,_,⟨F25,W.mg_of X G a25,b25⟩,f26,_,⟨F26,W.mg_of X G a26,b26⟩,f27,_,⟨F27,W.mg_of X G a27,b27⟩,f28,_,⟨F28,W.mg_of X G a28,b28⟩,f29,_,⟨F29,W.mg_of X G a29,b29⟩,f30,_,⟨F30,W.mg_of X G a30,b30⟩,f31,_,⟨F31,W.mg_of X G a31,b31⟩,f32,_,⟨F32,W.mg_of X G a32,b32⟩,f33,_,⟨F33,W.mg_of X G a33,b33⟩,f34,_,⟨F34,W.mg_of X G a34,b34⟩,h_FractError,W.mg_of X G a_FractError,h_A,W.mg_of X G a_A,h_NoNumber,W.mg_of X G a_NoNumber,h_TooMany,W.mg_of X G a_TooMany,h_NoProgram,W.mg_of X G a_NoProgram,h_NoPowers,W.mg_of X G a_NoPowers,h_NoName,W.mg_of X G a_NoName,h_NoDeed,W.mg_of X G a_NoDeed,h_Bench,W.mg_of X G a_Bench,⟨W.mg_of X G a_FractError,e_FractError⟩,fi_A,_,⟨W.mg_of X G a_A,⟨_,_,_,_,_,_,_,_,_,_,_,_,_,_,lc_A,no_A,ni_A⟩,e_FractError,⟨W.cls_of_mro x5_A,x2_A,x3_A,x4_A,y1,y2,x5_A,x6_A⟩,sa_A,⟨_,li_A,rfl⟩⟩,FI_A,bI_A,⟨⟨_,_,_,_,_,_,_,_,_,_,_,_,_,_,_,_,lc_A⟩,u_A,ne_A⟩,fa_A,W.kit_val v_A,W.kit_self,W.kit_false ty_NoNumber mo_NoNumber q_A_NoNumber ne_A_NoNumber,W.kit_false ty_TooMany mo_TooMany q_A_TooMany ne_A_TooMany,W.kit_false ty_NoProgram mo_NoProgram q_A_NoProgram ne_A_NoProgram,W.kit_false ty_NoPowers mo_NoPowers q_A_NoPowers ne_A_NoPowers,W.kit_false ty_NoName mo_NoName q_A_NoName ne_A_NoName,W.kit_false ty_NoDeed mo_NoDeed q_A_NoDeed ne_A_NoDeed,⟨pg_Bench,hd_Bench,po_Bench,st_Bench⟩,na_Bdeeds,na_Bheld,na_Bprogram,fi_Binit,_,⟨FI_Binit,⟨mks_Bench,fd_Binit,if_Binit,kc_Bench⟩,bI_Binit⟩,fi_Bput,_,⟨FI_Bput,⟨fd_Bput,if_Bput,ki_Bput⟩,bI_Bput⟩,fi_Brun,_,⟨FI_Brun,⟨fd_Brun,if_Brun,ki_Brun⟩,bI_Brun⟩,fi_Bdrop,_,⟨FI_Bdrop,⟨fd_Bdrop,if_Bdrop,ki_Bdrop⟩,bI_Bdrop⟩,fi_Bundo,_,⟨FI_Bundo,⟨fd_Bundo,if_Bundo,ki_Bundo⟩,bI_Bundo⟩,fi_Bnames,_,⟨FI_Bnames,⟨fd_Bnames,if_Bnames,ki_Bnames⟩,bI_Bnames⟩,fi_Bpowers,_,⟨FI_Bpowers,⟨fd_Bpowers,if_Bpowers,ki_Bpowers⟩,bI_Bpowers⟩,fi_Bgone,_,⟨FI_Bgone,⟨fd_Bgone,if_Bgone,ki_Bgone⟩,bI_Bgone⟩,fi_Bheld_by,_,⟨FI_Bheld_by,⟨fd_Bheld_by,if_Bheld_by,ki_Bheld_by⟩,bI_Bheld_by⟩,fi_Bdone,_,⟨FI_Bdone,⟨fd_Bdone,if_Bdone,ki_Bdone⟩,bI_Bdone⟩,fi_Bhold,_,⟨FI_Bhold,⟨fd_Bhold,if_Bhold,ki_Bhold⟩,bI_Bhold⟩,W.mg_none_of X G z_len,W.mg_none_of X G z_isinstance,W.mg_none_of X G z_int,W.mg_none_of X G z_bool,W.mg_none_of X G z_tuple,W.mg_none_of X G z_range,W.mg_none_of X G z_max,W.mg_none_of X G z_min,W.mg_none_of X G z_all,W.mg_none_of X G z_zip,W.mg_none_of X G z_str,W.mg_none_of X G z_sorted,W.mg_none_of X G z_enumerate,W.mg_none_of X G z_ValueError,x_PRIMES,W.mg_of X G g_PRIMES,λ H=>.inr ⟨_,_,_,y_PRIMES,rfl,rfl,(by show 10<=sizeLine;decide),(.cons ⟨_,rfl⟩ (.cons ⟨_,rfl⟩ (.cons ⟨_,rfl⟩ (.cons ⟨_,rfl⟩ (.cons ⟨_,rfl⟩ (.cons ⟨_,rfl⟩ (.cons ⟨_,rfl⟩ (.cons ⟨_,rfl⟩ (.cons ⟨_,rfl⟩ (.cons ⟨_,rfl⟩ .nil))))))))))⟩,⟨_,W.mg_of X G g_MF9⟩,⟨_,W.mg_of X G g_MOST_TERM⟩,⟨_,W.mg_of X G g_MS9⟩,⟨_,W.mg_of X G g_MOST_POWER⟩,⟨_,W.mg_of X G g_LETTERS⟩,⟨_,W.mg_of X G g_MOST_LETTERS⟩,⟨_,W.mg_of X G g_MOST_NAMES⟩⟩
 exact ⟨W.fnOf "law" "law" (defArgs s_law) (defBody s_law) (defScope s_law) .none kV35 dc35 pm35 an35 cd35 ct35,λ s v=>.of_eq rfl,λ base _ _=>ok_law T F35⟩
theorem walk {l:PySem.W.OpenLaw} {q:Program} {loose:List Str} {XP:(Str->Option Value)->Heap->Prop} {YP:World->Heap->Prop} {d:DefRec} {K:Params->PySem.W.Frag} (hn:l.most=some 63) (hdf:d.params.defaults=[])
  (hY : ∀ (w:World) (h:Heap),YP w h->(K w.params).In h)
  (F : ∀ (w:World) (mg:Str->Option Value) (fa:Addr) (h:Heap),(K w.params).In h->h.Ns mainGlobals mg->mg d.name=some (.ref fa) ->
   ∃ fd:FuncData,(∀ (s:Shared) (u:Value),BindsTo s fd ⟨[u],[]⟩ [("script", u)]) /\ ∀ base:Heap,(K w.params).In base->base.Ns mainGlobals mg->FnOk l.prog w (K w.params) mg base CX0 kLaw fa fd ["script"] (sp_law (K w.params))) :
  PySem.W.WalkO q loose XP YP l.row.toRowW d [] (λ f vs=>PySem.call f vs) :=
 L2.walk_of (n:=63) (k:=kLaw) (x := "script") (CX:=λ _=>CX0) (sp:=λ w=>sp_law (K w.params)) hn (by decide) hdf ⟨rfl,by decide,by decide⟩ hY F (λ _ _ a ns hl _ hS=>⟨a,ns,rfl,hS,hl,λ _=>rfl⟩) λ _ _ _ _ _ z=>z
end W2
open PySem PySem.W PyProof.Rows
theorem _root_.PySem.W.Fast.tw11354072489980105176 : True := trivial
theorem _root_.PySem.W.Fast.tw14337805577217200241 : True := trivial
theorem _root_.PySem.W.Fast.tw14674619226314029219 : True := trivial
theorem _root_.PySem.W.Fast.tw15736191955470332220 : True := trivial
theorem _root_.PySem.W.Fast.tw16385110011148037578 : True := trivial
theorem _root_.PySem.W.Fast.tw16572577013633737368 : True := trivial
theorem _root_.PySem.W.Fast.tw17690346699156366619 : True := trivial
theorem _root_.PySem.W.Fast.tw18257456297023493047 : True := trivial
theorem _root_.PySem.W.Fast.tw2356862794011481749 : True := trivial
theorem _root_.PySem.W.Fast.tw3502618587056431431 : True := trivial
theorem _root_.PySem.W.Fast.tw3776442852398442059 : True := trivial
theorem _root_.PySem.W.Fast.tw5617666010841561725 : True := trivial
theorem _root_.PySem.W.Fast.tw5766000793157937366 : True := trivial
theorem _root_.PySem.W.Fast.tw6616639286406260744 : True := trivial
theorem _root_.PySem.W.Fast.tw7738637988374375859 : True := trivial
set_option maxRecDepth 100000 in
set_option maxHeartbeats 0 in
theorem PySem.Challenge.cw_wholefract_k93_whole_a_bench_and_steps_holds : PySem.Challenge.rw_wholefract_k93_whole_a_bench_and_steps.Holds := by
 w_on;o_law;k_head;(case hw=>w_witness2)
 k_fill
 refine W2.walk (l:=PySem.Challenge.rw_wholefract_k93_whole_a_bench_and_steps) rfl rfl (λ w h Y=>PySem.W.kIn_of Y) ?F
 case F =>
  intro w mg fa h KX G hmg
  refine' W2.all_mk KX G hmg ?a0 ?l0 ?c0 ?k0 ?a1 ?l1 ?c1 ?k1 ?a2 ?l2 ?c2 ?k2 ?a3 ?l3 ?c3 ?k3 ?a4 ?l4 ?c4 ?k4 ?a5 ?l5 ?c5 ?k5 ?a6 ?l6 ?c6 ?k6 ?a7 ?l7 ?c7 ?k7 ?a8 ?l8 ?c8 ?k8 ?a9 ?l9 ?c9 ?k9 ?a10 ?l10 ?c10 ?k10 ?a11 ?l11 ?c11 ?k11 ?a12 ?l12 ?c12 ?k12 ?a13 ?l13 ?c13 ?k13 ?a14 ?l14 ?c14 ?k14 ?a15 ?l15 ?c15 ?k15 ?a16 ?l16 ?c16 ?k16 ?a17 ?l17 ?c17 ?k17 ?a18 ?l18 ?c18 ?k18 ?a19 ?l19 ?c19 ?k19 ?a20 ?l20 ?c20 ?k20 ?a21 ?l21 ?c21 ?k21 ?a22 ?l22 ?c22 ?k22 ?a23 ?l23 ?c23 ?k23 ?a24 ?l24 ?c24 ?k24 ?a25 ?l25 ?c25 ?k25 ?a26 ?l26 ?c26 ?k26 ?a27 ?l27 ?c27 ?k27 ?a28 ?l28 ?c28 ?k28 ?a29 ?l29 ?c29 ?k29 ?a30 ?l30 ?c30 ?k30 ?a31 ?l31 ?c31 ?k31 ?a32 ?l32 ?c32 ?k32 ?a33 ?l33 ?c33 ?k33 ?a34 ?l34 ?c34 ?k34 ?a35 ?l35 ?c35 ?k35 ?a_FractError ?a_A ?a_NoNumber ?a_TooMany ?a_NoProgram ?a_NoPowers ?a_NoName ?a_NoDeed ?a_Bench ?e_FractError ?lc_A ?no_A ?ni_A ?li_A ?co_A ?ki_A ?u_A ?ne_A ?x2_A ?x3_A ?x4_A ?x5_A ?x6_A ?v_A ?sa_A ?fa_A ?q_A_NoNumber ?ne_A_NoNumber ?q_A_TooMany ?ne_A_TooMany ?q_A_NoProgram ?ne_A_NoProgram ?q_A_NoPowers ?ne_A_NoPowers ?q_A_NoName ?ne_A_NoName ?q_A_NoDeed ?ne_A_NoDeed ?pg_Bench ?hd_Bench ?po_Bench ?st_Bench ?mks_Bench ?kc_Bench ?na_Bdeeds ?na_Bheld ?na_Bprogram ?fd_Binit ?li_Binit ?co_Binit ?ki_Binit ?if_Binit ?fd_Bput ?li_Bput ?co_Bput ?ki_Bput ?if_Bput ?fd_Brun ?li_Brun ?co_Brun ?ki_Brun ?if_Brun ?fd_Bdrop ?li_Bdrop ?co_Bdrop ?ki_Bdrop ?if_Bdrop ?fd_Bundo ?li_Bundo ?co_Bundo ?ki_Bundo ?if_Bundo ?fd_Bnames ?li_Bnames ?co_Bnames ?ki_Bnames ?if_Bnames ?fd_Bpowers ?li_Bpowers ?co_Bpowers ?ki_Bpowers ?if_Bpowers ?fd_Bgone ?li_Bgone ?co_Bgone ?ki_Bgone ?if_Bgone ?fd_Bheld_by ?li_Bheld_by ?co_Bheld_by ?ki_Bheld_by ?if_Bheld_by ?fd_Bdone ?li_Bdone ?co_Bdone ?ki_Bdone ?if_Bdone ?fd_Bhold ?li_Bhold ?co_Bhold ?ki_Bhold ?if_Bhold ?ty_A ?mo_A ?ty_NoNumber ?mo_NoNumber ?ty_TooMany ?mo_TooMany ?ty_NoProgram ?mo_NoProgram ?ty_NoPowers ?mo_NoPowers ?ty_NoName ?mo_NoName ?ty_NoDeed ?mo_NoDeed ?y1 ?y2 ?z_len ?z_isinstance ?z_int ?z_bool ?z_tuple ?z_range ?z_max ?z_min ?z_all ?z_zip ?z_str ?z_sorted ?z_enumerate ?z_ValueError ?g_MF9 ?g_MOST_TERM ?g_MS9 ?g_MOST_POWER ?g_LETTERS ?g_MOST_LETTERS ?g_MOST_NAMES ?g_PRIMES ?y_PRIMES
  (case a0=>k_is)
  (case l0=>k_is)
  (case c0=>k_is)
  (case k0=>k_is)
  (case a1=>k_is)
  (case l1=>k_is)
  (case c1=>k_is)
  (case k1=>k_is)
  (case a2=>k_is)
  (case l2=>k_is)
  (case c2=>k_is)
  (case k2=>k_is)
  (case a3=>k_is)
  (case l3=>k_is)
  (case c3=>k_is)
  (case k3=>k_is)
  (case a4=>k_is)
  (case l4=>k_is)
  (case c4=>k_is)
  (case k4=>k_is)
  (case a5=>k_is)
  (case l5=>k_is)
  (case c5=>k_is)
  (case k5=>k_is)
  (case a6=>k_is)
  (case l6=>k_is)
  (case c6=>k_is)
  (case k6=>k_is)
  (case a7=>k_is)
  (case l7=>k_is)
  (case c7=>k_is)
  (case k7=>k_is)
  (case a8=>k_is)
  (case l8=>k_is)
  (case c8=>k_is)
  (case k8=>k_is)
  (case a9=>k_is)
  (case l9=>k_is)
  (case c9=>k_is)
  (case k9=>k_is)
  (case a10=>k_is)
  (case l10=>k_is)
  (case c10=>k_is)
  (case k10=>k_is)
  (case a11=>k_is)
  (case l11=>k_is)
  (case c11=>k_is)
  (case k11=>k_is)
  (case a12=>k_is)
  (case l12=>k_is)
  (case c12=>k_is)
  (case k12=>k_is)
  (case a13=>k_is)
  (case l13=>k_is)
  (case c13=>k_is)
  (case k13=>k_is)
  (case a14=>k_is)
  (case l14=>k_is)
  (case c14=>k_is)
  (case k14=>k_is)
  (case a15=>k_is)
  (case l15=>k_is)
  (case c15=>k_is)
  (case k15=>k_is)
  (case a16=>k_is)
  (case l16=>k_is)
  (case c16=>k_is)
  (case k16=>k_is)
  (case a17=>k_is)
  (case l17=>k_is)
  (case c17=>k_is)
  (case k17=>k_is)
  (case a18=>k_is)
  (case l18=>k_is)
  (case c18=>k_is)
  (case k18=>k_is)
  (case a19=>k_is)
  (case l19=>k_is)
  (case c19=>k_is)
  (case k19=>k_is)
  (case a20=>k_is)
  (case l20=>k_is)
  (case c20=>k_is)
  (case k20=>k_is)
  (case a21=>k_is)
  (case l21=>k_is)
  (case c21=>k_is)
  (case k21=>k_is)
  (case a22=>k_is)
  (case l22=>k_is)
  (case c22=>k_is)
  (case k22=>k_is)
  (case a23=>k_is)
  (case l23=>k_is)
  (case c23=>k_is)
  (case k23=>k_is)
  (case a24=>k_is)
  (case l24=>k_is)
  (case c24=>k_is)
  (case k24=>k_is)
  (case a25=>k_is)
  (case l25=>k_is)
  (case c25=>k_is)
  (case k25=>k_is)
  (case a26=>k_is)
  (case l26=>k_is)
  (case c26=>k_is)
  (case k26=>k_is)
  (case a27=>k_is)
  (case l27=>k_is)
  (case c27=>k_is)
  (case k27=>k_is)
  (case a28=>k_is)
  (case l28=>k_is)
  (case c28=>k_is)
  (case k28=>k_is)
  (case a29=>k_is)
  (case l29=>k_is)
  (case c29=>k_is)
  (case k29=>k_is)
  (case a30=>k_is)
  (case l30=>k_is)
  (case c30=>k_is)
  (case k30=>k_is)
  (case a31=>k_is)
  (case l31=>k_is)
  (case c31=>k_is)
  (case k31=>k_is)
  (case a32=>k_is)
  (case l32=>k_is)
  (case c32=>k_is)
  (case k32=>k_is)
  (case a33=>k_is)
  (case l33=>k_is)
  (case c33=>k_is)
  (case k33=>k_is)
  (case a34=>k_is)
  (case l34=>k_is)
  (case c34=>k_is)
  (case k34=>k_is)
  (case a35=>k_is)
  (case l35=>k_is)
  (case c35=>k_is)
  (case k35=>k_is)
  (case a_FractError=>k_is)
  (case a_A=>k_is)
  (case a_NoNumber=>k_is)
  (case a_TooMany=>k_is)
  (case a_NoProgram=>k_is)
  (case a_NoPowers=>k_is)
  (case a_NoName=>k_is)
  (case a_NoDeed=>k_is)
  (case a_Bench=>k_is)
  (case e_FractError=>k_exc)
  (case lc_A=>k_is)
  (case no_A=>kernel_rfl)
  (case ni_A=>k_is)
  (case li_A=>k_is)
  (case co_A=>k_is)
  (case ki_A=>k_is)
  (case u_A=>k_is)
  (case ne_A=>decide)
  (case x2_A=>k_is)
  (case x3_A=>k_is)
  (case x4_A=>k_is)
  (case x5_A=>k_is)
  (case x6_A=>k_is)
  (case v_A=>k_is)
  (case sa_A=>k_is)
  (case fa_A=>k_is)
  (case q_A_NoNumber=>k_is)
  (case ne_A_NoNumber=>decide)
  (case q_A_TooMany=>k_is)
  (case ne_A_TooMany=>decide)
  (case q_A_NoProgram=>k_is)
  (case ne_A_NoProgram=>decide)
  (case q_A_NoPowers=>k_is)
  (case ne_A_NoPowers=>decide)
  (case q_A_NoName=>k_is)
  (case ne_A_NoName=>decide)
  (case q_A_NoDeed=>k_is)
  (case ne_A_NoDeed=>decide)
  (case pg_Bench=>k_is)
  (case hd_Bench=>k_is)
  (case po_Bench=>k_is)
  (case st_Bench=>k_is)
  (case mks_Bench=>k_is)
  (case kc_Bench=>k_is)
  (case na_Bdeeds=>k_is)
  (case na_Bheld=>k_is)
  (case na_Bprogram=>k_is)
  (case fd_Binit=>k_is)
  (case li_Binit=>k_is)
  (case co_Binit=>k_is)
  (case ki_Binit=>k_is)
  (case if_Binit=>k_is)
  (case fd_Bput=>k_is)
  (case li_Bput=>k_is)
  (case co_Bput=>k_is)
  (case ki_Bput=>k_is)
  (case if_Bput=>k_is)
  (case fd_Brun=>k_is)
  (case li_Brun=>k_is)
  (case co_Brun=>k_is)
  (case ki_Brun=>k_is)
  (case if_Brun=>k_is)
  (case fd_Bdrop=>k_is)
  (case li_Bdrop=>k_is)
  (case co_Bdrop=>k_is)
  (case ki_Bdrop=>k_is)
  (case if_Bdrop=>k_is)
  (case fd_Bundo=>k_is)
  (case li_Bundo=>k_is)
  (case co_Bundo=>k_is)
  (case ki_Bundo=>k_is)
  (case if_Bundo=>k_is)
  (case fd_Bnames=>k_is)
  (case li_Bnames=>k_is)
  (case co_Bnames=>k_is)
  (case ki_Bnames=>k_is)
  (case if_Bnames=>k_is)
  (case fd_Bpowers=>k_is)
  (case li_Bpowers=>k_is)
  (case co_Bpowers=>k_is)
  (case ki_Bpowers=>k_is)
  (case if_Bpowers=>k_is)
  (case fd_Bgone=>k_is)
  (case li_Bgone=>k_is)
  (case co_Bgone=>k_is)
  (case ki_Bgone=>k_is)
  (case if_Bgone=>k_is)
  (case fd_Bheld_by=>k_is)
  (case li_Bheld_by=>k_is)
  (case co_Bheld_by=>k_is)
  (case ki_Bheld_by=>k_is)
  (case if_Bheld_by=>k_is)
  (case fd_Bdone=>k_is)
  (case li_Bdone=>k_is)
  (case co_Bdone=>k_is)
  (case ki_Bdone=>k_is)
  (case if_Bdone=>k_is)
  (case fd_Bhold=>k_is)
  (case li_Bhold=>k_is)
  (case co_Bhold=>k_is)
  (case ki_Bhold=>k_is)
  (case if_Bhold=>k_is)
  (case ty_A=>k_is)
  (case mo_A=>k_is)
  (case ty_NoNumber=>k_is)
  (case mo_NoNumber=>k_is)
  (case ty_TooMany=>k_is)
  (case mo_TooMany=>k_is)
  (case ty_NoProgram=>k_is)
  (case mo_NoProgram=>k_is)
  (case ty_NoPowers=>k_is)
  (case mo_NoPowers=>k_is)
  (case ty_NoName=>k_is)
  (case mo_NoName=>k_is)
  (case ty_NoDeed=>k_is)
  (case mo_NoDeed=>k_is)
  (case y1=>k_is)
  (case y2=>k_is)
  (case z_len=>k_is)
  (case z_isinstance=>k_is)
  (case z_int=>k_is)
  (case z_bool=>k_is)
  (case z_tuple=>k_is)
  (case z_range=>k_is)
  (case z_max=>k_is)
  (case z_min=>k_is)
  (case z_all=>k_is)
  (case z_zip=>k_is)
  (case z_str=>k_is)
  (case z_sorted=>k_is)
  (case z_enumerate=>k_is)
  (case z_ValueError=>k_is)
  (case g_MF9=>k_is)
  (case g_MOST_TERM=>k_is)
  (case g_MS9=>k_is)
  (case g_MOST_POWER=>k_is)
  (case g_LETTERS=>k_is)
  (case g_MOST_LETTERS=>k_is)
  (case g_MOST_NAMES=>k_is)
  (case g_PRIMES=>k_is)
  (case y_PRIMES=>k_is)
