import PyProof.Rows.All
import Wide.All
import PyProof.EqAt
import PyProof.WalkInts
import OpenK.AllK
import Wide.FinOn
import Lean
import PyProof.EqKinds
import PyProof.TupleCall
import KE.KTryMore
import PyProof.EnumMake
import PyProof.Draws
import PyProof.Rows.MatchSeqLen
import PyProof.StrLawsTight
import PyProof.StrLawsChain
import KE.IntTextText
import PyProof.JoinWalk
import PyProof.Rows.StrWeight2
import PyProof.StrBlock2
import PyProof.FString
import PyProof.StrLawsOcc
import KE.KIntText
import PyProof.SliceStr2
import PyProof.FString5
import KE.KDictSum
import PyProof.Rows.SortStr
import KE.KDictOf
import PyProof.DictIter
import KE.KTops
import PyProof.ReprRoads
import PySem.Challenge.RW_wholefract_k96_rows_that_are_none
set_option Elab.async false
set_option linter.all false
set_option maxRecDepth 100000
set_option maxHeartbeats 4000000
set_option tactic.hygienic false
set_option hygiene false
set_option compiler.extract_closed false
local macro_rules|`(.n)=>`(none)|`(.t)=>`(true)|`(.f)=>`(false)
theorem Y.{u} {α:Sort u} {a:α}:a=a:=rfl
local macro_rules|`(#[$x])=>`(⟨$x⟩)|`(#[$x,$xs,*])=>`(⟨$x,$xs,*⟩)
local macro_rules|`(.au)=>`(by omega)|`(.aB)=>`(by decide)|`(.zs)=>`(by simp)|`(.bW)=>`(by intro _ _ _ _ h;first|(cases h;subst_vars;rfl)|repeat first|(obtain ⟨rfl,_⟩:=h;rfl)|obtain ⟨_,h⟩:=h)
abbrev cN:=List (Int×Int)
abbrev bB:=List Int
abbrev h2:=List Nat
abbrev bA:=List PySem.Str
abbrev ee:=Array PySem.Value
abbrev ef:=List (PySem.Addr×PySem.Obj)
abbrev b_:=Option PySem.Value
abbrev aP:=PySem.W.Frag
abbrev d7:=List bB
abbrev c0:=PySem.Value->PySem.Shared->Prop
theorem dC:type_of% @Bool.false_ne_true:=@Bool.false_ne_true
def ax:=@PySem.wpAny_bind
def eV:=@PySem.wpAny_holding
def cV:=@PySem.wpAny_field
def a_:=@PySem.wpAny_pure
def tg:=@PySem.wpAny_load
def l_:=@PySem.wpAny_newObj_type
def a9:=@PySem.Heap.get?_push_of_some
def cJ:=@PySem.Heap.get?_push_size
theorem bu:type_of% @PySem.Heap.lt_size:=@PySem.Heap.lt_size
theorem cc:type_of% @Nat.ne_of_lt:=@Nat.ne_of_lt
theorem ey:type_of% @Nat.lt_of_lt_of_le:=@Nat.lt_of_lt_of_le
theorem eF:type_of% @PySem.Heap.size_push:=@PySem.Heap.size_push
def jZ:=@Nat.le_succ
theorem hN:type_of% @PySem.Heap.get?_update_self:=@PySem.Heap.get?_update_self
def kW:=@PySem.Obj.isFreed_of_fields
theorem iu:type_of% @PySem.Obj.data_mapFields:=@PySem.Obj.data_mapFields
theorem er:type_of% @PySem.Heap.get?_update_other:=@PySem.Heap.get?_update_other
theorem ei:type_of% @Nat.lt_irrefl:=@Nat.lt_irrefl
def qE:=@Nat.lt_of_succ_lt
def fO:=@PySem.wpAny_seqItems
theorem gQ:type_of% @Int.toNat_natCast:=@Int.toNat_natCast
def ny:=@PySem.wpAny_rule
def kX:=@PySem.wpAny_setField
def pj:=@PySem.Heap.SameBut.update
def kY:=@PySem.wpAny_attempt
def kZ:=@PySem.wpAny_callSpecial?_slot
def vL:=@PySem.slot_listiter_next
def jk:=@PySem.wpAny_call_entry
def qF:=@PySem.wpAny_isInstance
def tr:=@PySem.isSubtype_stop
def qG:=@PySem.F.slot_tuple_iterator_next
def zD:=@PySem.F.entry_tuple_iterator_next
def zE:=@PySem.F.args_tuple_iterator_next_1
def vM:=@PySem.wpAny_specialOf
theorem nz:type_of% @List.take_of_length_le:=@List.take_of_length_le
def k4:=@PySem.wpAny_standAt
def nA:=@PySem.wpAny_pyIter_tuple
def j0:=@Nat.lt_succ_self
theorem mh:type_of% @Nat.lt_succ_of_lt:=@Nat.lt_succ_of_lt
def nB:=@PySem.intItems_at
theorem bt:type_of% @List.mem_cons:=@List.mem_cons
theorem da:type_of% @List.not_mem_nil:=@List.not_mem_nil
theorem dc:type_of% @or_false:=@or_false
theorem cf:type_of% @List.mem_singleton:=@List.mem_singleton
theorem bZ:type_of% @decide_eq_false:=@decide_eq_false
def nC:=@beq_eq_false_iff_ne
theorem cE:type_of% @Option.some.inj:=@Option.some.inj
def hO:=@List.mem_filter
def nD:=@List.mem_range
def dF:=@Nat.le_trans
def vN:=@Nat.le_of_lt
theorem dn:type_of% @List.mem_cons_self:=@List.mem_cons_self
theorem de:type_of% @List.mem_cons_of_mem:=@List.mem_cons_of_mem
def nE:=@PySem.Heap.get?_none_of_le
theorem dz:type_of% @Ne.symm:=@Ne.symm
theorem fA:type_of% @List.mem_append:=@List.mem_append
def pk:=@List.mem_append_left
theorem dr:type_of% @List.getElem?_eq_some_iff:=@List.getElem?_eq_some_iff
theorem pl:type_of% @List.getElem?_set_self:=@List.getElem?_set_self
def d_:=@PySem.wpAny_mono
def vO:=@PySem.Calls.Constant_str
def qH:=@PySem.Calls.Name_function_global
def ts:=@PySem.Calls.loadGlobal_global
def mi:=@PySem.wpAny_truthy_bool
theorem e6:type_of% @Array.length_toList:=@Array.length_toList
def eG:=@congrArg
def pn:=@PySem.wpAny_execs_nil
def pq:=@PySem.wpAny_passesOwn
def hP:=@Nat.ne_of_gt
theorem bx:type_of% @Nat.le_refl:=@Nat.le_refl
def qI:=@PyProof.Rows.callWith_type1
def nF:=@List.mem_filterMap
def fq:=@List.mem_append_right
def ej:=@Nat.zero_le
theorem nG:type_of% @Bool.eq_iff_iff:=@Bool.eq_iff_iff
theorem b7:type_of% @PySem.sizeLine_eq:=@PySem.sizeLine_eq
def zF:=@PySem.W.plainGet_of
theorem iO:type_of% @beq_iff_eq:=@beq_iff_eq
theorem gq:type_of% @List.length_cons:=@List.length_cons
theorem es:type_of% @List.map_cons:=@List.map_cons
theorem bz:type_of% @List.length_map:=@List.length_map
def jl:=@PySem.W.kia_one
theorem qJ:type_of% @List.append_nil:=@List.append_nil
def j1:=@PySem.wpAny_call
def j2:=@PySem.codeAny_mono
def j3:=@PySem.wpAny_Call_Name_kw
def ps:=@PySem.W.callWith_K
def zG:=@PySem.W.callWith_K0
theorem nH:type_of% @List.nodup_cons:=@List.nodup_cons
theorem nI:type_of% @List.of_mem_zip:=@List.of_mem_zip
def vP:=@PySem.W.cellsFrom_some
def tu:=@Option.isSome_iff_exists
def tv:=@PySem.mem_of_lookup
theorem j4:type_of% @List.getElem?_append_right:=@List.getElem?_append_right
theorem jm:type_of% @List.getElem?_append_left:=@List.getElem?_append_left
theorem et:type_of% @List.getElem?_map:=@List.getElem?_map
def b5:=@List.mem_of_getElem?
theorem c9:type_of% @List.length_append:=@List.length_append
def zH:=@PySem.codeAny_call_function
def z0:=@PySem.W.codeRec_of
def z1:=@PySem.wpAny_newFunctionEnv_cells
theorem j6:type_of% @List.map_nil:=@List.map_nil
theorem dK:type_of% @List.size_toArray:=@List.size_toArray
def mv:=@PySem.typeIs_str
theorem pD:type_of% @List.length_set:=@List.length_set
def z2:=@PySem.SeqAt.EqAt.int_int
def z3:=@PySem.SeqAt.EqAt.str_str
theorem eJ:type_of% @Bool.and_eq_true:=@Bool.and_eq_true
theorem pE:type_of% @List.any_cons:=@List.any_cons
def tI:=@PySem.typeIs_int
def tJ:=@PySem.Calls.callWith_builtin
def vZ:=@PySem.wpAny_Call_method_late
def pF:=@PySem.Calls.evalArgs_plain
theorem tK:type_of% @List.replicate_succ:=@List.replicate_succ
def jr:=@PySem.call_meets
def v3:=@PySem.F.slot_int_rmul
theorem nO:type_of% @Nat.mul_comm:=@Nat.mul_comm
theorem bc:type_of% @decide_eq_true:=@decide_eq_true
theorem fB:type_of% @List.all_eq_true:=@List.all_eq_true
theorem iQ:type_of% @List.getD_eq_getElem?_getD:=@List.getD_eq_getElem?_getD
theorem cK:type_of% @List.getElem?_eq_getElem:=@List.getElem?_eq_getElem
def iw:=@List.getElem_mem
theorem jt:type_of% @LawfulBEq.eq_of_beq:=@LawfulBEq.eq_of_beq
theorem cW:type_of% @List.mem_map:=@List.mem_map
def z4:=@PySem.wpAny_comprehension_free
def z5:=@PySem.codeAny_compStart_list
def j7:=@PySem.wpAny_setField_rec
def k_:=@PySem.wpAny_onRaise
def z6:=@PySem.wpAny_updateSeq_pair
def la:=@PySem.wpAny_letGo
def nP:=@PySem.F.slot_zip_next
def v5:=@PySem.F.entry_zip_next
def v7:=@PySem.F.args_zip_next_1
def v8:=@PySem.Heap.IsTuple.push
def v9:=@PySem.wpAny_pyIter_zip
def lb:=@Nat.le_add_right
theorem iR:type_of% @Int.toNat_of_nonneg:=@Int.toNat_of_nonneg
theorem cD:type_of% @of_decide_eq_true:=@of_decide_eq_true
theorem j8:type_of% @Nat.div_lt_self:=@Nat.div_lt_self
def z7:=@Nat.eq_zero_or_pos
def tL:=@Nat.dvd_of_mod_eq_zero
theorem iS:type_of% @List.take_add_one:=@List.take_add_one
theorem hl:type_of% @List.map_append:=@List.map_append
theorem ju:type_of% @List.take_length:=@List.take_length
def lg:=@List.forall_mem_cons
def eX:=@List.forall_mem_nil
theorem pG:type_of% @List.find?_cons:=@List.find?_cons
def z8:=@List.length_filter_le
def tM:=@Option.map_eq_some_iff
def v_:=@PySem.tupleKind_room_in1
def wa:=@List.Perm.refl
def qR:=@List.ext_getElem
def wb:=@PySem.wpAny_newList
def z9:=@Array.toList_inj
theorem jv:type_of% @List.length_range:=@List.length_range
def j9:=@Array.getElem?_eq_some_iff
def z_:=@PySem.W.isNs_of_in
def pH:=@PySem.F.excBase_ValueError
theorem qS:type_of% @List.contains_cons:=@List.contains_cons
def pI:=@PySem.wpAny_loadPart_at
def tN:=@PySem.wpAny_isSubtype_exc
def tO:=@PySem.W.looks_findIn
def wc:=@PySem.F.attr_ValueError
def tP:=@PySem.codeAny_call_builtin
theorem lh:type_of% @Bool.eq_false_iff:=@Bool.eq_false_iff
def tQ:=@Option.bind_eq_some_iff
def qT:=@List.map_congr_left
def Aa:=@List.length_filterMap_le
theorem nQ:type_of% @List.getElem?_zip_eq_some:=@List.getElem?_zip_eq_some
def hR:=@List.getElem?_of_mem
theorem tR:type_of% @List.getElem?_zipWith_eq_some:=@List.getElem?_zipWith_eq_some
theorem iT:type_of% @decide_eq_true_eq:=@decide_eq_true_eq
def Ab:=@PySem.Code.quiet_builtin
def wd:=@PySem.wpAny_handleBy_cons
def we:=@PySem.codeAny_handlers_test
theorem gS:type_of% @List.map_map:=@List.map_map
def Ac:=@PySem.wpAny_Assign_Subscript
def wg:=@PySem.wpAny_updateSeq
def nR:=@PySem.codeAny_builtin
def wh:=@PySem.F.entry_min_loop
theorem qU:type_of% @PySem.Around.under_plainId:=@PySem.Around.under_plainId
theorem mw:type_of% @PySem.F.plain_min_loop:=@PySem.F.plain_min_loop
def qV:=@PySem.wpAny_tryCatch
def pJ:=@PySem.plainId_quiet
def FG:=@List.eq_nil_of_length_eq_zero
def tS:=@Int.mul_nonneg
theorem nS:type_of% @Int.natCast_nonneg:=@Int.natCast_nonneg
def tT:=@Int.le_refl
def wi:=@Int.mul_le_mul_of_nonneg_right
theorem wj:type_of% @Array.getElem?_eq_getElem:=@Array.getElem?_eq_getElem
def qW:=@PySem.F.slot_dict_get
def Ad:=@PySem.F.entry_dict_get
def wk:=@List.cons.inj
theorem j_:type_of% @PySem.StrLaws.join_split:=@PySem.StrLaws.join_split
def nT:=@Int.eq_ofNat_of_zero_le
theorem qX:type_of% @Nat.toDigits_of_lt_base:=@Nat.toDigits_of_lt_base
def qY:=@List.ext_getElem?
theorem jw:type_of% @List.getElem?_eq_none:=@List.getElem?_eq_none
def gr:=@PySem.F.plainAttrs_str
def pK:=@PySem.F.slot_str_join
def pL:=@PySem.F.type_str_join
def iU:=@PySem.F.slot_str_split
def Ae:=@PySem.F.args_str_split_2
def wm:=@PySem.wpAny_FormattedValue_plain
def lj:=@Nat.lt_or_ge
def Af:=@Nat.mul_le_mul_right
theorem jx:type_of% @Bool.and_false:=@Bool.and_false
def Ag:=@List.filter_sublist
def wo:=@List.length_pos_iff
theorem qZ:type_of% @List.mem_map_of_mem:=@List.mem_map_of_mem
theorem q0:type_of% @List.any_eq_true:=@List.any_eq_true
def Ah:=@Bool.and_eq_true_iff
theorem q1:type_of% @List.length_eq_zero_iff:=@List.length_eq_zero_iff
def wq:=@PySem.F.plainAttrs_dict
def Ai:=@PySem.F.type_dict_get
def f_:=@PySem.PassesOwn.never
theorem q2:type_of% @Int.natCast_ediv:=@Int.natCast_ediv
def nU:=@PySem.F.plainAttrs_list
def tU:=@PySem.F.slot_list_append
def tV:=@PySem.F.type_list_append
def wt:=@decide_eq_decide
theorem nV:type_of% @List.all_map:=@List.all_map
theorem q3:type_of% @Bool.true_and:=@Bool.true_and
theorem tW:type_of% @Array.getD_eq_getD_getElem?:=@Array.getD_eq_getD_getElem?
def ll:=@PySem.F.type_str_split
theorem pM:type_of% @Nat.sub_self:=@Nat.sub_self
def nW:=@Int.le_trans
variable {st:PySem.Stmt} {Fr:PySem.Addr}
namespace eP
open PySem PyProof.Rows
def In (A:Around) (h:Heap):Prop:=A.handled=.n\/∃ (e:Addr) (a6:Obj) (vs:ee),A.handled=some (.ref e)/\h.get? e=some a6/\a6.data=.fields vs/\vs[2]?=some .none
theorem In.kept (a:In A h) (k:∀ b o,h.get? b=some o->g.get? b=some o):In A g :=
 a.imp id λ ⟨e,a6,vs,U,aa,r⟩=>#[e,a6,vs,U,k _ _ aa,r]
theorem In.but (a:In A h) (aA:h.get? j=some o) (no:∀ vs,o.data=.fields vs->vs[2]?≠some .none) (k:Heap.ExtBut j h g):In A g :=
 a.imp id λ ⟨e,a6,vs,U,aa,b,c⟩=>#[e,a6,vs,U,k e a6 (λ z=>by subst z;rw [aA] at aa;cases aa;exact no vs b c) aa,b,c]
theorem vX:∀ vs,Data.fields [a,b].toArray=Data.fields vs->vs[2]?≠some .none:=λ vs e=>by
 injection e with e;subst e;exact λ z=>nomatch z
theorem wJ (t):¬ ((Value.ref t==Value.none)=.t):=dC
section
variable {prog:Program} {w:World} {A:Around} {E:c0} {s:Shared}
theorem G5 {Q: α -> Shared->Prop} (d:A.handled=some (.ref h)) (ne:h≠a)
  (aA:s.heap.get? a=some o) (hd:o.data=.fields vs) (f:2<vs.size) (e:s.heap.get? h=some g) (c:g.data=.fields av) (aa:av[2]?=some .none)
  (q:E (.ref a) { s with heap:=s.heap.update a (Obj.mapFields (·.setIfInBounds 2 (.ref h))) }):wpAny (model prog w) A (raiseNew (.ref a):Sem α) Q E s:=by
 refine ax (wpAny_handled ?_);rw [d];dsimp only;rw [if_pos (by simpa using ne)];refine ax (eV (runValue_entry (b:=Builtin.«proto.unchain») (entryFor_of_tree (by kernel_rfl)) ?_));unfold Builtin.«proto.unchain»;dsimp only;refine ax (cV e c aa ?_);rw [if_pos (show (Value.none==Value.none)=.t from Y)];refine a_ #[.none,Y,?_];refine ax ?_;refine ax (tg aA ?_);rw [hd];dsimp only;rw [if_pos f];refine wpAny_update aA ?_;exact wpAny_throw q
theorem stop {Q: α -> Shared->Prop} (a:In A s.heap)
  (q:∀ g e,(∀ b o,s.heap.get? b=some o->g.get? b=some o)->(∃ o,g.get? e=some o/\o.cls=.type "StopIteration")->E (.ref e) { s with heap:=g }) :
  wpAny (model prog w) A ((newExc (.type "StopIteration") []>>=λ x=>raiseNew x):Sem α) Q E s:=by
 refine ax ?_;refine ax (l_ (ax (wpAny_of_eq (by (simp only [firstArgMember];rfl)) (l_ ?_ (by size_fits)))) (by size_fits));rcases a with a|⟨e,a6,vs,U,aa,c,d⟩
 ·exact wpAny_raiseNew_none a (q _ _ (λ b o y=>a9 _ (a9 _ y)) #[_,cJ _ Y,Y])
 ·have lt:=bu aa;refine G5 U (cc (ey lt (by rw [eF];exact jZ _))) (cJ _ Y) rfl (by simp;omega) (a9 _ (a9 _ aa)) c d ?_;refine q _ _ (λ b o y=>?_) #[_,hN _ (cJ _ Y) (kW (iu Y _)),(Obj.cls_mapFields ..).trans Y];have f:=bu y;refine (er _ _ ?_).trans (a9 _ (a9 _ y));intro z;rw [eF] at z;subst z;exact ei _ (qE f)
theorem H6 {items:ee} (c:In A s.heap) (hit:s.heap.IsListIter it l i) (d:s.heap.IsList l items) (ae:items[i]?=.n)
  (q:∀ g e,Heap.ExtBut it s.heap g->(∃ o,g.get? e=some o/\o.cls=.type "StopIteration")->E (.ref e) { s with heap:=g }) :
  wpAny (model prog w) A (Builtin.«list_iterator.__next__» ⟨[.ref it],[]⟩) Q E s:=by
 obtain ⟨o,aA,af,hd⟩:=id hit;obtain ⟨ol,f,_,nl,a⟩:=d;show wpAny _ _ (field (.ref it) 0>>=_) _ _ s;refine ax (cV aA hd Y ?_);show wpAny _ _ (ite ((Value.ref l==Value.none)=.t) _ _) _ _ s;rw [if_neg (wJ _)];refine ax (cV aA hd Y ?_);refine ax (fO f a ?_);simp only [gQ,ae];refine ax (ny (ax (kX aA hd .zs ?_)));have k:=(pj s.heap it (Obj.mapFields (·.setIfInBounds 0 .none))).extBut;exact stop (c.but aA (by rw [hd];exact vX) k) λ g e bI x=>q g e (λ b o nb y=>bI b o (k b o nb y)) x
theorem Hx {items:ee} (c:In A s.heap) (hit:s.heap.IsTupleIter it t i) (d:s.heap.IsTuple t items) (ae:items[i]?=.n)
  (q:∀ g e,Heap.ExtBut it s.heap g->(∃ o,g.get? e=some o/\o.cls=.type "StopIteration")->E (.ref e) { s with heap:=g }) :
  wpAny (model prog w) A (Builtin.«tuple_iterator.__next__» ⟨[.ref it],[]⟩) Q E s:=by
 obtain ⟨o,aA,af,hd⟩:=id hit;obtain ⟨ol,f,_,nl,a⟩:=d;show wpAny _ _ (field (.ref it) 0>>=_) _ _ s;refine ax (cV aA hd Y ?_);show wpAny _ _ (ite ((Value.ref t==Value.none)=.t) _ _) _ _ s;rw [if_neg (wJ _)];refine ax (cV aA hd Y ?_);refine ax (fO f a ?_);simp only [gQ,ae];refine ax (ny (ax (kX aA hd .zs ?_)));have k:=(pj s.heap it (Obj.mapFields (·.setIfInBounds 0 .none))).extBut;exact stop (c.but aA (by rw [hd];exact vX) k) λ g e bI x=>q g e (λ b o nb y=>bI b o (k b o nb y)) x
theorem GY {items:ee} (a:In A s.heap) (hit:s.heap.IsListIter it l i) (b:s.heap.IsList l items) (ae:items[i]?=.n)
  (q:∀ g,Heap.ExtBut it s.heap g->Q .n { s with heap:=g }):wpAny (model prog w) A (pyNext (.ref it)) Q E s:=by
 refine ax (kY (kZ hit.typeIs vL (jk vL hit.typeIs entry_listiter_next ?_ (args_listiter_next _))));exact H6 a hit b ae λ g e bI ⟨o,aA,af⟩=>ax (qF #[o,aA,af] tr (a_ (q g bI)))
theorem AM {items:ee} (a:In A s.heap) (hit:s.heap.IsTupleIter it t i) (b:s.heap.IsTuple t items) (ae:items[i]?=.n)
  (q:∀ g,Heap.ExtBut it s.heap g->Q .n { s with heap:=g }):wpAny (model prog w) A (pyNext (.ref it)) Q E s:=by
 refine ax (kY (kZ hit.typeIs qG (jk qG hit.typeIs zD ?_ (zE _))));exact Hx a hit b ae λ g e bI ⟨o,aA,af⟩=>ax (qF #[o,aA,af] tr (a_ (q g bI)))
theorem H7 {items:ee} (a:In A s.heap) (hit:s.heap.IsListIter it l i) (b:s.heap.IsList l items) (ae:items[i]?=.n)
  (q:∀ g e,Heap.ExtBut it s.heap g->(∃ o,g.get? e=some o/\o.cls=.type "StopIteration")->E (.ref e) { s with heap:=g }):wpAny (model prog w) A (Builtin.SmallTypes.nextOf (.ref it)) Q E s:=by
 exact ax (kZ hit.typeIs vL (jk vL hit.typeIs entry_listiter_next (H6 a hit b ae q) (args_listiter_next _)))
theorem Hy {items:ee} (a:In A s.heap) (hit:s.heap.IsTupleIter it t i) (b:s.heap.IsTuple t items) (ae:items[i]?=.n)
  (q:∀ g e,Heap.ExtBut it s.heap g->(∃ o,g.get? e=some o/\o.cls=.type "StopIteration")->E (.ref e) { s with heap:=g }):wpAny (model prog w) A (Builtin.SmallTypes.nextOf (.ref it)) Q E s:=by
 exact ax (kZ hit.typeIs qG (jk qG hit.typeIs zD (Hx a hit b ae q) (zE _)))
theorem TL {i:Nat} {items:ee} (a:In A s.heap) (he:IsEnum s.heap e it i old) (hit:s.heap.IsListIter it l i) (b:s.heap.IsList l items) (ae:items[i]?=.n)
  (q:∀ g,Heap.ExtBut it s.heap g->Q .n { s with heap:=g }):wpAny (model prog w) A (pyNext (.ref e)) Q E s:=by
 have ty:s.TypeIs (.ref e) "enumerate" := #[_,he,Y]
 refine ax (kY (kZ ty F.slot_enumerate_next (jk F.slot_enumerate_next ty F.entry_enumerate_next ?_ (F.args_enumerate_next_1 _))));show wpAny _ _ (field (.ref e) 2>>=_) _ _ _;refine ax (cV he Y Y (ax (H7 a hit b ae ?_)));rintro g x bI ⟨o,aA,af⟩;exact ax (qF #[o,aA,af] tr (a_ (q _ bI)))
theorem items {items:ee} (c:In A s.heap) (aG:IsTup s.heap t items)
  (q:∀ g,Heap.ExtBut s.heap.objs.size s.heap g->Q items.toList { s with heap:=g }):wpAny (model prog w) A (unpackItems (.ref t) items.size .n) Q E s:=by
 have lt:t≠s.heap.objs.size:=by
  obtain ⟨o,aA,_⟩:=aG;exact cc (bu aA)
 refine ax ?_;refine ax (vM aG.typeIs slot_tuple_iter.lookup (a_ ?_));refine ax (eV (iter_tuple aG (ax (eV (draw_tuple lt items.size 0 _ _ #[_,cJ _ Y,Y,Y] (aG.push _) .au λ g1 gC s1=>?_)))));rw [show List.take items.size (List.drop 0 items.toList)=items.toList by rw [List.drop_zero];exact nz .zs,if_neg .zs];have t1:=(aG.push _).extBut s1.extBut lt;have bI:∀ b o,s.heap.get? b=some o->g1.get? b=some o:=λ b o y=>s1.extBut b o (cc (bu y)) (a9 _ y)
 refine ax (eV (AM (c.kept bI) gC t1 .zs λ g2 a=>?_));exact a_ (q g2 λ b o nb y=>a b o nb (bI b o y))
theorem Vb {k} {items:ee} (a:In A s.heap) (aG:IsTup s.heap t items)
  (ao:(assignEach elts env).length=items.size) (av:(assignEach elts env).findIdx? (·.1)=.n)
  (h:∀ g,Heap.ExtBut s.heap.objs.size s.heap g->wpAny (model prog w) A (assignInOrder ((assignEach elts env).map (·.2)) items.toList) Q E { s with heap:=g }) :
  wpAny (model prog w) A (assign (.Tuple elts k pos) env (.ref t)) Q E s:=by
 rw [assign_Tuple];refine ax (k4 ?_);unfold unpack;rw [ao,av];exact ax (eV (eP.items a aG h))
end
theorem Wq (U:A.handled=some (.ref e)) (l:a6.data=.fields vs) (m:vs[2]?=some .none) (I c) (p:c≠I) (n:e≠I) (items) :
  Walks prog w A I [I,c,e] [I] items.size (λ i v=>items[i]?=some v) (λ i h=>h.IsListIter I c i/\h.IsList c items/\h.get? e=some a6) where
 sub:=λ b a=>by simp at a;simp [a]
 frame:=λ Z Z Z st f=>#[st.1.at λ o y=>f I .zs o y,st.2.1.at λ o y=>f c .zs o y,f e .zs _ st.2.2]
 item:=λ i s Q E ar st d=>by
  refine wpAny_pyNext_list_item st.1 st.2.1 (x:=items[i]) (by simp [ar]) λ g q j=>?_
  exact d _ g s.toks (by simp [ar]) #[q,st.2.1.extBut j.extBut p,j.extBut _ _ n st.2.2] λ b o a y=>j.extBut b o (λ z=>a (by simp [z])) y
 done:=λ s Q E st d=>GY (.inr #[e,a6,vs,U,st.2.2,l,m]) st.1 st.2.1 .zs λ g k=>d g s.toks λ b o a y=>k b o (λ z=>a (by simp [z])) y
 self:=λ Z Z Z Z st d=>wpAny_pyIter_listiter st.1 d
theorem Xb (U:A.handled=some (.ref e)) (l:a6.data=.fields vs) (m:vs[2]?=some .none) (I c) (p:c≠I) (n:e≠I) (items) :
  Walks prog w A I [I,c,e] [I] items.size (λ i v=>items[i]?=some v) (λ i h=>h.IsTupleIter I c i/\h.IsTuple c items/\h.get? e=some a6) where
 sub:=λ b a=>by simp at a;simp [a]
 frame:=λ Z Z Z st f=>#[st.1.at λ o y=>f I .zs o y,st.2.1.at λ o y=>f c .zs o y,f e .zs _ st.2.2]
 item:=λ i s Q E ar st d=>by
  refine wpAny_pyNext_tuple_item st.1 st.2.1 (x:=items[i]) (by simp [ar]) λ g q j=>?_
  exact d _ g s.toks (by simp [ar]) #[q,st.2.1.extBut j.extBut p,j.extBut _ _ n st.2.2] λ b o a y=>j.extBut b o (λ z=>a (by simp [z])) y
 done:=λ s Q E st d=>AM (.inr #[e,a6,vs,U,st.2.2,l,m]) st.1 st.2.1 .zs λ g k=>d g s.toks λ b o a y=>k b o (λ z=>a (by simp [z])) y
 self:=λ Z Z Z Z st d=>wpAny_pyIter_tupleiter st.1 d
section
variable {prog:Program} {w:World} {A:Around} {E:c0} {s:Shared}
theorem max2 (l:In A s.heap)
  (h:∀ g a8,(∀ c o,s.heap.get? c=some o->g.get? c=some o)->Q (if b>a then .int b u else .int a t) { s with heap:=g,toks:=a8 }) :
  wpAny (model prog w) A (call (.builtin "max") [.int a t,.int b u]) Q E s:=by
 rcases l with l|⟨e,a6,vs,U,aa,p,q⟩
 ·exact max_two_ints l h
 have m:(s.heap.push { cls:=.type "tuple", data:=.seq [.int a t,.int b u].toArray }).IsTuple s.heap.objs.size (intItems [(a,t),(b,u)].toArray):=#[_,cJ _ Y,Y,0,by simp [intItems]]
 have lt:=bu aa;have d:(s.heap.push { cls:=.type "tuple", data:=.seq [.int a t,.int b u].toArray }).objs.size=s.heap.objs.size+1:=eF ..;refine call_max_two (nA m #[_,[_,s.heap.objs.size,e],[_],_,_,_,_,Y,Xb (A:=A.in1) U p q _ s.heap.objs.size (by rw [d];exact cc (j0 _)) (by rw [d];exact cc (mh lt)) (intItems [(a,t),(b,u)].toArray),
  #[#[_,cJ _ Y,Y,Y],m.push _,a9 _ (a9 _ aa)],λ c af=>?_,by simp [intItems],CmpOf.ints_gt (numAt [(a,t),(b,u)].toArray) (λ Z Z=>nB),λ v g a8 r x=>?_])
 ·have z:((s.heap.push { cls:=.type "tuple", data:=.seq [.int a t,.int b u].toArray }).push { cls:=.type "tuple_iterator", data:=.fields [.ref s.heap.objs.size,.int 0 0].toArray }).objs.size=s.heap.objs.size+2:=by rw [eF,d]
  rw [z];simp only [bt,da,dc,d] at af;rcases af with af|af|af
  ·rw [af];exact j0 _
  ·rw [af];exact mh (j0 _)
  ·rw [af];exact mh (mh lt)
 ·have hold:∀ c o,s.heap.get? c=some o->g.get? c=some o:=λ c o y=>x c o (λ hm=>by
   have n:=cf.mp hm;have:=bu y;rw [n,d] at this;exact ei _ (qE this)) (a9 _ (a9 _ y))
  have f:(intItems [(a,t),(b,u)].toArray)[argBest (λ i j=>decide (numAt [(a,t),(b,u)].toArray i>numAt [(a,t),(b,u)].toArray j)) 1]?=some v:=by
   have B:(intItems [(a,t),(b,u)].toArray).size-1=1:=by simp [intItems]
   rw [<-B];exact r
  have aI:v=if b>a then Value.int b u else Value.int a t:=by
   by_cases k:b>a
   ·rw [show argBest (λ i j=>decide (numAt [(a,t),(b,u)].toArray i>numAt [(a,t),(b,u)].toArray j)) 1=1 by simp [argBest,numAt,k]] at f;simpa [intItems,k] using f.symm
   ·rw [show argBest (λ i j=>decide (numAt [(a,t),(b,u)].toArray i>numAt [(a,t),(b,u)].toArray j)) 1=0 by simp [argBest,numAt,k]] at f;simpa [intItems,k] using f.symm
  rw [aI];exact h g a8 hold
end
end eP
namespace bj
open PySem PySem.Spec PyProof.Rows
abbrev Key:=Sum Int Str
noncomputable def pd:Key->Value->Bool
 | .inl k,v=>Value.isInt k v
 | .inr x,v=>Value.isStrOf x v
noncomputable def PE (w:World):Key->Int
 | .inl k=>hashInt k
 | .inr x=>hashStr w x
theorem lx:∀ {k:Key} {v:Value},pd k v=.t->(∃ i t,k=Sum.inl i/\v=Value.int i t)\/(∃ x t,k=Sum.inr x/\v=Value.str x t)
 | .inl i,v,h=>by
  obtain ⟨t,e⟩:=Value.isInt_shape h;exact .inl #[i,t,Y,e]
 | .inr x,v,h=>by
  obtain ⟨t,e⟩:=Value.isStrOf_shape h;exact .inr #[x,t,Y,e]
theorem VJ (i) (t):pd (.inl i) (.int i t)=.t:=by simp [pd,Value.isInt]
theorem VK (x) (t):pd (.inr x) (.str x t)=.t:=by simp [pd,Value.isStrOf]
theorem QA (a b):decide ((Sum.inl a:Key)=Sum.inl b)=(a==b):=by
 by_cases e:a=b
 ·subst e;simp
 ·have h:¬ (Sum.inl a:Key)=Sum.inl b:=λ q=>e (Sum.inl.inj q)
  rw [bZ h];exact (nC.mpr e).symm
theorem QD (a b):decide ((Sum.inr a:Key)=Sum.inr b)=decide (a=b):=by
 by_cases e:a=b
 ·subst e;simp
 ·have h:¬ (Sum.inr a:Key)=Sum.inr b:=λ q=>e (Sum.inr.inj q)
  rw [bZ h,bZ e]
theorem QB (a) (b):decide ((Sum.inl a:Key)=Sum.inr b)=.f:=bZ (λ q=>nomatch q)
theorem QC (a) (b):decide ((Sum.inr a:Key)=Sum.inl b)=.f:=bZ (λ q=>nomatch q)
noncomputable def gT (prog:Program) (w:World):PySem.KeyKind prog w Key where
 is:=pd
 hash:=PE w
 inj:=λ v a b ak d=>by
  rcases lx ak with ⟨i,t,rfl,rfl⟩|⟨x,t,rfl,rfl⟩
  ·rcases lx d with ⟨j,u,rfl,e⟩|⟨y,u,rfl,e⟩
   ·injection e with c _;rw [c]
   ·exact nomatch e
  ·rcases lx d with ⟨j,u,rfl,e⟩|⟨y,u,rfl,e⟩
   ·exact nomatch e
   ·injection e with c _;rw [c]
 byValue:=λ k v h=>by
  rcases lx h with ⟨i,t,rfl,rfl⟩|⟨x,t,rfl,rfl⟩<;>rfl
 pyHash:=λ aI h=>by
  rcases lx aI with ⟨i,t,rfl,rfl⟩|⟨x,t,rfl,rfl⟩
  ·exact wpAny_pyHash_int h
  ·exact wpAny_pyHash_str h
 eqBool:=λ f aI h=>by
  rcases lx f with ⟨i,t,rfl,rfl⟩|⟨x,t,rfl,rfl⟩
  ·rcases lx aI with ⟨j,u,rfl,rfl⟩|⟨y,u,rfl,rfl⟩
   ·rw [QA] at h;exact wpAny_eqBool_int h
   ·rw [QB] at h;exact SeqAt.EqAt.int_str i t y u _ _ _ _ h
  ·rcases lx aI with ⟨j,u,rfl,rfl⟩|⟨y,u,rfl,rfl⟩
   ·rw [QC] at h;exact SeqAt.EqAt.str_int x t j u _ _ _ _ h
   ·rw [QD] at h;exact wpAny_eqBool_str h
 «strs»:=λ k x t v h=>by
  rcases lx h with ⟨i,u,rfl,e⟩|⟨y,u,rfl,e⟩
  ·exact nomatch e
  ·injection e with c _;subst c;cases v<;>rfl
theorem Ji (prog) (w) (i) (t):(gT prog w).is (.inl i) (.int i t)=.t:=VJ i t
theorem Jj (prog) (w) (x) (t):(gT prog w).is (.inr x) (.str x t)=.t:=VK x t
inductive V where
 | aQ|aO (b:Bool)|int (i:Int)|str (x:Str)|h8 (b:Array UInt8)|lR (b:UInt64)|ref (a:Addr)|ty (n:String)
 deriving DecidableEq
def RelV:V->Value->Prop
 | .aQ,u=>u=Value.none
 | .aO b,u=>u=Value.bool b
 | .int i,u=>∃ t,u=Value.int i t
 | .str x,u=>∃ t,u=Value.str x t
 | .h8 b,u=>∃ t,u=Value.bytes b t
 | .lR b,u=>∃ t,u=Value.float b t
 | .ref a,u=>u=Value.ref a
 | .ty n,u=>u=Value.type n
abbrev Vals:List V->List Value->Prop:=Paired RelV
theorem Vals.length (r:Vals xs us):xs.length=us.length:=Paired.length r
theorem Vals.get:∀ {xs:List V} {us:List Value} {i:Nat} {x:V},Vals xs us->xs[i]?=some x->∃ u,us[i]?=some u/\RelV x u
 | _,_,_,_,.nil,e=>by simp at e
 | _,_,0,_,.cons r _,e=>by simp at e;subst e;exact #[_,Y,r]
 | _,_,i+1,x,.cons _ t,e=>by
  obtain ⟨u,U,aa⟩:=Vals.get t (by simpa using e);exact #[u,by simpa using U,aa]
theorem Vals.set (r:RelV x u):∀ {xs:List V} {us:List Value} (i:Nat),Vals xs us->Vals (xs.set i x) (us.set i u)
 | _,_,_,.nil=>.nil
 | _,_,0,.cons _ t=>.cons r t
 | _,_,i+1,.cons q t=>.cons q (Vals.set r i t)
theorem Vals.append (h:Vals xs us) (s:Vals ys ws):Vals (xs++ys) (us++ws):=by
 induction h with
 | nil=>exact s
 | cons r t a=>exact .cons r a
theorem Vals.take:∀ {xs:List V} {us:List Value} (n:Nat),Vals xs us->Vals (xs.take n) (us.take n)
 | _,_,0,_=>.nil
 | _,_,_+1,.nil=>.nil
 | _,_,n+1,.cons r t=>.cons r (Vals.take n t)
theorem Vals.drop:∀ {xs:List V} {us:List Value} (n:Nat),Vals xs us->Vals (xs.drop n) (us.drop n)
 | _,_,0,r=>r
 | _,_,_+1,.nil=>.nil
 | _,_,n+1,.cons _ t=>Vals.drop n t
def fJ:Option V->b_->Prop
 | some v,some u=>RelV v u
 | none,.n=>True
 | _,_=>False
def fu:List (κ×V)->List (κ×Value)->Prop:=Paired λ p q=>p.1=q.1/\RelV p.2 q.2
noncomputable def cT:Key->V
 | .inl i=>.int i
 | .inr x=>.str x
inductive eZ where
 | lst (xs:List V)
 | tup (xs:List V)
 | cM (kvs:List (Key×V))|ez (kvs:List (List Key×V))
 | set (S:Int->Bool) (n:Nat)
 | ins (C aE:Addr) (aw:List (Str×V))
 | own (x:Addr)
 | hZ (aw:List (Str×V))
 | met (f x:Addr)
 | vh (lo ar:Int)
 | hH (o:Obj) (u:eZ)
 | l2 (ai:ee)
 | ext (φ : Heap->Prop)
abbrev aD:=Addr->Option eZ
noncomputable def upd (H:aD) (a:Addr) (o:eZ):aD:=λ b=>if b=a then some o else H b
theorem bN:upd H a o a=some o:=by unfold upd;rw [if_pos rfl]
theorem bC (h:b≠a):upd H a o b=H b:=by unfold upd;rw [if_neg h]
theorem Gy:upd (upd H a o) a u=upd H a u:=by
 funext b;unfold upd;split<;>rfl
theorem fo {H:aD} (h:H a=some o) (h':H b=some u) (d:o≠u):a≠b:=by
 intro e;subst e;rw [h] at h';exact d (cE h')
theorem cq {H:aD} (h:H a=some o) (h':H b=.n):a≠b:=by
 intro e;subst e;rw [h] at h';cases h'
section
variable (P:Program) (w:World)
def mj (h:Heap) (a:Addr) (items:ee):Prop:=∃ o,h.get? a=some o/\o.cls=.type "tuple" /\ (∃ n,o.data=.seq items n)/\o.dict=.n
theorem mj.up:mj h a items->IsTup h a items:=(by rintro ⟨o,e,c,d,_⟩;exact #[o,e,c,d])
theorem mj.lt:mj h a items->a<h.objs.size:=(by rintro ⟨_,e,_⟩;exact bu e)
theorem mj.new (h:Heap) (items):mj (h.push { cls:=.type "tuple", data:=.seq items }) h.objs.size items:=#[_,cJ _ Y,Y,#[_,Y],Y]
def eh (H:aD) (h:Heap) (a:Addr):eZ->Prop
 | .lst xs=>xs.length<=sizeLine/\∃ (b:List Value) (n:Nat),Vals xs b/\h.get? a=some { cls:=.type "list", data:=.seq b.toArray n }
 | .tup xs=>xs.length<=sizeLine/\∃ b:List Value,Vals xs b/\mj h a b.toArray
 | .cM kvs=>kvs.length<=sizeLine/\(a==sysModules)=.f/\∃ vs,fu kvs vs/\h.DictOf (gT P w) a vs
 | .ez kvs=>kvs.length<=sizeLine/\(a==sysModules)=.f/\∃ xs:List (List Key×Addr×Value),
   Paired (λ (p:List Key×V) (q:List Key×Addr×Value)=>p.1=q.1/\H q.2.1=some (.tup (p.1.map cT))/\RelV p.2 q.2.2) kvs xs /\
   ∃ o aj c,h.get? a=some o/\o.ExactDict/\o.data=.dict aj c/\aj.toList=xs.map (entryOfKey (tupleKind (gT P w)))/\(xs.map (·.1)).Nodup
 | .set S n=>h.SetOf (intKind P w) a S n
 | .ins C aE aw=>H aE=some (.own a)/\aw.length<=1000/\aE≠a/\h.get? a=some (PySem.W.instObj C aE) /\
   ∃ cY,h.Ns1 aE cY/\(∀ f,fJ (aw.lookup f) (cY f))/\PySem.Within cY (aw.map (·.1))
 | .own _=>∃ o,h.get? a=some o
 | .hZ aw=>∃ cY,h.Ns1 a cY/\∀ f,fJ (aw.lookup f) (cY f)
 | .vh lo ar=>∃ t u v,h.get? a=some { cls:=.type "range", data:=.fields [.int lo t,.int ar u,.int 1 v].toArray }
 | .hH o u=>h.get? a=some o/\eh H h a u
 | .l2 ai=>h.get? a=some { cls:=.none,data:=.fields ai }
 | .met f x=>h.get? a=some (PySem.W.methodObj (.ref f) (.ref x))
 | .ext φ => φ h/\(∃ o,h.get? a=some o)/\∀ U aa:Heap,φ U->(∀ o,U.get? a=some o->aa.get? a=some o) -> φ aa
def cU (H:aD) (h:Heap):Prop:=∀ a o,H a=some o->eh P w H h a o
end
section
variable {P:Program} {w:World} {H H':aD} {h h':Heap} {a:Addr} {o:eZ}
theorem eh.lt (x:eh P w H h a o):a<h.objs.size:=by
 cases o with
 | lst xs=>obtain ⟨_,_,_,_,e⟩:=x;exact bu e
 | tup xs=>obtain ⟨_,_,_,p⟩:=x;exact p.lt
 | cM kvs=>obtain ⟨_,_,_,_,o,_,_,e,_⟩:=x;exact bu e
 | ez kvs=>obtain ⟨_,_,_,_,o,_,_,e,_⟩:=x;exact bu e
 | set S n=>obtain ⟨o,_,_,_,e,_⟩:=x;exact bu e
 | ins C aE aw=>obtain ⟨_,_,_,e,_⟩:=x;exact bu e
 | own y=>obtain ⟨_,e⟩:=x;exact bu e
 | hZ aw=>obtain ⟨_,⟨_,_,_,e,_⟩,_⟩:=x;exact bu e
 | vh lo ar=>obtain ⟨_,_,_,e⟩:=x;exact bu e
 | hH bD u=>obtain ⟨e,_⟩:=x;exact bu e
 | l2 ai=>exact bu (show h.get? a=some _ from x)
 | met f y=>exact bu (show h.get? a=some _ from x)
 | ext φ => obtain ⟨_,⟨_,e⟩,_⟩:=x;exact bu e
theorem Paired.Ej (h:Paired F l₁ l₂) (f:∀ a b,F a b->G a b):Paired G l₁ l₂:=by
 induction h with
 | nil=>exact .nil
 | cons r t c=>exact .cons (f _ _ r) c
theorem eh.ij (x:eh P w H h a o) (k:∀ b u,(b=a\/H b=some (.own a))->h.get? b=some u->h'.get? b=some u)
  (aA:∀ b,H b=some (.own a)->H' b=some (.own a)) (aG:∀ b xs,H b=some (.tup xs)->H' b=some (.tup xs)):eh P w H' h' a o:=by
 induction o with
 | lst xs=>obtain ⟨z,i,n,r,e⟩:=x;exact #[z,i,n,r,k _ _ (.inl Y) e]
 | tup xs=>obtain ⟨z,i,r,bD,e,c⟩:=x;exact #[z,i,r,bD,k _ _ (.inl Y) e,c]
 | cM kvs=>obtain ⟨z,y,vs,r,bD,aj,g,e,c⟩:=x;exact #[z,y,vs,r,bD,aj,g,k _ _ (.inl Y) e,c]
 | ez kvs =>
  obtain ⟨z,y,xs,r,bD,aj,g,e,c⟩:=x;exact #[z,y,xs,Paired.Ej r λ p q z=>#[z.1,aG _ _ z.2.1,z.2.2],bD,aj,g,k _ _ (.inl Y) e,c]
 | set S n=>obtain ⟨bD,aj,g,t,e,c⟩:=x;exact #[bD,aj,g,t,k _ _ (.inl Y) e,c]
 | ins C aE aw =>
  obtain ⟨d,z,ne,e,cY,⟨cH,aj,g,j,c⟩,r⟩:=x;exact #[aA _ d,z,ne,k _ _ (.inl Y) e,cY,#[cH,aj,g,k _ _ (.inr d) j,c],r]
 | own y=>obtain ⟨bD,e⟩:=x;exact #[bD,k _ _ (.inl Y) e]
 | hZ aw=>obtain ⟨cY,⟨cH,aj,g,e,c⟩,r⟩:=x;exact #[cY,#[cH,aj,g,k _ _ (.inl Y) e,c],r]
 | vh lo ar=>obtain ⟨t,u,v,e⟩:=x;exact #[t,u,v,k _ _ (.inl Y) e]
 | hH bD u l=>obtain ⟨e,q⟩:=x;exact #[k _ _ (.inl Y) e,l q]
 | l2 ai =>
  have e:h.get? a=some { cls:=.none,data:=.fields ai }:=x;show h'.get? a=some { cls:=.none,data:=.fields ai };exact k a _ (.inl Y) e
 | met f y =>
  have e:h.get? a=some (PySem.W.methodObj (.ref f) (.ref y)):=x;show h'.get? a=some (PySem.W.methodObj (.ref f) (.ref y));exact k a _ (.inl Y) e
 | ext φ => obtain ⟨p,⟨o,e⟩,st⟩:=x;exact #[st _ _ p λ o q=>k _ _ (.inl Y) q,#[o,k _ _ (.inl Y) e],st]
theorem cU.lt (x:cU P w H h) (e:H a=some o):a<h.objs.size:=(x a o e).lt
theorem cU.fresh (x:cU P w H h) (e:h.objs.size<=a):H a=.n:=by
 cases q:H a with
 | none=>rfl
 | some u=>exact absurd (ey (x.lt q) e) (ei _)
theorem cU.kept (x:cU P w H h) (k:∀ b u,h.get? b=some u->h'.get? b=some u):cU P w H h':=λ a o e=>
 (x a o e).ij (λ b u Z q=>k b u q) (λ Z q=>q) λ Z Z q=>q
theorem cU.laid (x:cU P w H h) (k:∀ b u,h.get? b=some u->h'.get? b=some u) (ah:h.objs.size<=a) (new:eh P w (upd H a o) h' a o):cU P w (upd H a o) h':=λ b u e=>by
 have ao:=x.fresh ah;by_cases d:b=a
 ·subst d;rw [bN] at e;cases e;exact new
 ·rw [bC d] at e;exact (x b u e).ij (λ c v Z q=>k c v q) (λ c q=>by rw [bC (cq q ao)];exact q) λ c xs q=>by rw [bC (cq q ao)];exact q
end
def ko (H:aD) (a:Addr) (u:eZ):Prop:=H a=some u\/∃ o,H a=some (.hH o u)
theorem ko.ok (r:ko H a u) (x:cU P w H h):eh P w H h a u:=by
 rcases r with r|⟨o,r⟩
 ·exact x a u r
 ·obtain ⟨_,q⟩:=x a _ r;exact q
def sm:Option eZ->Prop
 | some (.lst _)=>True
 | some (.cM _)=>True
 | some (.ez _)=>True
 | some (.set _ _)=>True
 | some (.ins _ _ _)=>True
 | some (.ext _)=>True
 | _=>False
section
variable {P:Program} {w:World} {H:aD} {h h':Heap} {x e:Addr} {cZ:eZ}
theorem cU.write (ok:cU P w H h) (f:sm (H x)) (he:e=x\/H e=some (.own x)) (k:∀ b u,b≠e->h.get? b=some u->h'.get? b=some u) (i:∃ u,h'.get? e=some u)
  (new:eh P w (upd H x cZ) h' x cZ):cU P w (upd H x cZ) h':=λ b u q=>by
 have g:∀ c y,H c=some (.own y)->c≠x:=λ c y r z=>by subst z;rw [r] at f;exact f
 have j:∀ c xs,H c=some (.tup xs)->c≠x:=λ c xs r z=>by subst z;rw [r] at f;exact f
 by_cases a:b=x
 ·subst a;rw [bN] at q;cases q;exact new
 ·rw [bC a] at q;by_cases d:b=e
  ·have aR:H b=some (.own x):=by
    rcases he with z|z
    ·exact absurd (d.trans z) a
    ·rw [d];exact z
   rw [q] at aR;cases aR;obtain ⟨v,aI⟩:=i;exact #[v,by rw [d];exact aI]
  ·refine (ok b u q).ij (λ c v af r=>k c v ?_ r) (λ c r=>by rw [bC (g c b r)];exact r) λ c xs r=>by rw [bC (j c xs r)];exact r
   rcases af with rfl|af
   ·exact d
   ·rintro rfl;rcases he with z|z
    ·exact g c b af z
    ·rw [af] at z;cases z;exact a rfl
end
structure cX (aw ex:List Addr) (H H':aD) (h h':Heap):Prop where
 keep:∀ b o,h.get? b=some o->H b=.n->b∉aw->b∉ex->h'.get? b=some o
 slot:∀ b o,h.get? b=some o->H b=.n->b∈aw->b∉ex->∃ cu,h'.get? b=some { o with slots:=cu }
 free:∀ b o,h.get? b=some o->H b=.n->b∉ex->H' b=.n
 there:∀ b o,h.get? b=some o->b∉ex->∃ cZ,h'.get? b=some cZ
 ha:∀ b xs,H b=some (.tup xs)->H' b=some (.tup xs)
 gH:∀ b o u,H b=some (.hH o u)->H' b=some (.hH o u)
 g_:∀ b ai,H b=some (.l2 ai)->∃ more,H' b=some (.l2 (ai++more))
section
variable {aw kJ ex C3:List Addr} {H H1 aq:aD} {h U aa h':Heap} {a x e:Addr} {o:eZ}
theorem cX.any (u:cX aw ex H H1 h U) (q:h.get? b=some bD) (n:H b=.n) (ae:b∉ex):∃ cu,U.get? b=some { bD with slots:=cu }:=by
 by_cases c:b∈aw
 ·exact u.slot b bD q n c ae
 ·exact #[bD.slots,u.keep b bD q n c ae]
theorem cX.kept (k:∀ b u,h.get? b=some u->h'.get? b=some u):cX aw ex H H h h' :=
 #[λ b bD q Z Z Z=>k b bD q,λ b bD q Z Z Z=>#[bD.slots,k b bD q],λ Z Z Z n Z=>n,λ b bD q Z=>#[bD,k b bD q],λ Z Z q=>q,λ Z Z Z q=>q,λ Z ai q=>#[#[],by rw [q];simp]]
theorem cX.refl:cX aw ex H H h h:=cX.kept λ Z Z q=>q
theorem cX.laid (k:∀ b u,h.get? b=some u->h'.get? b=some u) (ah:h.objs.size<=a) (ao:H a=.n):cX aw ex H (upd H a o) h h' where
 keep:=λ b u q Z Z Z=>k b u q
 slot:=λ b u q Z Z Z=>#[u.slots,k b u q]
 free:=λ b u q n Z=>by rw [bC (cc (ey (bu q) ah))];exact n
 there:=λ b u q Z=>#[u,k b u q]
 ha:=λ b xs q=>by rw [bC (cq q ao)];exact q
 gH:=λ b u xs q=>by rw [bC (cq q ao)];exact q
 g_:=λ b ai q=>#[#[],by rw [bC (cq q ao),q];simp]
theorem cX.write (c:sm (H x)) (he:e=x\/H e=some (.own x)) (k:∀ b u,b≠e->h.get? b=some u->h'.get? b=some u) (g:∃ u,h'.get? e=some u):cX aw ex H (upd H x o) h h':=by
 have ae:∀ b,H b=.n->b≠x:=λ b n z=>by subst z;rw [n] at c;exact c
 have d:∀ b,H b=.n->b≠e:=λ b n z=>by
  subst z;rcases he with r|r
  ·exact ae b n r
  ·rw [n] at r;cases r
 have hm:∀ b u,H b=some u->¬ sm (some u)->b≠x:=λ b u q nm z=>by subst z;rw [q] at c;exact nm c
 refine #[λ b u q n Z Z=>k b u (d b n) q,λ b u q n Z Z=>#[u.slots,k b u (d b n) q],λ b u q n Z=>by rw [bC (ae b n)];exact n,λ b u q Z=>?_,
  λ b xs q=>by rw [bC (hm b _ q λ z=>z)];exact q,λ b u xs q=>by rw [bC (hm b _ q λ z=>z)];exact q,λ b ai q=>#[#[],by rw [bC (hm b _ q λ z=>z),q];simp]]
 by_cases f:b=e
 ·subst f;exact g
 ·exact #[u,k b u f q]
end
noncomputable def vm (h:Heap) (H:aD):List Addr:=(List.range h.objs.size).filter λ a=>(H a).isSome
noncomputable def l7 (h:Heap) (H:aD):Heap:=PySem.W.hideAll h (vm h H)
theorem VE (h) (H):(l7 h H).objs.size=h.objs.size:=PySem.W.hideAll_size _ _
theorem TV (e:h.get? b=some o) (n:H b=.n):(l7 h H).get? b=some o :=
 PySem.W.hideAll_get _ e λ hm=>by
  have q:=(hO.mp hm).2;rw [n] at q;simp at q
theorem R8 (e:(l7 h H).get? b=some o):h.get? b=some o/\H b=.n:=by
 have a:=PySem.W.of_hideAll (vm h H) e;refine #[a,?_];cases q:H b with
 | none=>rfl
 | some x =>
  have hm:b∈vm h H:=hO.mpr #[nD.mpr (bu a),by simp [q]];have z:(l7 h H).get? b=.n:=PySem.W.hideAll_none (vm h H) hm;rw [z] at e;cases e
structure Mod (K:aP) (mg:Str->b_) (base:Heap):Prop where
 g5:K.In base
 glob:base.Ns mainGlobals mg
 blt:∃ jJ,base.Ns builtinsNs jJ/\∀ x:Str,x ≠ "__name__" -> jJ x=bootBuiltins x
 nolimit:base.NoLimit
structure aW where
 prog:Program
 w:World
 K:aP
 mg:Str->b_
 base:Heap
 A:Around
 N:bA
 s₀:Shared
 H₀:aD
 env:Env
 outer:List Env
 stack:List Env
 ex:List Addr
 fn:Str->Bool
 calm:Bool
 warm:Bool
 gA:ef
 a5:Value->Shared->Prop
noncomputable def cz (l:List Env):List Addr:=l.filterMap (·.frame)
noncomputable abbrev aW.aw (X:aW):List Addr:=cz X.outer
def sr (sc:Scope) (x:Str):Prop:=sc.names.lookup x=some .local\/sc.names.lookup x=some .cell\/sc.names.lookup x=some .free
def Loc (sc:Scope) (x:Str):Prop:=sc.names.lookup x=some .local\/sc.names.lookup x=some .cell
def Look (env:Env) (h:Heap) (m:Str->b_) (x:Str) (u:Value):Prop :=
 (env.kindOf x=some .local/\m x=some u)\/((env.kindOf x=some .cell\/env.kindOf x=some .free)/\∃ c,env.cells.lookup x=some c/\h.IsCell c (some u))
def qp (A:Around) (h:Heap) (H:aD) (aw ex:List Addr):Prop :=
 A.handled=.n\/∃ (e:Addr) (a6:Obj) (vs:ee),A.handled=some (.ref e)/\h.get? e=some a6/\H e=.n/\e∉aw/\e∉ex/\a6.data=.fields vs/\vs[2]?=some .none
structure aW.Ok (X:aW):Prop where
 mod:Mod X.K X.mg X.base
 kind:X.env.scope.kind=.function
 glob:X.env.globals=mainGlobals
 blt:X.env.builtins=builtinsNs
 above:X.s₀.heap.objs.size<=X.env.locals
 inj:∀ x y c,X.env.cells.lookup x=some c->X.env.cells.lookup y=some c->x=y
 has:∀ x,(X.env.kindOf x=some .cell\/X.env.kindOf x=some .free)->∃ c,X.env.cells.lookup x=some c
 kG:∀ x c,X.fn x=.t->X.env.cells.lookup x=some c->X.s₀.heap.objs.size<=c
 hd:(X.calm=.t->X.A.handled=.n)/\(X.warm=.t->qp X.A X.s₀.heap X.H₀ X.aw X.ex)
 frames:X.A.frames=some X.stack
 l0:X.stack=X.outer\/(X.stack=X.env::X.outer/\X.env.frame=some X.env.locals)
 oF:∀ b∈X.ex,b≠X.env.locals/\∀ x c,X.env.cells.lookup x=some c->c≠b
 bs:∀ b o,X.base.get? b=some o->X.s₀.heap.get? b=some o/\X.H₀ b=.n
 fI:X.base.objs.size<=X.s₀.heap.objs.size
 ji:∀ b o,X.base.get? b=some o->b∉X.ex
 l6:∀ b∈X.ex,b∉X.aw
 f5:X.s₀.heap.FunFrames X.base X.outer
 ia:∀ b∈X.aw,X.H₀ b=.n
structure Inv (X:aW) (pins:ef) (σ:List (Option V)) (H:aD) (s:Shared):Prop where
 ok:X.Ok
 os:s.os=X.s₀.os
 bare:AllBare s.gens
 base:cX X.aw X.ex X.H₀ H X.s₀.heap s.heap
 loc:∃ m,s.heap.Ns X.env.locals m/\∀ (i:Nat) (x:Str) (v:V),X.N[i]?=some x->σ[i]?=some (some v)->sr X.env.scope x->∃ u,RelV v u/\Look X.env s.heap m x u
 cell:∀ x c,X.env.cells.lookup x=some c->∃ v,s.heap.IsCell c v
 free:H X.env.locals=.n
 fm:∀ x c,X.env.cells.lookup x=some c->H c=.n
 pin:∀ p∈X.gA++pins,s.heap.get? p.1=some p.2/\H p.1=.n/\p.1≠X.env.locals/\p.1∉X.aw/\∀ v,p.2.data≠.cell v
 aK:cU X.prog X.w H s.heap
 len:σ.length=X.N.length
section
variable {X:aW} {pins:ef} {σ:List (Option V)} {H H':aD} {s:Shared} {h':Heap}
theorem aW.Ok.PJ (ok:X.Ok) (e:X.base.get? b=some o):b∉X.aw:=λ a=>by
 have:=(ok.f5.mem a).1;rw [e] at this;cases this
theorem Inv.bs (I:Inv X pins σ H s):∀ b o,X.base.get? b=some o->s.heap.get? b=some o/\H b=.n:=λ b o e=>
 #[I.base.keep b o (I.ok.bs b o e).1 (I.ok.bs b o e).2 (I.ok.PJ e) (I.ok.ji b o e),I.base.free b o (I.ok.bs b o e).1 (I.ok.bs b o e).2 (I.ok.ji b o e)]
theorem Inv.bl (I:Inv X pins σ H s):∀ b o,X.base.get? b=some o->s.heap.get? b=some o:=λ b o e=>(I.bs b o e).1
theorem Inv.mod (I:Inv X pins σ H s):Mod X.K X.mg X.base:=I.ok.mod
theorem Inv.Pr (I:Inv X pins σ H s) (hw:X.warm=.t):qp X.A s.heap H X.aw X.ex :=
 (I.ok.hd.2 hw).imp id (by rintro ⟨e,a6,vs,U,aa,b,c,a,r⟩;exact #[e,a6,vs,U,I.base.keep e a6 aa b c a,I.base.free e a6 aa b a,c,a,r])
theorem Inv.fY (I:Inv X pins σ H s) (hw:X.warm=.t):eP.In X.A s.heap :=
 (I.Pr hw).imp id (by rintro ⟨e,a6,vs,U,aa,_,_,_,r⟩;exact #[e,a6,vs,U,aa,r])
theorem Inv.cA (I:Inv X pins σ H s):X.K.In s.heap:=I.ok.mod.g5.keeps I.bl
theorem Inv.lt (I:Inv X pins σ H s):X.env.locals<s.heap.objs.size:=let ⟨_,ao,_⟩:=I.loc;ao.lt
theorem Inv.fe (I:Inv X pins σ H s):X.s₀.heap.objs.size<=s.heap.objs.size:=dF I.ok.above (vN I.lt)
theorem Inv.PK (I:Inv X pins σ H s) {a:Addr} (h:s.heap.objs.size<=a):a∉X.aw:=λ b=>by
 obtain ⟨_,o,aA,_⟩:=I.ok.f5.mem b;exact absurd (ey (bu aA) (dF I.fe h)) (ei _)
theorem Inv.lQ (I:Inv X pins σ H s):∀ x c,X.env.cells.lookup x=some c->c≠X.env.locals:=λ x c e z=>by
 obtain ⟨v,o,aA,hd⟩:=I.cell x c e;obtain ⟨m,⟨cZ,aj,d,b,a,_⟩,_⟩:=I.loc;rw [z,b] at aA;cases aA;rw [a] at hd;cases hd
theorem Inv.f5 (I:Inv X pins σ H s):s.heap.FunFrames X.base X.outer:=by
 have all:∀ l,(∀ b∈cz l,b∈X.aw)->X.s₀.heap.FunFrames X.base l->s.heap.FunFrames X.base l:=by
  intro l
  induction l with
  | nil=>intro _ _;trivial
  | cons env r h =>
   intro av f;obtain ⟨d,⟨L,o,hf,ao,aA,hd⟩,g⟩:=f;have a:=av L (by unfold cz;rw [List.filterMap_cons,hf];exact dn);obtain ⟨cu,e⟩:=I.base.slot L o aA (I.ok.ia L a) a λ z=>I.ok.l6 L z a
   exact #[d,#[L,_,hf,ao,e,hd],h (λ b c=>av b (by unfold cz;rw [List.filterMap_cons,hf];exact de _ c)) g]
 exact all X.outer (λ Z c=>c) I.ok.f5
theorem Inv.stack (I:Inv X pins σ H s):s.heap.FunFrames X.base X.stack:=by
 rcases I.ok.l0 with e|⟨e,hf⟩
 ·rw [e];exact I.f5
 ·rw [e];obtain ⟨m,ao,_⟩:=I.loc;refine .cons (by rw [I.ok.kind];decide) hf ao ?_ I.f5;exact nE (dF I.ok.fI I.ok.above)
theorem Inv.j5 (I:Inv X pins σ H s):∀ b∈cz X.stack,b∈X.env.locals::X.aw:=λ b a=>by
 rcases I.ok.l0 with e|⟨e,hf⟩
 ·rw [e] at a;exact de _ a
 ·rw [e] at a;unfold cz at a;rw [List.filterMap_cons,hf] at a;exact a
theorem Inv.u7 (I:Inv X pins σ H s) (hw:X.warm=.t) (f:∀ b∈aF,b∈X.ex\/X.s₀.heap.objs.size<=b):qp X.A s.heap H (cz X.stack) aF :=
 (I.ok.hd.2 hw).imp id λ ⟨e,a6,vs,U,aa,c,d,a,r⟩=>#[e,a6,vs,U,I.base.keep e a6 aa c d a,I.base.free e a6 aa c a,
  λ z=>(bt.mp (I.j5 e z)).elim (λ q=>absurd (ey (bu aa) (by rw [q];exact I.ok.above)) (ei _)) d,
  λ z=>(f e z).elim a λ q=>absurd (ey (bu aa) q) (ei _),r]
theorem Inv.ix (I:Inv X pins σ H s):∀ b∈cz X.stack,H b=.n:=λ b a=>by
 rcases bt.mp (I.j5 b a) with e|a
 ·rw [e];exact I.free
 ·obtain ⟨_,o,aA,_⟩:=I.ok.f5.mem a;exact I.base.free b o aA (I.ok.ia b a) λ z=>I.ok.l6 b z a
theorem Inv.step {ch:List Addr} (I:Inv X pins σ H s)
  (h:∀ b∈ch,(b∈X.ex\/X.s₀.heap.objs.size<=b)/\b≠X.env.locals/\(∀ x c,X.env.cells.lookup x=some c->c≠b)/\∀ p∈X.gA++pins,p.1≠b)
  (keep:∀ b o,b≠X.env.locals->b∉X.aw->b∉ch->s.heap.get? b=some o->H b=.n->h'.get? b=some o)
  (slot:∀ b o,b≠X.env.locals->b∈X.aw->b∉ch->s.heap.get? b=some o->H b=.n->∃ cu,h'.get? b=some { o with slots:=cu }) (free:∀ b o,b∉ch->s.heap.get? b=some o->H b=.n->H' b=.n)
  (there:∀ b o,b∉ch->s.heap.get? b=some o->∃ cZ,h'.get? b=some cZ)
  (ha:∀ b xs,H b=some (.tup xs)->H' b=some (.tup xs)) (gH:∀ b o u,H b=some (.hH o u)->H' b=some (.hH o u)) (g_:∀ b ai,H b=some (.l2 ai)->∃ more,H' b=some (.l2 (ai++more)))
  (ns:∀ m,s.heap.Ns X.env.locals m->h'.Ns X.env.locals m) (aK:cU X.prog X.w H' h') (D:AllBare C) :
  Inv X pins σ H' { s with heap:=h',gens:=C,drawn:=b4,toks:=t' }:=by
 have y:∀ b o,X.s₀.heap.get? b=some o->b≠X.env.locals:=λ b o e=>cc (ey (bu e) I.ok.above)
 have t:∀ b o,X.s₀.heap.get? b=some o->b∉X.ex->b∉ch:=λ b o e ae f=>by
  rcases (h b f).1 with z|z
  ·exact ae z
  ·exact absurd (ey (bu e) z) (ei _)
 have cellK:∀ x c,X.env.cells.lookup x=some c->∀ v,s.heap.IsCell c v->h'.IsCell c v:=λ x c e v ⟨o,aA,hd⟩=>by
  have j:c∉ch:=λ z=>(h c z).2.2.1 x c e rfl
  by_cases af:c∈X.aw
  ·obtain ⟨cu,q⟩:=slot c o (I.lQ x c e) af j aA (I.fm x c e);exact #[_,q,hd]
  ·exact #[o,keep c o (I.lQ x c e) af j aA (I.fm x c e),hd]
 refine #[I.ok,I.os,D,#[λ b o e n f ae=>?_,λ b o e n f ae=>?_,λ b o e n ae=>?_,λ b o e ae=>?_,λ b xs e=>ha b xs (I.base.ha b xs e),λ b o xs e=>gH b o xs (I.base.gH b o xs e),λ b ai e=>?_],?_,λ x c e=>?_,?_,λ x c e=>?_,λ p ah=>?_,aK,I.len]
 ·exact keep b o (y b o e) f (t b o e ae) (I.base.keep b o e n f ae) (I.base.free b o e n ae)
 ·obtain ⟨cu,a⟩:=I.base.slot b o e n f ae;obtain ⟨L,g⟩:=slot b _ (y b o e) f (t b o e ae) a (I.base.free b o e n ae);exact #[L,g]
 ·obtain ⟨cZ,a⟩:=I.base.there b o e ae;exact free b cZ (t b o e ae) a (I.base.free b o e n ae)
 ·obtain ⟨cZ,a⟩:=I.base.there b o e ae;exact there b cZ (t b o e ae) a
 ·obtain ⟨G,a⟩:=I.base.g_ b ai e;obtain ⟨aC,g⟩:=g_ b _ a;exact #[G++aC,by rw [g,Array.append_assoc]]
 ·obtain ⟨m,ao,E⟩:=I.loc;refine #[m,ns m ao,λ i x v a g B=>?_];obtain ⟨u,r,l⟩:=E i x v a g B;refine #[u,r,?_];rcases l with l|⟨k,c,e,z⟩
  ·exact .inl l
  ·exact .inr #[k,c,e,cellK x c e _ z]
 ·obtain ⟨v,z⟩:=I.cell x c e;exact #[v,cellK x c e v z]
 ·obtain ⟨m,⟨o,_,_,aA,_⟩,_⟩:=I.loc;exact free _ o (λ z=>(h _ z).2.1 Y) aA I.free
 ·obtain ⟨v,o,aA,hd⟩:=I.cell x c e;exact free c o (λ z=>(h c z).2.2.1 x c e Y) aA (I.fm x c e)
 ·obtain ⟨e,n,ne,A,d⟩:=I.pin p ah;have j:p.1∉ch:=λ z=>(h p.1 z).2.2.2 p ah rfl
  exact #[keep p.1 p.2 ne A j e n,free p.1 p.2 j e n,ne,A,d]
theorem Inv.un (I:Inv X pins σ H s) (u:cX X.aw [] H H' s.heap h') (aK:cU X.prog X.w H' h'):Inv X pins σ H' { s with heap:=h',toks:=t' }:=by
 obtain ⟨m,⟨o,aj,i,aA,r⟩,_⟩:=id I.loc;obtain ⟨cu,g⟩:=u.any aA I.free .zs;exact I.step (ch:=[]) (λ Z z=>nomatch z) (λ b o Z a Z e n=>u.keep b o e n a .zs) (λ b o Z a Z e n=>u.slot b o e n a .zs) (λ b o Z e n=>u.free b o e n .zs) (λ b o Z e=>u.there b o e .zs) u.ha u.gH u.g_ (λ j hm=>by
  obtain ⟨cZ,f,d,c,h⟩:=hm;rw [aA] at c;cases c;exact #[_,f,d,g,h]) aK I.bare
theorem Inv.call (I:Inv X pins σ H s) (u:cX (cz X.stack) ch H H' s.heap h') (aK:cU X.prog X.w H' h') (k:AllBare i)
  (d:∀ b∈ch,(b∈X.ex\/X.s₀.heap.objs.size<=b)/\b≠X.env.locals/\(∀ x c,X.env.cells.lookup x=some c->c≠b)/\∀ p∈X.gA++pins,p.1≠b) :
  Inv X pins σ H' { s with heap:=h',gens:=i,drawn:=b4,toks:=t' }:=by
 obtain ⟨m,⟨o,aj,q,aA,r⟩,_⟩:=id I.loc;obtain ⟨cu,a⟩:=u.any aA I.free λ z=>(d _ z).2.1 rfl
 exact I.step d (λ b o a j af e n=>u.keep b o e n (λ z=>(bt.mp (I.j5 b z)).elim a j) af) (λ b o Z Z af e n=>u.any e n af) (λ b o af e n=>u.free b o e n af) (λ b o af e=>u.there b o e af) u.ha u.gH u.g_ (λ t hm=>by
  obtain ⟨cZ,h,g,f,l⟩:=hm;rw [aA] at f;cases f;exact #[_,h,g,a,l]) aK k
theorem Inv.turned (I:Inv X pins σ H s) (k:∀ b o,b≠it->s.heap.get? b=some o->h'.get? b=some o) (ao:H it=.n) (a:it≠X.env.locals)
  (U:it∈X.ex\/X.s₀.heap.objs.size<=it) (aa:∀ x c,X.env.cells.lookup x=some c->c≠it) (g:∀ p∈X.gA++pins,p.1≠it):Inv X pins σ H { s with heap:=h',toks:=t' }:=by
 have d:∀ b u,H b=some u->b≠it:=λ b u e z=>by rw [z,ao] at e;cases e
 refine I.step (ch:=[it]) (λ b h=>?_) (λ b o Z Z af e Z=>k b o (λ z=>af (by simp [z])) e) (λ b o Z Z af e Z=>#[o.slots,k b o (λ z=>af (by simp [z])) e]) (λ Z Z Z Z n=>n)
  (λ b o af e=>#[o,k b o (λ z=>af (by simp [z])) e]) (λ Z Z e=>e) (λ Z Z Z e=>e) (λ b ai e=>#[#[],by rw [e];simp]) (λ m hm=>?_) (λ b u e=>?_) I.bare
 ·have e:b=it:=by simpa using h
  subst e;exact #[U,a,aa,g]
 ·obtain ⟨o,aj,f,aA,r⟩:=hm;exact #[o,aj,f,k _ o (dz a) aA,r]
 ·refine (I.aK b u e).ij (λ c v af q=>k c v ?_ q) (λ Z q=>q) λ Z Z q=>q
  rcases af with z|z
  ·rw [z];exact d b u e
  ·exact d c _ z
theorem Inv.tok (I:Inv X pins σ H s) (t):Inv X pins σ H { s with toks:=t }:=I.un cX.refl I.aK
theorem Inv.kept (I:Inv X pins σ H s) (k:∀ b u,s.heap.get? b=some u->h'.get? b=some u):Inv X pins σ H { s with heap:=h',toks:=t' }:=I.un (cX.kept k) (I.aK.kept k)
theorem Inv.laid {a:Addr} (I:Inv X pins σ H s) (k:∀ b u,s.heap.get? b=some u->h'.get? b=some u) (ah:s.heap.objs.size<=a) (new:eh X.prog X.w (upd H a o) h' a o) :
  Inv X pins σ (upd H a o) { s with heap:=h',toks:=t' }:=I.un (cX.laid k ah (I.aK.fresh ah)) (I.aK.laid k ah new)
theorem Inv.write (I:Inv X pins σ H s) (c:sm (H x)) (he:e=x\/H e=some (.own x)) (k:∀ b u,b≠e->s.heap.get? b=some u->h'.get? b=some u) (a:∃ u,h'.get? e=some u)
  (new:eh X.prog X.w (upd H x o) h' x o):Inv X pins σ (upd H x o) { s with heap:=h',toks:=t' }:=I.un (cX.write c he k a) (I.aK.write c he k a new)
theorem Inv.F8 (I:Inv X pins σ H s) (h:∀ p∈iq,s.heap.get? p.1=some p.2/\H p.1=.n/\p.1≠X.env.locals/\p.1∉X.aw/\∀ v,p.2.data≠.cell v):Inv X iq σ H s :=
 #[I.ok,I.os,I.bare,I.base,I.loc,I.cell,I.free,I.fm,λ p ah=>(fA.mp ah).elim (λ z=>I.pin p (pk _ z)) (h p),I.aK,I.len]
theorem AZ {N:bA} (e:N.Nodup) {j:Nat} (a:N[i]?=some x) (b:N[j]?=some x):i=j:=by
 obtain ⟨U,c⟩:=dr.mp a;obtain ⟨aa,d⟩:=dr.mp b;exact (List.getElem_inj e).mp (c.trans d.symm)
theorem Iu (I:Inv X pins σ H s) (R:X.N.Nodup) (ar:X.N[i]?=some x) (ae:Loc X.env.scope x) (r:RelV v u)
  (h:∀ s',Inv X pins (σ.set i (some v)) H s'->(∃ a,Heap.SameBut a s.heap s'.heap/\(a=X.env.locals\/X.env.cells.lookup x=some a))->Q () s') (hf:X.fn x=.t\/X.env.scope.names.lookup x=some .local:=by first|exact .inl Y|exact .inr Y|assumption):wpAny M A (storeName X.env x u) Q E s:=by
 obtain ⟨m,ao,Z⟩:=id I.loc;have Pq:(X.env.scope.kind==.class||(X.env.scope.kind==.module&&X.env.locals != X.env.globals))=.f:=by rw [I.ok.kind];rfl
 have hiσ:i<σ.length:=by rw [I.len];exact (dr.mp ar).1
 have lQ:=I.lQ;have tracked:∀ {a:Addr} {h':Heap},(∃ o,s.heap.get? a=some o/\H a=.n)->Heap.SameBut a s.heap h'->cU X.prog X.w H h':=λ {a h'} ak av b bD e=>by
  obtain ⟨_,_,aV⟩:=ak;refine (I.aK b bD e).ij (λ c b1 af q=>(av.2 c ?_).trans q) (λ _ q=>q) λ _ _ q=>q
  rintro rfl;rcases af with rfl|af
  ·rw [aV] at e;cases e
  ·rw [aV] at af;cases af
 rcases ae with l|l
 ·refine wpAny_storeName_local l ao (λ h' va av=>?_) Pq;obtain ⟨Mj,_,_,NR,_⟩:=id ao;refine h _ #[I.ok,I.os,I.bare,#[λ b o e n t ae=>?_,λ b o e n t ae=>?_,I.base.free,λ b o e ae=>?_,I.base.ha,I.base.gH,I.base.g_],#[_,va,λ j y P f g D=>?_],λ y c e=>?_,I.free,I.fm,λ p ah=>?_,tracked #[Mj,NR,I.free] av,by simpa using I.len] #[_,av,.inl Y]
  ·exact (av.2 b (cc (ey (bu e) I.ok.above))).trans (I.base.keep b o e n t ae)
  ·obtain ⟨cu,f⟩:=I.base.slot b o e n t ae;exact #[cu,(av.2 b (cc (ey (bu e) I.ok.above))).trans f]
  ·obtain ⟨cZ,f⟩:=I.base.there b o e ae;exact #[cZ,(av.2 b (cc (ey (bu e) I.ok.above))).trans f]
  ·by_cases B:j=i
   ·subst B;rw [ar] at f;cases f;rw [pl hiσ] at g;cases g;exact #[u,r,.inl #[l,.zs]]
   ·rw [List.getElem?_set_ne (dz B)] at g;obtain ⟨O,L,q⟩:=Z j y P f g D;refine #[O,L,?_];rcases q with ⟨k,e⟩|⟨k,c,e,z⟩
    ·refine .inl #[k,?_];have:y≠x:=λ e=>B (AZ R f (e ▸ ar))
     simp [this,e]
    ·exact .inr #[k,c,e,z.sameBut av (lQ y c e)]
  ·obtain ⟨b1,z⟩:=I.cell y c e;exact #[b1,z.sameBut av (lQ y c e)]
  ·obtain ⟨e,n,ne,aC,d⟩:=I.pin p ah;exact #[(av.2 p.1 ne).trans e,n,ne,aC,d]
 ·have G:X.fn x=.t:=by
   rcases hf with z|z
   ·exact z
   ·rw [z] at l;cases l
  obtain ⟨c,af⟩:=I.ok.has x (.inl l);obtain ⟨b1,z⟩:=I.cell x c af;refine wpAny_storeName_cell I.ok.kind l af z (λ h' S av=>?_);obtain ⟨dR,kK,Px⟩:=id z;refine h { s with heap:=h' } #[I.ok,I.os,I.bare,#[λ b o e n t ae=>?_,λ b o e n t ae=>?_,I.base.free,λ b o e ae=>?_,I.base.ha,I.base.gH,I.base.g_],#[m,ao.sameBut av (dz (lQ x c af)),λ j y P f g D=>?_],λ y C e=>?_,I.free,I.fm,λ p ah=>?_,tracked #[dR,kK,I.fm x c af] av,by simpa using I.len] #[c,av,.inr af]
  ·exact (av.2 b (cc (ey (bu e) (I.ok.kG x c G af)))).trans (I.base.keep b o e n t ae)
  ·obtain ⟨cu,f⟩:=I.base.slot b o e n t ae;exact #[cu,(av.2 b (cc (ey (bu e) (I.ok.kG x c G af)))).trans f]
  ·obtain ⟨cZ,f⟩:=I.base.there b o e ae;exact #[cZ,(av.2 b (cc (ey (bu e) (I.ok.kG x c G af)))).trans f]
  ·by_cases B:j=i
   ·subst B;rw [ar] at f;cases f;rw [pl hiσ] at g;cases g;exact #[u,r,.inr #[.inl l,c,af,S]]
   ·rw [List.getElem?_set_ne (dz B)] at g;obtain ⟨O,L,q⟩:=Z j y P f g D;refine #[O,L,?_];rcases q with q|⟨k,C,e,fx⟩
    ·exact .inl q
    ·refine .inr #[k,C,e,fx.sameBut av ?_];rintro rfl;exact B (AZ R f (I.ok.inj _ _ _ e af ▸ ar))
  ·by_cases T:C=c
   ·subst T;exact #[_,S]
   ·obtain ⟨i7,h1⟩:=I.cell y C e;exact #[i7,h1.sameBut av T]
  ·obtain ⟨e,n,ne,aC,d⟩:=I.pin p ah;refine #[(av.2 p.1 ?_).trans e,n,ne,aC,d];intro q;rw [q,kK] at e;have aR:=cE e;exact d b1 (by rw [<-aR];exact Px)
theorem rm (I:Inv X pins σ H s) (b:X.N.Nodup) (ar:X.N[i]?=some x) (ae:Loc X.env.scope x) (r:RelV v u)
  (h:∀ s',Inv X pins (σ.set i (some v)) H s'->Q () s') (hf:X.fn x=.t\/X.env.scope.names.lookup x=some .local:=by first|exact .inl Y|exact .inr Y|assumption):wpAny M A (storeName X.env x u) Q E s :=
 Iu I b ar ae r (λ s' a Z=>h s' a) hf
theorem Inv.kT (I:Inv X pins σ H s) (aA:s'.os=s.os) (u:cX (cz X.stack) ch H H' s.heap s'.heap) (aK:cU X.prog X.w H' s'.heap) (d:AllBare s'.gens)
  (a:∀ b∈ch,(b∈X.ex\/X.s₀.heap.objs.size<=b)/\b≠X.env.locals/\(∀ x c,X.env.cells.lookup x=some c->c≠b)/\∀ p∈X.gA++pins,p.1≠b):Inv X pins σ H' s':=by
 obtain ⟨h',f,b4,t',cZ⟩:=s';have e:=aA;subst e;exact I.call u aK d a
end
abbrev cL:=Value->Option Addr->aD->Prop
abbrev St:=List (Option V)
abbrev b2:=V->aD->Prop
abbrev TE:=St->aD->b2->Prop
abbrev TT:=St->aD->(Bool->aD->Prop)->Prop
abbrev c2:=St->aD->(List V->aD->Prop)->Prop
structure Ends where
 bf:St->aD->Prop
 iC:b2
 bl:St->aD->Prop:=λ _ _=>False
 b9:St->aD->Prop:=λ _ _=>False
abbrev cS:=Ends->St->aD->Prop
inductive el (X:aW) (pins:ef) (σ:St) (Q:b2) (u:Value) (s':Shared):Prop
 |mk (v H'):Inv X pins σ H' s'->RelV v u->Q v H'->el X pins σ Q u s'
def xG (X:aW) (pins:ef) (σ:St) (Q:Bool->aD->Prop) (b:Bool) (s':Shared):Prop:=∃ H',Inv X pins σ H' s'/\Q b H'
inductive B2 (X:aW) (pins:ef) (σ:St) (Q:List V->aD->Prop) (us:List Value) (s':Shared):Prop
 |mk (vs H'):Inv X pins σ H' s'->Vals vs us->Q vs H'->B2 X pins σ Q us s'
def fV (X:aW) (pins:ef) (D:Ends) (f:Flow) (s':Shared):Prop :=
 match f with
 | .next=>∃ σ' H',Inv X pins σ' H' s'/\D.bf σ' H'
 | .brk=>∃ σ' H',Inv X pins σ' H' s'/\D.bl σ' H'
 | .cont=>∃ σ' H',Inv X pins σ' H' s'/\D.b9 σ' H'
 | .ret u=>∃ v σ' H',Inv X pins σ' H' s'/\RelV v u/\D.iC v H'
def bw (X:aW) (e:Expr) (t:TE):Prop :=
 ∀ pins s (σ:St) H Q,Inv X pins σ H s->t σ H Q->wpAny (model X.prog X.w) X.A (eval e X.env) (el X pins σ Q) X.a5 s
def hu (X:aW) (e:Expr) (t:TT):Prop :=
 ∀ pins s (σ:St) H Q,Inv X pins σ H s->t σ H Q->wpAny (model X.prog X.w) X.A (isTrue e X.env (eval e X.env)) (xG X pins σ Q) X.a5 s
def kn (X:aW) (e:Expr) (t:TT):Prop :=
 ∀ whole pins s (σ:St) H Q,Inv X pins σ H s->t σ H Q->wpAny (model X.prog X.w) X.A (isTrue e X.env whole) (xG X pins σ Q) X.a5 s
theorem kn.pt (h:kn X e t):hu X e t:=h _
def fE (X:aW) (aj:List Expr) (t:c2):Prop :=
 ∀ pos pins s (σ:St) H Q,Inv X pins σ H s->t σ H Q->wpAny (model X.prog X.w) X.A (spliced (backTo pos (starEach aj X.env))) (B2 X pins σ Q) X.a5 s
def hV (X:aW) (st:Stmt) (t:cS):Prop :=
 ∀ pins s (σ:St) H D,Inv X pins σ H s->t D σ H->wpAny (model X.prog X.w) X.A (exec st X.env) (fV X pins D) X.a5 s
def h4 (X:aW) (st:List Stmt) (t:cS):Prop :=
 ∀ pins s (σ:St) H D,Inv X pins σ H s->t D σ H->wpAny (model X.prog X.w) X.A (execs st X.env) (fV X pins D) X.a5 s
theorem aU {t:Sem α} {Q b: α -> Shared->Prop} (h:wpAny M A t Q E s) (c:∀ a s,Q a s->b a s):wpAny M A t b E s:=d_ h c λ Z Z x=>x
section
variable {X:aW}
def zp (i:Nat):TE:=λ σ H Q=>∃ v,σ[i]?=some (some v)/\Q v H
def eR (v:V):TE:=λ Z H Q=>Q v H
theorem Q2 (d:X.N[i]?=some x) (aI:sr X.env.scope x) (hd:(x==("__debug__" : Str))=.f:=by decide) (f:(x==("__classdict__" : Str))=.f:=by decide):bw X (.Name x pos) (zp i):=by
 intro pins s σ H Q I h;obtain ⟨v,e,h⟩:=h;obtain ⟨m,ao,g⟩:=I.loc;obtain ⟨u,r,l⟩:=g i x v d e aI;have fin:el X pins σ Q u s:=#[v,H,I,r,h]
 rcases l with ⟨a,hm⟩|⟨a,c,af,b⟩
 ·exact wpAny_Name (wpAny_loadName_local I.ok.kind a ao hm fin) hd
 ·rcases a with a|a
  ·exact wpAny_Name (wpAny_loadName_cell I.ok.kind a af b fin) hd
  ·exact wpAny_Name (wpAny_loadName_free I.ok.kind a af b fin f) hd
theorem QW {i j pos}:bw X (.Constant (.int i) j pos) (eR (.int i)):=λ Z Z Z H Z I h=>wpAny_Constant_int #[.int i,H,I.tok _,#[_,Y],h]
theorem P_ {b j pos}:bw X (.Constant (.bool b) j pos) (eR (.aO b)):=λ Z Z Z H Z I h=>Constant_bool #[.aO b,H,I,Y,h]
theorem Fn {j pos}:bw X (.Constant .none j pos) (eR .aQ):=λ Z Z Z H Z I h=>Constant_none #[.aQ,H,I,Y,h]
theorem Q0 {x j pos}:bw X (.Constant (.str x) j pos) (eR (.str x)):=λ Z Z Z H Z I h=>vO #[.str x,H,I.tok _,#[_,Y],h]
def cy (X:aW) (x:Str):Prop:=X.env.kindOf x=some .globalImplicit
theorem iW {σ:St} (I:Inv X pins σ H s) (a:cy X x) (hm:X.mg x=some u) (h:Q u s)
  (hd:(x==("__debug__" : Str))=.f:=by decide):wpAny (model X.prog X.w) X.A (eval (.Name x pos) X.env) Q E s :=
 qH I.ok.kind a (ts (by rw [I.ok.glob];exact I.mod.glob.keeps I.bl) hm h) hd
theorem mn {σ:St} (I:Inv X pins σ H s) (a:cy X x) (hm:X.mg x=.n) (aI:bootBuiltins x=some u) (h:Q u s)
  (ao:x ≠ "__name__" := by decide) (hd:(x==("__debug__" : Str))=.f:=by decide):wpAny (model X.prog X.w) X.A (eval (.Name x pos) X.env) Q E s:=by
 obtain ⟨jJ,U,aa⟩:=I.mod.blt;exact qH I.ok.kind a (Calls.loadGlobal_builtin (by rw [I.ok.glob];exact I.mod.glob.keeps I.bl) hm (by rw [I.ok.blt];exact U.keeps I.bl) ((aa x ao).trans aI) h) hd
theorem AD (a:cy X x) (hm:X.mg x=some u) (r:RelV v u) (hd:(x==("__debug__" : Str))=.f:=by decide):bw X (.Name x pos) (eR v) :=
 λ Z Z Z H Z I h=>iW I a hm #[v,H,I,r,h] hd
theorem Sd (a:cy X x) (hm:X.mg x=.n) (aI:bootBuiltins x=some u) (r:RelV v u) (ao:x ≠ "__name__" := by decide) (hd:(x==("__debug__" : Str))=.f:=by decide):bw X (.Name x pos) (eR v) :=
 λ Z Z Z H Z I h=>mn I a hm aI #[v,H,I,r,h] ao hd
variable {a b:Expr} {aN a7:TE} {pos:Pos}
def ox (t:TE):TT:=λ σ H Q=>t σ H λ x H1=>∃ c,x=.aO c/\Q c H1
theorem Rf (h:bw X e t) (he:∀ whole,isTrue e X.env whole=(do let v ← whole;standAt e.pos;holding [v] (truthy v)):=by intro _;rfl):hu X e (ox t):=by
 intro pins s σ H Q I hw;refine isTrue_plain (aU (h pins s σ H _ I hw) ?_) (he _);rintro v s1 ⟨x,H1,c,g,f⟩;obtain ⟨d,rfl,q⟩:=f;cases g;exact mi #[H1,c,q]
variable {eQ iG:TT} {rest:List Expr}
def Ez (t u:TT):TT:=λ σ H Q=>t σ H λ c H1=>if c=.t then u σ H1 Q else Q .f H1
def DS (t u:TT):TT:=λ σ H Q=>t σ H λ c H1=>if c=.t then Q .t H1 else u σ H1 Q
def EG (t:TT):TT:=λ σ H Q=>t σ H λ c H1=>Q (!c) H1
theorem SF (ak:hu X a eQ):kn X (.BoolOp .And [a] pos) eQ:=by
 intro d pins s σ H Q I h;refine isTrue_and (aU (ak pins s σ H Q I h) λ c s1 e=>?_);cases c with
 | true=>exact isTrue_and_nil e
 | false=>exact e
theorem Ri (ak:hu X a eQ):kn X (.BoolOp .Or [a] pos) eQ:=by
 intro d pins s σ H Q I h;refine isTrue_or (aU (ak pins s σ H Q I h) λ c s1 e=>?_);cases c with
 | false=>exact isTrue_or_nil e
 | true=>exact e
theorem Rh (ak:hu X a eQ) (f:kn X (.BoolOp .And (b::rest) pos) iG):kn X (.BoolOp .And (a::b::rest) pos) (Ez eQ iG):=by
 intro g pins s σ H Q I h;refine isTrue_and (aU (ak pins s σ H _ I h) ?_);rintro c s1 ⟨H1,d,e⟩;cases c with
 | true=>exact f g pins s1 σ H1 Q d e
 | false=>exact #[H1,d,e]
theorem Qh (ak:hu X a eQ) (f:kn X (.BoolOp .Or (b::rest) pos) iG):kn X (.BoolOp .Or (a::b::rest) pos) (DS eQ iG):=by
 intro g pins s σ H Q I h;refine isTrue_or (aU (ak pins s σ H _ I h) ?_);rintro c s1 ⟨H1,d,e⟩;cases c with
 | true=>exact #[H1,d,e]
 | false=>exact f g pins s1 σ H1 Q d e
theorem Rc (ak:hu X a eQ):hu X (.UnaryOp .Not a pos) (EG eQ):=by
 intro pins s σ H Q I h;exact isTrue_not (ak pins s σ H (λ c H1=>Q (!c) H1) I h)
def EZ (aN a7:TE):TE:=λ σ H Q=>aN σ H λ x H1=>∃ c,x=.aO c/\if c=.t then a7 σ H1 Q else Q (.aO .f) H1
def zo (aN a7:TE):TE:=λ σ H Q=>aN σ H λ x H1=>∃ c,x=.aO c/\if c=.t then Q (.aO .t) H1 else a7 σ H1 Q
def vJ (aN:TE):TE:=λ σ H Q=>aN σ H λ x H1=>∃ c,x=.aO c/\Q (.aO (!c)) H1
theorem QZ {op} (h:bw X a t):bw X (.BoolOp op [a] pos) t:=λ pins s σ H Q I hw=>BoolOp_one (h pins s σ H Q I hw)
theorem QS (ak:bw X a aN) (f:bw X (.BoolOp .And (b::rest) pos) a7):bw X (.BoolOp .And (a::b::rest) pos) (EZ aN a7):=by
 intro pins s σ H Q I h;refine BoolOp_and (aU (ak pins s σ H _ I h) ?_);rintro v s1 ⟨x,H1,e,g,d⟩;obtain ⟨c,rfl,d⟩:=d;cases g;refine mi ?_;cases c with
 | true=>exact f pins s1 σ H1 Q e d
 | false=>exact #[.aO .f,H1,e,Y,d]
theorem Qc (ak:bw X a aN) (f:bw X (.BoolOp .Or (b::rest) pos) a7):bw X (.BoolOp .Or (a::b::rest) pos) (zo aN a7):=by
 intro pins s σ H Q I h;refine BoolOp_or (aU (ak pins s σ H _ I h) ?_);rintro v s1 ⟨x,H1,e,g,d⟩;obtain ⟨c,rfl,d⟩:=d;cases g;refine mi ?_;cases c with
 | false=>exact f pins s1 σ H1 Q e d
 | true=>exact #[.aO .t,H1,e,Y,d]
theorem QY (ak:bw X a aN):bw X (.UnaryOp .Not a pos) (vJ aN):=by
 intro pins s σ H Q I h;refine UnaryOp_ (aU (ak pins s σ H _ I h) ?_);rintro v s1 ⟨x,H1,e,f,d⟩;obtain ⟨c,rfl,d⟩:=d;cases f;exact not_of (mi #[.aO (!c),H1,e,Y,d])
def DR (t:TT) (aN a7:TE):TE:=λ σ H Q=>t σ H λ c H1=>if c=.t then aN σ H1 Q else a7 σ H1 Q
theorem Uv (af:hu X c eQ) (ak:bw X a aN) (g:bw X b a7):bw X (.IfExp c a b pos) (DR eQ aN a7):=by
 intro pins s σ H Q I h;refine wpAny_IfExp (aU (af pins s σ H _ I h) ?_);rintro d s1 ⟨H1,e,f⟩;cases d with
 | true=>exact ak pins s1 σ H1 Q e f
 | false=>exact g pins s1 σ H1 Q e f
end
def aS (K:aP) (H:aD) (a:Addr) (xs:List V):Prop :=
 ko H a (.lst xs) \/
  ∃ (o:Obj) (b:ee) (n:Nat),K.lookup a=some o/\o.cls=.type "list" /\ o.dict=.n/\o.data=.seq b n/\b.size<=sizeLine/\Vals xs b.toList
def aX (K:aP) (H:aD) (a:Addr) (xs:List V):Prop :=
 ko H a (.tup xs) \/
  ∃ (o:Obj) (b:ee) (n:Nat),K.lookup a=some o/\o.cls=.type "tuple" /\ o.data=.seq b n/\b.size<=sizeLine/\Vals xs b.toList
noncomputable def Pf:Value->Option V
 | .none=>some .aQ
 | .bool b=>some (.aO b)
 | .int i _=>some (.int i)
 | .str x _=>some (.str x)
 | .bytes b _=>some (.h8 b)
 | .float b _=>some (.lR b)
 | .ref a=>some (.ref a)
 | .type n=>some (.ty n)
 | _=>.n
theorem RelV.abs (r:RelV x u):Pf u=some x:=by
 cases x with
 | aQ=>cases r;rfl
 | aO _=>cases r;rfl
 | int _=>obtain ⟨t,rfl⟩:=r;rfl
 | str _=>obtain ⟨t,rfl⟩:=r;rfl
 | h8 _=>obtain ⟨t,rfl⟩:=r;rfl
 | lR _=>obtain ⟨t,rfl⟩:=r;rfl
 | ref _=>cases r;rfl
 | ty _=>cases r;rfl
theorem RelV.inj (r:RelV x u) (q:RelV y u):x=y:=cE (r.abs.symm.trans q.abs)
theorem Vals.inj:∀ {xs ys us},Vals xs us->Vals ys us->xs=ys:=by
 intro xs ys us h;induction h generalizing ys with
 | nil=>intro g;cases g;rfl
 | cons r t a=>intro g;cases g with
  | cons b t'=>rw [r.inj b,a t']
section
variable {X:aW} {pins:ef} {σ:St} {H:aD} {s:Shared} {a:Addr} {xs ys:List V}
theorem aS.of {K:aP} (h:H a=some (.lst xs)):aS K H a xs:=.inl (.inl h)
theorem aX.of {K:aP} (h:H a=some (.tup xs)):aX K H a xs:=.inl (.inl h)
theorem Inv.list (I:Inv X pins σ H s) (h:aS X.K H a xs):∃ b,Vals xs b/\PlainL s.heap a b.toArray/\xs.length<=sizeLine:=by
 rcases h with h|⟨o,b,n,c,af,hd,av,d,r⟩
 ·obtain ⟨z,b,n,r,e⟩:=h.ok I.aK;exact #[b,r,#[_,n,e,Y,Y,Y],z]
 ·refine #[b.toList,r,#[o,n,I.cA a o c,af,hd,by simpa using av],?_];have e:=r.length;simp only [e6] at e;omega
theorem Inv.tuple (I:Inv X pins σ H s) (h:aX X.K H a xs):∃ b,Vals xs b/\IsTup s.heap a b.toArray/\xs.length<=sizeLine:=by
 rcases h with h|⟨o,b,n,c,af,av,d,r⟩
 ·obtain ⟨z,b,r,p⟩:=h.ok I.aK;exact #[b,r,p.up,z]
 ·refine #[b.toList,r,#[o,I.cA a o c,af,n,by simpa using av],?_];have e:=r.length;simp only [e6] at e;omega
theorem Inv.GZ (I:Inv X pins σ H s) (h:aS X.K H a xs) (h':aS X.K H a ys):xs=ys:=by
 obtain ⟨f,r,⟨o,n,e,_,_,d⟩,_⟩:=I.list h;obtain ⟨g,i,⟨cZ,jK,b,_,_,b4⟩,_⟩:=I.list h';rw [e] at b;cases b;rw [d] at b4;injection b4 with c _;have:f=g:=by simpa using eG Array.toList c
 subst this;exact r.inj i
theorem Inv.uj (I:Inv X pins σ H s) (h:aX X.K H a xs) (h':aX X.K H a ys):xs=ys:=by
 obtain ⟨f,r,⟨o,e,_,n,d⟩,_⟩:=I.tuple h;obtain ⟨g,i,⟨cZ,b,_,jK,b4⟩,_⟩:=I.tuple h';rw [e] at b;cases b;rw [d] at b4;injection b4 with c _;have:f=g:=by simpa using eG Array.toList c
 subst this;exact r.inj i
end
noncomputable abbrev aW.kS (X:aW) (E:c0):aW:={ X with a5:=E }
noncomputable abbrev aW.sV (X:aW):aW:=X.kS λ Z Z=>False
theorem aW.Ok.kS {X:aW} (ok:X.Ok) (E):(X.kS E).Ok :=
 #[ok.mod,ok.kind,ok.glob,ok.blt,ok.above,ok.inj,ok.has,ok.kG,ok.hd,ok.frames,ok.l0,ok.oF,ok.bs,ok.fI,ok.ji,ok.l6,ok.f5,ok.ia]
theorem aW.Ok.nN {X:aW} (ok:(X.kS E).Ok):X.Ok :=
 #[ok.mod,ok.kind,ok.glob,ok.blt,ok.above,ok.inj,ok.has,ok.kG,ok.hd,ok.frames,ok.l0,ok.oF,ok.bs,ok.fI,ok.ji,ok.l6,ok.f5,ok.ia]
section
variable {X:aW} {pins:ef} {σ:St} {H:aD} {s:Shared} {E:c0}
theorem Inv.kS (I:Inv X pins σ H s) (E):Inv (X.kS E) pins σ H s:=#[I.ok.kS E,I.os,I.bare,I.base,I.loc,I.cell,I.free,I.fm,I.pin,I.aK,I.len]
theorem Inv.nN (I:Inv (X.kS E) pins σ H s):Inv X pins σ H s:=#[I.ok.nN,I.os,I.bare,I.base,I.loc,I.cell,I.free,I.fm,I.pin,I.aK,I.len]
theorem fV.nN (h:fV (X.kS E) pins D f s'):fV X pins D f s':=by
 cases f with
 | next=>obtain ⟨σ',H',I,q⟩:=h;exact #[σ',H',I.nN,q]
 | brk=>obtain ⟨σ',H',I,q⟩:=h;exact #[σ',H',I.nN,q]
 | cont=>obtain ⟨σ',H',I,q⟩:=h;exact #[σ',H',I.nN,q]
 | ret u=>obtain ⟨v,σ',H',I,r,q⟩:=h;exact #[v,σ',H',I.nN,r,q]
theorem h4.sV {st:List Stmt} (h:h4 X.sV st t):h4 X st t:=λ pins s σ H D I hw =>
 d_ (h pins s σ H D (I.kS _) hw) (λ Z Z q=>q.nN) λ Z Z z=>False.elim z
end
section
variable {X:aW} {rest:List Stmt} {t u:cS} {e:Expr} {bg:TE} {pos:Pos}
def E3:cS:=λ D σ H=>D.bf σ H
def vu (t u:cS):cS:=λ D σ H=>t { D with bf:=u D } σ H
theorem Sv:h4 X [] E3:=λ _ _ σ H _ I h=>pn #[σ,H,I,h]
theorem UE (U:hV X st t) (aa:h4 X rest u):h4 X (st::rest) (vu t u):=by
 intro pins s σ H D I h;refine wpAny_execs_cons (aU (U pins s σ H { D with bf:=u D } I h) λ f s1 q=>?_);cases f with
 | next =>
  obtain ⟨σ',H',a,q⟩:=q;exact aa pins s1 σ' H' D a q
 | ret v=>exact q
 | brk=>exact q
 | cont=>exact q
theorem Sw (U:hV X st t):h4 X [st] t:=by
 intro pins s σ H D I h;refine wpAny_execs_cons (aU (U pins s σ H D I h) λ f s1 q=>?_);cases f with
 | next=>exact pn q
 | ret v=>exact q
 | brk=>exact q
 | cont=>exact q
theorem Inv.quiet {σ:St} (I:Inv X pins σ H s):interactive X.env=.f:=by simp [interactive,I.ok.kind]
def E0 (bg:TE):cS:=λ D σ H=>bg σ H λ Z H1=>D.bf σ H1
theorem Ss (he:bw X e bg) (av:swapsWith e .n pos.line X.env=pure .f:=by rfl):hV X (.Expr e pos) (E0 bg):=by
 intro pins s σ H D I h;exact wpAny_Expr_any (aU (he pins s σ H _ I h) λ v s1 ⟨x,H1,a,c,b⟩=>#[σ,H1,a,b]) I.quiet av
def EH (bg:TE):cS:=λ D σ H=>bg σ H D.iC
theorem Ra (he:bw X e bg):hV X (.Return (some e) pos) (EH bg):=by
 intro pins s σ H D I h;exact wpAny_Return_some (aU (he pins s σ H _ I h) λ v s1 ⟨x,H1,a,c,b⟩=>#[x,σ,H1,a,c,b])
def EE (c:TT) (t u:cS):cS:=λ D σ H=>c σ H λ b H1=>if b=.t then t D σ H1 else u D σ H1
theorem Qf (af:hu X c cg) (ak:h4 X a t) (i:h4 X b u):hV X (.If c a b pos) (EE cg t u):=by
 intro pins s σ H D I h;refine wpAny_If (aU (af pins s σ H _ I h) ?_);rintro d s1 ⟨H1,f,g⟩;cases d with
 | true=>exact ak pins s1 σ H1 D f g
 | false=>exact i pins s1 σ H1 D f g
def FA:cS:=λ Z Z Z=>False
theorem UB:hV X st FA:=λ Z Z Z Z Z Z h=>h.elim
end
abbrev fF:=V->St->aD->(St->aD->Prop)->Prop
abbrev qf:=List V->St->aD->(St->aD->Prop)->Prop
def hU (X:aW) (target:Expr) (t:fF):Prop :=
 ∀ pins s (σ:St) H v u Q,Inv X pins σ H s->RelV v u->t v σ H Q ->
  wpAny (model X.prog X.w) X.A (assign target X.env u) (λ Z s'=>∃ σ' H',Inv X pins σ' H' s'/\Q σ' H') X.a5 s
def so (X:aW) (a:List Expr) (t:qf):Prop :=
 ∀ pins s (σ:St) H vs us Q,Inv X pins σ H s->Vals vs us->t vs σ H Q ->
  wpAny (model X.prog X.w) X.A (assignInOrder ((assignEach a X.env).map (·.2)) us) (λ Z s'=>∃ σ' H',Inv X pins σ' H' s'/\Q σ' H') X.a5 s
abbrev D1:=V->V->V->aD->(aD->Prop)->Prop
def y_ (X:aW) (t:D1):Prop :=
 ∀ pins s (σ:St) H (o i v) (b a u) Q,Inv X pins σ H s->RelV o b->RelV i a->RelV v u->t o i v H Q ->
  wpAny (model X.prog X.w) X.A (setItem b a u) (λ Z s'=>∃ H',Inv X pins σ H' s'/\Q H') X.a5 s
section
variable {X:aW} {pos:Pos}
def e4 (i:Nat):fF:=λ v σ H Q=>Q (σ.set i (some v)) H
theorem Sl (b:X.N.Nodup) (ar:X.N[i]?=some x) (ae:Loc X.env.scope x) (hf:X.fn x=.t\/X.env.scope.names.lookup x=some .local:=by first|exact .inl Y|exact .inr Y|assumption):hU X (.Name x pos) (e4 i):=by
 intro pins s σ H v u Q I r h;exact wpAny_assign_Name (rm I b ar ae r (λ s' a=>#[_,H,a,h]) hf)
def ta:qf:=λ vs σ H Q=>vs=[]/\Q σ H
inductive md (t:fF) (u:qf):qf
 |mk {vs σ H Q} (v r):vs=v::r->(t v σ H λ σ' H'=>u r σ' H' Q)->md t u vs σ H Q
theorem Sm:so X [] ta:=by
 intro pins s σ H vs us Q I r h;obtain ⟨e,h⟩:=h;subst e;cases r;exact assignInOrder_nil #[σ,H,I,h]
theorem Uz (U:hU X e t) (aa:so X aj u)
  (av:(assignEach (e::aj) X.env).map (·.2)=assign e X.env::(assignEach aj X.env).map (·.2):=by rfl):so X (e::aj) (md t u):=by
 intro pins s σ H vs us Q I r h;obtain ⟨v,f,b,h⟩:=h;subst b;cases r with
 | cons r d =>
  rw [av];refine assignInOrder_cons (aU (U pins s σ H _ _ _ I r h) ?_);rintro _ s1 ⟨σ1,H1,a,c⟩;exact aa pins s1 σ1 H1 _ _ Q a d c
inductive o6 (K:aP) (n:Nat) (t:qf):fF
 |mk {v σ H Q} (a xs):v=.ref a->aX K H a xs->xs.length=n->t xs σ H Q->o6 K n t v σ H Q
theorem Q4 (af:X.warm=.t) (h:so X aj t)
  (ao:(assignEach aj X.env).length=n:=by rfl) (j:(assignEach aj X.env).findIdx? (·.1)=.n:=by rfl):hU X (.Tuple aj k pos) (o6 X.K n t):=by
 intro pins s σ H v u Q I r hw;obtain ⟨a,xs,f,i,g,hw⟩:=hw;subst f;cases r;obtain ⟨m,c,aG,l⟩:=I.tuple i;refine eP.Vb (I.fY af) aG (by simp [ao,<-g,c.length]) j λ h' ae=>?_
 have d:=I.kept (t':=s.toks) λ b o e=>ae b o (cc (bu e)) e
 exact h pins _ σ H xs _ Q d (by simpa using c) hw
def Ea (to b:TE) (t:D1):fF:=λ v σ H Q=>to σ H λ o H1=>b σ H1 λ i aq=>t o i v aq λ a=>Q σ a
theorem Q3 (aA:bw X o to) (ar:bw X i n) (av:y_ X t)
  (ak:∀ v,assign (.Subscript o i pos) X.env v=(do
   let a ← holding [v] (eval o X.env)
   let b ← holding [v,a] (eval i X.env)
   standAt pos
   holding [v,a,b] (setItem a b v)
   release [v,a,b] []):=by intro _;rfl):hU X (.Subscript o i pos) (Ea to n t):=by
 intro pins s σ H v u Q I r h;rw [ak];refine ax (eV (aU (aA pins s σ H _ I h) ?_));rintro a s1 ⟨x,H1,d,l,g⟩;refine ax (eV (aU (ar pins s1 σ H1 _ d g) ?_));rintro b s2 ⟨y,aq,e,m,j⟩;refine ax (k4 (ax (eV (aU (av pins s2 σ aq x y v a b u _ e l m r j) ?_))));rintro _ s3 ⟨c,f,k⟩;exact wpAny_release #[σ,c,f,k]
def kR (bg:TE) (g:fF):cS:=λ D σ H=>bg σ H λ x H1=>g x σ H1 D.bf
theorem Q8 (he:bw X e bg) (b:hU X a4 g) (av:swapsWithSole [a4] e pos.line X.env=pure .f:=by rfl) (hw:swappedStores [a4] e X.env=pure .n:=by rfl)
  (U:(assignEach [a4] X.env).map (·.2)=[assign a4 X.env]:=by rfl):hV X (.Assign [a4] e pos) (kR bg g):=by
 intro pins s σ H D I h;refine wpAny_Assign_stores (aU (he pins s σ H _ I h) ?_) av hw;rintro v s1 ⟨x,H1,a,d,c⟩;rw [U];exact aU (b pins s1 σ H1 x v _ a d c) λ Z s2 q=>q
theorem Rb (c:X.N.Nodup) (ar:X.N[i]?=some x) (ae:Loc X.env.scope x) (he:bw X e bg) (av:swapsWith e (some (.Name x pos')) pos.line X.env=pure .f:=by rfl) (hf:X.fn x=.t\/X.env.scope.names.lookup x=some .local:=by first|exact .inl Y|exact .inr Y|assumption) :
  hV X (.Assign [.Name x pos'] e pos) (kR bg (e4 i)):=by
 intro pins s σ H D I h;refine wpAny_Assign_Name (aU (he pins s σ H _ I h) ?_) av;rintro v s1 ⟨y,H1,a,f,d⟩;exact rm a c ar ae f (λ s2 b=>#[_,H1,b,d]) hf
def zY (c:TT) (a7:cS):cS:=λ D σ H=>∃ W:Nat->St->aD->Prop,(∃ m,W m σ H)/\∀ m σ H,W m σ H ->
 c σ H λ b H1=>if b=.t then ∃ N,(∀ σ' H',N σ' H'->∃ a,a<m/\W a σ' H')/\a7 { D with bf:=N,b9:=N,bl:=D.bf } σ H1 else D.bf σ H1
theorem UD (ah:PassesOwn (model X.prog X.w) X.A X.env X.a5) (af:hu X c cg) (p:h4 X body a7):hV X (.While c body [] pos) (zY cg a7):=by
 intro pins s σ H D I h;obtain ⟨W,⟨m0,aY⟩,turn⟩:=h;refine wpAny_While (codeAny_whileLoop (λ n s'=>∃ σ' H',Inv X pins σ' H' s'/\W n σ' H') ?_ m0 #[σ,H,I,aY]);rintro n s1 ⟨σ1,H1,o,q⟩;refine pq ah (aU (af pins s1 σ1 H1 _ o (turn n σ1 H1 q)) ?_);rintro b s2 ⟨aq,l,d⟩;cases b with
 | true =>
  obtain ⟨N,m,d⟩:=d;rw [if_pos rfl];refine pq ah (aU (p pins s2 σ1 aq _ l d) λ f s3 e=>?_);cases f with
  | next =>
   obtain ⟨σ3,a,g,j⟩:=e;obtain ⟨i,hm,k⟩:=m σ3 a j;exact #[i,hm,σ3,a,g,k]
  | cont =>
   obtain ⟨σ3,a,g,j⟩:=e;obtain ⟨i,hm,k⟩:=m σ3 a j;exact #[i,hm,σ3,a,g,k]
  | brk=>exact e
  | ret v=>exact e
 | false =>
  rw [if_neg dC];exact pn #[σ1,aq,l,d]
end
structure ht where
 go:Nat->aD->Prop
 ic:Nat->aD->V->aD->Prop
 stop:Nat->aD->Prop
def je (X:aW) (pins:ef) (H:aD) (b:Addr):Prop :=
 H b=.n/\b≠X.env.locals/\b∉X.aw/\(b∈X.ex\/X.s₀.heap.objs.size<=b)/\(∀ x c,X.env.cells.lookup x=some c->c≠b)/\∀ p∈X.gA++pins,p.1≠b
theorem Inv.nh {σ:St} {b:Addr} (I:Inv X pins σ H s) (a:s.heap.objs.size<=b) (ao:H' b=.n):je X pins H' b:=by
 refine #[ao,hP (ey I.lt a),I.PK a,.inr (dF I.fe a),λ x c e z=>?_,λ p ah z=>?_]
 ·obtain ⟨v,q⟩:=I.cell x c e;exact absurd (ey q.lt (by rw [z];exact a)) (ei _)
 ·exact absurd (ey (bu (I.pin p ah).1) (by rw [z];exact a)) (ei _)
structure Turn (P:Program) (w:World) (K:aP) (c:Bool) (a4:Expr) (aC:ht) (aF:List Addr) (it:Addr) (ff:Nat->Heap->Prop):Prop where
 mem:it∈aF
 obj:∀ i h,ff i h->∀ b∈aF,∃ o,h.get? b=some o/\∀ v,o.data≠.cell v
 keep:∀ i h h',ff i h->(∀ b∈aF,∀ o,h.get? b=some o->h'.get? b=some o)->ff i h'
 item:∀ (X:aW),X.prog=P->X.w=w->X.K=K->X.calm=c->X.warm=.t->∀ (i:Nat) (pins:ef) (s:Shared) (σ:St) (H:aD) (E:c0),Inv X pins σ H s->(∀ b∈aF,je X pins H b)->ff i s.heap->aC.go i H ->
  wpAny (model P w) X.A (pyNext (.ref it)) (λ r s1=>∃ u,r=some u /\
   wpAny (model P w) X.A (letOwnedTupleGo a4 (.ref it) u) (λ _ s2=>∃ x H',Inv X pins σ H' s2/\RelV x u/\aC.ic i H x H'/\ff (i+1) s2.heap/\∀ b∈aF,H' b=.n) E s1) E s
 done:∀ (X:aW),X.prog=P->X.w=w->X.K=K->X.calm=c->X.warm=.t->∀ (i:Nat) (pins:ef) (s:Shared) (σ:St) (H:aD) (E:c0),Inv X pins σ H s->(∀ b∈aF,je X pins H b)->ff i s.heap->aC.stop i H ->
  wpAny (model P w) X.A (pyNext (.ref it)) (λ r s1=>r=.n/\Inv X pins σ H s1) E s
 self:∀ (A:Around) (i:Nat) (s:Shared) (Q:c0) (E:c0),ff i s.heap->Q (.ref it) s->wpAny (model P w) A (pyIter (.ref it)) Q E s
abbrev TI:=St->aD->(ht->aD->Prop)->Prop
inductive uZ (X:aW) (pins:ef) (σ:St) (a4:Expr) (R:ht->aD->Prop) (ql:Value) (s2:Shared):Prop
 |mk (it:Addr) (aF:List Addr) (ff:Nat->Heap->Prop) (aC:ht) (H':aD):ql=.ref it->Inv X pins σ H' s2->Turn X.prog X.w X.K X.calm a4 aC aF it ff->ff 0 s2.heap->(∀ b∈aF,je X pins H' b)->R aC H'->uZ X pins σ a4 R ql s2
def gW (X:aW) (a4 iter:Expr) (a:TI):Prop :=
 ∀ pins s (σ:St) H R,Inv X pins σ H s->a σ H R ->
  wpAny (model X.prog X.w) X.A (eval iter X.env) (λ v s1=>wpAny (model X.prog X.w) X.A (pyIter v) (uZ X pins σ a4 R) X.a5 s1) X.a5 s
theorem vA (aA:s.heap.get? it=some o) (af:o.cls=.type n) (hd:o.data=.fields vs)
  (ao:["enumerate", "zip", "dict_itemiterator", "dict_reverseitemiterator", "odict_iterator", "itertools.zip_longest", "itertools.pairwise"].contains n=.f) (a:Q () s):wpAny M A (letOwnedTupleGo a4 (.ref it) u) Q E s:=by
 cases a4<;>(cases u<;>first
    | exact a_ a
    | (refine ax (tg aA ?_)
       rw [af,hd];show wpAny M A (if (["enumerate", "zip", "dict_itemiterator", "dict_reverseitemiterator", "odict_iterator", "itertools.zip_longest", "itertools.pairwise"].contains n&&vs[0]?==some (rawInt _))=.t then _ else _) Q E s;rw [if_neg (by intro h;rw [ao,Bool.false_and] at h;cases h)];exact a_ a))
noncomputable def m1 (K:aP) (a:Addr):ht :=
 #[λ i H=>∃ xs x,aS K H a xs/\xs[i]?=some x,λ i H x H'=>H'=H/\∀ xs,aS K H a xs->xs[i]?=some x,λ i H=>∃ xs,aS K H a xs/\xs.length<=i]
noncomputable def m2 (K:aP) (a:Addr):ht :=
 #[λ i H=>∃ xs x,aX K H a xs/\xs[i]?=some x,λ i H x H'=>H'=H/\∀ xs,aX K H a xs->xs[i]?=some x,λ i H=>∃ xs,aX K H a xs/\xs.length<=i]
noncomputable def qc (lo:Int) (n:Nat):ht:=#[λ i Z=>i<n,λ i H x H'=>H'=H/\x=.int (lo+i),λ i Z=>n<=i]
theorem Wj {K:aP} (a it):Turn P w K c a4 (m1 K a) [it] it (λ i h=>h.IsListIter it a i) where
 mem:=by simp
 obj:=λ i h st b f=>by
  have e:b=it:=by simpa using f
  subst e;obtain ⟨o,e,c,d⟩:=st;exact #[o,e,λ v z=>by rw [d] at z;cases z]
 keep:=λ i h h' st k=>st.at λ o e=>k it .zs o e
 item:=by
  intro X n hw m A af i pins s σ H E I hf st q;subst n hw m;obtain ⟨xs,x,g,ae⟩:=q;obtain ⟨G,r,p,D⟩:=I.list g;obtain ⟨u,B,aC⟩:=r.get ae;obtain ⟨f0,f1,f2,j,f4,l⟩:=hf it .zs;refine wpAny_pyNext_list_item st p.isList (by simpa using B) λ h' cQ L=>?_
  have t:=I.turned (t':=s.toks) (λ b o f e=>(L.2 b f).trans e) f0 f1 j f4 l;obtain ⟨o,e,c,d⟩:=id cQ;exact #[u,Y,vA e c d .aB #[x,H,t,aC,#[Y,λ ys C=>by rw [I.GZ C g];exact ae],cQ,λ b f=>(hf b f).1]]
 done:=by
  intro X n hw m A af i pins s σ H E I hf st q;subst n hw m;obtain ⟨xs,g,ae⟩:=q;obtain ⟨G,r,p,D⟩:=I.list g;obtain ⟨f0,f1,f2,j,f4,l⟩:=hf it .zs;have M:=r.length;exact eP.GY (I.fY af) st p.isList (by simp;omega) λ h' y=>#[Y,I.turned (λ b o f e=>y b o f e) f0 f1 j f4 l]
 self:=λ Z Z Z Z Z st h=>wpAny_pyIter_listiter st h
theorem W_ {K:aP} (a it):Turn P w K c a4 (m2 K a) [it] it (λ i h=>h.IsTupleIter it a i) where
 mem:=by simp
 obj:=λ i h st b f=>by
  have e:b=it:=by simpa using f
  subst e;obtain ⟨o,e,c,d⟩:=st;exact #[o,e,λ v z=>by rw [d] at z;cases z]
 keep:=λ i h h' st k=>st.at λ o e=>k it .zs o e
 item:=by
  intro X n hw m A af i pins s σ H E I hf st q;subst n hw m;obtain ⟨xs,x,g,ae⟩:=q;obtain ⟨G,r,p,D⟩:=I.tuple g;obtain ⟨u,B,aC⟩:=r.get ae;obtain ⟨f0,f1,f2,j,f4,l⟩:=hf it .zs;refine wpAny_pyNext_tuple_item st p (by simpa using B) λ h' cQ L=>?_
  have t:=I.turned (t':=s.toks) (λ b o f e=>(L.2 b f).trans e) f0 f1 j f4 l;obtain ⟨o,e,c,d⟩:=id cQ;exact #[u,Y,vA e c d .aB #[x,H,t,aC,#[Y,λ ys C=>by rw [I.uj C g];exact ae],cQ,λ b f=>(hf b f).1]]
 done:=by
  intro X n hw m A af i pins s σ H E I hf st q;subst n hw m;obtain ⟨xs,g,ae⟩:=q;obtain ⟨G,r,p,D⟩:=I.tuple g;obtain ⟨f0,f1,f2,j,f4,l⟩:=hf it .zs;have M:=r.length;exact eP.AM (I.fY af) st p (by simp;omega) λ h' y=>#[Y,I.turned (λ b o f e=>y b o f e) f0 f1 j f4 l]
 self:=λ Z Z Z Z Z st h=>wpAny_pyIter_tupleiter st h
theorem W9 (p:c=.t) {K:aP} (it) (lo) (n):Turn P w K c a4 (qc lo n) [it] it (λ i h=>IsRangeIter h it (lo+(i:Nat)*1) ((n:Int)-(i:Nat)) 1) where
 mem:=by simp
 obj:=λ i h st b a=>by
  have e:b=it:=by simpa using a
  subst e;exact #[_,st,λ v z=>by
   have x:=z;cases x]
 keep:=λ i h h' st k=>k it .zs _ st
 item:=by
  intro X j hw g m af i pins s σ H E I hf st l;subst j hw g;obtain ⟨f0,f1,f2,d,f4,f⟩:=hf it .zs;have W:=Walks.range (prog:=X.prog) (w:=X.w) (I.ok.hd.1 (m.trans p)) it lo 1 n;refine W.item i s _ _ l st λ v h' a8 aI cQ u=>?_
  obtain ⟨t,rfl⟩:=aI;have q:Inv X pins σ H { s with heap:=h',toks:=a8 }:=I.turned (λ b o a e=>u b o (by simpa using a) e) f0 f1 d f4 f;refine #[_,Y,vA cQ Y Y .aB #[.int (lo+i),H,q,#[t,?_],#[Y,Y],cQ,λ b a=>(hf b a).1]];rw [Int.mul_one]
 done:=by
  intro X j hw g m af i pins s σ H E I hf st l;subst j hw g;obtain ⟨f0,f1,f2,d,f4,f⟩:=hf it .zs;exact wpAny_pyNext_range_end (I.ok.hd.1 (m.trans p)) st (by have:n<=i:=l;omega) λ h' r=>#[Y,I.turned (λ b o a e=>r b o a e) f0 f1 d f4 f]
 self:=λ Z Z Z Z Z st h=>wpAny_pyIter_rangeiter st h
section
variable {X:aW} {a4:Expr}
def EN (K:aP) (c6:TE):TI:=λ σ H R=>c6 σ H λ x H1=>∃ a,x=.ref a/\(∃ xs,aS K H1 a xs)/\R (m1 K a) H1
def Eg (K:aP) (c6:TE):TI:=λ σ H R=>c6 σ H λ x H1=>∃ a,x=.ref a/\(∃ xs,aX K H1 a xs)/\R (m2 K a) H1
theorem So (f:bw X l c6):gW X a4 l (EN X.K c6):=by
 intro pins s σ H R I h;refine aU (f pins s σ H _ I h) ?_;rintro v s1 ⟨x,H1,c,j,i⟩
 obtain ⟨a,e,⟨xs,g⟩,q⟩:=i;subst e;cases j;obtain ⟨m,n,p,k⟩:=c.list g;refine wpAny_pyIter_list p.isList ?_;refine #[s1.heap.objs.size,[s1.heap.objs.size],_,_,H1,Y,c.kept λ b o e=>a9 _ e,Wj a _,#[_,cJ _ Y,Y,Y],λ b d=>?_,q];have e:b=s1.heap.objs.size:=by simpa using d
 subst e;exact c.nh (bx _) (c.aK.fresh (bx _))
theorem Q6 (f:bw X l c6):gW X a4 l (Eg X.K c6):=by
 intro pins s σ H R I h;refine aU (f pins s σ H _ I h) ?_;rintro v s1 ⟨x,H1,c,j,i⟩
 obtain ⟨a,e,⟨xs,g⟩,q⟩:=i;subst e;cases j;obtain ⟨m,n,p,k⟩:=c.tuple g;refine nA p ?_;refine #[s1.heap.objs.size,[s1.heap.objs.size],_,_,H1,Y,c.kept λ b o e=>a9 _ e,W_ a _,#[_,cJ _ Y,Y,Y],λ b d=>?_,q];have e:b=s1.heap.objs.size:=by simpa using d
 subst e;exact c.nh (bx _) (c.aK.fresh (bx _))
theorem U0 (i:X.calm=.t) {σ:St} {lo:Int} (I:Inv X pins σ H s) (U : -(2 ^ 62)<=lo) (aa:lo<2 ^ 62) (f : -(2 ^ 62)<=ar) (g:ar<2 ^ 62)
  (q:R (qc lo (ar-lo).toNat) H):wpAny (model X.prog X.w) X.A (pyIter (.ref s.heap.objs.size)) (uZ X pins σ a4 R) E { s with heap:=s.heap.push { cls:=.type "range", data:=.fields [.int lo t,.int ar u,.int 1 v].toArray },toks:=a8 }:=by
 refine wpAny_pyIter_range (IsRange.new ..) (small_one U aa f g) ?_;have a:Inv X pins σ H { s with heap:=s.heap.push { cls:=.type "range", data:=.fields [.int lo t,.int ar u,.int 1 v].toArray },toks:=a8 }:=I.kept λ b o e=>a9 _ e
 refine #[(s.heap.push { cls:=.type "range", data:=.fields [.int lo t,.int ar u,.int 1 v].toArray }).objs.size,[(s.heap.push { cls:=.type "range", data:=.fields [.int lo t,.int ar u,.int 1 v].toArray }).objs.size],_,_,H,Y,
  a.kept λ b o e=>a9 _ e,W9 i _ lo (ar-lo).toNat,?_,λ b h=>?_,q]
 ·have c:lo+(0:Nat)*1=lo:=by simp
  have d:(((ar-lo).toNat:Nat))-(0:Nat)=Builtin.Range.rangeSize lo ar 1:=by rw [rangeSize_one];split<;>omega
  rw [c,d];exact cJ _ rfl
 ·have e:b=(s.heap.push { cls:=.type "range", data:=.fields [.int lo t,.int ar u,.int 1 v].toArray }).objs.size:=by simpa using h
  subst e;exact a.nh (bx _) (a.aK.fresh (bx _))
def EO (aN:c2):TI:=λ σ H R=>aN σ H λ vs H1=>∃ j,vs=[.int j] /\ -(2 ^ 62)<=j/\j<2 ^ 62/\R (qc 0 j.toNat) H1
theorem V3 (f:cy X "range") (hm:X.mg "range" = .n) (ak:fE X [a] aN) (av:starEach [a] X.env=[(.f,eval a X.env)]:=by rfl) (d:X.calm=.t:=by rfl):gW X a4 (.Call (.Name "range" p) [a] [] pos) (EO aN):=by
 intro pins s σ H R I h;refine Call_ (mn I f hm boot_range (qI (aU (ak pos pins s σ H _ I h) ?_) av Y));rintro us s1 ⟨vs,H1,c,i,b⟩;obtain ⟨j,e,b,g,q⟩:=b;subst e;cases i with
 | cons r k =>
  cases k;obtain ⟨t,rfl⟩:=r;exact call_range_1 (U0 d c .au .au b g (by simpa using q))
def ED (b:TI) (g:fF) (a7:cS):cS:=λ D σ H=>b σ H λ aC H1=>∃ W:Nat->Nat->St->aD->Prop,(∃ m,W 0 m σ H1)/\∀ i m σ H,W i m σ H ->
 (aC.stop i H/\D.bf σ H)\/(aC.go i H/\∃ N,(∀ σ' H',N σ' H'->∃ a,a<m/\W (i+1) a σ' H')/\∀ x H',aC.ic i H x H'->g x σ H' λ σ2 aq=>a7 { D with bf:=N,b9:=N,bl:=D.bf } σ2 aq)
noncomputable def pA (aF:List Addr) (h:Heap):ef:=aF.filterMap λ b=>(h.get? b).map λ o=>(b,o)
theorem n3 (a:b∈aF) (e:h.get? b=some o):(b,o)∈pA aF h:=nF.mpr #[b,a,by rw [e];rfl]
theorem VX (ah:p∈pA aF h):p.1∈aF/\h.get? p.1=some p.2:=by
 obtain ⟨b,c,e⟩:=nF.mp ah;cases q:h.get? b with
 | none=>rw [q] at e;cases e
 | some o =>
  rw [q] at e;have a:=cE e;subst a;exact #[c,q]
theorem Inv.pinned {σ:St} (I:Inv X pins σ H s) (hf:∀ b∈aF,je X pins H b) (aA:∀ b∈aF,∃ o,s.heap.get? b=some o/\∀ v,o.data≠.cell v):Inv X (pins++pA aF s.heap) σ H s :=
 I.F8 λ p ah=>(fA.mp ah).elim (λ z=>I.pin p (fq _ z)) λ z=>by
  obtain ⟨c,e⟩:=VX z;obtain ⟨f0,f1,f2,_⟩:=hf p.1 c;obtain ⟨o,a,d⟩:=aA p.1 c;rw [e] at a;cases a;exact #[e,f0,f1,f2,d]
theorem Inv.rn {σ:St} (I:Inv X (pins++a) σ H s):Inv X pins σ H s:=I.F8 λ p ah=>I.pin p (fq _ (pk _ ah))
theorem Q_ (ah:PassesOwn (model X.prog X.w) X.A X.env X.a5) (af:X.warm=.t) (ar:gW X a4 iter oz) (Z:hU X a4 g) (j:h4 X body a7)
  (av:∀ x,foldedSetIterable iter X.env x=pure x:=by intro _;rfl):hV X (.For a4 iter body [] pos) (ED oz g a7):=by
 intro pins s σ H D I h;refine wpAny_For (aU (ar pins s σ H _ I h) λ v s1 U=>aU U λ ql s2 aa=>?_) av;obtain ⟨it,aF,ff,aC,aq,e,L,T,iF,f2,W,⟨m0,aY⟩,turn⟩:=aa;subst e;have stat:∀ {H':aD},(∀ b∈aF,H' b=.n)->∀ b∈aF,je X pins H' b:=λ ao b j=>#[ao b j,(f2 b j).2]
 refine codeAny_forLoop_any (λ n s'=>∃ i σ' H',Inv X pins σ' H' s'/\ff i s'.heap/\(∀ b∈aF,H' b=.n)/\W i n σ' H') ?_ m0 #[0,σ,aq,L,iF,λ b j=>(f2 b j).1,aY];rintro n s3 ⟨i,σ3,p,B,E,C,lO⟩;rcases turn i n σ3 p lO with ⟨stop,lM⟩|⟨go,N,aV,step⟩
 ·refine pq ah (aU (T.done X Y Y Y Y af i pins s3 σ3 p X.a5 B (stat C) E stop) ?_);rintro r s4 ⟨q,M⟩;subst q;exact pn #[σ3,p,M,lM]
 ·refine pq ah (aU (T.item X Y Y Y Y af i pins s3 σ3 p X.a5 B (stat C) E go) ?_);rintro r s4 ⟨u,q,S⟩;subst q;refine pq ah (aU S ?_);rintro _ s5 ⟨x,z,O,x4,yc,y,R⟩;have P:=O.pinned (stat R) (T.obj _ _ y);refine pq ah (aU (Z _ s5 σ3 z x u _ P x4 (step x z yc)) ?_);rintro _ e1 ⟨σ6,G,Q,Mn⟩;refine pq ah (aU (j _ e1 σ6 G _ Q Mn) λ f t k=>?_);have again:∀ {σ7:St} {a:aD},Inv X (pins++pA aF s5.heap) σ7 a t->N σ7 a->∃ m,m<n/\∃ i σ' H',Inv X pins σ' H' t/\ff i t.heap/\(∀ b∈aF,H' b=.n)/\W i m σ' H':=λ {σ7 a} c l=>by
   obtain ⟨gY,hm,My⟩:=aV σ7 a l;refine #[gY,hm,i+1,σ7,a,c.rn,T.keep _ _ _ y λ b j o e=>(c.pin (b,o) (fq _ (fq _ (n3 j e)))).1,λ b j=>?_,My];obtain ⟨o,e,d⟩:=T.obj _ _ y b j;exact (c.pin (b,o) (fq _ (fq _ (n3 j e)))).2.1
  cases f with
  | next=>obtain ⟨σ7,a,c,l⟩:=k;exact again c l
  | cont=>obtain ⟨σ7,a,c,l⟩:=k;exact again c l
  | brk=>obtain ⟨σ7,a,c,k⟩:=k;exact #[σ7,a,c.rn,k]
  | ret v=>obtain ⟨MA,σ7,a,c,mX,k⟩:=k;exact #[MA,σ7,a,c.rn,mX,k]
end
theorem rf {K:aP} {g:fF} {a7:cS} {D:Ends} (Pv:Nat->St->aD->Prop) (h0:Pv 0 σ H) (d:∀ i σ H,i<=xs.length->Pv i σ H->aS K H a xs)
  (av:∀ i x σ H,xs[i]?=some x->Pv i σ H->g x σ H λ σ2 aq=>a7 { D with bf:=Pv (i+1),b9:=Pv (i+1),bl:=D.bf } σ2 aq) (hd:∀ σ H,Pv xs.length σ H->D.bf σ H) :
  ∃ W:Nat->Nat->St->aD->Prop,(∃ m,W 0 m σ H)/\∀ i m σ H,W i m σ H ->
   ((m1 K a).stop i H/\D.bf σ H)\/((m1 K a).go i H/\∃ N,(∀ σ' H',N σ' H'->∃ c,c<m/\W (i+1) c σ' H')/\∀ x H',(m1 K a).ic i H x H'->g x σ H' λ σ2 aq=>a7 { D with bf:=N,b9:=N,bl:=D.bf } σ2 aq):=by
 refine #[λ i m σ H=>m=xs.length-i/\i<=xs.length/\Pv i σ H,#[xs.length,.zs,ej _,h0],?_];rintro i m σ H ⟨rfl,ar,p⟩;have q:=d i σ H ar p;by_cases b:i<xs.length
 ·refine .inr #[#[xs,xs[i],q,by simp [b]],Pv (i+1),λ σ' H' p'=>#[xs.length-(i+1),.au,Y,b,p'],λ x H' y=>?_];obtain ⟨e,y⟩:=y;subst e;exact av i x σ _ (y xs q) p
 ·have e:i=xs.length:=by omega
  subst e;exact .inl #[#[xs,q,bx _],hd σ H p]
theorem FW {K:aP} {g:fF} {a7:cS} {D:Ends} (Pv:Nat->St->aD->Prop) (h0:Pv 0 σ H) (d:∀ i σ H,i<=xs.length->Pv i σ H->aX K H a xs)
  (av:∀ i x σ H,xs[i]?=some x->Pv i σ H->g x σ H λ σ2 aq=>a7 { D with bf:=Pv (i+1),b9:=Pv (i+1),bl:=D.bf } σ2 aq) (hd:∀ σ H,Pv xs.length σ H->D.bf σ H) :
  ∃ W:Nat->Nat->St->aD->Prop,(∃ m,W 0 m σ H)/\∀ i m σ H,W i m σ H ->
   ((m2 K a).stop i H/\D.bf σ H)\/((m2 K a).go i H/\∃ N,(∀ σ' H',N σ' H'->∃ c,c<m/\W (i+1) c σ' H')/\∀ x H',(m2 K a).ic i H x H'->g x σ H' λ σ2 aq=>a7 { D with bf:=N,b9:=N,bl:=D.bf } σ2 aq):=by
 refine #[λ i m σ H=>m=xs.length-i/\i<=xs.length/\Pv i σ H,#[xs.length,.zs,ej _,h0],?_];rintro i m σ H ⟨rfl,ar,p⟩;have q:=d i σ H ar p;by_cases b:i<xs.length
 ·refine .inr #[#[xs,xs[i],q,by simp [b]],Pv (i+1),λ σ' H' p'=>#[xs.length-(i+1),.au,Y,b,p'],λ x H' y=>?_];obtain ⟨e,y⟩:=y;subst e;exact av i x σ _ (y xs q) p
 ·have e:i=xs.length:=by omega
  subst e;exact .inl #[#[xs,q,bx _],hd σ H p]
theorem Bf {lo:Int} {g:fF} {a7:cS} {D:Ends} (Pv:Nat->St->aD->Prop) (h0:Pv 0 σ H)
  (av:∀ i σ H,i<n->Pv i σ H->g (.int (lo+i)) σ H λ σ2 aq=>a7 { D with bf:=Pv (i+1),b9:=Pv (i+1),bl:=D.bf } σ2 aq) (hd:∀ σ H,Pv n σ H->D.bf σ H) :
  ∃ W:Nat->Nat->St->aD->Prop,(∃ m,W 0 m σ H)/\∀ i m σ H,W i m σ H ->
   ((qc lo n).stop i H/\D.bf σ H)\/((qc lo n).go i H/\∃ N,(∀ σ' H',N σ' H'->∃ b,b<m/\W (i+1) b σ' H')/\∀ x H',(qc lo n).ic i H x H'->g x σ H' λ σ2 aq=>a7 { D with bf:=N,b9:=N,bl:=D.bf } σ2 aq):=by
 refine #[λ i m σ H=>m=n-i/\i<=n/\Pv i σ H,#[n,.zs,ej _,h0],?_];rintro i m σ H ⟨rfl,ar,p⟩;by_cases a:i<n
 ·refine .inr #[a,Pv (i+1),λ σ' H' p'=>#[n-(i+1),.au,Y,a,p'],λ x H' y=>?_];obtain ⟨e,y⟩:=y;subst e y;exact av i σ _ a p
 ·have e:i=n:=by omega
  subst e;exact .inl #[bx _,hd σ H p]
abbrev gb:=V->V->aD->b2->Prop
def cI (X:aW) (f:Value->Value->Sem Value) (r:gb):Prop :=
 ∀ pins s (σ:St) H (x y) (v u) Q,Inv X pins σ H s->RelV x v->RelV y u->r x y H Q ->
  wpAny (model X.prog X.w) X.A (f v u) (el X pins σ Q) X.a5 s
def u1 (X:aW) (f:Value->Sem Value) (r:V->aD->b2->Prop):Prop :=
 ∀ pins s (σ:St) H x v Q,Inv X pins σ H s->RelV x v->r x H Q ->
  wpAny (model X.prog X.w) X.A (f v) (el X pins σ Q) X.a5 s
def ep (X:aW) (f:Value) (r:List V->aD->b2->Prop):Prop :=
 ∀ pins s (σ:St) H xs us Q,Inv X pins σ H s->Vals xs us->r xs H Q ->
  wpAny (model X.prog X.w) X.A (call f us) (el X pins σ Q) X.a5 s
def l1 (r:gb) (aN a7:TE):TE:=λ σ H Q=>aN σ H λ x H1=>a7 σ H1 λ y aq=>r x y aq Q
def DU (r:V->aD->b2->Prop) (aN:TE):TE:=λ σ H Q=>aN σ H λ x H1=>r x H1 Q
inductive p_ (C:Int->Int->Prop) (g:Int->Int->V):gb
 |mk {x y H Q} (i j):x=.int i->y=.int j->C i j->Q (g i j) H->p_ C g x y H Q
inductive lZ (g:Int->Int->V):gb
 |mk {x y H Q} (i j):x=.int i->y=.int j->Q (g i j) H->lZ g x y H Q
def Cy (g:Int->V):V->aD->b2->Prop:=λ x H Q=>∃ i,x=.int i/\Q (g i) H
section
variable {X:aW} {a b c:Expr} {aN a7 cg:TE} {pos:Pos}
theorem zc (ak:bw X a aN) (g:bw X b a7) {σ:St} {R:V->V->aD->Prop} (I:Inv X pins σ H s)
  (h:aN σ H λ x H1=>a7 σ H1 λ y aq=>R x y aq) {f:Value->Value->Sem Value}
  (hf:∀ v u s2 x y aq,Inv X pins σ aq s2->RelV x v->RelV y u->R x y aq->wpAny (model X.prog X.w) X.A (f v u) Q X.a5 s2) :
  wpAny (model X.prog X.w) X.A (eval a X.env) (λ v s₁=>wpAny (model X.prog X.w) X.A (eval b X.env) (λ u s₂=>wpAny (model X.prog X.w) X.A (f v u) Q X.a5 s₂) X.a5 s₁) X.a5 s:=by
 refine aU (ak pins s σ H _ I h) ?_;rintro v s1 ⟨x,H1,d,k,i⟩
 refine aU (g pins s1 σ H1 _ d i) ?_;rintro u s2 ⟨y,aq,e,l,j⟩
 exact hf v u s2 x y aq e k l j
theorem Qb (aA:cI X (binaryOp op) r) (ak:bw X a aN) (e:bw X b a7):bw X (.BinOp a op b pos) (l1 r aN a7):=by
 intro pins s σ H Q I h;exact wpAny_BinOp (zc ak e I h λ v u s2 x y aq d f g q=>aA pins s2 σ aq x y v u Q d f g q)
theorem Qe (aA:u1 X (unaryOp op) r) (ak:bw X a aN):bw X (.UnaryOp op a pos) (DU r aN):=by
 intro pins s σ H Q I h;exact UnaryOp_ (aU (ak pins s σ H _ I h) λ v s1 ⟨x,H1,d,f,e⟩=>aA pins s1 σ H1 x v Q d f e)
theorem vg {g:Int->Int->Int}
  (rule:∀ i j t u s Q E,C i j->Q (.int (g i j) s.toks) { s with toks:=s.toks+1 }->wpAny (model X.prog X.w) X.A (f (.int i t) (.int j u)) Q E s) :
  cI X f (p_ C λ i j=>.int (g i j)):=by
 intro pins s σ H x y v u Q I d e h;obtain ⟨i,j,rfl,rfl,af,q⟩:=h;obtain ⟨t,rfl⟩:=d;obtain ⟨t',rfl⟩:=e;exact rule i j t t' s _ _ af #[.int (g i j),H,I.tok _,#[_,Y],q]
theorem Ek {g:Int->Int->Int}
  (rule:∀ i j t u s Q E,Q (.int (g i j) s.toks) { s with toks:=s.toks+1 }->wpAny (model X.prog X.w) X.A (f (.int i t) (.int j u)) Q E s) :
  cI X f (lZ λ i j=>.int (g i j)):=by
 intro pins s σ H x y v u Q I d e h;obtain ⟨i,j,rfl,rfl,q⟩:=h;obtain ⟨t,rfl⟩:=d;obtain ⟨t',rfl⟩:=e;exact rule i j t t' s _ _ #[.int (g i j),H,I.tok _,#[_,Y],q]
theorem vt {g:Int->Int->Bool}
  (rule:∀ i j t u s Q E,Q (.bool (g i j)) s->wpAny (model X.prog X.w) X.A (f (.int i t) (.int j u)) Q E s) :
  cI X f (lZ λ i j=>.aO (g i j)):=by
 intro pins s σ H x y v u Q I d e h;obtain ⟨i,j,rfl,rfl,q⟩:=h;obtain ⟨t,rfl⟩:=d;obtain ⟨t',rfl⟩:=e;exact rule i j t t' s _ _ #[.aO (g i j),H,I,Y,q]
def Pc (i j:Int):Prop:=0<j/\j<1073741824
def y7 (i j:Int):Prop:=0<=j/\j<=1000000/\i.natAbs<2 ^ 64
def y6 (i j:Int):Prop:=(-(2 ^ 64)<i/\i<2 ^ 64)\/(-(2 ^ 64)<j/\j<2 ^ 64)
theorem y6.ok (h:y6 i j):IntMulOk i j:=by
 rcases h with ⟨U,aa⟩|⟨U,aa⟩
 ·exact .of_left (intBits_le_64 U aa)
 ·exact .of_right (intBits_le_64 U aa)
theorem e7:cI X (binaryOp .Add) (lZ λ i j=>.int (i+j)):=Ek λ Z Z Z Z Z Z Z q=>add_int q
theorem mu:cI X (binaryOp .Sub) (lZ λ i j=>.int (i-j)):=Ek λ Z Z Z Z Z Z Z q=>sub_int q
theorem pz:cI X (binaryOp .Mult) (p_ y6 λ i j=>.int (i*j)):=vg λ Z Z Z Z Z Z Z af q=>mul_int q af.ok
theorem q_:cI X (binaryOp .FloorDiv) (p_ Pc λ i j=>.int (i/j)):=vg λ i j Z Z Z Z Z af q=>by
 have U:=af.1;have aa:=af.2;exact floordiv_int .au (by rw [Int.fdiv_eq_ediv_of_nonneg i .au];exact q) (.inl (PyProof.noPylong_small .au))
theorem mr:cI X (binaryOp .Mod) (p_ (λ Z j=>0<j) λ i j=>.int (i%j)):=vg λ i j Z Z Z Z Z af q=>by
 have U:=af;exact mod_int' .au (by rw [Int.fmod_eq_emod_of_nonneg i .au];exact q)
theorem qM:cI X (binaryOp .Pow) (p_ y7 λ i j=>.int (i ^ j.toNat)):=vg λ Z Z Z Z Z Z Z af q=>pow_int_small af.1 af.2.1 af.2.2 q
theorem O5 {g:Int->Int}
  (rule:∀ i t s Q E,Q (.int (g i) s.toks) { s with toks:=s.toks+1 }->wpAny (model X.prog X.w) X.A (f (.int i t)) Q E s) :
  u1 X f (Cy λ i=>.int (g i)):=by
 intro pins s σ H x v Q I d h;obtain ⟨i,rfl,q⟩:=h;obtain ⟨t,rfl⟩:=d;exact rule i t s _ _ #[.int (g i),H,I.tok _,#[_,Y],q]
theorem zZ:u1 X (unaryOp .USub) (Cy λ i=>.int (-i)):=O5 λ Z Z Z Z Z q=>neg_int q
end
noncomputable def Ex:V->V->Bool
 | .aQ,.aQ=>.t| .aQ,.int _=>.t| .int _,.aQ=>.t| .aQ,.aO _=>.t| .aO _,.aQ=>.t| .aQ,.str _=>.t| .str _,.aQ=>.t
 | .int _,.int _=>.t| .aO _,.aO _=>.t| .str _,.str _=>.t| .h8 _,.h8 _=>.t
 | .int _,.str _=>.t| .str _,.int _=>.t| .aO _,.str _=>.t| .str _,.aO _=>.t
 | _,_=>.f
def yQ:gb:=λ x y H Q=>Ex x y=.t/\Q (.aO (decide (x=y))) H
def OR:gb:=λ x y H Q=>Ex x y=.t/\Q (.aO (!decide (x=y))) H
theorem FR:decide (V.int i=V.int j)=(i==j):=by
 rw [nG];simp
theorem Fc:decide (V.aO i=V.aO j)=(i==j):=by
 rw [nG];simp
theorem FT:decide (V.str i=V.str j)=(i==j):=by
 rw [nG];simp
theorem FQ:decide (V.h8 i=V.h8 j)=(i.toList==j.toList):=by
 rw [nG];cases i;cases j;simp
section
variable {X:aW} {a b c:Expr} {aN a7 cg:TE} {pos:Pos}
theorem dJ {σ:St} (I:Inv X pins σ H s) (q:Q (.aO k) H) (e:k=dQ):el X pins σ Q (.bool dQ) s:=by
 subst e;exact #[.aO k,H,I,Y,q]
theorem dE:cI X (compareOp .Eq) yQ:=by
 intro pins s σ H x y v u Q I e d h;obtain ⟨av,q⟩:=h;cases x with
 | aQ =>
  cases e;cases y with
  | aQ=>cases d;exact PySem.EqNone.eq_none_none (dJ I q .zs)
  | aO j=>cases d;exact PySem.EqNone.eq_none_bool (dJ I q .zs)
  | int j=>obtain ⟨t',rfl⟩:=d;exact PySem.EqNone.eq_none_int (dJ I q .zs)
  | str j=>obtain ⟨t',rfl⟩:=d;exact PySem.EqNone.eq_none_str (dJ I q .zs)
  | _=>exact absurd av dC
 | aO i =>
  cases e;cases y with
  | aQ=>cases d;exact PySem.EqNone.eq_bool_none (dJ I q .zs)
  | aO j=>cases d;exact eq_bool (dJ I q Fc)
  | str j=>obtain ⟨t',rfl⟩:=d;exact PySem.EqMixed.eq_bool_str (dJ I q .zs)
  | _=>exact absurd av dC
 | int i =>
  obtain ⟨t,rfl⟩:=e;cases y with
  | aQ=>cases d;exact PySem.EqNone.eq_int_none (dJ I q .zs)
  | int j=>obtain ⟨t',rfl⟩:=d;exact eq_int (dJ I q FR)
  | str j=>obtain ⟨t',rfl⟩:=d;exact PySem.EqMixed.eq_int_str (dJ I q .zs)
  | _=>exact absurd av dC
 | str i =>
  obtain ⟨t,rfl⟩:=e;cases y with
  | aQ=>cases d;exact PySem.EqNone.eq_str_none (dJ I q .zs)
  | aO j=>cases d;exact PySem.EqMixed.eq_str_bool (dJ I q .zs)
  | int j=>obtain ⟨t',rfl⟩:=d;exact PySem.EqMixed.eq_str_int (dJ I q .zs)
  | str j=>obtain ⟨t',rfl⟩:=d;exact eq_str (dJ I q FT)
  | _=>exact absurd av dC
 | h8 i =>
  obtain ⟨t,rfl⟩:=e;cases y with
  | h8 j=>obtain ⟨t',rfl⟩:=d;exact PySem.W.eq_bytes (dJ I q FQ)
  | _=>exact absurd av dC
 | _=>cases y<;>exact absurd av dC
theorem gN:cI X (compareOp .NotEq) OR:=by
 intro pins s σ H x y v u Q I e d h;obtain ⟨av,q⟩:=h;cases x with
 | aQ =>
  cases e;cases y with
  | aQ=>cases d;exact PySem.EqNone.ne_none_none (dJ I q .zs)
  | aO j=>cases d;exact PySem.EqNone.ne_none_bool (dJ I q .zs)
  | int j=>obtain ⟨t',rfl⟩:=d;exact PySem.EqNone.ne_none_int (dJ I q .zs)
  | str j=>obtain ⟨t',rfl⟩:=d;exact PySem.EqNone.ne_none_str (dJ I q .zs)
  | _=>exact absurd av dC
 | aO i =>
  cases e;cases y with
  | aQ=>cases d;exact PySem.EqNone.ne_bool_none (dJ I q .zs)
  | aO j=>cases d;exact ne_bool (dJ I q (eG not Fc))
  | str j=>obtain ⟨t',rfl⟩:=d;exact PySem.EqMixed.ne_bool_str (dJ I q .zs)
  | _=>exact absurd av dC
 | int i =>
  obtain ⟨t,rfl⟩:=e;cases y with
  | aQ=>cases d;exact PySem.EqNone.ne_int_none (dJ I q .zs)
  | int j=>obtain ⟨t',rfl⟩:=d;exact ne_int (dJ I q (eG not FR))
  | str j=>obtain ⟨t',rfl⟩:=d;exact PySem.EqMixed.ne_int_str (dJ I q .zs)
  | _=>exact absurd av dC
 | str i =>
  obtain ⟨t,rfl⟩:=e;cases y with
  | aQ=>cases d;exact PySem.EqNone.ne_str_none (dJ I q .zs)
  | aO j=>cases d;exact PySem.EqMixed.ne_str_bool (dJ I q .zs)
  | int j=>obtain ⟨t',rfl⟩:=d;exact PySem.EqMixed.ne_str_int (dJ I q .zs)
  | str j=>obtain ⟨t',rfl⟩:=d;exact ne_str (dJ I q (eG not FT))
  | _=>exact absurd av dC
 | h8 i =>
  obtain ⟨t,rfl⟩:=e;cases y with
  | h8 j=>obtain ⟨t',rfl⟩:=d;exact PySem.W.ne_bytes (dJ I q (eG not FQ))
  | _=>exact absurd av dC
 | _=>cases y<;>exact absurd av dC
theorem kU:cI X (compareOp .Lt) (lZ λ i j=>.aO (decide (i<j))):=vt λ Z Z Z Z Z Z Z q=>lt_int q
theorem pg:cI X (compareOp .LtE) (lZ λ i j=>.aO (decide (i<=j))):=vt λ Z Z Z Z Z Z Z q=>le_int q
theorem gM:cI X (compareOp .Gt) (lZ λ i j=>.aO (decide (j<i))):=vt λ Z Z Z Z Z Z Z q=>gt_int q
theorem vE:cI X (compareOp .GtE) (lZ λ i j=>.aO (decide (j<=i))):=vt λ Z Z Z Z Z Z Z q=>ge_int q
theorem Bp:cI X (compareOp .In) (λ x y H Q=>∃ i j,x=.str i/\y=.str j/\Q (.aO (!(Builtin.Str.occurrences j i 0 j.length 1).isEmpty)) H):=by
 intro pins s σ H x y v u Q I d e h;obtain ⟨i,j,rfl,rfl,q⟩:=h;obtain ⟨t,rfl⟩:=d;obtain ⟨t',rfl⟩:=e;exact in_str (dJ I q Y)
theorem mq:cI X (compareOp .Is) (λ x y H Q=>y=.aQ/\Q (.aO (decide (x=.aQ))) H):=by
 intro pins s σ H x y v u Q I d e h;obtain ⟨rfl,q⟩:=h;cases e;refine is_none_gen (dJ I q ?_);cases x<;>(obtain ⟨t,rfl⟩:=d;rfl)
theorem wK:cI X (compareOp .IsNot) (λ x y H Q=>y=.aQ/\Q (.aO (!decide (x=.aQ))) H):=by
 intro pins s σ H x y v u Q I d e h;obtain ⟨rfl,q⟩:=h;cases e;refine isnot_none_gen (dJ I q ?_);cases x<;>(obtain ⟨t,rfl⟩:=d;rfl)
theorem bp (b) (h:op≠.In:=by decide) (aa:op≠.NotIn:=by decide):behindInMarks op b=.f:=by
 have d:(op==CmpOp.In)=.f:=by cases op<;>first|rfl|exact absurd rfl h
 have e:(op==CmpOp.NotIn)=.f:=by cases op<;>first|rfl|exact absurd rfl aa
 cases b<;>simp [behindInMarks,d,e]
theorem Sf (aA:cI X (compareOp op) r) (ak:bw X a aN) (e:bw X b a7) (hm:behindInMarks op b=.f):bw X (.Compare a [op] [b] pos) (l1 r aN a7):=by
 intro pins s σ H Q I h;exact wpAny_Compare1 (zc ak e I h λ v u s2 x y aq d f g q=>aA pins s2 σ aq x y v u Q d f g q) hm
def vK (t:TE):TT:=λ σ H Q=>t σ H λ x H'=>∃ k,x=.aO k/\Q k H'
theorem Sx (aA:cI X (compareOp op) r) (ak:bw X a aN) (j:bw X b a7) (hm:behindInMarks op b=.f):hu X (.Compare a [op] [b] pos) (vK (l1 r aN a7)):=by
 intro pins s σ H Q I h;refine wpAny_isTrue_Compare1 (aU (ak pins s σ H _ I h) λ v s1 ⟨x,H1,f,o,l⟩=>aU (j pins s1 σ H1 _ f l) λ u s2 ⟨y,aq,g,p,m⟩ =>
  aU (aA pins s2 σ aq x y v u _ g o p m) λ c s3 ⟨z,d,i,q,k,e,n⟩=>?_) hm
 subst e;cases q;exact mi #[d,i,n]
def Fy (r f:gb) (aN a7 cg:TE):TE:=λ σ H Q=>aN σ H λ x H1=>a7 σ H1 λ y aq=>r x y aq λ z d=>∃ k,z=.aO k /\
 (if k=.t then cg σ d λ b1 e=>f y b1 e Q else Q (.aO .f) d)
theorem UG (aA:cI X (compareOp op) r) (C:cI X (compareOp i) L) (ak:bw X a aN) (B:bw X b a7) (af:bw X c cg)
  (hm:lastMarks [op,i] [b,c]=.f:=by with_unfolding_all rfl):hu X (.Compare a [op,i] [b,c] pos) (vK (Fy r L aN a7 cg)):=by
 intro pins s σ H Q I h;refine isTrue_chain (aU (ak pins s σ H _ I h) λ v s1 ⟨x,H1,o,M,D⟩=>test_link (aU (B pins s1 σ H1 _ o D) λ u s2 ⟨y,aq,p,l,E⟩ =>
  aU (aA pins s2 σ aq x y v u _ p M l E) λ d s3 ⟨z,f,g,N,k,e,j⟩=>?_)) hm
 subst e;cases N;refine mi ?_;cases k with
 | false =>
  obtain ⟨dQ,w,aR⟩:=j;cases w;exact ite_ff #[f,g,aR]
 | true =>
  refine ite_tt (test_last (aU (af pins s3 σ f _ g j) ?_));rintro b1 s4 ⟨R,m,q,O,G⟩;refine aU (C pins s4 σ m y R u b1 _ q l O G) ?_;rintro b4 s5 ⟨S,n,t,P,k2,A,aC⟩;subst A;cases P;exact mi #[n,t,aC]
theorem qL:(sizeLine:Nat)<2 ^ 63:=by rw [b7];decide
theorem vals1 (r:Vals [x] us):∃ u,us=[u]/\RelV x u:=by
 cases r with
 | cons d e=>cases e;exact #[_,Y,d]
theorem vals2 (r:Vals [x,y] us):∃ u b1,us=[u,b1]/\RelV x u/\RelV y b1:=by
 cases r with
 | cons d e =>
  cases e with
  | cons f g=>cases g;exact #[_,_,Y,d,f]
inductive IQ:List V->aD->b2->Prop
 |mk {xs H Q} (i j):xs=[.int i,.int j]->Q (.int (if j>i then j else i)) H->IQ xs H Q
theorem Bc (af:X.warm=.t):ep X (.builtin "max") IQ:=by
 intro pins s σ H xs us Q I r h;obtain ⟨i,j,rfl,q⟩:=h;obtain ⟨u,b1,rfl,⟨t,rfl⟩,⟨t',rfl⟩⟩:=vals2 r;refine eP.max2 (I.fY af) λ h' a8 k=>#[_,H,I.kept k,?_,q]
 by_cases d:j>i
 ·rw [if_pos d,if_pos d];exact #[_,Y]
 ·rw [if_neg d,if_neg d];exact #[_,Y]
inductive IS:List V->aD->b2->Prop
 |mk {xs H Q} (i j):xs=[.int i,.int j]->Q (.int (if j<i then j else i)) H->IS xs H Q
theorem Vr (af:X.calm=.t):ep X (.builtin "min") IS:=by
 intro pins s σ H xs us Q I r h;obtain ⟨i,j,rfl,q⟩:=h;obtain ⟨u,b1,rfl,⟨t,rfl⟩,⟨t',rfl⟩⟩:=vals2 r;refine min_two_ints (I.ok.hd.1 af) λ h' a8 k=>#[_,H,I.kept k,?_,q]
 by_cases d:j<i
 ·rw [if_pos d,if_pos d];exact #[_,Y]
 ·rw [if_neg d,if_neg d];exact #[_,Y]
theorem HR:ep X (.type "int") (λ xs H Q=>(∃ i,xs=[.int i]/\Q (.int i) H)\/∃ k,xs=[.aO k]/\Q (.int (if k then 1 else 0)) H):=by
 intro pins s σ H xs us Q I r h;rcases h with ⟨i,rfl,q⟩|⟨k,rfl,q⟩
 ·obtain ⟨u,rfl,t,rfl⟩:=vals1 r;exact call_int_int #[.int i,H,I,#[_,Y],q]
 ·obtain ⟨u,rfl,d⟩:=vals1 r;cases d;exact call_int_bool #[.int (if k then 1 else 0),H,I.tok _,#[_,Y],q]
inductive Kn:List V->aD->b2->Prop
 |mk {xs H Q} (i):xs=[.int i]->i.natAbs.log2<1920->Q (.str (toString i)) H->Kn xs H Q
theorem JJ:ep X (.type "str") Kn:=by
 intro pins s σ H xs us Q I r h;obtain ⟨i,rfl,d,q⟩:=h;obtain ⟨u,rfl,t,rfl⟩:=vals1 r;exact PySem.P.str_of_int d #[.str _,H,I.tok _,#[_,Y],q]
end
structure o2 (h:Heap) (x aE C:Addr) (cY:Str->b_):Prop where
 obj:h.get? x=some (PySem.W.instObj C aE)
 ns:h.Ns1 aE cY
 ne:aE≠x
set_option tactic.hygienic true in
theorem H8 {h:Heap} (n:h.Ns1 aE cY):∃ cH,h.get? aE=some cH/\∀ name,PySem.W.lookIn name cH=some (cY name):=by
 obtain ⟨o,aj,f,aA,hd,b,_,hm⟩:=n;refine #[o,aA,λ name=>?_];have e:=hm name;unfold nsFind findBy at e;rw [<-Array.find?_toList] at e;unfold PySem.W.lookIn;rw [hd];dsimp only;split
 ·rename_i y q;rw [q] at e;exact eG some e
 ·rename_i q;rw [q] at e;have a:aj.toList.any (·.refKey)=.f:=by
   rw [List.any_eq_false];intro y d;obtain ⟨z,t,c⟩:=b y (Array.mem_toList_iff.mp d);simp [DictEntry.refKey,c]
  have a':¬ aj.toList.any (·.refKey)=.t:=by rw [a];exact dC
  rw [if_neg a'];exact eG some e
theorem o2.look (I:o2 h x aE C cY):∃ cH,PySem.W.InstAt h x (PySem.W.instObj C aE) C (some cH)/\∀ name,PySem.W.lookIn name cH=some (cY name) :=
 let ⟨cH,aA,a⟩:=H8 I.ns
 #[cH,#[I.obj,Y,Y,aA],a]
section
variable {prog:Program} {w:World} {A:Around} {E:c0} {s:Shared} {K:aP} {x aE C f:Addr} {cY:Str->b_} {name:Str} {v:Value}
theorem get_map (X:K.In s.heap) (I:o2 s.heap x aE C cY) (a:PySem.W.plainGet K C name=.t) (b:PySem.W.hasDictIn K C=.t)
  (ak:PySem.W.findIn K (.ref C) name=some .n) (aI:cY name=some v) (d:PySem.W.handedIn v=.t) (h:Q v { s with toks:=s.toks+1 }) :
  wpAny (model prog w) A (getAttr (.ref x) name expr) Q E s:=by
 obtain ⟨cH,aC,c⟩:=I.look;exact PySem.W.get_value X aC (zF a).1 (PySem.W.findObj_own b ak Y (by rw [c,aI])) d h
theorem TR (X:K.In s.heap) (I:o2 s.heap x aE C cY) (a:PySem.W.plainGet K C name=.t)
  (hf:PySem.W.findIn K (.ref C) name=some (some (.ref f))) (aG:PySem.W.isFn K (.ref f)=.t) (aI:cY name=.n) (h:Q (.ref f,[.ref x]) s) :
  wpAny (model prog w) A (getMethod (.ref x) name c) Q E s:=by
 obtain ⟨cH,aC,b⟩:=I.look;exact PySem.W.method_fn X aC (zF a).1 (zF a).2 hf (iO.mp aG) (by show (PySem.W.lookIn name cH).map (·.isSome)=some .f;rw [b,aI];rfl) h
theorem S4 (X:K.In s.heap) (I:o2 s.heap x aE C cY)
  (av:PySem.W.findIn K (.ref C) "__setattr__" = some (some (.builtin "object.__setattr__"))) (ah:PySem.W.plainOver K C=.t) (aG:PySem.W.takerIn K C name=some .n) (i:PySem.W.hasDictIn K C=.t)
  (hw:PySem.Within cY ns) (n:ns.length<=sizeLine)
  (h:∀ h',o2 h' x aE C (λ y=>if y=name then some v else cY y)->Heap.SameBut aE s.heap h'->Q () { s with heap:=h',toks:=s.toks+2 }) :
  wpAny (model prog w) A (setAttr (.ref x) name v) Q E s:=by
 obtain ⟨cH,aC,m⟩:=I.look;refine PySem.W.set_plain X aC av (PySem.W.osa_open X aC ah aG λ b=>?_);obtain ⟨cd,af,e⟩:=PySem.W.any_some i;have ae:=I.obj;refine ax (a_ (ax (ax (wpAny_loadPart ae (ax (PySem.W.Looks.here (PySem.W.looks_clsIn X af) ?_))))));rw [e];refine a_ (ax (a_ (ax ?_)));refine wpAny_nsSet1 I.ns λ h' a c=>?_
 obtain ⟨o,l,k,j,g,d⟩:=a.count (PySem.Within.cons name v hw);refine ax (wpAny_lookBehind j (by rw [g];exact pastItsLine_dict (dF d (by rw [gq];omega))) ?_);exact a_ (h _ #[(c.2 _ (dz I.ne)).trans I.obj,a,I.ne] c)
theorem T8 (X:K.In s.heap) (hm:PySem.W.makesIn K C=.t)
  (ar:PySem.W.findIn K (.ref C) "__init__" = some (some (.ref f))) (hf:PySem.W.typeIn K (.ref f)=some (.type "function"))
  (h:codeAny (model prog w) (A.under (.builtin "type.__call__" ⟨.ref C::vs,kw⟩)) (.call (.ref f) ⟨.ref (s.heap.objs.size+1)::vs,kw⟩) (PySem.W.InitBack (s.heap.objs.size+1) R)
   { s with heap:=(s.heap.push PySem.W.emptyDict).push (PySem.W.instObj C s.heap.objs.size) }) :
  codeAny (model prog w) A (.call (.ref C) ⟨vs,kw⟩) R s:=by
 obtain ⟨a,g,d,t,os⟩:=s;exact PySem.W.make_core (PySem.W.makes_of X hm) (PySem.W.looks_findIn X ar) (λ self=>PySem.W.bind_fn X self hf) (.inl Y) h
end
noncomputable def gI (f:Str) (v:V):List (Str×V)->List (Str×V)
 | []=>[(f,v)]
 | (g,x)::r=>if g=f then (g,v)::r else (g,x)::gI f v r
theorem Jf (f g) (v):∀ aw,(gI f v aw).lookup g=if g=f then some v else aw.lookup g
 | []=>by
  show List.lookup g [(f,v)]=_;by_cases h:g=f
  ·have a:=iO.mpr h;simp only [List.lookup,a,if_pos h]
  ·have a:=nC.mpr h;simp only [List.lookup,a,if_neg h]
 | (k,x)::r=>by
  have c:=Jf f g v r;rw [show gI f v ((k,x)::r)=(if k=f then (k,v)::r else (k,x)::gI f v r) from rfl];by_cases b:k=f
  ·rw [if_pos b];by_cases h:g=k
   ·have a:=iO.mpr h;simp only [List.lookup,a,if_pos (h.trans b)]
   ·have a:=nC.mpr h;simp only [List.lookup,a,if_neg (λ e:g=f=>h (e.trans b.symm))]
  ·rw [if_neg b];by_cases h:g=k
   ·have a:=iO.mpr h;simp only [List.lookup,a,if_neg (λ e=>b (h.symm.trans e))]
   ·have a:=nC.mpr h;simp only [List.lookup,a];exact c
theorem Bi (f) (v):∀ aw,f∈(gI f v aw).map (·.1)/\∀ g,g∈aw.map (·.1)->g∈(gI f v aw).map (·.1)
 | []=>#[by simp [gI],λ g h=>by simp at h]
 | (k,x)::r=>by
  obtain ⟨b,c⟩:=Bi f v r;rw [show gI f v ((k,x)::r)=(if k=f then (k,v)::r else (k,x)::gI f v r) from rfl];by_cases a:k=f
  ·rw [if_pos a];subst a;exact #[.zs,λ g h=>by simpa using h]
  ·rw [if_neg a];refine #[?_,λ g h=>?_]
   ·rw [es];exact de _ b
   ·rw [es] at h ⊢;rcases bt.mp h with e|e
    ·exact bt.mpr (.inl e)
    ·exact de _ (c g e)
theorem Je (f) (v):∀ aw,(gI f v aw).length<=aw.length+1
 | []=>by simp [gI]
 | (k,x)::r=>by
  have b:=Je f v r;rw [show gI f v ((k,x)::r)=(if k=f then (k,v)::r else (k,x)::gI f v r) from rfl];by_cases a:k=f
  ·rw [if_pos a,gq,gq];omega
  ·rw [if_neg a,gq,gq];omega
theorem fJ.some_of (r:fJ (some v) o):∃ u,o=some u/\RelV v u:=by
 cases o with
 | none=>exact r.elim
 | some u=>exact #[u,Y,r]
theorem fJ.none_of (r:fJ .n o):o=.n:=by
 cases o with
 | none=>rfl
 | some u=>exact r.elim
theorem H3 (r:RelV v u):PySem.W.handedIn u=.t:=by
 cases v with
 | aQ=>cases r;rfl
 | aO b=>cases r;rfl
 | int i=>obtain ⟨t,e⟩:=r;cases e;rfl
 | str x=>obtain ⟨t,e⟩:=r;cases e;rfl
 | h8 b=>obtain ⟨t,e⟩:=r;cases e;rfl
 | lR b=>obtain ⟨t,e⟩:=r;cases e;rfl
 | ref a=>cases r;rfl
 | ty n=>cases r;rfl
section
variable {P:Program} {w:World} {H H':aD} {h h':Heap} {a C aE:Addr} {aw kJ:List (Str×V)}
theorem wH (aK:cU P w H h) (e:H a=some (.ins C aE aw)):∃ cY,o2 h a aE C cY/\(∀ f,fJ (aw.lookup f) (cY f))/\PySem.Within cY (aw.map (·.1))/\aw.length<=1000/\H aE=some (.own a):=by
 obtain ⟨d,z,ne,bD,cY,n,r,q⟩:=(aK a _ e)
 exact #[cY,#[bD,n,ne],r,q,z,d]
end
structure hE (K:aP) (C:Addr):Prop where
 Mm:PySem.W.plainGet K C Str.empty=.t
 hd:PySem.W.hasDictIn K C=.t
 po:PySem.W.plainOver K C=.t
 x7:PySem.W.findIn K (.ref C) "__setattr__" = some (some (.builtin "object.__setattr__"))
theorem hE.get {K:aP} (c:hE K C) (f):PySem.W.plainGet K C f=.t:=c.Mm
def k7 (K:aP) (C:Addr) (f:Str):Prop:=PySem.W.findIn K (.ref C) f=some .n
theorem k7.Qr {K:aP} (n:k7 K C f):PySem.W.takerIn K C f=some .n:=by
 unfold PySem.W.takerIn;rw [show PySem.W.findIn K (.ref C) f=some .n from n];rfl
structure Meth (K:aP) (C:Addr) (m:Str) (f:Addr):Prop where
 at_:PySem.W.findIn K (.ref C) m=some (some (.ref f))
 fn:PySem.W.isFn K (.ref f)=.t
 bI:PySem.W.keepIn K (.ref f)=.t
section
variable {X:aW} {pins:ef} {σ:St} {H:aD} {s:Shared} {a C aE:Addr} {aw:List (Str×V)} {f:Str} {v:V} {A:Around} {E:c0}
theorem WB (I:Inv X pins σ H s) (e:H a=some (.ins C aE aw)) (c:hE X.K C) (n:k7 X.K C f) (l:aw.lookup f=some v)
  (h:∀ u s',Inv X pins σ H s'->RelV v u->Q u s'):wpAny (model X.prog X.w) A (getAttr (.ref a) f b) Q E s:=by
 obtain ⟨cY,O,r,_,_,_⟩:=wH I.aK e;obtain ⟨u,g,d⟩:=fJ.some_of (by rw [<-l];exact r f);exact get_map I.cA O (c.get f) c.hd n g (H3 d) (h u _ (I.tok _) d)
theorem II (I:Inv X pins σ H s) (e:H a=some (.ins C aE aw)) (c:hE X.K C) (k:Meth X.K C m g) (l:aw.lookup m=.n)
  (h:Q (.ref g,[.ref a]) s):wpAny (model X.prog X.w) A (getMethod (.ref a) m b) Q E s:=by
 obtain ⟨cY,O,r,_,_,_⟩:=wH I.aK e;have ao:=fJ.none_of (by rw [<-l];exact r m);exact TR I.cA O (c.get m) k.at_ k.fn ao h
theorem W6 (I:Inv X pins σ H s) (e:H a=some (.ins C aE aw)) (c:hE X.K C) (n:k7 X.K C f) (x:aw.length<1000) (p:RelV y u)
  (h:∀ s',Inv X pins σ (upd H a (.ins C aE (gI f y aw))) s'->Q () s'):wpAny (model X.prog X.w) A (setAttr (.ref a) f u) Q E s:=by
 obtain ⟨cY,O,r,i,_,aA⟩:=wH I.aK e;have m:(aw.map (·.1)).length<=sizeLine:=by rw [bz,b7];omega
 refine S4 I.cA O c.x7 c.po n.Qr c.hd i m λ h' d t=>h _ ?_
 have hd:∃ o,h'.get? aE=some o:=let ⟨o,_,_,j,_⟩:=d.ns;⟨o,j⟩
 refine I.write (by rw [e];exact True.intro) (.inr aA) (λ b q k z=>(t.2 b k).trans z) hd ?_;refine #[by rw [bC O.ne];exact aA,?_,O.ne,d.obj,_,d.ns,λ g=>?_,λ g l=>?_]
 ·have:=Je f y aw;omega
 ·show fJ ((gI f y aw).lookup g) (if g=f then some u else cY g);rw [Jf];by_cases q:g=f
  ·rw [if_pos q,if_pos q];exact p
  ·rw [if_neg q,if_neg q];exact r g
 ·by_cases q:g=f
  ·rw [q];exact (Bi f y aw).1
  ·refine (Bi f y aw).2 g (i g λ z=>l ?_);show (if g=f then some u else cY g)=.n;rw [if_neg q];exact z
theorem Inv.made (I:Inv X pins σ H s):Inv X pins σ (upd (upd H s.heap.objs.size (.own (s.heap.objs.size+1))) (s.heap.objs.size+1) (.ins C s.heap.objs.size []))
  { s with heap:=(s.heap.push PySem.W.emptyDict).push (PySem.W.instObj C s.heap.objs.size) }:=by
 have c:(s.heap.push PySem.W.emptyDict).get? s.heap.objs.size=some PySem.W.emptyDict:=cJ s.heap rfl;have g:((s.heap.push PySem.W.emptyDict).push (PySem.W.instObj C s.heap.objs.size)).get? (s.heap.objs.size+1)=some (PySem.W.instObj C s.heap.objs.size):=by
  have:=cJ (s.heap.push PySem.W.emptyDict) (o:=PySem.W.instObj C s.heap.objs.size) rfl
  rwa [eF] at this
 have h:(s.heap.push PySem.W.emptyDict).Ns s.heap.objs.size (λ Z=>.n):=#[PySem.W.emptyDict,#[],_,c,Y,(λ e he=>absurd he .zs),λ Z=>rfl]
 have d:=I.laid (o:=.own (s.heap.objs.size+1)) (t':=s.toks) (λ b u q=>a9 _ q) (bx _) #[_,c];refine d.laid (λ b u q=>a9 _ q) (Nat.le_of_eq (eF _ _)) ?_;have ne:s.heap.objs.size≠s.heap.objs.size+1:=cc (j0 _);refine #[by rw [bC ne,bN],ej _,ne,g,λ Z=>.n,(Heap.Ns1.of_empty h).at λ o q=>a9 _ q,λ Z=>True.intro,λ y i=>absurd Y i]
theorem FO (b:attributeBase e f env (eval e env)=eval e env)
  (h:wpAny (model prog w) A (eval e env) (λ o s₁=>wpAny (model prog w) A (getAttr o f .t) Q E s₁) E s):wpAny (model prog w) A (eval (.Attribute e f pos) env) Q E s :=
 Attribute_any_ h (by rw [arm_eval_Attribute,b])
end
inductive Eo (K:aP) (f:Str) (x:V) (H1:aD) (Q:b2):Prop
 |mk (a C aE aw v):x=.ref a->H1 a=some (.ins C aE aw)->hE K C->k7 K C f->aw.lookup f=some v->Q v H1->Eo K f x H1 Q
def EC (K:aP) (aN:TE) (f:Str):TE:=λ σ H Q=>aN σ H λ x H1=>Eo K f x H1 Q
def Ew (K:aP) (aN e2:TE) (f:Str):cS:=λ D σ H=>e2 σ H λ y H1=>aN σ H1 λ x aq=>∃ a C aE aw,x=.ref a/\aq a=some (.ins C aE aw)/\hE K C/\k7 K C f/\aw.length<1000 /\
 D.bf σ (upd aq a (.ins C aE (gI f y aw)))
section
variable {X:aW} {o e value:Expr} {f:Str} {pos pos' abj:Pos} {aN e2:TE}
theorem QV (he:bw X e aN) (i:attributeBase e f X.env (eval e X.env)=eval e X.env):bw X (.Attribute e f pos) (EC X.K aN f):=by
 intro pins s σ H Q I h;refine FO i (aU (he pins s σ H _ I h) ?_);rintro u s1 ⟨x,H1,b,k,a,C,aE,aw,v,ex,g,c,n,l,q⟩;subst ex;obtain rfl:u=Value.ref a:=k;exact WB b g c n l λ m s2 d j=>#[v,H1,d,j,q]
theorem Q9 (ak:bw X o aN) (aI:bw X value e2) (av:swapsWith value (some (.Attribute o f pos')) pos.line X.env=pure .f):hV X (.Assign [.Attribute o f pos'] value pos) (Ew X.K aN e2 f):=by
 intro pins s σ H D I h;refine plainObj_wpAny_Assign_Attribute (aU (aI pins s σ H _ I h) ?_) av;rintro u s1 ⟨y,H1,b,p,q⟩;refine aU (ak pins s1 σ H1 _ b q) ?_;rintro j s2 ⟨x,aq,d,m,a,C,aE,aw,ex,i,c,n,l,k⟩;subst ex;obtain rfl:j=Value.ref a:=m;exact W6 d i c n l p λ s3 g=>#[σ,_,g,k]
end
section
variable {X:aW} {pins:ef} {σ:St} {H:aD} {s:Shared} {A:Around} {E:c0} {Q:c0} {c:Value} {b:Bool}
inductive gF (K:aP) (H:aD):V->Value->Prop where
 | aQ:gF K H .aQ (.type "NoneType")
 | aO (x:Bool):gF K H (.aO x) (.type "bool")
 | int (i:Int):gF K H (.int i) (.type "int")
 | str (x:Str):gF K H (.str x) (.type "str")
 | lR (x:UInt64):gF K H (.lR x) (.type "float")
 | lst {a:Addr} {xs:List V} (e:H a=some (.lst xs)):gF K H (.ref a) (.type "list")
 | hH {a:Addr} {o:Obj} {xs:List V} (e:H a=some (.hH o (.lst xs))):gF K H (.ref a) (.type "list")
 | tup {a:Addr} {xs:List V} (e:H a=some (.tup xs)):gF K H (.ref a) (.type "tuple")
 | cM {a:Addr} {kvs:List (Key×V)} (e:H a=some (.cM kvs)):gF K H (.ref a) (.type "dict")
 | ez {a:Addr} {kvs:List (List Key×V)} (e:H a=some (.ez kvs)):gF K H (.ref a) (.type "dict")
 | ins {a C aE:Addr} {aw:List (Str×V)} (e:H a=some (.ins C aE aw)) (cl:hE K C) (ak:PySem.W.findIn K (.ref C) "__class__" = some (some (.builtin "object.__class__")))
   (ao:PySem.W.specialIn K (.builtin "object.__class__") "__get__" = some (some (.builtin "getset_descriptor.__get__"))) (lU:PySem.W.takesIn K (.builtin "object.__class__")=some .t)
   (hm:PySem.W.mroIn K C (.type "object")=some .t):gF K H (.ref a) (.ref C)
theorem VF (I:Inv X pins σ H s) (f:RelV x u) (ty:gF X.K H x t) (e:PySem.W.kitOne X.K t c=some b) (h:∀ a8,Q (.bool b) { s with toks:=a8 }) :
  wpAny (model X.prog X.w) A (call (.builtin "isinstance") [u,c]) Q E s:=by
 cases ty with
 | aQ=>cases f;exact jl PySem.W.kitx_none I.cA True.intro e (λ z=>nomatch z) h
 | aO y=>cases f;exact jl PySem.W.kitx_bool I.cA True.intro e (λ z=>nomatch z) h
 | int i=>obtain ⟨t,q⟩:=f;cases q;exact jl PySem.W.kitx_int I.cA True.intro e (λ z=>nomatch z) h
 | str y=>obtain ⟨t,q⟩:=f;cases q;exact jl PySem.W.kitx_str I.cA True.intro e (λ z=>nomatch z) h
 | lR y=>obtain ⟨t,q⟩:=f;cases q;exact jl PySem.W.kitx_float I.cA True.intro e (λ z=>nomatch z) h
 | @lst a xs d =>
  cases f;obtain ⟨_,_,n,_,U⟩:=(I.aK a _ d)
  exact jl PySem.W.kitx_list I.cA #[_,U,Y] e (λ z=>nomatch z) h
 | @hH a bD xs d =>
  cases f;obtain ⟨_,_,_,n,_,U⟩:=(I.aK a _ d)
  exact jl PySem.W.kitx_list I.cA #[_,U,Y] e (λ z=>nomatch z) h
 | @tup a xs d =>
  cases f;obtain ⟨_,_,_,j⟩:=(I.aK a _ d)
  have p:=j.up;obtain ⟨o,U,aa,_⟩:=p;exact jl PySem.W.kitx_tuple I.cA #[o,U,aa] e (λ z=>nomatch z) h
 | @cM a kvs d =>
  cases f;obtain ⟨_,_,vs,_,p⟩:=(I.aK a _ d)
  obtain ⟨o,aj,g,U,aa,_⟩:=p;exact jl PySem.W.kitx_dict I.cA #[o,U,aa.1] e (λ z=>nomatch z) h
 | @ez a kvs d =>
  cases f;obtain ⟨_,_,xs,_,o,aj,g,U,aa,_⟩:=(I.aK a _ d)
  exact jl PySem.W.kitx_dict I.cA #[o,U,aa.1] e (λ z=>nomatch z) h
 | @ins a C aE aw d cl ak ao lU hm =>
  cases f;obtain ⟨cY,O,_⟩:=wH I.aK d;obtain ⟨cH,aC,_⟩:=O.look;exact jl (PySem.W.kitx_own (cl.get _) cl.hd ak ao lU hm) I.cA aC e (λ z=>nomatch z) h
end
structure cR (k:Nat) (A:Around):Prop where
 hd:A.handled=.n
 hW:A.depth+3*k+5<recursionLimit
 un:A.units+16*k+200<cLine
 p3:A.guards=some []
theorem cR.mono (r:cR k A) (h:j<=k):cR j A:=#[r.hd,by have:=r.hW;omega,by have:=r.un;omega,r.p3]
theorem cR.deeper (r:cR (k+1) A) (env):cR k (A.deeper env) :=
 #[r.hd,by have:=r.hW;show A.depth+1+3*k+5<_;omega,by have:=r.un;show A.units+3+16*k+200<_;omega,r.p3]
theorem WL {A:Around}:(A.under (.builtin "type.__call__" ⟨.ref C::us,kw⟩)).depth=A.depth+1:=by
 rfl
theorem WM {A:Around}:(A.under (.builtin "type.__call__" ⟨.ref C::us,kw⟩)).units=A.units+1:=by
 rfl
theorem cR.make (r:cR (k+1) A) (C) (us) (kw):cR k (A.under (.builtin "type.__call__" ⟨.ref C::us,kw⟩)) :=
 #[r.hd,by have:=r.hW;rw [WL];omega,by have:=r.un;rw [WM];omega,by have h:=r.p3;simp [Around.under,Code.guards,Code.isGuard,guardIds,pushGuards,h]]
theorem cR.depth (r:cR k A):A.depth<recursionLimit:=by have:=r.hW;omega
theorem cR.units (r:cR k A):A.units+64<cLine:=by have:=r.un;omega
def gk:c2:=λ Z H Q=>Q [] H
def f9 (aN:TE) (a:c2):c2:=λ σ H Q=>aN σ H λ x H1=>a σ H1 λ xs aq=>Q (x::xs) aq
section
variable {X:aW} {e:Expr} {aj:List Expr} {bg:TE} {t:c2} {pos:Pos}
theorem QP:fE X [] gk:=λ Z Z Z Z H Q I h=>Calls.spliced_nil #[[],H,I,.nil,h]
theorem Sb (ak:bw X e bg) (c:fE X aj t) (av:starEach (e::aj) X.env=(.f,eval e X.env)::starEach aj X.env:=by rfl):fE X (e::aj) (f9 bg t):=by
 intro pos pins s σ H Q I h;rw [av];refine Calls.spliced_cons (aU (ak pins s σ H _ I h) ?_);rintro u s1 ⟨x,H1,a,g,d⟩;exact aU (c pos pins s1 σ H1 _ a d) λ us s2 ⟨xs,aq,b,i,f⟩=>#[x::xs,aq,b,.cons g i,f]
def EI (t:c2):TE:=λ σ H Q=>t σ H λ xs H1=>xs.length<=sizeLine/\∀ p,H1 p=.n->Q (.ref p) (upd H1 p (.tup xs))
def EF (t:c2):TE:=λ σ H Q=>t σ H λ xs H1=>xs.length<=sizeLine/\∀ p,H1 p=.n->Q (.ref p) (upd H1 p (.lst xs))
theorem Q1 {d} (h:fE X aj t):bw X (.Tuple aj d pos) (EI t):=by
 intro pins s σ H Q I c;refine wpAny_Tuple_spliced (aU (h pos pins s σ H _ I c) ?_);rintro us s1 ⟨xs,H1,a,r,z,q⟩;refine #[by rw [<-r.length];exact z,?_];have hf:=a.aK.fresh (bx _);refine #[.ref s1.heap.objs.size,upd H1 s1.heap.objs.size (.tup xs),a.laid (λ b u e=>a9 _ e) (bx _) ?_,Y,q _ hf];exact #[z,us,r,#[_,cJ _ Y,Y,#[_,Y],Y]]
theorem QX (h:fE X aj t):bw X (.List aj pos) (EF t):=by
 intro pins s σ H Q I c;refine wpAny_List_spliced (aU (h pos pins s σ H _ I c) ?_);rintro us s1 ⟨xs,H1,a,r,z,q⟩;refine #[by rw [<-r.length];exact z,?_];have hf:=a.aK.fresh (bx _);refine #[.ref s1.heap.objs.size,upd H1 s1.heap.objs.size (.lst xs),a.laid (λ b u e=>a9 _ e) (bx _) ?_,Y,q _ hf];exact #[z,us,0,r,cJ _ Y]
end
abbrev bG:=List V->aD->b2->cL->Prop
abbrev i9:=List Env->aD->Shared->cL->Value->Shared->Prop
structure jV (P:Program) (w:World) (K:aP) (mg:Str->b_) (base:Heap) (A:Around) (outer:List Env) (s:Shared) (H:aD):Prop where
 frames:A.frames=some outer
 mod:Mod K mg base
 bs:∀ b o,base.get? b=some o->s.heap.get? b=some o/\H b=.n
 fI:base.objs.size<=s.heap.objs.size
 f5:s.heap.FunFrames base outer
 ia:∀ b∈cz outer,H b=.n
 aK:cU P w H s.heap
 bare:AllBare s.gens
inductive pY (outer:List Env) (P:Program) (w:World) (H:aD) (s:Shared) (Q:b2) (u:Value) (s':Shared):Prop
 |mk (v H'):s'.os=s.os->AllBare s'.gens->cX (cz outer) [] H H' s.heap s'.heap->cU P w H' s'.heap->RelV v u->Q v H'->pY outer P w H s Q u s'
def xC (b8:i9) (outer:List Env) (P:Program) (w:World) (H:aD) (s:Shared) (Q:b2) (E:cL) (r:Result) (s':Shared):Prop :=
 match r with
 | .ok (.ret u)=>pY outer P w H s Q u s'
 | .ok _=>False
 | .error e=>b8 outer H s E e s'
structure dB (P:Program) (w:World) (K:aP) (mg:Str->b_) (base:Heap) (b8:i9) (k:Nat) (f:Addr) (fd:FuncData) (ai:bA) (sp:bG):Prop where
 len:∀ vs H Q E,sp vs H Q E->vs.length=ai.length
 run:∀ (A:Around) (outer:List Env) (s:Shared) (H:aD) (args:Args) (us:List Value) (vs:List V) (Q:b2) (E:cL),cR k A->jV P w K mg base A outer s H->BindsTo s fd args (ai.zip us)->Vals vs us->sp vs H Q E ->
  codeAny (model P w) A (.call (.ref f) args) (xC b8 outer P w H s Q E) s
theorem dB.imp {K:aP} (F:dB P w K mg base b8 k f fd ai sp)
  (h:∀ vs H Q E,c vs H Q E->sp vs H Q E):dB P w K mg base b8 k f fd ai c :=
 #[λ vs H Q E q=>F.len vs H Q E (h _ _ _ _ q),λ A outer s H args us vs Q E b he a aI av=>F.run A outer s H args us vs Q E b he a aI (h _ _ _ _ av)]
theorem jV.make {K:aP} (e:jV P w K mg base A outer s H) (C) (us) (kw) :
  jV P w K mg base (A.under (.builtin "type.__call__" ⟨.ref C::us,kw⟩)) outer s H:=#[by (simpa [Around.under,Code.envs,Code.isFrame,pushEnvs] using e.frames),e.mod,e.bs,e.fI,e.f5,e.ia,e.aK,e.bare]
section
variable {X:aW} {pins:ef} {σ:St} {H:aD} {s s':Shared}
theorem Inv.o5 (I:Inv X pins σ H s):jV X.prog X.w X.K X.mg X.base X.A X.stack s H :=
 #[I.ok.frames,I.ok.mod,I.bs,dF I.ok.fI I.fe,I.stack,I.ix,I.aK,I.bare]
theorem Inv.after (I:Inv X pins σ H s) (h:pY X.stack X.prog X.w H s Q u s'):el X pins σ Q u s':=by
 obtain ⟨v,H',os,bare,un,aK,r,q⟩:=h;obtain ⟨c,g,d,t,a⟩:=s';obtain rfl:a=s.os:=os;exact #[v,H',I.call un aK bare (λ b z=>absurd z .zs),r,q]
end
def kV (sp:bG) (c7:List V) (E:cL) (t:c2):TE:=λ σ H Q=>t σ H λ vs H1=>sp (vs++c7) H1 Q E
inductive EW (C:Addr) (m:Str) (sp:bG) (c7:List V) (E:cL) (t:c2) (σ:St) (Q:b2) (x:V) (H1:aD):Prop
 |mk (a aE aw):x=.ref a->H1 a=some (.ins C aE aw)->aw.lookup m=.n->(t σ H1 λ vs aq=>sp (x::(vs++c7)) aq Q E)->EW C m sp c7 E t σ Q x H1
def vI (C:Addr) (m:Str) (sp:bG) (c7:List V) (E:cL) (aN:TE) (t:c2):TE:=λ σ H Q=>aN σ H λ x H1=>EW C m sp c7 E t σ Q x H1
def vH (C:Addr) (sp:bG) (c7:List V) (E:cL) (t:c2):TE:=λ σ H Q=>t σ H λ vs H1=>∀ x aE,H1 x=.n->H1 aE=.n->aE≠x ->
 sp (.ref x::(vs++c7)) (upd (upd H1 aE (.own x)) x (.ins C aE [])) (λ v aq=>v=.aQ/\Q (.ref x) aq) E
def Binds (K:aP) (fd:FuncData) (ai:bA) (ds:List Value):Prop :=
 ∀ s us,K.In s.heap->(us++ds).length=ai.length->BindsTo s fd ⟨us,[]⟩ (ai.zip (us++ds))
theorem Binds.all {K:aP} (h:∀ us,us.length=ai.length->bindArgs fd ⟨us,[]⟩=pure (ai.zip us)):Binds K fd ai []:=λ s us Z a=>by
 rw [qJ] at a ⊢;exact .of_eq (h us a)
def Passes (b8:i9) (X:aW) (E:cL):Prop:=∀ pins (σ:St) H s e s',Inv X pins σ H s->b8 X.stack H s E e s'->X.a5 e s'
section
variable {X:aW} {b8:i9} {k:Nat} {f C:Addr} {fd:FuncData} {ai:bA} {sp:bG} {c7:List V} {ds:List Value} {E:cL} {x m:Str} {p pos apos:Pos} {e o:Expr} {aj:List Expr} {aN:TE} {t:c2}
theorem vV {σ:St} (F:dB X.prog X.w X.K X.mg X.base b8 k f fd ai sp) (g:cR k X.A) (c:Binds X.K fd ai ds) (hd:Vals c7 ds) (ae:Passes b8 X E)
  (I:Inv X pins σ H s) (r:Vals vs us) (h:sp (vs++c7) H Q E):wpAny (model X.prog X.w) X.A (call (.ref f) us) (el X pins σ Q) X.a5 s:=by
 have b:=r.append hd;have d:(us++ds).length=ai.length:=by rw [<-b.length];exact F.len _ _ _ _ h
 refine j1 (j2 (F.run X.A X.stack s H #[us,[]] (us++ds) (vs++c7) Q E g I.o5 (c s us I.cA d) b h) λ r s' a=>?_);cases r with
 | error e=>exact ae pins σ H s e s' I a
 | ok fl =>
  cases fl with
  | ret u=>exact I.after a
  | next=>exact False.elim a
  | brk=>exact False.elim a
  | cont=>exact False.elim a
theorem Se (F:dB X.prog X.w X.K X.mg X.base b8 k f fd ai sp) (j:cR k X.A) (d:cy X x) (hm:X.mg x=some (.ref f)) (g:PySem.W.keepIn X.K (.ref f)=.t) (b:Binds X.K fd ai ds) (hd:Vals c7 ds) (ae:Passes b8 X E)
  (ak:fE X (e::aj) t) (c:(x==("__debug__" : Str))=.f:=by decide) (he:starEach (e::aj) X.env=(.f,eval e X.env)::starEach aj X.env:=by rfl) (i:(backTo pos (starEach aj X.env)).any (·.1)=.f:=by rfl) :
  bw X (.Call (.Name x p) (e::aj) [] pos) (kV sp c7 E t):=by
 intro pins s σ H Q I h;refine j3 (iW I d hm ?_ c);refine ps I.ok.mod.g5 g (aU (ak pos pins s σ H _ I h) ?_) he i;rintro us s1 ⟨vs,H1,a,r,q⟩;refine #[a.cA,?_];exact vV F j b hd ae a r q
theorem Un (F:dB X.prog X.w X.K X.mg X.base b8 k f fd ai sp) (g:cR k X.A) (c:cy X x) (hm:X.mg x=some (.ref f)) (d:PySem.W.keepIn X.K (.ref f)=.t) (a:Binds X.K fd ai ds) (hd:Vals c7 ds) (ae:Passes b8 X E)
  (b:(x==("__debug__" : Str))=.f:=by decide):bw X (.Call (.Name x p) [] [] pos) (kV sp c7 E gk):=by
 intro pins s σ H Q I h;refine j3 (iW I c hm ?_ b);exact zG I.cA d (vV F g a hd ae I .nil h)
theorem Sk {z:Sem Bool} (he:bw X o aN) (c:hE X.K C) (hm:Meth X.K C m f) (F:dB X.prog X.w X.K X.mg X.base b8 k f fd ai sp) (v:cR k X.A) (j:Binds X.K fd ai ds) (hd:Vals c7 ds) (ae:Passes b8 X E) (ak:fE X (e::aj) t)
  (y:starEach (e::aj) X.env=(.f,eval e X.env)::starEach aj X.env:=by rfl) (n:(backTo pos (starEach aj X.env)).any (·.1)=.f:=by rfl)
  (aG:eval (.Call (.Attribute o m apos) (e::aj) [] pos) X.env=(do
   let g ← eval o X.env
   standAt apos.atName
   let (f,first) ← holding [g] (getMethod g m z)
   callWith pos f first (backTo pos (starEach (e::aj) X.env)) (backToKw pos (keywordEach [] X.env))):=by rfl) :
  bw X (.Call (.Attribute o m apos) (e::aj) [] pos) (vI C m sp c7 E aN t):=by
 intro pins s σ H Q I h;refine PySem.W.methodCall_KW (aU (he pins s σ H _ I h) ?_) aG;rintro u s1 ⟨x,H1,b,D,a,aE,aw,ex,i,l,q⟩;subst ex;obtain rfl:u=Value.ref a:=D;refine II b i c hm l ?_;refine ps I.ok.mod.g5 hm.bI (aU (ak pos pins s1 σ H1 _ b q) ?_) y n;rintro us s2 ⟨vs,aq,d,r,B⟩;refine #[d.cA,?_];exact vV (vs:=.ref a::vs) F v j hd ae d (.cons Y r) B
theorem Ux {n:Sem Bool} (he:bw X o aN) (c:hE X.K C) (hm:Meth X.K C m f) (F:dB X.prog X.w X.K X.mg X.base b8 k f fd ai sp) (j:cR k X.A) (i:Binds X.K fd ai ds) (hd:Vals c7 ds) (ae:Passes b8 X E)
  (aG:eval (.Call (.Attribute o m apos) [] [] pos) X.env=(do
   let d ← eval o X.env
   standAt apos.atName
   let (f,first) ← holding [d] (getMethod d m n)
   callWith pos f first (backTo pos (starEach [] X.env)) (backToKw pos (keywordEach [] X.env))):=by rfl) :
  bw X (.Call (.Attribute o m apos) [] [] pos) (vI C m sp c7 E aN gk):=by
 intro pins s σ H Q I h;refine PySem.W.methodCall_KW (aU (he pins s σ H _ I h) ?_) aG;rintro u s1 ⟨x,H1,b,r,a,aE,aw,ex,g,l,q⟩;subst ex;obtain rfl:u=Value.ref a:=r;refine II b g c hm l ?_;exact zG b.cA hm.bI (vV (vs:=[.ref a]) F j i hd ae b (.cons Y .nil) q)
structure p0 (K:aP) (C f:Addr):Prop where
 makes:PySem.W.makesIn K C=.t
 init:PySem.W.findIn K (.ref C) "__init__" = some (some (.ref f))
 fn:PySem.W.isFn K (.ref f)=.t
 bI:PySem.W.keepIn K (.ref C)=.t
theorem Hg {σ:St} (M:p0 X.K C f) (F:dB X.prog X.w X.K X.mg X.base b8 k f fd ai sp) (l:cR (k+1) X.A) (i:Binds X.K fd ai ds) (hd:Vals c7 ds)
  (ae:Passes b8 X E) (I:Inv X pins σ H s) (r:Vals vs us)
  (h:∀ x aE,H x=.n->H aE=.n->aE≠x->sp (.ref x::(vs++c7)) (upd (upd H aE (.own x)) x (.ins C aE [])) (λ v aq=>v=.aQ/\Q (.ref x) aq) E) :
  wpAny (model X.prog X.w) X.A (call (.ref C) us) (el X pins σ Q) X.a5 s:=by
 have c:=h (s.heap.objs.size+1) s.heap.objs.size (I.aK.fresh (jZ _)) (I.aK.fresh (bx _)) (cc (j0 _));have b:=Inv.made (C:=C) I;have d:Vals (V.ref (s.heap.objs.size+1)::(vs++c7)) (Value.ref (s.heap.objs.size+1)::(us++ds)):=.cons rfl (r.append hd);have j:(Value.ref (s.heap.objs.size+1)::us++ds).length=ai.length:=by
  have e:=d.length;rw [F.len _ _ _ _ c] at e;exact e.symm
 refine j1 (T8 I.cA M.makes M.init (iO.mp M.fn) (j2 (F.run _ X.stack _ _ #[Value.ref (s.heap.objs.size+1)::us,[]] (Value.ref (s.heap.objs.size+1)::(us++ds)) _ _ E (l.make C us [])
  (b.o5.make C us []) (i _ (Value.ref (s.heap.objs.size+1)::us) b.cA j) d c) λ r s' a=>?_))
 cases r with
 | error e=>exact ae pins σ _ _ e s' b a
 | ok fl =>
  cases fl with
  | ret u =>
   obtain ⟨v,H',g,q,ev,n⟩:=b.after a;subst ev;exact #[q,#[V.ref (s.heap.objs.size+1),H',g,Y,n]]
  | next=>exact False.elim a
  | brk=>exact False.elim a
  | cont=>exact False.elim a
theorem Sj (M:p0 X.K C f) (F:dB X.prog X.w X.K X.mg X.base b8 k f fd ai sp) (i:cR (k+1) X.A) (d:cy X x) (hm:X.mg x=some (.ref C)) (b:Binds X.K fd ai ds) (hd:Vals c7 ds) (ae:Passes b8 X E)
  (ak:fE X (e::aj) t) (c:(x==("__debug__" : Str))=.f:=by decide) (he:starEach (e::aj) X.env=(.f,eval e X.env)::starEach aj X.env:=by rfl) (g:(backTo pos (starEach aj X.env)).any (·.1)=.f:=by rfl) :
  bw X (.Call (.Name x p) (e::aj) [] pos) (vH C sp c7 E t):=by
 intro pins s σ H Q I h;refine j3 (iW I d hm ?_ c);refine ps I.ok.mod.g5 M.bI (aU (ak pos pins s σ H _ I h) ?_) he g;rintro us s1 ⟨vs,H1,a,r,q⟩;refine #[a.cA,?_];exact Hg M F i b hd ae a r q
theorem Uw (M:p0 X.K C f) (F:dB X.prog X.w X.K X.mg X.base b8 k f fd ai sp) (d:cR (k+1) X.A) (c:cy X x) (hm:X.mg x=some (.ref C)) (a:Binds X.K fd ai ds) (hd:Vals c7 ds) (ae:Passes b8 X E)
  (b:(x==("__debug__" : Str))=.f:=by decide):bw X (.Call (.Name x p) [] [] pos) (vH C sp c7 E gk):=by
 intro pins s σ H Q I h;refine j3 (iW I c hm ?_ b);exact zG I.cA M.bI (Hg M F d a hd ae I .nil h)
end
structure bH (N P:bA) (sc:Scope):Prop where
 kind:sc.kind=.function
 co:sc.isCoroutine=.f
 gen:sc.isGenerator=.f
 dg:N.Nodup
 pre:N.take P.length=P
 par:∀ x∈P,sc.names.lookup x=some .local\/sc.names.lookup x=some .cell
 QK:∀ y∈sc.names,y.2≠.free
theorem HQ {kindOf:Str->Option NameKind}:∀ {binds:List (Str×Value)} {m:Str->b_},(∀ v,(x,v)∉binds)->bindL kindOf binds m x=m x
 | [],_,_=>rfl
 | (n,v)::r,m,h=>by
  unfold bindL;rw [HQ λ w hw=>h w (de _ hw)];split
  ·have:x≠n:=by rintro rfl;exact h v dn
   simp [this]
  ·rfl
theorem HO {kindOf:Str->Option NameKind}:∀ {binds:List (Str×Value)} {m:Str->b_},(∀ v,(x,v)∉binds)->bindC kindOf binds m x=m x
 | [],_,_=>rfl
 | (n,v)::r,m,h=>by
  unfold bindC;rw [HO λ w hw=>h w (de _ hw)];split
  ·rfl
  ·have:x≠n:=by rintro rfl;exact h v dn
   simp [this]
theorem HP {kindOf:Str->Option NameKind}:∀ {P:bA} {vs:List Value} {i:Nat} {m:Str->b_},P.Nodup->P[i]?=some x->vs[i]?=some v->kindOf x=some .local ->
  bindL kindOf (P.zip vs) m x=some v
 | [],_,_,_,_,h,_,_=>by simp at h
 | _::_,[],_,_,_,_,h,_=>by simp at h
 | p::P,w::vs,0,m,dg,U,aa,a=>by
  simp at U aa;subst U;subst aa;show bindL kindOf ((p,w)::P.zip vs) m p=_;unfold bindL;rw [HQ λ v aI=>(nH.mp dg).1 (nI aI).1,if_pos a];simp
 | p::P,w::vs,i+1,m,dg,U,aa,a=>by
  unfold bindL;exact HP (nH.mp dg).2 (by simpa using U) (by simpa using aa) a
theorem HN {kindOf:Str->Option NameKind}:∀ {P:bA} {vs:List Value} {i:Nat} {m:Str->b_},P.Nodup->P[i]?=some x->vs[i]?=some v->kindOf x≠some .local ->
  bindC kindOf (P.zip vs) m x=some v
 | [],_,_,_,_,h,_,_=>by simp at h
 | _::_,[],_,_,_,_,h,_=>by simp at h
 | p::P,w::vs,0,m,dg,U,aa,a=>by
  simp at U aa;subst U;subst aa;show bindC kindOf ((p,w)::P.zip vs) m p=_;unfold bindC;rw [HO λ v aI=>(nH.mp dg).1 (nI aI).1,if_neg a];simp
 | p::P,w::vs,i+1,m,dg,U,aa,a=>by
  unfold bindC;exact HN (nH.mp dg).2 (by simpa using U) (by simpa using aa) a
noncomputable def start (N:bA) (vs:List V):St:=vs.map some++List.replicate (N.length-vs.length) .n
noncomputable def fj (b8:i9) (P:Program) (w:World) (K:aP) (mg:Str->b_) (base:Heap) (N:bA) (qual:Str) (scope:Scope) (f:Addr) (cd:Value) (A:Around) (outer:List Env) (s:Shared) (H:aD) (E:cL):aW where
 prog:=P
 w:=w
 K:=K
 mg:=mg
 base:=base
 A:=A.deeper (envOfC qual scope s.heap.objs.size f cd)
 N:=N
 s₀:=s
 H₀:=H
 env:=envOfC qual scope s.heap.objs.size f cd
 outer:=outer
 stack:=envOfC qual scope s.heap.objs.size f cd::outer
 ex:=[]
 calm:=.t
 warm:=.t
 fn:=λ Z=>.t
 gA:=[]
 a5:=λ e s'=>wpAny (model P w) (A.deeper (envOfC qual scope s.heap.objs.size f cd)) (leaving (envOfC qual scope s.heap.objs.size f cd) e) (λ Z a=>b8 outer H s E e a) (λ b a=>b8 outer H s E b a) s'
theorem GK {sc:Scope} (h:sc.names.lookup x=some .cell):∃ c,(cellsFrom n sc.names []).lookup x=some c:=by
 have q:=vP sc.names n [] (.inl h);exact tu.mp q
theorem Bg {K:aP}
  (S:bH N ai scope) (hd:A.handled=.n) (d:jV P w K mg base A outer s H) (B:vs.length=ai.length) (r:Vals vs us)
  (x:InCallC s s.heap.objs.size (bindL (envOfC qual scope s.heap.objs.size f cd).kindOf (ai.zip us) λ Z=>.n) (cellsFrom (s.heap.objs.size+1) scope.names []) (bindC (envOfC qual scope s.heap.objs.size f cd).kindOf (ai.zip us) λ Z=>.n) s1) :
  Inv (fj b8 P w K mg base N qual scope f cd A outer s H E) [] (start N vs) H s1:=by
 have C:ai.length<=N.length:=by have:=eG List.length S.pre;rw [List.length_take] at this;omega
 obtain ⟨U,a8,rfl,l⟩:=x.done;have j:∀ b,b∉(fj b8 P w K mg base N qual scope f cd A outer s H E).ex:=λ b z=>absurd (show b∈([]) from z) .zs
 refine #[#[d.mod,S.kind,Y,Y,bx _,λ y z c U aa=>?_,λ y g=>?_,λ y c Z h=>?_,#[λ Z=>hd,λ Z=>.inl hd],Around.frames_deeper d.frames,.inr #[Y,Y],λ b z=>absurd z (j b),d.bs,d.fI,λ b Z Z=>j b,λ b z=>absurd z (j b),d.f5,d.ia],
  Y,d.bare,cX.kept l,#[_,x.toInCall.ns,λ i y v U aa t=>?_],λ y c h=>#[_,x.cell y c h],d.aK.fresh (bx _),λ y c h=>?_,λ p ah=>absurd (show p∈([]) from ah) .zs,d.aK.kept l,?_]
 ·exact name_of_addr x.apart (tv U) (tv aa)
 ·have g:=g;rcases g with g|g
  ·exact GK g
  ·exact absurd rfl (S.QK _ (tv g))
 ·exact vN (x.above y c (tv h))
 ·have ar:i<vs.length:=by
   unfold start at aa;by_cases ar:i<vs.length
   ·exact ar
   ·rw [j4 (by simpa using ar)] at aa;rw [List.getElem?_replicate] at aa;split at aa<;>cases aa
  have ak:vs[i]?=some v:=by
   unfold start at aa;rw [jm (by simpa using ar),et] at aa;cases e:vs[i]? with
   | none=>rw [e] at aa;cases aa
   | some a=>rw [e] at aa;cases aa;rfl
  obtain ⟨u,m,o⟩:=r.get ak;have ah:ai[i]?=some y:=by
   rw [<-S.pre,List.getElem?_take_of_lt .au];exact U
  have n:ai.Nodup:=by rw [<-S.pre];exact S.dg.sublist (List.take_sublist _ _)
  refine #[u,o,?_];rcases S.par y (b5 ah) with k|k
  ·exact .inl #[k,HP n ah m k]
  ·obtain ⟨c,e⟩:=GK k;refine .inr #[.inl k,c,e,?_];have q:=x.cell y c e;rw [HN n ah m (by show scope.names.lookup y≠_;rw [k];decide)] at q;exact q
 ·exact d.aK.fresh (vN (x.above y c (tv h)))
 ·unfold start;show _=N.length;rw [c9,bz,List.length_replicate];omega
theorem zu {K:aP} {cT:Value}
  (lk:K.lookup f=some ⟨dR,cH,.func (PySem.W.fnOf name qual params body scope i cT doc pm an a0 b9),kN⟩) (m:PySem.W.codeIn K a0 qual=.t) (S:bH N ai scope)
  (len:∀ vs H Q E,sp vs H Q E->vs.length=ai.length)
  (l:∀ A outer s H vs Q E,cR k (A.deeper (envOfC qual scope s.heap.objs.size f a0))->sp vs H Q E ->
   ∃ t,h4 (fj b8 P w K mg base N qual scope f a0 A outer s H E) body t/\t { bf:=λ Z H'=>Q .aQ H',iC:=Q } (start N vs) H) :
  dB P w K mg base b8 (k+1) f (PySem.W.fnOf name qual params body scope i cT doc pm an a0 b9) ai sp:=by
 refine #[len,λ A outer s H args us vs Q E c a j r h=>?_];have z:=len _ _ _ _ h;have g:=a.mod.g5.keeps λ b o e=>(a.bs b o e).1
 have lim:=a.mod.nolimit.keeps λ b o e=>(a.bs b o e).1
 have p:∀ y∈ai.zip us,scope.names.lookup y.1=some .local\/(scope.names.lookup y.1=some .cell/\((cellsFrom (s.heap.objs.size+1) scope.names []).lookup y.1).isSome=.t):=λ ⟨n,v⟩ C=>by
  rcases S.par n (nI C).1 with q|q
  ·exact .inl q
  ·exact .inr #[q,vP _ _ _ (.inl q)]
 refine zH c.depth (g _ _ lk) rfl S.co S.gen rfl (z0 g m) (j _ _ _ _ ?_);refine z1 S.kind p λ env he s1 x=>?_
 subst he;refine #[lim.keeps x.toInCall.keep,codeAny_func ?_];obtain ⟨t,aG,B⟩:=l A outer s H vs Q E (c.deeper _) h;have I:Inv (fj b8 P w K mg base N qual scope f a0 A outer s H E) [] (start N vs) H s1:=Bg S c.hd a z r x;refine d_ (aG [] s1 (start N vs) H _ I B) (λ fl s' av=>?_) λ e s' av=>av
 have fin:∀ {σ':St} {H':aD} {v:V} {u:Value},Inv (fj b8 P w K mg base N qual scope f a0 A outer s H E) [] σ' H' s'->RelV v u->Q v H'->pY outer P w H s Q u s' :=
  λ {σ' H' v u} aC d q=>#[v,H',aC.os,aC.bare,aC.base,aC.aK,d,q]
 cases fl with
 | ret u =>
  obtain ⟨v,σ',H',aC,d,q⟩:=av;exact fin aC d q
 | next =>
  obtain ⟨σ',H',aC,q⟩:=av;exact fin (v:=V.aQ) aC rfl q
 | brk =>
  obtain ⟨_,_,_,q⟩:=av;exact False.elim q
 | cont =>
  obtain ⟨_,_,_,q⟩:=av;exact False.elim q
section
variable {X:aW} {x:Str} {p pos:Pos} {e:Expr} {aj:List Expr} {t:c2} {id T:String} {r:List V->aD->b2->Prop}
def oU (r:List V->aD->b2->Prop) (t:c2):TE:=λ σ H Q=>t σ H λ vs H1=>r vs H1 Q
theorem Uo (af:ep X (.builtin id) r) (c:cy X x) (hm:X.mg x=.n) (aI:bootBuiltins x=some (.builtin id)) (ak:fE X (e::aj) t) (ao:x ≠ "__name__" := by decide) (b:(x==("__debug__" : Str))=.f:=by decide)
  (he:starEach (e::aj) X.env=(.f,eval e X.env)::starEach aj X.env:=by rfl) (d:(backTo pos (starEach aj X.env)).any (·.1)=.f:=by rfl):bw X (.Call (.Name x p) (e::aj) [] pos) (oU r t):=by
 intro pins s σ H Q I h;refine j3 (mn I c hm aI ?_ ao b);exact PyProof.Rows.callWith_builtin1 (aU (ak pos pins s σ H _ I h) λ us s1 ⟨vs,H1,a,g,f⟩=>af pins s1 σ H1 vs us Q a g f) he d
theorem V2 (af:ep X (.type T) r) (c:cy X x) (hm:X.mg x=.n) (aI:bootBuiltins x=some (.type T)) (ak:fE X (e::aj) t) (ao:x ≠ "__name__" := by decide) (b:(x==("__debug__" : Str))=.f:=by decide)
  (he:starEach (e::aj) X.env=(.f,eval e X.env)::starEach aj X.env:=by rfl) (d:(backTo pos (starEach aj X.env)).any (·.1)=.f:=by rfl):bw X (.Call (.Name x p) (e::aj) [] pos) (oU r t):=by
 intro pins s σ H Q I h;refine j3 (mn I c hm aI ?_ ao b);exact qI (aU (ak pos pins s σ H _ I h) λ us s1 ⟨vs,H1,a,g,f⟩=>af pins s1 σ H1 vs us Q a g f) he d
end
end bj
abbrev bh:=List bj.V
abbrev fX:=Option bj.V
variable {σ0:bj.St}
namespace b6
open PySem PyProof.Rows
noncomputable def lexLt:bB->bB->Bool
 | [],[]=>.f
 | [],_::_=>.t
 | _::_,[]=>.f
 | x::xs,y::ys=>if x=y then lexLt xs ys else decide (x<y)
theorem WI (x y) (xs ys):lexLt (x::xs) (y::ys)=if x=y then lexLt xs ys else decide (x<y):=rfl
theorem Ys (y) (ys):lexLt [] (y::ys)=.t:=rfl
theorem Yr (x) (xs):lexLt (x::xs) []=.f:=rfl
section
variable {prog:Program} {w:World} {A:Around} {E:c0} {s:Shared}
noncomputable def g8 (n d:Nat):Option Int->Nat
 | none=>d
 | some v=>if v<0 then (v+(n:Int)).toNat else min v.toNat n
end
end b6
namespace bj
open PySem PySem.Spec PyProof.Rows
abbrev cP:=St->aD->(Option Int->aD->Prop)->Prop
def rK (X:aW) (e:Option Expr) (t:cP):Prop :=
 ∀ pins s (σ:St) H Q,Inv X pins σ H s->t σ H Q ->
  wpAny (model X.prog X.w) X.A (evalPart e X.env) (λ u s'=>∃ o H',Inv X pins σ H' s'/\IsPart u o/\Q o H') X.a5 s
def Gu:cP:=λ Z H Q=>Q .n H
def E4 (t:TE):cP:=λ σ H Q=>t σ H λ x H1=>∃ i,x=.int i/\Q (some i) H1
theorem intsAre_of:∀ {us:List Value},Vals (ns.map V.int) us->IntsAre us ns:=by
 induction ns with
 | nil=>intro us r;rw [j6] at r;cases r;exact .nil
 | cons n ns a =>
  intro us r;rw [es] at r;cases r with
  | cons b c =>
   obtain ⟨t,e⟩:=b;subst e;exact .cons n t (a c)
section
variable {X:aW} {e:Expr} {bg:TE} {lo ar:Option Expr} {c6 th:cP} {pos dS:Pos}
theorem Sp:rK X .n Gu:=by
 intro pins s σ H Q I h;rw [evalPart_none];exact a_ #[.n,H,I,.none,h]
theorem Sq (h:bw X e bg):rK X (some e) (E4 bg):=by
 intro pins s σ H Q I hw;rw [evalPart_some];refine aU (h pins s σ H _ I hw) ?_;rintro u s1 ⟨x,H1,a,c,b⟩
 obtain ⟨i,rfl,q⟩:=b;obtain ⟨t,rfl⟩:=c;exact #[some i,H1,a,.int i t,q]
def qe (X:aW) (r:V->Option Int->Option Int->aD->b2->Prop):Prop :=
 ∀ pins s (σ:St) H x (v a b) (lo ar) cu Q,Inv X pins σ H s->RelV x v->s.heap.IsSliceOf cu a b .none->IsPart a lo->IsPart b ar->r x lo ar H Q ->
  ∃ T id,typeLookup (.type T) "__getitem__" = pure (some (.builtin id))/\s.TypeIs v T/\wpAny (model X.prog X.w) X.A (getItem v (.ref cu)) (el X pins σ Q) X.a5 s
def DT (r:V->Option Int->Option Int->aD->b2->Prop) (bg:TE) (c6 th:cP):TE:=λ σ H Q=>bg σ H λ x H1=>c6 σ H1 λ l aq=>th σ aq λ u a=>r x l u a Q
theorem Uy (o:qe X r) (he:bw X e bg) (n:rK X lo c6) (p:rK X ar th):bw X (.Subscript e (.Slice lo ar .n dS) pos) (DT r bg c6 th):=by
 intro pins s σ H Q I h;refine Subscript_ (aU (he pins s σ H _ I h) ?_);rintro v s1 ⟨x,H1,f,A,w⟩;refine wpAny_Slice (aU (n pins s1 σ H1 _ f w) ?_);rintro a s2 ⟨l,aq,g,t,y⟩;refine aU (p pins s2 σ aq _ g y) ?_;rintro c s3 ⟨u,d,i,pu,z⟩;rw [evalPart_none];refine a_ ?_;have j:Inv X pins σ d { s3 with heap:=s3.heap.push { cls:=.type "slice", data:=.fields [a,c,.none].toArray } }:=i.kept λ b bD q=>a9 _ q
 obtain ⟨T,id,k,aG,m⟩:=o pins { s3 with heap:=s3.heap.push { cls:=.type "slice", data:=.fields [a,c,.none].toArray } } σ d x v a c l u s3.heap.objs.size Q j A (Heap.IsSliceOf.new ..) t pu z;exact tail_any aG k m (by with_unfolding_all rfl)
noncomputable def ig (xs:bh) (lo ar:Option Int):bh:=(xs.drop (b6.g8 xs.length 0 lo)).take (b6.g8 xs.length xs.length ar-b6.g8 xs.length 0 lo)
theorem Xh (xs) (lo ar):(ig xs lo ar).length<=xs.length:=by
 unfold ig;rw [List.length_take,List.length_drop];omega
theorem Vals.R3 (r:Vals xs us):us=[] ↔ xs=[]:=by
 cases r with
 | nil=>simp
 | cons _ _=>simp
end
noncomputable def lV (n:Nat) (i:Int):Option Nat:=if 0<=i then (if i<n then some i.toNat else .n) else if -n<=i then some (i+n).toNat else .n
noncomputable def h6 {α : Type} (xs:List α) (i:Int):Option α := (lV xs.length i).bind λ j=>xs[j]?
theorem F1 (h:lV n i=some j):seqIndex? i n=some j/\j<n /\ -(n:Int)<=i/\i<n:=by
 unfold lV at h;by_cases h0:0<=i
 ·rw [if_pos h0] at h;by_cases U:i<n
  ·rw [if_pos U] at h;have e:=cE h;exact #[by rw [seqIndex_of h0 U,e],.au,.au,U]
  ·rw [if_neg U] at h;cases h
 ·rw [if_neg h0] at h;by_cases U : -n<=i
  ·rw [if_pos U] at h;have e:=cE h;exact #[by rw [seqIndex_neg .au U,e],.au,U,.au]
  ·rw [if_neg U] at h;cases h
theorem Al {xs:List α} {v: α} (h:h6 xs i=some v):∃ j,seqIndex? i xs.length=some j/\xs[j]?=some v/\j<xs.length /\ -(xs.length:Int)<=i/\i<xs.length:=by
 unfold h6 at h;cases e:lV xs.length i with
 | none=>rw [e] at h;cases h
 | some j =>
  rw [e] at h;obtain ⟨U,aa,a,b⟩:=F1 e;exact #[j,U,h,aa,a,b]
theorem FN {xs:List α} {j:Nat} {v: α} (h:xs[j]?=some v):h6 xs (j:Int)=some v:=by
 have a:=(dr.mp h).1;have e:lV xs.length j=some j:=by
  unfold lV;rw [if_pos .au,if_pos .au];simp
 unfold h6;rw [e];exact h
def FJ (b:Expr):Prop:=∀ o i,subscripted b .f o i=operate [o,i] (getItem o i)
def sl (X:aW) (r:gb):Prop :=
 ∀ (value slice) pins s (σ:St) H (x y) (v u) Q,Inv X pins σ H s->RelV x v->RelV y u->r x y H Q ->
  subscripted slice .f v u=operate [v,u] (getItem v u)->wpAny (model X.prog X.w) X.A (subscriptTail value slice v u) (el X pins σ Q) X.a5 s
def h3 (X:aW) (id:String) (r:V->bh->aD->b2->Prop):Prop :=
 ∀ pins s (σ:St) H x xs v us Q,Inv X pins σ H s->RelV x v->Vals xs us->r x xs H Q ->
  wpAny (model X.prog X.w) X.A (call (.builtin id) (v::us)) (el X pins σ Q) X.a5 s
section
variable {X:aW} {a b:Expr} {aN a7:TE} {pos:Pos}
theorem Qa (e:sl X r) (ak:bw X a aN) (d:bw X b a7) (av:FJ b):bw X (.Subscript a b pos) (l1 r aN a7):=by
 intro pins s σ H Q I h;exact Subscript_ (zc ak d I h λ v u s2 x y aq c f g q=>e a b pins s2 σ aq x y v u Q c f g q (av _ _))
inductive zm (K:aP):gb
 |mk {x y H Q} (p xs i v):x=.ref p->y=.int i->aS K H p xs->h6 xs i=some v->Q v H->zm K x y H Q
inductive Es (K:aP):gb
 |mk {x y H Q} (p xs i v):x=.ref p->y=.int i->aX K H p xs->h6 xs i=some v->Q v H->Es K x y H Q
inductive Er:gb
 |mk {x y H Q} (z i c):x=.str z->y=.int i->z.length<=sizeLine->h6 z.cps.toList i=some c->Q (.str ⟨[c].toArray⟩) H->Er x y H Q
theorem c1:sl X (zm X.K):=by
 intro value slice pins s σ H x y v u Q I o A h av;obtain ⟨p,xs,i,z,rfl,rfl,l,he,q⟩:=h;cases o;obtain ⟨t,rfl⟩:=A;obtain ⟨m,r,d,C⟩:=I.list l;obtain ⟨j,U,aa,B,f,g⟩:=Al he;obtain ⟨w,e,n⟩:=r.get aa;have k:=r.length;have ao:=qL;have fin:el X pins σ Q w s:=#[z,H,I,n,q]
 by_cases h0:0<=i
 ·have c:i.toNat=j:=by
   rw [seqIndex_of h0 g] at U;exact cE U
  exact item_listR d.isList h0 .au (by rw [c];simpa using e) fin av
 ·have c:(i+(m.toArray.size)).toNat=j:=by
   rw [seqIndex_neg .au f] at U;rw [dK,<-k];exact cE U
  exact subscriptTail_builtinR d.isList.typeIs slot_list_getitem.lookup
   (wpAny_getItem_list_neg d.isList .au (by rw [dK]<;>omega) .au (by rw [c];simpa using e) #[Y,fin]) av
theorem fP:sl X (Es X.K):=by
 intro value slice pins s σ H x y v u Q I k l h av;obtain ⟨p,xs,i,z,rfl,rfl,f,he,q⟩:=h;cases k;obtain ⟨t,rfl⟩:=l;obtain ⟨B,r,c,A⟩:=I.tuple f;obtain ⟨j,U,aa,m,n,o⟩:=Al he;obtain ⟨w,d,g⟩:=r.get aa;have e:=r.length;have ao:=qL;have fin:el X pins σ Q w s:=#[z,H,I,g,q]
 exact subscriptTail_builtinR c.typeIs slot_tuple_getitem.lookup
  (getItem_tuple c .au .au (by rw [dK,<-e];exact U) (by simpa using d) #[Y,fin]) av
theorem zM:sl X Er:=by
 intro value slice pins s σ H x y v u Q I l m h av;obtain ⟨z,i,c,rfl,rfl,o,he,q⟩:=h;obtain ⟨t,rfl⟩:=l;obtain ⟨t',rfl⟩:=m;obtain ⟨j,U,aa,n,f,g⟩:=Al he;have k:z.cps.toList.length=z.length:=by simp [Str.length]
 rw [k] at U f g;have ao:=qL;exact tail_any (mv s z t) slot_str_getitem.lookup (getItem_str (by
  have d:decide (i < -(2 ^ 63))=.f:=bZ .au;have e:decide (i ≥ 2 ^ 63)=.f:=bZ .au;rw [d,e,Bool.or_false]) (by rw [U];simpa using aa) #[.str #[[c].toArray],H,I.tok _,#[_,Y],q]) av
theorem WN (c:List Value) (n j) (u):Obj.mapSeq (·.setIfInBounds j u) { cls:=.type "list", data:=.seq c.toArray n }={ cls:=.type "list", data:=.seq (c.set j u).toArray n }:=by
 simp [Obj.mapSeq]
theorem Inv.lst {σ:St} (I:Inv X pins σ H s) (h:H p=some (.lst xs)) :
  ∃ (c:List Value) (n:Nat),Vals xs c/\s.heap.get? p=some { cls:=.type "list", data:=.seq c.toArray n }/\xs.length<=sizeLine:=by
 obtain ⟨z,c,n,r,e⟩:=I.aK p _ h;exact #[c,n,r,e,z]
theorem Inv.QE {σ:St} {d:List Value} (I:Inv X pins σ H s) (h:H p=some (.lst xs))
  (aA:s.heap.get? p=some { cls:=.type "list", data:=.seq d.toArray n }) (hf:f { cls:=.type "list", data:=.seq d.toArray n }={ cls:=.type "list", data:=.seq c.toArray jK }) (r:Vals ys c) (i:ys.length<=sizeLine) (t) :
  Inv X pins σ (upd H p (.lst ys)) { s with heap:=s.heap.update p f,toks:=t }:=by
 have e:(s.heap.update p f).get? p=some { cls:=.type "list", data:=.seq c.toArray jK }:=by
  rw [hN f aA (by rw [hf]<;>rfl),hf]
 refine I.write (by rw [h];trivial) (.inl Y) (λ b u g q=>(er _ _ (dz g)).trans q) #[_,e] ?_;exact #[i,c,jK,r,e]
inductive EX:V->V->V->aD->(aD->Prop)->Prop
 |mk {o i v H Q} (p xs k j):o=.ref p->i=.int k->H p=some (.lst xs)->lV xs.length k=some j->Q (upd H p (.lst (xs.set j v)))->EX o i v H Q
theorem set_list:y_ X EX:=by
 intro pins s σ H o i v B A u Q I y x z h;obtain ⟨p,xs,k,j,rfl,rfl,ah,m,q⟩:=h;cases y;obtain ⟨t,rfl⟩:=x;obtain ⟨l,n,r,aA,w⟩:=I.lst ah;obtain ⟨U,aa,f,g⟩:=F1 m;have d:=r.length;have ao:=qL;have e:=
  I.QE ah aA (WN l n j u) (r.set z j) (by rw [pD];exact w) s.toks
 by_cases h0:0<=k
 ·have c:k.toNat=j:=by
   rw [seqIndex_of h0 g] at U;exact cE U
  exact PySem.W.ki_setAt aA h0 .au (by rw [dK,<-d];exact g) (by rw [c];exact #[_,e,q])
 ·have c:(k+(l.toArray.size)).toNat=j:=by
   rw [seqIndex_neg .au f] at U;rw [dK,<-d];exact cE U
  exact PySem.W.ki_setBack aA .au (by rw [dK,<-d];exact f) .au (by rw [c];exact #[_,e,q])
theorem XS (lo ar) (n):(sliceBounds lo ar .n n).1=((b6.g8 n 0 lo:Nat):Int)/\(sliceBounds lo ar .n n).2.1=((b6.g8 n n ar:Nat):Int)/\(sliceBounds lo ar .n n).2.2=1:=by
 refine #[?_,?_,Y]
 ·cases lo with
  | none=>simp [sliceBounds,b6.g8]
  | some i =>
   simp only [sliceBounds,b6.g8,Option.getD_none,show 1>0 by decide,if_true];by_cases h:i<0
   ·simp only [h,if_true]<;>omega
   ·simp only [h,if_false]<;>omega
 ·cases ar with
  | none=>simp [sliceBounds,b6.g8]
  | some i =>
   simp only [sliceBounds,b6.g8,Option.getD_none,show 1>0 by decide,if_true];by_cases h:i<0
   ·simp only [h,if_true]<;>omega
   ·simp only [h,if_false]<;>omega
theorem Yk (c:List Value) (lo ar):slicePick c.toArray lo ar .n=((c.drop (b6.g8 c.length 0 lo)).take (b6.g8 c.length c.length ar-b6.g8 c.length 0 lo)).toArray:=by
 obtain ⟨U,aa,d⟩:=XS lo ar c.toArray.size;unfold slicePick;rw [U,aa,d];simp only [sliceRange_one,pick_run,dK]<;>rfl
inductive Et (K:aP):V->Option Int->Option Int->aD->b2->Prop
 |mk {x lo ar H Q} (a xs):x=.ref a->aS K H a xs->(∀ p,H p=.n->Q (.ref p) (upd H p (.lst (ig xs lo ar))))->Et K x lo ar H Q
theorem wN:qe X (Et X.K):=by
 intro pins s σ H x v g i lo ar cu Q I e av d pu h;obtain ⟨a,xs,rfl,ae,q⟩:=h;cases e;obtain ⟨f,r,aG,c⟩:=I.list ae;have hlen:=r.length;refine #["list", _,slot_list_getitem.lookup,aG.isList.typeIs,?_];refine wpAny_getItem_list_slice aG.isList av d pu .none .zs ?_ (by rw [dK]<;>omega);rw [Yk,<-hlen];refine #[.ref s.heap.objs.size,_,I.laid (λ b bD q=>a9 _ q) (bx _) ?_,Y,q _ (I.aK.fresh (bx _))];exact #[dF (Xh xs lo ar) c,_,0,(r.drop (b6.g8 xs.length 0 lo)).take (b6.g8 xs.length xs.length ar-b6.g8 xs.length 0 lo),cJ _ Y]
noncomputable def mc:V->Bool
 | .aQ=>.t
 | .aO _=>.t
 | .int _=>.t
 | .str _=>.t
 | _=>.f
noncomputable def jP:V->V->Bool
 | .aQ,.aQ=>.t
 | .aO a,.aO b=>a==b
 | .aO a,.int b=>(if a then 1 else 0)==b
 | .int a,.aO b=>a==(if b then 1 else 0)
 | .int a,.int b=>a==b
 | .str a,.str b=>a==b
 | _,_=>.f
theorem Qv (e:RelV y u) (c:RelV x v) (f:mc y=.t) (d:mc x=.t):SeqAt.EqAt A s u v (jP y x):=by
 cases y with
 | aQ =>
  cases e;cases x with
  | aQ=>cases c;exact SeqAt.EqAt.same _
  | aO b=>cases c;exact SeqAt.EqAt.none_bool b
  | int b=>obtain ⟨t,rfl⟩:=c;exact SeqAt.EqAt.none_int b t
  | str b=>obtain ⟨t,rfl⟩:=c;exact SeqAt.EqAt.none_str b t
  | _=>exact absurd d dC
 | aO a =>
  cases e;cases x with
  | aQ=>cases c;exact SeqAt.EqAt.bool_none a
  | aO b=>cases c;exact SeqAt.EqAt.bool_bool a b
  | int b=>obtain ⟨t,rfl⟩:=c;exact SeqAt.EqAt.bool_int a b t
  | str b=>obtain ⟨t,rfl⟩:=c;exact SeqAt.EqAt.bool_str a b t
  | _=>exact absurd d dC
 | int a =>
  obtain ⟨t',rfl⟩:=e;cases x with
  | aQ=>cases c;exact SeqAt.EqAt.int_none a t'
  | aO b=>cases c;exact SeqAt.EqAt.int_bool a t' b
  | int b=>obtain ⟨t,rfl⟩:=c;exact z2 a t' b t
  | str b=>obtain ⟨t,rfl⟩:=c;exact SeqAt.EqAt.int_str a t' b t
  | _=>exact absurd d dC
 | str a =>
  obtain ⟨t',rfl⟩:=e;cases x with
  | aQ=>cases c;exact SeqAt.EqAt.str_none a t'
  | aO b=>cases c;exact SeqAt.EqAt.str_bool a t' b
  | int b=>obtain ⟨t,rfl⟩:=c;exact SeqAt.EqAt.str_int a t' b t
  | str b=>obtain ⟨t,rfl⟩:=c;exact z3 a t' b t
  | _=>exact absurd d dC
 | _=>exact absurd f dC
noncomputable def hG (x:V) (u:Value):Bool:=match u with
 | .none=>jP .aQ x
 | .bool b=>jP (.aO b) x
 | .int i _=>jP (.int i) x
 | .str z _=>jP (.str z) x
 | _=>.f
theorem Fe (r:RelV y u) (f:mc y=.t):hG x u=jP y x:=by
 cases y with
 | aQ=>cases r;rfl
 | aO b=>cases r;rfl
 | int i=>obtain ⟨t,rfl⟩:=r;rfl
 | str z=>obtain ⟨t,rfl⟩:=r;rfl
 | _=>exact absurd f dC
theorem tY:∀ {xs:bh} {us:List Value},Vals xs us->xs.all mc=.t->us.any (hG x)=xs.any λ y=>jP y x
 | _,_,.nil,_=>rfl
 | y::xs,u::us,.cons r t,f=>by
  rw [List.all_cons,eJ] at f;rw [pE,pE,Fe r f.1,tY t f.2]
theorem ub (e:RelV x v) (d:mc x=.t):∀ {xs:bh} {us:List Value},Vals xs us->xs.all mc=.t->∀ u∈us,SeqAt.EqAt A s u v (hG x u)
 | _,_,.nil,_=>λ u c=>by cases c
 | y::xs,u::us,.cons r t,f=>λ g c=>by
  rw [List.all_cons,eJ] at f;rcases bt.mp c with rfl|c
  ·rw [Fe r f.1];exact Qv r e f.1 d
  ·exact ub e d t f.2 g c
noncomputable def ib (x:V) (xs:bh):Bool:=xs.any λ y=>jP y x
def DK (K:aP) (neg:Bool):gb:=λ x y H Q=>∃ p xs,y=.ref p/\(aS K H p xs\/aX K H p xs)/\mc x=.t/\xs.all mc=.t/\Q (.aO (if neg then !ib x xs else ib x xs)) H
theorem pR:cI X (compareOp .In) (DK X.K .f):=by
 intro pins s σ H x y v u Q I g j h;obtain ⟨p,xs,rfl,c,f,aw,q⟩:=h;cases j;rcases c with c|c
 ·obtain ⟨d,r,e,i⟩:=I.list c;refine SeqAt.in_listAt (hG x) e.isList (λ w hw=>ub g f r aw w (by simpa using hw)) #[.aO _,H,I,Y,?_];rw [show d.toArray.any (hG x)=d.any (hG x) by simp,tY r aw];exact q
 ·obtain ⟨d,r,e,i⟩:=I.tuple c;refine SeqAt.in_tupleAt (hG x) e (λ w hw=>ub g f r aw w (by simpa using hw)) #[.aO _,H,I,Y,?_];rw [show d.toArray.any (hG x)=d.any (hG x) by simp,tY r aw];exact q
theorem JS:cI X (compareOp .NotIn) (DK X.K .t):=by
 intro pins s σ H x y v u Q I g j h;obtain ⟨p,xs,rfl,c,f,aw,q⟩:=h;cases j;rcases c with c|c
 ·obtain ⟨d,r,e,i⟩:=I.list c;refine SeqAt.notIn_listAt (hG x) e.isList (λ w hw=>ub g f r aw w (by simpa using hw)) #[.aO _,H,I,Y,?_];rw [show d.toArray.any (hG x)=d.any (hG x) by simp,tY r aw];exact q
 ·obtain ⟨d,r,e,i⟩:=I.tuple c;refine SeqAt.notIn_tupleAt (hG x) e (λ w hw=>ub g f r aw w (by simpa using hw)) #[.aO _,H,I,Y,?_];rw [show d.toArray.any (hG x)=d.any (hG x) by simp,tY r aw];exact q
inductive Km (K:aP):bh->aD->b2->Prop
 |mk {xs H Q} (p ys):xs=[.ref p]->(aS K H p ys\/aX K H p ys)->Q (.int ys.length) H->Km K xs H Q
theorem eY:ep X (.builtin "len") (Km X.K):=by
 intro pins s σ H xs us Q I r h;obtain ⟨p,ys,rfl,c,q⟩:=h;obtain ⟨u,rfl,i⟩:=vals1 r;cases i;have ao:=qL;rcases c with c|c
 ·obtain ⟨g,e,d,f⟩:=I.list c;have hlen:=e.length;exact Calls.call_len_list d.isList (by simp only [dK]<;>omega) #[.int ys.length,H,I.tok _,#[s.toks+1,by rw [dK,hlen]],q]
 ·obtain ⟨g,e,d,f⟩:=I.tuple c;have hlen:=e.length;exact len_tuple d (by simp only [dK]<;>omega) #[.int ys.length,H,I.tok _,#[s.toks+1,by rw [dK,hlen]],q]
theorem n7:ep X (.builtin "len") (λ xs H Q=>∃ z,xs=[.str z]/\z.length<=sizeLine/\Q (.int z.length) H):=by
 intro pins s σ H xs us Q I r h;obtain ⟨z,rfl,c,q⟩:=h;obtain ⟨u,rfl,t,rfl⟩:=vals1 r;have ao:=qL;exact len_str .au #[.int z.length,H,I.tok _,#[_,Y],q]
theorem Ke:ep X (.type "tuple") (λ xs H Q=>∃ p ys,xs=[.ref p]/\((aS X.K H p ys/\∀ l,H l=.n->Q (.ref l) (upd H l (.tup ys)))\/(aX X.K H p ys/\Q (.ref p) H))):=by
 intro pins s σ H xs us Q I r h;obtain ⟨p,ys,rfl,h⟩:=h;obtain ⟨u,rfl,m⟩:=vals1 r;cases m;rcases h with ⟨c,q⟩|⟨c,q⟩
 ·obtain ⟨j,f,d,i⟩:=I.list c;have hlen:=f.length;refine call_tuple_list d.isList (λ h' bI=>?_) (by simp only [dK]<;>omega);have g:=I.kept (t':=s.toks) bI;have k:=
   g.laid (t':=s.toks) (λ b o e=>a9 _ e) (bx _) (show eh X.prog X.w _ _ _ (.tup ys) from #[i,j,f,mj.new _ _])
  exact #[.ref h'.objs.size,_,k,Y,q _ (g.aK.fresh (bx _))]
 ·obtain ⟨j,f,d,i⟩:=I.tuple c;exact call_tuple_same d #[.ref p,H,I,Y,q]
def y3 (K:aP) (T:String) (x:V) (H:aD):Prop:=match x with
 | .str _=>T = "str"
 | .int _=>T = "int"
 | .ref p=>(T = "list" /\ ∃ xs,aS K H p xs)\/(T = "tuple" /\ ∃ o,K.lookup p=some o/\o.cls=.type "tuple" /\ o.dict=.n) \/
   (T = "dict" /\ ((∃ kvs,H p=some (.cM kvs))\/∃ kvs,H p=some (.ez kvs)))\/(T = "set" /\ ∃ S n,H p=some (.set S n))
 | _=>False
theorem FC {σ:St} (I:Inv X pins σ H s) (r:RelV x v) (ty:y3 X.K T x H) :
  s.TypeIs v T/\∀ a,v=.ref a->∃ bD,s.heap.get? a=some bD/\bD.dict=.n:=by
 cases x with
 | str z =>
  obtain ⟨t,rfl⟩:=r;cases ty;exact #[mv s z t,λ Z e=>nomatch e]
 | int i =>
  obtain ⟨t,rfl⟩:=r;cases ty;exact #[tI s i t,λ Z e=>nomatch e]
 | ref p =>
  cases r;rcases ty with ⟨rfl,xs,h⟩|⟨rfl,o,d,af,hd⟩|⟨rfl,d⟩|⟨rfl,S,n,d⟩
  ·obtain ⟨j,_,g,_⟩:=I.list h;refine #[g.isList.typeIs,λ a e=>?_];cases e;obtain ⟨o,n,e,c,hd,_⟩:=g;exact #[o,e,hd]
  ·refine #[#[o,I.cA p o d,af],λ a e=>?_];cases e;exact #[o,I.cA _ o d,hd]
  ·have z:∃ o,s.heap.get? p=some o/\o.ExactDict:=by
    rcases d with ⟨kvs,d⟩|⟨kvs,d⟩
    ·obtain ⟨_,_,_,_,o,_,_,e,ex,_⟩:=I.aK p _ d;exact #[o,e,ex]
    ·obtain ⟨_,_,_,_,o,_,_,e,ex,_⟩:=I.aK p _ d;exact #[o,e,ex]
   obtain ⟨o,e,ex⟩:=z;refine #[#[o,e,ex.1],λ a f=>?_];cases f;exact #[o,e,ex.2.1]
  ·obtain ⟨o,_,_,_,e,ex,_⟩:=I.aK p _ d;refine #[#[o,e,ex.1],λ a f=>?_];cases f;exact #[o,e,ex.2.1]
 | _=>exact False.elim ty
def EA (K:aP) (T:String) (r:V->bh->aD->b2->Prop) (to:TE):TE:=λ σ H Q=>to σ H λ x H1=>y3 K T x H1/\r x [] H1 Q
def y1 (K:aP) (T:String) (r:V->bh->aD->b2->Prop) (to:TE) (t:c2):TE:=λ σ H Q=>to σ H λ x H1=>y3 K T x H1/\t σ H1 λ xs aq=>r x xs aq Q
variable {o e:Expr} {aj:List Expr} {to:TE} {t:c2} {name:Str} {apos bR:Pos} {T id:String} {r:V->bh->aD->b2->Prop}
theorem QT (j:PlainAttrs T) (slot:Slot T name id) (i:typeOf (.builtin id)=pure (.type "method_descriptor")) (hm:h3 X id r) (aA:bw X o to)
  (f:attributeBase o name X.env (eval o X.env)=eval o X.env:=by rfl) (g:(apos.endLine==bR.line)=.t:=by rfl):bw X (.Call (.Attribute o name apos) [] [] bR) (EA X.K T r to):=by
 intro pins s σ H Q I h;refine wpAny_Call_method0_late f g (aU (aA pins s σ H _ I h) ?_);rintro v s1 ⟨x,H1,c,d,ty,k⟩;obtain ⟨U,aa⟩:=FC c d ty;exact #[T,id,j,slot,i,U,aa,tJ Y (PySem.evalArgs_none (hm pins s1 σ H1 x [] v [] Q c d .nil k))]
theorem ET (n:PlainAttrs T) (slot:Slot T name id) (m:typeOf (.builtin id)=pure (.type "method_descriptor")) (hm:h3 X id r) (aA:bw X o to) (ak:fE X (e::aj) t)
  (i:attributeBase o name X.env (eval o X.env)=eval o X.env:=by rfl)
  (j:((backTo bR (starEach (e::aj) X.env)).all (λ x=> !x.1)&&(backToKw bR (keywordEach [] X.env)).all (λ x=>x.1.isSome)
   && decide ((e::aj).length+([]:List Keyword).length+(if ([]:List Keyword).isEmpty then 0 else 1)<30))=.t:=by rfl)
  (k:(apos.endLine==bR.line)=.t:=by rfl) (av:starEach (e::aj) X.env=(.f,eval e X.env)::starEach aj X.env:=by rfl) (l:(backTo bR (starEach aj X.env)).any (·.1)=.f:=by rfl) :
  bw X (.Call (.Attribute o name apos) (e::aj) [] bR) (y1 X.K T r to t):=by
 intro pins s σ H Q I h;refine vZ i j k rfl (aU (aA pins s σ H _ I h) ?_);rintro v s1 ⟨x,H1,c,f,ty,p⟩;obtain ⟨U,aa⟩:=FC c f ty;refine #[T,id,n,slot,m,U,aa,?_];have d:=ak bR pins s1 σ H1 _ c p;rw [av] at d ⊢;refine tJ (by show (.f||(backTo bR (starEach aj X.env)).any (·.1))=.f;rw [l]<;>rfl) (pF ?_);exact aU d λ us s2 ⟨vs,aq,g,u,q⟩=>hm pins s2 σ aq x vs v us Q g f u q
end
def m3 (X:aW) (id:String) (r:V->bh->aD->b2->Prop):Prop :=
 ∀ pins s (σ:St) H x xs v us Q,Inv X pins σ H s->RelV x v->Vals xs us->r x xs H Q ->
  wpAny (model X.prog X.w) X.A (call (.builtin id) (v::us)) (el X pins σ Q) X.a5 s
theorem Vals.one (h:Vals [x] us):∃ u,us=[u]/\RelV x u:=by
 cases h with
 | cons r t=>cases t;exact #[_,Y,r]
theorem Vals.zero:∀ {us:List Value},Vals [] us->us=[]
 | _,.nil=>rfl
theorem Vals.dropLast (h:Vals xs us):Vals xs.dropLast us.dropLast:=by
 induction h with
 | nil=>exact .nil
 | cons r t a =>
  cases t with
  | nil=>exact .nil
  | cons q t'=>exact .cons r a
theorem Vals.rep (h:Vals xs us):∀ k,Vals (List.replicate k xs).flatten (List.replicate k us).flatten
 | 0=>.nil
 | k+1=>by
  rw [tK,tK,List.flatten_cons,List.flatten_cons];exact Vals.append h (Vals.rep h k)
theorem Wz {α: Type} (l:List α):l.eraseIdx (l.length-1)=l.dropLast:=by
 induction l with
 | nil=>rfl
 | cons a r c =>
  cases r with
  | nil=>rfl
  | cons b r =>
   have e:(a::b::r).length-1=((b::r).length-1)+1:=by
    have U:(a::b::r).length=r.length+2:=rfl;have aa:(b::r).length=r.length+1:=rfl;omega
   rw [e,List.eraseIdx_cons_succ,c]
   all_goals rfl
theorem foldl_rep (a):∀ k (acc:List Value),
  List.foldl (λ c d=>c++d) acc.toArray (List.replicate k a.toArray)=(acc++(List.replicate k a).flatten).toArray
 | 0,acc=>by simp
 | k+1,acc=>by
  have e:acc.toArray++a.toArray=(acc++a).toArray:=by simp
  have b:(acc++a)++(List.replicate k a).flatten=acc++(List.replicate (k+1) a).flatten:=by
   rw [tK,List.flatten_cons,List.append_assoc]
  rw [<-b,<-foldl_rep a k (acc++a),<-e,tK,List.foldl_cons]
section
variable {X:aW} {pins:ef} {σ:St} {H:aD} {s:Shared} {l b:Addr} {xs ys zs:bh}
theorem Inv.Ei {a:List Value} (I:Inv X pins σ H s) (d:H l=some (.lst xs))
  (e:s.heap.get? l=some { cls:=.type "list", data:=.seq a.toArray n }) (hf:f a.toArray=c.toArray) (aI:Vals ys c) (i:ys.length<=sizeLine) :
  Inv X pins σ (upd H l (.lst ys)) { s with heap:=s.heap.update l (Obj.mapSeq f),toks:=t' }:=by
 have q:=PySem.IsL.update e f;rw [hf] at q;refine I.write (by rw [d];exact trivial) (.inl Y) (λ j u g h=>(er s.heap (Obj.mapSeq f) (dz g)).trans h) #[_,q] ?_;exact #[i,c,_,aI,q]
theorem Inv.tb (I:Inv X pins σ H s) (aI:Vals ys a) (c:ys.length<=sizeLine) :
  Inv X pins σ (upd H s.heap.objs.size (.lst ys)) { s with heap:=s.heap.push { cls:=.type "list", data:=.seq a.toArray },toks:=t' } :=
 I.laid (λ Z Z q=>a9 _ q) (bx _) #[c,a,0,aI,cJ _ Y]
theorem Inv.fresh (I:Inv X pins σ H s):H s.heap.objs.size=.n:=I.aK.fresh (bx _)
theorem Inv.fK (I:Inv X pins σ H s) (c:H l=some (.lst xs)):xs.length<=sizeLine/\∃ (a:List Value) (n:Nat),Vals xs a/\xs.length=a.length/\s.heap.get? l=some { cls:=.type "list", data:=.seq a.toArray n }:=by
 obtain ⟨z,a,n,r,e⟩:=I.aK l _ c;exact #[z,a,n,r,r.length,e]
theorem Uc (h:n<=sizeLine):Builtin.List.listTooLong n=.f:=by
 exact bZ .au
end
section
variable {X:aW}
inductive Gf:V->bh->aD->b2->Prop
 |mk {x vs H Q} (l xs y):x=.ref l->vs=[y]->H l=some (.lst xs)->xs.length<sizeLine->Q .aQ (upd H l (.lst (xs++[y])))->Gf x vs H Q
theorem ue:m3 X "list.append" Gf:=by
 intro pins s σ H x vs v us Q I f d h;obtain ⟨l,xs,y,rfl,rfl,a,i,q⟩:=h;cases f;obtain ⟨u,rfl,c⟩:=d.one;obtain ⟨z,b,n,r,g,e⟩:=I.fK a;refine jr F.slot_list_append #[_,e,Y] F.entry_list_append (F.args_list_append_2 _ _) (PySem.list_append l b.toArray n u (by rw [dK];omega)) #[e,?_];refine #[.aQ,_,I.Ei a e .zs (r.append (.cons c .nil)) ?_,Y,q];rw [c9,List.length_singleton];omega
def PQ:V->bh->aD->b2->Prop:=λ x vs H Q=>∃ l xs y,x=.ref l/\vs=[]/\H l=some (.lst xs)/\xs[xs.length-1]?=some y/\Q y (upd H l (.lst xs.dropLast))
theorem QG:m3 X "list.pop" PQ:=by
 intro pins s σ H x vs v us Q I m k h;obtain ⟨l,xs,y,rfl,rfl,b,g,q⟩:=h;cases m;have f:=k.zero;subst f;obtain ⟨z,a,n,r,c,e⟩:=I.fK b;obtain ⟨u,d,j⟩:=r.get g;have i:a.toArray[a.toArray.size-1]?=some u:=by
  show a.toArray[a.length-1]?=some u;rw [<-Array.getElem?_toList,<-c];exact d
 refine jr F.slot_list_pop #[_,e,Y] F.entry_list_pop (F.args_list_pop_1 _) (MeetsSeq.list_pop_last l a.toArray n u i (by rw [dK];omega)) #[e,?_];refine #[y,_,I.Ei b e ?_ r.dropLast ?_,j,q]
 ·show a.toArray.eraseIdxIfInBounds (a.toArray.size-1)=a.dropLast.toArray;rw [dK,List.eraseIdxIfInBounds_toArray,Wz]
 ·rw [List.length_dropLast];omega
def PO:gb:=λ x y H Q=>∃ l b xs zs,x=.ref l/\y=.ref b/\H l=some (.lst xs)/\H b=some (.lst zs)/\xs.length+zs.length<=sizeLine/\∀ p,H p=.n->Q (.ref p) (upd H p (.lst (xs++zs)))
theorem QM:cI X (binaryOp .Add) PO:=by
 intro pins s σ H x y v u Q I k m h;obtain ⟨l,b,xs,zs,rfl,rfl,i,g,t,q⟩:=h;cases k;cases m;obtain ⟨z,a,n,r,o,e⟩:=I.fK i;obtain ⟨A,c,w,j,p,d⟩:=I.fK g;refine PySem.P.add_list e d ?_ (by rw [dK,dK];omega);have f:a.toArray++c.toArray=(a++c).toArray:=by simp
 rw [f];exact #[.ref _,_,I.tb (r.append j) (by rw [c9];omega),Y,q _ I.fresh]
def PR:gb:=λ x y H Q=>∃ l k xs,x=.ref l/\y=.int k/\H l=some (.lst xs) /\ -(2 ^ 63)<=k/\k<2 ^ 63/\xs.length*k.toNat<=sizeLine /\
 ∀ p,H p=.n->Q (.ref p) (upd H p (.lst (List.replicate k.toNat xs).flatten))
theorem len_rep {α: Type} (xs:List α) (k):(List.replicate k xs).flatten.length=k*xs.length:=by
 induction k with
 | zero=>simp
 | succ k a=>rw [tK,List.flatten_cons,c9,a,Nat.succ_mul,Nat.add_comm]
theorem QO:cI X (binaryOp .Mult) PR:=by
 intro pins s σ H x y v u Q I A B h;obtain ⟨l,k,xs,rfl,rfl,g,U,aa,f,q⟩:=h;cases A;obtain ⟨t,rfl⟩:=B;obtain ⟨z,b,n,r,o,e⟩:=I.fK g;have hlen:b.toArray.size*k.toNat<=sizeLine:=by rw [dK,<-o];exact f
 have i:¬ b.toArray.size*k.toNat>(2 ^ 63-1)/8:=by
  have:sizeLine<=(2 ^ 63-1)/8:=by decide
  omega
 have j:¬ (!Builtin.List.listFitsIndex k)=.t:=by
  rw [fitsIndex_both U aa];exact dC
 have p:¬ Builtin.List.listTooLong (b.toArray.size*k.toNat)=.t:=by
  rw [Uc hlen];exact dC
 have w:List.foldl (λ c d=>c++d) #[] (List.replicate (if b.toArray.isEmpty=.t then 0 else k.toNat) b.toArray)=(List.replicate k.toNat b).flatten.toArray:=by
  have f0:∀ m,List.foldl (λ c d=>c++d) #[] (List.replicate m b.toArray)=(List.replicate m b).flatten.toArray:=λ m=>by
   have:=foldl_rep b m [];rw [List.nil_append] at this;exact this
  rw [f0];cases b with
  | nil=>simp
  | cons a C=>rw [if_neg .zs]
 refine wpAny_binaryOp_repeat_ref .aB #[_,e,Y] (λ s'=>tI s' k t) noFill_list_mul F.fills_int_mul v3 repeat_list F.slot_int_index.lookup
  (jr v3 (tI s k t) F.entry_int_rmul (F.args_int_rmul_2 _ _) (int___rmul___int_list k t l b.toArray n)
   #[e,Y,#[_,e,Y],jr F.slot_list_mul #[_,e,Y] F.entry_list_mul (F.args_list_mul_2 _ _) (AutoListH.list___mul___list_int_3 l b.toArray n k t j i p) #[e,?_]])
 rw [w];exact #[.ref _,_,I.tb (r.rep k.toNat) (by rw [len_rep,nO];exact f),Y,q _ I.fresh]
end
end bj
namespace CM
open PySem PySem.W PySem.Calls PyProof.Rows
theorem YM:∀ ns vs,WellAll P h vs (ns.map WData.int)->IntsAre vs ns:=by
 intro ns
 induction ns with
 | nil =>
  intro vs w;rw [j6] at w;cases w;exact .nil
 | cons n ns c =>
  intro vs w;rw [es] at w;cases w with
  | cons a b =>
   cases a;exact .cons _ _ (c _ b)
theorem We {l:OpenLaw} (ao:l.most=some n)
  (e:l.row.toRowW.claim.pre args=.t) (j:WellAll P h vals args) :
  ∃ a vs ns,vals=[Value.ref a]/\args=[WData.list (ns.map WData.int)]/\h.get? a=some { cls:=.type "list", data:=.seq vs.toArray }/\IntsAre vs ns/\ns.length<=n:=by
 have i:=(pre_splitW e).1;have af:l.pre.holds [] { args:=args }=.t:=(pre_splitW e).2;obtain ⟨d,r,rfl,U,aa⟩:=hasAllW_cons i;obtain rfl:=hasAllW_nil aa;obtain ⟨xs,rfl,f⟩:=hasW_list U;obtain ⟨ns,rfl⟩:=items_int f;have hlen:ns.length<=n:=by
  have b:(WTm.not (.lt (.lit (.int n)) (.len (.arg 0)))).holds [] { args:=[.list (ns.map .int)] }=.t:=by
   have b:=(holds_andW af).1;rw [ao] at b;exact b
  have c:=condW_of b (w_not (w_lt w_lit (w_len_list (w_arg Y))));rw [bz] at c;refine Nat.le_of_not_lt λ q=>?_
  have aR:n<((ns.length):Int):=by omega
  (rw [bc aR] at c;exact absurd c .aB)
 cases j with
 | cons k m =>
  cases m;cases k with
  | list aA g=>exact #[_,_,ns,Y,Y,aA,YM ns _ g,hlen]
theorem V5 (l:OpenLaw) (args):l.row.toRowW.claim.post args (.bool .t) args=.t :=
 postW_of
  (show WShape.has [] (.bool .t) .bool=.t by decide)
  (w_eq_bool (w_res Y) w_lit) rfl
theorem Xg {l:OpenLaw}
  (ao:l.most=some n) (m:d.params.defaults=[])
  (call:∀ w s₀ s₁ mg jJ b o pm cd doc a vs ns,
   Ground q loose [] e w s₀ mg jJ s₁.heap->g w s₁.heap ->
   s₁.heap.get? b=some o->o.data=.func (docDef d.name d.params d.body d.scope pm cd doc)->s₁.heap.CodeRec cd d.name->mg d.name=some (.ref b) ->
   s₁.heap.get? a=some { cls:=.type "list", data:=.seq vs.toArray }->IntsAre vs ns->ns.length<=n->s₁.gens=#[] ->
   codeAny (model l.prog w) callerA (.call (.ref b) ⟨[.ref a],[]⟩) (λ r s'=>r=.ok (.ret (.bool .t))/\OldK s₁.heap s'.heap/\s'.os=s₁.os/\AllBare s'.gens) s₁) :
  WalkO q loose e g l.row.toRowW d [] (λ f vs=>PySem.call f vs):=by
 intro w s₀ s₁ mg jJ G XL b o pm cd doc h cT aA hd k c s p args vals as u y A x z;obtain rfl:h=.none:=Dflts.none c m;obtain rfl:cT=.none:=Dflts.noKw c;obtain ⟨a,vs,ns,rfl,rfl,t,hints,hlen⟩:=We ao u x;refine enter_call (j2 (call w s₀ s₁ mg jJ b o pm cd doc a vs ns G XL aA (fd_plain hd) k s t hints hlen p) λ r s' v=>?_);obtain ⟨rfl,aa,i,j⟩:=v;exact #[.inl #[.bool .t,.bool .t,[],Y,λ Z=>rfl,.bool .t,V5 l _,λ Z=>#[List.Pairwise.nil,λ Z hm=>(nomatch hm)]],aa,i,j]
end CM
namespace bj
open PySem PySem.Spec PyProof.Rows
theorem Wo (h:IntsAre vs ns):Vals (ns.map V.int) vs:=by
 induction h with
 | nil=>exact .nil
 | cons n t h a=>exact .cons #[t,Y] a
def y9 (H:aD):Prop:=∀ b,H b=.n\/∃ o xs,H b=some (.hH o (.lst xs))
theorem T6 {K:aP}
  (p:K.In s₁.heap) (G:s₁.heap.Ns mainGlobals mg) (c:s₁.heap.Ns builtinsNs jJ) (R:∀ x:Str,x ≠ "__name__" -> jJ x=bootBuiltins x) (aV:s₁.heap.NoLimit) (T:s₁.gens=#[])
  (ak:s₁.heap.get? a=some { cls:=.type "list", data:=.seq vs.toArray }) (ar:IntsAre vs ns) (E:ns.length<=sizeLine) (Z:cR k callerA)
  (F:∀ base,K.In base->base.Ns mainGlobals mg->dB P w K mg base b8 k A fd [x] sp) (S:∀ s u,BindsTo s fd ⟨[u],[]⟩ [(x,u)])
  (N3:∀ H,y9 H->aS K H a (ns.map V.int)->sp [.ref a] H (λ v _=>v=.aO .t) λ _ _ _=>False)
  (M:∀ H e s',b8 [] H s₁ (λ _ _ _=>False) e s'->False) :
  codeAny (model P w) callerA (.call (.ref A) ⟨[.ref a],[]⟩) (λ r s'=>r=.ok (.ret (.bool .t))/\OldK s₁.heap s'.heap/\s'.os=s₁.os/\AllBare s'.gens) s₁:=by
 have I:=Wo ar;have PI:=ar.length;have core:∀ H,y9 H->aS K H a (ns.map V.int)->cU P w H s₁.heap->(∀ b,H b≠.n->b=a)->(H a≠.n->K.lookup a=.n) ->
   codeAny (model P w) callerA (.call (.ref A) ⟨[.ref a],[]⟩) (λ r s'=>r=.ok (.ret (.bool .t))/\OldK s₁.heap s'.heap/\s'.os=s₁.os/\AllBare s'.gens) s₁:=by
  intro H D Q aK B N;have t:∀ {b:Addr} {o:Obj},s₁.heap.get? b=some o->H b=.n->(l7 s₁.heap H).get? b=some o:=λ e n=>TV e n
  have OB:∀ {b:Addr} {o:Obj} {aj:Array DictEntry} {g:Nat},s₁.heap.get? b=some o->o.data=.dict aj g->H b=.n:=λ {b o aj g} e d=>by
   cases q:H b with
   | none=>rfl
   | some u =>
    have j:=B b (by rw [q];simp);subst j;rw [ak] at e;cases e;have b4:=d;cases b4
  have i:∀ {b:Addr} {m:Str->b_},s₁.heap.Ns b m->(l7 s₁.heap H).Ns b m:=λ {b m} ⟨o,aj,g,e,d,r⟩=>#[o,aj,g,t e (OB e d),d,r]
  have C:K.In (l7 s₁.heap H):=λ b o e=>t (p b o e) (by
   cases q:H b with
   | none=>rfl
   | some u =>
    have j:=B b (by rw [q];simp);subst j;rw [N (by rw [q];simp)] at e;cases e)
  have O:Mod K mg (l7 s₁.heap H):=#[C,i G,#[jJ,i c,R],let ⟨Md,U,aa⟩:=aV;⟨Md,i U,aa⟩]
  have aC:jV P w K mg (l7 s₁.heap H) callerA [] s₁ H:=#[Y,O,λ b o e=>R8 e,Nat.le_of_eq (VE _ _),trivial,λ b c=>absurd (show b∈([]) from c) .zs,aK,.of_eq T]
  refine j2 ((F _ C (i G)).run callerA [] s₁ H #[[.ref a],[]] [.ref a] [.ref a] _ _ Z aC (S s₁ (.ref a)) (.cons Y .nil) (N3 H D Q)) λ r s' h=>?_
  cases r with
  | error e=>exact (M H e s' h).elim
  | ok fl =>
   cases fl with
   | next=>exact False.elim h
   | brk=>exact False.elim h
   | cont=>exact False.elim h
   | ret u =>
    obtain ⟨v,H',os,bare,un,X,x3,q⟩:=h;have aR:=q;subst aR;obtain rfl:u=Value.bool .t:=x3;refine #[Y,OldK.of_keep λ b o e=>?_,os,bare];cases q:H b with
    | none=>exact un.keep b o e q (by intro z;exact absurd (show b∈([]) from z) .zs) .zs
    | some u =>
     rcases D b with z|⟨bD,xs,z⟩
     ·rw [q] at z;cases z
     ·have h1:=un.gH b bD _ z;obtain ⟨y,_⟩:=aK b _ z;obtain ⟨L,_⟩:=X b _ h1;rw [e] at y;cases y;exact L
 cases l:K.lookup a with
 | some o =>
  have e:=p a o l;rw [ak] at e;cases e;refine core (λ _=>.n) (λ _=>.inl Y) (.inr #[_,vs.toArray,_,l,Y,Y,Y,by rw [dK,PI];exact E,by simpa using I]) (λ b u z=>by have f:=z;cases f) (λ b z=>absurd Y z) λ z=>absurd rfl z
 | none =>
  refine core (λ b=>if b=a then some (.hH { cls:=.type "list", data:=.seq vs.toArray } (.lst (ns.map V.int))) else .n) (λ b=>?_) (.inl (.inr #[{ cls:=.type "list", data:=.seq vs.toArray },if_pos Y])) (λ b u z=>?_) (λ b z=>?_) λ _=>l
  ·by_cases c:b=a
   ·exact .inr #[_,_,if_pos c]
   ·exact .inl (if_neg c)
  ·by_cases c:b=a
   ·have f:=(if_pos c).symm.trans z;cases f;subst c;exact #[ak,by rw [bz];exact E,vs,_,I,ak]
   ·have f:=(if_neg c).symm.trans z;cases f
  ·by_cases c:b=a
   ·exact c
   ·exact absurd (if_neg c) z
theorem Tg {l:PySem.W.OpenLaw} {K:Params->aP} {b8:World->i9} {sp:World->bG}
  (ao:l.most=some n) (D:n<=sizeLine) (A:d.params.defaults=[]) (I:cR k callerA)
  (y:∀ w h,j w h->(K w.params).In h)
  (F:∀ w mg c h,(K w.params).In h->h.Ns mainGlobals mg->mg d.name=some (.ref c) ->
   ∃ fd,(∀ s u,BindsTo s fd ⟨[u],[]⟩ [(x,u)]) /\
    ∀ base,(K w.params).In base->base.Ns mainGlobals mg->dB l.prog w (K w.params) mg base (b8 w) k c fd [x] (sp w))
  (aC:∀ w H a (ns:bB),ns.length<=n->y9 H->aS (K w.params) H a (ns.map V.int)->sp w [.ref a] H (λ v Z=>v=.aO .t) λ Z Z Z=>False)
  (m:∀ w H s e s',b8 w [] H s (λ Z Z Z=>False) e s'->False) :
  PySem.W.WalkO q loose L j l.row.toRowW d [] (λ f vs=>PySem.call f vs):=by
 refine CM.Xg ao A λ w s₀ s₁ mg jJ c o pm cd doc a vs ns G XL aA hd M C E hints hlen B=>?_
 have i:=y w _ XL;obtain ⟨fd,z,p⟩:=F w mg c _ i G.T.g C;exact T6 i G.T.g G.T.b G.T.builtins G.T.nolimit B E hints (dF hlen D) I p z (λ H r t=>aC w H a ns hlen r t) λ H e s'=>m w H s₁ e s'
end bj
namespace bj
open PySem PySem.Spec PyProof.Rows
noncomputable def pN (s:Stmt):Arguments:=match s with
 | .FunctionDef _ a _ _ _ _ _ _ _ _=>a
 | _=>{ posonlyargs:=[],args:=[],vararg:=.n,kwonlyargs:=[],kw_defaults:=[],kwarg:=.n,defaults:=[] }
noncomputable def iV (s:Stmt):List Stmt:=match s with
 | .FunctionDef _ _ b _ _ _ _ _ _ _=>b
 | _=>[]
noncomputable def bo (s:Stmt):Scope:=match s with
 | .FunctionDef _ _ _ _ _ _ sc _ _ _=>sc
 | _=>{ kind:=.function,names:=[],isGenerator:=.f,isCoroutine:=.f }
abbrev cn:i9:=λ Z Z Z Z Z Z=>False
abbrev ft:cL:=λ Z Z Z=>False
theorem bT:Passes cn X ft:=λ Z Z Z Z Z Z Z h=>h.elim
structure fG (K:aP) (x qual:Str) (st:Stmt) (f:Addr) (fd:FuncData):Prop where
 ex:∃ (dR:Value) (cH:Option Addr) (cT doc pm:Value) (an:Option Addr) (a0 b9:Value) (kN:Array b_),
  fd=PySem.W.fnOf x qual (pN st) (iV st) (bo st) .none cT doc pm an a0 b9/\K.lookup f=some ⟨dR,cH,.func fd,kN⟩/\PySem.W.codeIn K a0 qual=.t
 bI:PySem.W.keepIn K (.ref f)=.t
section
variable {P:Program} {w:World} {K:aP} {mg:Str->b_} {base:Heap}
theorem fG.ok (F:fG K x qual st f fd) (S:bH N ai (bo st)) (len:∀ vs H Q E,sp vs H Q E->vs.length=ai.length)
  (a:∀ a0 A outer s H vs Q E,cR k (A.deeper (envOfC qual (bo st) s.heap.objs.size f a0))->sp vs H Q E ->
   ∃ t,h4 (fj cn P w K mg base N qual (bo st) f a0 A outer s H E).sV (iV st) t/\t { bf:=λ Z H'=>Q .aQ H',iC:=Q } (start N vs) H):dB P w K mg base cn (k+1) f fd ai sp:=by
 obtain ⟨dR,cH,cT,doc,pm,an,a0,b9,kN,rfl,lk,b⟩:=F.ex;refine zu lk b S len λ A outer s H vs Q E c d=>?_
 obtain ⟨t,h,q⟩:=a a0 A outer s H vs Q E c d;exact #[t,h.sV,q]
theorem fG.binds (F:fG K x qual st f fd)
  (h:∀ cT doc pm an a0 b9 us,us.length=ai.length->bindArgs (PySem.W.fnOf x qual (pN st) (iV st) (bo st) .none cT doc pm an a0 b9) ⟨us,[]⟩=pure (ai.zip us)):Binds K fd ai []:=by
 obtain ⟨dR,cH,cT,doc,pm,an,a0,b9,kN,rfl,lk,a⟩:=F.ex;exact .all (h cT doc pm an a0 b9)
theorem zK {cT:Value} (l:K.lookup f=some ⟨dR,cH,.func (PySem.W.fnOf x qual (pN st) (iV st) (bo st) .none cT doc pm an a0 b9),kN⟩)
  (c:PySem.W.codeIn K a0 qual=.t) (k:PySem.W.keepIn K (.ref f)=.t):fG K x qual st f (PySem.W.fnOf x qual (pN st) (iV st) (bo st) .none cT doc pm an a0 b9):=#[#[dR,cH,cT,doc,pm,an,a0,b9,kN,Y,l,c],k]
end
theorem il (a:cR k A):A.units+1<cLine:=Nat.lt_of_le_of_lt (Nat.add_le_add_left (by decide:1<=64) _) a.units
section
variable {X:aW}
theorem dX (i) (a:X.N[i]?=some x:=by rfl) (aI:sr X.env.scope x:=by first|exact Or.inl Y|exact Or.inr (Or.inl Y)|exact Or.inr (Or.inr Y)) (hd:(x==("__debug__" : Str))=.f:=by decide)
  (b:(x==("__classdict__" : Str))=.f:=by decide):bw X (.Name x pos) (zp i):=Q2 a aI hd b
end
theorem bE {B:Prop} (h:B):if .f=.t then A else B:=by
 rw [if_neg dC];exact h
theorem bk {B:Prop} (h:A):if .t=.t then A else B:=by
 rw [if_pos rfl];exact h
theorem c3 {c A B:Prop} [Decidable c] (U:c->A) (aa:¬ c->B):if c then A else B:=by
 by_cases h:c
 ·rw [if_pos h];exact U h
 ·rw [if_neg h];exact aa h
theorem P6 {c A B:Prop} [Decidable c] (af:c) (h:B):if (!decide c)=.t then A else B:=by
 rw [bc af];exact bE h
def ay (H H':aD):Prop:=∀ b o,H b=some o->H' b=some o
theorem ay.refl (H):ay H H:=λ Z Z h=>h
theorem ay.trans (a:ay H H1) (b:ay H1 aq):ay H aq:=λ c o h=>b c o (a c o h)
theorem ay.free (e:ay H H') (h:H' l=Option.none):H l=Option.none:=by
 cases q:H l with
 | none=>rfl
 | some o =>
  rw [e l o q] at h;cases h
inductive zl (K:aP):bh->aD->b2->Prop
 |mk {xs H Q} (x T t b):xs=[x,.ty T]->gF K H x t->PySem.W.kitOne K t (.type T)=some b->Q (.aO b) H->zl K xs H Q
section
variable {X:aW}
theorem kf:ep X (.builtin "isinstance") (zl X.K):=by
 intro pins s σ H xs us Q I r h;obtain ⟨x,T,t,b,rfl,ty,e,q⟩:=h;obtain ⟨u,b1,rfl,c,a⟩:=vals2 r;cases a;exact VF I c ty e λ a8=>#[.aO b,H,I.tok _,Y,q]
theorem wQ:∀ {bs:List Bool} {us:List Value},Vals (bs.map V.aO) us->us=bs.map Value.bool
 | [],_,r=>by rw [j6] at r;cases r;rfl
 | b::bs,_,r=>by
  rw [es] at r;cases r with
  | cons a c =>
   cases a;rw [wQ c];rfl
theorem all_range (bs:List Bool):((List.range bs.length).all λ i=>bs.getD i .t)=bs.all id:=by
 rw [nG,fB,fB];constructor
 ·intro h b c;obtain ⟨i,ar,rfl⟩:=List.getElem_of_mem c;have:=h i (nD.mpr ar);rw [iQ,cK ar] at this;exact this
 ·intro h i ar;have a:=nD.mp ar;rw [iQ,cK a];exact h _ (iw a)
inductive Ie (K:aP):bh->aD->b2->Prop
 |mk {xs H Q} (p:Addr) (bs:List Bool):xs=[.ref p]->aS K H p (bs.map V.aO)->Q (.aO (bs.all id)) H->Ie K xs H Q
theorem rd (af:X.calm=.t):ep X (.builtin "all") (Ie X.K):=by
 intro pins s σ H xs us Q I r h;obtain ⟨p,bs,rfl,l,q⟩:=h;obtain ⟨u,rfl,m⟩:=vals1 r;cases m;obtain ⟨x,n,c,w⟩:=I.list l;have g:=wQ n;subst g;have ah:p<s.heap.objs.size:=by obtain ⟨_,_,e,_⟩:=c;exact bu e
 have hd:X.A.in1.handled=.n:=I.ok.hd.1 af;refine call_all_walk (wpAny_pyIter_list c.isList ?_);refine #[s.heap.objs.size,_,_,_,_,_,(λ i=>bs.getD i .t),Y,Walks.list hd s.heap.objs.size p (cc ah) (bs.map Value.bool).toArray,#[#[_,cJ _ Y,Y,Y],c.isList.push _],?_,?_]
 ·intro i v s' f t aI j;have a:(bs.map Value.bool)[i]?=some v:=by simpa using aI
  rw [et] at a;cases e:bs[i]? with
  | none=>rw [e] at a;cases a
  | some b =>
   rw [e] at a;cases a;have d:f (bs.getD i .t) s':=j;rw [iQ,e] at d;exact mi d
 ·intro h' a8 k;refine #[.aO (bs.all id),H,I.kept λ b o e=>k b o ?_ (a9 _ e),?_,q]
  ·intro z;rw [cf.mp z] at e;exact absurd (bu e) (ei _)
  ·show Value.bool _=Value.bool _;rw [<-all_range bs];simp
end
noncomputable def pick (js:List (Option Nat)) (σ:St):St:=js.map λ o=>o.bind λ j=>(σ[j]?).join
theorem A1 {i:Nat} (h:(pick js σ)[i]?=some (some v)):∃ j,js[i]?=some (some j)/\σ[j]?=some (some v):=by
 unfold pick at h;rw [et] at h;cases e:js[i]? with
 | none=>rw [e] at h;cases h
 | some o =>
  rw [e] at h;have h':=cE h;cases o with
  | none=>cases h'
  | some j =>
   refine #[j,Y,?_];have aa:(σ[j]?).join=some v:=h';cases a:σ[j]? with
   | none=>rw [a] at aa;cases aa
   | some q =>
    rw [a] at aa;have b:q=some v:=aa;rw [b]
structure jn (X:aW) (scope:Scope) (cl:List (Str×Addr)) (N:bA) (js:List (Option Nat)):Prop where
 l4:closureFor scope X.env=pure cl
 k8:∀ y∈scope.names,y.2≠.cell
 kind:scope.kind=.function
 names:∀ y∈scope.names,y.2=.local->scope.names.lookup y.1=some .local
 sub:∀ x c,cl.lookup x=some c->X.env.cells.lookup x=some c
 has:∀ x,((relabel scope X.env).names.lookup x=some .cell\/(relabel scope X.env).names.lookup x=some .free)->∃ c,cl.lookup x=some c
 len:js.length=N.length
 seen:∀ (i j:Nat) (x:Str),N[i]?=some x->js[i]?=some (some j)->X.N[j]?=some x/\X.env.scope.names.lookup x=some .cell/\((relabel scope X.env).names.lookup x=some .cell\/(relabel scope X.env).names.lookup x=some .free)
noncomputable abbrev cC (X:aW) (scope:Scope) (cl:List (Str×Addr)) (N:bA) (aF:List Addr) (pins:ef) (s:Shared) (H:aD) (E:c0):aW :=
 { X with N:=N,s₀:=s,H₀:=H,env:=compEnvC scope cl s.heap.objs.size X.env,outer:=X.stack,ex:=aF,fn:=λ Z=>.f,gA:=X.gA++pins,a5:=E }
def hL (aC:ht) (D:Addr) (js:List (Option Nat)) (g:fF) (cg:TT) (bg:TE) (σ:St) (H1:aD) (Q:b2):Prop :=
 ∃ W:Nat->Nat->St->aD->bh->Prop,(∃ m,W 0 m (pick js σ) (upd H1 D (.lst [])) [])/\∀ i m σ' H' ys,W i m σ' H' ys->H' D=some (.lst ys) /\
  ((aC.stop i H'/\Q (.ref D) H')\/(aC.go i H'/\ys.length<sizeLine/\∃ N:St->aD->bh->Prop,(∀ σ2 aq zs,N σ2 aq zs->∃ c,c<m/\W (i+1) c σ2 aq zs)/\∀ x aq,aC.ic i H' x aq->g x σ' aq λ σ2 d=>cg σ2 d λ k a=>
   if k=.t then bg σ2 a λ y b=>b D=some (.lst ys)/\N σ2 (upd b D (.lst (ys++[y]))) (ys++[y]) else a D=some (.lst ys)/\N σ2 a ys))
def jY (js:List (Option Nat)) (a:TI) (g:fF) (cg:TT) (bg:TE):TE:=λ σ H Q=>a σ H λ aC H1=>∀ D,H1 D=.n->hL aC D js g cg bg σ H1 Q
theorem AV {aC:ht} {g:fF} {cg:TT} {bg:TE} {Q:b2} (ao:n<=sizeLine) (Pv:Nat->St->aD->bh->Prop) (h0:Pv 0 (pick js σ) (upd H1 D (.lst [])) [])
  (ah:∀ i σ' H' ys,i<=n->Pv i σ' H' ys->H' D=some (.lst ys)/\ys.length<=i) (j:∀ i σ' H' ys,i<n->Pv i σ' H' ys->aC.go i H') (l:∀ σ' H' ys,Pv n σ' H' ys->aC.stop n H'/\Q (.ref D) H')
  (av:∀ i σ' H' ys x aq,i<n->Pv i σ' H' ys->aC.ic i H' x aq->g x σ' aq λ σ2 c=>cg σ2 c λ k a=>
   if k=.t then bg σ2 a λ y b=>b D=some (.lst ys)/\Pv (i+1) σ2 (upd b D (.lst (ys++[y]))) (ys++[y]) else a D=some (.lst ys)/\Pv (i+1) σ2 a ys) :
  ∃ W:Nat->Nat->St->aD->bh->Prop,(∃ m,W 0 m (pick js σ) (upd H1 D (.lst [])) [])/\∀ i m σ' H' ys,W i m σ' H' ys->H' D=some (.lst ys) /\
   ((aC.stop i H'/\Q (.ref D) H')\/(aC.go i H'/\ys.length<sizeLine/\∃ N:St->aD->bh->Prop,(∀ σ2 aq zs,N σ2 aq zs->∃ f,f<m/\W (i+1) f σ2 aq zs)/\∀ x aq,aC.ic i H' x aq->g x σ' aq λ σ2 c=>cg σ2 c λ k a=>
    if k=.t then bg σ2 a λ y b=>b D=some (.lst ys)/\N σ2 (upd b D (.lst (ys++[y]))) (ys++[y]) else a D=some (.lst ys)/\N σ2 a ys)):=by
 refine #[λ i m σ' H' ys=>m=n-i/\i<=n/\Pv i σ' H' ys,#[n,Y,ej _,h0],?_];rintro i m σ' H' ys ⟨rfl,ar,p⟩;obtain ⟨h,o⟩:=ah i σ' H' ys ar p;refine #[h,?_];by_cases d:i<n
 ·exact .inr #[j i σ' H' ys d p,.au,Pv (i+1),λ σ2 aq zs p'=>#[n-(i+1),.au,Y,d,p'],λ x aq y=>av i σ' H' ys x aq d p y]
 ·have e:i=n:=by omega
  subst e;exact .inl (l σ' H' ys p)
def kD (X:aW) (cs:List Expr) (t:TT):Prop :=
 ∀ pins s (σ:St) H Q,Inv X pins σ H s->t σ H Q ->
  wpAny (model X.prog X.w) X.A (forIn cs .t λ c r=>if r=.t then do let ok ← isTrue c X.env (eval c X.env);pure (ForInStep.yield ok) else pure (ForInStep.yield r)) (xG X pins σ Q) X.a5 s
def kc:TT:=λ Z H Q=>Q .t H
theorem Sz:kD X [] kc:=λ Z Z Z H Z I h=>wpAny_tests_nil #[H,I,h]
theorem SA (af:hu X c t):kD X [c] t:=λ pins s σ H Q I h=>wpAny_tests_one (af pins s σ H Q I h)
section
variable {prog:Program} {w:World} {A:Around} {R:Result->Shared->Prop} {s:Shared}
theorem Az {elt a4 iter:Expr} {cs:List Expr} {scope:Scope} {pos:Pos} {it acc:Value} {env:Env} (aC:Nat->Shared->Prop)
  (turn:∀ n s',aC n s'->wpAny (model prog w) A (pyNext it) (λ r t1=>match r with
   | none=>R (.ok .next) t1
   | some v=>wpAny (model prog w) A (letOwnedTupleGo a4 it v) (λ Z d=>wpAny (model prog w) A (assign a4 env v) (λ Z t3=>
     wpAny (model prog w) A (forIn cs .t λ c r=>if r=.t then do let ok ← isTrue c env (eval c env);pure (ForInStep.yield ok) else pure (ForInStep.yield r)) (λ ok b=>
      if ok=.t then wpAny (model prog w) A (eval elt env) (λ x f=>wpAny (model prog w) A (call (.builtin "list.append") [acc,x]) (λ Z g=>∃ m,m<n/\aC m g)
       (notedBy (model prog w) A env λ e a=>R (.error e) a) f) (notedBy (model prog w) A env λ e a=>R (.error e) a) b
      else ∃ m,m<n/\aC m b) (notedBy (model prog w) A env λ e a=>R (.error e) a) t3) (notedBy (model prog w) A env λ e a=>R (.error e) a) d) (notedBy (model prog w) A env λ e a=>R (.error e) a) t1)
    (notedBy (model prog w) A env λ e a=>R (.error e) a) s')
  (n:Nat) (h:aC n s):codeAny (model prog w) A (.compLoop (.ListComp elt [#[a4,iter,cs,0]] scope pos) 0 it acc env) R s:=by
 refine codeAny_loop rfl aC (λ n s' i=>?_) n h;refine wpAny_noted ?_;rw [compTurn_list];refine ax (k4 (ax (aU (turn n s' i) λ r t1 k1=>?_)));cases r with
 | none=>exact a_ k1
 | some v =>
  refine ax (aU k1 λ Z d k2=>ax (aU k2 λ Z t3 k3=>ax (aU k3 λ ok b lG=>?_)));cases ok with
  | false=>exact a_ #[Y,lG]
  | true=>exact ax (ax (aU lG λ x f k5=>ax (aU k5 λ Z g oq=>a_ (a_ #[Y,oq]))))
end
theorem o9 {t:Sem α} {Q: α -> Shared->Prop} (a:∀ e s',E e s'->False) (h:wpAny M A t Q E s):wpAny M A t Q b s:=d_ h (λ Z Z q=>q) λ e s' z=>(a e s' z).elim
theorem BP {α β: Type} [BEq α] [LawfulBEq α]:∀ {l:List (α×β)} {x : α},x∈l.map (·.1)->∃ c,l.lookup x=some c
 | [],_,h=>by cases h
 | (y,d)::r,x,h=>by
  rw [List.lookup_cons];cases e:(x==y) with
  | true=>exact #[d,Y]
  | false =>
   rcases bt.mp h with z|z
   ·rw [z] at e;simp at e
   ·exact BP z
noncomputable def nj (sc:Scope):bA:=(sc.names.filter (λ p=>p.2==.cell)).map (·.1)
theorem ly:∀ names n acc,cellsFrom n names acc=cellsFrom n names []++acc
 | [],_,_=>rfl
 | (name,kind)::r,n,acc=>by
  unfold cellsFrom;split
  ·rw [ly r (n+1) ((name,n)::acc),ly r (n+1) [(name,n)],List.append_assoc];rfl
  ·exact ly r n acc
set_option tactic.hygienic true in
theorem ux:∀ {names:List (Str×NameKind)} {n:Nat} {x:Str} {c:Addr},(x,c)∈cellsFrom n names []->(x,NameKind.cell)∈names
 | [],_,_,_,h=>by cases h
 | (name,kind)::r,n,x,c,h=>by
  unfold cellsFrom at h;split at h
  ·next a =>
   rw [ly] at h;rcases fA.mp h with z|z
   ·exact de _ (ux z)
   ·rw [cf] at z;cases z;rw [jt a];exact dn
  ·exact de _ (ux h)
theorem BL:∀ {names:List (Str×NameKind)} {n:Nat} {x:Str},(x,NameKind.cell)∈names->∃ c,(x,c)∈cellsFrom n names []
 | [],_,_,h=>by cases h
 | (name,kind)::r,n,x,h=>by
  unfold cellsFrom;rcases bt.mp h with z|z
  ·cases z;rw [if_pos (show (NameKind.cell==NameKind.cell)=.t from Y),ly];exact #[n,fq _ (cf.mpr Y)]
  ·split
   ·obtain ⟨c,af⟩:=BL z;rw [ly];exact #[c,pk _ af]
   ·exact BL z
theorem q8:x∈nj sc ↔ (x,NameKind.cell)∈sc.names:=by
 unfold nj;rw [cW];constructor
 ·rintro ⟨⟨y,k⟩,h,rfl⟩;obtain ⟨U,aa⟩:=hO.mp h;have:=jt aa;subst this;exact U
 ·intro h;exact #[(x,.cell),hO.mpr #[h,Y],Y]
theorem w_ {α β: Type} [BEq α]:∀ (l m:List (α×β)) (x : α),(l++m).lookup x=(l.lookup x).or (m.lookup x)
 | [],_,_=>rfl
 | (y,d)::l,m,x=>by
  rw [List.cons_append,List.lookup_cons,List.lookup_cons];cases (x==y) with
  | true=>rfl
  | false=>exact w_ l m x
theorem Xl {code:Value}
  (a:Q (newEnv scope s.heap.objs.size globals (cellsFrom (s.heap.objs.size+1) scope.names cl) qual func code (some env) builtins) { s with heap:=pushCells (s.heap.push { cls:=.type "dict", data:=.dict #[] }) scope.names }) :
  wpAny M A (newFunctionEnv scope globals cl [] qual func code (some env) builtins) Q E s:=by
 simp only [newFunctionEnv,Option.isSome_some,if_true];refine ax (wpAny_alloc ?_);refine ax (wpAny_layCells _ (λ name kind cells=>by cases b:kind==NameKind.cell<;>simp [b]) _ _ _ _ ?_);rw [show ({ s with heap:=s.heap.push { cls:=.type "dict", data:=.dict #[] } }:Shared).heap.objs.size=s.heap.objs.size+1 from eF ..];rw [List.forIn_nil];exact ax (a_ (a_ a))
structure wu (X:aW) (scope:Scope) (cl:List (Str×Addr)) (N:bA) (js:List (Option Nat)):Prop where
 l4:closureFor scope X.env=pure cl
 CY:∀ x∈nj scope,cl.lookup x=.n
 kind:scope.kind=.function
 names:∀ y∈scope.names,y.2=.local->scope.names.lookup y.1=some .local
 sub:∀ x c,cl.lookup x=some c->X.env.cells.lookup x=some c
 has:∀ x,((relabel scope X.env).names.lookup x=some .cell\/(relabel scope X.env).names.lookup x=some .free)->(∃ c,cl.lookup x=some c)\/x∈nj scope
 len:js.length=N.length
 seen:∀ (i j:Nat) (x:Str),N[i]?=some x->js[i]?=some (some j)->X.N[j]?=some x/\x∉nj scope/\X.env.scope.names.lookup x=some .cell/\((relabel scope X.env).names.lookup x=some .cell\/(relabel scope X.env).names.lookup x=some .free)
noncomputable abbrev fS (X:aW) (scope:Scope) (cl:List (Str×Addr)) (N:bA) (aF:List Addr) (pins:ef) (s:Shared) (H:aD) (E:c0):aW :=
 { X with N:=N,s₀:=s,H₀:=H,env:=compEnvC scope (cellsFrom (s.heap.objs.size+1) scope.names cl) s.heap.objs.size X.env,outer:=X.stack,ex:=aF,fn:=λ x=>(nj scope).contains x,gA:=X.gA++pins,a5:=E }
theorem HV {σ:St}
  (C:wu X scope cl N js) (af:X.warm=.t) (ar:gW X a4 iter oz)
  (gd:∀ aF pins s H,hU (fS X scope cl N aF pins s H λ _ _=>False) a4 g)
  (aG:∀ aF pins s H,kD (fS X scope cl N aF pins s H λ _ _=>False) cs cg)
  (he:∀ aF pins s H,bw (fS X scope cl N aF pins s H λ _ _=>False) elt bg)
  (av:∀ x,foldedSetIterable iter X.env x=pure x) (I:Inv X pins σ H s) (h:jY js oz g cg bg σ H Q)
  (fin:∀ D mF H' s' m r,Inv X pins σ H' s'->je X pins H' mF->s'.heap.Ns mF m->Q (.ref D) H'->compPost (model X.prog X.w) X.A X.a5 use R (.ref D) mF (.ok r) s'):wpAny (model X.prog X.w) X.A (comprehension (.ListComp elt [#[a4,iter,cs,0]] scope pos) scope X.env abi (newList []) .f (eval iter X.env) use) R X.a5 s:=by
 refine z4 (use:=use) rfl av C.l4 C.kind C.names (aU (ar pins s σ H _ I h) λ CL s1 U=>aU U λ ql s2 aa=>?_);obtain ⟨it,aF,ff,aC,aq,e,hT,T,iF,f2,aa⟩:=aa;subst e;obtain ⟨W,⟨m0,aY⟩,turn⟩:=aa s2.heap.objs.size hT.fresh;refine l_ (Xl ?_);have f:Inv X pins σ (upd aq s2.heap.objs.size (.lst [])) { s2 with heap:=s2.heap.push { cls:=.type "list", data:=.seq ([]).toArray } }:=hT.tb .nil (ej _);dsimp only;generalize d6:({ s2 with heap:=s2.heap.push { cls:=.type "list", data:=.seq ([]:List Value).toArray } })=s3 at f;have jO:s2.heap.push { cls:=.type "list", data:=.seq ([]).toArray }=s3.heap:=by rw [<-d6]
 have C1:s2.gens=s3.gens:=by rw [<-d6]
 have C2:s2.os=s3.os:=by rw [<-d6]
 rw [jO];have kM:(pushCells (s3.heap.push { cls:=.type "dict", data:=.dict #[] }) scope.names).Ns s3.heap.objs.size (λ _=>.n):=(Heap.Ns.new s3.heap (.type "dict")).keeps (pushCells_keeps _ _);have M:∀ b o,s3.heap.get? b=some o->(pushCells (s3.heap.push { cls:=.type "dict", data:=.dict #[] }) scope.names).get? b=some o:=λ b o q=>pushCells_keeps _ _ b o (a9 _ q)
 have eg:=cellsFrom_ok scope.names (s3.heap.push { cls:=.type "dict", data:=.dict #[] }) (s3.heap.objs.size+1) [] #[λ _ _ hm=>(nomatch hm),List.Pairwise.nil] (by rw [eF];exact bx _);rw [eF] at eg;generalize pushCells (s3.heap.push { cls:=.type "dict", data:=.dict #[] }) scope.names=hX at kM M eg ⊢;generalize rS:upd aq s2.heap.objs.size (.lst [])=l at f aY;have hz:s2.heap.objs.size<s3.heap.objs.size:=by rw [<-jO,eF];exact j0 _
 have nf:∀ b o,s2.heap.get? b=some o->s3.heap.get? b=some o:=λ b o q=>by rw [<-jO];exact a9 _ q
 have CW:∀ x c,cl.lookup x=some c->c<s3.heap.objs.size:=λ x c q=>by
  obtain ⟨v,dR,Z,_⟩:=f.cell x c (C.sub _ _ q);exact bu Z
 have E:∀ x c,(cellsFrom (s3.heap.objs.size+1) scope.names cl).lookup x=some c->(cl.lookup x=some c/\x∉nj scope)\/(x∈nj scope/\(x,c)∈cellsFrom (s3.heap.objs.size+1) scope.names []):=λ x c q=>by
  rw [ly,w_] at q;cases e:(cellsFrom (s3.heap.objs.size+1) scope.names []).lookup x with
  | some aV =>
   rw [e] at q;cases q;have m:=mem_of_lookup e;exact .inr #[q8.mpr (ux m),m]
  | none =>
   rw [e] at q;have aR:=q;refine .inl #[aR,λ z=>?_];rw [C.CY x z] at aR;cases aR
 have D9:∀ x c,cl.lookup x=some c->(cellsFrom (s3.heap.objs.size+1) scope.names cl).lookup x=some c:=λ x c q=>by
  rw [ly,w_];cases e:(cellsFrom (s3.heap.objs.size+1) scope.names []).lookup x with
  | none=>exact q
  | some aV =>
   have:=C.CY x (q8.mpr (ux (mem_of_lookup e)));rw [q] at this;cases this
 have L:∀ x c,(x,c)∈cellsFrom (s3.heap.objs.size+1) scope.names []->hX.IsCell c .n/\s3.heap.objs.size+1<=c:=λ x c m=>eg.empty x c m
 have kI:∀ b∈aF,b<s3.heap.objs.size:=λ b d=>by
  obtain ⟨o,gw,_⟩:=T.obj 0 _ iF b d;exact bu (nf b o gw)
 have fst:∀ b∈aF,b∉cz X.stack:=λ b d z=>by
  rcases bt.mp (f.j5 b z) with q|q
  ·exact (f2 b d).2.1 q
  ·exact (f2 b d).2.2.1 q
 have sX:(fS X scope cl N aF pins s3 l λ _ _=>False).Ok:=by
  refine #[I.ok.mod,C.kind,I.ok.glob,I.ok.blt,bx _,λ x y c O P=>?_,λ x z=>?_,λ x c z q=>?_,#[I.ok.hd.1,λ hw=>f.u7 hw λ b d=>(f2 b d).2.2.2.1],I.ok.frames,.inl Y,λ b d=>#[cc (kI b d),λ x c q=>?_],
   f.bs,dF I.ok.fI f.fe,λ b o q d=>?_,fst,f.stack,f.ix]
  ·rcases E x c O with ⟨a1,_⟩|⟨_,a1⟩
   ·rcases E y c P with ⟨a2,_⟩|⟨_,a2⟩
    ·exact I.ok.inj x y c (C.sub _ _ a1) (C.sub _ _ a2)
    ·exact absurd (CW x c a1) (Nat.not_lt.mpr (dF (jZ _) (L y c a2).2))
   ·rcases E y c P with ⟨a2,_⟩|⟨_,a2⟩
    ·exact absurd (CW y c a2) (Nat.not_lt.mpr (dF (jZ _) (L x c a1).2))
    ·exact name_of_addr eg.apart a1 a2
  ·rcases C.has x z with ⟨c,h'⟩|h'
   ·exact #[c,D9 x c h']
   ·obtain ⟨c,m⟩:=BL (q8.mp h');obtain ⟨aV,Ce⟩:=BP (cW.mpr #[(x,c),m,Y]);refine #[aV,?_];show (cellsFrom (s3.heap.objs.size+1) scope.names cl).lookup x=some aV;rw [ly,w_,Ce];rfl
  ·rcases E x c q with ⟨_,a1⟩|⟨_,a1⟩
   ·exact absurd (List.contains_iff_mem.mp z) a1
   ·exact dF (jZ _) (L x c a1).2
  ·rcases E x c q with ⟨a1,_⟩|⟨_,a1⟩
   ·exact (f2 b d).2.2.2.2.1 x c (C.sub _ _ a1)
   ·exact hP (ey (kI b d) (dF (jZ _) (L x c a1).2))
  rcases (f2 b d).2.2.2.1 with z|z
  ·exact I.ok.ji b o q z
  ·exact absurd (ey (bu q) (dF I.ok.fI z)) (ei _)
 have lB:Inv (fS X scope cl N aF pins s3 l λ _ _=>False) [] (pick js σ) l { s3 with heap:=hX }:=by
  refine #[sX,Y,f.bare,cX.kept M,#[_,kM,λ i x v O P hB=>?_],λ x c q=>?_,f.aK.fresh (bx _),λ x c q=>?_,λ p ah=>?_,f.aK.kept M,?_]
  ·obtain ⟨j,k1,k2⟩:=A1 P;obtain ⟨oA,MF,h1,kA⟩:=C.seen i j x O k1;obtain ⟨m,ao,eB⟩:=f.loc;obtain ⟨u,ov,lk⟩:=eB j x v oA k2 (.inr (.inl h1));refine #[u,ov,.inr #[kA,?_]];rcases lk with ⟨k,_⟩|⟨_,c,rT,dR,Z,jQ⟩
   ·have dQ:X.env.scope.names.lookup x=some .local:=k;rw [h1] at dQ;cases dQ
   ·obtain ⟨aV,m4⟩:=(C.has x kA).resolve_right MF;have:=C.sub _ _ m4;rw [rT] at this;cases this;exact #[c,D9 x c m4,dR,M _ _ Z,jQ]
  ·rcases E x c q with ⟨a1,_⟩|⟨_,a1⟩
   ·obtain ⟨v,dR,Z,jQ⟩:=f.cell x c (C.sub _ _ a1);exact #[v,dR,M _ _ Z,jQ]
   ·exact #[.n,(L x c a1).1]
  ·rcases E x c q with ⟨a1,_⟩|⟨_,a1⟩
   ·exact f.fm x c (C.sub _ _ a1)
   ·exact f.aK.fresh (dF (jZ _) (L x c a1).2)
  ·have m7:p∈X.gA++pins:=by simpa using ah
   obtain ⟨O,P,hB,ot,r_⟩:=f.pin p m7;refine #[M _ _ O,P,cc (bu O),λ z=>?_,r_];rcases bt.mp (f.j5 _ z) with q|q
   ·exact hB q
   ·exact ot q
  ·show (pick js σ).length=N.length;unfold pick;rw [bz,C.len]
 have stat:∀ {H':aD},(∀ b∈aF,H' b=.n)->∀ b∈aF,je (fS X scope cl N aF pins s3 l λ _ _=>False) [] H' b:=λ ao b d =>
  #[ao b d,cc (kI b d),fst b d,.inl d,λ x c q=>by
   rcases E x c q with ⟨a1,_⟩|⟨_,a1⟩
   ·exact (f2 b d).2.2.2.2.1 x c (C.sub _ _ a1)
   ·exact hP (ey (kI b d) (dF (jZ _) (L x c a1).2)),λ p ah=>(f2 b d).2.2.2.2.2 p (by simpa using ah)]
 have nc:=T.keep 0 _ _ iF λ b d o q=>M b o (nf b o q)
 have bf:∀ e s',(fS X scope cl N aF pins s3 l λ _ _=>False).a5 e s'->False:=λ _ _ z=>z
 have loop:codeAny (model X.prog X.w) X.A (.compLoop (.ListComp elt [#[a4,iter,cs,0]] scope pos) 0 (.ref it) (.ref s2.heap.objs.size) (compEnvC scope (cellsFrom (s3.heap.objs.size+1) scope.names cl) s3.heap.objs.size X.env))
   (compPost (model X.prog X.w) X.A X.a5 use R (.ref s2.heap.objs.size) s3.heap.objs.size) { s3 with heap:=hX }:=by
  refine Az (λ n s'=>∃ i σ' H' ys,Inv (fS X scope cl N aF pins s3 l λ _ _=>False) [] σ' H' s'/\ff i s'.heap/\(∀ b∈aF,H' b=.n)/\W i n σ' H' ys) ?_ m0 #[0,_,l,[],lB,nc,λ b d=>?_,aY]
  ·rintro n s5 ⟨i,σ5,t,ys,i1,nd,m5,mZ⟩;obtain ⟨C8,way⟩:=turn i n σ5 t ys mZ;rcases way with ⟨stop,lM⟩|⟨go,fw,mO,lF,step⟩
   ·refine o9 bf (aU (T.done (fS X scope cl N aF pins s3 l λ _ _=>False) Y Y Y Y af i [] s5 σ5 t _ i1 (stat m5) nd stop) ?_);rintro r S ⟨gy,G⟩;subst gy;obtain ⟨m,ao,_⟩:=G.loc;have rV:=f.nh (bx _) G.free;have od:Inv X pins σ t S:=?_
    ·exact fin s2.heap.objs.size _ t S m _ od rV ao lM
    have low:∀ b o,s3.heap.get? b=some o->b≠s3.heap.objs.size:=λ b o q=>cc (bu q)
    have same:∀ b,b≠s3.heap.objs.size->S.heap.get? b=S.heap.get? b:=λ b d=>rfl
    have B:=G.base;refine f.kT (s':=S) (H':=t) (ch:=aF) G.os #[λ b o q gz U aa=>?_,λ b o q gz U aa=>?_,B.free,λ b o q aa=>?_,B.ha,B.gH,B.g_] (λ a o q=>?_) G.bare (λ b d=>#[(f2 b d).2.2.2.1,(f2 b d).2.1,(f2 b d).2.2.2.2.1,(f2 b d).2.2.2.2.2])
    ·exact (same b (low b o q)).trans (B.keep b o q gz U aa)
    ·obtain ⟨cu,z⟩:=B.slot b o q gz U aa;exact #[cu,(same b (low b o q)).trans z]
    ·obtain ⟨cZ,z⟩:=B.there b o q aa;exact #[cZ,(same b (low b o q)).trans z]
    ·have mV:∀ c u,t c=some u->c≠s3.heap.objs.size:=λ c u z y=>by
      have:=G.free;rw [y] at z;rw [show t s3.heap.objs.size=.n from this] at z;cases z
     refine (G.aK a o q).ij (λ c u sC z=>(same c ?_).trans z) (λ _ z=>z) λ _ _ z=>z
     rcases sC with fx|fx
     ·rw [fx];exact mV a o q
     ·exact mV c _ fx
   ·refine o9 bf (aU (T.item (fS X scope cl N aF pins s3 l λ _ _=>False) Y Y Y Y af i [] s5 σ5 t _ i1 (stat m5) nd go) ?_);rintro r S ⟨u,gy,lD⟩;subst gy;refine o9 bf (aU lD ?_);rintro _ hD ⟨x,fa,od,mX,sg,jT,sv⟩;have si:=od.pinned (stat sv) (T.obj _ _ jT);refine o9 bf (aU (gd aF pins s3 l _ hD σ5 fa x u _ si mX (step x fa sg)) ?_);rintro _ i6 ⟨σ8,mI,oe,sa⟩;refine o9 bf (aU (aG aF pins s3 l _ i6 σ8 mI _ oe sa) ?_);rintro k gZ ⟨mJ,mL,hY⟩;have fin:∀ {s':Shared} {σ':St} {H':aD} {g9:bh},Inv (fS X scope cl N aF pins s3 l λ _ _=>False) ([]++pA aF hD.heap) σ' H' s'->mO σ' H' g9 ->
      ∃ gY,gY<n/\∃ i σ' H' ys,Inv (fS X scope cl N aF pins s3 l λ _ _=>False) [] σ' H' s'/\ff i s'.heap/\(∀ b∈aF,H' b=.n)/\W i gY σ' H' ys:=λ {s' σ' H' g9} jF r9=>by
     obtain ⟨gY,hm,wv⟩:=lF σ' H' g9 r9;refine #[gY,hm,i+1,σ',H',g9,jF.rn,T.keep _ _ _ jT λ b d o q=>(jF.pin (b,o) (fq _ (fq _ (n3 d q)))).1,λ b d=>?_,wv];obtain ⟨o,q,_⟩:=T.obj _ _ jT b d;exact (jF.pin (b,o) (fq _ (fq _ (n3 d q)))).2.1
    cases k with
    | false =>
     rw [if_neg dC] at hY ⊢;exact fin mL hY.2
    | true =>
     rw [if_pos rfl] at hY ⊢;refine o9 bf (aU (he aF pins s3 l _ gZ σ8 mJ _ mL hY) ?_);rintro y ky ⟨jM,ob,rI,sf,sy,sb⟩;refine o9 bf (aU (ue _ ky σ8 ob (.ref s2.heap.objs.size) [jM] _ [y] (λ _ i0=>mO σ8 i0 (ys++[jM])) rI Y (.cons sf .nil) #[_,ys,jM,Y,Y,sy,fw,sb]) ?_);rintro _ sB ⟨_,i0,rJ,_,sd⟩;exact fin rJ sd
  ·rw [<-rS,bC]
   ·exact (f2 b d).1
   ·obtain ⟨o,gw,_⟩:=T.obj 0 _ iF b d;exact cc (bu gw)
 have goal:codeAny (model X.prog X.w) X.A (.compStart (.ListComp elt [#[a4,iter,cs,0]] scope pos) 0 (.ref it) (.ref s2.heap.objs.size) (compEnvC scope (cellsFrom (s3.heap.objs.size+1) scope.names cl) s3.heap.objs.size X.env))
   (compPost (model X.prog X.w) X.A X.a5 use R (.ref s2.heap.objs.size) s3.heap.objs.size) { s3 with heap:=hX } :=
  z5 loop (T.self _ 0 _ _ _ nc loop)
 subst d6;exact goal
theorem Up
  (C:wu X scope cl N js) (af:X.warm=.t) (ar:gW X a4 iter n)
  (j:∀ aF pins s H,hU (fS X scope cl N aF pins s H λ Z Z=>False) a4 g)
  (aG:∀ aF pins s H,kD (fS X scope cl N aF pins s H λ Z Z=>False) cs cg)
  (he:∀ aF pins s H,bw (fS X scope cl N aF pins s H λ Z Z=>False) elt bg)
  (av:∀ x,foldedSetIterable iter X.env x=pure x:=by intro _;rfl):bw X (.ListComp elt [#[a4,iter,cs,0]] scope pos) (jY js n g cg bg):=by
 intro pins s σ H Q I h;rw [eval_ListComp];refine HV C af ar j aG he av I h λ D p H' s' m r a f ao k=>#[m,ao,λ h' l=>#[.ref D,H',?_,Y,k]]
 obtain ⟨f0,f1,q,c,f4,d⟩:=f;exact a.turned (λ b o i e=>(l.2 b i).trans e) f0 f1 c f4 d
theorem jn.c (C:jn X scope cl N js):wu X scope cl N js:=#[C.l4,λ x ae=>absurd Y (C.k8 _ (q8.mp ae)),C.kind,C.names,C.sub,λ x h=>.inl (C.has x h),C.len,λ i j x U aa=>let ⟨a,b,c⟩:=C.seen i j x U aa;⟨a,λ ae=>absurd rfl (C.k8 _ (q8.mp ae)),b,c⟩]
theorem q4 (a:∀ y∈scope.names,y.2≠.cell):fS X scope cl N aF pins s H E=cC X scope cl N aF pins s H E:=by
 have b:=List.eq_nil_iff_forall_not_mem.mpr λ x ae=>a _ (q8.mp ae) rfl
 have c:cellsFrom (s.heap.objs.size+1) scope.names cl=cl:=by
  rw [ly,show cellsFrom (s.heap.objs.size+1) scope.names []=[] from List.eq_nil_iff_forall_not_mem.mpr λ p ah=>a _ (ux ah) rfl];rfl
 unfold fS;rw [b,c];rfl
theorem Sg
  (C:jn X scope cl N js) (af:X.warm=.t) (ar:gW X a4 iter b)
  (a:∀ aF pins s H,hU (cC X scope cl N aF pins s H λ Z Z=>False) a4 g)
  (aG:∀ aF pins s H,kD (cC X scope cl N aF pins s H λ Z Z=>False) cs cg)
  (he:∀ aF pins s H,bw (cC X scope cl N aF pins s H λ Z Z=>False) elt bg)
  (av:∀ x,foldedSetIterable iter X.env x=pure x:=by intro _;rfl):bw X (.ListComp elt [#[a4,iter,cs,0]] scope pos) (jY js b g cg bg) :=
 Up C.c af ar (λ aF pins s H=>by rw [q4 C.k8];exact a aF pins s H) (λ aF pins s H=>by rw [q4 C.k8];exact aG aF pins s H) (λ aF pins s H=>by rw [q4 C.k8];exact he aF pins s H) av
end bj
namespace i3
open PySem PyProof.Rows
theorem wJ (t):¬ ((Value.ref t==Value.none)=.t):=dC
section
variable {prog:Program} {w:World} {A:Around} {E:c0} {s:Shared}
theorem pull (a:s.heap.IsTupleIter j t k) (b:s.heap.IsTuple t vs) (c:vs[k]?=some x)
  (q:∀ g,g.IsTupleIter j t (k+1)->Heap.SameBut j s.heap g->Q x { s with heap:=g }):wpAny (model prog w) A (Builtin.SmallTypes.nextOf (.ref j)) Q E s:=by
 obtain ⟨l,e,f,d⟩:=id a;obtain ⟨m,gt,_,i,h⟩:=b;refine ax (kZ a.typeIs qG (jk qG a.typeIs zD ?_ (zE _)));show wpAny _ _ (field (.ref j) 0>>=_) _ _ s;refine ax (cV e d Y ?_);show wpAny _ _ (ite ((Value.ref t==Value.none)=.t) _ _) _ _ s;rw [if_neg (wJ t)];refine ax (cV e d Y ?_);refine ax (fO gt h ?_);simp only [gQ,c];refine ax (kX e d .zs (a_ #[x,Y,a_ (q _ #[_,hN _ e (kW (iu d _)),(Obj.cls_mapFields ..).trans f,?_] (pj ..))]));rw [iu d];simp [rawInt]
theorem UH (hd:eP.In A s.heap) (a:s.heap.IsTupleIter j t k) (b:s.heap.IsTuple t vs) (c:vs[k]?=.n)
  (q:∀ g e,Heap.ExtBut j s.heap g->(∃ o,g.get? e=some o/\o.cls=.type "StopIteration")->E (.ref e) { s with heap:=g }):wpAny (model prog w) A (Builtin.SmallTypes.nextOf (.ref j)) Q E s :=
 eP.Hy hd a b c q
def dv (p:Bool) (h:Heap) (j t:Addr) (k:Nat):Prop:=bif p then h.IsListIter j t k else h.IsTupleIter j t k
def ec (p:Bool) (h:Heap) (t:Addr) (xs:ee):Prop:=bif p then h.IsList t xs else h.IsTuple t xs
theorem dv.extBut (a:dv p h j t k) (e:Heap.ExtBut z h g) (n:j≠z):dv p g j t k:=by
 cases p
 ·exact Heap.IsTupleIter.extBut a e n
 ·exact Heap.IsListIter.extBut a e n
theorem ec.extBut (a:ec p h t xs) (e:Heap.ExtBut z h g) (n:t≠z):ec p g t xs:=by
 cases p
 ·exact Heap.IsTuple.extBut a e n
 ·exact Heap.IsList.extBut a e n
theorem dv.up (a:dv p h j t k) (u:∀ o,h.get? j=some o->g.get? j=some o):dv p g j t k:=by
 cases p
 ·obtain ⟨o,e,r⟩:=a;exact #[o,u o e,r]
 ·obtain ⟨o,e,r⟩:=a;exact #[o,u o e,r]
theorem dv.hd (a:dv p h j t k) (hd:eP.In A h) (u:Heap.ExtBut j h g):eP.In A g:=by
 cases p
 ·obtain ⟨o,e,_,d⟩:=a;exact hd.but e (by rw [d];exact eP.vX) u
 ·obtain ⟨o,e,_,d⟩:=a;exact hd.but e (by rw [d];exact eP.vX) u
theorem zA (a:dv p s.heap j t k) (b:ec p s.heap t vs) (c:vs[k]?=some x)
  (q:∀ g,dv p g j t (k+1)->Heap.SameBut j s.heap g->Q x { s with heap:=g }):wpAny (model prog w) A (Builtin.SmallTypes.nextOf (.ref j)) Q E s:=by
 cases p
 ·exact pull a b c q
 ·exact wpAny_nextOf_list_item a b c q
theorem Ic (hd:eP.In A s.heap) (a:dv p s.heap j t k) (b:ec p s.heap t vs) (c:vs[k]?=.n)
  (q:∀ g e,Heap.ExtBut j s.heap g->(∃ o,g.get? e=some o/\o.cls=.type "StopIteration")->E (.ref e) { s with heap:=g }):wpAny (model prog w) A (Builtin.SmallTypes.nextOf (.ref j)) Q E s:=by
 cases p
 ·exact eP.Hy hd a b c q
 ·exact eP.H7 hd a b c q
theorem A8 {Q:c0} (D:ZipApart z TI cP ct c5 t1 r)
  (f:IsZip s.heap z TI cP .none) (ye:IsPair s.heap TI (.ref ct) (.ref c5)) (yf:IsPair s.heap cP a b)
  (P:dv dx s.heap ct t1 k) (S:dv dS s.heap c5 r k) (p7:ec dx s.heap t1 xs) (mS:ec dS s.heap r ys) (ex:xs[k]?=some x) (N:ys[k]?=some y)
  (q:∀ g,IsZip g z TI cP (rawInt s.heap.objs.size)->IsPair g cP x y->dv dx g ct t1 (k+1)->dv dS g c5 r (k+1)->IsPair g s.heap.objs.size x y ->
   (∀ c o,c≠z->c≠cP->c≠ct->c≠c5->s.heap.get? c=some o->g.get? c=some o)->Q (.ref s.heap.objs.size) { s with heap:=g }) :
  wpAny (model prog w) A (Builtin.«zip.__next__» ⟨[.ref z],[]⟩) (λ fin s'=>∃ v,fin=.done (.ret v)/\Q v s') E s:=by
 show wpAny _ _ (field (.ref z) 2>>=_) _ _ _;refine ax (cV f Y Y ?_);refine ax (cV f Y Y (ax (fO ye Y ?_)));refine ax ?_;refine ax (cV f Y Y (a_ ?_));refine ax (ny (ax (cV f Y Y (ax (j7 f .zs λ g1 u s1=>?_)))));replace u:IsZip g1 z TI cP .ellipsis:=u;refine ax ?_;refine ax (ax (k_ ?_));refine ax (zA (P.extBut s1.extBut D.i1z) (p7.extBut s1.extBut D.l1z) ex λ g2 R s2=>a_ ?_);have I:=s2.extBut _ _ D.TOi1 (s1.extBut _ _ D.TOz yf);refine ax (fO I Y (ax (z6 I λ g3 t s3=>?_)));replace t:IsPair g3 cP x b:=t;refine ax (la (a_ (ax (ax (k_ ?_)))));have T:=((S.extBut s1.extBut D.i2z).extBut s2.extBut D.i12.symm).extBut s3.extBut D.TOi2.symm;have yK:=((mS.extBut s1.extBut D.l2z).extBut s2.extBut D.l2i1).extBut s3.extBut D.l2TO;refine ax (zA T yK N λ rY aV s4=>a_ ?_);have aC:=s4.extBut _ _ D.TOi2 t;refine ax (fO aC Y (ax (z6 aC λ d j s5=>?_)));replace j:IsPair d cP x y:=j;refine ax (la (a_ (a_ (ax (fO j Y (ax (wpAny_newTuple ?_)))))));have fe:d.objs.size=s.heap.objs.size:=by rw [s5.1,s4.1,s3.1,s2.1,s1.1]
 have M:=s5.extBut _ _ D.TOz.symm (s4.extBut _ _ D.i2z.symm (s3.extBut _ _ D.TOz.symm (s2.extBut _ _ D.i1z.symm u)));have O6:∀ c o,c≠z->c≠cP->c≠ct->c≠c5->s.heap.get? c=some o->d.get? c=some o:=λ c o e h n p aR =>
  s5.extBut _ _ h (s4.extBut _ _ p (s3.extBut _ _ h (s2.extBut _ _ n (s1.extBut _ _ e aR))))
 have X:=((R.extBut s3.extBut D.TOi1.symm).extBut s4.extBut D.i12).extBut s5.extBut D.TOi1.symm;have Z:=aV.extBut s5.extBut D.TOi2.symm;have L:=bu M;refine ax ?_;have Pa:IsZip (d.push { cls:=.type "tuple", data:=.seq [x,y].toArray }) z TI cP .ellipsis:=a9 _ M;refine ax (j7 Pa .zs λ O B G=>?_);replace B:IsZip O z TI cP (rawInt d.objs.size):=B;refine j7 B .zs λ m l H=>?_
 replace l:IsZip m z TI cP (rawInt d.objs.size):=l;have i:∀ c o,c≠z->d.get? c=some o->m.get? c=some o:=λ c o e aR=>H.extBut _ _ e (G.extBut _ _ e (a9 _ aR))
 have C:=H.extBut _ _ (hP L) (G.extBut _ _ (hP L) (cJ _ Y));rw [fe] at l C;refine a_ #[_,Y,?_];rw [fe];refine q m l (i _ _ D.TOz j) ?_ ?_ C λ c o e h n p aR=>i c o e (O6 c o e h n p aR)
 ·exact X.up λ o=>i _ o D.i1z
 ·exact Z.up λ o=>i _ o D.i2z
theorem A9 (hd:eP.In A s.heap) (D:ZipApart z TI cP ct c5 t1 t)
  (f:IsZip s.heap z TI cP .none) (P:IsPair s.heap TI (.ref ct) (.ref c5)) (R:IsPair s.heap cP a b)
  (j:dv dx s.heap ct t1 k) (I:dv dS s.heap c5 t k) (r:ec dx s.heap t1 xs) (L:ec dS s.heap t ys) (B:xs[k]?=.n\/ys[k]?=.n)
  (q:∀ g e,(∀ c o,c≠z->c≠cP->c≠ct->c≠c5->s.heap.get? c=some o->g.get? c=some o)->(∃ o,g.get? e=some o/\o.cls=.type "StopIteration")->E (.ref e) { s with heap:=g }) :
  wpAny (model prog w) A (Builtin.«zip.__next__» ⟨[.ref z],[]⟩) Q E s:=by
 show wpAny _ _ (field (.ref z) 2>>=_) _ _ _;refine ax (cV f Y Y ?_);refine ax (cV f Y Y (ax (fO P Y ?_)));refine ax ?_;refine ax (cV f Y Y (a_ ?_));refine ax (ny (ax (cV f Y Y (ax (j7 f .zs λ g1 i s1=>?_)))));replace i:IsZip g1 z TI cP .ellipsis:=i;refine ax ?_;refine ax (ax (k_ ?_));have p:=hd.but f (λ vs e=>by injection e with e;subst e;exact λ z=>nomatch z) s1.extBut;cases ex:xs[k]? with
 | none =>
  refine ax (Ic p (j.extBut s1.extBut D.i1z) (r.extBut s1.extBut D.l1z) ex ?_);rintro g2 e s2 ⟨a6,d,coe⟩;have u:=s2 _ _ D.i1z.symm i;have m:e≠z:=λ y=>by
   subst y;rw [u] at d;cases d;simp at coe
  exact j7 u .zs λ g3 Z s3=>q g3 e (λ c o h Z l Z y=>s3.extBut _ _ h (s2 _ _ l (s1.extBut _ _ h y))) #[a6,s3.extBut _ _ m d,coe]
 | some x =>
  have C:=B.resolve_left (by rw [ex];exact λ y=>nomatch y);refine ax (zA (j.extBut s1.extBut D.i1z) (r.extBut s1.extBut D.l1z) ex λ g2 T s2=>a_ ?_);have n:=s2.extBut _ _ D.TOi1 (s1.extBut _ _ D.TOz R);refine ax (fO n Y (ax (z6 n λ g3 aV s3=>?_)));refine ax (la (a_ (ax (ax (k_ ?_)))));have aC:=((I.extBut s1.extBut D.i2z).extBut s2.extBut D.i12.symm).extBut s3.extBut D.TOi2.symm;have M:=((L.extBut s1.extBut D.l2z).extBut s2.extBut D.l2i1).extBut s3.extBut D.l2TO;have hd2:=(j.extBut s1.extBut D.i1z).hd p s2.extBut;have H:=hd2.but n (λ vs e=>nomatch e) s3.extBut;refine ax (Ic H aC M C ?_);rintro S e s4 ⟨a6,d,coe⟩;have v:=s4 _ _ D.i2z.symm (s3.extBut _ _ D.TOz.symm (s2.extBut _ _ D.i1z.symm i));have m:e≠z:=λ y=>by
   subst y;rw [v] at d;cases d;simp at coe
  exact j7 v .zs λ G Z s5=>q G e (λ c o h N l O y=>s5.extBut _ _ h (s4 _ _ O (s3.extBut _ _ N (s2.extBut _ _ l (s1.extBut _ _ h y))))) #[a6,s5.extBut _ _ m d,coe]
theorem next_item (D:ZipApart z TI cP ct c5 t1 d)
  (e:IsZip s.heap z TI cP .none) (v:IsPair s.heap TI (.ref ct) (.ref c5)) (B:IsPair s.heap cP a b)
  (p:dv dx s.heap ct t1 k) (r:dv dS s.heap c5 d k) (t:ec dx s.heap t1 xs) (u:ec dS s.heap d ys) (ex:xs[k]?=some x) (n:ys[k]?=some y)
  (q:∀ g,IsZip g z TI cP (rawInt s.heap.objs.size)->IsPair g cP x y->dv dx g ct t1 (k+1)->dv dS g c5 d (k+1)->IsPair g s.heap.objs.size x y ->
   (∀ c o,c≠z->c≠cP->c≠ct->c≠c5->s.heap.get? c=some o->g.get? c=some o)->Q (some (.ref s.heap.objs.size)) { s with heap:=g }):wpAny (model prog w) A (pyNext (.ref z)) Q E s:=by
 have ty:s.TypeIs (.ref z) "zip" := #[_,e,Y]
 refine ax (kY (kZ ty nP (jk nP ty v5 ?_ (v7 _))));exact A8 D e v B p r t u ex n λ g f h i j l m=>a_ (q g f h i j l m)
theorem Bm (hd:eP.In A s.heap) (D:ZipApart z TI cP ct c5 t1 d)
  (f:IsZip s.heap z TI cP .none) (p:IsPair s.heap TI (.ref ct) (.ref c5)) (r:IsPair s.heap cP a b)
  (j:dv dx s.heap ct t1 k) (l:dv dS s.heap c5 d k) (m:ec dx s.heap t1 xs) (n:ec dS s.heap d ys) (h:xs[k]?=.n\/ys[k]?=.n)
  (q:∀ g,(∀ c o,c≠z->c≠cP->c≠ct->c≠c5->s.heap.get? c=some o->g.get? c=some o)->Q .n { s with heap:=g }):wpAny (model prog w) A (pyNext (.ref z)) Q E s:=by
 have ty:s.TypeIs (.ref z) "zip" := #[_,f,Y]
 refine ax (kY (kZ ty nP (jk nP ty v5 ?_ (v7 _))));refine A9 hd D f p r j l m n h ?_;rintro g e up ⟨a6,i,coe⟩
 exact ax (qF #[a6,i,coe] tr (a_ (q _ up)))
end
noncomputable abbrev yL (p:Bool) (t:Addr):Obj:={ cls:=.type (bif p then "list_iterator" else "tuple_iterator"),data:=.fields [.ref t,.int 0 0].toArray }
theorem ec.push (a:ec p h t xs) (o):ec p (h.push o) t xs:=by
 cases p
 ·exact v8 a o
 ·exact Heap.IsList.push a o
theorem F9 (h:ec p s.heap t xs) (q:Q (.ref s.heap.objs.size) { s with heap:=s.heap.push (yL p t) }):wpAny (model prog w) A (pyIter (.ref t)) Q E s:=by
 cases p
 ·exact nA h q
 ·exact wpAny_pyIter_list h q
noncomputable abbrev sU (p:Bool) (h:Heap) (t1:Addr):Heap:=h.push (yL p t1)
noncomputable abbrev vf (p q:Bool) (h:Heap) (t1 a:Addr):Heap:=(sU p h t1).push (yL q a)
noncomputable abbrev lW (p q:Bool) (h:Heap) (t1 a:Addr):Heap:=(vf p q h t1 a).push { cls:=.type "tuple", data:=.seq [.ref h.objs.size,.ref (sU p h t1).objs.size].toArray }
noncomputable abbrev lX (p q:Bool) (h:Heap) (t1 a:Addr):Heap:=(lW p q h t1 a).push { cls:=.type "tuple", data:=.seq [.none,.none].toArray }
noncomputable abbrev jS (p q:Bool) (h:Heap) (t1 a:Addr):Heap:=(lX p q h t1 a).push { cls:=.type "zip", data:=.fields [.none,.bool .f,.bool .f,.ref (vf p q h t1 a).objs.size,.ref (lW p q h t1 a).objs.size].toArray }
theorem Bk (p q) (t1 a) (xs ys):Meets (Builtin.«zip.__new__» ⟨[.type "zip", .ref t1,.ref a],[]⟩) (λ Z R s=>ec p s.heap t1 xs/\ec q s.heap a ys/\R (.ok (.ret (.ref (lX p q s.heap t1 a).objs.size))) { s with heap:=jS p q s.heap t1 a }) :=
 .of_wp λ prog w A R s h=>by
  obtain ⟨e,d,dd,tt,f⟩:=s;obtain ⟨a1,a2,h⟩:=h;have sub:=sub_zip;have b:=a1;have c:ec q (Shared.heap ⟨sU p e t1,d,dd,tt,f⟩) a ys:=ec.push a2 _
  wp_walk using F9 b,F9 c
  exact #[_,Y,h]
section
variable {prog:Program} {w:World} {A:Around} {E:c0} {s:Shared}
theorem make (a1:ec p s.heap t1 xs) (a2:ec q s.heap a ys)
  (k:∀ g,IsZip g (s.heap.objs.size+4) (s.heap.objs.size+2) (s.heap.objs.size+3) .none->IsPair g (s.heap.objs.size+2) (.ref s.heap.objs.size) (.ref (s.heap.objs.size+1))->IsPair g (s.heap.objs.size+3) .none .none ->
   dv p g s.heap.objs.size t1 0->dv q g (s.heap.objs.size+1) a 0->(∀ c o,s.heap.get? c=some o->g.get? c=some o)->Q (.ref (s.heap.objs.size+4)) { s with heap:=g }) :
  wpAny (model prog w) A (call (.type "zip") [.ref t1,.ref a]) Q E s:=by
 refine callType_new F.called_zip .aB (F.typeCall_zip_2 _ _) (F.newCall_zip_2 _ _) (λ obj=>F.args_object_init_3 obj _ _) F.entry_zip_new (Bk p q t1 a xs ys) #[a1,a2,?_];have b:(sU p s.heap t1).objs.size=s.heap.objs.size+1:=eF ..;have d:(vf p q s.heap t1 a).objs.size=s.heap.objs.size+2:=by rw [eF,b]
 have e:(lW p q s.heap t1 a).objs.size=s.heap.objs.size+3:=by rw [eF,d]
 have h:(lX p q s.heap t1 a).objs.size=s.heap.objs.size+4:=by rw [eF,e]
 have f:(jS p q s.heap t1 a).get? (lX p q s.heap t1 a).objs.size=some _:=cJ _ rfl;have p9:(jS p q s.heap t1 a).get? (lW p q s.heap t1 a).objs.size=some _:=a9 _ (cJ _ Y);have lL:(jS p q s.heap t1 a).get? (vf p q s.heap t1 a).objs.size=some _:=a9 _ (a9 _ (cJ _ Y));have dS:(jS p q s.heap t1 a).get? (sU p s.heap t1).objs.size=some _:=a9 _ (a9 _ (a9 _ (cJ _ Y)));have dx:(jS p q s.heap t1 a).get? s.heap.objs.size=some _:=a9 _ (a9 _ (a9 _ (a9 _ (cJ _ Y))));rw [d,e,h] at f;rw [b,d] at lL;rw [e] at p9;rw [b] at dS;rw [h];exact #[#[_,f,Y],k _ f lL p9 (by cases p<;>exact #[_,dx,Y,Y]) (by cases q<;>exact #[_,dS,Y,Y]) λ c o y=>a9 _ (a9 _ (a9 _ (a9 _ (a9 _ y))))]
end
end i3
namespace bj
open PySem PySem.Spec PyProof.Rows
noncomputable def lq:Expr->Bool
 | .Tuple _ _ _=>.t
 | _=>.f
theorem Inv.Bx {σ:St} {L:List Addr} {p:Addr} (I:Inv X pins σ H s) (k:∀ b o,b∉L->s.heap.get? b=some o->h'.get? b=some o)
  (hf:∀ b∈L,je X pins H b) (ah:s.heap.objs.size<=p) (new:eh X.prog X.w (upd H p (.tup xs)) h' p (.tup xs)):Inv X pins σ (upd H p (.tup xs)) { s with heap:=h',toks:=t' }:=by
 have ao:=I.aK.fresh ah;have ne:∀ b o,s.heap.get? b=some o->b≠p:=λ b o e=>cc (ey (bu e) ah)
 have d:∀ b u,H b=some u->b∉L:=λ b u e z=>by rw [(hf b z).1] at e;cases e
 refine I.step (λ b a=>?_) (λ b o Z Z af e Z=>k b o af e) (λ b o Z Z af e Z=>#[o.slots,k b o af e]) (λ b o Z e n=>by rw [bC (ne b o e)];exact n) (λ b o af e=>#[o,k b o af e])
  (λ b ys e=>by rw [bC (cq e ao)];exact e) (λ b o u e=>by rw [bC (cq e ao)];exact e) (λ b ai e=>#[#[],by rw [bC (cq e ao),e];simp]) (λ m hm=>?_) (λ b u e=>?_) I.bare
 ·obtain ⟨_,f1,_,g,f4,h⟩:=hf b a;exact #[g,f1,f4,h]
 ·obtain ⟨o,aj,f,aA,r⟩:=hm;exact #[o,aj,f,k _ o (λ z=>(hf _ z).2.1 Y) aA,r]
 ·by_cases a:b=p
  ·subst a;rw [bN] at e;cases e;exact new
  ·rw [bC a] at e;refine (I.aK b u e).ij (λ c v af q=>k c v ?_ q) (λ c q=>by rw [bC (cq q ao)];exact q) λ c ys q=>by rw [bC (cq q ao)];exact q
   rcases af with z|z
   ·rw [z];exact d b u e
   ·exact d c _ z
theorem Inv.AN {σ:St} {L:List Addr} (I:Inv X pins σ H s) (k:∀ b o,b∉L->s.heap.get? b=some o->h'.get? b=some o)
  (hf:∀ b∈L,je X pins H b):Inv X pins σ H { s with heap:=h',toks:=t' }:=by
 have a:∀ b u,H b=some u->b∉L:=λ b u e z=>by rw [(hf b z).1] at e;cases e
 refine I.step (λ b h=>?_) (λ b o Z Z af e Z=>k b o af e) (λ b o Z Z af e Z=>#[o.slots,k b o af e]) (λ Z Z Z Z n=>n) (λ b o af e=>#[o,k b o af e]) (λ Z Z e=>e) (λ Z Z Z e=>e) (λ b ai e=>#[#[],by rw [e];simp])
  (λ m hm=>?_) (λ b u e=>?_) I.bare
 ·obtain ⟨_,f1,_,f,f4,g⟩:=hf b h;exact #[f,f1,f4,g]
 ·obtain ⟨o,aj,d,aA,r⟩:=hm;exact #[o,aj,d,k _ o (λ z=>(hf _ z).2.1 Y) aA,r]
 ·refine (I.aK b u e).ij (λ c v af q=>k c v ?_ q) (λ Z q=>q) λ Z Z q=>q
  rcases af with z|z
  ·rw [z];exact a b u e
  ·exact a c _ z
def hF (p:Bool) (K:aP) (H:aD) (a:Addr) (xs:bh):Prop:=bif p then aS K H a xs else aX K H a xs
theorem Inv.qu {σ:St} (I:Inv X pins σ H s) (h:hF p X.K H a xs):∃ b,Vals xs b/\i3.ec p s.heap a b.toArray:=by
 cases p
 ·obtain ⟨b,r,e,_⟩:=I.tuple h;exact #[b,r,e]
 ·obtain ⟨b,r,e,_⟩:=I.list h;exact #[b,r,e.isList]
theorem Inv.Ho {σ:St} (I:Inv X pins σ H s) (h:hF p X.K H a xs) (h':hF p X.K H a ys):xs=ys:=by
 cases p
 ·exact I.uj h h'
 ·exact I.GZ h h'
theorem ec.lt (e:i3.ec p h a xs):a<h.objs.size:=by
 cases p<;>obtain ⟨o,e,_⟩:=e<;>exact bu e
theorem dv.bD (e:i3.dv p h j t k):∃ o,h.get? j=some o/\∀ v,o.data≠.cell v:=by
 cases p<;>obtain ⟨o,e,_,d⟩:=e<;>exact #[o,e,λ v q=>by rw [d] at q;cases q]
noncomputable def oB (p q:Bool) (K:aP) (a b:Addr):ht :=
 #[λ i H=>∃ xs ys x y,hF p K H a xs/\hF q K H b ys/\xs[i]?=some x/\ys[i]?=some y,
 λ i H v H'=>∃ n,H n=.n/\v=.ref n/\∃ x y,H'=upd H n (.tup [x,y])/\∀ xs ys,hF p K H a xs->hF q K H b ys->xs[i]?=some x/\ys[i]?=some y,
 λ i H=>∃ xs ys,hF p K H a xs/\hF q K H b ys/\(xs.length<=i\/ys.length<=i)]
theorem Wl {K:aP} (sO:lq a4=.t) {TI cP:Addr} (D:ZipApart z TI cP ct c5 a b) :
  Turn P w K Cd a4 (oB p q K a b) [z,cP,ct,c5,TI] z (λ i h=>IsZip h z TI cP .none/\IsPair h TI (.ref ct) (.ref c5)/\(∃ u v,IsPair h cP u v)/\i3.dv p h ct a i/\i3.dv q h c5 b i) where
 mem:=dn
 obj:=λ i h st c af=>by
  obtain ⟨U,aa,⟨u,v,f⟩,j,l⟩:=st;have OD:∀ {o:Obj} {vs:ee},o.data=.fields vs->∀ v,o.data≠.cell v:=λ e v q=>by rw [e] at q;cases q
  have S:∀ {o:Obj} {vs:ee} {n:Nat},o.data=.seq vs n->∀ v,o.data≠.cell v:=λ e v q=>by rw [e] at q;cases q
  simp only [bt,da,dc] at af;rcases af with rfl|rfl|rfl|rfl|rfl
  ·exact #[_,U,OD Y]
  ·exact #[_,f,S Y]
  ·exact dv.bD j
  ·exact dv.bD l
  ·exact #[_,aa,S Y]
 keep:=λ i h h' st k=>by
  obtain ⟨U,aa,⟨u,v,f⟩,j,l⟩:=st;exact #[k _ .zs _ U,k _ .zs _ aa,#[u,v,k _ .zs _ f],j.up (k _ .zs),l.up (k _ .zs)]
 item:=by
  intro X B hw A yC af i pins s σ H E I hf st G;subst B hw A;obtain ⟨U,aa,⟨u,v,f⟩,j,l⟩:=st;obtain ⟨xs,ys,x,y,r,t,ae,R⟩:=G;obtain ⟨sT,N,L⟩:=I.qu r;obtain ⟨Dv,O,M⟩:=I.qu t;obtain ⟨x_,yn,sY⟩:=N.get ae;obtain ⟨ya,yo,yS⟩:=O.get R;refine i3.next_item D U aa f j l L M (by simpa using yn) (by simpa using yo) λ g aV Z rP mP rQ Q=>?_
  refine #[_,Y,?_];have y5:=bu U;cases a4 with
  | Tuple aj fb pp =>
   refine wpAny_letOwnedTupleGo_zip aV λ rX om m=>?_
   have new:=m.extBut _ _ (hP y5) rQ;have T:Inv X pins σ (upd H s.heap.objs.size (.tup [x,y])) { s with heap:=rX }:=by
    refine I.Bx (λ c o d e=>?_) hf (bx _) #[by show 2<=sizeLine;decide,[x_,ya],.cons sY (.cons yS .nil),#[_,new,Y,#[0,Y],Y]];simp only [bt,da,dc,not_or] at d;exact m.extBut c o d.1 (Q c o d.1 d.2.1 d.2.2.1 d.2.2.2.1 e)
   have sx:=m.extBut _ _ D.TIz (Q _ _ D.TIz D.TITO D.TIi1 D.TIi2 aa);refine #[.ref s.heap.objs.size,_,T,Y,#[_,I.fresh,Y,x,y,Y,λ DX g9 fc ed=>#[by rw [I.Ho fc r];exact ae,by rw [I.Ho ed t];exact R]],#[om,sx,#[_,_,m.extBut _ _ D.TOz Z],rP.extBut m.extBut D.i1z,mP.extBut m.extBut D.i2z],λ c C=>?_];obtain ⟨o,gw,_⟩:∃ o,s.heap.get? c=some o/\True:=by
    simp only [bt,da,dc] at C;rcases C with rfl|rfl|rfl|rfl|rfl
    ·exact #[_,U,trivial]
    ·exact #[_,f,trivial]
    ·obtain ⟨Cw,rY,_⟩:=dv.bD j;exact #[_,rY,trivial]
    ·obtain ⟨aat,rZ,_⟩:=dv.bD l;exact #[_,rZ,trivial]
    ·exact #[_,aa,trivial]
   rw [bC (cc (bu gw))];exact (hf c C).1
  | _=>exact absurd sO dC
 done:=by
  intro X B hw A yC af i pins s σ H E I hf st G;subst B hw A;obtain ⟨U,aa,⟨u,v,f⟩,j,l⟩:=st;obtain ⟨xs,ys,r,t,aC⟩:=G;obtain ⟨sT,N,L⟩:=I.qu r;obtain ⟨Dv,O,M⟩:=I.qu t;have p1:=N.length;have jG:=O.length;refine i3.Bm (I.fY af) D U aa f j l L M ?_ λ g up=>#[Y,?_]
  ·rcases aC with aC|aC
   ·exact .inl (by simp;omega)
   ·exact .inr (by simp;omega)
  ·refine I.AN (λ c o d e=>?_) hf;simp only [bt,da,dc,not_or] at d;exact up c o d.1 d.2.1 d.2.2.1 d.2.2.2.1 e
 self:=λ _ _ _ _ _ st h=>v9 st.1 h
section
variable {X:aW} {a4:Expr}
theorem apart_new (U:a<n) (aa:b<n):ZipApart (n+4) (n+2) (n+3) n (n+1) a b:=zipApart_new U aa
def zv (p q:Bool) (K:aP) (aN:c2):TI:=λ σ H R=>aN σ H λ vs H1=>∃ a b,vs=[.ref a,.ref b]/\(∃ xs,hF p K H1 a xs)/\(∃ ys,hF q K H1 b ys)/\R (oB p q K a b) H1
theorem RE {σ:St} (I:Inv X pins σ H s) (o:hF dx X.K H a xs) (p:hF n X.K H b ys)
  (k:∀ {z TI cP ct c5:Addr},ZipApart z TI cP ct c5 a b->Turn X.prog X.w X.K X.calm a4 aC [z,cP,ct,c5,TI] z (λ i h=>IsZip h z TI cP .none/\IsPair h TI (.ref ct) (.ref c5)/\(∃ u v,IsPair h cP u v)/\i3.dv dx h ct a i/\i3.dv n h c5 b i)) (q:R aC H) :
  wpAny (model X.prog X.w) X.A (call (.type "zip") [.ref a,.ref b]) (λ v s1=>wpAny (model X.prog X.w) X.A (pyIter v) (uZ X pins σ a4 R) X.a5 s1) X.a5 s:=by
 obtain ⟨B,D,d⟩:=I.qu o;obtain ⟨C,E,e⟩:=I.qu p;have l:=ec.lt d;have m:=ec.lt e;refine i3.make d e λ g f r t x y up=>?_
 refine v9 f ?_;have j:=I.kept (t':=s.toks) up;refine #[_,[s.heap.objs.size+4,s.heap.objs.size+3,s.heap.objs.size,s.heap.objs.size+1,s.heap.objs.size+2],_,_,H,Y,j,k (apart_new l m),#[f,r,#[_,_,t],x,y],λ c af=>?_,q];have big:s.heap.objs.size<=c:=by
  simp only [bt,da,dc] at af;rcases af with rfl|rfl|rfl|rfl|rfl
  ·exact lb _ _
  ·exact lb _ _
  ·exact bx _
  ·exact lb _ _
  ·exact lb _ _
 exact I.nh big (I.aK.fresh big)
theorem F7 (l:lq a4=.t) (k:cy X "zip") (hm:X.mg "zip" = .n) (ak:fE X [d,c] aN) (av:starEach [d,c] X.env=[(.f,eval d X.env),(.f,eval c X.env)]:=by rfl) (f:starEach [c] X.env=[(.f,eval c X.env)]:=by rfl)
  (j:bootBuiltins "zip" = some (.type "zip"):=by decide +kernel):gW X a4 (.Call (.Name "zip" p) [d,c] [] pos) (zv dx g X.K aN):=by
 intro pins s σ H R I h;refine Call_ (mn I k hm j (qI (aU (ak pos pins s σ H _ I h) ?_) (by rw [av,f]) (by rw [f];rfl)));rintro us s1 ⟨vs,H1,i,o,g⟩;obtain ⟨a,b,e,⟨xs,m⟩,⟨ys,n⟩,q⟩:=g;subst e;obtain ⟨u,v,rfl,r,t⟩:=vals2 o;cases r;cases t;exact RE i m n (Wl l) q
end
theorem TP {K:aP} {g:fF} {a7:cS} {D:Ends} (Pv:Nat->St->aD->Prop) (h0:Pv 0 σ H) (j:∀ i σ H,i<=min xs.length ys.length->Pv i σ H->hF p K H a xs/\hF q K H b ys)
  (av:∀ i x y p σ H,xs[i]?=some x->ys[i]?=some y->H p=.n->Pv i σ H->g (.ref p) σ (upd H p (.tup [x,y])) λ σ2 aq=>a7 { D with bf:=Pv (i+1),b9:=Pv (i+1),bl:=D.bf } σ2 aq) (hd:∀ σ H,Pv (min xs.length ys.length) σ H->D.bf σ H) :
  ∃ W:Nat->Nat->St->aD->Prop,(∃ m,W 0 m σ H)/\∀ i m σ H,W i m σ H ->
   ((oB p q K a b).stop i H/\D.bf σ H)\/((oB p q K a b).go i H/\∃ N,(∀ σ' H',N σ' H'->∃ f,f<m/\W (i+1) f σ' H')/\∀ x H',(oB p q K a b).ic i H x H'->g x σ H' λ σ2 aq=>a7 { D with bf:=N,b9:=N,bl:=D.bf } σ2 aq):=by
 refine #[λ i m σ H=>m=min xs.length ys.length-i/\i<=min xs.length ys.length/\Pv i σ H,#[_,Y,ej _,h0],?_];rintro i m σ H ⟨rfl,ar,p⟩;obtain ⟨c,d⟩:=j i σ H ar p;by_cases k:i<min xs.length ys.length
 ·have U:i<xs.length:=by omega
  have aa:i<ys.length:=by omega
  refine .inr #[#[xs,ys,xs[i],ys[i],c,d,by simp [U],by simp [aa]],Pv (i+1),λ σ' H' p'=>#[min xs.length ys.length-(i+1),.au,Y,k,p'],λ v H' o=>?_];obtain ⟨q,l,rfl,x,y,rfl,n⟩:=o;obtain ⟨ex,h⟩:=n xs ys c d;exact av i x y q σ H ex h l p
 ·have e:i=min xs.length ys.length:=by omega
  refine .inl #[#[xs,ys,c,d,.au],hd σ H (e ▸ p)]
noncomputable abbrev oC (K:aP) (a b:Addr):ht:=oB .f .f K a b
abbrev Eh (K:aP) (aN:c2):TI:=zv .f .f K aN
section
variable {X:aW} {a4:Expr}
theorem Q7 (f:lq a4=.t) (d:cy X "zip") (hm:X.mg "zip" = .n) (ak:fE X [b,a] aN) (av:starEach [b,a] X.env=[(.f,eval b X.env),(.f,eval a X.env)]:=by rfl) (e:starEach [a] X.env=[(.f,eval a X.env)]:=by rfl)
  (c:bootBuiltins "zip" = some (.type "zip"):=by decide +kernel):gW X a4 (.Call (.Name "zip" p) [b,a] [] pos) (Eh X.K aN):=F7 f d hm ak av e c
end
theorem RN {K:aP} {g:fF} {a7:cS} {D:Ends} (Pv:Nat->St->aD->Prop) (h0:Pv 0 σ H) (d:∀ i σ H,i<=min xs.length ys.length->Pv i σ H->aX K H a xs/\aX K H b ys)
  (av:∀ i x y p σ H,xs[i]?=some x->ys[i]?=some y->H p=.n->Pv i σ H->g (.ref p) σ (upd H p (.tup [x,y])) λ σ2 aq=>a7 { D with bf:=Pv (i+1),b9:=Pv (i+1),bl:=D.bf } σ2 aq) (hd:∀ σ H,Pv (min xs.length ys.length) σ H->D.bf σ H) :
  ∃ W:Nat->Nat->St->aD->Prop,(∃ m,W 0 m σ H)/\∀ i m σ H,W i m σ H ->
   ((oC K a b).stop i H/\D.bf σ H)\/((oC K a b).go i H/\∃ N,(∀ σ' H',N σ' H'->∃ c,c<m/\W (i+1) c σ' H')/\∀ x H',(oC K a b).ic i H x H'->g x σ H' λ σ2 aq=>a7 { D with bf:=N,b9:=N,bl:=D.bf } σ2 aq) :=
 TP Pv h0 d av hd
end bj
namespace rL
open PySem PyProof.Rows
open AutoSeq1 (wpAny_loadPart')
theorem WT:fillsNumberSlot (.type "tuple") "mul" = pure .f :=
 PySem.fillsNumberSlot_seq F.slot_tuple_mul.lookup (by decide +kernel) F.slot_tuple_rmul.lookup (by decide +kernel)
theorem U2:seqRepeat? (.type "tuple")=pure (some (.builtin "tuple.__mul__")):=by
 unfold seqRepeat?;rw [PySem.seqSlot_of (name := "__mul__") F.slot_tuple_mul.lookup (by decide +kernel),PySem.seqSlot_of (name := "__rmul__") F.slot_tuple_rmul.lookup (by decide +kernel)];rfl
theorem SX (a) (t) (l) (items) (n) (dd) (cu) :
  Meets (Builtin.«int.__rmul__» ⟨[.int a t,.ref l],[]⟩) (λ Z R s=>s.heap.get? l=some { cls:=.type "tuple", dict:=dd,data:=.seq items n,slots:=cu }/\R (.ok (.ret Value.notImplemented)) s) :=
 .of_wp λ prog w A R s h=>by
  obtain ⟨U,aa,c,d,e⟩:=s;obtain ⟨b,h⟩:=h
  wp_walk using wpAny_loadPart' b
  exact #[_,Y,h]
theorem VS (l) (items) (n) (x) (u) (dd) (cu) (he:items.isEmpty=.f) (U:2<=x) (aa:x<2 ^ 63) (q:items.size*x.toNat<=sizeLine) :
  Meets (Builtin.«tuple.__mul__» ⟨[.ref l,.int x u],[]⟩) (λ Z R s=>s.heap.get? l=some { cls:=.type "tuple", dict:=dd,data:=.seq items n,slots:=cu } /\
   R (.ok (.ret (.ref s.heap.objs.size))) { s with heap:=s.heap.push { cls:=.type "tuple", data:=.seq (List.foldl (λ a b=>a++b) #[] (List.replicate x.toNat items)) } }) :=
 .of_wp λ prog w A R s h=>by
  obtain ⟨ah,g,d,a8,os⟩:=s;obtain ⟨c,h⟩:=h;have f1:=AutoSeq1.idx_int;have f:¬ (decide (x < -(2 ^ 63))||decide (x ≥ 2 ^ 63))=.t:=by simp;omega
  have i:¬ (items.isEmpty||x==1)=.t:=by rw [he];simp;omega
  have j:¬ (decide (x<=0)||items.isEmpty)=.t:=by rw [he];simp;omega
  have ae:(x.toNat:Nat)=x:=iR .au;have hm:(items.size:Nat)*x=(items.size*x.toNat:Nat):=by rw [Int.natCast_mul,ae]
  have av:=b7;have k:¬ (items.size:Nat)*x>(2 ^ 63-1)/8:=by rw [hm];omega
  have m:¬ Builtin.Tuple.tupleTooMany ((items.size:Nat)*x)=.t:=by
   rw [hm];intro z;have:=cD z;omega
  have p:(List.foldl (λ a b=>a++b) #[] (List.replicate x.toNat items)).size<=sizeLine:=by
   have e:=bj.foldl_rep items.toList x.toNat [];rw [List.nil_append] at e;have o:List.foldl (λ a b=>a++b) #[] (List.replicate x.toNat items)=(List.replicate x.toNat items.toList).flatten.toArray:=by simpa using e
   rw [o,dK,bj.len_rep,e6,nO];exact q
  wp_walk using wpAny_loadPart' c
  rw [if_neg f];refine ax (tupleItemsOf_ #[_,c,Y,n,Y] ?_);dsimp only;rw [if_neg i,if_neg j,if_neg k,if_neg m];exact ax (l_ (a_ #[_,Y,h]) p)
end rL
namespace bj
open PySem PySem.Spec PyProof.Rows
section
variable {X:aW}
def Qi:gb:=λ x y H Q=>∃ l k xs,x=.ref l/\y=.int k/\H l=some (.tup xs)/\xs≠[]/\2<=k/\k<2 ^ 63/\xs.length*k.toNat<=sizeLine /\
 ∀ p,H p=.n->Q (.ref p) (upd H p (.tup (List.replicate k.toNat xs).flatten))
theorem Sa:cI X (binaryOp .Mult) Qi:=by
 intro pins s σ H x y v u Q I n o h;obtain ⟨l,k,xs,rfl,rfl,g,j,U,aa,e,q⟩:=h;cases n;obtain ⟨t,rfl⟩:=o;obtain ⟨c,r,pt,A⟩:=I.tuple (aX.of g);have i:=r.length;obtain ⟨⟨z,d,f1,s1⟩,g1,k1,f,ct⟩:=id pt;subst k1 ct;have he:c.toArray.isEmpty=.f:=by
  cases c with
  | nil=>exact absurd (r.R3.mp Y) j
  | cons a b=>rfl
 have hlen:c.toArray.size*k.toNat<=sizeLine:=by rw [dK,<-i];exact e
 have m:List.foldl (λ p w=>p++w) #[] (List.replicate k.toNat c.toArray)=(List.replicate k.toNat c).flatten.toArray:=by
  have:=foldl_rep c k.toNat [];rw [List.nil_append] at this;exact this
 refine wpAny_binaryOp_repeat_ref .aB #[_,g1,Y] (λ s'=>tI s' k t) rL.WT F.fills_int_mul v3 rL.U2 F.slot_int_index.lookup
  (jr v3 (tI s k t) F.entry_int_rmul (F.args_int_rmul_2 _ _) (rL.SX k t l c.toArray f d s1)
   #[g1,Y,#[_,g1,Y],jr F.slot_tuple_mul #[_,g1,Y] F.entry_tuple_mul (F.args_tuple_mul_2 _ _) (rL.VS l c.toArray f k t d s1 he U aa hlen) #[g1,?_]])
 rw [m];refine #[.ref s.heap.objs.size,_,I.laid (λ b bD q=>a9 _ q) (bx _) ?_,Y,q _ I.fresh];exact #[by rw [len_rep,nO];exact e,_,r.rep k.toNat,mj.new _ _]
end
def Ql:TE:=λ Z H Q=>∀ p,H p=.n->Q (.ref p) (upd H p (.cM []))
theorem Inv.Ph {σ:St} (I:Inv X pins σ H s):sysModules<s.heap.objs.size :=
 Nat.lt_trans .aB (I.mod.glob.keeps I.bl).lt
theorem Sh:bw X (.Dict [] [] pos) Ql:=λ pins s σ H Q I h =>
 wpAny_Dict_empty #[.ref s.heap.objs.size,_,I.laid (o:=.cM []) (λ Z Z q=>a9 _ q) (bx _)
  #[ej _,nC.mpr (dz (cc I.Ph)),[],.nil,Heap.DictOf.new _],Y,h _ I.fresh]
theorem Qd (a:cy X x) (hm:X.mg x=.n) (aI:bootBuiltins x=some (.type T)) (ao:x ≠ "__name__" := by decide) (hd:(x==("__debug__" : Str))=.f:=by decide):bw X (.Name x pos) (eR (.ty T)) :=
 Sd a hm aI rfl ao hd
end bj
namespace ck
noncomputable def k9 (p:Nat):Nat->Nat->Nat
 | 0,n=>n
 | f+1,n=>if 2<=p/\1<=n/\n%p=0 then k9 p f (n/p) else n
theorem JC (p):∀ f n,n<=f->k9 p (f+1) n=k9 p f n
 | 0,n,h=>by
  obtain rfl:n=0:=by omega
  exact if_neg (λ z=>by omega)
 | f+1,n,h=>by
  show (if 2<=p/\1<=n/\n%p=0 then k9 p (f+1) (n/p) else n)=if 2<=p/\1<=n/\n%p=0 then k9 p f (n/p) else n
  by_cases q:2<=p/\1<=n/\n%p=0
  ·rw [if_pos q,if_pos q];exact JC p f (n/p) (by have:=j8 q.2.1 q.1;omega)
  ·rw [if_neg q,if_neg q]
theorem Bw (p n):∀ k,k9 p (n+k) n=k9 p n n
 | 0=>rfl
 | k+1=>by rw [show n+(k+1)=(n+k)+1 from rfl,JC p (n+k) n .au];exact Bw p n k
noncomputable def strip (p:Nat) (n:Nat):Nat:=k9 p n n
theorem Iv (p n):strip p n=if 2<=p/\1<=n/\n%p=0 then strip p (n/p) else n:=by
 have e:strip p n=k9 p (n+1) n:=(Bw p n 1).symm;rw [e];show (if 2<=p/\1<=n/\n%p=0 then k9 p n (n/p) else n)=_;by_cases q:2<=p/\1<=n/\n%p=0
 ·rw [if_pos q,if_pos q];have lt:=j8 q.2.1 q.1;have:=Bw p (n/p) (n-n/p);rw [show n/p+(n-n/p)=n by omega] at this;exact this
 ·rw [if_neg q,if_neg q]
theorem ug (ah:2<=p) (ao:1<=n) (h:n%p=0):strip p n=strip p (n/p):=by
 rw [Iv p n,if_pos #[ah,ao,h]]
theorem uh (h:n%p≠0):strip p n=n:=by
 rw [Iv,if_neg (λ q=>h q.2.2)]
theorem rv (ao:1<=n) (h:n%p=0):1<=n/p:=by
 have e:=Nat.div_add_mod n p;rw [h] at e;rcases z7 (n/p) with z|z
 ·rw [z] at e;omega
 ·exact z
theorem ui (ah:2<=p):∀ n,1<=n->1<=strip p n:=by
 intro n
 induction n using Nat.strongRecOn with
 | ind n a =>
  intro ao;by_cases h:n%p=0
  ·rw [ug ah ao h];exact a _ (j8 ao ah) (rv ao h)
  ·rw [uh h];exact ao
theorem Wh (ah:2<=p):∀ n,1<=n->strip p n%p≠0:=by
 intro n
 induction n using Nat.strongRecOn with
 | ind n a =>
  intro ao;by_cases h:n%p=0
  ·rw [ug ah ao h];exact a _ (j8 ao ah) (rv ao h)
  ·rw [uh h];exact h
noncomputable def dp:h2:=[2,3,5,7,11,13,17,19,23,29]
noncomputable def gR (ai:h2) (n:Nat):Nat:=ai.foldl (λ m p=>strip p m) n
noncomputable def gv (n:Nat):Nat:=gR dp n
theorem xd:∀ ai,(∀ p∈ai,2<=p)->∀ n,1<=n->1<=gR ai n
 | [],_,_,h=>h
 | p::ai,ah,n,h=>xd ai (λ q a=>ah q (de _ a)) _ (ui (ah p dn) n h)
theorem jq:∀ p∈dp,2<=p:=by decide
theorem XZ (h:1<=n):1<=gv n:=xd dp jq n h
noncomputable def my (a b:Nat):Bool:=dp.all λ p=>a%p != 0||b%p != 0
theorem Xm:my a b=.t ↔ ∀ p∈dp,¬ (p∣a/\p∣b):=by
 unfold my;rw [fB];constructor
 ·rintro h p ah ⟨U,aa⟩;have:=h p ah;rw [Nat.mod_eq_zero_of_dvd U,Nat.mod_eq_zero_of_dvd aa] at this;exact absurd this .aB
 ·intro h p ah;by_cases U:a%p=0
  ·by_cases aa:b%p=0
   ·exact absurd #[tL U,tL aa] (h p ah)
   ·simp [aa]
  ·simp [U]
theorem WZ:dp.Pairwise Nat.Coprime:=by decide
noncomputable def dT (i:Int):Bool:=decide (1<=i)&&decide (i<=1000000000000)&&decide (gv i.toNat=1)
noncomputable def d1 (i j:Int):Bool:=dT i&&dT j&&my i.toNat j.toNat
end ck
namespace bj
open PySem PySem.Spec PyProof.Rows
theorem Ut (a:cy X x) (hm:∃ t,X.mg x=some (.int i t)) (hd:(x==("__debug__" : Str))=.f:=by decide):bw X (.Name x pos) (eR (.int i)):=by
 obtain ⟨t,h⟩:=hm;exact AD a h #[t,Y] hd
theorem Uu (a:cy X x) (hm:∃ t,X.mg x=some (.str i t)) (hd:(x==("__debug__" : Str))=.f:=by decide):bw X (.Name x pos) (eR (.str i)):=by
 obtain ⟨t,h⟩:=hm;exact AD a h #[t,Y] hd
noncomputable def te (sc a:Scope):List (Str×NameKind):=sc.names.map λ (n,k)=>if (k==.free&&a.kind==.function&&a.names.lookup n==some .cell) then (n,.cell) else (n,k)
noncomputable def zg (sc:Scope):bA:=((sc.names.filter (λ p=>p.2==.free)).reverse).map (·.1)
noncomputable def Ao (sc a:Scope) (N b:bA) (js:List (Option Nat)):Bool :=
 sc.names.all (λ y=>y.2 != .cell)&&decide (sc.kind=.function)&&sc.names.all (λ y=>y.2 != .local||sc.names.lookup y.1==some .local) &&
 (te sc a).all (λ p=> !(p.2==.cell||p.2==.free)||(zg sc).contains p.1)&&js.length==N.length &&
 (List.range N.length).all λ i=>match js[i]?,N[i]? with
  | some (some j),some x=>b[j]?==some x&&a.names.lookup x==some .cell&&((te sc a).lookup x==some .cell||(te sc a).lookup x==some .free)
  | _,_=>.t
theorem mem_of_lookup {α β: Type} [BEq α] [LawfulBEq α]:∀ {l:List (α×β)} {x : α} {c : β},l.lookup x=some c->(x,c)∈l
 | [],_,_,h=>by simp at h
 | (y,d)::r,x,c,h=>by
  rw [List.lookup_cons] at h;cases e:(x==y) with
  | true =>
   rw [e] at h;cases h;rw [jt e];exact dn
  | false =>
   rw [e] at h;exact de _ (mem_of_lookup h)
theorem Vw (aA:X.env.scope=k) (l4:closureFor sc X.env=pure cl) (t:cl.map (·.1)=zg sc)
  (v:∀ p∈cl,X.env.cells.lookup p.1=some p.2) (d:Ao sc k N l js=.t) (r:X.N=l):jn X sc cl N js:=by
 unfold Ao at d;simp only [eJ] at d;obtain ⟨⟨⟨⟨⟨U,aa⟩,m⟩,n⟩,o⟩,q⟩:=d;have f:(relabel sc X.env).names=te sc k:=by
  unfold relabel te Env.kindOf;rw [aA]
 refine #[l4,?_,cD aa,?_,?_,?_,jt o,?_]
 ·intro y e;have:=fB.mp U y e;simpa using this
 ·intro y e u;have:=fB.mp m y e;rw [u] at this;simpa using this
 ·intro x c h;exact v (x,c) (mem_of_lookup h)
 ·intro x h;rw [f] at h;refine BP ?_;rw [t];rcases h with h|h
  all_goals
   have:=fB.mp n _ (mem_of_lookup h);simpa using this
 ·intro i j x g s;have ar:=(dr.mp g).1;have:=fB.mp q i (nD.mpr ar);rw [s,g] at this;simp only [eJ,Bool.or_eq_true] at this;obtain ⟨⟨a,b⟩,c⟩:=this;refine #[?_,?_,?_]
  ·rw [r];exact jt a
  ·rw [aA];exact jt b
  ·rw [f];rcases c with c|c
   ·exact .inl (jt c)
   ·exact .inr (jt c)
end bj
namespace bV
open PySem bj
theorem dH:bootBuiltins "len" = some (.builtin "len"):=PySem.boot_len
theorem eM:bootBuiltins "isinstance" = some (.builtin "isinstance"):=by decide +kernel
theorem pa:bootBuiltins "int" = some (.type "int"):=by decide +kernel
theorem Qt:bootBuiltins "bool" = some (.type "bool"):=by decide +kernel
theorem jy:bootBuiltins "tuple" = some (.type "tuple"):=by decide +kernel
theorem nq:bootBuiltins "str" = some (.type "str"):=by decide +kernel
theorem tj:bootBuiltins "max" = some (.builtin "max"):=by decide +kernel
theorem vz:bootBuiltins "min" = some (.builtin "min"):=by decide +kernel
theorem qx:bootBuiltins "all" = some (.builtin "all"):=by decide +kernel
def dh (H:aD):V->Prop
 | .aQ=>True
 | .aO _=>True
 | .int _=>True
 | .str _=>True
 | .ref a=>(∃ xs,H a=some (.tup xs))\/(∃ xs,H a=some (.lst xs))\/(∃ kvs,H a=some (.cM kvs))
 | _=>False
noncomputable def jW:Option eZ->Option bh
 | some (.tup xs)=>some xs
 | _=>.n
noncomputable def eT (H:aD):V->Option bh
 | .ref a=>jW (H a)
 | _=>.n
theorem nY (h:H a=some (.tup xs)):eT H (.ref a)=some xs:=by
 show jW (H a)=_;rw [h];rfl
theorem wX (h:eT H v=some xs):∃ a,v=.ref a/\H a=some (.tup xs):=by
 cases v with
 | ref a =>
  refine #[a,Y,?_];have h':jW (H a)=some xs:=h;cases e:H a with
  | none=>rw [e] at h';cases h'
  | some o =>
   rw [e] at h';cases o<;>first|(cases h';rfl)|cases h'
 | _=>cases h
noncomputable def yJ:V->Bool
 | .int _=>.t
 | .aO _=>.t
 | _=>.f
noncomputable def Du:V->Bool
 | .aO _=>.t
 | _=>.f
noncomputable def sS:V->Bool
 | .int _=>.t
 | _=>.f
theorem Qx (v):(yJ v && !Du v)=sS v:=by cases v<;>rfl
theorem F0 (h:sS v=.t):∃ i,v=.int i:=by
 cases v with
 | int i=>exact #[i,Y]
 | _=>cases h
section
variable {K:aP} {H:aD} {v:V}
theorem zw (k:dh H v):∃ t,gF K H v t/\PySem.W.kitOne K t (.type "tuple")=some (eT H v).isSome:=by
 cases v with
 | aQ=>exact #[_,.aQ,by kernel_rfl]
 | aO b=>exact #[_,.aO b,by kernel_rfl]
 | int i=>exact #[_,.int i,by kernel_rfl]
 | str x=>exact #[_,.str x,by kernel_rfl]
 | ref a =>
  rcases k with ⟨xs,e⟩|⟨xs,e⟩|⟨kvs,e⟩
  ·exact #[_,.tup e,by rw [nY e];kernel_rfl]
  ·refine #[_,.lst e,?_];show _=some (jW (H a)).isSome;rw [e];kernel_rfl
  ·refine #[_,.cM e,?_];show _=some (jW (H a)).isSome;rw [e];kernel_rfl
 | _=>exact False.elim k
theorem P5 (k:dh H v):∃ t,gF K H v t/\PySem.W.kitOne K t (.type "int")=some (yJ v):=by
 cases v with
 | aQ=>exact #[_,.aQ,by kernel_rfl]
 | aO b=>exact #[_,.aO b,by kernel_rfl]
 | int i=>exact #[_,.int i,by kernel_rfl]
 | str x=>exact #[_,.str x,by kernel_rfl]
 | ref a =>
  rcases k with ⟨xs,e⟩|⟨xs,e⟩|⟨kvs,e⟩
  ·exact #[_,.tup e,by kernel_rfl]
  ·exact #[_,.lst e,by kernel_rfl]
  ·exact #[_,.cM e,by kernel_rfl]
 | _=>exact False.elim k
theorem P4 (k:dh H v):∃ t,gF K H v t/\PySem.W.kitOne K t (.type "bool")=some (Du v):=by
 cases v with
 | aQ=>exact #[_,.aQ,by kernel_rfl]
 | aO b=>exact #[_,.aO b,by kernel_rfl]
 | int i=>exact #[_,.int i,by kernel_rfl]
 | str x=>exact #[_,.str x,by kernel_rfl]
 | ref a =>
  rcases k with ⟨xs,e⟩|⟨xs,e⟩|⟨kvs,e⟩
  ·exact #[_,.tup e,by kernel_rfl]
  ·exact #[_,.lst e,by kernel_rfl]
  ·exact #[_,.cM e,by kernel_rfl]
 | _=>exact False.elim k
end
theorem ay.kind (s:ay H H') (k:dh H v):dh H' v:=by
 cases v with
 | ref a =>
  rcases k with ⟨xs,e⟩|⟨xs,e⟩|⟨kvs,e⟩
  ·exact .inl #[xs,s _ _ e]
  ·exact .inr (.inl #[xs,s _ _ e])
  ·exact .inr (.inr #[kvs,s _ _ e])
 | aQ=>trivial
 | aO b=>trivial
 | int i=>trivial
 | str x=>trivial
 | h8 b=>exact False.elim k
 | lR b=>exact False.elim k
 | ty b=>exact False.elim k
def cB (a:Addr) (H H':aD):Prop:=∀ b o,b≠a->H b=some o->H' b=some o
theorem cB.trans (x:cB a H H1) (y:cB a H1 aq):cB a H aq:=λ b o n h=>y b o n (x b o n h)
theorem cB.of (x:ay H H'):cB a H H':=λ b o Z h=>x b o h
theorem cB.upd {a:Addr} {H:aD} {o:eZ}:cB a H (upd H a o):=λ b q n h=>by rw [bC n];exact h
theorem ay.new (h:H p=.n):ay H (upd H p o):=λ b q e=>by rw [bC (cq e h)];exact e
theorem ay.more (s:ay H H') (h:H' p=.n):ay H (upd H' p o):=s.trans (ay.new h)
theorem jE {ns:bB} {i:Nat} (h:(ns.map V.int)[i]?=some y):∃ z,y=.int z/\ns[i]?=some z:=by
 rw [et] at h;cases e:ns[i]? with
 | none=>rw [e] at h;cases h
 | some z=>rw [e] at h;exact #[z,(cE h).symm,Y]
theorem eH {xs:List α} {v: α} (h0:0<=i) (h:xs[i.toNat]?=some v):h6 xs i=some v:=by
 have:=FN h
 rwa [iR h0] at this
theorem Qy {n:Nat} {i:Int} (h0:0<=i) (h:i<n):lV n i=some i.toNat:=by
 unfold lV;rw [if_pos h0,if_pos h]
theorem vY {α: Type} {xs:List α} (h:xs.length=2):∃ x y,xs=[x,y]:=by
 cases xs with
 | nil=>simp at h
 | cons x xs =>
  cases xs with
  | nil=>simp at h
  | cons y ys =>
   cases ys with
   | nil=>exact #[x,y,Y]
   | cons z zs=>simp at h
end bV
namespace bj
open PySem PySem.Spec PyProof.Rows
noncomputable def noStar:Expr->Bool
 | .Starred _ _=>.f
 | _=>.t
theorem n8 (h:noStar e=.t) (aj) (env):starEach (e::aj) env=(.f,eval e env)::starEach aj env:=by
 cases e<;>first|rfl|cases h
theorem PL (ak:bw X e bg) (a:fE X aj t) (h:noStar e=.t:=by rfl):fE X (e::aj) (f9 bg t):=Sb ak a (n8 h aj X.env)
section
variable {K:aP} {a D:Addr} {js:List (Option Nat)} {g:fF} {bg:TE} {σ:St} {H1:aD} {Q:b2}
theorem w9 (ao:n<=sizeLine) (Pv:Nat->St->aD->bh->Prop) (h0:Pv 0 (pick js σ) (upd H1 D (.lst [])) [])
  (l:∀ i σ' H' ys,i<n->H' D=some (.lst ys)->Pv i σ' H' ys->aC.go i H') (o:∀ σ' H' ys,H' D=some (.lst ys)->ys.length=n->Pv n σ' H' ys->aC.stop n H'/\Q (.ref D) H')
  (av:∀ i σ' H' ys x aq (R:St->V->aD->Prop),i<n->H' D=some (.lst ys)->ys.length=i->Pv i σ' H' ys->aC.ic i H' x aq ->
   (∀ σ2 y b,b D=some (.lst ys)->Pv (i+1) σ2 (upd b D (.lst (ys++[y]))) (ys++[y])->R σ2 y b)->g x σ' aq λ σ2 k=>bg σ2 k λ y b=>R σ2 y b) :
  hL aC D js g kc bg σ H1 Q:=by
 refine #[λ i m σ' H' ys=>m=n-i/\i<=n/\H' D=some (.lst ys)/\ys.length=i/\Pv i σ' H' ys,#[n,Y,ej _,bN,Y,h0],?_];rintro i m σ' H' ys ⟨rfl,ar,c,d,p⟩;refine #[c,?_];by_cases e:i=n
 ·subst e;exact .inl (o σ' H' ys c d p)
 ·have j:i<n:=by omega
  refine .inr #[l i σ' H' ys j c p,.au,λ σ2 aq zs=>aq D=some (.lst zs)/\zs.length=i+1/\Pv (i+1) σ2 aq zs,λ σ2 aq zs ⟨f,h,q⟩=>#[n-(i+1),.au,Y,.au,f,h,q],λ x aq ae=>?_];exact av i σ' H' ys x aq (λ σ2 y b=>b D=some (.lst ys)/\(upd b D (.lst (ys++[y]))) D=some (.lst (ys++[y]))/\(ys++[y]).length=i+1/\Pv (i+1) σ2 (upd b D (.lst (ys++[y]))) (ys++[y])) j c d p ae
   λ σ2 y b f h=>#[f,bN,by rw [c9,d];rfl,h]
theorem Vx (ao:xs.length<=sizeLine) (Pv:Nat->St->aD->bh->Prop) (h0:Pv 0 (pick js σ) (upd H1 D (.lst [])) [])
  (f:∀ i σ' H' ys,i<=xs.length->H' D=some (.lst ys)->Pv i σ' H' ys->aS K H' a xs)
  (av:∀ i x σ' H' ys (R:St->V->aD->Prop),xs[i]?=some x->H' D=some (.lst ys)->ys.length=i->Pv i σ' H' ys->(∀ σ2 y e,e D=some (.lst ys)->Pv (i+1) σ2 (upd e D (.lst (ys++[y]))) (ys++[y])->R σ2 y e) ->
   g x σ' H' λ σ2 h=>bg σ2 h λ y e=>R σ2 y e)
  (l:∀ σ' H' ys,H' D=some (.lst ys)->ys.length=xs.length->Pv xs.length σ' H' ys->Q (.ref D) H'):hL (m1 K a) D js g kc bg σ H1 Q :=
 w9 ao Pv h0 (λ i σ' H' ys ar d p=>#[xs,xs[i],f i σ' H' ys .au d p,cK ar])
  (λ σ' H' ys d b c=>#[#[xs,f _ σ' H' ys (bx _) d c,bx _],l σ' H' ys d b c]) λ i σ' H' ys x aq R ar d b c ⟨j,k⟩=>by
  subst j;exact av i x σ' aq ys R (k xs (f i σ' aq ys .au d c)) d b c
theorem wV (ao:xs.length<=sizeLine) (Pv:Nat->St->aD->bh->Prop) (h0:Pv 0 (pick js σ) (upd H1 D (.lst [])) [])
  (f:∀ i σ' H' ys,i<=xs.length->H' D=some (.lst ys)->Pv i σ' H' ys->aX K H' a xs)
  (av:∀ i x σ' H' ys (R:St->V->aD->Prop),xs[i]?=some x->H' D=some (.lst ys)->ys.length=i->Pv i σ' H' ys->(∀ σ2 y e,e D=some (.lst ys)->Pv (i+1) σ2 (upd e D (.lst (ys++[y]))) (ys++[y])->R σ2 y e) ->
   g x σ' H' λ σ2 h=>bg σ2 h λ y e=>R σ2 y e)
  (l:∀ σ' H' ys,H' D=some (.lst ys)->ys.length=xs.length->Pv xs.length σ' H' ys->Q (.ref D) H'):hL (m2 K a) D js g kc bg σ H1 Q :=
 w9 ao Pv h0 (λ i σ' H' ys ar d p=>#[xs,xs[i],f i σ' H' ys .au d p,cK ar])
  (λ σ' H' ys d b c=>#[#[xs,f _ σ' H' ys (bx _) d c,bx _],l σ' H' ys d b c]) λ i σ' H' ys x aq R ar d b c ⟨j,k⟩=>by
  subst j;exact av i x σ' aq ys R (k xs (f i σ' aq ys .au d c)) d b c
end
theorem aX.Gx {K:aP} (h:aX K H a xs) (n:H D=.n):aX K (upd H D o) a xs:=by
 rcases h with (h|⟨u,h⟩)|h
 ·exact .inl (.inl (by rw [bC (cq h n)];exact h))
 ·exact .inl (.inr #[u,by rw [bC (cq h n)];exact h])
 ·exact .inr h
theorem xo {α β: Type} {f: α -> β} {xs:List α} {x: α} (h:xs[i]?=some x):(xs.take (i+1)).map f=(xs.take i).map f++[f x]:=by
 rw [iS,h,hl];rfl
section
variable {K:aP} {a D:Addr} {js:List (Option Nat)} {bg:TE} {σ:St} {H1:aD} {Q:b2}
theorem JK (ah:pick js σ=o::σ0) (ao:xs.length<=sizeLine) (b:H1 D=.n) (c:aX K H1 a xs)
  (av:∀ x H' R,x∈xs->R (f x) H'->bg (some x::σ0) H' R) (q:Q (.ref D) (upd H1 D (.lst (xs.map f)))):hL (m2 K a) D js (e4 0) kc bg σ H1 Q:=by
 refine wV ao (λ i σ' H' ys=>(∃ u,σ'=u::σ0)/\ys=(xs.take i).map f/\H'=upd H1 D (.lst ys)) #[#[o,ah],Y,Y] ?_ ?_ ?_
 ·rintro i σ' H' ys _ _ ⟨_,rfl,rfl⟩;exact c.Gx b
 ·rintro i x σ' H' ys R ae _ _ ⟨⟨u,rfl⟩,rfl,rfl⟩ k;refine av x _ _ (b5 ae) (k _ _ _ bN #[#[_,Y],(xo ae).symm,Gy])
 ·rintro σ' H' ys _ _ ⟨_,rfl,rfl⟩;rw [ju];exact q
end
theorem rq (Pv:St->aD->Prop) (μ : St->aD->Nat) (h0:Pv σ H)
  (av:∀ σ H,Pv σ H->c σ H λ b H1=>if b=.t then ∃ N,(∀ σ' H',N σ' H'->∃ a,a<μ σ H/\a = μ σ' H'/\Pv σ' H')/\a7 { D with bf:=N,b9:=N,bl:=D.bf } σ H1 else D.bf σ H1):zY c a7 D σ H :=
 #[λ m σ H=>m = μ σ H/\Pv σ H,#[_,Y,h0],λ m σ H ⟨e,p⟩=>by subst e;exact av σ H p]
theorem s9 {a7:cS} {D:Ends} {Pv:St->aD->Prop} {μ: St->aD->Nat} (h:a7 { D with bf:=λ σ' H'=>Pv σ' H' /\ μ σ' H'<m,b9:=λ σ' H'=>Pv σ' H' /\ μ σ' H'<m,bl:=D.bf } σ H1) :
  ∃ N,(∀ σ' H',N σ' H'->∃ c,c<m/\c = μ σ' H'/\Pv σ' H')/\a7 { D with bf:=N,b9:=N,bl:=D.bf } σ H1:=#[_,λ _ _ ⟨a,b⟩=>#[_,b,Y,a],h]
theorem zW (h:0<=i):b6.g8 n d (some i)=min i.toNat n:=by
 show (if i<0 then _ else _)=_;rw [if_neg .au]
theorem TH (h:0<=i):ig xs .n (some i)=xs.take i.toNat:=by
 unfold ig;rw [zW h];show (xs.drop 0).take (min i.toNat xs.length-0)=_;rw [List.drop_zero,Nat.sub_zero];rcases Nat.le_total i.toNat xs.length with g|g
 ·rw [Nat.min_eq_left g]
 ·rw [Nat.min_eq_right g,nz (bx _),nz g]
structure aZ (X:aW) (e:Expr) (t:TE):Prop where
 o:bw X e t
structure hv (X:aW) (e:Expr) (t:TT):Prop where
 o:hu X e t
structure dw (X:aW) (e:Expr) (t:TT):Prop where
 o:kn X e t
structure dG (X:aW) (e:List Expr) (t:c2):Prop where
 o:fE X e t
structure e0 (X:aW) (e:Stmt) (t:cS):Prop where
 o:hV X e t
structure fH (X:aW) (e:List Stmt) (t:cS):Prop where
 o:h4 X e t
structure iz (X:aW) (e:Expr) (t:fF):Prop where
 o:hU X e t
structure sq (X:aW) (e:List Expr) (t:qf):Prop where
 o:so X e t
structure uE (X:aW) (e:Option Expr) (t:cP):Prop where
 o:rK X e t
structure qd (X:aW) (e:List Expr) (t:TT):Prop where
 o:kD X e t
structure iA (X:aW) (a4 e:Expr) (t:TI):Prop where
 o:gW X a4 e t
theorem se (i) (a:X.N[i]?=some x:=by rfl) (aI:sr X.env.scope x:=by first|exact Or.inl Y|exact Or.inr (Or.inl Y)|exact Or.inr (Or.inr Y)) (hd:(x==("__debug__" : Str))=.f:=by decide) (b:(x==("__classdict__" : Str))=.f:=by decide):aZ X (.Name x pos) (zp i) :=
 #[dX i a aI hd b]
theorem aM {i j pos}:aZ X (.Constant (.int i) j pos) (eR (.int i)) :=
 #[QW ]
theorem hg {b j pos}:aZ X (.Constant (.bool b) j pos) (eR (.aO b)) :=
 #[P_ ]
theorem d4 {j pos}:aZ X (.Constant .none j pos) (eR .aQ) :=
 #[Fn ]
theorem aT {x j pos}:aZ X (.Constant (.str x) j pos) (eR (.str x)) :=
 #[Q0 ]
theorem fT (a:cy X x) (hm:X.mg x=some u) (r:RelV v u) (hd:(x==("__debug__" : Str))=.f:=by decide):aZ X (.Name x pos) (eR v) :=
 #[AD a hm r hd]
theorem jB (a:cy X x) (hm:∃ t,X.mg x=some (.int i t)) (hd:(x==("__debug__" : Str))=.f:=by decide):aZ X (.Name x pos) (eR (.int i)) :=
 #[Ut a hm hd]
theorem A4 (a:cy X x) (hm:∃ t,X.mg x=some (.str i t)) (hd:(x==("__debug__" : Str))=.f:=by decide):aZ X (.Name x pos) (eR (.str i)) :=
 #[Uu a hm hd]
theorem jj (a:cy X x) (hm:X.mg x=.n) (aI:bootBuiltins x=some (.type T)) (ao:x ≠ "__name__" := by decide) (hd:(x==("__debug__" : Str))=.f:=by decide):aZ X (.Name x pos) (eR (.ty T)) :=
 #[Qd a hm aI ao hd]
theorem bK (aA:cI X (binaryOp op) r) (ak:aZ X a aN) (c:aZ X b a7):aZ X (.BinOp a op b pos) (l1 r aN a7) :=
 #[Qb aA ak.o c.o]
theorem zB (aA:u1 X (unaryOp op) r) (ak:aZ X a aN):aZ X (.UnaryOp op a pos) (DU r aN) :=
 #[Qe aA ak.o]
theorem vS {rest:List Expr} (ak:aZ X a aN) (c:aZ X (.BoolOp .And (b::rest) pos) a7):aZ X (.BoolOp .And (a::b::rest) pos) (EZ aN a7) :=
 #[QS ak.o c.o]
theorem EV {rest:List Expr} (ak:aZ X a aN) (c:aZ X (.BoolOp .Or (b::rest) pos) a7):aZ X (.BoolOp .Or (a::b::rest) pos) (zo aN a7) :=
 #[Qc ak.o c.o]
theorem qN {op} (h:aZ X a t):aZ X (.BoolOp op [a] pos) t :=
 #[QZ h.o]
theorem zU (ak:aZ X a aN):aZ X (.UnaryOp .Not a pos) (vJ aN) :=
 #[QY ak.o]
theorem UW (af:hv X c eQ) (ak:aZ X a aN) (d:aZ X b a7):aZ X (.IfExp c a b pos) (DR eQ aN a7) :=
 #[Uv af.o ak.o d.o]
theorem hn (aA:cI X (compareOp op) r) (ak:aZ X a aN) (c:aZ X b a7) (hm:behindInMarks op b=.f):aZ X (.Compare a [op] [b] pos) (l1 r aN a7) :=
 #[Sf aA ak.o c.o hm]
theorem Rm {a} (h:dG X aj t):aZ X (.Tuple aj a pos) (EI t) :=
 #[Q1 h.o]
theorem zT (h:dG X aj t):aZ X (.List aj pos) (EF t) :=
 #[QX h.o]
theorem b3 (d:sl X r) (ak:aZ X a aN) (c:aZ X b a7) (av:FJ b):aZ X (.Subscript a b pos) (l1 r aN a7) :=
 #[Qa d ak.o c.o av]
theorem hs {lo:Option Expr} (b:qe X r) (he:aZ X e bg) (a:uE X lo c6) (c:uE X ar th):aZ X (.Subscript e (.Slice lo ar .n dS) pos) (DT r bg c6 th) :=
 #[Uy b he.o a.o c.o]
theorem SG (F:dB X.prog X.w X.K X.mg X.base b8 k f fd ai sp) (h:cR k X.A) (c:cy X x) (hm:X.mg x=some (.ref f)) (d:PySem.W.keepIn X.K (.ref f)=.t) (a:Binds X.K fd ai ds) (hd:Vals c7 ds) (ae:Passes b8 X E) (ak:dG X (e::aj) t) (b:(x==("__debug__" : Str))=.f:=by decide) (he:starEach (e::aj) X.env=(.f,eval e X.env)::starEach aj X.env:=by rfl) (g:(backTo pos (starEach aj X.env)).any (·.1)=.f:=by rfl):aZ X (.Call (.Name x p) (e::aj) [] pos) (kV sp c7 E t) :=
 #[Se F h c hm d a hd ae ak.o b he g]
theorem UN (F:dB X.prog X.w X.K X.mg X.base b8 k f fd ai sp) (e:cR k X.A) (c:cy X x) (hm:X.mg x=some (.ref f)) (d:PySem.W.keepIn X.K (.ref f)=.t) (a:Binds X.K fd ai ds) (hd:Vals c7 ds) (ae:Passes b8 X E) (b:(x==("__debug__" : Str))=.f:=by decide):aZ X (.Call (.Name x p) [] [] pos) (kV sp c7 E gk) :=
 #[Un F e c hm d a hd ae b]
theorem UO {id:String} (af:ep X (.builtin id) r) (b:cy X x) (hm:X.mg x=.n) (aI:bootBuiltins x=some (.builtin id)) (ak:dG X (e::aj) t) (ao:x ≠ "__name__" := by decide) (a:(x==("__debug__" : Str))=.f:=by decide) (he:starEach (e::aj) X.env=(.f,eval e X.env)::starEach aj X.env:=by rfl) (c:(backTo pos (starEach aj X.env)).any (·.1)=.f:=by rfl):aZ X (.Call (.Name x p) (e::aj) [] pos) (oU r t) :=
 #[Uo af b hm aI ak.o ao a he c]
theorem V8 (af:ep X (.type T) r) (b:cy X x) (hm:X.mg x=.n) (aI:bootBuiltins x=some (.type T)) (ak:dG X (e::aj) t) (ao:x ≠ "__name__" := by decide) (a:(x==("__debug__" : Str))=.f:=by decide) (he:starEach (e::aj) X.env=(.f,eval e X.env)::starEach aj X.env:=by rfl) (c:(backTo pos (starEach aj X.env)).any (·.1)=.f:=by rfl):aZ X (.Call (.Name x p) (e::aj) [] pos) (oU r t) :=
 #[V2 af b hm aI ak.o ao a he c]
theorem eE {id:String} (g:PlainAttrs T) (slot:Slot T name id) (f:typeOf (.builtin id)=pure (.type "method_descriptor")) (hm:h3 X id r) (aA:aZ X o to) (ak:dG X (e::aj) t) (a:attributeBase o name X.env (eval o X.env)=eval o X.env:=by rfl) (b:((backTo bR (starEach (e::aj) X.env)).all (λ x=> !x.1)&&(backToKw bR (keywordEach [] X.env)).all (λ x=>x.1.isSome)
   && decide ((e::aj).length+([]:List Keyword).length+(if ([]:List Keyword).isEmpty then 0 else 1)<30))=.t:=by rfl) (c:(apos.endLine==bR.line)=.t:=by rfl) (av:starEach (e::aj) X.env=(.f,eval e X.env)::starEach aj X.env:=by rfl) (d:(backTo bR (starEach aj X.env)).any (·.1)=.f:=by rfl):aZ X (.Call (.Attribute o name apos) (e::aj) [] bR) (y1 X.K T r to t) :=
 #[ET g slot f hm aA.o ak.o a b c av d]
theorem Rk {id:String} (d:PlainAttrs T) (slot:Slot T name id) (c:typeOf (.builtin id)=pure (.type "method_descriptor")) (hm:h3 X id r) (aA:aZ X o to) (a:attributeBase o name X.env (eval o X.env)=eval o X.env:=by rfl) (b:(apos.endLine==bR.line)=.t:=by rfl):aZ X (.Call (.Attribute o name apos) [] [] bR) (EA X.K T r to) :=
 #[QT d slot c hm aA.o a b]
theorem br (aA:cI X (compareOp op) r) (ak:aZ X a aN) (c:aZ X b a7) (hm:behindInMarks op b=.f):hv X (.Compare a [op] [b] pos) (vK (l1 r aN a7)) :=
 #[Sx aA ak.o c.o hm]
theorem A5 (aA:cI X (compareOp op) r) (f:cI X (compareOp d) g) (ak:aZ X a aN) (e:aZ X b a7) (af:aZ X c cg) (hm:lastMarks [op,d] [b,c]=.f:=by with_unfolding_all rfl):hv X (.Compare a [op,d] [b,c] pos) (vK (Fy r g aN a7 cg)) :=
 #[UG aA f ak.o e.o af.o hm]
theorem e8 (ak:hv X a eQ):hv X (.UnaryOp .Not a pos) (EG eQ) :=
 #[Rc ak.o]
theorem eI (h:aZ X e t) (he:∀ whole,isTrue e X.env whole=(do let v ← whole;standAt e.pos;holding [v] (truthy v)):=by intro _;rfl):hv X e (ox t) :=
 #[Rf h.o he]
theorem vU {rest:List Expr} (ak:hv X a eQ) (c:dw X (.BoolOp .And (b::rest) pos) iG):dw X (.BoolOp .And (a::b::rest) pos) (Ez eQ iG) :=
 #[Rh ak.o c.o]
theorem wL (ak:hv X a eQ):dw X (.BoolOp .And [a] pos) eQ :=
 #[SF ak.o]
theorem dP {rest:List Expr} (ak:hv X a eQ) (c:dw X (.BoolOp .Or (b::rest) pos) iG):dw X (.BoolOp .Or (a::b::rest) pos) (DS eQ iG) :=
 #[Qh ak.o c.o]
theorem e9 (ak:hv X a eQ):dw X (.BoolOp .Or [a] pos) eQ :=
 #[Ri ak.o]
theorem az  : dG X [] gk :=
 #[QP ]
theorem ag (ak:aZ X e bg) (a:dG X aj t) (h:noStar e=.t:=by rfl):dG X (e::aj) (f9 bg t) :=
 #[PL ak.o a.o h]
theorem hq  : uE X .n Gu :=
 #[Sp ]
theorem hr (h:aZ X e bg):uE X (some e) (E4 bg) :=
 #[Sq h.o]
theorem iX (a:aZ X l c6):iA X a4 l (EN X.K c6) :=
 #[So a.o]
theorem nM (a:aZ X l c6):iA X a4 l (Eg X.K c6) :=
 #[Q6 a.o]
theorem Br (c:cy X "range") (hm:X.mg "range" = .n) (ak:dG X [a] aN) (av:starEach [a] X.env=[(.f,eval a X.env)]:=by rfl) (b:X.calm=.t:=by rfl):iA X a4 (.Call (.Name "range" p) [a] [] pos) (EO aN) :=
 #[V3 c hm ak.o av b]
theorem qO (f:lq a4=.t) (d:cy X "zip") (hm:X.mg "zip" = .n) (ak:dG X [b,a] aN) (av:starEach [b,a] X.env=[(.f,eval b X.env),(.f,eval a X.env)]:=by rfl) (e:starEach [a] X.env=[(.f,eval a X.env)]:=by rfl) (c:bootBuiltins "zip" = some (.type "zip"):=by decide +kernel):iA X a4 (.Call (.Name "zip" p) [b,a] [] pos) (Eh X.K aN) :=
 #[Q7 f d hm ak.o av e c]
theorem n0 (a:X.N.Nodup) (ar:X.N[i]?=some x) (ae:Loc X.env.scope x) (hf:X.fn x=.t\/X.env.scope.names.lookup x=some .local:=by first|exact .inl Y|exact .inr Y|assumption):iz X (.Name x pos) (e4 i) :=
 #[Sl a ar ae hf]
theorem tC (af:X.warm=.t) (h:sq X aj t) (ao:(assignEach aj X.env).length=n:=by rfl) (a:(assignEach aj X.env).findIdx? (·.1)=.n:=by rfl):iz X (.Tuple aj k pos) (o6 X.K n t) :=
 #[Q4 af h.o ao a]
theorem Fp (aA:aZ X o to) (ar:aZ X i c) (av:y_ X t) (ak:∀ v,assign (.Subscript o i pos) X.env v=(do
   let a ← holding [v] (eval o X.env)
   let b ← holding [v,a] (eval i X.env)
   standAt pos
   holding [v,a,b] (setItem a b v)
   release [v,a,b] []):=by intro _;rfl):iz X (.Subscript o i pos) (Ea to c t) :=
 #[Q3 aA.o ar.o av ak]
theorem lp  : sq X [] ta :=
 #[Sm ]
theorem fD (U:iz X e t) (aa:sq X aj u) (av:(assignEach (e::aj) X.env).map (·.2)=assign e X.env::(assignEach aj X.env).map (·.2):=by rfl):sq X (e::aj) (md t u) :=
 #[Uz U.o aa.o av]
theorem tE (a:X.N.Nodup) (ar:X.N[i]?=some x) (ae:Loc X.env.scope x) (he:aZ X e bg) (av:swapsWith e (some (.Name x pos')) pos.line X.env=pure .f:=by rfl) (hf:X.fn x=.t\/X.env.scope.names.lookup x=some .local:=by first|exact .inl Y|exact .inr Y|assumption):e0 X (.Assign [.Name x pos'] e pos) (kR bg (e4 i)) :=
 #[Rb a ar ae he.o av hf]
theorem Fq (he:aZ X e bg) (a:iz X a4 g) (av:swapsWithSole [a4] e pos.line X.env=pure .f:=by rfl) (hw:swappedStores [a4] e X.env=pure .n:=by rfl) (U:(assignEach [a4] X.env).map (·.2)=[assign a4 X.env]:=by rfl):e0 X (.Assign [a4] e pos) (kR bg g) :=
 #[Q8 he.o a.o av hw U]
theorem bb (he:aZ X e bg):e0 X (.Return (some e) pos) (EH bg) :=
 #[Ra he.o]
theorem gU (he:aZ X e bg) (av:swapsWith e .n pos.line X.env=pure .f:=by rfl):e0 X (.Expr e pos) (E0 bg) :=
 #[Ss he.o av]
theorem bM (af:hv X c cg) (ak:fH X a t) (d:fH X b u):e0 X (.If c a b pos) (EE cg t u) :=
 #[Qf af.o ak.o d.o]
theorem ri (ah:PassesOwn (model X.prog X.w) X.A X.env X.a5) (af:hv X c cg) (a:fH X body a7):e0 X (.While c body [] pos) (zY cg a7) :=
 #[UD ah af.o a.o]
theorem hQ (ah:PassesOwn (model X.prog X.w) X.A X.env X.a5) (af:X.warm=.t) (ar:iA X a4 iter c) (b:iz X a4 g) (a:fH X body a7) (av:∀ x,foldedSetIterable iter X.env x=pure x:=by intro _;rfl):e0 X (.For a4 iter body [] pos) (ED c g a7) :=
 #[Q_ ah af ar.o b.o a.o av]
theorem bO  : fH X [] E3 :=
 #[Sv ]
theorem aJ (U:e0 X st t):fH X [st] t :=
 #[Sw U.o]
theorem aH {rest:List Stmt} (U:e0 X st t) (aa:fH X rest u):fH X (st::rest) (vu t u) :=
 #[UE U.o aa.o]
theorem gu:qd X [] kc :=
 #[Sz ]
theorem t2 (af:hv X c t):qd X [c] t :=
 #[SA af.o]
theorem dw.pt (h:dw X e t):hv X e t :=
 #[kn.pt h.o]
theorem gs
  (C:jn X scope cl N js) (af:X.warm=.t) (ar:iA X a4 iter f)
  (e:∀ aF pins s H,iz (cC X scope cl N aF pins s H λ Z Z=>False) a4 g)
  (aG:∀ aF pins s H,qd (cC X scope cl N aF pins s H λ Z Z=>False) cs cg)
  (he:∀ aF pins s H,aZ (cC X scope cl N aF pins s H λ Z Z=>False) elt bg)
  (av:∀ x,foldedSetIterable iter X.env x=pure x:=by intro _;rfl):aZ X (.ListComp elt [#[a4,iter,cs,0]] scope pos) (jY js f g cg bg) :=
 #[Sg C af ar.o (λ a b c d=>(e a b c d).o) (λ a b c d=>(aG a b c d).o) (λ a b c d=>(he a b c d).o) av]
theorem fG.dO {K:aP} (F:fG K x qual st f fd) (S:bH N ai (bo st)) (len:∀ vs H Q E,sp vs H Q E->vs.length=ai.length)
  (c:∀ a0 A outer s H vs Q E,cR k (A.deeper (envOfC qual (bo st) s.heap.objs.size f a0))->sp vs H Q E ->
   ∃ t,fH (fj cn P w K mg base N qual (bo st) f a0 A outer s H E).sV (iV st) t/\t { bf:=λ Z H'=>Q .aQ H',iC:=Q } (start N vs) H):dB P w K mg base cn (k+1) f fd ai sp :=
 F.ok S len λ a0 A outer s H vs Q E d h=>let ⟨t,a,b⟩:=c a0 A outer s H vs Q E d h;⟨t,a.o,b⟩
theorem cI.imp (h:cI X f r) (i:∀ x y H Q,a x y H Q->r x y H Q):cI X f a:=λ pins s σ H x y v u Q I b c z=>h pins s σ H x y v u Q I b c (i x y H Q z)
theorem ep.imp (h:ep X f r) (i:∀ xs H Q,a xs H Q->r xs H Q):ep X f a:=λ pins s σ H xs us Q I b z=>h pins s σ H xs us Q I b (i xs H Q z)
theorem m3.imp {id:String} (h:m3 X id r) (i:∀ x xs H Q,a x xs H Q->r x xs H Q):m3 X id a:=λ pins s σ H x xs v us Q I b rs z=>h pins s σ H x xs v us Q I b rs (i x xs H Q z)
def fi (o:eZ) (H:aD) (Q:b2):Prop:=∀ p H',H p=.n->ay H H'->H' p=some o->Q (.ref p) H'
theorem fi.at (q:fi o H Q):∀ p,H p=.n->Q (.ref p) (upd H p o):=λ p ah=>q p _ ah (bV.ay.new ah) bN
def E5 (t:c2):TE:=λ σ H Q=>t σ H λ xs H1=>xs.length<=sizeLine/\fi (.tup xs) H1 Q
def vG (t:c2):TE:=λ σ H Q=>t σ H λ xs H1=>xs.length<=sizeLine/\fi (.lst xs) H1 Q
def Fz:TE:=λ Z H Q=>fi (.cM []) H Q
section
variable {X:aW}
theorem hp {d} (h:dG X aj t):aZ X (.Tuple aj d pos) (E5 t):=#[by
 intro pins s σ H Q I c;refine wpAny_Tuple_spliced (aU (h.o pos pins s σ H _ I c) ?_);rintro us s1 ⟨xs,H1,a,r,z,q⟩;refine #[by rw [<-r.length];exact z,?_];have hf:=a.aK.fresh (bx _);refine #[.ref s1.heap.objs.size,upd H1 s1.heap.objs.size (.tup xs),a.laid (λ b u e=>a9 _ e) (bx _) ?_,Y,q.at _ hf];exact #[z,us,r,#[_,cJ _ Y,Y,#[_,Y],Y]]]
theorem d5 (h:dG X aj t):aZ X (.List aj pos) (vG t):=#[by
 intro pins s σ H Q I c;refine wpAny_List_spliced (aU (h.o pos pins s σ H _ I c) ?_);rintro us s1 ⟨xs,H1,a,r,z,q⟩;refine #[by rw [<-r.length];exact z,?_];have hf:=a.aK.fresh (bx _);refine #[.ref s1.heap.objs.size,upd H1 s1.heap.objs.size (.lst xs),a.laid (λ b u e=>a9 _ e) (bx _) ?_,Y,q.at _ hf];exact #[z,us,0,r,cJ _ Y]]
theorem A3:aZ X (.Dict [] [] pos) Fz:=#[λ pins s σ H Q I h=>Sh pins s σ H Q I (fi.at h)]
inductive Fs:gb
 |mk {x y H Q} (l b xs zs):x=.ref l->y=.ref b->H l=some (.lst xs)->H b=some (.lst zs)->xs.length+zs.length<=sizeLine->fi (.lst (xs++zs)) H Q->Fs x y H Q
theorem jA:cI X (binaryOp .Add) Fs:=QM.imp (by rintro x y H Q ⟨l,b,xs,zs,a,c,U,aa,d,q⟩;exact #[l,b,xs,zs,a,c,U,aa,d,q.at])
def Rr:gb:=λ x y H Q=>∃ l k xs,x=.ref l/\y=.int k/\H l=some (.tup xs)/\xs≠[]/\2<=k/\k<2 ^ 63/\xs.length*k.toNat<=sizeLine/\fi (.tup (List.replicate k.toNat xs).flatten) H Q
theorem Uj:cI X (binaryOp .Mult) Rr:=Sa.imp (by rintro x y H Q ⟨l,k,xs,a,b,U,aa,c,d,e,q⟩;exact #[l,k,xs,a,b,U,aa,c,d,e,q.at])
def Rq:gb:=λ x y H Q=>∃ l k xs,x=.ref l/\y=.int k/\H l=some (.lst xs) /\ -(2 ^ 63)<=k/\k<2 ^ 63/\xs.length*k.toNat<=sizeLine/\fi (.lst (List.replicate k.toNat xs).flatten) H Q
theorem Ui:cI X (binaryOp .Mult) Rq:=QO.imp (by rintro x y H Q ⟨l,k,xs,a,b,U,aa,c,d,q⟩;exact #[l,k,xs,a,b,U,aa,c,d,q.at])
inductive KY (K:aP):bh->aD->b2->Prop
 |mk {xs H Q} (p ys):xs=[.ref p]->aS K H p ys->fi (.tup ys) H Q->KY K xs H Q
theorem n9:ep X (.type "tuple") (KY X.K):=Ke.imp (by rintro xs H Q ⟨p,ys,e,h,q⟩;exact #[p,ys,e,.inl #[h,q.at]])
inductive Hf:V->bh->aD->b2->Prop
 |mk {x vs H Q} (l xs y):x=.ref l->vs=[y]->H l=some (.lst xs)->xs.length<sizeLine->(∀ H',bV.cB l H H'->H' l=some (.lst (xs++[y]))->Q .aQ H')->Hf x vs H Q
theorem xa:m3 X "list.append" Hf:=ue.imp (by rintro x vs H Q ⟨l,xs,y,a,b,U,aa,q⟩;exact #[l,xs,y,a,b,U,aa,q _ bV.cB.upd bN])
end
end bj
namespace bV
open PySem bj
def jg (H H':aD):Prop:=∀ b o,H b=some o->H' b=some o\/∃ xs ys,o=.lst xs/\H' b=some (.lst ys)
theorem jg.of (s:ay H H'):jg H H':=λ b o h=>.inl (s b o h)
theorem jg.tup (k:jg H H') (h:H b=some (.tup xs)):H' b=some (.tup xs):=by
 rcases k b _ h with z|⟨_,_,e,_⟩
 ·exact z
 ·cases e
theorem jg.kind (s:jg H H') (k:dh H v):dh H' v:=by
 cases v with
 | ref a =>
  rcases k with ⟨xs,e⟩|⟨xs,e⟩|⟨kvs,e⟩
  ·exact .inl #[xs,s.tup e]
  ·rcases s _ _ e with z|⟨_,ys,_,z⟩
   ·exact .inr (.inl #[xs,z])
   ·exact .inr (.inl #[ys,z])
  ·rcases s _ _ e with z|⟨_,ys,w,z⟩
   ·exact .inr (.inr #[kvs,z])
   ·cases w
 | aQ=>trivial
 | aO b=>trivial
 | int i=>trivial
 | str x=>trivial
 | h8 b=>exact False.elim k
 | lR b=>exact False.elim k
 | ty b=>exact False.elim k
theorem jg.eT (s:jg H H') (k:dh H v):bV.eT H' v=bV.eT H v:=by
 cases v with
 | ref a =>
  rcases k with ⟨xs,e⟩|⟨xs,e⟩|⟨kvs,e⟩
  ·show jW (H' a)=jW (H a);rw [s.tup e,e]
  ·show jW (H' a)=jW (H a);rcases s _ _ e with z|⟨_,ys,_,z⟩<;>rw [z,e]<;>rfl
  ·show jW (H' a)=jW (H a);rcases s _ _ e with z|⟨_,ys,w,z⟩
   ·rw [z,e]
   ·cases w
 | _=>rfl
def hI (H:aD) (v:V):Prop:=dh H v/\∀ xs,eT H v=some xs->xs.length<=1000/\∀ x∈xs,dh H x
def vn (H:aD) (v:V):Prop:=dh H v/\∀ xs,eT H v=some xs->xs.length<=1000/\∀ x∈xs,hI H x
theorem jg.hI (s:jg H H') (k:bV.hI H v):bV.hI H' v:=by
 obtain ⟨k,bI⟩:=k;refine #[s.kind k,λ xs e=>?_];rw [s.eT k] at e;obtain ⟨l,m⟩:=bI xs e;exact #[l,λ x ae=>s.kind (m x ae)]
section
variable {H:aD} {p:Addr} {xs:bh}
theorem GW (h:H p=some (.tup xs)):dh H (.ref p):=.inl #[xs,h]
theorem AO (h:H p=some (.tup xs)) (l:xs.length<=1000) (m:∀ x∈xs,dh H x):hI H (.ref p):=#[GW h,λ ys e=>by rw [nY h] at e;cases e;exact #[l,m]]
theorem GA (h:H p=some (.tup xs)) (l:xs.length<=1000) (m:∀ x∈xs,hI H x):vn H (.ref p):=#[GW h,λ ys e=>by rw [nY h] at e;cases e;exact #[l,m]]
theorem all2 {α: Type} {p: α -> Prop} {x y: α} (a:p x) (b:p y):∀ z∈[x,y],p z:=lg.mpr #[a,lg.mpr #[b,eX _]]
end
theorem item_at {vs:bh} {r:Int} {n:Nat} (h0:0<=r) (U:r<n) (b:vs.length=n):∃ v,h6 vs r=some v/\v∈vs/\vs[r.toNat]?=some v:=by
 have a:r.toNat<vs.length:=by omega
 exact #[vs[r.toNat],eH h0 (cK a),iw a,cK a]
end bV
namespace bj
open PySem PySem.Spec PyProof.Rows
section
variable {κ: Type} [DecidableEq κ]
noncomputable def bU (kvs:List (κ×V)) (k : κ):fX:=(kvs.find? λ a=>decide (a.1=k)).map (·.2)
noncomputable def putK (kvs:List (κ×V)) (k : κ) (v:V):List (κ×V) :=
 if (kvs.any λ a=>decide (a.1=k))=.t then kvs.map (λ a=>if a.1=k then (a.1,v) else a) else kvs++[(k,v)]
noncomputable def mb (kvs:List (κ×V)) (k : κ):List (κ×V):=kvs.filter λ a=>decide (a.1≠k)
theorem jD {p: κ×V} {r:List (κ×V)} {k: κ} (e:p.1=k):bU (p::r) k=some p.2:=by simp [bU,pG,e]
theorem iY {p: κ×V} {r:List (κ×V)} {k: κ} (e:¬ p.1=k):bU (p::r) k=bU r k:=by simp [bU,pG,e]
theorem wZ (k : κ):∀ kvs:List (κ×V),(kvs.any λ a=>decide (a.1=k))=(bU kvs k).isSome
 | []=>rfl
 | p::r=>by
  rw [pE];by_cases e:p.1=k
  ·simp only [jD e,bc e,Bool.true_or,Option.isSome_some]
  ·rw [iY e,bZ e,Bool.false_or];exact wZ k r
theorem Hz (k j : κ) (y:V):∀ kvs:List (κ×V),bU (kvs.map λ a=>if a.1=k then (a.1,y) else a) j=(bU kvs j).map λ x=>if j=k then y else x
 | []=>rfl
 | p::r=>by
  have b:=Hz k j y r;rw [es];by_cases h:p.1=k
  ·rw [if_pos h];by_cases e:p.1=j
   ·rw [jD (p:=(p.1,y)) e,jD e,Option.map_some,if_pos (e.symm.trans h)]
   ·rw [iY (p:=(p.1,y)) e,iY e,b]
  ·rw [if_neg h];by_cases e:p.1=j
   ·rw [jD e,jD e,Option.map_some,if_neg (λ z=>h (e.trans z))]
   ·rw [iY e,iY e,b]
theorem Iy (k j : κ) (y:V):∀ kvs:List (κ×V),bU kvs k=.n->bU (kvs++[(k,y)]) j=if j=k then some y else bU kvs j
 | [],_=>by
  by_cases e:k=j
  ·rw [if_pos e.symm];exact jD e
  ·rw [if_neg (λ z=>e z.symm)];exact iY e
 | p::r,ao=>by
  rw [List.cons_append];have a:¬ p.1=k:=λ z=>by rw [jD z] at ao;cases ao
  rw [iY a] at ao;have b:=Iy k j y r ao;by_cases e:p.1=j
  ·rw [jD e,jD e,if_neg (λ z=>a (e.trans z))]
  ·rw [iY e,iY e,b]
theorem A7 (kvs:List (κ×V)) (k j : κ) (y:V):bU (putK kvs k y) j=if j=k then some y else bU kvs j:=by
 unfold putK;by_cases a:(kvs.any λ b=>decide (b.1=k))=.t
 ·rw [if_pos a,Hz];rw [wZ] at a;by_cases e:j=k
  ·obtain ⟨x,ae⟩:=tu.mp a;rw [if_pos e,e,ae,Option.map_some,if_pos rfl]
  ·rw [if_neg e];cases bU kvs j with
   | none=>rfl
   | some x=>rw [Option.map_some,if_neg e]
 ·rw [if_neg a];refine Iy k j y kvs ?_;rw [wZ] at a;cases q:bU kvs k with
  | none=>rfl
  | some x=>rw [q] at a;exact (a Y).elim
theorem BE (kvs:List (κ×V)) (k : κ) (v:V):(putK kvs k v).length<=kvs.length+1:=by
 unfold putK;split
 ·rw [bz];omega
 ·rw [c9,gq,List.length_nil];omega
theorem fJ.ud (r:fJ o u):o.isSome=u.isSome:=by
 cases o with
 | none=>cases u with
  | none=>rfl
  | some _=>exact r.elim
 | some _=>cases u with
  | none=>exact r.elim
  | some _=>rfl
theorem fJ.getD (r:fJ o u) (a:RelV d b4):RelV (o.getD d) (u.getD b4):=by
 cases o with
 | none=>cases u with
  | none=>exact a
  | some _=>exact r.elim
 | some _=>cases u with
  | none=>exact r.elim
  | some _=>exact r
theorem fu.val {kvs:List (κ×V)} {vs:List (κ×Value)} (r:fu kvs vs) (k : κ):fJ (bU kvs k) (valueAt vs k):=by
 induction r with
 | nil=>exact True.intro
 | @cons p q ai c h t d =>
  obtain ⟨U,aa⟩:=h;by_cases e:p.1=k
  ·have a:=U.symm.trans e;have b:valueAt (q::c) k=some q.2:=by simp [valueAt,pG,a]
   rw [jD e,b];exact aa
  ·have a:¬ q.1=k:=λ z=>e (U.trans z)
   have b:valueAt (q::c) k=valueAt c k:=by simp [valueAt,pG,a]
   rw [iY e,b];exact d
theorem fu.any {kvs:List (κ×V)} {vs:List (κ×Value)} (r:fu kvs vs) (k : κ):(kvs.any λ a=>decide (a.1=k))=vs.any λ a=>decide (a.1=k):=by
 induction r with
 | nil=>rfl
 | cons h t b=>rw [pE,pE,b,h.1]
theorem fu.o_ {kvs:List (κ×V)} {vs:List (κ×Value)} (r:fu kvs vs) (k : κ) {y:V} {u:Value} (c:RelV y u) :
  fu (kvs.map λ a=>if a.1=k then (a.1,y) else a) (vs.map λ a=>if a.1=k then (a.1,u) else a):=by
 induction r with
 | nil=>exact .nil
 | @cons p q ai d h t b =>
  rw [es,es];refine .cons ?_ b;obtain ⟨U,aa⟩:=h;by_cases e:p.1=k
  ·rw [if_pos e,if_pos (U.symm.trans e)];exact #[U,c]
  ·rw [if_neg e,if_neg (λ z=>e (U.trans z))];exact #[U,aa]
theorem fu.put {kvs:List (κ×V)} {vs:List (κ×Value)} (r:fu kvs vs) (k : κ) {y:V} {u:Value} (a:RelV y u):fu (putK kvs k y) (stored vs k u):=by
 unfold putK stored;rw [r.any k];by_cases e:(vs.any λ b=>decide (b.1=k))=.t
 ·rw [if_pos e,if_pos e];exact r.o_ k a
 ·rw [if_neg e,if_neg e];exact Paired.snoc r #[Y,a]
theorem fu.drop {kvs:List (κ×V)} {vs:List (κ×Value)} (r:fu kvs vs) (k : κ):fu (mb kvs k) (without vs k):=by
 unfold mb without
 induction r with
 | nil=>exact .nil
 | @cons p q ai f h t c =>
  obtain ⟨U,aa⟩:=h;rw [List.filter_cons,List.filter_cons];by_cases e:p.1=k
  ·have a:¬ decide (p.1≠k)=.t:=by simp [e]
   have b:¬ decide (q.1≠k)=.t:=by simp [U.symm.trans e]
   rw [if_neg a,if_neg b];exact c
  ·have d:¬ q.1=k:=λ z=>e (U.trans z)
   have a:decide (p.1≠k)=.t:=by simp [e]
   have b:decide (q.1≠k)=.t:=by simp [d]
   rw [if_pos a,if_pos b];exact .cons #[U,aa] c
theorem fu.keys {kvs:List (κ×V)} {vs:List (κ×Value)} (r:fu kvs vs):kvs.map (·.1)=vs.map (·.1):=by
 induction r with
 | nil=>rfl
 | cons h t a=>rw [es,es,a,h.1]
theorem fu.length {kvs:List (κ×V)} {vs:List (κ×Value)} (r:fu kvs vs):kvs.length=vs.length:=Paired.length r
theorem TJ (kvs:List (κ×V)) (k : κ):(mb kvs k).length<=kvs.length:=z8 _ _
end
theorem qA (r:RelV (cT k) u):(gT P w).is k u=.t:=by
 cases k with
 | inl i=>obtain ⟨t,e⟩:=r;subst e;exact Ji P w i t
 | inr x=>obtain ⟨t,e⟩:=r;subst e;exact Jj P w x t
theorem H4:∀ {ks:List Key} {us:List Value},Vals (ks.map cT) us->ItemsAre (gT P w) ks us
 | [],_,r=>by rw [j6] at r;cases r;exact .nil
 | k::ks,_,r=>by
  rw [es] at r;cases r with
  | cons h t=>exact .cons (qA h) (H4 t)
abbrev KT (H:aD):List (List Key×V)->List (List Key×Addr×Value)->Prop:=Paired λ p q=>p.1=q.1/\H q.2.1=some (.tup (p.1.map cT))/\RelV p.2 q.2.2
theorem KT.val (r:KT H kvs xs) (k):fJ (bU kvs k) ((atKey xs k).map (·.2)):=by
 induction r with
 | nil=>exact True.intro
 | @cons p q ai c h t d =>
  obtain ⟨U,_,aa⟩:=h;by_cases e:p.1=k
  ·have a:=U.symm.trans e;have b:atKey (q::c) k=some q.2:=by simp [atKey,pG,a]
   rw [jD e,b];exact aa
  ·have a:¬ q.1=k:=λ z=>e (U.trans z)
   have b:atKey (q::c) k=atKey c k:=by simp [atKey,pG,a]
   rw [iY e,b];exact d
theorem KT.o_ (r:KT H kvs xs) (k) (d:RelV y u) :
  KT H (kvs.map λ a=>if a.1=k then (a.1,y) else a) (xs.map (putAt k u)):=by
 induction r with
 | nil=>exact .nil
 | @cons p q ai f h t c =>
  rw [es,es];refine .cons ?_ c;obtain ⟨U,aa,b⟩:=h;unfold putAt;by_cases e:p.1=k
  ·rw [if_pos e,if_pos (U.symm.trans e)];exact #[U,aa,d]
  ·rw [if_neg e,if_neg (λ z=>e (U.trans z))];exact #[U,aa,b]
theorem KT.put (r:KT H kvs xs) (k) (c:H b=some (.tup (k.map cT))) (a:RelV y u) :
  KT H (putK kvs k y) (storedH xs k b u):=by
 have e:(kvs.any λ d=>decide (d.1=k))=(atKey xs k).isSome:=by
  rw [wZ,(r.val k).ud,Option.isSome_map]
 unfold putK storedH;rw [e];by_cases q:(atKey xs k).isSome=.t
 ·rw [if_pos q,if_pos q];exact r.o_ k a
 ·rw [if_neg q,if_neg q];exact Paired.snoc r #[Y,c,a]
theorem KT.keeps (r:KT H kvs xs) (aG:∀ b ys,H b=some (.tup ys)->H' b=some (.tup ys)):KT H' kvs xs :=
 Paired.Ej r λ Z Z z=>#[z.1,aG _ _ z.2.1,z.2.2]
section
variable {P:Program} {w:World} {H:aD} {h:Heap} {a:Addr}
theorem EY (ok:cU P w H h) (e:ko H a u):eh P w H h a u:=e.ok ok
theorem qy (ok:cU P w H h) (e:ko H a (.cM kvs)):kvs.length<=sizeLine/\(a==sysModules)=.f/\∃ vs,fu kvs vs/\h.DictOf (gT P w) a vs :=
 show eh P w H h a (.cM kvs) from EY ok e
theorem tk (ok:cU P w H h) (e:H a=some (.cM kvs)):kvs.length<=sizeLine/\(a==sysModules)=.f/\∃ vs,fu kvs vs/\h.DictOf (gT P w) a vs:=qy ok (.inl e)
theorem tB (ok:cU P w H h) (e:H a=some (.tup (ks.map cT))):(tupleKind (gT P w)).is h ks a:=by
 obtain ⟨_,c,r,o,U,aa,⟨n,b⟩,_⟩:=(ok a _ e)
 exact #[o,c.toArray,n,U,aa,b,by simpa using H4 r]
theorem tl (ok:cU P w H h) (e:ko H a (.ez kvs)):kvs.length<=sizeLine/\(a==sysModules)=.f /\
  ∃ xs,KT H kvs xs/\h.DictOfH (tupleKind (gT P w)) a xs:=by
 obtain ⟨z,y,xs,r,o,aj,c,U,aa,d,f,g⟩:=(EY ok e)
 refine #[z,y,xs,r,o,aj,c,U,aa,d,f,λ x ae=>?_,g];have all:∀ {l:List (List Key×V)} {m:List (List Key×Addr×Value)},KT H l m->∀ x∈m,(tupleKind (gT P w)).is h x.1 x.2.1:=by
  intro l m q
  induction q with
  | nil=>intro x ae;exact nomatch ae
  | @cons p q ai j b t i =>
   intro x ae;rcases bt.mp ae with e|ae
   ·subst e;exact tB ok (by rw [<-b.1];exact b.2.1)
   ·exact i x ae
 exact all r x ae
theorem PZ (ok:cU P w H h) (e:H a=some (.ez kvs)):kvs.length<=sizeLine/\(a==sysModules)=.f /\
  ∃ xs,KT H kvs xs/\h.DictOfH (tupleKind (gT P w)) a xs:=tl ok (.inl e)
end
def ie (H:aD) (a:Addr) (y:V) (r:fX):Prop :=
 (∃ kvs k,ko H a (.cM kvs)/\y=cT k/\r=bU kvs k)\/∃ kvs k b,ko H a (.ez kvs)/\y=.ref b/\H b=some (.tup (k.map cT))/\r=bU kvs k
def ng (H:aD) (a:Addr) (y v:V) (H':aD):Prop :=
 (∃ kvs k,H a=some (.cM kvs)/\y=cT k/\kvs.length<sizeLine/\H'=upd H a (.cM (putK kvs k v))) \/
 ∃ kvs k b,H a=some (.ez kvs)/\y=.ref b/\H b=some (.tup (k.map cT))/\kvs.length<sizeLine/\H'=upd H a (.ez (putK kvs k v))
theorem ie.k {k:Key} (e:H a=some (.cM kvs)):ie H a (cT k) (bU kvs k):=.inl #[kvs,k,.inl e,Y,Y]
theorem ie.t {k:List Key} (e:H a=some (.ez kvs)) (c:H b=some (.tup (k.map cT))):ie H a (.ref b) (bU kvs k):=.inr #[kvs,k,b,.inl e,Y,c,Y]
theorem ng.k {k:Key} (e:H a=some (.cM kvs)) (b:kvs.length<sizeLine):ng H a (cT k) v (upd H a (.cM (putK kvs k v))):=.inl #[kvs,k,e,Y,b,Y]
theorem ng.t {k:List Key} (e:H a=some (.ez kvs)) (c:H b=some (.tup (k.map cT))) (d:kvs.length<sizeLine) :
  ng H a (.ref b) v (upd H a (.ez (putK kvs k v))):=.inr #[kvs,k,b,e,Y,c,d,Y]
section
variable {X:aW} {pins:ef} {σ:St} {H:aD} {s:Shared} {a:Addr} {y v:V} {u r:Value} {o:fX} {A:Around} {E:c0}
theorem Inv.big (I:Inv X pins σ H s):sysModules<s.heap.objs.size:=by
 have h:=(I.mod.glob.keeps I.bl).lt;exact Nat.lt_trans .aB h
theorem HW (m:A.units+1<cLine) (I:Inv X pins σ H s) (g:ie H a y (some v)) (f:RelV y u) (h:∀ b1 s',Inv X pins σ H s'->RelV v b1->Q b1 s') :
  wpAny (model X.prog X.w) A (getItem (.ref a) u) Q E s:=by
 rcases g with ⟨kvs,k,e,c,l⟩|⟨kvs,k,b,e,c,i,l⟩
 ·subst c;obtain ⟨z,hd,vs,rel,dd⟩:=qy I.aK e;obtain ⟨b1,hw,d⟩:=fJ.some_of (by rw [l];exact rel.val k);exact wpAny_getItem_of (qA f) dd.mapOf hw (h b1 _ (I.tok _) d)
 ·subst c;cases f;obtain ⟨z,hd,xs,rel,dd⟩:=tl I.aK e;obtain ⟨b1,hw,d⟩:=fJ.some_of (by rw [l];exact rel.val k);obtain ⟨p,ah,j⟩:=tM.mp hw;refine wpAny_getItem_heap (v_ m) (tB I.aK i) dd ah ?_;rw [j];exact h b1 _ (I.tok _) d
theorem Pm (i:A.units+1<cLine) (I:Inv X pins σ H s) (g:ie H a y o) (d:RelV y u) (h:∀ s',Inv X pins σ H s'->Q (.bool o.isSome) s') :
  wpAny (model X.prog X.w) A (compareOp .In u (.ref a)) Q E s:=by
 rcases g with ⟨kvs,k,e,c,l⟩|⟨kvs,k,b,e,c,f,l⟩
 ·subst c;obtain ⟨z,hd,vs,rel,dd⟩:=qy I.aK e;refine wpAny_in_of (qA d) hd dd.mapOf ?_;rw [<-(rel.val k).ud,<-l];exact h _ (I.tok _)
 ·subst c;cases d;obtain ⟨z,hd,xs,rel,dd⟩:=tl I.aK e;refine wpAny_in_heap (v_ i) (tB I.aK f) hd dd ?_;have q:=(rel.val k).ud;rw [Option.isSome_map] at q;rw [<-q,<-l];exact h _ (I.tok _)
theorem RK (i:A.units+1<cLine) (I:Inv X pins σ H s) (g:ie H a y o) (d:RelV y u) (h:∀ s',Inv X pins σ H s'->Q (.bool (!o.isSome)) s') :
  wpAny (model X.prog X.w) A (compareOp .NotIn u (.ref a)) Q E s:=by
 rcases g with ⟨kvs,k,e,c,l⟩|⟨kvs,k,b,e,c,f,l⟩
 ·subst c;obtain ⟨z,hd,vs,rel,dd⟩:=qy I.aK e;refine wpAny_notIn_of (qA d) hd dd.mapOf ?_;rw [<-(rel.val k).ud,<-l];exact h _ (I.tok _)
 ·subst c;cases d;obtain ⟨z,hd,xs,rel,dd⟩:=tl I.aK e;refine wpAny_notIn_heap (v_ i) (tB I.aK f) hd dd ?_;have q:=(rel.val k).ud;rw [Option.isSome_map] at q;rw [<-q,<-l];exact h _ (I.tok _)
theorem Ap (I:Inv X pins σ H s) (d:sm (H a)) (av:Heap.SameBut a s.heap h') (he:∃ q,h'.get? a=some q) (new:eh X.prog X.w (upd H a bD) h' a bD) :
  Inv X pins σ (upd H a bD) { s with heap:=h',toks:=t' } :=
 I.write d (.inl Y) (λ b q c z=>(av.2 b c).trans z) he new
theorem Fd (z:kvs.length<=sizeLine) (hd:(a==sysModules)=.f) (rel:fu kvs vs) (dd:h'.DictOf (gT P w) a vs) :
  eh P w H' h' a (.cM kvs):=#[z,hd,vs,rel,dd]
theorem Be (G:A.units+1<cLine) (I:Inv X pins σ H s) (g:ng H a y v H') (t:RelV y u) (p:RelV v r) (h:∀ s',Inv X pins σ H' s'->Q () s') :
  wpAny (model X.prog X.w) A (setItem (.ref a) u r) Q E s:=by
 rcases g with ⟨kvs,k,e,i,l,f⟩|⟨kvs,k,b,e,i,m,l,f⟩
 ·subst i f;obtain ⟨z,hd,vs,rel,dd⟩:=tk I.aK e;have aC:vs.length<=sizeLine:=by rw [<-rel.length];exact z
  have j:(putK kvs k v).length<=sizeLine:=by have:=BE kvs k v;omega
  refine wpAny_setItem_pairs (qA t) dd λ h' kH av=>h _ ?_
  have he:∃ q,h'.get? a=some q:=let ⟨q,_,_,d,_⟩:=kH;⟨q,d⟩
  exact Ap I (by rw [e];exact True.intro) av he (Fd j hd (rel.put k p) kH)
 ·subst i f;cases t;obtain ⟨z,hd,xs,rel,dd⟩:=PZ I.aK e;have aC:xs.length<=sizeLine:=by rw [<-Paired.length rel];exact z
  have j:(putK kvs k v).length<=sizeLine:=by have:=BE kvs k v;omega
  refine wpAny_setItem_heap (v_ G) (tB I.aK m) dd λ h' kH av=>h _ ?_
  obtain ⟨q,aj,x,d,aa,B,C,_,D⟩:=kH;refine Ap I (by rw [e];exact True.intro) av #[q,d] #[j,hd,_,(rel.put k m p).keeps λ c ys n=>?_,q,aj,x,d,aa,B,C,D];rw [bC (fo n e (λ z=>nomatch z))];exact n
end
section
variable {X:aW} {pins:ef} {σ:St} {H:aD} {s:Shared} {a:Addr} {kvs:List (Key×V)} {k:Key} {u:Value} {A:Around} {E:c0}
theorem PY (I:Inv X pins σ H s) (e:H a=some (.cM kvs)) (b:RelV (cT k) u) (l:bU kvs k=some v) (hm:more=[]\/∃ x,more=[x])
  (h:∀ b1 s',Inv X pins σ (upd H a (.cM (mb kvs k))) s'->RelV v b1->Q b1 s'):wpAny (model X.prog X.w) A (call (.builtin "dict.pop") (.ref a::u::more)) Q E s:=by
 obtain ⟨z,hd,vs,rel,dd⟩:=tk I.aK e;obtain ⟨b1,hw,d⟩:=fJ.some_of (by rw [<-l];exact rel.val k);have ah:(keyPart u).isSome=.t:=by
  cases k with
  | inl i=>obtain ⟨t,q⟩:=b;subst q;rfl
  | inr x=>obtain ⟨t,q⟩:=b;subst q;rfl
 have ak:argsOk "dict.pop" ⟨.ref a::u::more,[]⟩:=by
  rcases hm with q|⟨x,q⟩
  ·subst q;exact PySem.F.args_dict_pop_2 _ _
  ·subst q;exact PySem.F.args_dict_pop_3 _ _ _
 refine call_meetsIn PySem.F.slot_dict_pop dd.typeIs PySem.F.entry_dict_pop ak (meets_dict_pop_there (gT X.prog X.w) a (qA b) more hm ah)
  #[vs,b1,dd,by rw [<-rel.length];exact z,hw,λ h' kH av=>h b1 _ ?_ d]
 have he:∃ q,h'.get? a=some q:=let ⟨q,_,_,c,_⟩:=kH;⟨q,c⟩
 exact Ap I (by rw [e];exact True.intro) av he (Fd (dF (TJ kvs k) z) hd (rel.drop k) kH)
theorem PX (I:Inv X pins σ H s) (e:ko H a (.cM kvs)) (h:∀ t s',Inv X pins σ H s'->Q (.int kvs.length t) s'):wpAny (model X.prog X.w) A (call (.builtin "len") [.ref a]) Q E s:=by
 obtain ⟨z,hd,vs,rel,dd⟩:=qy I.aK e;refine call_len_dict hd dd (by rw [<-rel.length];rw [b7] at z;omega) ?_;rw [<-rel.length];exact h _ _ (I.tok _)
end
def y8 (i:Expr):Prop:=∀ b a,subscripted i .f b a=operate [b,a] (getItem b a)
theorem Gs {id:String}
  (b:typeLookup (.type T) "__getitem__" = pure (some (.builtin id))) (av:y8 slice)
  (h:wpAny (model prog w) A (eval value env) (λ o s₁=>wpAny (model prog w) A (eval slice env) (λ i s₂=>s₂.TypeIs o T/\wpAny (model prog w) A (getItem o i) Q E s₂) E s₁) E s) :
  wpAny (model prog w) A (eval (.Subscript value slice pos) env) Q E s:=by
 refine Subscript_ (d_ h (λ o s₁ h₁=>d_ h₁ (λ i s₂ h₂=>?_) λ Z Z x=>x) λ Z Z x=>x);obtain ⟨a,h₂⟩:=h₂;refine ax ?_;rw [getitemInPython_of_ne a.not_modules];refine ax (vM a b ?_);have fin:wpAny (model prog w) A (subscripted slice .f o i) (λ r s₃=>wpAny (model prog w) A (letTemporaryGo value o r>>=λ Z=>pure r) Q E s₃) E s₂:=by
  rw [av o i];exact wpAny_operating (d_ h₂ (λ r s₃ h₃=>ax (wpAny_letTemporaryGo (a_ h₃))) λ Z Z x=>x)
 exact a_ (ax fin)
theorem Jc {σ:St} (I:Inv X pins σ H s) (g:ie H a y o):s.TypeIs (.ref a) "dict" := by
 rcases g with ⟨kvs,k,e,_,_⟩|⟨kvs,k,b,e,_,_,_⟩
 ·obtain ⟨_,_,vs,_,dd⟩:=qy I.aK e;exact dd.typeIs
 ·obtain ⟨_,_,xs,_,dd⟩:=tl I.aK e;exact dd.typeIs
theorem TK (h:Heap) (a:sysModules<h.objs.size):eh P w H (h.push { cls:=.type "dict", data:=.dict #[] }) h.objs.size (.ez []) :=
 #[ej _,nC.mpr (dz (cc a)),[],.nil,_,#[],0,cJ _ Y,#[Y,Y,Y],Y,Y,List.nodup_nil]
def RC:TE:=λ Z H Q=>∀ p,H p=.n->Q (.ref p) (upd H p (.ez []))
section
variable {X:aW} {pos:Pos}
theorem Us:bw X (.Dict [] [] pos) RC:=λ pins s σ H Q I h =>
 wpAny_Dict_empty #[.ref s.heap.objs.size,_,I.laid (λ Z Z q=>a9 _ q) (bx _) (TK s.heap I.big),Y,h _ (I.aK.fresh (bx _))]
end
theorem rh:e0 X st FA:=#[UB]
noncomputable def sk (a:Addr):ht :=
 #[λ i H=>∃ xs x,H a=some (.lst xs)/\xs[i]?=some x,
 λ i H v H'=>∃ p,H p=.n/\v=.ref p/\∃ x,H'=upd H p (.tup [.int i,x])/\∀ xs,H a=some (.lst xs)->xs[i]?=some x,
 λ i H=>∃ xs,H a=some (.lst xs)/\xs.length<=i]
theorem Wi {K:aP} (sO:lq a4=.t) (A:e≠it) :
  Turn P w K Cd a4 (sk a) [e,it] e (λ i h=>(∃ old,IsEnum h e it (i:Int) old)/\h.IsListIter it a i) where
 mem:=dn
 obj:=λ i h st c af=>by
  obtain ⟨⟨old,U⟩,⟨u,b,_,R⟩⟩:=st;have B:∀ {o:Obj} {vs:ee},o.data=.fields vs->∀ v,o.data≠.cell v:=λ e v q=>by rw [e] at q;cases q
  simp only [bt,da,dc] at af;rcases af with rfl|rfl
  ·exact #[_,U,B Y]
  ·exact #[_,b,B R]
 keep:=λ i h h' st k=>by
  obtain ⟨⟨old,U⟩,⟨u,b,ou⟩⟩:=st;exact #[#[old,k _ .zs _ U],#[u,k _ .zs _ b,ou]]
 item:=by
  intro X p hw m Z af i pins s σ H E I hf st t;subst p hw m;obtain ⟨⟨old,U⟩,b⟩:=st;obtain ⟨xs,x,j,ae⟩:=t;obtain ⟨z,sT,n,D,hlen,l⟩:=I.fK j;obtain ⟨G,S,sY⟩:=D.get ae;refine wpAny_pyNext_enum_item U b (#[_,l,Y,n,Y]) (by simpa using S) A λ g L M N mP O=>?_
  refine #[_,Y,?_];have elt:=bu U;cases a4 with
  | Tuple aj fb pp =>
   refine wpAny_letOwnedTupleGo_enum L λ T Q y=>?_
   have new:=y.extBut _ _ (hP elt) N;have aC:Inv X pins σ (upd H s.heap.objs.size (.tup [.int i,x])) { s with heap:=T,toks:=s.toks+1 }:=by
    refine I.Bx (λ c o d f=>?_) hf (bx _) #[by show 2<=sizeLine;decide,[.int i s.toks,G],.cons #[_,Y] (.cons sY .nil),#[_,new,Y,#[0,Y],Y]];simp only [bt,da,dc,not_or] at d;exact y.extBut c o d.1 (O c o d.1 d.2 f)
   refine #[.ref s.heap.objs.size,_,aC,Y,#[_,I.fresh,Y,x,Y,λ DX C=>?_],#[#[G,?_],M.extBut y.extBut A.symm],λ c r=>?_]
   ·rw [j] at C;cases C;exact ae
   ·rw [show (i+1:Nat)=i+1 by omega];exact Q
   ·obtain ⟨o,f⟩:∃ o,s.heap.get? c=some o:=by
     simp only [bt,da,dc] at r;rcases r with rfl|rfl
     ·exact #[_,U]
     ·obtain ⟨u,aV,_⟩:=b;exact #[_,aV]
    rw [bC (cc (bu f))];exact (hf c r).1
  | _=>exact absurd sO dC
 done:=by
  intro X p hw m Z af i pins s σ H E I hf st t;subst p hw m;obtain ⟨⟨old,U⟩,b⟩:=st;obtain ⟨xs,j,eB⟩:=t;obtain ⟨z,sT,n,D,hlen,l⟩:=I.fK j;refine eP.TL (I.fY af) U b (#[_,l,Y,n,Y]) (by simp;omega) λ g up=>#[Y,?_]
  refine I.AN (λ c o d f=>?_) hf;simp only [bt,da,dc,not_or] at d;exact up c o d.2 f
 self:=λ _ _ _ _ _ st h=>by
  obtain ⟨⟨old,U⟩,_⟩:=st;exact wpAny_pyIter_enum U h
section
variable {X:aW} {a4:Expr}
def EM (aN:c2):TI:=λ σ H R=>aN σ H λ vs H1=>∃ a xs,vs=[.ref a]/\H1 a=some (.lst xs)/\R (sk a) H1
theorem Sn (m:lq a4=.t) (l:cy X "enumerate") (hm:X.mg "enumerate" = .n) (ak:fE X [d] aN) (av:starEach [d] X.env=[(.f,eval d X.env)]:=by rfl)
  (k:bootBuiltins "enumerate" = some (.type "enumerate"):=by decide +kernel):gW X a4 (.Call (.Name "enumerate" p) [d] [] pos) (EM aN):=by
 intro pins s σ H R I h;refine Call_ (mn I l hm k (qI (aU (ak pos pins s σ H _ I h) ?_) av Y));rintro us s1 ⟨vs,H1,b,t,o⟩;obtain ⟨a,xs,e,r,q⟩:=o;subst e;obtain ⟨y,rfl,u⟩:=vals1 t;cases u;obtain ⟨z,w,n,x,hlen,j⟩:=b.fK r;refine call_enumerate_1 j λ g f v A up=>?_
 refine wpAny_pyIter_enum f ?_;have i:=b.kept (t':=s1.toks) up;refine #[_,[s1.heap.objs.size+1,s1.heap.objs.size],_,_,H1,Y,i,Wi m (hP (j0 _)),#[#[_,f],v],λ c af=>?_,q];have big:s1.heap.objs.size<=c:=by
  simp only [bt,da,dc] at af;rcases af with rfl|rfl
  ·exact lb _ _
  ·exact bx _
 exact b.nh big (b.aK.fresh big)
theorem Gd (d:lq a4=.t) (c:cy X "enumerate") (hm:X.mg "enumerate" = .n) (ak:dG X [a] aN) (av:starEach [a] X.env=[(.f,eval a X.env)]:=by rfl)
  (b:bootBuiltins "enumerate" = some (.type "enumerate"):=by decide +kernel):iA X a4 (.Call (.Name "enumerate" p) [a] [] pos) (EM aN):=#[Sn d c hm ak.o av b]
end
theorem GQ {g:fF} {a7:cS} {D:Ends} (Pv:Nat->St->aD->Prop) (h0:Pv 0 σ H) (f:∀ i σ H,i<=xs.length->Pv i σ H->H a=some (.lst xs))
  (av:∀ i x p σ H,xs[i]?=some x->H p=.n->Pv i σ H->g (.ref p) σ (upd H p (.tup [.int (i:Int),x])) λ σ2 aq=>a7 { D with bf:=Pv (i+1),b9:=Pv (i+1),bl:=D.bf } σ2 aq) (hd:∀ σ H,Pv xs.length σ H->D.bf σ H) :
  ∃ W:Nat->Nat->St->aD->Prop,(∃ m,W 0 m σ H)/\∀ i m σ H,W i m σ H ->
   ((sk a).stop i H/\D.bf σ H)\/((sk a).go i H/\∃ N,(∀ σ' H',N σ' H'->∃ d,d<m/\W (i+1) d σ' H')/\∀ x H',(sk a).ic i H x H'->g x σ H' λ σ2 aq=>a7 { D with bf:=N,b9:=N,bl:=D.bf } σ2 aq):=by
 refine #[λ i m σ H=>m=xs.length-i/\i<=xs.length/\Pv i σ H,#[_,Y,ej _,h0],?_];rintro i m σ H ⟨rfl,ar,p⟩;have b:=f i σ H ar p;by_cases c:i<xs.length
 ·refine .inr #[#[xs,xs[i],b,by simp [c]],Pv (i+1),λ σ' H' p'=>#[xs.length-(i+1),.au,Y,c,p'],λ v H' k=>?_];obtain ⟨q,h,rfl,x,rfl,j⟩:=k;exact av i x q σ H (j xs b) h p
 ·have e:i=xs.length:=by omega
  refine .inl #[#[xs,b,.au],hd σ H (e ▸ p)]
section
variable {X:aW}
theorem RZ (q:A.handled=.n)
  (d:s.heap.IsTuple l vs.toArray) (ar:IntsAre vs ns) (x:0<ns.length)
  (h:∀ h' M (t:Tok) a8,(∀ b o,s.heap.get? b=some o->h'.get? b=some o)->M∈ns->(∀ a,a∈ns->M<=a)->Q (.int M t) { s with heap:=h',toks:=a8 }) :
  wpAny (model prog w) A (call (.builtin "min") [.ref l]) Q E s:=by
 obtain ⟨xs,e⟩:=ar.allInts.items;have f:ns=xs.toList.map (·.1):=by rw [<-ar.numsOf,<-nums_intItems,<-e]
 have y:0<xs.size:=by
  have k:=x;rw [f,bz,e6] at k;exact k
 rw [e] at d;have m:l<s.heap.objs.size:=by obtain ⟨_,e,_⟩:=d;exact bu e
 refine call_min_walk (nA d ?_);refine #[_,_,_,_,_,_,_,Y,Walks.tuple (A:=A.in1) q _ l (cc m) (intItems xs),#[#[_,cJ _ Y,Y,Y],d.push _],λ c af=>?_,by simpa [intItems] using y,CmpOf.ints_lt (numAt xs) (λ Z Z=>nB),λ v h' a8 p u=>?_]
 ·show c<(s.heap.push _).objs.size;rw [eF];rcases bt.mp af with rfl|af
  ·exact j0 _
  ·rcases bt.mp af with rfl|af
   ·exact mh m
   ·cases af
 ·have aI:(intItems xs)[argBest (λ i j=>decide (numAt xs i<numAt xs j)) (xs.size-1)]?=some v:=by simpa [intItems] using p
  obtain ⟨t,rfl⟩:=nB aI;obtain ⟨U,aa⟩:=argBest_lt (numAt xs) (xs.size-1);refine h _ _ t a8 (λ b o g=>u b o (λ hm=>?_) (a9 _ g)) ?_ λ a ak=>?_
  ·rcases bt.mp hm with n|hm
   ·exact absurd (n ▸ bu g) (ei _)
   ·cases hm
  ·rw [f,numAt_eq];exact getD_mem (by rw [bz,e6];omega)
  ·rw [f] at ak;obtain ⟨j,r,rfl⟩:=mem_getD ak;rw [bz,e6] at r;rw [<-numAt_eq];exact aa j .au
theorem Vs (af:X.calm=.t):ep X (.builtin "min") (λ xs H Q=>∃ (p:Addr) (ns:bB),xs=[.ref p]/\aX X.K H p (ns.map V.int)/\ns≠[]/\∀ M,M∈ns->(∀ a,a∈ns->M<=a)->Q (.int M) H):=by
 intro pins s σ H xs us Q I r h;obtain ⟨p,ns,rfl,c,b,q⟩:=h;obtain ⟨u,rfl,i⟩:=vals1 r;cases i;obtain ⟨l,g,f,j⟩:=I.tuple c;refine RZ (I.ok.hd.1 af) f (intsAre_of g) (by cases ns with|nil=>exact absurd Y b|cons=>simp) λ h' M t a8 k d e=>?_
 exact #[.int M,H,I.kept k,#[_,Y],q M d e]
end
end bj
namespace h5
open PySem PySem.W PyProof.Rows
noncomputable def ev {α : Type} (f:Nat->Nat->Bool):KasT α -> α
 | .ret a=>a
 | .ask i j k=>ev f (k (f i j))
def In {α : Type} (n:Nat) (P : α -> Prop):KasT α -> Prop
 | .ret a=>P a
 | .ask i j k=>i<n/\j<n/\∀ b,In n P (k b)
theorem In.bind {P: α -> Prop} {R: β -> Prop} {f: α -> KasT β}:∀ t,In n P t->(∀ a,P a->In n R (f a))->In n R (t.bind f)
 | .ret a,h,hf=>hf a h
 | .ask i j k,h,hf=>#[h.1,h.2.1,λ b=>In.bind (k b) (h.2.2 b) hf]
theorem In.mono {P R: α -> Prop} (c:∀ a,P a->R a):∀ t,In n P t->In n R t
 | .ret a,h=>c a h
 | .ask i j k,h=>#[h.1,h.2.1,λ b=>In.mono c (k b) (h.2.2 b)]
theorem In.ev {P: α -> Prop}:∀ t,In n P t->P (h5.ev f t)
 | .ret _,h=>h
 | .ask i j k,h=>In.ev (k (f i j)) (h.2.2 _)
theorem E6 {P: α -> Prop} {Q: α -> Shared->Prop} (af:∀ i j C,i<n->j<n->C (f i j) s->cmp i j C s) :
  ∀ t,In n P t->Q (h5.ev f t) s->t.kasWp cmp Q s
 | .ret _,_,q=>q
 | .ask i j k,h,q=>af i j _ h.1 h.2.1 (E6 af (k (f i j)) (h.2.2 _) q)
def eD (n:Nat) (p:Array Nat):Prop:=p.toList.Perm (List.range n)
theorem eD.lt (h:eD n p) (ao:0<n) (k):p.getD k 0<n:=by
 by_cases a:k<p.size
 ·have e:p.getD k 0=p.toList[k]'(by simpa using a):=by simp [Array.getD,a]
  rw [e];exact nD.mp (h.mem_iff.mp (iw _))
 ·have e:p.getD k 0=0:=by simp [Array.getD,a]
  rw [e];exact ao
theorem eD.perm (h:eD n p) (a:q.Perm p):eD n q:=(Array.perm_iff_toList_perm.mp a).trans h
theorem eD.rev (h:eD n p) (i j):eD n (kas_rev p i j):=h.perm (mirror_perm _ _ _ _)
theorem eD.MM (h:eD n p) (i j):eD n (bubble p i j):=h.perm (bubble_perm _ _ _)
section
variable {n:Nat} (ao:0<n)
include ao
theorem zI (h:eD n p):∀ f m,In n (λ Z=>True) (kas_asc p f m)
 | 0,_=>trivial
 | f+1,m=>#[h.lt ao _,h.lt ao _,λ b=>by
  cases b with
  | true=>exact trivial
  | false=>exact zI h f (m+1)]
theorem wC:∀ f p m q,eD n p->In n (λ r=>eD n r.1) (kas_desc f p m q)
 | 0,p,_,_,h=>h
 | f+1,p,m,q,h=>#[h.lt ao _,h.lt ao _,λ b=>by
  cases b with
  | true =>
   show In n _ (if q>0 then _ else _);split
   ·exact wC f _ _ _ (h.rev _ _)
   ·exact wC f _ _ _ h
  | false =>
   refine #[h.lt ao _,h.lt ao _,λ d=>?_];cases d with
   | true=>exact h
   | false=>exact wC f _ _ _ h]
theorem Hw (h:eD n p) (a b):In n (λ r=>eD n r.2) (kas_tail3 a b p):=(zI ao (h.rev _ _) _ _).bind _ λ Z Z=>h.rev _ _
theorem Jb (h:eD n p) (a b):In n (λ r=>eD n r.2) (kas_descPart a b p):=(wC ao _ p _ _ h).bind _ λ r c=>by
 split
 ·exact Hw ao (c.rev _ _) _ _
 ·exact Hw ao c _ _
theorem TG (h:eD n p) (b):In n (λ r=>eD n r.2) (kas_count b p):=(zI ao h _ _).bind _ λ m Z=>by
 split
 ·exact h
 ·split
  ·refine #[h.lt ao _,h.lt ao _,λ c=>?_];cases c with
   | true=>exact h
   | false=>exact Jb ao (h.rev _ _) _ _
  ·exact Jb ao h _ _
theorem A2 (h:eD n p) (k):∀ f l r,In n (λ Z=>True) (kas_place p k f l r)
 | 0,_,_=>trivial
 | f+1,l,r=>by
  show In n _ (if l ≥ r then _ else _);split
  ·exact trivial
  ·refine #[h.lt ao _,h.lt ao _,λ c=>?_];cases c with
   | true=>exact A2 h k f _ _
   | false=>exact A2 h k f _ _
theorem E9:∀ f p k,eD n p->In n (eD n) (kas_bin f p k)
 | 0,p,_,h=>h
 | f+1,p,k,h=>(A2 ao h k k 0 k).bind _ λ l Z=>E9 f _ _ (h.MM _ _)
theorem Gj:In n (eD n) (kas_sort n):=(TG ao (wa _) n).bind _ λ r a=>by
 split
 ·exact E9 ao _ _ _ a
 ·exact a
end
noncomputable def f6 (ns:d7):h2:=if ns.length<2 then List.range ns.length else (ev (λ i j=>b6.lexLt (ns.getD i []) (ns.getD j [])) (kas_sort ns.length)).toList
theorem pS (ns):(f6 ns).Perm (List.range ns.length):=by
 unfold f6;split
 ·exact wa _
 ·exact In.ev _ (Gj .au)
theorem KI {α: Type} (l) (d : α):(List.range l.length).map (λ i=>l.getD i d)=l:=by
 refine qR .zs λ i U aa=>?_
 simp [aa]
theorem U9 {α: Type} {l:List α} {d: α} (h:l.length=ns.length):((f6 ns).map λ i=>l.getD i d).Perm l:=by
 have:=(pS ns).map (λ i=>l.getD i d);rw [<-h,KI] at this;exact this
theorem Gp (h:i∈f6 ns):i<ns.length:=nD.mp ((pS ns).mem_iff.mp h)
section
variable {prog:Program} {w:World} {A:Around} {E:c0} {s:Shared}
theorem Fh:∀ {us vs:List Value} {ns ms:bB} (i:Nat) (fin:Bool),IntsAre us ns->IntsAre vs ms->fin=decide (ns.length<ms.length)->Q (b6.lexLt ns ms) s->KatLex prog w A b fin Q (us.zip vs) i s
 | _,_,_,_,i,fin,.nil,.nil,e,q=>by subst e;exact q
 | _,_,_,_,i,fin,.nil,.cons _ _ _,e,q=>by
  subst e;rw [b6.Ys] at q;rw [bc .zs];exact q
 | _,_,_,_,i,fin,.cons _ _ _,.nil,e,q=>by
  subst e;rw [b6.Yr] at q;rw [bZ .zs];exact q
 | _,_,_,_,i,fin,.cons x t U,.cons y u aa,e,q=>by
  rw [List.zip_cons_cons];refine kat_cons ((z2 x t y u) prog w _ _ ?_);rw [b6.WI] at q;by_cases a:x=y
  ·rw [if_pos a] at q;rw [show (x==y)=.t by simp [a]];exact kat_yes (Fh (i+1) fin U aa (by rw [e];simp) q)
  ·rw [if_neg a] at q;rw [show (x==y)=.f by simp [a]];refine kat_no ?_;cases c:(b&&i==0) with
   | true=>exact oneLt_int q
   | false=>exact kat_one _ _ (PyProof.Rows.lt_int q)
def l3 (h:Heap) (vs:List Value) (ns:d7):Prop:=vs.length=ns.length/\∀ i,i<vs.length->∃ a o xs n,vs.getD i .none=.ref a/\h.get? a=some o/\o.cls=.type "tuple" /\ o.data=.seq xs n/\IntsAre xs.toList (ns.getD i [])/\ns.getD i []≠[]
theorem l3.kept (t:l3 h vs ns) (k:∀ b o,b≠c->h.get? b=some o->h'.get? b=some o) (af:∀ o,h.get? c=some o->o.cls≠.type "tuple"):l3 h' vs ns:=by
 refine #[t.1,λ i ar=>?_];obtain ⟨a,o,xs,n,U,aa,d,e,f,g⟩:=t.2 i ar;exact #[a,o,xs,n,U,k a o (λ z=>af o (z ▸ aa) d) aa,d,e,f,g]
theorem l3.Dy:∀ {vs:List Value} {ns:d7},l3 h vs ns->∃ aw,KatTups h vs aw/\aw.length=vs.length/\∀ v∈aw,∃ i t,v=Value.int i t
 | [],_,_=>#[[],trivial,Y,λ v aI=>by cases aI]
 | v::vs,[],t=>by have:=t.1;simp at this
 | v::vs,m::ns,t=>by
  obtain ⟨aw,k1,k2,k3⟩:=l3.Dy #[by simpa using t.1,λ i ar=>by
   obtain ⟨a,o,xs,n,U,aa,c,d,e,g⟩:=t.2 (i+1) (by simp;omega);exact #[a,o,xs,n,by simpa using U,aa,c,d,by simpa using e,by simpa using g]]
  obtain ⟨a,o,xs,n,U,aa,c,d,e,g⟩:=t.2 0 .zs;have j:v=.ref a:=by simpa using U
  have b:IntsAre xs.toList m:=by simpa using e
  have k:m≠[]:=by simpa using g
  cases ae:xs.toList with
  | nil =>
   rw [ae] at b;cases b;exact absurd rfl k
  | cons f r =>
   rw [ae] at b;refine #[f::aw,?_,by simp [k2],λ u l=>?_]
   ·rw [j];refine KatTups.cons aa c d ?_ k1;rw [<-Array.getElem?_toList,ae];rfl
   ·rcases bt.mp l with z|z
    ·subst z;cases b with
     | cons _ _ _=>exact #[_,_,Y]
    ·exact k3 u z
theorem VR (aA:s.heap.get? a=some (seqObj "list" vs.toArray n)) (T:l3 s.heap vs ns) (L:vs.length<64)
  (h:∀ h' c,h'.get? a=some (seqObj "list" (List.toArray ((f6 ns).map λ i=>vs.getD i Value.none)) c)->(∀ b o,b≠a->s.heap.get? b=some o->h'.get? b=some o)->P (.done (.ret .none)) { s with heap:=h' }) :
  wpAny (model prog w) A (Builtin.«list.sort» ⟨[.ref a],[]⟩) P E s:=by
 have ak:=bu aA;have s1:=pj s.heap a (Obj.mapSeq λ _=>(#[]));obtain ⟨l,y⟩:∃ l,(s.heap.update a (Obj.mapSeq λ _=>(#[]))).get? a=some (seqObj "list" #[] l):=#[_,get?_update_seq aA λ _=>#[]]
 have bI:∀ b o,b≠a->s.heap.get? b=some o->(((s.heap.update a (Obj.mapSeq λ _=>(#[]))).push (seqObj "tuple" vs.toArray 0)).push (seqObj "list" #[] 0)).get? b=some o:=λ b o nb e=>a9 _ (a9 _ ((s1.2 b nb).trans e))
 have k:(((s.heap.update a (Obj.mapSeq λ _=>(#[]))).push (seqObj "tuple" vs.toArray 0)).push (seqObj "list" #[] 0)).get? a=some (seqObj "list" #[] l):=a9 _ (a9 _ y);have m:=T.kept bI λ o e z=>by
  rw [aA] at e;cases e;have u:= z;injection u with u;exact absurd u .aB
 rw [list_sort_plain];refine ax (listItems_at aA Y ?_);refine ax (listUpdate_at aA Y ?_ (by rw [dK,b7];omega) (ej _));refine ax (seqEpoch_at y Y ?_);refine ax (wpAny_newTuple ?_ (by show vs.length<=_;rw [b7];omega));refine ax (wb ?_ (ej _));refine eV ?_;show wpAny (model prog w) A _ P E { s with heap:=((s.heap.update a (Obj.mapSeq λ _=>(#[]))).push (seqObj "tuple" vs.toArray 0)).push (seqObj "list" #[] 0) };dsimp only;generalize ku:((s.heap.update a (Obj.mapSeq λ _=>(#[]))).push (seqObj "tuple" vs.toArray 0)).push (seqObj "list" #[] 0)=g at bI k m ⊢;have fin:∀ out:ee,out.size<=64->out=List.toArray ((f6 ns).map λ i=>vs.getD i Value.none)->∃ c,(g.update a (Obj.mapSeq λ _=>out)).get? a=some (seqObj "list" (List.toArray ((f6 ns).map λ i=>vs.getD i Value.none)) c)/\∀ b o,b≠a->s.heap.get? b=some o->(g.update a (Obj.mapSeq λ _=>out)).get? b=some o:=by
  intro out _ e;obtain ⟨q,O⟩:∃ q,(g.update a (Obj.mapSeq λ _=>out)).get? a=some (seqObj "list" out q):=#[_,get?_update_seq k λ _=>out]
  have s2:=pj g a (Obj.mapSeq λ _=>out);exact #[q,by rw [O,e],λ b o nb aC=>(s2.2 b nb).trans (bI b o nb aC)]
 by_cases aa:vs.toArray.size<2
 ·have r:vs.length<2:=by simpa using aa
  rw [if_pos aa,if_pos aa];refine ax (a_ ?_);rw [StateT.run_pure];refine ax (a_ ?_);dsimp only;have d:(arrOf (SortSt.mk' general' (vs.toArray.zip vs.toArray) #[] 7 .n)).map (·.2)=List.toArray ((f6 ns).map λ i=>vs.getD i Value.none):=by
   have l:(arrOf (SortSt.mk' general' (vs.toArray.zip vs.toArray) #[] 7 .n)).map (·.2)=vs.toArray:=by
    show (vs.toArray.zip vs.toArray).map (·.2)=vs.toArray;apply z9.mp;simp [List.map_snd_zip]
   have I:f6 ns=List.range vs.length:=by
    unfold f6;rw [<-T.1,if_pos r]
   rw [l,I,KI]
  refine ax (seqEpoch_at k Y ?_);refine ax (listUpdate_at k Y ?_ (ej _) (by rw [d,dK,bz,(pS ns).length_eq,jv,<-T.1,b7];omega));simp only [bne_self_eq_false,Bool.false_eq_true,if_false];obtain ⟨c,g1,g2⟩:=fin _ (by rw [d,dK,bz,(pS ns).length_eq,jv,<-T.1];omega) d;exact a_ (h _ c g1 g2)
 ·have r:2<=vs.length:=by
   have:¬ vs.length<2:=by simpa using aa
   omega
  rw [if_neg aa,if_neg aa];obtain ⟨aw,k1,k2,k3⟩:=m.Dy;refine ax (kat_kind (T:=.type "int") k1 .au (λ v aI=>?_) .aB ?_)
  ·obtain ⟨i,t,rfl⟩:=k3 v aI;exact Looks.of_pure rfl
  refine ax (d_ (kat_run (κ := tuples' (Value.type "int" != Value.type "tuple")) (s:={ s with heap:=g }) (Q:=λ cQ s'=>∃ p:Array Nat,s'={ s with heap:=g }/\p.toList=f6 ns/\arrOf cQ=p.map (kas_item (vs.toArray.zip vs.toArray))/\failedOf cQ=.n)
   (G:=λ p s'=>s'={ s with heap:=g }/\p.toList=f6 ns) Y r L (λ p' cQ s' a1 a2 H x=>#[p',x.1,x.2,a2,H]) ?_) ?_ λ _ _ e=>e)
  ·refine E6 (n:=vs.length) (P:=eD vs.length) (f:=λ i j=>b6.lexLt (ns.getD i []) (ns.getD j [])) (λ i j C ar R M=>?_) _ (Gj .au) #[Y,?_]
   ·obtain ⟨a1,Cv,aaB,mU,S,aV,hB,X,B,_⟩:=m.2 i ar;obtain ⟨a2,uQ,aaC,lI,Z,jL,uS,ou,D,_⟩:=m.2 j R;unfold kas_ask;rw [S,Z];refine kat_lt aV X jL ou (Fh 0 _ B D ?_ M);rw [<-e6,<-e6,B.length,D.length]
   ·unfold f6;rw [<-T.1,if_neg .au]
  rintro ⟨⟨⟩,cQ⟩ s' ⟨p,rfl,ah,N,hf⟩;dsimp only;have d:=kat_snds (ks:=vs) rfl N;rw [ah] at d;refine ax (seqEpoch_at k Y ?_);refine ax (listUpdate_at k Y ?_ (ej _) (by rw [d,dK,bz,(pS ns).length_eq,jv,<-T.1,b7];omega));rw [hf];simp only [bne_self_eq_false,Bool.false_eq_true,if_false];obtain ⟨c,g1,g2⟩:=fin _ (by rw [d,dK,bz,(pS ns).length_eq,jv,<-T.1];omega) d;exact a_ (h _ c g1 g2)
theorem S6 (u:s.heap.IsList l vs.toArray) (T:l3 s.heap vs ns) (t:vs.length<64)
  (h:∀ h' c,h'.get? (s.heap.objs.size+1)=some (seqObj "list" (List.toArray ((f6 ns).map λ i=>vs.getD i Value.none)) c)->(∀ b o,s.heap.get? b=some o->h'.get? b=some o)->Q (.ref (s.heap.objs.size+1)) { s with heap:=h' }) :
  wpAny (model prog w) A (call (.builtin "sorted") [.ref l]) Q E s:=by
 refine Calls.call_function_entry kind_sorted plain_sorted entry_sorted (args_sorted1 _) ?_;refine ax (a_ ?_);refine ax (collect_list u ?_ (by rw [b7];omega));refine ax (wb ?_ (by rw [b7];omega));have f:((s.heap.push (seqObj "list" #[] 0)).update s.heap.objs.size (Obj.mapSeq (· ++ vs.toArray))).objs.size=s.heap.objs.size+1:=by
  rw [Heap.size_update,size_push']
 have j:(((s.heap.push (seqObj "list" #[] 0)).update s.heap.objs.size (Obj.mapSeq (· ++ vs.toArray))).push (seqObj "list" vs.toArray 0)).get? (s.heap.objs.size+1)=some (seqObj "list" vs.toArray 0):=by
  rw [<-f];exact cJ _ rfl
 have keep:∀ b o,s.heap.get? b=some o->(((s.heap.push (seqObj "list" #[] 0)).update s.heap.objs.size (Obj.mapSeq (· ++ vs.toArray))).push (seqObj "list" vs.toArray 0)).get? b=some o:=λ b o q=>by
  have d:=bu q;rw [Heap.get?_push_ne _ _ _ (by rw [f];exact cc (mh d)),Heap.get?_update_ne _ _ _ _ (cc d),Heap.get?_push_ne _ _ _ (cc d)];exact q
 rw [f];refine ax (eV (jk slot_list_sort #[_,j,Y] entry_list_sort ?body (args_list_sort _)))
 case body =>
  refine VR j ?_ t λ h' c g1 g2=>#[_,Y,a_ #[_,Y,h h' c g1 λ b o e=>g2 b o (λ z=>?_) (keep b o e)]]
  ·refine #[T.1,λ i ar=>?_];obtain ⟨a,o,xs,n,U,aa,k,m,p,r⟩:=T.2 i ar;exact #[a,o,xs,n,U,keep a o aa,k,m,p,r]
  ·have g:=e;rw [z] at g;exact absurd (bu g) (Nat.not_lt.mpr (jZ _))
end
end h5
namespace bj
open PySem PySem.Spec PyProof.Rows
def s_ (H:aD) (x:V) (c:bB):Prop:=∃ a,x=.ref a/\H a=some (.tup (c.map V.int))
def c_ (H:aD) (xs:bh) (cs:d7):Prop:=xs.length=cs.length/\∀ (i:Nat) x,xs[i]?=some x->∃ c,cs[i]?=some c/\s_ H x c
theorem Vals.getD_map {ai:h2} (r:Vals xs us) (h:∀ i∈ai,i<xs.length):Vals (ai.map λ i=>xs.getD i .aQ) (ai.map λ i=>us.getD i Value.none):=by
 induction ai with
 | nil=>exact .nil
 | cons p ai b =>
  have ah:=h p dn;have ae:=cK ah;obtain ⟨u,a,c⟩:=r.get ae;refine .cons ?_ (b λ i ar=>h i (de _ ar));show RelV (xs.getD p .aQ) (us.getD p Value.none);rw [iQ,iQ,ae,a];exact c
section
variable {X:aW}
theorem Te {σ:St} (I:Inv X pins σ H s) (r:Vals xs us) (h:c_ H xs ns) (g:∀ c∈ns,c≠[]):h5.l3 s.heap us ns:=by
 refine #[by rw [<-r.length];exact h.1,λ i ar=>?_];have b:i<xs.length:=by rw [r.length];exact ar
 obtain ⟨c,af,a,e,ak⟩:=h.2 i _ (cK b);obtain ⟨u,j,d⟩:=r.get (cK b);rw [e] at d;cases d;obtain ⟨k,l,⟨o,aA,f,n,hd⟩,_⟩:=I.tuple (aX.of ak);refine #[a,o,k.toArray,n,by rw [iQ,j];rfl,aA,f,hd,?_,?_]
 ·rw [iQ,af];exact intsAre_of l
 ·rw [iQ,af];exact g c (b5 af)
theorem XA:ep X (.builtin "sorted") (λ vs H Q=>∃ l xs ns,vs=[.ref l]/\H l=some (.lst xs)/\c_ H xs ns/\(∀ c∈ns,c≠[])/\xs.length<64/\fi (.lst ((h5.f6 ns).map λ i=>xs.getD i .aQ)) H Q):=by
 intro pins s σ H xs us Q I r h;obtain ⟨l,xs,ns,rfl,e,a,f,j,q⟩:=h;obtain ⟨u,rfl,g⟩:=vals1 r;cases g;obtain ⟨z,k,n,b,hlen,d⟩:=I.fK e;refine h5.S6 (#[_,d,Y,n,Y]) (Te I b a f) .au λ h' c g1 g2=>?_
 have ah:s.heap.objs.size<=s.heap.objs.size+1:=jZ _;refine #[.ref (s.heap.objs.size+1),_,I.laid g2 ah (show eh X.prog X.w _ h' _ (.lst ((h5.f6 ns).map λ i=>xs.getD i .aQ)) from #[?_,_,c,b.getD_map λ i ar=>by rw [a.1];exact h5.Gp ar,g1]),Y,q.at _ (I.aK.fresh ah)];rw [bz,(h5.pS ns).length_eq,jv,<-a.1];exact z
end
end bj
namespace hx
open PySem PyProof.Rows
theorem Yo (o) (f):(Obj.mapFields f o).dict=o.dict:=by
 unfold Obj.mapFields;split<;>rfl
noncomputable def jd:Value->Value
 | .int _ t=>.ref t
 | v=>v
noncomputable def CX:Value->Value
 | .int c _=>.ref c.toNat
 | _=>.none
inductive Rec (h:Heap) (e:Addr) (C:Value) (d:Option Addr) (head:Value):Prop
 |mk (a6 vs):h.get? e=some a6->a6.cls=jd C->a6.dict=d->a6.data=.fields vs->vs[1]?=some head->vs[2]?=some (CX C)->Rec h e C d head
def Ent (h:Heap) (T:Addr) (fl:Value):Prop:=∃ a b,h.get? T=some a/\a.data=.fields b/\b[3]?=some fl
noncomputable abbrev d8 (l:List Env):List Addr:=l.filterMap (·.frame)
def eK (L F:List Addr) (h h':Heap):Prop:=(∀ b o,b∉L->b∉F->h.get? b=some o->h'.get? b=some o)/\∀ b o,b∉L->b∈F->h.get? b=some o->∃ cu,h'.get? b=some { o with slots:=cu }
theorem eK.trans (x:eK L F h U) (y:eK c F U aa):eK (L++c) F h aa:=by
 refine #[λ b o nl a e=>?_,λ b o nl hf e=>?_]
 ·exact y.1 b o (λ z=>nl (fq _ z)) a (x.1 b o (λ z=>nl (pk _ z)) a e)
 ·obtain ⟨cu,d⟩:=x.2 b o (λ z=>nl (pk _ z)) hf e;obtain ⟨g,f⟩:=y.2 b _ (λ z=>nl (fq _ z)) hf d;exact #[g,f]
section
variable {M:Model} {A:Around} {E:c0} {s:Shared}
theorem zJ
  (u:A.frames=some (env::outer)) (k:s.heap.FunFrames base (env::outer)) (hf:env.frame=some L)
  (he:s.heap.get? e=some a6) (hd:a6.data=.fields vs) (m:1<vs.size) (af:a6.cls=jd C) (aa:vs[2]?=some (CX C))
  (h:∀ h' T,s.heap.get? T=.n->eK [e] (d8 (env::outer)) s.heap h'->Rec h' e C a6.dict (.ref T)->Ent h' T (rawInt L)->Q () { s with heap:=h' }) :
  wpAny M A (do let a ← frameOf env;let d ← entryPlaceOf L x;let b ← EntryCells.newEntry head a .none (rawInt L) .none d;setField (.ref e) 1 b) Q E s:=by
 have t:e∉d8 (env::outer):=λ hm=>by
  obtain ⟨_,o,aA,v⟩:=k.mem hm;rw [he] at aA;injection aA with aA;subst aA;exact v vs hd
 refine ax (wpAny_frameOf_fun u k hf λ U c=>?_);refine ax (wpAny_entryPlaceOf λ d l=>?_);refine ax (l_ ?_ (l.sizeOk5 _ _ _ _ _));have i:=(c.2.1 e t).trans he;have j:=a9 { cls:=.type "traceback", dict:=.n,data:=.fields ([head,.ref L,.none,rawInt L,.none]++(if d.isEmpty then List.replicate 6 Value.none else d)).toArray } i;have p:=hP (bu i);have g:=iu hd (·.setIfInBounds 1 (Value.ref U.objs.size));have r:=hN (Obj.mapFields (·.setIfInBounds 1 (Value.ref U.objs.size))) j (kW g);refine kX j hd m (h _ U.objs.size ?_ #[λ b o nl w q=>?_,λ b o nl y q=>?_] #[_,_,r,(Obj.cls_mapFields _ _).trans af,Yo _ _,g,by simp [m],by simp [aa]] #[_,_,(er _ _ (dz p)).trans (cJ U Y),Y,?_])
 ·cases q:s.heap.get? U.objs.size with
  | none=>rfl
  | some o=>have:=bu q;rw [<-c.1] at this;exact absurd this (ei _)
 ·have f:b≠e:=λ z=>nl (by rw [z];exact cf.mpr Y)
  rw [er _ _ (dz f)];exact a9 _ ((c.2.1 b w).trans q)
 ·have f:b≠e:=λ z=>nl (by rw [z];exact cf.mpr Y)
  obtain ⟨cu,n⟩:=c.2.2 b o q;refine #[cu,?_];rw [er _ _ (dz f)];exact a9 _ n
 ·(rcases l with rfl|⟨_,_,_,_,_,_,_,rfl⟩<;>simp)
theorem G7
  (a:A.frames=some (env::outer)) (b:s.heap.FunFrames base (env::outer)) (hf:env.frame=some L) (c:Rec s.heap e C d .none)
  (h:∀ h' T,s.heap.get? T=.n->eK [e] (d8 (env::outer)) s.heap h'->Rec h' e C d (.ref T)->Ent h' T (rawInt L)->Q () { s with heap:=h' }):wpAny M A (noteFrame (.ref e) env) Q E s:=by
 obtain ⟨a6,vs,he,af,rfl,hd,U,aa⟩:=c;unfold noteFrame;simp only [hf];refine ax (cV he hd U ?_);rw [if_neg (show ¬ ((Value.none != Value.none)=.t) by decide)];exact zJ a b hf he hd (j9.mp U).1 af aa h
theorem R6
  (n:A.frames=some (env::outer)) (p:s.heap.FunFrames base (env::outer)) (hf:env.frame=some L) (t:Rec s.heap e C d (.ref T0)) (aG:Ent s.heap T0 .none) (r:T0≠e)
  (h:∀ h' T,s.heap.get? T=.n->eK [e,T0] (d8 (env::outer)) s.heap h'->Rec h' e C d (.ref T)->Ent h' T (rawInt L)->Q () { s with heap:=h' }):wpAny M A (noteFrame (.ref e) env) Q E s:=by
 obtain ⟨a6,vs,he,af,rfl,hd,U,aa⟩:=t;obtain ⟨B,y,f,g,l⟩:=aG;unfold noteFrame;simp only [hf];refine ax (cV he hd U ?_);rw [if_pos .zs];refine ax (cV f g l ?_);rw [if_neg (by simp [rawInt])];refine ax (kX f g (j9.mp l).1 ?_);have other:∀ b,b≠T0->(s.heap.update T0 (Obj.mapFields (·.setIfInBounds 3 Value.none))).get? b=s.heap.get? b:=λ b a=>er _ _ (dz a)
 have x:∀ b o,s.heap.get? b=some o->(∀ vs,o.data≠.fields vs)->b≠T0:=λ b o a i q=>by
  rw [q,f] at a;injection a with a;subst a;exact i y g
 refine zJ n (p.of_keeps λ b o a i=>#[o,(other b (x b o a i)).trans a,Y]) hf ((other e (dz r)).trans he) hd (j9.mp U).1 af aa λ h' T c m u v=>?_
 refine h h' T ?_ #[λ b o nl w q=>?_,λ b o nl a q=>?_] u v
 ·cases q:s.heap.get? T with
  | none=>rfl
  | some o =>
   by_cases z:T=T0
   ·have j:=hN (Obj.mapFields (·.setIfInBounds 3 Value.none)) f (kW (iu g _));rw [<-z] at j;rw [z] at c;rw [z] at j;rw [j] at c;cases c
   ·rw [other T z,q] at c;cases c
 ·have k:b≠T0:=λ z=>nl (by rw [z];simp)
  exact m.1 b o (λ z=>nl (by rw [cf.mp z];simp)) w ((other b k).trans q)
 ·have k:b≠T0:=λ z=>nl (by rw [z];simp)
  exact m.2 b o (λ z=>nl (by rw [cf.mp z];simp)) a ((other b k).trans q)
theorem land (l:Rec s.heap e C d (.ref T)) (aG:Ent s.heap T fl) (k:T≠e) (m:∀ b∈F,b≠T)
  (h:∀ h',eK [T] F s.heap h'->Rec h' e C d (.ref T)->Ent h' T .none->Q () { s with heap:=h' }):wpAny M A (setFlight (.ref e) .n) Q E s:=by
 obtain ⟨a6,vs,he,i,j,hd,U,aa⟩:=l;obtain ⟨n,p,c,a,g⟩:=aG;have f:=(j9.mp g).1;refine ax (cV he hd U ?_);rw [if_pos .zs];refine kX c a f (h _ #[λ b o nl Z q=>(er _ _ (λ z=>nl (by rw [z];exact cf.mpr Y))).trans q,λ b o nl Z q=>#[o.slots,(er _ _ (λ z=>nl (by rw [z];exact cf.mpr Y))).trans q]]
  #[a6,vs,(er _ _ k).trans he,i,j,hd,U,aa] #[_,_,hN _ c (kW (iu a _)),iu a _,by simp [f]])
def nK (h:Heap) (e:Addr) (head:Value) (L:List Addr):Prop:=(head=.none/\L=[])\/∃ T,head=.ref T/\Ent h T .none/\T≠e/\L=[T]
theorem zy
  (a:A.frames=some (env::outer)) (b:s.heap.FunFrames base (env::outer)) (hf:env.frame=some L) (c:Rec s.heap e C d head) (f:nK s.heap e head g)
  (h:∀ h' T,s.heap.get? T=.n->eK (e::g) (d8 (env::outer)) s.heap h'->Rec h' e C d (.ref T)->Ent h' T (rawInt L)->Q () { s with heap:=h' }):wpAny M A (noteFrame (.ref e) env) Q E s:=by
 rcases f with ⟨rfl,rfl⟩|⟨T0,rfl,aG,i,rfl⟩
 ·exact G7 a b hf c h
 ·exact R6 a b hf c aG i h
theorem landed
  (l:A.frames=some (env::outer)) (g:s.heap.FunFrames base (env::outer)) (hf:env.frame=some L) (i:Rec s.heap e C d head) (m:nK s.heap e head n)
  (h:∀ h' T,s.heap.get? T=.n->T≠e->eK (e::n) (d8 (env::outer)) s.heap h'->Rec h' e C d (.ref T)->Ent h' T .none->Q () { s with heap:=h' }) :
  wpAny M A (noteFrame (.ref e) env) (λ Z s'=>wpAny M A (setFlight (.ref e) .n) Q E s') E s:=by
 refine zy l g hf i m λ U T a k1 r t1=>?_
 have f:T≠e:=λ z=>by
  obtain ⟨a6,_,he,_⟩:=i;rw [z,he] at a;cases a
 have j:∀ b∈d8 (env::outer),b≠T:=λ b c z=>by
  obtain ⟨_,o,aA,_⟩:=g.mem c;rw [z,a] at aA;cases aA
 refine land r t1 f j λ aa k2 t u=>?_
 have k:=k1.trans k2;refine h aa T a f #[λ b o nl p q=>k.1 b o (λ z=>?_) p q,λ b o nl c q=>k.2 b o (λ z=>?_) c q] t u
 all_goals
  rcases fA.mp z with z|z
  ·exact nl z
  ·rw [cf.mp z,a] at q;cases q
theorem leave
  (a:A.frames=some (env::outer)) (c:s.heap.FunFrames base (env::outer)) (hf:env.frame=some L) (g:Rec s.heap e C d head) (b:nK s.heap e head f)
  (h:∀ h' T,s.heap.get? T=.n->T≠e->eK (e::f) (d8 (env::outer)) s.heap h'->Rec h' e C d (.ref T)->Ent h' T .none->Q () { s with heap:=h' }):wpAny M A (leaving env (.ref e)) Q E s:=by
 exact ax (landed a c hf g b h)
end
end hx
namespace bj
open PySem PySem.Spec PyProof.Rows hx
theorem eh.some {P:Program} {w:World} {H:aD} {h:Heap} {a:Addr} {o:eZ} (x:eh P w H h a o):∃ bD,h.get? a=some bD:=by
 cases o with
 | lst xs=>obtain ⟨_,_,_,_,e⟩:=x;exact #[_,e]
 | tup xs=>obtain ⟨_,_,_,bD,e,_⟩:=x;exact #[_,e]
 | cM kvs=>obtain ⟨_,_,_,_,o,_,_,e,_⟩:=x;exact #[_,e]
 | ez kvs=>obtain ⟨_,_,_,_,o,_,_,e,_⟩:=x;exact #[_,e]
 | set S n=>obtain ⟨o,_,_,_,e,_⟩:=x;exact #[_,e]
 | ins C aE aw=>obtain ⟨_,_,_,e,_⟩:=x;exact #[_,e]
 | own y=>obtain ⟨_,e⟩:=x;exact #[_,e]
 | hZ aw=>obtain ⟨_,⟨_,_,_,e,_⟩,_⟩:=x;exact #[_,e]
 | vh lo ar=>obtain ⟨_,_,_,e⟩:=x;exact #[_,e]
 | hH bD u=>obtain ⟨e,_⟩:=x;exact #[_,e]
 | l2 ai=>exact #[_,(show h.get? a=Option.some _ from x)]
 | met f y=>exact #[_,(show h.get? a=Option.some _ from x)]
 | ext φ => obtain ⟨_,⟨_,e⟩,_⟩:=x;exact #[_,e]
theorem cU.gone (x:cU P w H h) (e:h.get? a=.n):H a=.n:=by
 cases q:H a with
 | none=>rfl
 | some o =>
  obtain ⟨bD,z⟩:=(x a o q).some;rw [e] at z;cases z
theorem cU.dU (x:cU P w H h) (k:eK L F h h') (d:∀ b∈L,H b=.n) (c:∀ b∈F,H b=.n):cU P w H h':=λ a o e=>
 (x a o e).ij (λ b u f q=>by
  have ao:H b≠.n:=by
   rcases f with rfl|z
   ·rw [e];simp
   ·rw [z];simp
  exact k.1 b u (λ z=>ao (d b z)) (λ z=>ao (c b z)) q) (λ Z q=>q) λ Z Z q=>q
theorem cX.dU (u:cX aw [] dq H h0 h) (k:eK L F h h') (l:∀ b∈L,h0.get? b=.n) (j:∀ b∈F,b∈aw\/h0.get? b=.n):cX aw [] dq H h0 h':=by
 have d:∀ b o,h0.get? b=some o->b∉L:=λ b o e z=>by rw [l b z] at e;cases e
 refine #[λ b o e n g bf=>?_,λ b o e n hf bf=>?_,u.free,λ b o e bf=>?_,u.ha,u.gH,u.g_]
 ·refine k.1 b o (d b o e) (λ z=>?_) (u.keep b o e n g bf);rcases j b z with z|z
  ·exact g z
  ·rw [z] at e;cases e
 ·obtain ⟨cu,a⟩:=u.slot b o e n hf bf;by_cases c:b∈F
  ·obtain ⟨i,f⟩:=k.2 b _ (d b o e) c a;exact #[i,f]
  ·exact #[cu,k.1 b _ (d b o e) c a]
 ·obtain ⟨cZ,a⟩:=u.there b o e bf;by_cases c:b∈F
  ·obtain ⟨i,f⟩:=k.2 b _ (d b o e) c a;exact #[_,f]
  ·exact #[_,k.1 b _ (d b o e) c a]
inductive dY (P:Program) (w:World):i9
 |mk {outer H s E ev s'} (e T C:Addr) (d:Option Addr) (H':aD):ev=.ref e->s'.os=s.os->AllBare s'.gens->cX (cz outer) [] H H' s.heap s'.heap->cU P w H' s'.heap->s.heap.get? e=.n->s.heap.get? T=.n->T≠e->H' e=.n->H' T=.n->Rec s'.heap e (.ref C) d (.ref T)->Ent s'.heap T .none->E (.ref C) d H'->dY P w outer H s E ev s'
structure cv (X:aW) (pins:ef) (e:Addr):Prop where
 s0:X.s₀.heap.get? e=.n
 loc:e≠X.env.locals
 cell:∀ x c,X.env.cells.lookup x=some c->c≠e
 pin:∀ p∈X.gA++pins,p.1≠e
theorem cv.of {σ:St} (I:Inv X pins σ H s) (ae:X.ex=[]) (h:s.heap.get? e=.n):cv X pins e:=by
 refine #[?_,?_,λ x c af z=>?_,λ p ah z=>?_]
 ·cases q:X.s₀.heap.get? e with
  | none=>rfl
  | some o =>
   obtain ⟨cZ,z⟩:=I.base.there e o q (by rw [ae];simp);rw [h] at z;cases z
 ·intro z;obtain ⟨m,⟨o,_,_,aA,_⟩,_⟩:=I.loc;rw [z,aA] at h;cases h
 ·obtain ⟨v,o,aA,_⟩:=I.cell x c af;rw [<-z,aA] at h;cases h
 ·obtain ⟨aA,_⟩:=I.pin p ah;rw [<-z,aA] at h;cases h
def su (X:aW) (E:cL):Prop:=∀ pins (σ:St) H s (e C) d head a,Inv X pins σ H s->cv X pins e->H e=.n ->
 Rec s.heap e (.ref C) d head->nK s.heap e head a->(∀ b∈a,cv X pins b/\H b=.n)->E (.ref C) d H->X.a5 (.ref e) s
theorem ES (ae:X.ex=[]) (k:su X E):Passes (dY X.prog X.w) X E:=by
 rintro pins σ H s ev s' I ⟨e,T,C,d,H',rfl,aA,i,u,aK,g,f,l,c,b6,j,aG,h⟩;exact k pins σ H' s' e C d (.ref T) [T] (I.kT aA u aK i λ b a=>absurd a .zs) (cv.of I ae g) c j (.inr #[T,Y,aG,l,Y]) (λ b a=>by rw [cf.mp a];exact #[cv.of I ae f,b6]) h
theorem fQ {K:aP} :
  su (fj (dY P w) P w K mg base N qual scope f cd A outer s0 dq E) E:=by
 intro pins σ H s e C d head t I g c n m i k;have l:∀ b∈d8 (envOfC qual scope s0.heap.objs.size f cd::outer),H b=.n:=I.ix;refine leave I.ok.frames I.stack rfl n m λ h' T h p j r t1=>#[e,T,C,d,H,Y,I.os,I.bare,?_,?_,g.s0,(cv.of I Y h).s0,p,c,I.aK.gone h,r,t1,k]
 ·refine (show cX (cz outer) [] dq H s0.heap s.heap from I.base).dU j (λ b a=>?_) (λ b a=>?_)
  ·rcases bt.mp a with z|z
   ·rw [z];exact g.s0
   ·exact (i b z).1.s0
  ·rcases bt.mp a with z|z
   ·refine .inr ?_;cases q:s0.heap.get? b with
    | none=>rfl
    | some o=>have:=bu q;rw [z] at this;exact absurd this (ei _)
   ·exact .inl z
 ·refine I.aK.dU j (λ b a=>?_) l;rcases bt.mp a with z|z
  ·rw [z];exact c
  ·exact (i b z).2
theorem hc {K:aP} :
  Passes (dY P w) (fj (dY P w) P w K mg base N qual scope f cd A outer s0 dq E) E:=ES rfl fQ
abbrev h7:List Value:=[.type "ValueError", .type "Exception", .type "BaseException", .type "object"]
structure gE (K:aP) (mg:Str->b_) (x:Str) (C:Addr):Prop where
 at_:mg x=some (.ref C)
 is:PySem.W.excIn K C h7 "ValueError.__new__" = .t
set_option tactic.hygienic true in
theorem gE.own {K:aP} (c:gE K mg x C) (X:K.In h):OwnCls x C h7 "ValueError.__new__" mg h:=by
 obtain ⟨e,q⟩:=c;refine #[e,?_];unfold PySem.W.excIn at q;split at q
 ·rename_i dd cd cu aA;split at q
  ·rename_i g bm k0 k1 k2 k3 n k5 hm av;simp only [eJ,iO,Bool.not_eq_true'] at q;obtain ⟨⟨⟨⟨⟨rfl,rfl⟩,a⟩,aG⟩,aK⟩,b⟩:=q;obtain ⟨nm,bs,mro,ns,f,hd,sn,sub,ab,col,del⟩:=cd;subst hm a;have d:cu=[k0,k1,k2,k3,some (.builtin "ValueError.__new__"),k5].toArray:=by
    obtain ⟨l⟩:=cu;simp only at av;rw [av]
   subst d;exact #[bm,ns,nm,f,bs,hd,sn,sub,ab,col,dd,k0,k1,k2,k3,k5,_,X _ _ aA,.of_isNs (z_ X aK),PySem.W.nsMap_none_of_in X aK b,PySem.W.tail_of_in X aG]
  ·cases q
 ·cases q
def Rx (C:Addr) (E:cL) (aN:c2):cS:=λ _ σ H=>aN σ H λ vs H1=>vs.length<=sizeLine/\E (.ref C) .n H1
theorem fU (k:su X E) (ae:X.ex=[]) (af:X.calm=.t) (c:gE X.K X.mg x C) (p:cy X x) (ak:dG X (a::aj) aN) (w:noStar a=.t:=by rfl)
  (v:(backTo bR (starEach aj X.env)).any (·.1)=.f:=by rfl) (hd:(x==("__debug__" : Str))=.f:=by decide):e0 X (.Raise (some (.Call (.Name x np) (a::aj) [] bR)) .n pos) (Rx C E aN):=#[by
 intro pins s σ H D I h;obtain ⟨c6,N,nm,q,bs,hdct,sn,sub,ab,col,dd,k0,k1,k2,k3,k5,mN,i,l,u,T⟩:=(c.own I.mod.g5).obj;have he:=n8 w aj X.env;refine wpAny_Raise_call_subT (nm:=nm) (q:=q) (N:=N) (bs:=bs) (hdct:=hdct) (sn:=sn) (sub:=sub) (ab:=ab) (col:=col) (dd:=dd) (k0:=k0) (k1:=k1) (k2:=k2) (k3:=k3) (k5:=k5)
  pH (T.hasType pH.hasBase) (I.ok.hd.1 af) (by rw [he];show (.f||(backTo bR (starEach aj X.env)).any (·.1))=.f;rw [v];rfl) u (iW I p c.at_ #[Y,?_] hd)
 have f:=ak.o bR pins s σ H _ I h;rw [he] at f ⊢;refine pF (aU f ?_);rintro us s1 ⟨vs,H1,d,r,y,j⟩;refine #[Y,by rw [<-r.length];exact y,d.bl _ _ i,l.keeps d.bl,T.keeps d.bl,λ h' e hm=>?_]
 ·have g:=d.kept (t':=s1.toks) hm.keeps;obtain ⟨t,n,_,_⟩:=hm.there;refine k pins σ H1 _ e C .n .none [] g (cv.of d ae hm.new) (d.aK.gone hm.new) #[_,_,n,Y,Y,Y,Y,Y] (.inl #[Y,Y]) (λ b m=>absurd m .zs) j]
end bj
namespace PySem
section
variable {M:Model} {A:Around} {E:c0}
variable {nm q DD aR:Str} {C N D B7:Addr} {bs bm CV u3:List Value} {hdct EL:Bool} {sn DQ:bA} {sub Ey:List Value} {ab CU:Bool} {col D8:Option Bool} {dd kH:Option Addr} {k0 k1 k2 k3 k5 xV ct c5 i4 Cs:b_} {newId QI:String}
theorem Y9 {os:OsState}
  (b:h.get? C=some (excClassObj nm q C N bs bm hdct sn sub ab col dd k0 k1 k2 k3 k5 newId)) (a:h.get? D=some (excClassObj DD aR D B7 CV u3 EL DQ Ey CU D8 kH xV ct c5 i4 Cs QI))
  (he:h.get? e=some a6) (k:a6.cls=.ref C) (c:u3.contains (.type "BaseException")=.t) (fY:bm.contains (.ref D)=.t)
  (l:Q .t ⟨h,g,d,t,os⟩):wpAny M A (excMatches (.ref e) (.ref D)) Q E ⟨h,g,d,t,os⟩:=by
 have i:(Value.ref D::u3).contains (.type "BaseException")=.t:=by rw [qS,c,Bool.or_true]
 have j:(Value.ref C::bm).contains (.ref D)=.t:=by rw [qS,fY,Bool.or_true]
 have f:=tc_notTuple
 repeat (first|(with_reducible refine pI he ?_;rw [k])|with_reducible refine pI a ?_|(with_reducible refine tN a ?_;rw [i])|(with_reducible refine tN b ?_;rw [j])|wp_step)
 exact l
end
end PySem
namespace bj
open PySem PySem.Spec PyProof.Rows hx
theorem Inv.dU {σ:St} (I:Inv X pins σ H s) (ae:X.ex=[]) (h:eK L (cz X.stack) s.heap h') (g:∀ b∈L,cv X pins b/\H b=.n) :
  Inv X pins σ H { s with heap:=h' }:=by
 have one:∀ b o,b∉L->s.heap.get? b=some o->∃ cu,h'.get? b=some { o with slots:=cu }:=λ b o nl e=>by
  by_cases f:b∈cz X.stack
  ·exact h.2 b o nl f e
  ·exact #[o.slots,h.1 b o nl f e]
 refine #[I.ok,I.os,I.bare,?_,?_,λ x c e=>?_,I.free,I.fm,λ p ah=>?_,I.aK.dU h (λ b f=>(g b f).2) I.ix,I.len]
 ·rw [ae];have u:=I.base;rw [ae] at u;refine u.dU h (λ b f=>(g b f).1.s0) λ b f=>?_
  rcases bt.mp (I.j5 b f) with z|z
  ·refine .inr ?_;cases q:X.s₀.heap.get? b with
   | none=>rfl
   | some o =>
    have:=ey (bu q) I.ok.above;rw [z] at this;exact absurd this (ei _)
  ·exact .inl z
 ·obtain ⟨m,⟨o,aj,B,aA,r⟩,C⟩:=I.loc;obtain ⟨cu,A⟩:=one X.env.locals o (λ z=>(g _ z).1.loc Y) aA;refine #[m,#[_,aj,B,A,r],λ i x v a b c=>?_];obtain ⟨u,D,l⟩:=C i x v a b c;refine #[u,D,?_];rcases l with l|⟨k,c,e,dR,t,hd⟩
  ·exact .inl l
  ·obtain ⟨E,j⟩:=one c dR (λ z=>(g _ z).1.cell x c e Y) t;exact .inr #[k,c,e,_,j,hd]
 ·obtain ⟨v,dR,t,hd⟩:=I.cell x c e;obtain ⟨E,j⟩:=one c dR (λ z=>(g _ z).1.cell x c e Y) t;exact #[v,_,j,hd]
 ·obtain ⟨e,n,ne,w,d⟩:=I.pin p ah;refine #[h.1 p.1 p.2 (λ z=>(g _ z).1.pin p ah Y) (λ z=>?_) e,n,ne,w,d];rcases bt.mp (I.j5 p.1 z) with y|y
  ·exact ne y
  ·exact w y
theorem Iw {σ:St} (I:Inv X pins σ H s) (C:X.N.Nodup) (ar:X.N[i]?=some x) (r:X.env.scope.names.lookup x=some .local) (aI:σ[i]?=some (some v))
  (h:∀ s',Inv X pins (σ.set i .n) H s'->Q () s'):wpAny M A (unbindName X.env x) Q E s:=by
 obtain ⟨m,ao,w⟩:=id I.loc;have D:(X.env.scope.kind==.class||(X.env.scope.kind==.module&&X.env.locals != X.env.globals))=.f:=by rw [I.ok.kind];rfl
 obtain ⟨u,_,lk⟩:=w i x v ar aI (.inl r);have hm:m x=some u:=by
  rcases lk with ⟨_,e⟩|⟨k,_⟩
  ·exact e
  ·have dQ:X.env.scope.names.lookup x=some .cell\/X.env.scope.names.lookup x=some .free:=k;rw [r] at dQ;rcases dQ with z|z<;>cases z
 refine wpAny_unbindName_local r ao hm D λ h' b1 G av=>?_
 obtain ⟨T,_,_,S,_⟩:=id ao;have t:∀ b o,X.s₀.heap.get? b=some o->b≠X.env.locals:=λ b o e=>cc (ey (bu e) I.ok.above)
 refine h _ #[I.ok,I.os,I.bare,#[λ b o e n g ae=>?_,λ b o e n g ae=>?_,I.base.free,λ b o e ae=>?_,I.base.ha,I.base.gH,I.base.g_],#[_,G,λ j y P a f B=>?_],λ y c e=>?_,I.free,I.fm,λ p ah=>?_,?_,?_]
 ·exact (av.2 b (t b o e)).trans (I.base.keep b o e n g ae)
 ·obtain ⟨cu,a⟩:=I.base.slot b o e n g ae;exact #[cu,(av.2 b (t b o e)).trans a]
 ·obtain ⟨cZ,a⟩:=I.base.there b o e ae;exact #[cZ,(av.2 b (t b o e)).trans a]
 ·by_cases l:j=i
  ·subst l;have hiσ:=(dr.mp aI).1;rw [pl hiσ] at f;cases f
  ·rw [List.getElem?_set_ne (dz l)] at f;obtain ⟨O,L,q⟩:=w j y P a f B;refine #[O,L,?_];rcases q with ⟨k,e⟩|⟨k,c,e,z⟩
   ·refine .inl #[k,?_];have:y≠x:=λ e=>l (AZ C a (e ▸ ar))
    simp [this,e]
   ·exact .inr #[k,c,e,z.sameBut av (I.lQ y c e)]
 ·obtain ⟨R,z⟩:=I.cell y c e;exact #[R,z.sameBut av (I.lQ y c e)]
 ·obtain ⟨e,n,ne,aC,d⟩:=I.pin p ah;exact #[(av.2 p.1 ne).trans e,n,ne,aC,d]
 ·intro b bD e;refine (I.aK b bD e).ij (λ c b1 af q=>(av.2 c ?_).trans q) (λ Z q=>q) λ Z Z q=>q
  rintro rfl;rcases af with rfl|af
  ·rw [I.free] at e;cases e
  ·rw [I.free] at af;cases af
 ·rw [pD];exact I.len
noncomputable def l5 (e C:Addr) (d:Option Addr):eZ:=.ext λ h=>∃ a6 vs,h.get? e=some a6/\a6.cls=.ref C/\a6.dict=d/\a6.data=.fields vs/\vs[2]?=some .none
theorem Rec.ok (r:Rec h e (.ref C) d head):eh P w H h e (l5 e C d):=by
 obtain ⟨a6,vs,he,af,hd,hf,_,aa⟩:=r;refine #[#[a6,vs,he,af,hd,hf,aa],#[_,he],?_];rintro U aa ⟨f,g,a,b,c,b4⟩ k;exact #[f,g,k _ a,b,c,b4]
theorem Inv.known {σ:St} (I:Inv X pins σ H s) (ae:X.ex=[]) (g:cv X pins e) (he:H e=.n) (ok:eh X.prog X.w (upd H e o) s.heap e o) (i:∀ b∈cz X.stack,b≠e):Inv X pins σ (upd H e o) s:=by
 have h:∀ b bD,X.s₀.heap.get? b=some bD->b≠e:=λ b bD q z=>by rw [z,g.s0] at q;cases q
 refine #[I.ok,I.os,I.bare,#[I.base.keep,I.base.slot,λ b bD q n ae=>by rw [bC (h b bD q)];exact I.base.free b bD q n ae,I.base.there,λ b xs q=>?_,λ b bD u q=>?_,λ b ai q=>?_],I.loc,I.cell,?_,λ x c q=>?_,λ p ah=>?_,λ b bD q=>?_,I.len]
 ·have:=I.base.ha b xs q;rw [bC (cq this he)];exact this
 ·have:=I.base.gH b bD u q;rw [bC (cq this he)];exact this
 ·obtain ⟨m,this⟩:=I.base.g_ b ai q;exact #[m,by rw [bC (cq this he)];exact this]
 ·rw [bC (dz g.loc)];exact I.free
 ·rw [bC (g.cell x c q)];exact I.fm x c q
 ·obtain ⟨a,b,c,d,f⟩:=I.pin p ah;exact #[a,by rw [bC (g.pin p ah)];exact b,c,d,f]
 ·by_cases z:b=e
  ·subst z;rw [bN] at q;cases q;exact ok
  ·rw [bC z] at q;refine (I.aK b bD q).ij (λ Z Z Z q=>q) (λ c q=>?_) λ c xs q=>?_
   ·rw [bC (cq q he)];exact q
   ·rw [bC (cq q he)];exact q
noncomputable abbrev hi (X:aW) (pins:ef) (W:c0):aW :=
 { X with gA:=X.gA++pins,a5:=λ e s1=>wpAny (model X.prog X.w) X.A (noteFrame e X.env) (λ Z s2=>wpAny (model X.prog X.w) X.A (setFlight e .n) (λ Z s3=>W e s3) X.a5 s2) X.a5 s1 }
noncomputable abbrev hh (X:aW) (e:Addr):aW:={ X with A:=X.A.mark (some (.ref e)),calm:=.f,warm:=.f,a5:=λ Z Z=>False }
section
variable {X:aW} {pins iq:ef} {σ:St} {H:aD} {s:Shared} {W:c0} {e:Addr}
theorem aW.Ok.tq (ok:X.Ok):(hi X pins W).Ok :=
 #[ok.mod,ok.kind,ok.glob,ok.blt,ok.above,ok.inj,ok.has,ok.kG,ok.hd,ok.frames,ok.l0,ok.oF,ok.bs,ok.fI,ok.ji,ok.l6,ok.f5,ok.ia]
theorem aW.Ok.e_ (ok:(hi X pins W).Ok):X.Ok :=
 #[ok.mod,ok.kind,ok.glob,ok.blt,ok.above,ok.inj,ok.has,ok.kG,ok.hd,ok.frames,ok.l0,ok.oF,ok.bs,ok.fI,ok.ji,ok.l6,ok.f5,ok.ia]
theorem aW.Ok.tG (ok:X.Ok):(hh X e).Ok :=
 #[ok.mod,ok.kind,ok.glob,ok.blt,ok.above,ok.inj,ok.has,ok.kG,#[λ h=>(nomatch h),λ h=>(nomatch h)],ok.frames,ok.l0,ok.oF,ok.bs,ok.fI,ok.ji,ok.l6,ok.f5,ok.ia]
theorem Inv.tq (I:Inv X pins σ H s):Inv (hi X pins W) [] σ H s :=
 #[I.ok.tq,I.os,I.bare,I.base,I.loc,I.cell,I.free,I.fm,λ p ah=>I.pin p (by rw [qJ] at ah;exact ah),I.aK,I.len]
theorem Inv.e_ (I:Inv (hi X pins W) iq σ H s):Inv X pins σ H s :=
 #[I.ok.e_,I.os,I.bare,I.base,I.loc,I.cell,I.free,I.fm,λ p ah=>I.pin p (pk _ ah),I.aK,I.len]
theorem Inv.tG (I:Inv X pins σ H s):Inv (hh X e) pins σ H s:=#[I.ok.tG,I.os,I.bare,I.base,I.loc,I.cell,I.free,I.fm,I.pin,I.aK,I.len]
theorem Inv.mC (ok:X.Ok) (I:Inv (hh X e) pins σ H s):Inv X pins σ H s:=#[ok,I.os,I.bare,I.base,I.loc,I.cell,I.free,I.fm,I.pin,I.aK,I.len]
theorem cv.e_ (f:cv (hi X pins W) iq b):cv X pins b:=#[f.s0,f.loc,f.cell,λ p ah=>f.pin p (pk _ ah)]
end
structure Under (K:aP) (C F:Addr):Prop where
 is:PySem.W.excIn K C h7 "ValueError.__new__" = .t
 Ds:PySem.W.mroIn K C (.ref F)=some .t
 ne:C≠F
theorem fG.gh {K:aP} (F:fG K x qual st f fd) (S:bH N ai (bo st)) (len:∀ vs H Q E,sp vs H Q E->vs.length=ai.length)
  (c:∀ a0 A outer s H vs Q E,cR k (A.deeper (envOfC qual (bo st) s.heap.objs.size f a0))->sp vs H Q E ->
   ∃ t,fH (fj (dY P w) P w K mg base N qual (bo st) f a0 A outer s H E) (iV st) t/\t { bf:=λ Z H'=>Q .aQ H',iC:=Q } (start N vs) H):dB P w K mg base (dY P w) (k+1) f fd ai sp:=by
 obtain ⟨dR,cH,cT,doc,pm,an,a0,b9,kN,rfl,lk,d⟩:=F.ex;exact zu lk d S len λ A outer s H vs Q E e g=>let ⟨t,a,b⟩:=c a0 A outer s H vs Q E e g;⟨t,a.o,b⟩
end bj
namespace PySem.W
open PySem PySem.Spec PySem.Calls PyProof.Rows
section
variable {prog:Program} {w:World} {A:Around} {E:c0} {s:Shared} {K:Frag} {x C:Addr} {lK:Obj} {cH:Option Obj}
theorem X4 (af:(clsIn K C).isSome=.t) (ak:findIn K (.ref C) name=some (some a)) (b:specialIn K a "__get__" = some (some g)) (aG:takesIn K a=some .t):findObj K C cH name=some (.bind g a):=by
 obtain ⟨cd,af⟩:=tu.mp af;unfold findObj;rw [af,Option.bind_some,ak,Option.bind_some];simp [b,aG]
structure gG (K:Frag) (C:Addr):Prop where
 cls:(clsIn K C).isSome=.t
 ga:findIn K (.ref C) "__getattribute__" = some (some (.builtin "BaseException.__getattribute__"))
 Cq:findIn K (.ref C) "__getattr__" = some .n
 at_:findIn K (.ref C) "__class__" = some (some (.builtin "object.__class__"))
 get:specialIn K (.builtin "object.__class__") "__get__" = some (some (.builtin "getset_descriptor.__get__"))
 a8:takesIn K (.builtin "object.__class__")=some .t
 bD:mroIn K C (.type "object")=some .t
 be:mroIn K C (.type "BaseException")=some .t
theorem Vh (X:K.In s.heap) (I:InstAt s.heap x lK C cH) (c:gG K C) (h:Q (.done (.ret (.ref C))) s) :
  wpAny (model prog w) A (Builtin.«object.__getattribute__» ⟨[.ref x,.str "__class__" a8],[]⟩) Q E s:=by
 obtain ⟨e,g,d,t,os⟩:=s;have a:=I.type (M:=model prog w);have b:=looks_find (M:=model prog w) X I (X4 c.cls c.at_ c.get c.a8);refine ax (a_ (ax (a_ (ax (a.at (ax (b.at ?_)))))));exact ax (eV (j1 (class_get X I c.bD (a_ h))))
theorem HB (X:K.In s.heap) (I:InstAt s.heap x lK C cH) (c:gG K C) (h:Q () s):wpAny (model prog w) A (checkBuiltinCall "BaseException.__getattribute__" ⟨[.ref x,e],[]⟩) Q E s:=by
 have i:builtinKind "BaseException.__getattribute__" = some .slot:=by decide +kernel
 have j:splitId "BaseException.__getattribute__" = some ("BaseException", "__getattribute__"):=by decide +kernel
 have ak:=F.args_bexc_ga (.ref x) e;obtain ⟨f,g,d,t,os⟩:=s;have a:=I.type (M:=model prog w);have b:=looks_mroIn (M:=model prog w) X c.be;refine ax ?_;refine ax (a.at (b.at ?_))
 repeat (first|assumption|wp_step)
theorem Vg (X:K.In s.heap) (I:InstAt s.heap x lK C cH) (c:gG K C) (h:Q (some (.ref C)) { s with toks:=s.toks+1 }):wpAny (model prog w) A (getAttr? (.ref x) "__class__") Q E s:=by
 obtain ⟨f,g,d,t,os⟩:=s;have a:=I.type (M:=model prog w);have b:=tO (M:=model prog w) X c.ga;have bj:=tO (M:=model prog w) X c.Cq;have e:=wc.ga.bind (.ref x);refine ax (wpAny_mkText (ax (kY (eV (ax (a.at (ax (b.at ?_))))))));refine ax (bj.at (ax (kY (eV ?_))));show wpAny _ _ (boundAndCalled _ _ _) _ _ _
 repeat (any_goals (wp_step))
 refine tP wc.ga.plain PySem.F.entry_bexc_ga (HB X I c (Vh X I c ?_));exact handed_on rfl (a_ h)
def Pe (x C:Addr) (h:Heap):Prop:=∃ lK cH,InstAt h x lK C cH
set_option tactic.hygienic true in
theorem T5 (c:gG K C):KitX K (.ref x) (.ref C) (Pe x C) where
 ty:=λ _ _ _ ⟨_,_,I⟩=>I.type
 it:=λ Z Z X Z=>by
  obtain ⟨f,a⟩:=tu.mp c.cls;unfold clsIn at a;split at a
  ·rename_i b b4 d i aA;intro j m l s' k q;exact ax (wpAny_loadPart (k _ _ (X _ _ aA)) (a_ q))
  ·cases a
 ne:=λ h p dd o n cu X g=>by
  obtain ⟨f,a⟩:=tu.mp c.cls;refine lh.mpr λ q=>?_
  have e:=Value.ref.inj (iO.mp q);subst e;unfold clsIn at a;split at a
  ·rename_i b b4 d i aA;have z:=(X _ _ aA).symm.trans g;cases z
  ·cases a
 ca:=λ X ⟨_,_,I⟩ k=>Vg X I c k
end
end PySem.W
namespace bj
open PySem PySem.Spec PyProof.Rows hx
noncomputable def Pk:V->b_
 | .ref a=>some (.ref a)
 | .ty T=>some (.type T)
 | _=>.n
structure gK (k:Nat) (A:Around):Prop where
 hW:A.depth+3*k+5<recursionLimit
 un:A.units+16*k+200<cLine
theorem cR.u (r:cR k A):gK k A:=#[r.hW,r.un]
theorem cR.mark (r:cR k A) (e):gK k (A.mark e):=#[r.hW,r.un]
theorem gK.mono (r:gK k A) (h:j<=k):gK j A:=#[by have:=r.hW;omega,by have:=r.un;omega]
theorem gK.deeper (r:gK (k+1) A) (env):gK k (A.deeper env) :=
 #[by have:=r.hW;show A.depth+1+3*k+5<_;omega,by have:=r.un;show A.units+3+16*k+200<_;omega]
theorem gK.depth (r:gK k A):A.depth<recursionLimit:=by have:=r.hW;omega
structure zr (P:Program) (w:World) (K:aP) (mg:Str->b_) (base:Heap) (k:Nat) (f:Addr) (fd:FuncData) (ai:bA) (sp:bG):Prop where
 len:∀ vs H Q E,sp vs H Q E->vs.length=ai.length
 run:∀ (A:Around) (outer:List Env) (s:Shared) (H:aD) (args:Args) (us:List Value) (vs:bh) (Q:b2) (E:cL),gK k A->jV P w K mg base A outer s H->BindsTo s fd args (ai.zip us)->Vals vs us->sp vs H Q E ->
  codeAny (model P w) A (.call (.ref f) args) (xC cn outer P w H s Q E) s
noncomputable abbrev u5 (P:Program) (w:World) (K:aP) (mg:Str->b_) (base:Heap) (N:bA) (qual:Str) (scope:Scope) (f:Addr) (cd:Value) (A:Around) (outer:List Env) (s:Shared) (H:aD) (E:cL):aW :=
 { fj cn P w K mg base N qual scope f cd A outer s H E with calm:=.f,warm:=.f,a5:=λ Z Z=>False }
theorem WD {K:aP}
  (S:bH N ai scope) (a:jV P w K mg base A outer s H) (b:vs.length=ai.length) (r:Vals vs us)
  (x:InCallC s s.heap.objs.size (bindL (envOfC qual scope s.heap.objs.size f cd).kindOf (ai.zip us) λ Z=>.n) (cellsFrom (s.heap.objs.size+1) scope.names []) (bindC (envOfC qual scope s.heap.objs.size f cd).kindOf (ai.zip us) λ Z=>.n) s1) :
  Inv (u5 P w K mg base N qual scope f cd A outer s H E) [] (start N vs) H s1:=by
 have I:Inv (fj cn P w K mg base N qual scope f cd ({ A with handled:=.n }) outer s H E) [] (start N vs) H s1:=Bg S rfl #[a.frames,a.mod,a.bs,a.fI,a.f5,a.ia,a.aK,a.bare] b r x;have ok:=I.ok;exact #[#[ok.mod,ok.kind,ok.glob,ok.blt,ok.above,ok.inj,ok.has,ok.kG,#[λ h=>(nomatch h),λ h=>(nomatch h)],ok.frames,ok.l0,ok.oF,ok.bs,ok.fI,ok.ji,ok.l6,ok.f5,ok.ia],I.os,I.bare,I.base,I.loc,I.cell,I.free,I.fm,I.pin,I.aK,I.len]
theorem fG.OH {K:aP} (F:fG K x qual st f fd) (S:bH N ai (bo st)) (len:∀ vs H Q E,sp vs H Q E->vs.length=ai.length)
  (j:∀ a0 A outer s H vs Q E,gK k (A.deeper (envOfC qual (bo st) s.heap.objs.size f a0))->sp vs H Q E ->
   ∃ t,fH (u5 P w K mg base N qual (bo st) f a0 A outer s H E) (iV st) t/\t { bf:=λ Z H'=>Q .aQ H',iC:=Q } (start N vs) H):zr P w K mg base (k+1) f fd ai sp:=by
 obtain ⟨dR,cH,cT,doc,pm,an,a0,b9,kN,rfl,lk,l⟩:=F.ex;refine #[len,λ A outer s H args us vs Q E g a i r h=>?_];have p:=len _ _ _ _ h;have d:=a.mod.g5.keeps λ b o e=>(a.bs b o e).1
 have lim:=a.mod.nolimit.keeps λ b o e=>(a.bs b o e).1
 have m:∀ y∈ai.zip us,(bo st).names.lookup y.1=some .local\/((bo st).names.lookup y.1=some .cell/\((cellsFrom (s.heap.objs.size+1) (bo st).names []).lookup y.1).isSome=.t):=λ ⟨n,v⟩ B=>by
  rcases S.par n (nI B).1 with q|q
  ·exact .inl q
  ·exact .inr #[q,vP _ _ _ (.inl q)]
 refine zH g.depth (d _ _ lk) rfl S.co S.gen rfl (z0 d l) (i _ _ _ _ ?_);refine z1 S.kind m λ env he s1 x=>?_
 subst he;refine #[lim.keeps x.toInCall.keep,codeAny_func ?_];obtain ⟨t,aG,z⟩:=j a0 A outer s H vs Q E (g.deeper _) h;have I:Inv (u5 P w K mg base N qual (bo st) f a0 A outer s H E) [] (start N vs) H s1:=WD S a p r x;refine d_ (aG.o [] s1 (start N vs) H _ I z) (λ fl s' av=>?_) λ e s' av=>av.elim
 have fin:∀ {σ':St} {H':aD} {v:V} {u:Value},Inv (u5 P w K mg base N qual (bo st) f a0 A outer s H E) [] σ' H' s'->RelV v u->Q v H'->pY outer P w H s Q u s' :=
  λ {σ' H' v u} aC c q=>#[v,H',aC.os,aC.bare,aC.base,aC.aK,c,q]
 cases fl with
 | ret u =>
  obtain ⟨v,σ',H',aC,c,q⟩:=av;exact fin aC c q
 | next =>
  obtain ⟨σ',H',aC,q⟩:=av;exact fin (v:=V.aQ) aC rfl q
 | brk =>
  obtain ⟨_,_,_,q⟩:=av;exact False.elim q
 | cont =>
  obtain ⟨_,_,_,q⟩:=av;exact False.elim q
section
variable {X:aW} {k:Nat} {f:Addr} {fd:FuncData} {ai:bA} {sp:bG} {x:Str} {p pos:Pos} {e:Expr} {aj:List Expr} {t:c2}
theorem UQ (F:zr X.prog X.w X.K X.mg X.base k f fd ai sp) (n:gK k X.A) (i:cy X x) (hm:X.mg x=some (.ref f)) (j:PySem.W.keepIn X.K (.ref f)=.t) (d:Binds X.K fd ai [])
  (ak:dG X (e::aj) t) (g:(x==("__debug__" : Str))=.f:=by decide) (v:noStar e=.t:=by rfl) (m:(backTo pos (starEach aj X.env)).any (·.1)=.f:=by rfl) :
  aZ X (.Call (.Name x p) (e::aj) [] pos) (kV sp [] ft t):=#[by
 intro pins s σ H Q I h;refine j3 (iW I i hm ?_ g);refine ps I.ok.mod.g5 j (aU (ak.o pos pins s σ H _ I h) ?_) (n8 v aj X.env) m;rintro us s1 ⟨vs,H1,b,r,q⟩;refine #[b.cA,?_];have c:=r.append .nil;have l:(us++[]).length=ai.length:=by rw [<-c.length];exact F.len _ _ _ _ q
 refine j1 (j2 (F.run X.A X.stack s1 H1 #[us,[]] (us++[]) (vs++[]) Q ft n b.o5 (d s1 us b.cA l) c q) λ r s' a=>?_);cases r with
 | error e=>exact False.elim a
 | ok fl =>
  cases fl with
  | ret u=>exact b.after a
  | next=>exact False.elim a
  | brk=>exact False.elim a
  | cont=>exact False.elim a]
end
open PySem PySem.Spec PySem.SeqAt PyProof.Rows hx
theorem JL (k):∀ bs:List Bool,(bs.map Value.bool).countP (isBoolOf k)=bs.count k
 | []=>rfl
 | b::bs=>by
  rw [es,List.countP_cons,List.count_cons,JL k bs];rfl
theorem GO (k) (bs:List Bool) (y) (a:y∈bs.map Value.bool) (A) (s):EqAt A s y (.bool k) (isBoolOf k y):=by
 obtain ⟨b,_,rfl⟩:=cW.mp a;exact EqAt.bool_bool b k
section
variable {X:aW}
def SR:V->bh->aD->b2->Prop:=λ x vs H Q=>∃ (l:Addr) (bs:List Bool) (k:Bool),x=.ref l/\vs=[.aO k]/\H l=some (.lst (bs.map V.aO))/\Q (.int (bs.count k)) H
theorem VT:m3 X "list.count" SR:=by
 intro pins s σ H x vs v us Q I f d h;obtain ⟨l,bs,k,rfl,rfl,a,q⟩:=h;cases f;obtain ⟨u,rfl,c⟩:=d.one;cases c;obtain ⟨z,i,n,r,g,e⟩:=I.fK a;cases wQ r;refine jr PySem.F.slot_list_count #[_,e,Y] PySem.F.entry_list_count (PySem.F.args_list_count_2 _ _) (list_countAt l _ n .n #[] (.bool k) (isBoolOf k)) #[e,λ y b=>GO k bs y (by simpa using b) _ _,?_];refine #[.int (bs.count k),H,I.tok _,#[s.toks,?_],q];rw [show (bs.map Value.bool).toArray.toList=bs.map Value.bool from rfl,JL]
def SS:V->bh->aD->b2->Prop:=λ x vs H Q=>∃ (l:Addr) (bs:List Bool) (k:Bool) (j:Nat),x=.ref l/\vs=[.aO k]/\H l=some (.lst (bs.map V.aO))/\bs[j]?=some k/\(∀ m,m<j->bs[m]?=some (!k))/\bs.length<=1000/\Q (.int j) H
theorem VU:m3 X "list.index" SS:=by
 intro pins s σ H x vs v us Q I t p h;obtain ⟨l,bs,k,j,rfl,rfl,c,a,d,A,q⟩:=h;cases t;obtain ⟨u,rfl,o⟩:=p.one;cases o;obtain ⟨z,B,n,r,w,e⟩:=I.fK c;cases wQ r;have b:=(dr.mp a).1;refine jr PySem.F.slot_list_index #[_,e,Y] PySem.F.entry_list_index (PySem.F.args_list_index_2 _ _)
  (list_indexAt l _ n .n #[] (.bool k) (isBoolOf k) j (by simpa using b) .au ?_ ?_) #[e,λ y i=>GO k bs y (by simpa using i) _ _,#[.int j,H,I.tok _,#[s.toks,Y],q]]
 ·have:bs[j]=k:=by rw [cK b] at a;exact cE a
  simp [isBoolOf,this]
 ·intro m hm f;have aa:=d m f;have g:m<bs.length:=by omega
  have:bs[m] = !k:=by rw [cK g] at aa;exact cE aa
  simp [isBoolOf,this]
end
section
variable {K:aP} {a b D:Addr} {js:List (Option Nat)} {g:fF} {bg:TE} {σ:St} {H1:aD} {Q:b2}
theorem TF (ao:min xs.length ys.length<=sizeLine) (Pv:Nat->St->aD->bh->Prop) (h0:Pv 0 (pick js σ) (upd H1 D (.lst [])) [])
  (j:∀ i σ' H' zs,H' D=some (.lst zs)->Pv i σ' H' zs->aX K H' a xs/\aX K H' b ys)
  (av:∀ i x y p σ' H' zs (R:St->V->aD->Prop),xs[i]?=some x->ys[i]?=some y->H' p=.n->H' D=some (.lst zs)->zs.length=i->Pv i σ' H' zs->(∀ σ2 z e,e D=some (.lst zs)->Pv (i+1) σ2 (upd e D (.lst (zs++[z]))) (zs++[z])->R σ2 z e) ->
   g (.ref p) σ' (upd H' p (.tup [x,y])) λ σ2 l=>bg σ2 l λ z e=>R σ2 z e)
  (r:∀ σ' H' zs,H' D=some (.lst zs)->zs.length=min xs.length ys.length->Pv (min xs.length ys.length) σ' H' zs->Q (.ref D) H'):hL (oC K a b) D js g kc bg σ H1 Q:=by
 refine w9 ao Pv h0 (λ i σ' H' zs ar d p=>?_) (λ σ' H' zs d m c=>#[?_,r σ' H' zs d m c]) λ i σ' H' zs x aq R ar d t p ae k=>?_
 ·obtain ⟨f,h⟩:=j i σ' H' zs d p;have U:i<xs.length:=by omega
  have aa:i<ys.length:=by omega
  exact #[xs,ys,xs[i],ys[i],f,h,by simp [U],by simp [aa]]
 ·obtain ⟨f,h⟩:=j _ σ' H' zs d c;exact #[xs,ys,f,h,.au]
 ·obtain ⟨f,h⟩:=j i σ' H' zs d p;obtain ⟨q,o,rfl,u,v,rfl,s⟩:=ae;obtain ⟨ex,n⟩:=s xs ys f h;exact av i u v q σ' H' zs R ex n o d t p k
end
theorem Kf {K:aP} (ah:pick js σ=o::σ0) (ao:xs.length<=sizeLine) (b:H1 D=.n) (c:aX K H1 a xs)
  (av:∀ x H' R,ay H1 H'->x∈xs->R (f x) H'->bg (some x::σ0) H' R) (q:Q (.ref D) (upd H1 D (.lst (xs.map f)))):hL (m2 K a) D js (e4 0) kc bg σ H1 Q:=by
 refine wV ao (λ i σ' H' ys=>(∃ u,σ'=u::σ0)/\ys=(xs.take i).map f/\H'=upd H1 D (.lst ys)) #[#[o,ah],Y,Y] ?_ ?_ ?_
 ·rintro i σ' H' ys _ _ ⟨_,rfl,rfl⟩;exact c.Gx b
 ·rintro i x σ' H' ys R ae _ _ ⟨⟨u,rfl⟩,rfl,rfl⟩ k;refine av x _ _ (bV.ay.new b) (b5 ae) (k _ _ _ bN #[#[_,Y],(xo ae).symm,Gy])
 ·rintro σ' H' ys _ _ ⟨_,rfl,rfl⟩;rw [ju];exact q
theorem ra {K:aP} (a:X.K=K) (af:X.warm=.t) (h:sq X aj t) (ao:(assignEach aj X.env).length=n:=by rfl) (b:(assignEach aj X.env).findIdx? (·.1)=.n:=by rfl):iz X (.Tuple aj k pos) (o6 K n t):=by
 subst a;exact tC af h ao b
def PU (c:TT) (t u:cS):cS:=λ D σ H=>∃ aC,(c σ H λ b H1=>if b=.t then t { D with bf:=aC } σ H1 else u { D with bf:=aC } σ H1)/\∀ σ' H',aC σ' H'->D.bf σ' H'
theorem zV (af:hv X c cg) (ak:fH X a t) (e:fH X b u):e0 X (.If c a b pos) (PU cg t u):=#[by
 rintro pins s σ H D I ⟨aC,U,aa⟩;refine aU ((bM af ak e).o pins s σ H { D with bf:=aC } I U) λ f s' av=>?_
 cases f with
 | next=>obtain ⟨σ',H',d,q⟩:=av;exact #[σ',H',d,aa σ' H' q]
 | brk=>exact av
 | cont=>exact av
 | ret u=>exact av]
end bj
namespace PySem.W
theorem By (h:mroIn K C b=some r):(clsIn K C).isSome=.t:=by
 obtain ⟨cd,a,_⟩:=tQ.mp h;rw [a];rfl
theorem T4:kitOne K (.ref C) (.ref C)=some .t:=by
 unfold kitOne;rw [if_pos .zs]
theorem VO (ty:typeIn K (.ref D)=some (.type "type")) (mo:mroIn K D (.type "object")=some .t) (m:mroIn K C (.ref D)=some .f) (n:C≠D):kitOne K (.ref C) (.ref D)=some .f:=by
 unfold kitOne;rw [if_neg (λ z=>n (by have:=iO.mp z;injection this))];show (if ((clsIn K D).isSome&&typeIn K (.ref D)==some (.type "type"))=.t then subIn K (.ref C) (.ref D) else .n)=_;rw [By mo,ty];exact m
theorem RV (m:mroIn K C (.type "ValueError")=some .t):kitOne K (.ref C) (.type "ValueError")=some .t:=by
 unfold kitOne;rw [if_neg (λ z=>by cases iO.mp z)];show (if kitMeta "ValueError" = .t then subIn K (.ref C) (.type "ValueError") else .n)=_;rw [if_pos (by decide +kernel)];exact m
end PySem.W
namespace ck
noncomputable def kP (p:Nat):Nat->Nat->Nat
 | 0,_=>0
 | f+1,n=>if 2<=p/\1<=n/\n%p=0 then kP p f (n/p)+1 else 0
theorem HU (p):∀ f n,n<=f->kP p (f+1) n=kP p f n
 | 0,n,h=>by
  obtain rfl:n=0:=by omega
  exact if_neg (λ z=>by omega)
 | f+1,n,h=>by
  show (if 2<=p/\1<=n/\n%p=0 then kP p (f+1) (n/p)+1 else 0)=if 2<=p/\1<=n/\n%p=0 then kP p f (n/p)+1 else 0
  by_cases q:2<=p/\1<=n/\n%p=0
  ·rw [if_pos q,if_pos q,HU p f (n/p) (by have:=j8 q.2.1 q.1;omega)]
  ·rw [if_neg q,if_neg q]
theorem An (p n):∀ k,kP p (n+k) n=kP p n n
 | 0=>rfl
 | k+1=>by rw [show n+(k+1)=(n+k)+1 from rfl,HU p (n+k) n .au];exact An p n k
noncomputable def cnt (p:Nat) (n:Nat):Nat:=kP p n n
theorem wB (p n):cnt p n=if 2<=p/\1<=n/\n%p=0 then cnt p (n/p)+1 else 0:=by
 have e:cnt p n=kP p (n+1) n:=(An p n 1).symm;rw [e];show (if 2<=p/\1<=n/\n%p=0 then kP p n (n/p)+1 else 0)=_;by_cases q:2<=p/\1<=n/\n%p=0
 ·rw [if_pos q,if_pos q];have lt:=j8 q.2.1 q.1;have:=An p (n/p) (n-n/p);rw [show n/p+(n-n/p)=n by omega] at this;rw [this];rfl
 ·rw [if_neg q,if_neg q]
theorem wy (ah:2<=p) (ao:1<=n) (h:n%p=0):cnt p n=cnt p (n/p)+1:=by
 rw [wB p n,if_pos #[ah,ao,h]]
theorem wz (h:n%p≠0):cnt p n=0:=by
 rw [wB,if_neg λ z=>h z.2.2]
noncomputable def iN:h2->Nat->h2
 | [],_=>[]
 | p::ai,n=>cnt p n::iN ai (strip p n)
theorem JM:∀ ai n,(iN ai n).length=ai.length
 | [],_=>rfl
 | p::ai,n=>by simp only [iN,gq,JM ai]
theorem IF:∀ (ai:h2) i p n,ai[i]?=some p->iN (ai.take (i+1)) n=iN (ai.take i) n++[cnt p (gR (ai.take i) n)]
 | [],_,_,_,h=>by cases h
 | q::ai,0,p,n,h=>by
  have z:=cE h;subst z;rfl
 | q::ai,i+1,p,n,h=>by
  show cnt q n::iN (ai.take (i+1)) (strip q n)=cnt q n::(iN (ai.take i) (strip q n)++[cnt p (gR (ai.take i) (strip q n))]);rw [IF ai i p (strip q n) h]
theorem AU (ah:2<=p):∀ n,1<=n->n=p ^ cnt p n*strip p n:=by
 intro n
 induction n using Nat.strongRecOn with
 | _ n b =>
  intro ao;by_cases h:n%p=0
  ·have U:=rv ao h;have e:=b (n/p) (j8 ao ah) U;rw [wy ah ao h,ug ah ao h,Nat.pow_succ];have a:=(Nat.mul_div_cancel' (tL h)).symm
   calc n=p*(n/p):=a
    _=p*(p ^ cnt p (n/p)*strip p (n/p)):=by rw [<-e]
    _=p ^ cnt p (n/p)*p*strip p (n/p):=by rw [<-Nat.mul_assoc,nO p]
  ·rw [wz h,uh h,Nat.pow_zero,Nat.one_mul]
theorem Fb (ah:2<=p):∀ e r,1<=r->r%p≠0->cnt p (p ^ e*r)=e
 | 0,r,_,h=>by rw [Nat.pow_zero,Nat.one_mul,wz h]
 | e+1,r,a,h=>by
  have b:p ^ (e+1)*r=p*(p ^ e*r):=by rw [Nat.pow_succ,nO (p ^ e) p,Nat.mul_assoc]
  have c:1<=p ^ e*r:=Nat.mul_pos (Nat.pow_pos .au) a;rw [b,wy ah (Nat.mul_pos .au c) (Nat.mul_mod_right p _),Nat.mul_div_cancel_left _ .au,Fb ah e r a h]
theorem Vu (ah:2<=p) (e:2<=q) (c:Nat.Coprime p q) (ao:1<=n):cnt p (strip q n)=cnt p n:=by
 have b:=AU ah n ao;have d:=AU e n ao;have av:=ui e n ao;have m:=ui ah n ao;have f:=Wh ah n ao;have g:Nat.Coprime (p ^ cnt p n) (q ^ cnt q n):=Nat.Coprime.pow _ _ c;have hd:p ^ cnt p n∣strip q n:=by
  have:p ^ cnt p n∣q ^ cnt q n*strip q n:=by rw [<-d];exact #[strip p n,b]
  exact g.dvd_of_dvd_mul_left this
 obtain ⟨r,a⟩:=hd;have k:1<=r:=by
  rcases z7 r with z|z
  ·rw [z,Nat.mul_zero] at a;omega
  ·exact z
 have l:r%p≠0:=λ z=>by
  obtain ⟨t,aG⟩:=tL z;have h:n=p ^ cnt p n*(p*(t*q ^ cnt q n)):=by
   calc n=q ^ cnt q n*strip q n:=d
    _=q ^ cnt q n*(p ^ cnt p n*(p*t)):=by rw [a,aG]
    _=p ^ cnt p n*(p*(t*q ^ cnt q n)):=by
     rw [nO (q ^ cnt q n),Nat.mul_assoc,Nat.mul_assoc,nO t]
  have i:p ^ cnt p n*strip p n=p ^ cnt p n*(p*(t*q ^ cnt q n)):=by rw [<-b];exact h
  have j:=Nat.eq_of_mul_eq_mul_left (Nat.pow_pos .au) i;rw [j,Nat.mul_mod_right] at f;exact f rfl
 rw [a,Fb ah _ r k l]
theorem HY:∀ ai,(∀ p∈ai,2<=p)->ai.Pairwise Nat.Coprime->∀ n,1<=n->iN ai n=ai.map λ p=>cnt p n
 | [],_,_,_,_=>rfl
 | p::ai,h,af,n,ao=>by
  have ah:=h p dn;rw [List.pairwise_cons] at af;show cnt p n::iN ai (strip p n)=cnt p n::ai.map λ q=>cnt q n
  rw [HY ai (λ q a=>h q (de _ a)) af.2 (strip p n) (ui ah n ao)];congr 1;refine qT λ q a=>?_
  exact Vu (h q (de _ a)) ah (af.1 q a).symm ao
noncomputable def pB (n:Nat):h2:=dp.map λ p=>cnt p n
noncomputable def chg (n d:Nat):bB:=List.zipWith (λ a b:Nat=>a-b) (pB n) (pB d)
theorem Ww (n d):(chg n d).length=10:=by simp [chg,pB,dp]
noncomputable def d0 (c p:bB):Bool:=(c.zip p).all λ x=>decide (0<=x.2+x.1)
noncomputable def cO:d7->bB->Option Nat
 | [],_=>.n
 | c::r,p=>if d0 c p=.t then some 0 else (cO r p).map (· + 1)
noncomputable def bX (p c:bB) (m:Int):bB:=List.zipWith (λ a b=>a+m*b) p c
noncomputable def nn (p:bB):Bool:=p.all λ x=>decide (0<=x)
theorem xb (ah:p.length=10) (af:c.length=10):(bX p c m).length=10:=by simp [bX,ah,af]
def ja (rows:d7):Prop:=∀ c∈rows,c.length=10
theorem q6:∀ {rows:d7} {p:bB} {i:Nat},cO rows p=some i->∃ c,rows[i]?=some c/\d0 c p=.t/\i<rows.length
 | [],_,_,h=>by cases h
 | c::r,p,i,h=>by
  unfold cO at h;by_cases af:d0 c p=.t
  ·rw [if_pos af] at h;cases h;exact #[c,Y,af,.zs]
  ·rw [if_neg af] at h;cases e:cO r p with
   | none=>rw [e] at h;cases h
   | some j =>
    rw [e] at h;have b:=cE h;subst b;obtain ⟨a,U,aa,d⟩:=q6 e;exact #[a,by simpa using U,aa,by simp;omega]
theorem As:∀ rows p i,(∀ j,j<i->∀ c,rows[j]?=some c->d0 c p=.f)->(∀ c,rows[i]?=some c->d0 c p=.t)->i<rows.length->cO rows p=some i
 | [],_,_,_,_,h=>by simp at h
 | c::r,p,0,_,h,_=>by
  unfold cO;rw [if_pos (h c Y)]
 | c::r,p,i+1,h,h',b=>by
  have h0:=h 0 .au c rfl;unfold cO;rw [h0,if_neg .aB,As r p i (λ j d a e=>h (j+1) .au a (by simpa using e)) (λ a e=>h' a (by simpa using e)) (by simpa using b)];rfl
theorem H0:∀ rows p,(∀ (j:Nat) c,rows[j]?=some c->d0 c p=.f)->cO rows p=.n
 | [],_,_=>rfl
 | c::r,p,h=>by
  unfold cO;rw [h 0 c rfl,if_neg .aB,H0 r p λ j a e=>h (j+1) a (by simpa using e)];rfl
noncomputable def jU (rows:d7) (p:bB):Option bB:=(cO rows p).map λ i=>bX p (rows.getD i []) 1
noncomputable def goN (rows:d7):Nat->bB->Option bB
 | 0,p=>some p
 | k+1,p=>(goN rows k p).bind (jU rows)
noncomputable def iP (rows:d7) (p:bB) (i:Nat):Option bB :=
 if nn (bX p (rows.getD i []) (-1))=.t/\cO rows (bX p (rows.getD i []) (-1))=some i then some (bX p (rows.getD i []) (-1)) else .n
noncomputable def ml (rows:d7) (p:bB):d7:=(List.range rows.length).filterMap (iP rows p)
theorem IE (rows) (p):(ml rows p).length<=rows.length:=by
 have:=Aa (iP rows p) (List.range rows.length);rw [jv] at this;exact this
theorem R1 (ah:p.length=10) (af:c.length=10):bX (bX p c (-1)) c 1=p:=by
 refine qR (by simp [bX,ah,af]) λ i U aa=>?_
 simp only [bX,List.getElem_zipWith];omega
theorem jo:nn p=.t ↔ ∀ x∈p,0<=x:=by simp [nn]
theorem w2:d0 c p=.t ↔ ∀ (i:Nat) a b,c[i]?=some a->p[i]?=some b->0<=b+a:=by
 unfold d0;rw [fB];constructor
 ·intro h i a b U aa;have d:(c.zip p)[i]?=some (a,b):=by rw [nQ];exact #[U,aa]
  exact cD (h _ (b5 d))
 ·intro h x ae;obtain ⟨i,ar⟩:=hR ae;obtain ⟨a,b⟩:=x;rw [nQ] at ar;exact bc (h i a b ar.1 ar.2)
theorem R4 (h:d0 c p=.t):nn (bX p c 1)=.t:=by
 rw [jo];intro x ae;obtain ⟨i,ar⟩:=hR ae;unfold bX at ar;rw [tR] at ar;obtain ⟨b,a,U,aa,rfl⟩:=ar;have:=w2.mp h i a b aa U;omega
theorem wG {rows:d7} (h:rows[i]?=some c):rows.getD i []=c:=by
 rw [iQ,h];rfl
theorem zX (h:cO rows p=some i) (af:rows[i]?=some c):jU rows p=some (bX p c 1):=by
 unfold jU;rw [h,<-wG af];rfl
theorem Hu (h:jU rows p=some q):∃ i c,cO rows p=some i/\rows[i]?=some c/\d0 c p=.t/\q=bX p c 1:=by
 unfold jU at h;cases e:cO rows p with
 | none=>rw [e] at h;cases h
 | some i =>
  rw [e] at h;obtain ⟨c,U,aa,_⟩:=q6 e;have a:bX p (rows.getD i []) 1=q:=cE h;rw [wG U] at a;exact #[i,c,Y,U,aa,a.symm]
theorem Ry (b:ja rows) (ah:p.length=10) (h:jU rows p=some q):q.length=10/\nn q=.t:=by
 obtain ⟨i,c,_,aa,a,rfl⟩:=Hu h;exact #[xb ah (b c (b5 aa)),R4 a]
set_option tactic.hygienic true in
theorem Vo (b:ja rows) (ah:q.length=10) (h:p∈ml rows q):jU rows p=some q/\p.length=10/\nn p=.t:=by
 obtain ⟨i,ar,h⟩:=nF.mp h;have a:=nD.mp ar;have af:=cK a;have c8:=b _ (iw a);unfold iP at h;rw [wG af] at h;split at h
 ·rename_i z;have h':=cE h;rw [h'] at z;refine #[?_,by rw [<-h'];exact xb ah c8,z.1];rw [zX z.2 af,<-h',R1 ah c8]
 ·cases h
theorem mm (a:ja rows) (ah:p.length=10) (ao:nn p=.t):∀ {k:Nat} {q:bB},goN rows k p=some q->q.length=10/\nn q=.t
 | 0,q,h=>by cases h;exact #[ah,ao]
 | k+1,q,h=>by
  obtain ⟨r,U,aa⟩:=tQ.mp h;exact Ry a (mm a ah ao U).1 aa
noncomputable def td (l:h2):bB:=l.map λ n:Nat=>n
end ck
namespace bj
open PySem PyProof.Rows
theorem GJ:bootBuiltins "sorted" = some (.builtin "sorted"):=by decide +kernel
end bj
namespace bV
open PySem bj ck
noncomputable abbrev tupI (c:bB):eZ:=.tup (c.map V.int)
theorem _root_.bj.s_.same (h:s_ H x c) (s:ay H H'):s_ H' x c:=by
 obtain ⟨a,e,ak⟩:=h;exact #[a,e,s _ _ ak]
theorem _root_.bj.c_.same (h:c_ H xs cs) (s:ay H H'):c_ H' xs cs:=#[h.1,λ i x e=>by
 obtain ⟨c,af,r⟩:=h.2 i x e;exact #[c,af,r.same s]]
theorem _root_.bj.c_.but (h:c_ H xs cs) (d:H l=some (.lst ys)) (s:cB l H H'):c_ H' xs cs:=#[h.1,λ i x e=>by
 obtain ⟨c,af,a,b,ak⟩:=h.2 i x e;exact #[c,af,a,b,s _ _ (fo ak d (by intro z;cases z)) ak]]
theorem _root_.bj.c_.nil:c_ H [] []:=#[Y,λ i x e=>by cases e]
theorem _root_.bj.c_.app (h:c_ H xs cs) (g:c_ H ys ds):c_ H (xs++ys) (cs++ds):=by
 refine #[by rw [c9,c9,h.1,g.1],λ i x e=>?_];by_cases ar:i<xs.length
 ·rw [jm ar] at e;obtain ⟨c,af,r⟩:=h.2 i x e;exact #[c,by rw [jm (by rw [<-h.1];exact ar)];exact af,r]
 ·rw [j4 .au] at e;obtain ⟨c,af,r⟩:=g.2 _ x e;exact #[c,by rw [j4 (by rw [<-h.1];omega),<-h.1];exact af,r]
theorem _root_.bj.c_.one (h:s_ H x c):c_ H [x] [c]:=by
 refine #[Y,λ i y e=>?_];cases i with
 | zero=>cases e;exact #[c,Y,h]
 | succ i=>cases e
theorem _root_.bj.c_.at {i:Nat} (h:c_ H xs cs) (e:xs[i]?=some x):∃ c a,cs[i]?=some c/\x=.ref a/\H a=some (tupI c):=by
 obtain ⟨c,af,a,b,ak⟩:=h.2 i x e;exact #[c,a,af,b,ak]
theorem _root_.bj.c_.of {i:Nat} (h:c_ H xs cs) (e:cs[i]?=some c):∃ x a,xs[i]?=some x/\x=.ref a/\H a=some (tupI c):=by
 have ar:=(dr.mp e).1;have ae:xs[i]?=some (xs[i]'(by rw [h.1];exact ar)):=cK _;obtain ⟨d,a,af,b,ak⟩:=h.at ae;rw [e] at af;cases af;exact #[_,a,ae,b,ak]
noncomputable def l9 (ns:d7):d7:=(h5.f6 ns).map λ i=>ns.getD i []
theorem It (ns):(l9 ns).Perm ns:=h5.U9 rfl
theorem _root_.bj.c_.O0 (h:c_ H xs ns):c_ H ((h5.f6 ns).map λ i=>xs.getD i .aQ) (l9 ns):=by
 refine #[by unfold l9;rw [bz,bz],λ i x e=>?_];rw [et] at e;cases ah:(h5.f6 ns)[i]? with
 | none=>rw [ah] at e;cases e
 | some j =>
  rw [ah] at e;have a:=h5.Gp (b5 ah);have ae:xs[j]?=some (xs[j]'(by rw [h.1];exact a)):=cK _;have ex:xs.getD j .aQ=x:=cE e;rw [iQ,ae] at ex;obtain ⟨c,af,r⟩:=h.2 j _ ae;have C3:xs[j]'(by rw [h.1];exact a)=x:=ex;rw [C3] at r;refine #[c,?_,r];unfold l9;rw [et,ah];show some (ns.getD j [])=some c;rw [iQ,af];rfl
noncomputable def iK:Option Nat->V
 | none=>.aQ
 | some i=>.int (i:Int)
def f7 (H:aD) (xs:bh) (aw:cN):Prop:=xs.length=aw.length/\∀ (k:Nat) x,xs[k]?=some x->∃ i j c,aw[k]?=some (i,j)/\x=.ref c/\H c=some (.tup [.int i,.int j])/\d1 i j=.t
theorem f7.same (h:f7 H xs aw) (s:ay H H'):f7 H' xs aw:=#[h.1,λ k x e=>by
 obtain ⟨i,j,c,U,aa,a,b⟩:=h.2 k x e;exact #[i,j,c,U,aa,s _ _ a,b]]
noncomputable def rowsOf (aw:cN):d7:=aw.map λ f=>chg f.1.toNat f.2.toNat
theorem lu (aw):ja (rowsOf aw):=λ c af=>by
 obtain ⟨f,_,rfl⟩:=cW.mp af;exact Ww _ _
theorem ry (aw):(rowsOf aw).length=aw.length:=bz _
theorem Jd (h:d1 i j=.t):(1<=i/\gv i.toNat=1)/\(1<=j/\gv j.toNat=1):=by
 unfold d1 dT at h;simp only [eJ,iT] at h;exact #[#[h.1.1.1.1,h.1.1.2],#[h.1.2.1.1,h.1.2.2]]
theorem X2 {f:Int->Int->Int} (ae:xs[i]?=some x) (a:ys[i]?=some y):(List.zipWith f xs ys).take (i+1)=(List.zipWith f xs ys).take i++[f x y]:=by
 have b:(List.zipWith f xs ys)[i]?=some (f x y):=by rw [tR];exact #[x,y,ae,a,Y]
 rw [iS,b];rfl
theorem Kg (ao:min xs.length ys.length<=sizeLine) (ah:∃ u v,pick js σ=u::v::σ0) (g:H1 D=.n)
  (ak:H1 a=some (tupI xs)) (k:H1 b=some (tupI ys))
  (av:∀ x y H' R,x∈xs->y∈ys->R (.int (f x y)) H'->bg (some (.int x)::some (.int y)::σ0) H' R)
  (q:∀ H',ay H1 H'->H' D=some (.lst ((List.zipWith f xs ys).map V.int))->Q (.ref D) H'):hL (oC K a b) D js (o6 K 2 (md (e4 0) (md (e4 1) ta))) kc bg σ H1 Q:=by
 obtain ⟨r,v0,ah⟩:=ah;refine TF (by rw [bz,bz];exact ao) (λ i σ' H' zs=>(∃ u v,σ'=u::v::σ0)/\ay H1 H'/\zs=((List.zipWith f xs ys).take i).map V.int) #[#[r,v0,ah],ay.new g,Y] (λ i σ' H' zs _ ⟨_,s',_⟩=>#[aX.of (s' _ _ ak),aX.of (s' _ _ k)]) ?_ ?_
 ·rintro i x y p σ' H' zs R ae l ah d m ⟨⟨u,v,rfl⟩,s',rfl⟩ n;obtain ⟨x,rfl,h⟩:=jE ae;obtain ⟨y,rfl,j⟩:=jE l;refine #[p,_,Y,aX.of bN,Y,_,_,Y,_,_,Y,Y,?_];refine av x y _ _ (b5 h) (b5 j) (n _ _ _ ?_ #[#[_,_,Y],?_,?_])
  ·rw [bC (cq d ah)];exact d
  ·intro c o e;rw [bC (cq e g),bC (cq (s' c o e) ah)];exact s' c o e
  ·rw [X2 h j,hl];rfl
 ·rintro σ' H' zs d m ⟨_,s',rfl⟩;refine q H' s' ?_;rw [d,bz,bz,nz (by rw [List.length_zipWith];exact bx _)]
noncomputable def oO:V->Bool
 | .str _=>.t
 | _=>.f
section
variable {K:aP} {H:aD} {v:V}
theorem qz (k:dh H v):∃ t,gF K H v t/\PySem.W.kitOne K t (.type "str")=some (oO v):=by
 cases v with
 | aQ=>exact #[_,.aQ,by kernel_rfl]
 | aO b=>exact #[_,.aO b,by kernel_rfl]
 | int i=>exact #[_,.int i,by kernel_rfl]
 | str x=>exact #[_,.str x,by kernel_rfl]
 | ref a =>
  rcases k with ⟨xs,e⟩|⟨xs,e⟩|⟨kvs,e⟩
  ·exact #[_,.tup e,by kernel_rfl]
  ·exact #[_,.lst e,by kernel_rfl]
  ·exact #[_,.cM e,by kernel_rfl]
 | _=>exact False.elim k
end
end bV
namespace B_
open PySem PyProof.Rows
section
variable {prog:Program} {w:World} {A:Around} {E:c0} {h:Heap} {g:Array GenState} {d:Drawn} {t:Nat} {os:OsState}
variable {nm q:Str} {C N:Addr} {bs bm kF:List Value} {hdct:Bool} {sn:bA} {sub:List Value} {ab:Bool} {col:Option Bool} {dd:Option Addr} {k0 k1 k2 k3 k5:b_} {B newId qK:String}
theorem Wn (F:ExcBaseFacts B newId qK kF) (T:OwnTail h kF bm)
  (a:h.get? C=some (excClassObj nm q C N bs bm hdct sn sub ab col dd k0 k1 k2 k3 k5 newId)) (ao:h.Ns N mN) (ar:mN "__init__" = some (.ref gc))
  (l:h.get? gc=some kv) (m:kv.cls=.type "function")
  (n:∀ h' e,Heap.MadeExcOf h h' e (.ref C) rest ->
   wpAny (model prog w) A (call (.ref gc) (.ref e::rest)) (λ r s'=>r=.none/\Q (.done (.ret (.ref e))) s') E ⟨h',g,d,t,os⟩) (hrest:rest.length<=sizeLine) :
  wpAny (model prog w) A (Builtin.«type.__call__» ⟨.ref C::rest,[]⟩) Q E ⟨h,g,d,t,os⟩:=by
 repeat (wp_step)
 refine codeAny_call_builtin_code (Ab _ F.quiet) (wpAny_check_new_subT F T a ?_);refine codeAny_exc_new_subT F T a ?_ hrest;have hC₁:=a9 { cls:=.ref C,data:=.fields [.ref h.objs.size,.none,.none,.none,.bool .f,.none].toArray }
  (a9 { cls:=.type "tuple", data:=.seq rest.toArray } a)
 have hfI₁:=a9 { cls:=.ref C,data:=.fields [.ref h.objs.size,.none,.none,.none,.bool .f,.none].toArray }
  (a9 { cls:=.type "tuple", data:=.seq rest.toArray } l)
 have hn₁:((h.push { cls:=.type "tuple", data:=.seq rest.toArray }).push { cls:=.ref C,data:=.fields [.ref h.objs.size,.none,.none,.none,.bool .f,.none].toArray }).Ns N mN :=
  let ⟨o,aj,f,e,r⟩:=ao;⟨o,aj,f,a9 _ (a9 _ e),r⟩
 have c:((h.push { cls:=.type "tuple", data:=.seq rest.toArray }).push
   { cls:=.ref C,data:=.fields [.ref h.objs.size,.none,.none,.none,.bool .f,.none].toArray }).get? (h.objs.size+1)=some
   { cls:=.ref C,data:=.fields [.ref h.objs.size,.none,.none,.none,.bool .f,.none].toArray }:=by heap_get
 have k:(Value.ref C::bm).contains (.ref C)=.t:=by simp
 have T₁:=T.keeps (h':=(h.push { cls:=.type "tuple", data:=.seq rest.toArray }).push { cls:=.ref C,data:=.fields [.ref h.objs.size,.none,.none,.none,.bool .f,.none].toArray })
  λ b o e=>a9 _ (a9 _ e)
 repeat (first|with_reducible refine pI c ?_|(with_reducible refine tN hC₁ ?_;rw [k])|wp_step)
 refine wpAny_typeLookup_tail hC₁ hn₁ T₁ F.mroIs F.init.lookup ?_;rw [ar];refine eV (ax ?_);refine ax (wpAny_typeOf #[_,hfI₁,m] ?_);rw [if_pos .aB];refine a_ (ax (d_ (n _ (h.objs.size+1) #[λ b o j=>a9 _ (a9 _ j),nE (jZ _),h.objs.size,c,nE (bx _),?_]) (λ r s' p=>?_) λ Z Z x=>x))
 ·exact a9 _ (Heap.get?_push_at Y Y)
 ·obtain ⟨rfl,i⟩:=p
  wp_walk
  exact i
theorem call_exc (F:ExcBaseFacts B newId qK kF) (T:OwnTail h kF bm)
  (a:h.get? C=some (excClassObj nm q C N bs bm hdct sn sub ab col dd k0 k1 k2 k3 k5 newId)) (ao:h.Ns N mN) (ar:mN "__init__" = some (.ref gc))
  (b:h.get? gc=some kv) (c:kv.cls=.type "function")
  (f:∀ h' e,Heap.MadeExcOf h h' e (.ref C) rest ->
   wpAny (model prog w) (A.under (.builtin "type.__call__" ⟨.ref C::rest,[]⟩)) (call (.ref gc) (.ref e::rest)) (λ r s'=>r=.none/\Q (.ref e) s') E ⟨h',g,d,t,os⟩) (hrest:rest.length<=sizeLine) :
  wpAny (model prog w) A (call (.ref C) rest) Q E ⟨h,g,d,t,os⟩:=by
 have f1:=tc_lookup;have f2:=tc_bind (.ref C);have i:(⟨h,g,d,t,os⟩:Shared).TypeIs (.ref C) "type" := #[_,a,Y]
 refine j1 (codeAny_of_tree ?_)
 repeat (any_goals (wp_step))
 refine #[Y,?_];refine codeAny_call_builtin_at (Ab _ (by decide +kernel)) entry_typeCall (wpAny_check_type_call_sub a (Wn (hrest:=hrest) F T a ao ar b c λ h' e hm=>?_));exact f h' e hm
end
section
variable {M:Model} {A:Around} {E:c0} {env:Env}
variable {nm q:Str} {C N:Addr} {bs bm:List Value} {hdct:Bool} {sn:bA} {sub:List Value} {ab:Bool} {col:Option Bool} {dd:Option Addr} {k0 k1 k2 k3 k5:b_} {newId:String}
theorem YF (c:bm.contains (.type "BaseException")=.t) (i:A.handled=.n)
  (h:wpAny M A x (λ v s₁=>∃ e t aE,v=.ref e/\s₁.heap.get? C=some (excClassObj nm q C N bs bm hdct sn sub ab col dd k0 k1 k2 k3 k5 newId) /\
   s₁.heap.get? e=some { cls:=.ref C,dict:=aE,data:=.fields [.ref t,.none,.none,.none,.bool .f,.none].toArray }/\E (.ref e) s₁) E s) :
  wpAny M A (raiseStmt env (some x) .n) Q E s:=by
 have f:(Value.ref C::bm).contains (.type "BaseException")=.t:=by rw [qS,c,Bool.or_true]
 refine ax (d_ h (λ v s₁ h₁=>?_) λ Z Z x=>x);obtain ⟨e,t,aE,rfl,a,he,b⟩:=h₁;obtain ⟨ah,g,d,a8,os⟩:=s₁
 repeat (first|with_reducible refine pI he ?_|with_reducible refine pI a ?_|(with_reducible refine tN a ?_;rw [f])|wp_step)
 exact wpAny_raiseNew_none i b
end
section
variable {prog:Program} {w:World} {A:Around} {E:c0} {s:Shared} {env:Env}
variable {nm q:Str} {C N:Addr} {bs bm kF:List Value} {hdct:Bool} {sn:bA} {sub:List Value} {ab:Bool} {col:Option Bool} {dd:Option Addr} {k0 k1 k2 k3 k5:b_} {B newId qK:String}
theorem W2 (F:ExcBaseFacts B newId qK kF)
  (m:bm.contains (.type "BaseException")=.t) (p:A.handled=.n) (y:(backTo bR (starEach args env)).any (·.1)=.f) (ar:mN "__init__" = some (.ref gc)) (o:kv.cls=.type "function")
  (h:wpAny (model prog w) A (eval (.Name x np) env) (λ f s₁=>f=.ref C/\wpAny (model prog w) A (evalArgs (.ref C) .t (backTo bR (starEach args env)) [])
   (λ a s₂=>a.kw=[]/\a.pos.length<=sizeLine/\s₂.heap.get? C=some (excClassObj nm q C N bs bm hdct sn sub ab col dd k0 k1 k2 k3 k5 newId)/\s₂.heap.Ns N mN/\OwnTail s₂.heap kF bm/\s₂.heap.get? gc=some kv /\
    ∀ h' e,Heap.MadeExcOf s₂.heap h' e (.ref C) a.pos->wpAny (model prog w) (A.under (.builtin "type.__call__" ⟨.ref C::a.pos,[]⟩)) (call (.ref gc) (.ref e::a.pos))
     (λ r s'=>r=.none/\s'.heap.get? C=some (excClassObj nm q C N bs bm hdct sn sub ab col dd k0 k1 k2 k3 k5 newId)/\(∃ t aE,s'.heap.get? e=some { cls:=.ref C,dict:=aE,data:=.fields [.ref t,.none,.none,.none,.bool .f,.none].toArray })/\E (.ref e) s') E { s₂ with heap:=h' }) E s₁) E s) :
  wpAny (model prog w) A (exec (.Raise (some (.Call (.Name x np) args [] bR)) .n pos) env) Q E s:=by
 rw [arm_exec_Raise]
 (refine ax (k4 (YF (C:=C) (nm:=nm) (q:=q) (N:=N) (bs:=bs) (bm:=bm) (hdct:=hdct) (sn:=sn) (sub:=sub) (ab:=ab) (col:=col) (dd:=dd) (k0:=k0) (k1:=k1) (k2:=k2) (k3:=k3) (k5:=k5) (newId:=newId) m p ?_));refine ax (d_ (wpAny_Call_ofName (d_ h (λ f s₁ h₁=>?_) λ Z Z x=>x)) (λ v s₃ h₃=>ax (k4 (a_ h₃))) λ Z Z x=>x))
 obtain ⟨rfl,h₁⟩:=h₁;refine ax (eV (d_ h₁ (λ a s₂ h₂=>ax (k4 ?_)) λ Z Z x=>x));obtain ⟨apos,i⟩:=a;obtain ⟨u,hlen,b,ao,T,n,h₂⟩:=h₂;obtain rfl:i=[]:=u;obtain ⟨ah,g,d,a8,os⟩:=s₂;simp only [y];refine ax (wpAny_keeperOf_exc b ?_);refine ax (call_exc (hrest:=hlen) F T b ao ar n o λ h' e hm=>d_ (h₂ h' e hm) (λ r s' c=>#[c.1,?_]) λ Z Z z=>z);obtain ⟨_,j,⟨t,aE,k⟩,l⟩:=c;refine ax (eV (wpAny_point (a_ ?_)));exact #[e,t,aE,Y,j,k,l]
end
end B_
namespace PySem.W
open PySem PySem.Spec PySem.Calls PyProof.Rows Builtin.ObjectAttr
theorem SW (self):refuseLoop self "__setattr__" bj.h7=pure ():=by kernel_rfl
section
variable {prog:Program} {w:World} {A:Around} {E:c0} {R:Result->Shared->Prop} {s:Shared} {K:Frag} {x C:Addr} {lK:Obj} {cH:Option Obj} {cd:ClassData}
theorem V1 {name:Str} {a8:Tok} {v:Value} {r:b_} (X:K.In s.heap) (I:InstAt s.heap x lK C cH) (af:clsIn K C=some cd) (k:cd.mro=.ref C::.ref Fr::bj.h7) (l:mroIn K C (.type "object")=some .t) (aG:takerIn K C name=some r)
  (h:∀ b,wpAny (model prog w) A.in1 (match r with|some a=>setByDescriptor a (.ref x) v|none=>storeInOwnDict (.ref x) (.ref C) (.str name a8) name v b)
   (λ fin s'=>match fin with| .done f=>R (.ok f) s'| .again d=>d.quiet=.t/\codeAny (model prog w) A d R s') (λ e s'=>R (.error e) s') s) :
  codeAny (model prog w) A (.call (.builtin "object.__setattr__") ⟨[.ref x,.str name a8,v],[]⟩) R s:=by
 have c:=PySem.F.store_object;have sub:Looks (model prog w) s.heap (isInstance (.ref x) (.type "object")) .t:=I.type.andThen (looks_mroIn X l);refine tP c.slot.plain c.entry (@check_slot (model prog w) _ _ s "object.__setattr__" "object" "__setattr__" (.ref x) [.str name a8,v] [] _ c.kind c.split sub (c.args (.ref x) (.str name a8) v) ?_);obtain ⟨attr,ak,g⟩:=tQ.mp aG;have hm:Looks (model prog w) s.heap (mroOf (.ref C)) cd.mro:=(looks_clsIn X af).andThen .now;have i:Looks (model prog w) s.heap (storeTaker? attr) r:=by
  cases attr with
  | none=>cases g;exact .now
  | some a =>
   obtain ⟨b,j,rfl⟩:=tM.mp g;refine (looks_takesIn X j).andThen ?_;cases b<;>exact .now
 rw [osa_eq,refuse_eq];refine ax (ax (I.type.here (ax (hm.here ?_))));rw [k,refuseLoop_ref,refuseLoop_ref,SW];refine a_ (ax (I.type.here (ax ((tO X ak).here (ax (i.here ?_))))));exact h _
theorem S3 (X:K.In s.heap) (ae:s.heap.get? x=some ⟨.ref C,.n,.fields vs,#[]⟩) (af:clsIn K C=some cd) (m:cd.mro=.ref C::.ref Fr::bj.h7) (hd:cd.hasDict=.t)
  (p:mroIn K C (.type "object")=some .t) (av:findIn K (.ref C) "__setattr__" = some (some (.builtin "object.__setattr__"))) (aG:takerIn K C name=some .n)
  (h:∀ h' aE a8,s.heap.get? aE=.n->h'.get? x=some ⟨.ref C,some aE,.fields vs,#[]⟩->h'.Ns1 aE (λ y=>if y=name then some v else .n)->(∀ b o,b≠x->s.heap.get? b=some o->h'.get? b=some o)->Q () { s with heap:=h',toks:=a8 }) :
  wpAny (model prog w) A (setAttr (.ref x) name v) Q E s:=by
 have I:InstAt s.heap x ⟨.ref C,.n,.fields vs,#[]⟩ C .n:=#[ae,Y,Y,trivial]
 refine set_plain X I av (V1 X I af m p aG λ b=>?_);refine ax (a_ (ax (ax (wpAny_loadPart ae (ax (PySem.W.Looks.here (PySem.W.looks_clsIn X af) ?_))))));rw [hd];rw [if_neg .zs];have i:=bu ae;have g:(s.heap.push { cls:=.type "dict", data:=.dict #[] }).get? x=some ⟨.ref C,.n,.fields vs,#[]⟩:=a9 _ ae;refine ax (wpAny_alloc (ax (wpAny_update g ?_)));refine a_ ?_;have a:Heap.SameBut x (s.heap.push { cls:=.type "dict", data:=.dict #[] }) ((s.heap.push { cls:=.type "dict", data:=.dict #[] }).update x λ o=>{ o with dict:=some s.heap.objs.size }):=pj _ _ _;have f:((s.heap.push { cls:=.type "dict", data:=.dict #[] }).update x λ o=>{ o with dict:=some s.heap.objs.size }).get? x=some ⟨.ref C,some s.heap.objs.size,.fields vs,#[]⟩:=hN _ g rfl;generalize ((s.heap.push { cls:=.type "dict", data:=.dict #[] }).update x λ o=>{ o with dict:=some s.heap.objs.size })=U at a f ⊢;have k:=(a.2 _ (hP i)).trans (cJ _ Y);have r:=Heap.Ns1.of_empty #[_,#[],_,k,Y,(λ e he=>absurd he .zs),λ Z=>rfl];refine ax (a_ (ax ?_));refine wpAny_nsSet1 r λ h' c d=>?_
 obtain ⟨z,u,t,n,l,j⟩:=c.count (PySem.Within.cons (ns:=[]) name v (λ y q=>absurd Y q));refine ax (wpAny_lookBehind n (by rw [l];exact pastItsLine_dict (dF j (by show 1<=sizeLine+1;decide))) ?_);refine a_ (h h' s.heap.objs.size _ (nE (bx _)) ((d.2 _ (cc i)).trans f) c λ b o nb e=>?_);have aO:=bu e;exact (d.2 _ (cc aO)).trans ((a.2 _ nb).trans (a9 _ e))
theorem RR (X:K.In s.heap) (I:InstAt s.heap x lK C cH) (c:gG K C) (hf:findObj K C cH name=some (.value v)) (i:handedIn v=.t) (h:Q v { s with toks:=s.toks+1 }) :
  wpAny (model prog w) A (getAttr (.ref x) name expr) Q E s:=by
 obtain ⟨k,g,d,t,os⟩:=s;have a:=I.type (M:=model prog w);have b:=tO (M:=model prog w) X c.ga;have bj:=tO (M:=model prog w) X c.Cq;have e:=looks_find (M:=model prog w) X I hf;have j:=wc.ga.bind (.ref x);refine ax (wpAny_mkText (eV (ax (a.at (ax (b.at ?_))))));refine ax (bj.at (ax (kY (eV ?_))));have f:callGetattribute (.ref x) (.str name t) (.builtin "BaseException.__getattribute__") expr=boundAndCalled (.builtin "BaseException.__getattribute__") (.ref x) (.str name t):=by
  cases expr<;>rfl
 rw [f]
 repeat (any_goals (wp_step))
 refine tP wc.ga.plain PySem.F.entry_bexc_ga (HB X I c ?_);refine ax (a_ (ax (a_ (ax (a.at (ax (e.at ?_)))))));refine a_ ?_;show wpAny _ _ (handedOut v) _ _ _;rw [handedOut_of i];exact a_ h
end
end PySem.W
namespace bj
open PySem PySem.Spec PyProof.Rows hx
structure kp (K:aP) (mg:Str->b_) (x:Str) (C Fr gc:Addr):Prop where
 at_:mg x=some (.ref C)
 bD:∃ nm q N bs sn sub ab col dd k0 k1 k2 k3 k5,K.lookup C=some (excClassObj nm q C N bs (.ref Fr::h7) .t sn sub ab col dd k0 k1 k2 k3 k5 "ValueError.__new__")/\PySem.W.nsOkIn K N=.t/\PySem.W.nsIn K N "__init__" = some (some (.ref gc))
 fr:PySem.W.excIn K Fr h7 "ValueError.__new__" = .t
 eC:PySem.W.gG K C
 x7:PySem.W.findIn K (.ref C) "__setattr__" = some (some (.builtin "object.__setattr__"))
 fn:∃ kv,K.lookup gc=some kv/\kv.cls=.type "function"
theorem kp.cls {K:aP} (c:kp K mg x C Fr gc):∃ cd,PySem.W.clsIn K C=some cd/\cd.mro=.ref C::.ref Fr::h7/\cd.hasDict=.t:=by
 obtain ⟨nm,q,N,bs,sn,sub,ab,col,dd,k0,k1,k2,k3,k5,h,_⟩:=c.bD;have e:PySem.W.clsIn K C=(match K.lookup C with|some ⟨_,_,.cls cd,_⟩=>some cd|_=>.n):=rfl;rw [h] at e;exact #[_,e,Y,Y]
theorem kp.hd {K:aP} (c:kp K mg x C Fr gc):PySem.W.hasDictIn K C=.t:=by
 obtain ⟨cd,U,_,a⟩:=c.cls;unfold PySem.W.hasDictIn;rw [U];exact a
theorem kp.tail {K:aP} (c:kp K mg x C Fr gc) (X:K.In h):OwnTail h h7 (.ref Fr::h7):=by
 obtain ⟨c6,N,nm,q,bs,hdct,sn,sub,ab,col,dd,k0,k1,k2,k3,k5,mN,a,b,d,T⟩:=(gE.own (mg:=λ Z=>some (.ref Fr)) (x:=x) #[Y,c.fr] X).obj;exact .own a b d .base
set_option tactic.hygienic true in
theorem WU {K:aP} (X:K.In h) (G:h.Ns N mg) (e:PySem.W.nsIn K N n=some (some v)):mg n=some v:=by
 obtain ⟨o,aj,a,aA,hd,_,hf⟩:=G;unfold PySem.W.nsIn at e;split at e
 ·rename_i c d b jK cu q;have:=X _ _ q;rw [aA] at this;cases this;cases hd;split at e
  ·rename_i y he;rw [<-hf];unfold nsFind findBy;rw [<-Array.find?_toList,he];exact cE e
  ·split at e<;>cases e
 ·cases e
noncomputable def jh (e C:Addr) (d:Option Addr) (t:Addr):eZ:=.ext λ h=>h.get? e=some { cls:=.ref C,dict:=d,data:=.fields [.ref t,.none,.none,.none,.bool .f,.none].toArray }
theorem FU (he:h.get? e=some { cls:=.ref C,dict:=d,data:=.fields [.ref t,.none,.none,.none,.bool .f,.none].toArray }):eh P w H h e (jh e C d t) :=
 #[he,#[_,he],λ U aa a k=>k _ a]
theorem Inv.forget {σ:St} (I:Inv X pins σ H s) (g:∀ b,b≠e->H' b=H b) (h0:H' e=.n) (ae:(∀ xs,H e≠some (.tup xs))/\(∀ o u,H e≠some (.hH o u))/\(∀ ai,H e≠some (.l2 ai))/\∀ b,H e≠some (.own b)):Inv X pins σ H' s:=by
 have le:∀ b,H b=.n->H' b=.n:=λ b n=>by
  by_cases z:b=e
  ·rw [z];exact h0
  ·rw [g b z];exact n
 refine #[I.ok,I.os,I.bare,#[I.base.keep,I.base.slot,λ b bD q n ae=>le b (I.base.free b bD q n ae),I.base.there,λ b xs q=>?_,λ b bD u q=>?_,λ b ai q=>?_],I.loc,I.cell,le _ I.free,λ x c q=>le _ (I.fm x c q),λ p ah=>?_,λ b bD q=>?_,I.len]
 ·have:=I.base.ha b xs q;rw [g b λ z=>ae.1 xs (z ▸ this)];exact this
 ·have:=I.base.gH b bD u q;rw [g b λ z=>ae.2.1 bD u (z ▸ this)];exact this
 ·obtain ⟨m,this⟩:=I.base.g_ b ai q;exact #[m,by rw [g b λ z=>ae.2.2.1 _ (z ▸ this)];exact this]
 ·obtain ⟨a,b,c,d,f⟩:=I.pin p ah;exact #[a,le _ b,c,d,f]
 ·by_cases z:b=e
  ·rw [z,h0] at q;cases q
  ·rw [g b z] at q;refine (I.aK b bD q).ij (λ Z Z Z q=>q) (λ c q=>?_) λ c xs q=>?_
   ·rw [g c λ z=>ae.2.2.2 _ (z ▸ q)];exact q
   ·rw [g c λ z=>ae.1 _ (z ▸ q)];exact q
def AK (C:Addr) (f:Str):bG:=λ vs H Q Z=>∃ (e t:Addr) (v:V),vs=[.ref e,v]/\H e=some (jh e C .n t)/\∀ aE,H aE=.n->Q .aQ (upd (upd H e (jh e C (some aE) t)) aE (.hZ [(f,v)]))
def S1 (C:Addr) (f:Str) (E:cL) (aN:c2):cS:=λ _ σ H=>aN σ H λ vs H1=>∃ v,vs=[v]/\∀ aE aq,ay H1 aq->aq aE=some (.hZ [(f,v)])->E (.ref C) (some aE) aq
theorem V_ (k:su X E) (ae:X.ex=[]) (af:X.calm=.t) (c:kp X.K X.mg x C Fr gc) (F:dB X.prog X.w X.K X.mg X.base cn fb gc fd ai (AK C f)) (gy:cR (fb+1) X.A) (j:Binds X.K fd ai [])
  (gd:cy X x) (ak:dG X [a] aN) (fg:noStar a=.t:=by rfl) (NW:(backTo bR (starEach [] X.env)).any (·.1)=.f:=by rfl) (hd:(x==("__debug__" : Str))=.f:=by decide):e0 X (.Raise (some (.Call (.Name x np) [a] [] bR)) .n pos) (S1 C f E aN):=#[by
 intro pins s σ H D I h;obtain ⟨nm,q,N,bs,sn,sub,ab,col,dd,k0,k1,k2,k3,k5,aC,L,Nc⟩:=c.bD;obtain ⟨kv,Z,M_⟩:=c.fn;have he:=n8 fg [] X.env;have NO:=WU I.mod.g5 (.of_isNs (z_ I.mod.g5 L)) Nc;refine B_.W2 (C:=C) (nm:=nm) (q:=q) (N:=N) (bs:=bs) (bm:=.ref Fr::h7) (hdct:=.t) (sn:=sn) (sub:=sub) (ab:=ab) (col:=col) (dd:=dd) (k0:=k0) (k1:=k1) (k2:=k2) (k3:=k3) (k5:=k5)
  pH (mN:=X.base.nsMap N) (by rfl) (I.ok.hd.1 af) (by rw [he];show (.f||(backTo bR (starEach [] X.env)).any (·.1))=.f;rw [NW];rfl) NO M_ (iW I gd c.at_ #[Y,?_] hd)
 have M:=ak.o bR pins s σ H _ I h;rw [he] at M ⊢;refine pF (aU M ?_);rintro us s1 ⟨vs,H1,d,r,v,ev,aV⟩;subst ev;obtain ⟨u,rfl,ov⟩:=vals1 r;have lF:X.base.Ns N (X.base.nsMap N):=.of_isNs (z_ I.mod.g5 L);refine #[Y,(by show 1<=sizeLine;decide),d.cA _ _ aC,lF.keeps d.bl,c.tail d.cA,d.cA _ _ Z,λ h' e hm=>?_];obtain ⟨t,jR,_,_⟩:=hm.there;have R:Inv X pins σ H1 { s1 with heap:=h' }:=d.kept hm.keeps;have G:=cv.of d ae hm.new;have n:=d.aK.gone hm.new;have Oy:∀ b∈cz X.stack,b≠e:=λ b j z=>by
  obtain ⟨_,o,aA,_⟩:=d.stack.mem j;rw [z,hm.new] at aA;cases aA
 have p:=R.known ae G n (FU jR) Oy;have jL:Vals [V.ref e,v] [Value.ref e,u]:=.cons Y (.cons ov .nil);have P:AK C f [V.ref e,v] (upd H1 e (jh e C .n t)) (λ Q aq=>Q=.aQ/\∃ aE,upd H1 e (jh e C .n t) aE=.n/\aq=upd (upd (upd H1 e (jh e C .n t)) e (jh e C (some aE) t)) aE (.hZ [(f,v)])) ft :=
  #[e,t,v,Y,bN,λ aE g=>#[Y,aE,g,Y]]
 have eB:([Value.ref e,u]++[]).length=ai.length:=by
  have T:=F.len _ _ _ _ P;rw [<-T];rfl
 refine j1 (j2 (F.run _ X.stack _ _ #[[Value.ref e,u],[]] [Value.ref e,u] [V.ref e,v] _ ft (gy.make C [u] []) (p.o5.make C [u] []) (j _ [Value.ref e,u] p.cA eB) jL P) λ r s' l=>?_);cases r with
 | error e=>exact False.elim l
 | ok fl =>
  cases fl with
  | next=>exact False.elim l
  | brk=>exact False.elim l
  | cont=>exact False.elim l
  | ret aax =>
   obtain ⟨Q,H',y,x6,ev,aE,g,B⟩:=p.after l;subst ev;have m:aE≠e:=λ z=>by rw [z,bN] at g;cases g
   have Pt:H1 aE=.n:=by rw [bC m] at g;exact g
   have i:H' e=some (jh e C (some aE) t):=by rw [B,bC (dz m),bN]
   have O:s'.heap.get? e=some { cls:=.ref C,dict:=some aE,data:=.fields [.ref t,.none,.none,.none,.bool .f,.none].toArray }:=(y.aK e _ i).1;have S:Inv X pins σ (upd H1 aE (.hZ [(f,v)])) s':=by
    refine y.forget (e:=e) (λ b nb=>?_) ?_ #[λ xs z=>?_,λ o u z=>?_,λ ai z=>?_,λ b z=>?_]
    ·rw [B];by_cases z:b=aE
     ·rw [z,bN,bN]
     ·rw [bC z,bC z,bC nb,bC nb]
    ·rw [bC (dz m)];exact n
    ·rw [i] at z;cases z
    ·rw [i] at z;cases z
    ·rw [i] at z;cases z
    ·rw [i] at z;cases z
   refine #[x6,y.cA _ _ aC,#[t,some aE,O],?_];refine k pins σ _ s' e C (some aE) .none [] S G (by rw [bC (dz m)];exact n) #[_,_,O,Y,Y,Y,Y,Y] (.inl #[Y,Y]) (λ b j=>absurd j .zs) (aV aE _ (bV.ay.new Pt) bN)]
structure E8 (K:aP) (C F:Addr):Prop where
 bD:∃ nm q N bs bm hdct sn sub ab col dd k0 k1 k2 k3 k5,K.lookup C=some (excClassObj nm q C N bs bm hdct sn sub ab col dd k0 k1 k2 k3 k5 "ValueError.__new__")
 Ds:PySem.W.mroIn K C (.ref F)=some .t
 ne:C≠F
def Qk (K:aP) (to e2:TE) (f:Str):cS:=λ D σ H=>e2 σ H λ y H1=>to σ H1 λ x aq=>∃ (e C Fr t:Addr) (cd:ClassData),x=.ref e/\aq e=some (jh e C .n t)/\PySem.W.clsIn K C=some cd/\cd.mro=.ref C::.ref Fr::h7/\cd.hasDict=.t /\
 PySem.W.mroIn K C (.type "object")=some .t/\PySem.W.findIn K (.ref C) "__setattr__" = some (some (.builtin "object.__setattr__"))/\PySem.W.takerIn K C f=some .n/\∀ aE,aq aE=.n->D.bf σ (upd (upd aq e (jh e C (some aE) t)) aE (.hZ [(f,y)]))
theorem SO (ae:X.ex=[]) (ak:aZ X o aN) (aI:aZ X value e2) (av:swapsWith value (some (.Attribute o f pos')) pos.line X.env=pure .f):e0 X (.Assign [.Attribute o f pos'] value pos) (Qk X.K aN e2 f):=#[by
 intro pins s σ H D I h;refine plainObj_wpAny_Assign_Attribute (aU (aI.o pins s σ H _ I h) ?_) av;rintro u s1 ⟨y,H1,l,aC,q⟩;refine aU (ak.o pins s1 σ H1 _ l q) ?_;rintro B s2 ⟨x,aq,a,G,e,C,Fr,t,cd,ex,he,af,r,hd,v,w,aG,E⟩;subst ex;obtain rfl:B=Value.ref e:=G;have j:=(a.aK e _ he).1;refine PySem.W.S3 a.cA j af r hd v w aG λ h' aE a8 d k ao p=>?_
 have m:Inv X pins σ (upd aq e (jh e C (some aE) t)) { s2 with heap:=h',toks:=a8 }:=a.write (by rw [he];trivial) (.inl Y) p #[_,k] (FU k);have i:=a.aK.gone d;have A:aE≠e:=λ z=>by rw [z,j] at d;cases d
 have fd:=cv.of a ae d;have n:Inv X pins σ (upd (upd aq e (jh e C (some aE) t)) aE (.hZ [(f,y)])) { s2 with heap:=h',toks:=a8 }:=by
  refine m.known ae fd (by rw [bC A];exact i) #[_,ao,λ g=>?_] λ b c z=>?_
  ·by_cases z:g=f
   ·have c:=iO.mpr z;simp only [List.lookup,c,if_pos z];exact aC
   ·have c:=nC.mpr z;simp only [List.lookup,c,if_neg z];trivial
  ·obtain ⟨_,o,aA,_⟩:=a.stack.mem c;rw [z,d] at aA;cases aA
 exact #[σ,_,n,E aE i]]
def E1 (K:aP) (aN:TE) (f:Str):TE:=λ σ H Q=>aN σ H λ x H1=>∃ (e C aE:Addr) (aw:List (Str×V)) (v:V),x=.ref e/\H1 e=some (l5 e C (some aE))/\H1 aE=some (.hZ aw)/\PySem.W.gG K C/\PySem.W.hasDictIn K C=.t/\PySem.W.findIn K (.ref C) f=some .n/\aw.lookup f=some v/\Q v H1
theorem TM {σ:St} (I:Inv X pins σ H s) (he:H e=some (l5 e C (some aE))) (hd:H aE=some (.hZ aw)) :
  ∃ (a6:Obj) (cY:Str->b_) (cH:Obj),PySem.W.InstAt s.heap e a6 C (some cH)/\(∀ name,PySem.W.lookIn name cH=some (cY name))/\∀ f,fJ (aw.lookup f) (cY f):=by
 obtain ⟨⟨a6,vs,U,aa,a,b,_⟩,_,_⟩:=(I.aK e _ he)
 obtain ⟨cY,ao,d⟩:=(I.aK aE _ hd)
 obtain ⟨cH,aA,c⟩:=H8 ao;refine #[a6,cY,cH,#[U,aa,?_,?_],c,d]
 ·unfold PySem.W.notCls;rw [b]
 ·rw [a];exact aA
theorem SH (he:aZ X e aN) (j:attributeBase e f X.env (eval e X.env)=eval e X.env):aZ X (.Attribute e f pos) (E1 X.K aN f):=#[by
 intro pins s σ H Q I h;refine FO j (aU (he.o pins s σ H _ I h) ?_);rintro u s1 ⟨x,H1,b,r,a,C,aE,aw,v,ex,g,i,eC,k,ak,l,q⟩;subst ex;obtain rfl:u=Value.ref a:=r;obtain ⟨a6,cY,cH,aC,m,n⟩:=TM b g i;have c:=n f;rw [l] at c;obtain ⟨t,p,d⟩:=c.some_of;exact PySem.W.RR b.cA aC eC (PySem.W.findObj_own k ak Y (by rw [m,p])) (H3 d) #[v,H1,b.tok _,d,q]]
theorem Hc {K:aP} (a:X.K=K) (he:aZ X e aN) (b:attributeBase e f X.env (eval e X.env)=eval e X.env):aZ X (.Attribute e f pos) (E1 K aN f):=by
 subst a;exact SH he b
structure qv (P:Program) (w:World) (K:aP) (mg:Str->b_) (base:Heap) (k:Nat) (f:Addr) (fd:FuncData) (ai:bA) (sp:bG):Prop where
 len:∀ vs H Q E,sp vs H Q E->vs.length=ai.length
 run:∀ (A:Around) (outer:List Env) (s:Shared) (H:aD) (args:Args) (us:List Value) (vs:bh) (Q:b2) (E:cL),gK k A->qp A s.heap H (cz outer) []->jV P w K mg base A outer s H->BindsTo s fd args (ai.zip us)->Vals vs us->sp vs H Q E ->
  codeAny (model P w) A (.call (.ref f) args) (xC cn outer P w H s Q E) s
theorem qv.fn {K:aP} (F:qv P w K mg base k f fd ai sp):dB P w K mg base b8 k f fd ai sp :=
 #[F.len,λ A outer s H args us vs Q E b c d r g=>j2 (F.run A outer s H args us vs Q E b.u (.inl b.hd) c d r g) λ z s' a=>by
  cases z with
  | error e=>exact False.elim a
  | ok fl=>cases fl<;>exact a]
noncomputable abbrev u4 (P:Program) (w:World) (K:aP) (mg:Str->b_) (base:Heap) (N:bA) (qual:Str) (scope:Scope) (f:Addr) (cd:Value) (A:Around) (outer:List Env) (s:Shared) (H:aD) (E:cL):aW :=
 { fj cn P w K mg base N qual scope f cd A outer s H E with calm:=.f,warm:=.t,a5:=λ Z Z=>False }
theorem WC {K:aP}
  (S:bH N ai scope) (b:qp A s.heap H (cz outer) []) (a:jV P w K mg base A outer s H) (c:vs.length=ai.length) (r:Vals vs us)
  (x:InCallC s s.heap.objs.size (bindL (envOfC qual scope s.heap.objs.size f cd).kindOf (ai.zip us) λ Z=>.n) (cellsFrom (s.heap.objs.size+1) scope.names []) (bindC (envOfC qual scope s.heap.objs.size f cd).kindOf (ai.zip us) λ Z=>.n) s1) :
  Inv (u4 P w K mg base N qual scope f cd A outer s H E) [] (start N vs) H s1:=by
 have I:Inv (fj cn P w K mg base N qual scope f cd ({ A with handled:=.n }) outer s H E) [] (start N vs) H s1:=Bg S rfl #[a.frames,a.mod,a.bs,a.fI,a.f5,a.ia,a.aK,a.bare] c r x;have ok:=I.ok;exact #[#[ok.mod,ok.kind,ok.glob,ok.blt,ok.above,ok.inj,ok.has,ok.kG,#[λ h=>(nomatch h),λ Z=>b],ok.frames,ok.l0,ok.oF,ok.bs,ok.fI,ok.ji,ok.l6,ok.f5,ok.ia],I.os,I.bare,I.base,I.loc,I.cell,I.free,I.fm,I.pin,I.aK,I.len]
theorem fG.iE {K:aP} (F:fG K x qual st f fd) (S:bH N ai (bo st)) (len:∀ vs H Q E,sp vs H Q E->vs.length=ai.length)
  (j:∀ a0 A outer s H vs Q E,gK k (A.deeper (envOfC qual (bo st) s.heap.objs.size f a0))->sp vs H Q E ->
   ∃ t,fH (u4 P w K mg base N qual (bo st) f a0 A outer s H E) (iV st) t/\t { bf:=λ Z H'=>Q .aQ H',iC:=Q } (start N vs) H):qv P w K mg base (k+1) f fd ai sp:=by
 obtain ⟨dR,cH,cT,doc,pm,an,a0,b9,kN,rfl,lk,l⟩:=F.ex;refine #[len,λ A outer s H args us vs Q E g m a i r h=>?_];have z:=len _ _ _ _ h;have d:=a.mod.g5.keeps λ b o e=>(a.bs b o e).1
 have lim:=a.mod.nolimit.keeps λ b o e=>(a.bs b o e).1
 have p:∀ y∈ai.zip us,(bo st).names.lookup y.1=some .local\/((bo st).names.lookup y.1=some .cell/\((cellsFrom (s.heap.objs.size+1) (bo st).names []).lookup y.1).isSome=.t):=λ ⟨n,v⟩ C=>by
  rcases S.par n (nI C).1 with q|q
  ·exact .inl q
  ·exact .inr #[q,vP _ _ _ (.inl q)]
 refine zH g.depth (d _ _ lk) rfl S.co S.gen rfl (z0 d l) (i _ _ _ _ ?_);refine z1 S.kind p λ env he s1 x=>?_
 subst he;refine #[lim.keeps x.toInCall.keep,codeAny_func ?_];obtain ⟨t,aG,B⟩:=j a0 A outer s H vs Q E (g.deeper _) h;have I:Inv (u4 P w K mg base N qual (bo st) f a0 A outer s H E) [] (start N vs) H s1:=WC S m a z r x;refine d_ (aG.o [] s1 (start N vs) H _ I B) (λ fl s' av=>?_) λ e s' av=>av.elim
 have fin:∀ {σ':St} {H':aD} {v:V} {u:Value},Inv (u4 P w K mg base N qual (bo st) f a0 A outer s H E) [] σ' H' s'->RelV v u->Q v H'->pY outer P w H s Q u s' :=
  λ {σ' H' v u} aC c q=>#[v,H',aC.os,aC.bare,aC.base,aC.aK,c,q]
 cases fl with
 | ret u =>
  obtain ⟨v,σ',H',aC,c,q⟩:=av;exact fin aC c q
 | next =>
  obtain ⟨σ',H',aC,q⟩:=av;exact fin (v:=V.aQ) aC rfl q
 | brk =>
  obtain ⟨_,_,_,q⟩:=av;exact False.elim q
 | cont =>
  obtain ⟨_,_,_,q⟩:=av;exact False.elim q
section
variable {X:aW} {k:Nat} {f:Addr} {fd:FuncData} {ai:bA} {sp:bG} {x:Str} {p pos:Pos} {e:Expr} {aj:List Expr} {t:c2}
theorem hS (F:qv X.prog X.w X.K X.mg X.base k f fd ai sp) (v:gK k X.A) (hw:X.warm=.t) (j:cy X x) (hm:X.mg x=some (.ref f)) (l:PySem.W.keepIn X.K (.ref f)=.t) (d:Binds X.K fd ai [])
  (ak:dG X (e::aj) t) (i:(x==("__debug__" : Str))=.f:=by decide) (y:noStar e=.t:=by rfl) (n:(backTo pos (starEach aj X.env)).any (·.1)=.f:=by rfl) :
  aZ X (.Call (.Name x p) (e::aj) [] pos) (kV sp [] ft t):=#[by
 intro pins s σ H Q I h;refine j3 (iW I j hm ?_ i);refine ps I.ok.mod.g5 l (aU (ak.o pos pins s σ H _ I h) ?_) (n8 y aj X.env) n;rintro us s1 ⟨vs,H1,a,r,q⟩;refine #[a.cA,?_];have g:=r.append .nil;have m:(us++[]).length=ai.length:=by rw [<-g.length];exact F.len _ _ _ _ q
 refine j1 (j2 (F.run X.A X.stack s1 H1 #[us,[]] (us++[]) (vs++[]) Q ft v (a.u7 hw λ b d=>absurd d .zs) a.o5 (d s1 us a.cA m) g q) λ r s' c=>?_);cases r with
 | error e=>exact False.elim c
 | ok fl =>
  cases fl with
  | ret u=>exact a.after c
  | next=>exact False.elim c
  | brk=>exact False.elim c
  | cont=>exact False.elim c]
def Rz (x:Addr) (sp:bG) (t:c2):TE:=λ σ H Q=>t σ H λ vs H1=>(∃ C d,H1 x=some (l5 x C d))/\∀ aq,aq x=.n->(∀ b,b≠x->aq b=H1 b)->sp (vs++[]) aq Q ft
theorem UP (F:qv X.prog X.w X.K X.mg X.base k f fd ai sp) (E:gK k (hh X y).A) (ae:X.ex=[]) (n:cy (hh X y) x) (hm:X.mg x=some (.ref f)) (v:PySem.W.keepIn X.K (.ref f)=.t) (l:Binds X.K fd ai [])
  (ak:dG (hh X y) (e::aj) t) (m:(x==("__debug__" : Str))=.f:=by decide) (G:noStar e=.t:=by rfl) (D:(backTo pos (starEach aj X.env)).any (·.1)=.f:=by rfl) :
  aZ (hh X y) (.Call (.Name x p) (e::aj) [] pos) (Rz y sp t):=#[by
 intro pins s σ H Q I h;refine j3 (iW I n hm ?_ m);refine ps I.ok.mod.g5 v (aU (ak.o pos pins s σ H _ I h) ?_) (n8 G aj X.env) D;rintro us s1 ⟨vs,H1,a,r,⟨C,d,he⟩,L⟩;refine #[a.cA,?_];have q:=L (λ b=>if b=y then .n else H1 b) (if_pos Y) λ b nb=>if_neg nb
 have g:Inv (hh X y) pins σ (λ b=>if b=y then .n else H1 b) s1:=by
  refine a.forget (λ b nb=>if_neg nb) (if_pos Y) #[λ xs z=>?_,λ o u z=>?_,λ ai z=>?_,λ b z=>?_]
  ·rw [he] at z;cases z
  ·rw [he] at z;cases z
  ·rw [he] at z;cases z
  ·rw [he] at z;cases z
 have bD:∃ a6 vs,s1.heap.get? y=some a6/\a6.cls=.ref C/\a6.dict=d/\a6.data=.fields vs/\vs[2]?=some .none:=(a.aK y _ he).1;obtain ⟨a6,M,U,_,_,aa,j⟩:=bD;have aC:y∉cz X.stack:=λ z=>by
  have:=a.ix y z;rw [he] at this;cases this
 have hd:qp (hh X y).A s1.heap (λ b=>if b=y then .n else H1 b) (cz (hh X y).stack) [] :=
  .inr #[y,a6,M,Y,U,if_pos Y,aC,.zs,aa,j]
 have i:=r.append .nil;have B:(us++[]).length=ai.length:=by rw [<-i.length];exact F.len _ _ _ _ q
 refine j1 (j2 (F.run (hh X y).A X.stack s1 _ #[us,[]] (us++[]) (vs++[]) Q ft E hd g.o5 (l s1 us a.cA B) i q) λ r s' c=>?_);cases r with
 | error e=>exact False.elim c
 | ok fl =>
  cases fl with
  | ret u=>exact g.after c
  | next=>exact False.elim c
  | brk=>exact False.elim c
  | cont=>exact False.elim c]
end
def qr (X:aW) (E:St->cL):Prop:=∀ pins (σ:St) H s (e C) d head a,Inv X pins σ H s->cv X pins e->H e=.n ->
 Rec s.heap e (.ref C) d head->nK s.heap e head a->(∀ b∈a,cv X pins b/\H b=.n)->E σ (.ref C) d H->X.a5 (.ref e) s
theorem HD (ae:X.ex=[]) (c:X.stack=X.env::X.outer) (hf:X.env.frame=some X.env.locals)
  (l:∀ (σ:St) H s e C T d,Inv X pins σ H s->cv X pins e->H e=.n->Rec s.heap e (.ref C) d (.ref T)->Ent s.heap T .none->T≠e->cv X pins T->H T=.n->E σ (.ref C) d H->W (.ref e) s)   : qr (hi X pins W) E:=by
 intro iq σ H s e C d head p I g f r o i k;have a:=I.e_;have n:X.A.frames=some (X.env::X.outer):=by rw [<-c];exact a.ok.frames
 have q:s.heap.FunFrames X.base (X.env::X.outer):=by rw [<-c];exact a.stack
 refine landed n q hf r o λ h' T h v t w t1=>?_
 have u:eK (e::p) (cz X.stack) s.heap h':=by rw [c];exact t
 have j:=a.dU ae u λ b m=>by
  rcases bt.mp m with z|z
  ·rw [z];exact #[g.e_,f]
  ·exact #[(i b z).1.e_,(i b z).2]
 exact l σ H _ e C T d j g.e_ f w t1 v (cv.of a ae h) (a.aK.gone h) k
def Ta (sp:bG) (E:St->cL) (t:c2):TE:=λ σ H Q=>t σ H λ vs H1=>sp (vs++[]) H1 Q (E σ)
section
variable {X:aW} {k:Nat} {f:Addr} {fd:FuncData} {ai:bA} {sp:bG} {x:Str} {p pos:Pos} {e:Expr} {aj:List Expr} {t:c2} {E:St->cL}
theorem Bq (F:dB X.prog X.w X.K X.mg X.base (dY X.prog X.w) k f fd ai sp) (aC:cR k X.A) (ae:X.ex=[]) (N:qr X E) (y:cy X x) (hm:X.mg x=some (.ref f)) (B:PySem.W.keepIn X.K (.ref f)=.t) (c:Binds X.K fd ai [])
  (ak:dG X (e::aj) t) (v:(x==("__debug__" : Str))=.f:=by decide) (M:noStar e=.t:=by rfl) (G:(backTo pos (starEach aj X.env)).any (·.1)=.f:=by rfl) :
  aZ X (.Call (.Name x p) (e::aj) [] pos) (Ta sp E t):=#[by
 intro pins s σ H Q I h;refine j3 (iW I y hm ?_ v);refine ps I.ok.mod.g5 B (aU (ak.o pos pins s σ H _ I h) ?_) (n8 M aj X.env) G;rintro us s1 ⟨vs,H1,a,r,q⟩;refine #[a.cA,?_];have i:=r.append .nil;have D:(us++[]).length=ai.length:=by rw [<-i.length];exact F.len _ _ _ _ q
 refine j1 (j2 (F.run X.A X.stack s1 H1 #[us,[]] (us++[]) (vs++[]) Q (E σ) aC a.o5 (c s1 us a.cA D) i q) λ r s' g=>?_);cases r with
 | error ev =>
  obtain ⟨e,T,C,d,H',rfl,aA,z,u,aK,m,l,O,j,b6,L,aG,n⟩:=g;exact N pins σ H' s' e C d (.ref T) [T] (a.kT aA u aK z λ b c=>absurd c .zs) (cv.of a ae m) j L (.inr #[T,Y,aG,O,Y]) (λ b c=>by rw [cf.mp c];exact #[cv.of a ae l,b6]) n
 | ok fl =>
  cases fl with
  | ret u=>exact a.after g
  | next=>exact False.elim g
  | brk=>exact False.elim g
  | cont=>exact False.elim g]
end
def wx (K:aP) (F:Addr) (aV:Addr->Prop):Prop:=∀ C,aV C->∀ M A E Q s e a6,K.In s.heap->s.heap.get? e=some a6->a6.cls=.ref C->Q .t s->wpAny M A (excMatches (.ref e) (.ref F)) Q E s
theorem WO {K:aP} (c:kp K mg x C Fr gc):wx K C (λ D=>D=C):=by
 rintro _ rfl M A E Q s e a6 X he a b;obtain ⟨nm,q,N,bs,sn,sub,ab,col,dd,k0,k1,k2,k3,k5,h,_⟩:=c.bD;obtain ⟨f,g,d,t,os⟩:=s;refine wpAny_excMatches_sub_self (X _ _ h) he a ?_ b;rw [qS,show h7.contains (.type "BaseException")=.t by decide +kernel,Bool.or_true]
open PySem PySem.Spec PyProof.Rows hx PySem.W
def FI (K:aP) (F:Addr) (V:Addr->Prop):Prop:=∀ C,V C->∀ M A E Q s e a6,K.In s.heap->s.heap.get? e=some a6->a6.cls=.ref C->Q .f s->wpAny M A (excMatches (.ref e) (.ref F)) Q E s
theorem T9 {K:aP} (h:PySem.W.kitOne K (.ref C) (.ref F)=some .f) (a:PySem.W.mroIn K F (.type "BaseException")=some .t):FI K F (λ D=>D=C):=by
 rintro D rfl M A E Q s e a6 X he af q;have ae:PySem.W.exmOne K (.ref D) (.ref F)=some .f:=by
  unfold PySem.W.kitOne at h;split at h
  ·cases h
  ·unfold PySem.W.exmOne;rw [if_pos (by show (PySem.W.mroIn K F (.type "BaseException")==some .t)=.t;rw [a];rfl)];exact h
 have T:Looks M s.heap (typeOf (.ref e)) (.ref D):=af ▸ (Looks.ld he).andThen .now;exact (PySem.W.exm_one X T ae).here q
def D3 (X:aW) (E:cL):Prop:=∀ pins (σ:St) H s (e C T) d,Inv X pins σ H s->cv X pins e->H e=.n->cv X pins T->H T=.n ->
 Rec s.heap e (.ref C) d (.ref T)->Ent s.heap T (rawInt X.env.locals)->T≠e->E (.ref C) d H->X.a5 (.ref e) s
theorem Tn {K:aP} :
  D3 (fj (dY P w) P w K mg base N qual scope f cd A outer s0 dq E) E:=by
 intro pins σ H s e C T d I m l c b6 i aG k p;show wpAny (model P w) (A.deeper (envOfC qual scope s0.heap.objs.size f cd)) (leaving (envOfC qual scope s0.heap.objs.size f cd) (.ref e)) _ _ s;obtain ⟨a6,vs,he,x,y,hd,U,aa⟩:=id i;obtain ⟨B,v,g,h,n⟩:=id aG;refine ax ?_;refine ax (cV he hd U ?_);rw [if_pos .zs];refine ax (cV g h n ?_);rw [if_pos (by show (rawInt s0.heap.objs.size==rawInt s0.heap.objs.size)=.t;simp)];refine a_ ?_;have r:∀ b∈d8 (envOfC qual scope s0.heap.objs.size f cd::outer),b≠T:=λ b a z=>by
  obtain ⟨_,o,aA,t⟩:=I.stack.mem a;rw [z,g] at aA;injection aA with aA;subst aA;exact t v h
 refine land i aG k r λ h' j u t1=>#[e,T,C,d,H,Y,I.os,I.bare,?_,?_,m.s0,c.s0,k,l,b6,u,t1,p]
 ·refine (show cX (cz outer) [] dq H s0.heap s.heap from I.base).dU j (λ b a=>?_) (λ b a=>?_)
  ·rw [cf.mp a];exact c.s0
  ·rcases bt.mp a with z|z
   ·refine .inr ?_;cases q:s0.heap.get? b with
    | none=>rfl
    | some o=>have:=bu q;rw [z] at this;exact absurd this (ei _)
   ·exact .inl z
 ·refine I.aK.dU j (λ b a=>?_) I.ix;rw [cf.mp a];exact b6
def Qo (aV V:Addr->Prop) (i:Nat) (G:cL) (E:St->cL) (a7:cS) (a:Addr->cS):cS:=λ D σ H=>a7 D σ H/\∀ C d H1 σ1,E σ1 (.ref C) d H1->(V C/\G (.ref C) d H1)\/(aV C/\∀ e,H1 e=.n->i<σ1.length ->
 a e { bf:=λ σ2 aq=>D.bf ((σ2.set i (some .aQ)).set i .n) aq,iC:=D.iC,bl:=λ σ2 aq=>D.bl ((σ2.set i (some .aQ)).set i .n) aq,b9:=λ σ2 aq=>D.b9 ((σ2.set i (some .aQ)).set i .n) aq } (σ1.set i (some (.ref e))) (upd H1 e (l5 e C d)))
theorem SP {V:Addr->Prop} (ae:X.ex=[]) (fg:X.stack=X.env::X.outer) (hf:X.env.frame=some X.env.locals) (uK:X.mg x=some (.ref F)) (uN:wx X.K F aV) (Nd:FI X.K F V) (xY:D3 X G) (NM:X.env.frame=some X.env.locals) (gd:cy X x)
  (y:X.N.Nodup) (ar:X.N[i]?=some n) (l:X.env.scope.names.lookup n=some .local)
  (h:∀ pins W,qr (hi X pins W) E->fH (hi X pins W) body a7) (av:∀ e,fH (hh X e) (r::S) (lN e)) (hd:(x==("__debug__" : Str))=.f:=by decide) :
  e0 X (.Try body [.ExceptHandler (some (.Name x np)) (some n) (r::S) M] [] [] pos) (Qo aV V i G E a7 lN):=#[by
 rintro pins s σ H D I ⟨U,aa⟩;refine wpAny_Try_except ?_;have r3:∀ σ H s e C T d,Inv X pins σ H s->cv X pins e->H e=.n->Rec s.heap e (.ref C) d (.ref T)->Ent s.heap T .none->T≠e->cv X pins T->H T=.n->E σ (.ref C) d H ->
   wpAny (model X.prog X.w) X.A (handleBy (.ref e) X.env [.ExceptHandler (some (.Name x np)) (some n) (r::S) M]) (fV X pins D) X.a5 s:=by
  intro σ H s e C T d I gX p gy aG Q t b6 lE;obtain ⟨a6,vs,he,B,yz,aC,O,N5⟩:=id gy;rcases aa C d H σ lE with ⟨xR,r2⟩|⟨xQ,sM⟩
  ·refine wd (we (qH I.ok.kind gd (ts (by rw [I.ok.glob];exact I.mod.glob.keeps I.bl) uK ?_) hd)) (by intro q;cases q);refine Nd C xR _ _ _ _ _ _ _ I.cA he B ?_;refine wpAny_handleBy_nil ?_;obtain ⟨mW,qo,m,k,hy⟩:=id aG;refine ax (cV he aC O ?_);rw [if_neg .zs];refine ax ?_;refine ax (cV he aC O ?_);rw [if_pos .zs,NM];refine kX m k (j9.mp hy).1 (wpAny_throw ?_);have P:eK [T] (cz X.stack) s.heap (s.heap.update T (Obj.mapFields (·.setIfInBounds 3 (rawInt X.env.locals)))) :=
    #[λ b o nl _ q=>(er _ _ (λ z=>nl (by rw [z];exact cf.mpr Y))).trans q,λ b o nl _ q=>#[o.slots,(er _ _ (λ z=>nl (by rw [z];exact cf.mpr Y))).trans q]]
   refine xY pins σ H _ e C T d (I.dU ae P λ b h=>by rw [cf.mp h];exact #[t,b6]) gX p t b6 #[a6,vs,(er _ _ Q).trans he,B,yz,aC,O,N5] #[_,_,hN _ m (kW (iu k _)),iu k _,?_] Q r2;have:=(j9.mp hy).1;simp [this]
  have hiσ:i<σ.length:=by rw [I.len];exact (dr.mp ar).1
  refine wd (we (qH I.ok.kind gd (ts (by rw [I.ok.glob];exact I.mod.glob.keeps I.bl) uK ?_) hd)) (by intro q;cases q);refine uN C xQ _ _ _ _ _ _ _ I.cA he B ?_;refine codeAny_handlers_suite_as ?_;refine land (F:=cz X.stack) gy aG Q (λ b h z=>?_) λ h' P hC t1=>?_
  ·obtain ⟨_,o,aA,L⟩:=I.stack.mem h;obtain ⟨mW,qo,m,k,_⟩:=aG;rw [z,m] at aA;injection aA with aA;subst aA;exact L qo k
  have oc:=I.dU ae P λ b h=>by rw [cf.mp h];exact #[t,b6]
  have hT:=oc.known ae gX p (Rec.ok hC) λ b h z=>by
   obtain ⟨_,o,aA,L⟩:=oc.stack.mem h;obtain ⟨DI,s8,jR,_,_,sD,_⟩:=hC;rw [z] at aA;have:=jR.symm.trans aA;injection this with this;subst this;exact L s8 sD
  refine rm hT y ar (.inl l) (v:=.ref e) Y (λ s2 pZ=>?_) (.inr l);refine d_ ((av e).o pins s2 _ _ _ pZ.tG (sM e p hiσ)) (λ f s3 j=>?_) λ _ _ z=>z.elim
  have fin:∀ σ3 a (Z:Flow->Shared->Prop) , Inv X pins σ3 a s3->(∀ s5,Inv X pins ((σ3.set i (some .aQ)).set i .n) a s5->Z f s5) ->
    wpAny (model X.prog X.w) X.A (do bindName X.env n .none;unbindBehindTheSuite X.env n M) (λ _ s5=>Z f s5) X.a5 s3:=by
   intro σ3 a Z c xS;have yB:i<σ3.length:=by rw [c.len];exact (dr.mp ar).1
   refine ax (wpAny_bindName (rm c y ar (.inl l) (v:=.aQ) Y (λ s4 i1=>?_) (.inr l)));exact k_ (Iw i1 y ar l (pl yB) λ s5 g=>xS s5 g)
  cases f with
  | next =>
   obtain ⟨σ3,a,c,q⟩:=j;exact fin σ3 a (fV X pins D) (c.mC I.ok) λ s5 g=>#[_,_,g,q]
  | brk =>
   obtain ⟨σ3,a,c,q⟩:=j;exact fin σ3 a (fV X pins D) (c.mC I.ok) λ s5 g=>#[_,_,g,q]
  | cont =>
   obtain ⟨σ3,a,c,q⟩:=j;exact fin σ3 a (fV X pins D) (c.mC I.ok) λ s5 g=>#[_,_,g,q]
  | ret u =>
   obtain ⟨v,σ3,a,c,R,q⟩:=j;exact fin σ3 a (fV X pins D) (c.mC I.ok) λ s5 g=>#[v,_,_,g,R,q]
 have lP:qr (hi X pins λ e s3=>wpAny (model X.prog X.w) X.A (handleBy e X.env [.ExceptHandler (some (.Name x np)) (some n) (r::S) M]) (fV X pins D) X.a5 s3) E:=HD ae fg hf r3;refine d_ ((h pins _ lP).o [] s σ H D I.tq U) (λ f s1 j=>?_) λ _ _ z=>z
 cases f with
 | next =>
  obtain ⟨σ3,a,c,q⟩:=j;exact pn #[σ3,a,c.e_,q]
 | brk =>
  obtain ⟨σ3,a,c,q⟩:=j;exact #[σ3,a,c.e_,q]
 | cont =>
  obtain ⟨σ3,a,c,q⟩:=j;exact #[σ3,a,c.e_,q]
 | ret u =>
  obtain ⟨v,σ3,a,c,R,q⟩:=j;exact #[v,σ3,a,c.e_,R,q]]
end bj
namespace Ca
open PySem PyProof.Rows
section
variable {prog:Program} {w:World} {A:Around} {E:c0} {s:Shared} {env:Env}
variable {nm q:Str} {C N:Addr} {bs bm kF:List Value} {hdct:Bool} {sn:bA} {sub:List Value} {ab:Bool} {col:Option Bool} {dd:Option Addr} {k0 k1 k2 k3 k5:b_} {B newId qK:String}
theorem Ye (f:bm.contains (.type "BaseException")=.t) (k:A.handled=some (.ref y))
  (h:wpAny (model prog w) A x (λ v s₁=>∃ e t a ys,v=.ref e/\y≠e/\s₁.heap.get? C=some (excClassObj nm q C N bs bm hdct sn sub ab col dd k0 k1 k2 k3 k5 newId) /\
   s₁.heap.get? e=some { cls:=.ref C,data:=.fields [.ref t,.none,.none,.none,.bool .f,.none].toArray }/\s₁.heap.get? y=some a/\a.data=.fields ys/\ys[2]?=some .none /\
   E (.ref e) { s₁ with heap:=s₁.heap.update e (Obj.mapFields (·.setIfInBounds 2 (.ref y))) }) E s) :
  wpAny (model prog w) A (raiseStmt env (some x) .n) Q E s:=by
 have i:(Value.ref C::bm).contains (.type "BaseException")=.t:=by rw [qS,f,Bool.or_true]
 refine ax (d_ h (λ v s₁ h₁=>?_) λ Z Z x=>x);obtain ⟨e,t,a,ys,rfl,ne,b,he,l,j,aa,c⟩:=h₁;obtain ⟨ah,g,d,a8,os⟩:=s₁
 repeat (first|with_reducible refine pI he ?_|with_reducible refine pI b ?_|(with_reducible refine tN b ?_;rw [i])|wp_step)
 exact eP.G5 k ne he rfl .zs l j aa c
theorem Wa (F:ExcBaseFacts B newId qK kF)
  (k:bm.contains (.type "BaseException")=.t) (m:A.handled=some (.ref y)) (o:(backTo bR (starEach args env)).any (·.1)=.f) (ar:mN "__init__" = .n)
  (h:wpAny (model prog w) A (eval (.Name x np) env) (λ f s₁=>f=.ref C/\wpAny (model prog w) A (evalArgs (.ref C) .t (backTo bR (starEach args env)) [])
   (λ a s₂=>a.kw=[]/\a.pos.length<=sizeLine/\s₂.heap.get? C=some (excClassObj nm q C N bs bm hdct sn sub ab col dd k0 k1 k2 k3 k5 newId)/\s₂.heap.Ns N mN/\OwnTail s₂.heap kF bm /\
    (∃ b ys,s₂.heap.get? y=some b/\b.data=.fields ys/\ys[2]?=some .none) /\
    ∀ h' e,Heap.MadeExcOf s₂.heap h' e (.ref C) a.pos->E (.ref e) { s₂ with heap:=h'.update e (Obj.mapFields (·.setIfInBounds 2 (.ref y))) }) E s₁) E s) :
  wpAny (model prog w) A (exec (.Raise (some (.Call (.Name x np) args [] bR)) .n pos) env) Q E s:=by
 rw [arm_exec_Raise]
 (simp only [evalOpt,Option.map];refine ax (k4 (Ye (C:=C) (nm:=nm) (q:=q) (N:=N) (bs:=bs) (bm:=bm) (hdct:=hdct) (sn:=sn) (sub:=sub) (ab:=ab) (col:=col) (dd:=dd) (k0:=k0) (k1:=k1) (k2:=k2) (k3:=k3) (k5:=k5) (newId:=newId) k m (ax (d_ (wpAny_Call_ofName (d_ h (λ f s₁ h₁=>?_) λ Z Z x=>x)) (λ v s₃ h₃=>ax (k4 (a_ h₃))) λ Z Z x=>x)))))
 obtain ⟨rfl,h₁⟩:=h₁;refine ax (eV (d_ h₁ (λ a s₂ h₂=>ax (k4 ?_)) λ Z Z x=>x));obtain ⟨apos,j⟩:=a;obtain ⟨n,hlen,c,ao,T,⟨b,ys,i,l,aa⟩,h₂⟩:=h₂;obtain rfl:j=[]:=n;obtain ⟨ah,g,d,a8,os⟩:=s₂;simp only [o];refine ax (wpAny_keeperOf_exc c ?_);refine ax (wpAny_call_exc_subT F T c ao ar (λ h' e hm=>?_) hlen);obtain ⟨t,he,_,_⟩:=hm.there;refine ax (eV (wpAny_point (a_ ?_)));refine #[e,t,b,ys,Y,λ z=>?_,hm.keeps _ _ c,he,hm.keeps _ _ i,l,aa,h₂ h' e hm];have:=hm.new;rw [<-z] at this;exact nomatch i.symm.trans this
end
end Ca
namespace bj
open PySem PySem.Spec PyProof.Rows hx PySem.W
def g0 (P:Program) (w:World):i9:=λ outer H s E ev s'=>∃ (e T:Addr) (v:Value) (d:Option Addr) (H':aD),ev=.ref e/\s'.os=s.os/\AllBare s'.gens/\cX (cz outer) [] H H' s.heap s'.heap/\cU P w H' s'.heap /\
 s.heap.get? e=.n/\s.heap.get? T=.n/\T≠e/\H' e=.n/\H' T=.n/\Rec s'.heap e v d (.ref T)/\Ent s'.heap T .none/\E v d H'
def o4 (X:aW) (E:cL):Prop:=∀ pins (σ:St) H s e v d head a,Inv X pins σ H s->cv X pins e->H e=.n ->
 Rec s.heap e v d head->nK s.heap e head a->(∀ b∈a,cv X pins b/\H b=.n)->E v d H->X.a5 (.ref e) s
theorem o4.y4 (k:o4 X E):su X E:=λ pins σ H s e C d head a=>k pins σ H s e (.ref C) d head a
theorem ER (ae:X.ex=[]) (k:o4 X E):Passes (g0 X.prog X.w) X E:=by
 rintro pins σ H s ev s' I ⟨e,T,v,d,H',rfl,aA,i,u,aK,g,f,l,c,b6,j,aG,h⟩;exact k pins σ H' s' e v d (.ref T) [T] (I.kT aA u aK i λ b a=>absurd a .zs) (cv.of I ae g) c j (.inr #[T,Y,aG,l,Y]) (λ b a=>by rw [cf.mp a];exact #[cv.of I ae f,b6]) h
theorem wU {K:aP} :
  o4 (fj (g0 P w) P w K mg base N qual scope f cd A outer s0 dq E) E:=by
 intro pins σ H s e v d head t I g c n m i k;have l:∀ b∈d8 (envOfC qual scope s0.heap.objs.size f cd::outer),H b=.n:=I.ix;refine leave I.ok.frames I.stack rfl n m λ h' T h p j r t1=>#[e,T,v,d,H,Y,I.os,I.bare,?_,?_,g.s0,(cv.of I Y h).s0,p,c,I.aK.gone h,r,t1,k]
 ·refine (show cX (cz outer) [] dq H s0.heap s.heap from I.base).dU j (λ b a=>?_) (λ b a=>?_)
  ·rcases bt.mp a with z|z
   ·rw [z];exact g.s0
   ·exact (i b z).1.s0
  ·rcases bt.mp a with z|z
   ·refine .inr ?_;cases q:s0.heap.get? b with
    | none=>rfl
    | some o=>have:=bu q;rw [z] at this;exact absurd this (ei _)
   ·exact .inl z
 ·refine I.aK.dU j (λ b a=>?_) l;rcases bt.mp a with z|z
  ·rw [z];exact c
  ·exact (i b z).2
section
variable {P:Program} {w:World} {K:aP} {mg:Str->b_} {base:Heap} {N:bA} {qual:Str} {scope:Scope} {f:Addr} {cd:Value} {A:Around} {outer:List Env} {s0:Shared} {dq:aD} {E:cL}
theorem zR:Passes (g0 P w) (fj (g0 P w) P w K mg base N qual scope f cd A outer s0 dq E) E:=ER rfl wU
theorem vR:Passes (dY P w) (fj (g0 P w) P w K mg base N qual scope f cd A outer s0 dq E) E:=ES rfl wU.y4
end
theorem fG.sW {K:aP} (F:fG K x qual st f fd) (S:bH N ai (bo st)) (len:∀ vs H Q E,sp vs H Q E->vs.length=ai.length)
  (c:∀ a0 A outer s H vs Q E,cR k (A.deeper (envOfC qual (bo st) s.heap.objs.size f a0))->sp vs H Q E ->
   ∃ t,fH (fj (g0 P w) P w K mg base N qual (bo st) f a0 A outer s H E) (iV st) t/\t { bf:=λ Z H'=>Q .aQ H',iC:=Q } (start N vs) H):dB P w K mg base (g0 P w) (k+1) f fd ai sp:=by
 obtain ⟨dR,cH,cT,doc,pm,an,a0,b9,kN,rfl,lk,d⟩:=F.ex;exact zu lk d S len λ A outer s H vs Q E e g=>let ⟨t,a,b⟩:=c a0 A outer s H vs Q E e g;⟨t,a.o,b⟩
def EK (X:aW) (E:cL):Prop:=∀ pins (σ:St) H s (e T) v d,Inv X pins σ H s->cv X pins e->H e=.n->cv X pins T->H T=.n ->
 Rec s.heap e v d (.ref T)->Ent s.heap T (rawInt X.env.locals)->T≠e->E v d H->X.a5 (.ref e) s
theorem HC {K:aP} :
  EK (fj (g0 P w) P w K mg base N qual scope f cd A outer s0 dq E) E:=by
 intro pins σ H s e T v d I m l c b6 i aG k p;show wpAny (model P w) (A.deeper (envOfC qual scope s0.heap.objs.size f cd)) (leaving (envOfC qual scope s0.heap.objs.size f cd) (.ref e)) _ _ s;obtain ⟨a6,vs,he,y,B,hd,U,aa⟩:=id i;obtain ⟨C,x,g,h,n⟩:=id aG;refine ax ?_;refine ax (cV he hd U ?_);rw [if_pos .zs];refine ax (cV g h n ?_);rw [if_pos (by show (rawInt s0.heap.objs.size==rawInt s0.heap.objs.size)=.t;simp)];refine a_ ?_;have r:∀ b∈d8 (envOfC qual scope s0.heap.objs.size f cd::outer),b≠T:=λ b a z=>by
  obtain ⟨_,o,aA,t⟩:=I.stack.mem a;rw [z,g] at aA;injection aA with aA;subst aA;exact t x h
 refine land i aG k r λ h' j u t1=>#[e,T,v,d,H,Y,I.os,I.bare,?_,?_,m.s0,c.s0,k,l,b6,u,t1,p]
 ·refine (show cX (cz outer) [] dq H s0.heap s.heap from I.base).dU j (λ b a=>?_) (λ b a=>?_)
  ·rw [cf.mp a];exact c.s0
  ·rcases bt.mp a with z|z
   ·refine .inr ?_;cases q:s0.heap.get? b with
    | none=>rfl
    | some o=>have:=bu q;rw [z] at this;exact absurd this (ei _)
   ·exact .inl z
 ·refine I.aK.dU j (λ b a=>?_) I.ix;rw [cf.mp a];exact b6
def Qp (aV:Addr->Prop) (b:Addr) (G:cL) (E:St->cL) (a7:cS) (aN:c2):cS:=λ D σ H=>a7 D σ H/\∀ C d H1 σ1,E σ1 (.ref C) d H1->aV C/\∀ y,H1 y=.n ->
 aN σ1 (upd H1 y (l5 y C d)) λ vs aq=>vs.length<=sizeLine/\(∃ a b4,aq y=some (l5 y a b4))/\G (.int y b) .n aq
theorem Ge (ae:X.ex=[]) (L:X.stack=X.env::X.outer) (hf:X.env.frame=some X.env.locals) (uK:X.mg x=some (.ref F)) (uN:wx X.K F aV) (xY:EK X G) (gd:cy X x) (c:gE X.K X.mg z l) (NF:cy X z)
  (g:∀ pins W,qr (hi X pins W) E->fH (hi X pins W) body a7) (ak:∀ y,dG (hh X y) [a] aN) (Dm:noStar a=.t:=by rfl) (hd:(x==("__debug__" : Str))=.f:=by decide) (Nz:(z==("__debug__" : Str))=.f:=by decide) :
  e0 X (.Try body [.ExceptHandler (some (.Name x np)) .n [.Raise (some (.Call (.Name z DE) [a] [] bR)) .n Eu] Ec] [] [] pos) (Qp aV l G E a7 aN):=#[by
 rintro pins s σ H D I ⟨U,aa⟩;refine wpAny_Try_except ?_;have r3:∀ σ H s e C T d,Inv X pins σ H s->cv X pins e->H e=.n->Rec s.heap e (.ref C) d (.ref T)->Ent s.heap T .none->T≠e->cv X pins T->H T=.n->E σ (.ref C) d H ->
   wpAny (model X.prog X.w) X.A (handleBy (.ref e) X.env [.ExceptHandler (some (.Name x np)) .n [.Raise (some (.Call (.Name z DE) [a] [] bR)) .n Eu] Ec]) (fV X pins D) X.a5 s:=by
  intro σ H s e C T d I gX mK gy aG lY jH b6 lE;obtain ⟨xQ,sM⟩:=aa C d H σ lE;refine wd (we (qH I.ok.kind gd (ts (by rw [I.ok.glob];exact I.mod.glob.keeps I.bl) uK ?_) hd)) (by intro q;cases q);obtain ⟨a6,vs,he,yx,yz,Nx,N4⟩:=id gy;refine uN C xQ _ _ _ _ _ _ _ I.cA he yx ?_;refine codeAny_handlers_suite ?_;refine land (F:=cz X.stack) gy aG lY (λ b g z=>?_) λ h' lH hC t1=>?_
  ·obtain ⟨_,o,aA,Q⟩:=I.stack.mem g;obtain ⟨mW,qo,gx,yy,_⟩:=aG;rw [z,gx] at aA;injection aA with aA;subst aA;exact Q qo yy
  have oc:=I.dU ae lH λ b g=>by rw [cf.mp g];exact #[jH,b6]
  have hT:=oc.known ae gX mK (Rec.ok hC) λ b g z=>by
   obtain ⟨_,o,aA,Q⟩:=oc.stack.mem g;obtain ⟨DI,s8,jR,_,_,sD,_⟩:=hC;rw [z] at aA;have:=jR.symm.trans aA;injection this with this;subst this;exact Q s8 sD
  have pZ:Inv (hh X e) pins σ (upd H e (l5 e C d)) { s with heap:=h' }:=hT.tG;obtain ⟨c6,N,nm,q,bs,hdct,sn,sub,ab,col,dd,k0,k1,k2,k3,k5,mN,p4,lF,Dg,xF⟩:=(c.own I.mod.g5).obj;have R:=n8 Dm [] X.env;refine wpAny_execs_cons (Ca.Wa (y:=e) (C:=l) (nm:=nm) (q:=q) (N:=N) (bs:=bs) (bm:=c6) (hdct:=hdct) (sn:=sn) (sub:=sub) (ab:=ab) (col:=col) (dd:=dd) (k0:=k0) (k1:=k1) (k2:=k2) (k3:=k3) (k5:=k5)
   pH (mN:=mN) (xF.hasType pH.hasBase) Y (by rw [R];rfl) Dg (iW pZ NF c.at_ #[Y,?_] Nz))
  have Dc:=(ak e).o bR pins _ σ _ _ pZ (sM e mK);rw [show starEach [a] (hh X e).env=starEach [a] X.env from rfl,R] at Dc;rw [R];refine pF (d_ Dc (λ us s1 Np=>?_) λ _ _ z=>z.elim);obtain ⟨ws,aq,h,r,fw,⟨mF,b4,jI⟩,r2⟩:=Np;have j:=h.mC I.ok;obtain ⟨Mk,ys,LY,_,_,LI,yb⟩:∃ a6 vs,s1.heap.get? e=some a6/\a6.cls=.ref mF/\a6.dict=b4/\a6.data=.fields vs/\vs[2]?=some .none:=(j.aK e _ jI).1;refine #[Y,by rw [<-r.length];exact fw,j.bl _ _ p4,lF.keeps j.bl,xF.keeps j.bl,#[Mk,ys,LY,LI,yb],λ aa n hm=>?_];obtain ⟨t,ao,_,_⟩:=hm.there;have Lo:=j.kept (t':=s1.toks) hm.keeps;have fn:=cv.of j ae hm.new;have M:aq n=.n:=j.aK.gone hm.new;have sE:(Obj.mapFields (·.setIfInBounds 2 (Value.ref e)) { cls:=.ref l,data:=.fields [.ref t,.none,.none,.none,.bool .f,.none].toArray }).data=.fields [.ref t,.none,.ref e,.none,.bool .f,.none].toArray:=rfl;have Df:=hN (Obj.mapFields (·.setIfInBounds 2 (Value.ref e))) ao (kW sE);have Oi:eK [n] (cz X.stack) aa (aa.update n (Obj.mapFields (·.setIfInBounds 2 (Value.ref e)))) :=
   #[λ b o nl _ q=>(er _ _ (λ z=>nl (by rw [z];exact cf.mpr Y))).trans q,λ b o nl _ q=>#[o.slots,(er _ _ (λ z=>nl (by rw [z];exact cf.mpr Y))).trans q]]
  have m:Inv X pins σ aq { s1 with heap:=aa.update n (Obj.mapFields (·.setIfInBounds 2 (Value.ref e))) }:=Lo.dU ae Oi λ b g=>by rw [cf.mp g];exact #[fn,M]
  have Mq:Rec (aa.update n (Obj.mapFields (·.setIfInBounds 2 (Value.ref e)))) n (.int e l) .n .none:=#[_,_,Df,Y,Y,sE,Y,Y]
  have oL:X.A.frames=some (X.env::X.outer):=by rw [<-L];exact m.ok.frames
  have NI:(aa.update n (Obj.mapFields (·.setIfInBounds 2 (Value.ref e)))).FunFrames X.base (X.env::X.outer):=by rw [<-L];exact m.stack
  refine G7 (A:=X.A.mark (some (.ref e))) oL NI hf Mq λ p k B Oj ou kz=>?_
  have PD:eK [n] (cz X.stack) (aa.update n (Obj.mapFields (·.setIfInBounds 2 (Value.ref e)))) p:=by rw [L];exact Oj
  have oe:Inv X pins σ aq { s1 with heap:=p }:=m.dU ae PD λ b g=>by rw [cf.mp g];exact #[fn,M]
  obtain ⟨Cw,v4,P,xK,xN,f4,S,Mz⟩:=id ou;obtain ⟨mW,aa8,Cp,O,lO⟩:=id kz;have cx:k≠n:=λ z=>by rw [z,Df] at B;cases B
  refine ax (cV P f4 S ?_);rw [if_neg .zs];refine ax (cV P f4 S ?_);rw [if_pos .zs,hf];refine kX Cp O (j9.mp lO).1 ?_;have C4:cv X pins k:=cv.of m ae B;have Z:aq k=.n:=m.aK.gone B;have Ol:eK [k] (cz X.stack) p (p.update k (Obj.mapFields (·.setIfInBounds 3 (rawInt X.env.locals)))) :=
   #[λ b o nl _ q=>(er _ _ (λ z=>nl (by rw [z];exact cf.mpr Y))).trans q,λ b o nl _ q=>#[o.slots,(er _ _ (λ z=>nl (by rw [z];exact cf.mpr Y))).trans q]]
  refine xY pins σ aq _ n k (.int e l) .n (oe.dU ae Ol λ b g=>by rw [cf.mp g];exact #[C4,Z]) fn M C4 Z #[Cw,v4,(er _ _ cx).trans P,xK,xN,f4,S,Mz] #[_,_,hN _ Cp (kW (iu O _)),iu O _,?_] cx r2;have:=(j9.mp lO).1;simp [this]
 have lP:qr (hi X pins λ e s3=>wpAny (model X.prog X.w) X.A (handleBy e X.env [.ExceptHandler (some (.Name x np)) .n [.Raise (some (.Call (.Name z DE) [a] [] bR)) .n Eu] Ec]) (fV X pins D) X.a5 s3) E:=HD ae L hf r3;refine d_ ((g pins _ lP).o [] s σ H D I.tq U) (λ f s1 aC=>?_) λ _ _ z=>z
 cases f with
 | next =>
  obtain ⟨σ3,i,h,q⟩:=aC;exact pn #[σ3,i,h.e_,q]
 | brk =>
  obtain ⟨σ3,i,h,q⟩:=aC;exact #[σ3,i,h.e_,q]
 | cont =>
  obtain ⟨σ3,i,h,q⟩:=aC;exact #[σ3,i,h.e_,q]
 | ret u =>
  obtain ⟨v,σ3,i,h,x6,q⟩:=aC;exact #[v,σ3,i,h.e_,x6,q]]
noncomputable def vp (e C:Addr):eZ:=.ext λ h=>∃ a6 vs,h.get? e=some a6/\a6.cls=.ref C/\a6.dict=.n/\a6.data=.fields vs
theorem Rec.OI (r:Rec h e v .n head) (aI:jd v=.ref C):eh P w H h e (vp e C):=by
 obtain ⟨a6,vs,he,af,hd,hf,_,_⟩:=r;refine #[#[a6,vs,he,af.trans aI,hd,hf],#[_,he],?_];rintro U aa ⟨d,f,a,b,c,b4⟩ k;exact #[d,f,k _ a,b,c,b4]
def Ep (K:aP):bh->aD->b2->Prop:=λ xs H Q=>∃ e C c a b,xs=[.ref e,c]/\H e=some (vp e C)/\Pk c=some a/\PySem.W.gG K C/\PySem.W.kitOne K (.ref C) a=some b/\Q (.aO b) H
theorem iy:ep X (.builtin "isinstance") (Ep X.K):=by
 intro pins s σ H xs us Q I r h;obtain ⟨e,C,c,d,b,rfl,he,af,eC,i,q⟩:=h;obtain ⟨u,b1,rfl,j,rc⟩:=vals2 r;cases j;have hw:b1=d:=by
  cases c with
  | ref a=>cases af;exact rc
  | ty T=>cases af;exact rc
  | _=>cases af
 subst hw;obtain ⟨⟨a6,vs,U,aa,f,g⟩,_,_⟩:=(I.aK e _ he)
 refine jl (PySem.W.T5 eC) I.cA #[a6,.n,U,aa,?_,?_] i (λ z=>?_) λ a8=>#[.aO b,H,I.tok _,Y,q]
 ·unfold PySem.W.notCls;rw [g]
 ·rw [f];trivial
 ·cases z
theorem Vj (ae:X.ex=[]) (c:X.stack=X.env::X.outer) (hf:X.env.frame=some X.env.locals)
  (l:∀ (σ:St) H s e T v d,Inv X pins σ H s->cv X pins e->H e=.n->Rec s.heap e v d (.ref T)->Ent s.heap T .none->T≠e->cv X pins T->H T=.n->E v d H->W (.ref e) s):o4 (hi X pins W) E:=by
 intro iq σ H s e v d head p I g f r o i k;have a:=I.e_;have n:X.A.frames=some (X.env::X.outer):=by rw [<-c];exact a.ok.frames
 have q:s.heap.FunFrames X.base (X.env::X.outer):=by rw [<-c];exact a.stack
 refine landed n q hf r o λ h' T h w t x t1=>?_
 have u:eK (e::p) (cz X.stack) s.heap h':=by rw [c];exact t
 have j:=a.dU ae u λ b m=>by
  rcases bt.mp m with z|z
  ·rw [z];exact #[g.e_,f]
  ·exact #[(i b z).1.e_,(i b z).2]
 exact l σ H _ e T v d j g.e_ f x t1 w (cv.of a ae h) (a.aK.gone h) k
def Qq (K:aP) (F:Addr) (i:Nat) (E:cL) (a7:cS) (a:Addr->cS):cS:=λ D σ H=>a7 D σ H/\∀ v d H1,E v d H1->∃ C,jd v=.ref C/\d=.n/\Under K C F/\∀ e (σ1:St),H1 e=.n->i<σ1.length ->
 a e { bf:=λ σ2 aq=>D.bf ((σ2.set i (some .aQ)).set i .n) aq,iC:=D.iC,bl:=λ σ2 aq=>D.bl ((σ2.set i (some .aQ)).set i .n) aq,b9:=λ σ2 aq=>D.b9 ((σ2.set i (some .aQ)).set i .n) aq } (σ1.set i (some (.ref e))) (upd H1 e (vp e C))
set_option tactic.hygienic true in
theorem SQ (ae:X.ex=[]) (fg:X.stack=X.env::X.outer) (hf:X.env.frame=some X.env.locals) (P:gE X.K X.mg x F) (gd:cy X x)
  (r:X.N.Nodup) (ar:X.N[i]?=some n) (l:X.env.scope.names.lookup n=some .local)
  (k:∀ pins W,o4 (hi X pins W) E->fH (hi X pins W) body a7) (av:∀ e,fH (hh X e) (p::aC) (lN e)) (hd:(x==("__debug__" : Str))=.f:=by decide) :
  e0 X (.Try body [.ExceptHandler (some (.Name x np)) (some n) (p::aC) B] [] [] pos) (Qq X.K F i E a7 lN):=#[by
 rintro pins s σ H D I ⟨U,aa⟩;refine wpAny_Try_except ?_;have r3:∀ σ H s e T v d,Inv X pins σ H s->cv X pins e->H e=.n->Rec s.heap e v d (.ref T)->Ent s.heap T .none->T≠e->cv X pins T->H T=.n->E v d H ->
   wpAny (model X.prog X.w) X.A (handleBy (.ref e) X.env [.ExceptHandler (some (.Name x np)) (some n) (p::aC) B]) (fV X pins D) X.a5 s:=by
  intro σ H s e T v d I gX L S aG lY jH b6 lE;obtain ⟨C,aI,rfl,aV,sM⟩:=aa v d H lE;have hiσ:i<σ.length:=by rw [I.len];exact (dr.mp ar).1
  refine wd (we (qH I.ok.kind gd (ts (by rw [I.ok.glob];exact I.mod.glob.keeps I.bl) P.at_ ?_) hd)) (by intro q;cases q);obtain ⟨bm,N,nm,q,bs,hdct,sn,sub,ab,col,dd,k0,k1,k2,k3,k5,mN,Q,aaK,Dg,xF⟩:=((gE.own (mg:=λ _=>some (.ref C)) (x:=x) #[Y,aV.is]) I.cA).obj;obtain ⟨u3,B7,DD,aR,CV,EL,DQ,Ey,CU,D8,kH,xV,ct,c5,i4,Cs,aa2,M5,abd,abf,MH⟩:=(P.own I.cA).obj;obtain ⟨a6,vs,he,R,yz,Nx,N4⟩:=id S;rw [aI] at R;have fY:bm.contains (.ref F)=.t:=by
   have m:=aV.Ds;unfold PySem.W.mroIn at m;obtain ⟨cd,a,b⟩:=tQ.mp m;unfold PySem.W.clsIn at a;split at a
   ·rename_i aA;have z:=I.cA _ _ aA;rw [Q] at z;cases z;cases a;split at b
    ·cases b
    ·have O:=cE b;rw [qS] at O;rcases Bool.or_eq_true_iff.mp O with y|y
     ·have:=iO.mp y;injection this with this;exact absurd this.symm aV.ne
     ·exact y
   ·cases a
  refine Y9 Q M5 he R (MH.hasType pH.hasBase) fY ?_;refine codeAny_handlers_suite_as ?_;refine land (F:=cz X.stack) S aG lY (λ b k z=>?_) λ h' lH hC t1=>?_
  ·obtain ⟨_,o,aA,t⟩:=I.stack.mem k;obtain ⟨mW,qo,gx,yy,_⟩:=aG;rw [z,gx] at aA;injection aA with aA;subst aA;exact t qo yy
  have M:=I.dU ae lH λ b k=>by rw [cf.mp k];exact #[jH,b6]
  have hT:=M.known ae gX L (Rec.OI hC aI) λ b k z=>by
   obtain ⟨_,o,aA,t⟩:=M.stack.mem k;obtain ⟨DI,s8,jR,_,_,sD,_⟩:=hC;rw [z] at aA;have:=jR.symm.trans aA;injection this with this;subst this;exact t s8 sD
  refine rm hT r ar (.inl l) (v:=.ref e) Y (λ s2 pZ=>?_) (.inr l);refine d_ ((av e).o pins s2 _ _ _ pZ.tG (sM e σ L hiσ)) (λ f s3 j=>?_) λ _ _ z=>z.elim
  have fin:∀ σ3 c (Z:Flow->Shared->Prop) , Inv X pins σ3 c s3->(∀ s5,Inv X pins ((σ3.set i (some .aQ)).set i .n) c s5->Z f s5) ->
    wpAny (model X.prog X.w) X.A (do bindName X.env n .none;unbindBehindTheSuite X.env n B) (λ _ s5=>Z f s5) X.a5 s3:=by
   intro σ3 c Z g xS;have yB:i<σ3.length:=by rw [g.len];exact (dr.mp ar).1
   refine ax (wpAny_bindName (rm g r ar (.inl l) (v:=.aQ) Y (λ s4 i1=>?_) (.inr l)));unfold unbindBehindTheSuite;exact k_ (Iw i1 r ar l (pl yB) λ s5 h=>xS s5 h)
  cases f with
  | next =>
   obtain ⟨σ3,c,g,q⟩:=j;exact fin σ3 c (fV X pins D) (g.mC I.ok) λ s5 h=>#[_,_,h,q]
  | brk =>
   obtain ⟨σ3,c,g,q⟩:=j;exact fin σ3 c (fV X pins D) (g.mC I.ok) λ s5 h=>#[_,_,h,q]
  | cont =>
   obtain ⟨σ3,c,g,q⟩:=j;exact fin σ3 c (fV X pins D) (g.mC I.ok) λ s5 h=>#[_,_,h,q]
  | ret u =>
   obtain ⟨v,σ3,c,g,G,q⟩:=j;exact fin σ3 c (fV X pins D) (g.mC I.ok) λ s5 h=>#[v,_,_,h,G,q]
 have lP:o4 (hi X pins λ e s3=>wpAny (model X.prog X.w) X.A (handleBy e X.env [.ExceptHandler (some (.Name x np)) (some n) (p::aC) B]) (fV X pins D) X.a5 s3) E:=Vj ae fg hf r3;refine d_ ((k pins _ lP).o [] s σ H D I.tq U) (λ f s1 j=>?_) λ _ _ z=>z
 cases f with
 | next =>
  obtain ⟨σ3,c,g,q⟩:=j;exact pn #[σ3,c,g.e_,q]
 | brk =>
  obtain ⟨σ3,c,g,q⟩:=j;exact #[σ3,c,g.e_,q]
 | cont =>
  obtain ⟨σ3,c,g,q⟩:=j;exact #[σ3,c,g.e_,q]
 | ret u =>
  obtain ⟨v,σ3,c,g,G,q⟩:=j;exact #[v,σ3,c,g.e_,G,q]]
theorem Jh {K:aP} (c:gE K mg x C):wx K C (λ D=>D=C):=by
 rintro _ rfl M A E Q s e a6 X he b f;obtain ⟨c6,N,nm,q,bs,hdct,sn,sub,ab,col,dd,k0,k1,k2,k3,k5,mN,a,h,j,T⟩:=(c.own X).obj;obtain ⟨i,g,d,t,os⟩:=s;exact wpAny_excMatches_sub_self a he b (T.hasType pH.hasBase) f
open PySem PySem.Spec PyProof.Rows
noncomputable abbrev Itm (K:aP) (a b:Addr):ht:=oB .f .t K a b
abbrev P2 (K:aP) (aN:c2):TI:=zv .f .t K aN
theorem SM (f:lq a4=.t) (d:cy X "zip") (hm:X.mg "zip" = .n) (ak:dG X [b,a] aN) (av:starEach [b,a] X.env=[(.f,eval b X.env),(.f,eval a X.env)]:=by rfl) (e:starEach [a] X.env=[(.f,eval a X.env)]:=by rfl)
  (c:bootBuiltins "zip" = some (.type "zip"):=by decide +kernel):iA X a4 (.Call (.Name "zip" p) [b,a] [] pos) (P2 X.K aN):=#[F7 f d hm ak.o av e c]
open PySem PySem.Spec PyProof.Rows bV
noncomputable def fW (c:bB):List Key:=c.map λ i=>(Sum.inl i)
theorem zN (c):(fW c).map cT=c.map V.int:=by
 unfold fW;rw [gS];rfl
theorem Qz (h:fW a=fW b):a=b:=by
 have:=zN a;rw [h,zN] at this;exact (List.map_inj_right (λ x y e=>by injection e)).mp this.symm
theorem Aw {H:aD} (h:H b=some (tupI c)):H b=some (.tup ((fW c).map cT)):=by rw [zN];exact h
section
variable {X:aW}
theorem QN (f:X.A.units+1<cLine):cI X (compareOp .In) (λ y x H Q=>∃ b d c kvs,y=.ref b/\x=.ref d/\H b=some (tupI c)/\H d=some (.ez kvs)/\Q (.aO (bU kvs (fW c)).isSome) H):=by
 intro pins s σ H y x u v Q I i g h;obtain ⟨b,d,c,kvs,rfl,rfl,e,hd,q⟩:=h;cases g;exact Pm f I (ie.t hd (Aw e)) i λ s3 a=>#[.aO _,H,a,Y,q]
def RA (a ty:TE):TE:=λ σ H Q=>a σ H λ x H1=>ty σ H1 λ y aq=>∃ d b c kvs v,x=.ref d/\y=.ref b/\aq d=some (.ez kvs)/\aq b=some (tupI c)/\bU kvs (fW c)=some v/\Q v aq
theorem F_ (k:X.A.units+1<cLine) (aA:aZ X o w) (ar:aZ X i ty) (av:y8 i):aZ X (.Subscript o i pos) (RA w ty):=#[by
 intro pins s σ H Q I h;refine Gs PySem.F.slot_dict_getitem.lookup av (aU (aA.o pins s σ H _ I h) ?_);rintro u s1 ⟨x,H1,e,p,l⟩;refine aU (ar.o pins s1 σ H1 _ e l) ?_;rintro z s2 ⟨y,aq,a,r,m⟩;obtain ⟨d,b,c,kvs,v,rfl,rfl,hd,j,aI,q⟩:=m;obtain rfl:u=Value.ref d:=p;have g:ie aq d (.ref b) (some v):=by rw [<-aI];exact ie.t hd (Aw j)
 exact #[Jc a g,HW k a g r λ b1 s3 f n=>#[v,aq,f,n,q]]]
def Rv (f ty e2:TE):cS:=λ D σ H=>e2 σ H λ v H1=>f σ H1 λ x aq=>ty σ aq λ y a=>∃ d b c kvs,x=.ref d/\y=.ref b/\a d=some (.ez kvs)/\a b=some (tupI c)/\kvs.length<sizeLine/\∀ e,bV.cB d a e->e d=some (.ez (putK kvs (fW c) v))->D.bf σ e
theorem SN (l:X.A.units+1<cLine) (aA:aZ X o C) (ar:aZ X i ty) (aI:aZ X value e2) (av:swapsWith value (some (.Subscript o i pos')) pos.line X.env=pure .f) :
  e0 X (.Assign [.Subscript o i pos'] value pos) (Rv C ty e2):=#[by
 intro pins s σ H D I h;refine Ac (aU (aI.o pins s σ H _ I h) ?_) av;rintro r s1 ⟨v,H1,a,w,m⟩;refine aU (aA.o pins s1 σ H1 _ a m) ?_;rintro u s2 ⟨x,aq,e,z,n⟩;refine aU (ar.o pins s2 σ aq _ e n) ?_;rintro G s3 ⟨y,E,f,B,p⟩;obtain ⟨d,b,c,kvs,rfl,rfl,hd,j,k,q⟩:=p;obtain rfl:u=Value.ref d:=z;exact Be l f (ng.t hd (Aw j) k) B w λ s4 g=>#[σ,_,g,q _ bV.cB.upd bN]]
def Tb:TE:=λ Z H Q=>fi (.ez []) H Q
theorem UU:aZ X (.Dict [] [] pos) Tb:=#[λ pins s σ H Q I h=>Us pins s σ H Q I (fi.at h)]
end
theorem JE (h:d≠c):bU (putK kvs (fW c) y) (fW d)=bU kvs (fW d):=by
 rw [A7,if_neg λ e=>h (Qz e)]
theorem KA:bU (putK kvs (fW c) y) (fW c)=some y:=by
 rw [A7,if_pos rfl]
end bj
namespace ck
inductive rH where
 | round (b l:Nat)
 | rests (n:Nat) (c:bB)
 | ph
def sh (rows:d7) (p:bB) (k:Nat):Prop:=∀ i j,i<j->j<k->goN rows i p≠goN rows j p
def EJ (rows:d7) (m:Nat) (p:bB):rH->Prop
 | .round b l=>1<=l/\b+l<=m/\(∃ c,goN rows b p=some c/\goN rows (b+l) p=some c)/\sh rows p (b+l)
 | .rests n c=>n<=m/\goN rows n p=some c/\cO rows c=.n
 | .ph=>(∃ c,goN rows (m+1) p=some c)/\sh rows p (m+1)
end ck
namespace bj
open PySem PySem.Spec PyProof.Rows
theorem UC
  (p:X.N.Nodup) (w:X.N[G]?=some x0) (E:Loc X.env.scope x0)
  (C:wu X scope cl N js) (af:X.warm=.t) (ar:gW X a4 iter P)
  (u:∀ aF pins s H,hU (fS X scope cl N aF pins s H λ Z Z=>False) a4 g)
  (aG:∀ aF pins s H,kD (fS X scope cl N aF pins s H λ Z Z=>False) cs cg)
  (he:∀ aF pins s H,bw (fS X scope cl N aF pins s H λ Z Z=>False) elt bg)
  (B:swapsWith (.ListComp elt [#[a4,iter,cs,0]] scope bR) (some (.Name x0 pos')) pos.line X.env=pure .t)
  (av:∀ x,foldedSetIterable iter X.env x=pure x:=by intro _;rfl) (t:X.fn x0=.t\/X.env.scope.names.lookup x0=some .local:=by first|exact .inl Y|exact .inr Y|assumption):hV X (.Assign [.Name x0 pos'] (.ListComp elt [#[a4,iter,cs,0]] scope bR) pos) (kR (jY js P g cg bg) (e4 G)):=by
 intro pins s σ H Q I h;rw [exec_Assign_Name_used _ _ _ _ B];refine ax (k4 (ax ?_));refine ax (d_ (HV C af ar u aG he av I h λ D a c S m r d l ao L=>?_) (λ Z s' y=>a_ (a_ y)) λ Z Z e=>e);refine wpAny_assign_Name (Iu (v:=.ref D) d p w E Y (λ T f A=>?_) t);obtain ⟨i,O,n⟩:=A;obtain ⟨f0,f1,R,j,f4,k⟩:=l;have aC:a≠i:=by
  rcases n with z|z
  ·rw [z];exact f1
  ·exact (f4 _ _ z).symm
 refine #[m,ao.sameBut O aC,λ h' M=>#[_,c,?_,L]];exact f.turned (λ b o q e=>(M.2 b q).trans e) f0 f1 j f4 k
theorem Su
  (a:X.N.Nodup) (e:X.N[i]?=some x0) (h:Loc X.env.scope x0)
  (C:jn X scope cl N js) (af:X.warm=.t) (ar:gW X a4 iter j)
  (d:∀ aF pins s H,hU (cC X scope cl N aF pins s H λ Z Z=>False) a4 g)
  (aG:∀ aF pins s H,kD (cC X scope cl N aF pins s H λ Z Z=>False) cs cg)
  (he:∀ aF pins s H,bw (cC X scope cl N aF pins s H λ Z Z=>False) elt bg)
  (f:swapsWith (.ListComp elt [#[a4,iter,cs,0]] scope bR) (some (.Name x0 pos')) pos.line X.env=pure .t)
  (av:∀ x,foldedSetIterable iter X.env x=pure x:=by intro _;rfl) (b:X.fn x0=.t\/X.env.scope.names.lookup x0=some .local:=by first|exact .inl Y|exact .inr Y|assumption):hV X (.Assign [.Name x0 pos'] (.ListComp elt [#[a4,iter,cs,0]] scope bR) pos) (kR (jY js j g cg bg) (e4 i)) :=
 UC a e h C.c af ar (λ aF pins s H=>by rw [q4 C.k8];exact d aF pins s H) (λ aF pins s H=>by rw [q4 C.k8];exact aG aF pins s H) (λ aF pins s H=>by rw [q4 C.k8];exact he aF pins s H) f av b
theorem AH
  (e:X.N.Nodup) (j:X.N[i]?=some x0) (l:Loc X.env.scope x0)
  (C:jn X scope cl N js) (af:X.warm=.t) (ar:iA X a4 iter m)
  (h:∀ aF pins s H,iz (cC X scope cl N aF pins s H λ Z Z=>False) a4 g)
  (aG:∀ aF pins s H,qd (cC X scope cl N aF pins s H λ Z Z=>False) cs cg)
  (he:∀ aF pins s H,aZ (cC X scope cl N aF pins s H λ Z Z=>False) elt bg)
  (k:swapsWith (.ListComp elt [#[a4,iter,cs,0]] scope bR) (some (.Name x0 pos')) pos.line X.env=pure .t:=by rfl)
  (av:∀ x,foldedSetIterable iter X.env x=pure x:=by intro _;rfl) (f:X.fn x0=.t\/X.env.scope.names.lookup x0=some .local:=by first|exact .inl Y|exact .inr Y|assumption):e0 X (.Assign [.Name x0 pos'] (.ListComp elt [#[a4,iter,cs,0]] scope bR) pos) (kR (jY js m g cg bg) (e4 i)) :=
 #[Su e j l C af ar.o (λ a b c d=>(h a b c d).o) (λ a b c d=>(aG a b c d).o) (λ a b c d=>(he a b c d).o) k av f]
end bj
namespace rM
open PySem PyProof.Rows i3
abbrev gn (h:Heap) (T:Addr) (a b c:Value):Prop:=h.get? T=some { cls:=.type "tuple", data:=.seq [a,b,c].toArray }
theorem d9 {m:Nat} (h:k≠m):n+k≠n+m:=by omega
theorem lJ (h:0<k):n≠n+k:=by omega
theorem p6 (h:0<k):n+k≠n:=by omega
theorem c6 {k:Nat} (h:t<n):t≠n+k:=by omega
section
variable {prog:Program} {w:World} {A:Around} {E:c0} {s:Shared}
theorem zq (d:gn s.heap T a b c)
  (h:∀ h',h'.get? T=some { cls:=.type "tuple", data:=.seq (([a,b,c].toArray:ee).setIfInBounds k x) }->Heap.SameBut T s.heap h'->Q () { s with heap:=h' }) :
  wpAny (model prog w) A (updateSeq T (·.setIfInBounds k x)) Q E s:=by
 refine wg d rfl (h _ ?_ (pj ..));rw [hN _ d rfl];simp [Obj.mapSeq]
theorem A8 {Q:c0} (Z:t1<n) (bj:G<n) (i:t3<n)
  (m:IsZip s.heap (n+5) (n+3) (n+4) .none) (ye:gn s.heap (n+3) (.ref n) (.ref (n+1)) (.ref (n+2))) (yf:gn s.heap (n+4) a b c)
  (mR:s.heap.IsTupleIter n t1 k) (xT:s.heap.IsTupleIter (n+1) G k) (xU:s.heap.IsTupleIter (n+2) t3 k) (p7:s.heap.IsTuple t1 xs) (mS:s.heap.IsTuple G ys) (mT:s.heap.IsTuple t3 zs) (ex:xs[k]?=some x) (LP:ys[k]?=some y) (LQ:zs[k]?=some v)
  (q:∀ g,IsZip g (n+5) (n+3) (n+4) (rawInt s.heap.objs.size)->gn g (n+4) x y v->g.IsTupleIter n t1 (k+1)->g.IsTupleIter (n+1) G (k+1)->g.IsTupleIter (n+2) t3 (k+1)->gn g s.heap.objs.size x y v ->
   (∀ c o,c≠n+5->c≠n+4->c≠n->c≠n+1->c≠n+2->s.heap.get? c=some o->g.get? c=some o)->Q (.ref s.heap.objs.size) { s with heap:=g }) :
  wpAny (model prog w) A (Builtin.«zip.__next__» ⟨[.ref (n+5)],[]⟩) (λ fin s'=>∃ v,fin=.done (.ret v)/\Q v s') E s:=by
 show wpAny _ _ (field (.ref (n+5)) 2>>=_) _ _ _;refine ax (cV m Y Y ?_);refine ax (cV m Y Y (ax (fO ye Y ?_)));refine ax ?_;refine ax (cV m Y Y (a_ ?_));refine ax (ny (ax (cV m Y Y (ax (j7 m .zs λ g1 aC s1=>?_)))));replace aC:IsZip g1 (n+5) (n+3) (n+4) .ellipsis:=aC;refine ax ?_;refine ax (ax (k_ ?_));refine ax (pull (mR.extBut s1.extBut (lJ .aB)) (p7.extBut s1.extBut (c6 Z)) ex λ g2 N_ s2=>a_ ?_);have R:=s2.extBut _ _ (p6 .aB) (s1.extBut _ _ (d9 .aB) yf);refine ax (fO R Y (ax (zq R λ g3 H s3=>?_)));replace H:gn g3 (n+4) x b c:=H;refine ax (la (a_ (ax (ax (k_ ?_)))));have Oa:=((xT.extBut s1.extBut (d9 .aB)).extBut s2.extBut (p6 .aB)).extBut s3.extBut (d9 .aB);have yK:=((mS.extBut s1.extBut (c6 bj)).extBut s2.extBut (cc bj)).extBut s3.extBut (c6 bj);refine ax (pull Oa yK LP λ rY PB s4=>a_ ?_);have S:=s4.extBut _ _ (d9 .aB) H;refine ax (fO S Y (ax (zq S λ rZ I s5=>?_)));replace I:gn rZ (n+4) x y c:=I;refine ax (la (a_ (ax (ax (k_ ?_)))));have Ob:=((((xU.extBut s1.extBut (d9 .aB)).extBut s2.extBut (p6 .aB)).extBut s3.extBut (d9 .aB)).extBut s4.extBut (d9 .aB)).extBut s5.extBut (d9 .aB);have Oq:=((((mT.extBut s1.extBut (c6 i)).extBut s2.extBut (cc i)).extBut s3.extBut (c6 i)).extBut s4.extBut (c6 i)).extBut s5.extBut (c6 i);refine ax (pull Ob Oq LQ λ uL PC f=>a_ ?_);have T:=f.extBut _ _ (d9 .aB) I;refine ax (fO T Y (ax (zq T λ d t h=>?_)));replace t:gn d (n+4) x y v:=t;refine ax (la (a_ (a_ (ax (fO t Y (ax (wpAny_newTuple ?_)))))));have fe:d.objs.size=s.heap.objs.size:=by rw [h.1,f.1,s5.1,s4.1,s3.1,s2.1,s1.1]
 have X:=h.extBut _ _ (d9 .aB) (f.extBut _ _ (d9 .aB) (s5.extBut _ _ (d9 .aB) (s4.extBut _ _ (d9 .aB) (s3.extBut _ _ (d9 .aB) (s2.extBut _ _ (p6 .aB) aC)))));have O7:∀ c o,c≠n+5->c≠n+4->c≠n->c≠n+1->c≠n+2->s.heap.get? c=some o->d.get? c=some o:=λ c o p j z B C aR =>
  h.extBut _ _ j (f.extBut _ _ C (s5.extBut _ _ j (s4.extBut _ _ B (s3.extBut _ _ j (s2.extBut _ _ z (s1.extBut _ _ p aR))))))
 have Od:=((((N_.extBut s3.extBut (lJ .aB)).extBut s4.extBut (lJ .aB)).extBut s5.extBut (lJ .aB)).extBut f.extBut (lJ .aB)).extBut h.extBut (lJ .aB);have Oe:=((PB.extBut s5.extBut (d9 .aB)).extBut f.extBut (d9 .aB)).extBut h.extBut (d9 .aB);have Of:=PC.extBut h.extBut (d9 .aB);have aV:=bu X;refine ax ?_;have Pb:IsZip (d.push { cls:=.type "tuple", data:=.seq [x,y,v].toArray }) (n+5) (n+3) (n+4) .ellipsis:=a9 _ X;refine ax (j7 Pb .zs λ LX L O=>?_);replace L:IsZip LX (n+5) (n+3) (n+4) (rawInt d.objs.size):=L;refine j7 L .zs λ D u P=>?_
 replace u:IsZip D (n+5) (n+3) (n+4) (rawInt d.objs.size):=u;have l:∀ c o,c≠n+5->d.get? c=some o->D.get? c=some o:=λ c o M aR=>P.extBut _ _ M (O.extBut _ _ M (a9 _ aR))
 have N:=P.extBut _ _ (hP aV) (O.extBut _ _ (hP aV) (cJ _ Y));rw [fe] at u N;refine a_ #[_,Y,?_];rw [fe];refine q D u (l _ _ (d9 .aB) t) ?_ ?_ ?_ N λ c o p j z B C aR=>l c o p (O7 c o p j z B C aR)
 ·obtain ⟨o,e,r⟩:=Od;exact #[o,l _ _ (lJ .aB) e,r]
 ·obtain ⟨o,e,r⟩:=Oe;exact #[o,l _ _ (d9 .aB) e,r]
 ·obtain ⟨o,e,r⟩:=Of;exact #[o,l _ _ (d9 .aB) e,r]
theorem A9 {a b c:Value} (hd:eP.In A s.heap) (l:t1<n)
  (d:IsZip s.heap (n+5) (n+3) (n+4) .none) (v:gn s.heap (n+3) (.ref n) (.ref (n+1)) (.ref (n+2)))
  (p:s.heap.IsTupleIter n t1 k) (r:s.heap.IsTuple t1 xs) (ex:xs[k]?=.n)
  (q:∀ g e,(∀ c o,c≠n+5->c≠n+4->c≠n->c≠n+1->c≠n+2->s.heap.get? c=some o->g.get? c=some o)->(∃ o,g.get? e=some o/\o.cls=.type "StopIteration")->E (.ref e) { s with heap:=g }) :
  wpAny (model prog w) A (Builtin.«zip.__next__» ⟨[.ref (n+5)],[]⟩) Q E s:=by
 show wpAny _ _ (field (.ref (n+5)) 2>>=_) _ _ _;refine ax (cV d Y Y ?_);refine ax (cV d Y Y (ax (fO v Y ?_)));refine ax ?_;refine ax (cV d Y Y (a_ ?_));refine ax (ny (ax (cV d Y Y (ax (j7 d .zs λ g1 h s1=>?_)))));replace h:IsZip g1 (n+5) (n+3) (n+4) .ellipsis:=h;refine ax ?_;refine ax (ax (k_ ?_));have m:=hd.but d (λ vs e=>by injection e with e;subst e;exact λ z=>nomatch z) s1.extBut;refine ax (UH m (p.extBut s1.extBut (lJ .aB)) (r.extBut s1.extBut (c6 l)) ex ?_);rintro g2 e s2 ⟨a6,f,coe⟩;have j:=s2 _ _ (p6 .aB) h;have u:e≠n+5:=λ y=>by
  subst y;rw [j] at f;cases f;simp at coe
 exact j7 j .zs λ g3 Z s3=>q g3 e (λ c o i Z t Z Z y=>s3.extBut _ _ i (s2 _ _ t (s1.extBut _ _ i y))) #[a6,s3.extBut _ _ u f,coe]
theorem next_item (f:t1<n) (bj:d<n) (h:t3<n)
  (e:IsZip s.heap (n+5) (n+3) (n+4) .none) (aC:gn s.heap (n+3) (.ref n) (.ref (n+1)) (.ref (n+2))) (L:gn s.heap (n+4) a b c)
  (B:s.heap.IsTupleIter n t1 k) (C:s.heap.IsTupleIter (n+1) d k) (D:s.heap.IsTupleIter (n+2) t3 k) (G:s.heap.IsTuple t1 xs) (H:s.heap.IsTuple d ys) (I:s.heap.IsTuple t3 zs) (ex:xs[k]?=some x) (u:ys[k]?=some y) (z:zs[k]?=some v)
  (q:∀ g,IsZip g (n+5) (n+3) (n+4) (rawInt s.heap.objs.size)->gn g (n+4) x y v->g.IsTupleIter n t1 (k+1)->g.IsTupleIter (n+1) d (k+1)->g.IsTupleIter (n+2) t3 (k+1)->gn g s.heap.objs.size x y v ->
   (∀ c o,c≠n+5->c≠n+4->c≠n->c≠n+1->c≠n+2->s.heap.get? c=some o->g.get? c=some o)->Q (some (.ref s.heap.objs.size)) { s with heap:=g }):wpAny (model prog w) A (pyNext (.ref (n+5))) Q E s:=by
 have ty:s.TypeIs (.ref (n+5)) "zip" := #[_,e,Y]
 refine ax (kY (kZ ty nP (jk nP ty v5 ?_ (v7 _))));exact A8 f bj h e aC L B C D G H I ex u z λ g i j l m p r t=>a_ (q g i j l m p r t)
theorem Bm {a b c:Value} (hd:eP.In A s.heap) (f:t1<n)
  (d:IsZip s.heap (n+5) (n+3) (n+4) .none) (l:gn s.heap (n+3) (.ref n) (.ref (n+1)) (.ref (n+2)))
  (i:s.heap.IsTupleIter n t1 k) (j:s.heap.IsTuple t1 xs) (ex:xs[k]?=.n)
  (q:∀ g,(∀ c o,c≠n+5->c≠n+4->c≠n->c≠n+1->c≠n+2->s.heap.get? c=some o->g.get? c=some o)->Q .n { s with heap:=g }):wpAny (model prog w) A (pyNext (.ref (n+5))) Q E s:=by
 have ty:s.TypeIs (.ref (n+5)) "zip" := #[_,d,Y]
 refine ax (kY (kZ ty nP (jk nP ty v5 ?_ (v7 _))));refine A9 (a:=a) (b:=b) (c:=c) hd f d l i j ex ?_;rintro g e up ⟨a6,h,coe⟩
 exact ax (qF #[a6,h,coe] tr (a_ (q _ up)))
end
theorem YL (a b c):checkTypeCall "zip" ⟨[a,b,c],[]⟩=pure ():=by kernel_rfl
theorem X5 (a b c):checkBuiltinCall "zip.__new__" ⟨[.type "zip", a,b,c],[]⟩=pure ():=by kernel_rfl
theorem ZH (a b c d):argsOk "object.__init__" ⟨[a,b,c,d],[]⟩:=by
 unfold argsOk;rw [signature?_of (n:=['_','_','t','i','n','i','_','_']) (by kernel_rfl) F.owner_object];kernel_rfl
noncomputable abbrev gC (h:Heap) (t:Addr):Heap:=h.push { cls:=.type "tuple_iterator", data:=.fields [.ref t,.int 0 0].toArray }
noncomputable abbrev lW (h:Heap) (t1 a t3:Addr):Heap:=gC (gC (gC h t1) a) t3
noncomputable abbrev lX (h:Heap) (t1 a t3:Addr):Heap:=(lW h t1 a t3).push { cls:=.type "tuple", data:=.seq [.ref h.objs.size,.ref (gC h t1).objs.size,.ref (gC (gC h t1) a).objs.size].toArray }
noncomputable abbrev jS (h:Heap) (t1 a t3:Addr):Heap:=(lX h t1 a t3).push { cls:=.type "tuple", data:=.seq [.none,.none,.none].toArray }
noncomputable abbrev oP (h:Heap) (t1 a t3:Addr):Heap:=(jS h t1 a t3).push { cls:=.type "zip", data:=.fields [.none,.bool .f,.bool .f,.ref (lW h t1 a t3).objs.size,.ref (lX h t1 a t3).objs.size].toArray }
theorem Bk (t1 a t3) (xs ys zs):Meets (Builtin.«zip.__new__» ⟨[.type "zip", .ref t1,.ref a,.ref t3],[]⟩) (λ Z R s=>s.heap.IsTuple t1 xs/\s.heap.IsTuple a ys/\s.heap.IsTuple t3 zs/\R (.ok (.ret (.ref (jS s.heap t1 a t3).objs.size))) { s with heap:=oP s.heap t1 a t3 }) :=
 .of_wp λ prog w A R s h=>by
  obtain ⟨c,b,dd,tt,d⟩:=s;obtain ⟨a1,a2,e,h⟩:=h;have sub:=sub_zip;have f:=a1;have g:Heap.IsTuple (Shared.heap ⟨gC c t1,b,dd,tt,d⟩) a ys:=v8 a2 _;have i:Heap.IsTuple (Shared.heap ⟨gC (gC c t1) a,b,dd,tt,d⟩) t3 zs:=v8 (v8 e _) _
  wp_walk using nA f,nA g,nA i
  exact #[_,Y,h]
section
variable {prog:Program} {w:World} {A:Around} {E:c0} {s:Shared}
theorem make (a1:s.heap.IsTuple t1 xs) (a2:s.heap.IsTuple a ys) (k:s.heap.IsTuple t3 zs)
  (q:∀ g,IsZip g (s.heap.objs.size+5) (s.heap.objs.size+3) (s.heap.objs.size+4) .none->gn g (s.heap.objs.size+3) (.ref s.heap.objs.size) (.ref (s.heap.objs.size+1)) (.ref (s.heap.objs.size+2))->gn g (s.heap.objs.size+4) .none .none .none ->
   g.IsTupleIter s.heap.objs.size t1 0->g.IsTupleIter (s.heap.objs.size+1) a 0->g.IsTupleIter (s.heap.objs.size+2) t3 0->(∀ c o,s.heap.get? c=some o->g.get? c=some o)->Q (.ref (s.heap.objs.size+5)) { s with heap:=g }) :
  wpAny (model prog w) A (call (.type "zip") [.ref t1,.ref a,.ref t3]) Q E s:=by
 refine callType_new F.called_zip .aB (YL _ _ _) (X5 _ _ _) (λ obj=>ZH obj _ _ _) F.entry_zip_new (Bk t1 a t3 xs ys zs) #[a1,a2,k,?_];have b:(gC s.heap t1).objs.size=s.heap.objs.size+1:=eF ..;have d:(gC (gC s.heap t1) a).objs.size=s.heap.objs.size+2:=by rw [eF,b]
 have e:(lW s.heap t1 a t3).objs.size=s.heap.objs.size+3:=by rw [eF,d]
 have f:(lX s.heap t1 a t3).objs.size=s.heap.objs.size+4:=by rw [eF,e]
 have i:(jS s.heap t1 a t3).objs.size=s.heap.objs.size+5:=by rw [eF,f]
 have h:(oP s.heap t1 a t3).get? (jS s.heap t1 a t3).objs.size=some _:=cJ _ rfl;have j:(oP s.heap t1 a t3).get? (lX s.heap t1 a t3).objs.size=some _:=a9 _ (cJ _ Y);have p9:(oP s.heap t1 a t3).get? (lW s.heap t1 a t3).objs.size=some _:=a9 _ (a9 _ (cJ _ Y));have lL:(oP s.heap t1 a t3).get? (gC (gC s.heap t1) a).objs.size=some _:=a9 _ (a9 _ (a9 _ (cJ _ Y)));have dS:(oP s.heap t1 a t3).get? (gC s.heap t1).objs.size=some _:=a9 _ (a9 _ (a9 _ (a9 _ (cJ _ Y))));have dx:(oP s.heap t1 a t3).get? s.heap.objs.size=some _:=a9 _ (a9 _ (a9 _ (a9 _ (a9 _ (cJ _ Y)))));rw [e,f,i] at h;rw [b,d,e] at p9;rw [f] at j;rw [d] at lL;rw [b] at dS;rw [i];exact #[#[_,h,Y],q _ h p9 j #[_,dx,Y,Y] #[_,dS,Y,Y] #[_,lL,Y,Y] λ c o y=>a9 _ (a9 _ (a9 _ (a9 _ (a9 _ (a9 _ y)))))]
end
end rM
namespace bj
open PySem PySem.Spec PyProof.Rows rM
noncomputable def sj (K:aP) (a b c:Addr):ht :=
 #[λ i H=>∃ xs ys zs x y v,aX K H a xs/\aX K H b ys/\aX K H c zs/\xs[i]?=some x/\ys[i]?=some y/\zs[i]?=some v,
 λ i H w H'=>∃ p,H p=.n/\w=.ref p/\∃ x y v,H'=upd H p (.tup [x,y,v])/\∀ xs ys zs,aX K H a xs->aX K H b ys->aX K H c zs->xs[i]?=some x/\ys[i]?=some y/\zs[i]?=some v,
 λ i H=>∃ xs,aX K H a xs/\xs.length<=i]
theorem Wk {K:aP} (sO:lq a4=.t) (O:a<n) (bj:b<n) (Lp:c<n) :
  Turn P w K Cd a4 (sj K a b c) [n+5,n+4,n,n+1,n+2,n+3] (n+5) (λ i h=>IsZip h (n+5) (n+3) (n+4) .none/\gn h (n+3) (.ref n) (.ref (n+1)) (.ref (n+2))/\(∃ u v w,gn h (n+4) u v w)/\h.IsTupleIter n a i/\h.IsTupleIter (n+1) b i/\h.IsTupleIter (n+2) c i) where
 mem:=dn
 obj:=λ i h st mQ af=>by
  obtain ⟨U,aa,⟨u,v,b1,j⟩,⟨G,f,_,xN⟩,⟨aC,l,_,LG⟩,⟨L,m,_,LH⟩⟩:=st;have r:∀ {o:Obj} {vs:ee},o.data=.fields vs->∀ v,o.data≠.cell v:=λ e v q=>by rw [e] at q;cases q
  have T:∀ {o:Obj} {vs:ee} {n:Nat},o.data=.seq vs n->∀ v,o.data≠.cell v:=λ e v q=>by rw [e] at q;cases q
  simp only [bt,da,dc] at af;rcases af with rfl|rfl|rfl|rfl|rfl|rfl
  ·exact #[_,U,r Y]
  ·exact #[_,j,T Y]
  ·exact #[_,f,r xN]
  ·exact #[_,l,r LG]
  ·exact #[_,m,r LH]
  ·exact #[_,aa,T Y]
 keep:=λ i h h' st k=>by
  obtain ⟨U,aa,⟨u,v,b1,j⟩,⟨G,f,ou⟩,⟨aC,l,x4⟩,⟨L,m,Mp⟩⟩:=st;exact #[k _ .zs _ U,k _ .zs _ aa,#[u,v,b1,k _ .zs _ j],#[G,k _ .zs _ f,ou],#[aC,k _ .zs _ l,x4],#[L,k _ .zs _ m,Mp]]
 item:=by
  intro X B hw A yC af i pins s σ H E I hf st D;subst B hw A;obtain ⟨U,aa,⟨u,v,b1,j⟩,f,l,m⟩:=st;obtain ⟨xs,ys,zs,x,y,z,t,aV,Z,ae,R,S⟩:=D;obtain ⟨sT,N,M,_⟩:=I.tuple t;obtain ⟨Dv,OT,x2,_⟩:=I.tuple aV;obtain ⟨Oo,OU,pc,_⟩:=I.tuple Z;obtain ⟨x_,yn,sY⟩:=N.get ae;obtain ⟨ya,yo,yS⟩:=OT.get R;obtain ⟨Mx,MT,OS⟩:=OU.get S;refine rM.next_item O bj Lp U aa j f l m M x2 pc (by simpa using yn) (by simpa using yo) (by simpa using MT) λ g uI uJ rP mP rQ Lx Q=>?_
  refine #[_,Y,?_];have y5:=bu U;cases a4 with
  | Tuple aj fb pp =>
   refine wpAny_letOwnedTupleGo_zip uI λ rX om p=>?_
   have new:=p.extBut _ _ (hP y5) Lx;have oc:Inv X pins σ (upd H s.heap.objs.size (.tup [x,y,z])) { s with heap:=rX }:=by
    refine I.Bx (λ c o d e=>?_) hf (bx _) #[by show 3<=sizeLine;decide,[x_,ya,Mx],.cons sY (.cons yS (.cons OS .nil)),#[_,new,Y,#[0,Y],Y]];simp only [bt,da,dc,not_or] at d;exact p.extBut c o d.1 (Q c o d.1 d.2.1 d.2.2.1 d.2.2.2.1 d.2.2.2.2.1 e)
   have sx:=p.extBut _ _ (d9 .aB) (Q _ _ (d9 .aB) (d9 .aB) (p6 .aB) (d9 .aB) (d9 .aB) aa);refine #[.ref s.heap.objs.size,_,oc,Y,#[_,I.fresh,Y,x,y,z,Y,λ DX g9 abb fc ed hB=>#[by rw [I.uj fc t];exact ae,by rw [I.uj ed aV];exact R,by rw [I.uj hB Z];exact S]],#[om,sx,#[_,_,_,p.extBut _ _ (d9 .aB) uJ],rP.extBut p.extBut (lJ .aB),mP.extBut p.extBut (d9 .aB),rQ.extBut p.extBut (d9 .aB)],λ c C=>?_];obtain ⟨o,gw,_⟩:∃ o,s.heap.get? c=some o/\True:=by
    simp only [bt,da,dc] at C;rcases C with rfl|rfl|rfl|rfl|rfl|rfl
    ·exact #[_,U,trivial]
    ·exact #[_,j,trivial]
    ·obtain ⟨G,rY,_⟩:=f;exact #[_,rY,trivial]
    ·obtain ⟨aC,rZ,_⟩:=l;exact #[_,rZ,trivial]
    ·obtain ⟨L,uL,_⟩:=m;exact #[_,uL,trivial]
    ·exact #[_,aa,trivial]
   rw [bC (cc (bu gw))];exact (hf c C).1
  | _=>exact absurd sO dC
 done:=by
  intro X B hw A yC af i pins s σ H E I hf st D;subst B hw A;obtain ⟨U,aa,⟨u,v,b1,j⟩,f,l,m⟩:=st;obtain ⟨xs,t,eB⟩:=D;obtain ⟨sT,N,M,_⟩:=I.tuple t;have p1:=N.length;refine rM.Bm (a:=.none) (b:=.none) (c:=.none) (I.fY af) O U aa f M (by simp;omega) λ g up=>#[Y,?_]
  refine I.AN (λ c o d e=>?_) hf;simp only [bt,da,dc,not_or] at d;exact up c o d.1 d.2.1 d.2.2.1 d.2.2.2.1 d.2.2.2.2.1 e
 self:=λ _ _ _ _ _ st h=>v9 st.1 h
section
variable {X:aW} {a4:Expr}
theorem vals3 (h:Vals [x,y,z] us):∃ u v w,us=[u,v,w]/\RelV x u/\RelV y v/\RelV z w:=by
 cases h with
 | cons U h =>
  cases h with
  | cons aa h =>
   cases h with
   | cons a h =>
    cases h;exact #[_,_,_,Y,U,aa,a]
def P1 (K:aP) (aN:c2):TI:=λ σ H R=>aN σ H λ vs H1=>∃ a b c,vs=[.ref a,.ref b,.ref c]/\(∃ xs,aX K H1 a xs)/\(∃ ys,aX K H1 b ys)/\(∃ zs,aX K H1 c zs)/\R (sj K a b c) H1
theorem SK (v:lq a4=.t) (u:cy X "zip") (hm:X.mg "zip" = .n) (ak:dG X [j,f,i] aN) (av:starEach [j,f,i] X.env=[(.f,eval j X.env),(.f,eval f X.env),(.f,eval i X.env)]:=by rfl) (k:starEach [f,i] X.env=[(.f,eval f X.env),(.f,eval i X.env)]:=by rfl)
  (t:bootBuiltins "zip" = some (.type "zip"):=by decide +kernel):iA X a4 (.Call (.Name "zip" p) [j,f,i] [] pos) (P1 X.K aN):=#[by
 intro pins s σ H R I h;refine Call_ (mn I u hm t (qI (aU (ak.o pos pins s σ H _ I h) ?_) (by rw [av,k]) (by rw [k];rfl)));rintro us s1 ⟨vs,H1,d,C,y⟩;obtain ⟨a,b,c,e,⟨xs,z⟩,⟨ys,A⟩,⟨zs,B⟩,q⟩:=y;subst e;obtain ⟨Z,CH,uV,rfl,D,E,rc⟩:=vals3 C;cases D;cases E;cases rc;obtain ⟨O,S,l,_⟩:=d.tuple z;obtain ⟨P,T,m,_⟩:=d.tuple A;obtain ⟨Q,aV,pc,_⟩:=d.tuple B;have w:a<s1.heap.objs.size:=by obtain ⟨o,e,_⟩:=l;exact bu e
 have x:b<s1.heap.objs.size:=by obtain ⟨o,e,_⟩:=m;exact bu e
 have lc:c<s1.heap.objs.size:=by obtain ⟨o,e,_⟩:=pc;exact bu e
 refine rM.make l m pc λ g n G aC L M N up=>?_
 refine v9 n ?_;have r:=d.kept (t':=s1.toks) up;refine #[_,[s1.heap.objs.size+5,s1.heap.objs.size+4,s1.heap.objs.size,s1.heap.objs.size+1,s1.heap.objs.size+2,s1.heap.objs.size+3],_,_,H1,Y,r,Wk v w x lc,#[n,G,#[_,_,_,aC],L,M,N],λ c af=>?_,q];have big:s1.heap.objs.size<=c:=by
  simp only [bt,da,dc] at af;rcases af with rfl|rfl|rfl|rfl|rfl|rfl
  ·exact lb _ _
  ·exact lb _ _
  ·exact bx _
  ·exact lb _ _
  ·exact lb _ _
  ·exact lb _ _
 exact d.nh big (d.aK.fresh big)]
end
theorem TO {K:aP} {g:fF} {a7:cS} {D:Ends} (h:xs.length=ys.length) (w:xs.length=zs.length) (Pv:Nat->St->aD->Prop) (h0:Pv 0 σ H) (s:∀ i σ H,i<=xs.length->Pv i σ H->aX K H a xs/\aX K H b ys/\aX K H c zs)
  (av:∀ i x y z p σ H,xs[i]?=some x->ys[i]?=some y->zs[i]?=some z->H p=.n->Pv i σ H->g (.ref p) σ (upd H p (.tup [x,y,z])) λ σ2 aq=>a7 { D with bf:=Pv (i+1),b9:=Pv (i+1),bl:=D.bf } σ2 aq) (hd:∀ σ H,Pv xs.length σ H->D.bf σ H) :
  ∃ W:Nat->Nat->St->aD->Prop,(∃ m,W 0 m σ H)/\∀ i m σ H,W i m σ H ->
   ((sj K a b c).stop i H/\D.bf σ H)\/((sj K a b c).go i H/\∃ N,(∀ σ' H',N σ' H'->∃ j,j<m/\W (i+1) j σ' H')/\∀ x H',(sj K a b c).ic i H x H'->g x σ H' λ σ2 aq=>a7 { D with bf:=N,b9:=N,bl:=D.bf } σ2 aq):=by
 refine #[λ i m σ H=>m=xs.length-i/\i<=xs.length/\Pv i σ H,#[_,Y,ej _,h0],?_];rintro i m σ H ⟨rfl,ar,p⟩;obtain ⟨d,k,l⟩:=s i σ H ar p;by_cases f:i<xs.length
 ·have aa:i<ys.length:=by omega
  have r:i<zs.length:=by omega
  refine .inr #[#[xs,ys,zs,xs[i],ys[i],zs[i],d,k,l,by simp [f],by simp [aa],by simp [r]],Pv (i+1),λ σ' H' p'=>#[xs.length-(i+1),.au,Y,f,p'],λ v H' u=>?_];obtain ⟨q,t,rfl,x,y,z,rfl,h⟩:=u;obtain ⟨ex,n,o⟩:=h xs ys zs d k l;exact av i x y z q σ H ex n o t p
 ·have e:i=xs.length:=by omega
  refine .inl #[#[xs,d,.au],hd σ H (e ▸ p)]
end bj
namespace DY
open PySem PyProof.Rows
section
variable {prog:Program} {w:World} {A:Around} {R:Result->Shared->Prop} {I:Addr} {aF wr:List Addr} {n:Nat} {P:Nat->Value->Prop} {St:Nat->Heap->Prop}
theorem more (W:Walks prog w A.in1 I aF wr n P St) (f) (N:CmpOf prog w A.in1 .Lt P f) (S) (D:S∉aF) (kw) :
  ∀ k j s a c,n-(j+1)=k->j+1<=n->St (j+1) s.heap->P (argBest f j) a ->
  s.heap.get? S=some { cls:=.type "list", dict:=.n,data:=.seq [a,a].toArray c,slots:=#[] } ->
  (∀ v h' a8,P (argBest f (n-1)) v->(∀ b o,b∉wr->b≠S->s.heap.get? b=some o->h'.get? b=some o)->R (.ok (.ret v)) { s with heap:=h',toks:=a8 }) ->
  codeAny (model prog w) A (.builtin "min.loop" ⟨[.ref I,.none,.ref S],kw⟩) R s:=by
 have E:S∉wr:=λ h=>D (W.sub _ h)
 have H:(toString "min" ++ toString ".loop") = "min.loop" := by decide
 intro k
 induction k with
 | zero =>
  intro j s a c Q O y p l q;have fY:j+1=n:=by omega
  refine nR wh ?_;rw [qU mw _];refine ax (fO l Y ?_);refine ax (qV (W.done s _ _ (fY ▸ y) λ h' a8 i=>?_));have m:=i S _ E l;refine ax ?_;refine wg m rfl (ax (la (a_ ?_)));refine q a _ a8 (by rw [<-fY];exact p) λ b o d g e=>(er _ _ (dz g)).trans (i b o d e)
 | succ k L =>
  intro j s a c Q O y p l q;have x:j+1<n:=by omega
  refine nR wh ?_;rw [qU mw _];refine ax (fO l Y ?_);refine ax (qV (W.item (j+1) s _ _ x y λ v h' a8 C aC i=>?_));have m:=i S _ E l;show wpAny _ A.in1 (tryCatch (holding [v,v] (richCompare .Lt v a>>=_)) _>>=_) _ _ _;refine ax (qV (eV (ax (N (j+1) (argBest f j) v a _ _ _ C p ?_))));refine ax (eV (mi ?_));refine ax (la (a_ ?_));cases G:f (j+1) (argBest f j) with
  | true =>
   refine ax ?_;refine wg m rfl (ax (la ?_));rw [H];refine a_ #[pJ mw _,L (j+1) _ v _ .au x (W.frame _ _ _ aC λ b M o e=>?_) (by simp only [argBest,G,if_true];exact C) (hN _ m Y)
    λ B r z t u=>?_]
   ·exact (er _ _ (λ h=>D (by rw [h];exact M))).trans e
   ·exact q B r z t λ b o d g e=>u b o d g ((er _ _ (dz g)).trans (i b o d e))
  | false =>
   refine ax (la ?_);rw [H];refine a_ #[pJ mw _,L (j+1) _ a c .au x aC (by simp only [argBest,G,Bool.false_eq_true,if_false];exact p) m λ B r z t u=>?_];exact q B r z t λ b o d g e=>u b o d g (i b o d e)
theorem first (W:Walks prog w A.in1 I aF wr n P St) (a) (u:CmpOf prog w A.in1 .Lt P a) (S) (d:S∉aF) (kw) (ao:0<n) (z:St 0 s.heap)
  (f:s.heap.get? S=some { cls:=.type "list", dict:=.n,data:=.seq #[] c,slots:=#[] })
  (q:∀ v h' a8,P (argBest a (n-1)) v->(∀ b o,b∉wr->b≠S->s.heap.get? b=some o->h'.get? b=some o)->R (.ok (.ret v)) { s with heap:=h',toks:=a8 }) :
  codeAny (model prog w) A (.builtin "min.loop" ⟨[.ref I,.none,.ref S],kw⟩) R s:=by
 have r:S∉wr:=λ h=>d (W.sub _ h)
 have y:(toString "min" ++ toString ".loop") = "min.loop" := by decide
 refine nR wh ?_;rw [qU mw _];refine ax (fO f Y ?_);refine ax (qV (W.item 0 s _ _ ao z λ v h' a8 m B k=>?_));have g:=k S _ r f;show wpAny _ A.in1 (updateSeq S (λ Z=>[v,v].toArray)>>=_) _ _ _;refine ax ?_;refine wg g rfl ?_;rw [y];refine a_ #[pJ mw _,more W a u S d kw _ 0 _ v _ Y ao (W.frame _ _ _ B λ b t o e=>?_) m (hN _ g Y) λ D l C p x=>?_]
 ·exact (er _ _ (λ h=>d (by rw [h];exact t))).trans e
 ·exact q D l C p λ b o j i e=>x b o j i ((er _ _ (dz i)).trans (k b o j e))
theorem empty (W:Walks prog w A.in1 I aF wr n P St) (S) (g:S∉aF) (d) (ao:n=0) (k:St 0 s.heap)
  (f:s.heap.get? S=some { cls:=.type "list", dict:=.n,data:=.seq #[] c,slots:=#[] })
  (a:∀ h' a8,(∀ b o,b∉wr->b≠S->s.heap.get? b=some o->h'.get? b=some o)->R (.ok (.ret d)) { s with heap:=h',toks:=a8 }) :
  codeAny (model prog w) A (.builtin "min.loop" ⟨[.ref I,.none,.ref S],[("default", d)]⟩) R s:=by
 have l:S∉wr:=λ h=>g (W.sub _ h)
 subst ao;refine nR wh ?_;rw [qU mw _];refine ax (fO f Y ?_);refine ax (qV (W.done s _ _ k λ h' a8 j=>?_));refine ax (ny (a_ ?_));exact a h' a8 λ b o i m e=>j b o i e
end
section
variable {prog:Program} {w:World} {A:Around} {E:c0} {s:Shared}
theorem RI {id:String} {b:Builtin} {args:List Value} {kw:List (Str×Value)} {Q:c0} (d:builtinKind id=.n) (ah:plainId id=.t)
  (c:entryFor table id=some b) (ak:argsOk id ⟨args,kw⟩)
  (af:wpAny (model prog w) A.in1 (b ⟨args,kw⟩) (λ fin s'=>match fin with
   | .done f=>(match (Except.ok f:Result) with| .ok (.ret v)=>Q v s'| .ok _=>False| .error e=>E e s')
   | .again a=>a.quiet=.t/\codeAny (model prog w) A a (λ r s'=>match r with| .ok (.ret v)=>Q v s'| .ok _=>False| .error e=>E e s') s') E s) :
  wpAny (model prog w) A (call (.builtin id) args kw) Q E s:=by
 refine j1 (tP ah c ?_);simp only [checkBuiltinCall,d];cases g:Manifest.signature? id with
 | none=>exact a_ af
 | some sig =>
  simp only [argsOk,g] at ak;have aa:=ak;exact wpAny_of_eq aa af
theorem Wv (a d):argsOk "min" ⟨[a],[("default", d)]⟩:=by kernel_rfl
theorem TA (d):Builtin.Builtins.bindParams "min" ["key", "default"] 0 ⟨[],[("default", d)]⟩=pure [.n,some d]:=by kernel_rfl
theorem HT
  (h:wpAny (model prog w) A.in1 (pyIter x) (λ it s₂=>∃ I aF wr n P St a,it=.ref I/\Walks prog w A.in1 I aF wr n P St/\St 0 s₂.heap/\(∀ b∈aF,b<s₂.heap.objs.size)/\CmpOf prog w A.in1 .Lt P a /\
   (0<n->∀ v h' a8,P (argBest a (n-1)) v->(∀ b o,b∉wr->s₂.heap.get? b=some o->h'.get? b=some o)->Q v { s₂ with heap:=h',toks:=a8 }) /\
   (n=0->∀ h' a8,(∀ b o,b∉wr->s₂.heap.get? b=some o->h'.get? b=some o)->Q d { s₂ with heap:=h',toks:=a8 })) E s) :
  wpAny (model prog w) A (call (.builtin "min") [x] [("default", d)]) Q E s:=by
 have q:(toString "min" ++ toString ".loop") = "min.loop" := by decide
 refine RI F.kind_min F.plain_min F.entry_min (Wv _ _) ?_;refine ax (wpAny_of_eq (TA d) ?_);refine ax (a_ ?_);refine ax (d_ h (λ it s₂ h₂=>?_) λ Z Z e=>e);obtain ⟨I,aF,wr,n,P,St,a,rfl,W,i,p,m,k,l⟩:=h₂;refine ax (l_ ?_);have g:s₂.heap.objs.size∉aF:=λ hm=>ei _ (p _ hm)
 rw [q];by_cases ao:0<n
 ·refine a_ #[pJ mw _,first W a m s₂.heap.objs.size g _ ao (W.frame _ _ _ i λ b Z o e=>a9 _ e) (cJ _ Y) λ v h' a8 j f=>?_];exact k ao v h' a8 j λ b o c e=>f b o c (cc (bu e)) (a9 _ e)
 ·refine a_ #[pJ mw _,empty W s₂.heap.objs.size g d .au (W.frame _ _ _ i λ b Z o e=>a9 _ e) (cJ _ Y) λ h' a8 f=>?_];exact l .au h' a8 λ b o c e=>f b o c (cc (bu e)) (a9 _ e)
theorem min_list (k:eP.In A s.heap) (n:s.heap.IsList l (intItems xs))
  (h:0<xs.size->∀ v h' a8,(intItems xs)[argBest (λ i j=>decide (numAt xs i<numAt xs j)) (xs.size-1)]?=some v->(∀ b o,s.heap.get? b=some o->h'.get? b=some o)->Q v { s with heap:=h',toks:=a8 })
  (h0:xs.size=0->∀ h' a8,(∀ b o,s.heap.get? b=some o->h'.get? b=some o)->Q d { s with heap:=h',toks:=a8 }) :
  wpAny (model prog w) A (call (.builtin "min") [.ref l] [("default", d)]) Q E s:=by
 rcases k with k|⟨x,lK,vs,U,aa,p,q⟩
 rotate_left
 ·have lt:=bu aa;refine HT (iter_intList n λ s₂ e st f m=>?_);subst e;refine #[_,_,_,_,_,_,_,Y,eP.Wq (A:=A.in1) U p q _ l m (cc lt) (intItems xs),#[st.1,st.2,a9 _ aa],λ b a=>?_,CmpOf.ints_lt (numAt xs) (λ Z Z=>nB),λ ao v h' a8 g c=>?_,λ ao h' a8 c=>?_]
  ·simp only [bt,da,dc] at a;rcases a with a|a|a
   ·exact f b (by rw [a];exact dn ..)
   ·exact f b (by rw [a];exact de _ (dn ..))
   ·rw [a];rw [eF];exact mh lt
  ·exact h (by simpa [intItems] using ao) v h' a8 (by simpa [intItems] using g) (old_kept c)
  ·exact h0 (by simpa [intItems] using ao) h' a8 (old_kept c)
 refine HT (iter_intList n λ s₂ e st f m=>?_);subst e;refine #[_,_,_,_,_,_,_,Y,Walks.list (A:=A.in1) k _ l m (intItems xs),st,f,CmpOf.ints_lt (numAt xs) (λ Z Z=>nB),λ ao v h' a8 g c=>?_,λ ao h' a8 c=>?_]
 ·exact h (by simpa [intItems] using ao) v h' a8 (by simpa [intItems] using g) (old_kept c)
 ·exact h0 (by simpa [intItems] using ao) h' a8 (old_kept c)
end
end DY
namespace bj
open PySem PySem.Spec PyProof.Rows
section
variable {X:aW}
def Qn (K:aP) (aN:c2):TE:=λ σ H Q=>aN σ H λ xs H1=>∃ (p:Addr) (ns:bB),xs=[.ref p]/\aS K H1 p (ns.map V.int)/\(ns=[]->Q .aQ H1)/\∀ M,M∈ns->(∀ a,a∈ns->M<=a)->Q (.int M) H1
theorem Gb {j} (af:X.warm=.t) (q:cy X "min") (hm:X.mg "min" = .n) (n:bootBuiltins "min" = some (.builtin "min")) (ak:dG X [e] aN) (U:starEach [e] X.env=[(.f,eval e X.env)]:=by rfl) :
  aZ X (.Call (.Name "min" p) [e] [#[some "default", .Constant .none j N,M]] pos) (Qn X.K aN):=#[by
 intro pins s σ H Q I h;refine j3 (mn I q hm n ?_ .aB .aB);have k:backTo pos (starEach [e] X.env)=(.f,eval e X.env)::backTo pos (starEach [] X.env):=by rw [U];rfl
 refine callWith_kw ?_ k (by rw [U];rfl) Y rfl;refine aU (ak.o pos pins s σ H _ I h) ?_;rintro us s1 ⟨vs,H1,i,D,A⟩
 obtain ⟨l,ns,rfl,w,z,B⟩:=A;obtain ⟨u,rfl,G⟩:=vals1 D;cases G;refine kws_cons (aU (Fn pins s1 σ H1 (λ x aq=>x=.aQ/\aq=H1) i #[Y,Y]) ?_);rintro v s2 ⟨x,aq,b,E,ex,m⟩;refine kws_nil ?_;subst ex;subst m;cases E;obtain ⟨L,C,y,aC⟩:=b.list w;have f:=y.isList;have ar:=intsAre_of C;obtain ⟨xs,e⟩:=ar.allInts.items;have d:ns=xs.toList.map (·.1):=by rw [<-ar.numsOf,<-nums_intItems,<-e]
 rw [e] at f;refine DY.min_list (b.fY af) f (λ g v h' a8 aI c=>?_) (λ g h' a8 c=>?_)
 ·obtain ⟨t,rfl⟩:=nB aI;obtain ⟨U,aa⟩:=argBest_lt (numAt xs) (xs.size-1);refine #[.int _,_,b.kept c,#[_,Y],B _ ?_ λ a ak=>?_]
  ·rw [d,numAt_eq];exact getD_mem (by rw [bz,e6];omega)
  ·rw [d] at ak;obtain ⟨j,r,rfl⟩:=mem_getD ak;rw [bz,e6] at r;rw [<-numAt_eq];exact aa j .au
 ·refine #[.aQ,_,b.kept c,Y,z ?_];rw [d];have:=FG (by rw [e6];exact g);rw [this];rfl]
end
end bj
namespace bV
open PySem bj ck
noncomputable def qB (t:Int->Int->Bool) (f:Int->Int->Int) (xs ys:bB):bB:=((xs.zip ys).filter λ p=>t p.1 p.2).map λ p=>f p.1 p.2
theorem WH {t:Int->Int->Bool} {f:Int->Int->Int} {l:cN} (h:l[i]?=some p):((l.take (i+1)).filter λ p=>t p.1 p.2).map (λ p=>f p.1 p.2)=((l.take i).filter λ p=>t p.1 p.2).map (λ p=>f p.1 p.2)++(if t p.1 p.2=.t then [f p.1 p.2] else []):=by
 rw [iS,h];congr 1;by_cases z:t p.1 p.2=.t
 ·simp [z]
 ·simp [z]
theorem I_ (ao:min xs.length ys.length<=sizeLine) (ah:∃ u v,pick js σ=u::v::σ0) (r:H1 D=.n)
  (ak:H1 a=some (tupI xs)) (h:H1 b=some (tupI ys))
  (aG:∀ x y H' R,x∈xs->y∈ys->R (t x y) H'->cg (some (.int x)::some (.int y)::σ0) H' R)
  (av:∀ x y H' R,x∈xs->y∈ys->t x y=.t->R (.int (f x y)) H'->bg (some (.int x)::some (.int y)::σ0) H' R)
  (q:∀ H',ay H1 H'->H' D=some (.lst ((qB t f xs ys).map V.int))->Q (.ref D) H'):hL (oC K a b) D js (o6 K 2 (md (e4 0) (md (e4 1) ta))) cg bg σ H1 Q:=by
 obtain ⟨E,v0,ah⟩:=ah;have C:(xs.zip ys).length=min xs.length ys.length:=List.length_zip;refine AV ao (λ i σ' H' zs=>(∃ u v,σ'=u::v::σ0)/\ay H1 H'/\H' D=some (.lst zs)/\zs.length<=i/\zs=((((xs.zip ys).take i).filter λ p=>t p.1 p.2).map λ p=>f p.1 p.2).map V.int) #[#[E,v0,ah],ay.new r,bN,bx _,Y] (λ i σ' H' zs _ ⟨_,_,d,n,_⟩=>#[d,n]) (λ i σ' H' zs ar ⟨_,s',_⟩=>?_) (λ σ' H' zs ⟨_,s',d,_,e⟩=>#[?_,?_]) ?_
 ·refine #[_,_,.int xs[i],.int ys[i],aX.of (s' _ _ ak),aX.of (s' _ _ h),?_,?_]
  ·rw [et,cK .au];rfl
  ·rw [et,cK .au];rfl
 ·exact #[_,_,aX.of (s' _ _ ak),aX.of (s' _ _ h),by rw [bz,bz];omega]
 ·refine q H' s' ?_;rw [d,e,<-C,ju];rfl
 ·rintro i σ' H' zs v aq ar ⟨⟨u,v,rfl⟩,s',d,n,e⟩ ⟨p,s,rfl,x,y,rfl,z⟩;obtain ⟨ae,A⟩:=z _ _ (aX.of (s' _ _ ak)) (aX.of (s' _ _ h));obtain ⟨x,rfl,k⟩:=jE ae;obtain ⟨y,rfl,l⟩:=jE A;have B:(xs.zip ys)[i]?=some (x,y):=by rw [nQ];exact #[k,l]
  have w:=WH (t:=t) (f:=f) B;refine #[p,_,Y,aX.of bN,Y,_,_,Y,_,_,Y,Y,?_];have g:(upd H' p (.tup [.int x,.int y])) D=some (.lst zs):=by rw [bC (cq d s)];exact d
  have s2:ay H1 (upd H' p (.tup [.int x,.int y])):=ay.more s' s;refine aG x y _ _ (b5 k) (b5 l) ?_;cases j:t x y with
  | true =>
   refine av x y _ _ (b5 k) (b5 l) j #[g,#[_,_,Y],?_,bN,?_,?_]
   ·intro c o m;rw [bC (cq m r)];exact s2 c o m
   ·rw [c9];show zs.length+1<=i+1;omega
   ·rw [w,e];simp [j]
  | false =>
   refine #[g,#[_,_,Y],s2,g,.au,?_];rw [w,e];simp [j]
theorem XB (ao:xs.length<=sizeLine) (ah:∃ u,pick js σ=u::σ0) (j:H1 D=.n)
  (ak:H1 a=some (.lst xs))
  (aG:∀ x H' R,ay H1 H'->x∈xs->R (t x) H'->cg (some x::σ0) H' R)
  (av:∀ x H' R,ay H1 H'->x∈xs->t x=.t->R x H'->bg (some x::σ0) H' R)
  (q:∀ H',ay H1 H'->H' D=some (.lst (xs.filter t))->Q (.ref D) H'):hL (m1 K a) D js (e4 0) cg bg σ H1 Q:=by
 obtain ⟨l,ah⟩:=ah;refine AV ao (λ i σ' H' zs=>(∃ u,σ'=u::σ0)/\ay H1 H'/\H' D=some (.lst zs)/\zs.length<=i/\zs=(xs.take i).filter t) #[#[l,ah],ay.new j,bN,bx _,Y] (λ i σ' H' zs _ ⟨_,_,b,h,_⟩=>#[b,h]) (λ i σ' H' zs ar ⟨_,s',_⟩=>#[_,xs[i],aS.of (s' _ _ ak),cK ar]) (λ σ' H' zs ⟨_,s',b,_,e⟩=>#[#[_,aS.of (s' _ _ ak),bx _],?_]) ?_
 ·refine q H' s' ?_;rw [b,e,ju]
 ·rintro i σ' H' zs x aq ar ⟨⟨u,rfl⟩,s',b,h,e⟩ ⟨rfl,ae⟩;have f:=ae _ (aS.of (s' _ _ ak));have k:(xs.take (i+1)).filter t=(xs.take i).filter t++(if t x=.t then [x] else []):=by
   rw [iS,f];congr 1;by_cases z:t x=.t
   ·simp [z]
   ·simp [z]
  refine aG x _ _ s' (b5 f) ?_;cases d:t x with
  | true =>
   refine av x _ _ s' (b5 f) d #[b,#[_,Y],?_,bN,?_,?_]
   ·intro c o g;rw [bC (cq g j)];exact s' c o g
   ·rw [c9];show zs.length+1<=i+1;omega
   ·rw [k,e];simp [d]
  | false =>
   refine #[b,#[_,Y],s',b,.au,?_];rw [k,e];simp [d]
end bV
namespace ck
theorem E_ (ah:2<=p) (ao:1<=n) (b:n<=1000000000000):cnt p n<40:=by
 have e:=AU ah n ao;have U:p ^ cnt p n<=n:=by
  have av:=ui ah n ao
  calc p ^ cnt p n<=p ^ cnt p n*strip p n:=Nat.le_mul_of_pos_right _ av
   _=n:=e.symm
 have aa:2 ^ cnt p n<=p ^ cnt p n:=Nat.pow_le_pow_left ah _;have a:2 ^ cnt p n<2 ^ 40:=by
  have:1000000000000<2 ^ 40:=by decide
  omega
 exact (Nat.pow_lt_pow_iff_right .aB).mp a
def uF (rows:d7):Prop:=∀ c∈rows,∀ x∈c,-40<x/\x<40
theorem Qu (ar:1<=i) (f:1<=j) (bi:i<=1000000000000) (d:j<=1000000000000) (h:x∈chg i j) : -40<x/\x<40:=by
 obtain ⟨k,c⟩:=hR h;unfold chg at c;rw [tR] at c;obtain ⟨a,b,ak,e,rfl⟩:=c;have hm:=b5 ak;have g:=b5 e;obtain ⟨p,ah,rfl⟩:=cW.mp hm;obtain ⟨p',l,rfl⟩:=cW.mp g;have:=E_ (jq p ah) ar bi;have:=E_ (jq p' l) f d;omega
theorem R2 {i:Nat} (h:(bX p c t)[i]?=some v):∃ x y,p[i]?=some x/\c[i]?=some y/\v=x+t*y:=by
 unfold bX at h;rw [tR] at h;obtain ⟨x,y,ae,a,rfl⟩:=h;exact #[x,y,ae,a,Y]
theorem QH {i:Nat} (ae:p[i]?=some x) (a:c[i]?=some y):(bX p c t)[i]?=some (x+t*y):=by
 unfold bX;rw [tR];exact #[x,y,ae,a,Y]
theorem wW:d0 a (bX p c t)=.t ↔ ∀ (i:Nat) x y z,p[i]?=some x->c[i]?=some y->a[i]?=some z->0<=x+t*y+z:=by
 rw [w2];constructor
 ·intro h i x y z ae b d;exact h i z _ d (QH ae b)
 ·intro h i z v d aI;obtain ⟨x,y,ae,b,rfl⟩:=R2 aI;exact h i x y z ae b d
theorem XD (h:d0 a (bX p c t)=.f):∃ (i:Nat) (x y z:Int),p[i]?=some x/\c[i]?=some y/\a[i]?=some z/\x+t*y+z<0:=by
 by_cases z:∃ (i:Nat) (x y z:Int),p[i]?=some x/\c[i]?=some y/\a[i]?=some z/\x+t*y+z<0
 ·exact z
 ·exfalso;have:=wW.mpr λ i x y w ae b hw=>by
   by_cases q:0<=x+t*y+w
   ·exact q
   ·exact absurd #[i,x,y,w,ae,b,hw,.au] z
  rw [h] at this;cases this
theorem xg {i:Nat} (ae:p[i]?=some x) (b:c[i]?=some y) (d:a[i]?=some z) (h:x+t*y+z<0):d0 a (bX p c t)=.f:=by
 rw [lh];intro w;have:=wW.mp w i x y z ae b d;omega
def ti (p c:bB):Option Nat->Prop
 | none=>∀ t:Nat,d0 c (bX p c t)=.t
 | some m=>(∀ t:Nat,t<m->d0 c (bX p c t)=.t)/\d0 c (bX p c m)=.f/\∃ x∈p,(m:Int)<=x
def o1 (p c a:bB):Option Nat->Prop
 | none=>∀ t:Nat,d0 a (bX p c t)=.f
 | some m=>(∀ t:Nat,t<m->d0 a (bX p c t)=.f)/\d0 a (bX p c m)=.t/\m<=1000
theorem Bl:M∈bV.qB t f xs ys ↔ ∃ (i:Nat) (x y:Int),xs[i]?=some x/\ys[i]?=some y/\t x y=.t/\M=f x y:=by
 unfold bV.qB;rw [cW];constructor
 ·rintro ⟨⟨x,y⟩,h,rfl⟩;obtain ⟨U,aa⟩:=hO.mp h;obtain ⟨i,ar⟩:=hR U;rw [nQ] at ar;exact #[i,x,y,ar.1,ar.2,aa,Y]
 ·rintro ⟨i,x,y,U,aa,a,rfl⟩;refine #[(x,y),hO.mpr #[?_,a],Y];exact b5 (by rw [nQ];exact #[U,aa])
noncomputable abbrev tn (p c:bB):bB:=bV.qB (λ Z y=>decide (y<0)) (λ x y=>x/(-y)) p c
theorem VP (ao:nn p=.t) (h:tn p c=[]):ti p c .n:=λ t=>wW.mpr λ i x y z ae a b=>by
 rw [a] at b;cases b;have x0:=jo.mp ao x (b5 ae);by_cases d:y<0
 ·have:x/(-y)∈tn p c:=Bl.mpr #[i,x,y,ae,a,bc d,Y];rw [h] at this;cases this
 ·have:=tS (nS t) (show 0<=y by omega);omega
theorem VQ (ao:nn p=.t) (h:M∈tn p c) (hm:∀ a∈tn p c,M<=a):0<=M/\ti p c (some M.toNat):=by
 obtain ⟨i,x,y,ae,l,aG,rfl⟩:=Bl.mp h;have s:=cD aG;have x0:=jo.mp ao x (b5 ae);have f:0<=x/(-y):=Int.ediv_nonneg x0 .au;refine #[f,λ t q=>wW.mpr λ j d b z k m n=>?_,?_,x,b5 ae,?_]
 ·rw [m] at n;cases n;have r:=jo.mp ao d (b5 k);by_cases o:b<0
  ·have U:=hm (d/(-b)) (Bl.mpr #[j,d,b,k,m,bc o,Y]);have aa:(t+1)<=d/(-b):=by omega
   have g:=(Int.le_ediv_iff_mul_le (show 0 < -b by omega)).mp aa;rw [Int.mul_neg,Int.add_mul,Int.one_mul] at g;omega
  ·have:=tS (nS t) (show 0<=b by omega);omega
 ·refine xg ae l l ?_;have g:¬ (x/(-y)+1)<=x/(-y):=by omega
  rw [Int.le_ediv_iff_mul_le (show 0 < -y by omega),Int.mul_neg,Int.add_mul,Int.one_mul] at g;have e:=iR f;rw [e];omega
 ·rw [iR f];exact Int.ediv_le_self _ x0
def gi (p c a:bB) (i:Nat) (m:Int):Prop:=0<=m/\m<=1000/\(∀ j,j<i->∀ x y z,p[j]?=some x->c[j]?=some y->a[j]?=some z->0 < -z-x->0<y /\ -z-x<=m*y)/\(m=0\/∃ (j:Nat) (x y z:Int),p[j]?=some x/\c[j]?=some y/\a[j]?=some z/\0<y/\(m-1)*y < -z-x)
theorem gi.start:gi p c a 0 0:=#[tT _,.aB,λ j h=>absurd h .au,.inl Y]
theorem gi.skip {y:Int} (h:gi p c a i m) (ae:p[i]?=some x) (o:a[i]?=some z) (l:¬ 0 < -z-x):gi p c a (i+1) m:=by
 obtain ⟨U,aa,g,k⟩:=h;refine #[U,aa,λ j t q r s b n d f=>?_,k];by_cases e:j=i
 ·subst e;rw [ae] at b;rw [o] at d;cases b;cases d;exact absurd f l
 ·exact g j .au q r s b n d f
theorem gi.never {i:Nat} (ae:p[i]?=some x) (b:c[i]?=some y) (d:a[i]?=some z) (e:0 < -z-x) (f:y<=0):o1 p c a .n:=λ t=>xg ae b d (by
 have:=tS (nS t) (show 0 <= -y by omega);rw [Int.mul_neg] at this;omega)
theorem RJ {y:Int} (b:0<l) (a:0<y):l<=(l+y-1)/y*y/\((l+y-1)/y-1)*y<l/\(l+y-1)/y<=l/\0<=(l+y-1)/y:=by
 have U:=Int.lt_ediv_add_one_mul_self (l+y-1) a;have aa:=Int.ediv_mul_le (l+y-1) (show y≠0 by omega);rw [Int.add_mul,Int.one_mul] at U;refine #[.au,by rw [Int.sub_mul,Int.one_mul];omega,?_,Int.ediv_nonneg .au .au];refine Int.ediv_le_of_le_mul a ?_;have:=tS (show 0<=l-1 by omega) (show 0<=y-1 by omega);rw [Int.sub_mul,Int.mul_sub,Int.one_mul,Int.mul_one] at this;omega
theorem gi.more (h:gi p c a i m) (ae:p[i]?=some x) (n:c[i]?=some y) (o:a[i]?=some z) (C:0 < -z-x) (g : -z-x<=1000) (k:0<y):gi p c a (i+1) (if (-z-x+y-1)/y>m then (-z-x+y-1)/y else m):=by
 obtain ⟨U,aa,s,A⟩:=h;obtain ⟨u,v,D,w⟩:=RJ C k;by_cases t:(-z-x+y-1)/y>m
 ·rw [if_pos t];refine #[w,.au,λ j B q l r b d f g=>?_,.inr #[i,x,y,z,ae,n,o,k,v]];by_cases e:j=i
  ·subst e;rw [ae] at b;rw [n] at d;rw [o] at f;cases b;cases d;cases f;exact #[k,u]
  ·obtain ⟨k1,k2⟩:=s j .au q l r b d f g;have:=wi (show m<=(-z-x+y-1)/y by omega) (show 0<=l by omega);exact #[k1,.au]
 ·rw [if_neg t];refine #[U,aa,λ j B q l r b d f g=>?_,A];by_cases e:j=i
  ·subst e;rw [ae] at b;rw [n] at d;rw [o] at f;cases b;cases d;cases f;have:=wi (show (-z-x+y-1)/y<=m by omega) (show 0<=y by omega);exact #[k,.au]
  ·exact s j .au q l r b d f g
theorem gi.less (h:gi p c a i m) {t:Nat} (aG:(t:Int)<m):d0 a (bX p c t)=.f:=by
 obtain ⟨U,aa,f,b⟩:=h;rcases b with z|⟨j,x,y,z,ae,d,e,g,hm⟩
 ·omega
 ·refine xg ae d e ?_;have:=wi (show t<=m-1 by omega) (show 0<=y by omega);omega
theorem gi.yes (h:gi p c a i m) (hf:d0 a (bX p c m)=.t):o1 p c a (some m.toNat):=by
 have U:=h.1;have aa:=h.2.1;refine #[λ t aG=>h.less .au,by rw [iR U];exact hf,.au]
theorem gi.no (ah:p.length=10) (h:gi p c a 10 m) (hf:d0 a (bX p c m)=.f):o1 p c a .n:=λ t=>by
 by_cases aG:t<m
 ·exact h.less aG
 ·obtain ⟨i,x,y,z,ae,b,d,j⟩:=XD hf;obtain ⟨U,aa,e,g⟩:=h;refine xg ae b d ?_;have ar:i<10:=by
   have:=(dr.mp ae).1;omega
  by_cases f:0 < -z-x
  ·obtain ⟨k1,k2⟩:=e i ar x y z ae b d f;omega
  ·have k:y<0:=by
    by_cases q:y<0
    ·exact q
    ·have:=tS U (show 0<=y by omega);omega
   have:=wi (show m<=t by omega) (show 0 <= -y by omega);rw [Int.mul_neg,Int.mul_neg] at this;omega
def kE (rows:d7) (p c:bB) (k:Nat):Option Nat->Prop
 | none=>∀ t:Nat,cO rows (bX p c t)=some k
 | some T=>(∀ t:Nat,t<T->cO rows (bX p c t)=some k)/\cO rows (bX p c T)≠some k
theorem IH:∀ {rows:d7} {p:bB} {i:Nat},cO rows p=some i->∀ j,j<i->∀ a,rows[j]?=some a->d0 a p=.f
 | [],_,_,h=>by cases h
 | c::r,p,i,h=>by
  unfold cO at h;by_cases af:d0 c p=.t
  ·rw [if_pos af] at h;cases h;intro j b;omega
  ·rw [if_neg af] at h;cases e:cO r p with
   | none=>rw [e] at h;cases h
   | some d =>
    rw [e] at h;have ar:d+1=i:=cE h;subst ar;intro j b a ak;cases j with
    | zero=>cases ak;exact lh.mpr af
    | succ j=>exact IH e j .au a (by simpa using ak)
theorem wF (b:rows[k]?=some c):cO rows q=some k ↔ d0 c q=.t/\∀ j,j<k->∀ a,rows[j]?=some a->d0 a q=.f:=by
 constructor
 ·intro h;obtain ⟨d,U,aa,_⟩:=q6 h;rw [b] at U;cases U;exact #[aa,IH h]
 ·rintro ⟨U,aa⟩;exact As rows q k aa (λ d e=>by rw [b] at e;cases e;exact U) (dr.mp b).1
theorem S8 (e:rows[k]?=some c) (L:ti p c o) (F:∀ j,j<k->∀ a,rows[j]?=some a->∃ q,os[j]?=some q/\o1 p c a q) (h:(o::os).filterMap id=[]):kE rows p c k .n:=λ t=>by
 have no:∀ q∈o::os,q=.n:=λ q b=>by
  cases q with
  | none=>rfl
  | some T =>
   have:T∈(o::os).filterMap id:=nF.mpr #[some T,b,Y];rw [h] at this;cases this
 refine (wF e).mpr #[?_,λ j d a ak=>?_]
 ·have:=no o dn;subst this;exact L t
 ·obtain ⟨q,b,f⟩:=F j d a ak;have:=no q (de _ (b5 b));subst this;exact f t
theorem S9 (g:rows[k]?=some c) (aA:os.length=k) (L:ti p c o) (F:∀ j,j<k->∀ a,rows[j]?=some a->∃ q,os[j]?=some q/\o1 p c a q) (h:T∈(o::os).filterMap id) (hm:∀ a∈(o::os).filterMap id,T<=a):kE rows p c k (some T)/\((∃ x∈p,(T:Int)<=x)\/T<=1000):=by
 have at_:∀ q b,q∈o::os->q=some b->T<=b:=λ q b l e=>hm b (nF.mpr #[q,l,by rw [e];rfl])
 obtain ⟨q,l,e⟩:=nF.mp h;have eq:=e;subst eq;have r:=(dr.mp g).1;have first:∀ t,t<T->cO rows (bX p c t)=some k:=λ t aG=>by
  refine (wF g).mpr #[?_,λ j d a ak=>?_]
  ·cases o with
   | none=>exact L t
   | some m=>exact L.1 t (by have:=at_ _ m dn rfl;omega)
  ·obtain ⟨aR,i,f⟩:=F j d a ak;cases aR with
   | none=>exact f t
   | some m=>exact f.1 t (by have:=at_ _ m (de _ (b5 i)) rfl;omega)
 rcases bt.mp l with z|z
 ·subst z;exact #[#[first,λ y=>by have:=((wF g).mp y).1;rw [L.2.1] at this;cases this],.inl L.2.2]
 ·obtain ⟨j,d⟩:=hR z;have n:j<k:=by
   have:=(dr.mp d).1;omega
  obtain ⟨aR,i,f⟩:=F j n _ (cK .au);rw [d] at i;cases i;exact #[#[first,λ y=>by have:=((wF g).mp y).2 j n _ (cK .au);rw [f.2.1] at this;cases this],.inr f.2.2]
theorem R0 (s t) (ah:p.length=10) (af:c.length=10):bX (bX p c s) c t=bX p c (s+t):=by
 refine qR (by simp [bX,ah,af]) λ i U aa=>?_
 simp only [bX,List.getElem_zipWith];rw [Int.add_mul];omega
theorem G3 (ah:p.length=10) (af:c.length=10):bX p c 0=p:=by
 refine qR (by simp [bX,ah,af]) λ i U aa=>?_
 simp only [bX,List.getElem_zipWith];omega
theorem FY (rows) (a) (p):∀ b,goN rows (a+b) p=(goN rows a p).bind (goN rows b)
 | 0=>by
  cases goN rows a p<;>rfl
 | b+1=>by
  show (goN rows (a+b) p).bind (jU rows)=(goN rows a p).bind λ q=>(goN rows b q).bind (jU rows)
  rw [FY rows a p b];cases goN rows a p<;>rfl
theorem Ff (a:rows[k]?=some c) (ah:p.length=10) (af:c.length=10):∀ s,(∀ t:Nat,t<s->cO rows (bX p c t)=some k)->goN rows s p=some (bX p c s)
 | 0,_=>by
  show some p=_;rw [show ((0:Nat):Int)=0 from rfl,G3 ah af]
 | s+1,h=>by
  show (goN rows s p).bind (jU rows)=_;rw [Ff a ah af s λ t aG=>h t .au];show jU rows (bX p c s)=_;rw [zX (h s .au) a,R0 _ _ ah af];rfl
theorem TS (h:goN rows a p=some q) (b:rows[k]?=some c) (ah:q.length=10) (af:c.length=10) (av:∀ t:Nat,t<s->cO rows (bX q c t)=some k):goN rows (a+s) p=some (bX q c s):=by
 rw [FY,h];exact Ff b ah af s av
theorem Gq (U:kE rows p c k (some T)) (aa:kE rows p c k x):x=some T:=by
 cases x with
 | none=>exact absurd (aa T) U.2
 | some a =>
  congr 1;rcases Nat.lt_trichotomy T a with q|q|q
  ·exact absurd (aa.1 T q) U.2
  ·exact q.symm
  ·exact absurd (U.1 a q) aa.2
end ck
namespace bj
open PySem PySem.Spec PyProof.Rows
theorem Bd (ao:n<=sizeLine) (Pv:Nat->St->aD->bh->Prop) (h0:Pv 0 (pick js σ) (upd H1 D (.lst [])) [])
  (ah:∀ i σ' H' ys,i<=n->Pv i σ' H' ys->H' D=some (.lst ys)/\ys.length<=i) (d:∀ i σ' H' ys,i<n->Pv i σ' H' ys->aC.go i H') (e:∀ σ' H' ys,Pv n σ' H' ys->aC.stop n H'/\Q (.ref D) H')
  (av:∀ i σ' H' ys x aq,i<n->Pv i σ' H' ys->aC.ic i H' x aq->g x σ' aq λ σ2 c=>cg σ2 c λ k a=>
   if k=.t then bg σ2 a λ y b=>b D=some (.lst ys)/\Pv (i+1) σ2 (upd b D (.lst (ys++[y]))) (ys++[y]) else a D=some (.lst ys)/\Pv (i+1) σ2 a ys):hL aC D js g cg bg σ H1 Q:=AV ao Pv h0 ah d e av
theorem Vy {K:aP} (ao:min xs.length ys.length<=sizeLine) (Pv:Nat->St->aD->bh->Prop) (h0:Pv 0 (pick js σ) (upd H1 D (.lst [])) [])
  (j:∀ i σ' H' zs,H' D=some (.lst zs)->Pv i σ' H' zs->aX K H' a xs/\aS K H' b ys)
  (av:∀ i x y p σ' H' zs (R:St->V->aD->Prop),xs[i]?=some x->ys[i]?=some y->H' p=.n->H' D=some (.lst zs)->zs.length=i->Pv i σ' H' zs->(∀ σ2 z e,e D=some (.lst zs)->Pv (i+1) σ2 (upd e D (.lst (zs++[z]))) (zs++[z])->R σ2 z e) ->
   g (.ref p) σ' (upd H' p (.tup [x,y])) λ σ2 l=>bg σ2 l λ z e=>R σ2 z e)
  (r:∀ σ' H' zs,H' D=some (.lst zs)->zs.length=min xs.length ys.length->Pv (min xs.length ys.length) σ' H' zs->Q (.ref D) H'):hL (Itm K a b) D js g kc bg σ H1 Q:=by
 refine w9 ao Pv h0 (λ i σ' H' zs ar d p=>?_) (λ σ' H' zs d m c=>#[?_,r σ' H' zs d m c]) λ i σ' H' zs x aq R ar d t p ae k=>?_
 ·obtain ⟨f,h⟩:=j i σ' H' zs d p;have U:i<xs.length:=by omega
  have aa:i<ys.length:=by omega
  exact #[xs,ys,xs[i],ys[i],f,h,by simp [U],by simp [aa]]
 ·obtain ⟨f,h⟩:=j _ σ' H' zs d c;exact #[xs,ys,f,h,.au]
 ·obtain ⟨f,h⟩:=j i σ' H' zs d p;obtain ⟨q,o,rfl,u,v,rfl,s⟩:=ae;obtain ⟨ex,n⟩:=s xs ys f h;exact av i u v q σ' H' zs R ex n o d t p k
open PySem PySem.Spec PySem.SeqAt PyProof.Rows
section
variable {X:aW}
theorem RY (q:A.handled=.n)
  (d:s.heap.IsTuple l vs.toArray) (ar:IntsAre vs ns) (x:0<ns.length)
  (h:∀ h' M (t:Tok) a8,(∀ b o,s.heap.get? b=some o->h'.get? b=some o)->M∈ns->(∀ a,a∈ns->a<=M)->Q (.int M t) { s with heap:=h',toks:=a8 }) :
  wpAny (model prog w) A (call (.builtin "max") [.ref l]) Q E s:=by
 obtain ⟨xs,e⟩:=ar.allInts.items;have f:ns=xs.toList.map (·.1):=by rw [<-ar.numsOf,<-nums_intItems,<-e]
 have y:0<xs.size:=by
  have k:=x;rw [f,bz,e6] at k;exact k
 rw [e] at d;have m:l<s.heap.objs.size:=by obtain ⟨_,e,_⟩:=d;exact bu e
 refine call_max_walk (nA d ?_);refine #[_,_,_,_,_,_,_,Y,Walks.tuple (A:=A.in1) q _ l (cc m) (intItems xs),#[#[_,cJ _ Y,Y,Y],d.push _],λ c af=>?_,by simpa [intItems] using y,CmpOf.ints_gt (numAt xs) (λ Z Z=>nB),λ v h' a8 p u=>?_]
 ·show c<(s.heap.push _).objs.size;rw [eF];rcases bt.mp af with rfl|af
  ·exact j0 _
  ·rcases bt.mp af with rfl|af
   ·exact mh m
   ·cases af
 ·have aI:(intItems xs)[argBest (λ i j=>decide (numAt xs i>numAt xs j)) (xs.size-1)]?=some v:=by simpa [intItems] using p
  obtain ⟨t,rfl⟩:=nB aI;obtain ⟨U,aa⟩:=argBest_gt (numAt xs) (xs.size-1);refine h _ _ t a8 (λ b o g=>u b o (λ hm=>?_) (a9 _ g)) ?_ λ a ak=>?_
  ·rcases bt.mp hm with n|hm
   ·exact absurd (n ▸ bu g) (ei _)
   ·cases hm
  ·rw [f,numAt_eq];exact getD_mem (by rw [bz,e6];omega)
  ·rw [f] at ak;obtain ⟨j,r,rfl⟩:=mem_getD ak;rw [bz,e6] at r;rw [<-numAt_eq];exact aa j .au
theorem HS (af:X.calm=.t):ep X (.builtin "max") (λ xs H Q=>∃ (p:Addr) (ns:bB),xs=[.ref p]/\aX X.K H p (ns.map V.int)/\ns≠[]/\∀ M,M∈ns->(∀ a,a∈ns->a<=M)->Q (.int M) H):=by
 intro pins s σ H xs us Q I r h;obtain ⟨p,ns,rfl,c,b,q⟩:=h;obtain ⟨u,rfl,i⟩:=vals1 r;cases i;obtain ⟨l,g,f,j⟩:=I.tuple c;refine RY (I.ok.hd.1 af) f (intsAre_of g) (by cases ns with|nil=>exact absurd Y b|cons=>simp) λ h' M t a8 k d e=>?_
 exact #[.int M,H,I.kept k,#[_,Y],q M d e]
noncomputable def FZ (k:Int):Value->Bool
 | .int i _=>i==k
 | _=>.f
theorem G9 (g:X.A.units+1<cLine):cI X (compareOp .NotEq) (λ x y H Q=>∃ (a b:Addr) (xs:bh),x=.ref a/\y=.ref b/\H a=some (.lst xs)/\H b=some (.lst [])/\Q (.aO (!decide (xs.length=0))) H):=by
 intro pins s σ H x y v u Q I C D h;obtain ⟨a,b,xs,rfl,rfl,ak,l,q⟩:=h;cases C;cases D;obtain ⟨_,c,o,z,E,r⟩:=I.fK ak;obtain ⟨_,n,p,B,G,t⟩:=I.fK l;have m:n=[]:=by
  cases B;rfl
 subst m;have i:s.heap.IsList a c.toArray:=#[_,r,Y,o,Y]
 have k:s.heap.IsList b (#[]):=#[_,t,Y,p,Y]
 have d:=z.length;by_cases h0:xs.length=0
 ·have f:c.toArray.size=(#[]:ee).size:=by
   rw [dK,<-d,h0];rfl
  have:=SeqAt.RcNeAt.lists (e:=λ Z=>.t) i k f (qE g) (λ j U aa=>absurd aa (Nat.not_lt_zero _));rw [bc h0] at q;rw [show (!((List.range c.toArray.size).all λ Z=>.t))=.f by rw [f];rfl] at this;exact this X.prog X.w _ _ #[.aO .f,H,I,Y,q]
 ·have:=SeqAt.RcNeAt.lists_lengths i k (by rw [dK,<-d];exact bne_iff_ne.mpr h0) (qE g);rw [bZ h0] at q;exact this X.prog X.w _ _ #[.aO .t,H,I,Y,q]
end
end bj
namespace u0
open PySem PyProof.Rows
theorem QJ:typeLookup (.type "list_reverseiterator") (Str.ofString "__len__")=pure .n:=by rw [typeLookup_type,builtinLookup_eq_fast];kernel_rfl
theorem TU:typeLookup (.type "list_reverseiterator") (Str.ofString "__length_hint__")=pure (some (.builtin "list_reverseiterator.__length_hint__")):=by rw [typeLookup_type,builtinLookup_eq_fast];kernel_rfl
theorem sub_self:isSubtype (.type "list_reverseiterator") (.type "list_reverseiterator")=pure .t:=by rw [isSubtype_type];kernel_rfl
section
variable {prog:Program} {w:World} {A:Around} {E:c0} {s:Shared}
abbrev xE (items:ee):Nat->Value->Prop:=λ i v=>items[items.size-1-i]?=some v
theorem extend {R:Result->Shared->Prop} (x:A.handled=.n) (I l:Addr) (z:l≠I) (items:ee) (S:Addr) (res:Value) (c₀:Nat) (n:s.heap.get? S=some { cls:=.type "list", data:=.seq #[] c₀ })
  (i:S≠I) (r:S≠l) (g:s.heap.IsRevIter I l ((items.size:Int)-1)) (y:s.heap.IsList l items)
  (m:∀ h' a8 c a,(∀ b o,b≠S->b≠I->s.heap.get? b=some o->h'.get? b=some o)->h'.get? S=some { cls:=.type "list", dict:=.n,data:=.seq c a,slots:=#[] } ->
   ItemsOf (xE items) c items.size->R (.ok (.ret res)) { s with heap:=h',toks:=a8 }) (ao:items.size<=sizeLine) :
  wpAny (model prog w) A.in1 (Builtin.List.listExtendWith (.ref S) (.ref I) res)
   (λ fin s'=>match fin with| .done f=>R (.ok f) s'| .again a=>a.quiet=.t/\codeAny (model prog w) A a R s') (λ e s'=>R (.error e) s') s:=by
 have q:S∉[I,l]:=by simp [i,r]
 have d:=g.typeIs;refine ax (wpAny_typeOf d ?_);have U:Builtin.List.listSameRef (.ref S) (.ref I)=.f:=by simp [Builtin.List.listSameRef,i]
 have aa:(Value.type "list_reverseiterator" == Value.type "list")=.f:=by decide
 have k:(Value.type "list_reverseiterator" == Value.type "tuple")=.f:=by decide
 simp only [U,aa,k,Bool.or_false,Bool.false_eq_true,if_false];refine ax (wpAny_pyIter_revIter g ?_);refine ax (eV ?_);refine ax (vM d QJ ?_);refine ax (vM d TU ?_)
 wp_delta
 refine ax (qF d sub_self ?_);rw [if_neg (by decide:¬ (!.t)=.t)];dsimp only;rw [if_pos (by decide +kernel)];rw [if_neg (by decide +kernel)];refine a_ ?_;rw [if_neg (by decide +kernel)];have W:=(Walks.listRev (prog:=prog) (w:=w) (A:=A.in1) x I l z items).toS;refine a_ #[pJ F.plain_extend_loop _,codeAny_extend_loopS W ao _ q _ items.size 0 _ _ _ Y (ej _) #[ej _,by simpa using g,y] n (ItemsOf.nil _) λ s' c a hm p t=>?_];rw [Moved.eq_with hm];refine m s'.heap s'.toks c a (λ b bD u v e=>hm.heap b bD (λ h=>?_) e) p t;rcases bt.mp h with j|h
 ·exact u j
 ·exact v (cf.mp h)
end
end u0
namespace bV
open PySem bj ck
theorem xw (i):(List.range (i+1)).filter t=(List.range i).filter t++(if t i=.t then [i] else []):=by
 rw [List.range_succ,List.filter_append];congr 1;by_cases z:t i=.t
 ·simp [z]
 ·simp [z]
end bV
namespace hx
open PySem PyProof.Rows
section
variable {M:Model} {A:Around} {E:c0} {s:Shared}
theorem G6
  (n:A.frames=some (env::outer)) (p:s.heap.FunFrames base (env::outer)) (hf:env.frame=some L) (t:Rec s.heap e C d (.ref T0)) (aG:Ent s.heap T0 fl) (m:(fl==rawInt L)=.f) (r:T0≠e)
  (h:∀ h' T,s.heap.get? T=.n->eK [e,T0] (d8 (env::outer)) s.heap h'->Rec h' e C d (.ref T)->Ent h' T (rawInt L)->Q () { s with heap:=h' }):wpAny M A (noteFrame (.ref e) env) Q E s:=by
 obtain ⟨a6,vs,he,af,rfl,hd,U,aa⟩:=t;obtain ⟨D,B,c,g,k⟩:=aG;unfold noteFrame;simp only [hf];refine ax (cV he hd U ?_);rw [if_pos .zs];refine ax (cV c g k ?_);rw [if_neg (by rw [m];decide)];refine ax (kX c g (j9.mp k).1 ?_);have other:∀ b,b≠T0->(s.heap.update T0 (Obj.mapFields (·.setIfInBounds 3 Value.none))).get? b=s.heap.get? b:=λ b a=>er _ _ (dz a)
 have y:∀ b o,s.heap.get? b=some o->(∀ vs,o.data≠.fields vs)->b≠T0:=λ b o a i q=>by
  rw [q,c] at a;injection a with a;subst a;exact i B g
 refine zJ n (p.of_keeps λ b o a i=>#[o,(other b (y b o a i)).trans a,Y]) hf ((other e (dz r)).trans he) hd (j9.mp U).1 af aa λ h' T f l u v=>?_
 refine h h' T ?_ #[λ b o nl x q=>?_,λ b o nl a q=>?_] u v
 ·cases q:s.heap.get? T with
  | none=>rfl
  | some o =>
   by_cases z:T=T0
   ·have w:=hN (Obj.mapFields (·.setIfInBounds 3 Value.none)) c (kW (iu g _));rw [z,w] at f;cases f
   ·rw [other T z,q] at f;cases f
 ·have j:b≠T0:=λ z=>nl (by rw [z];simp)
  exact l.1 b o (λ z=>nl (by rw [cf.mp z];simp)) x ((other b j).trans q)
 ·have j:b≠T0:=λ z=>nl (by rw [z];simp)
  exact l.2 b o (λ z=>nl (by rw [cf.mp z];simp)) a ((other b j).trans q)
theorem IJ {L:Addr} (hf:env.frame=some L) (f:Rec s.heap e C d (.ref T0)) (aG:Ent s.heap T0 (rawInt L)) (h:Q () s):wpAny M A (noteFrame (.ref e) env) Q E s:=by
 obtain ⟨a6,vs,he,_,rfl,hd,U,aa⟩:=f;obtain ⟨g,i,b,c,a⟩:=aG;unfold noteFrame;simp only [hf];refine ax (cV he hd U ?_);rw [if_pos .zs];refine ax (cV b c a ?_);rw [if_pos (by simp [rawInt])];exact a_ h
theorem C6 (l:Rec s.heap e C d (.ref T)) (aG:Ent s.heap T fl) (k:T≠e) (m:∀ b∈F,b≠T)
  (h:∀ h' u6,eK [T] F s.heap h'->Rec h' e C d (.ref T)->Ent h' T u6->Q () { s with heap:=h' }):wpAny M A (setFlight (.ref e) o) Q E s:=by
 obtain ⟨a6,vs,he,i,j,hd,U,aa⟩:=l;obtain ⟨n,p,c,a,g⟩:=aG;have f:=(j9.mp g).1;refine ax (cV he hd U ?_);rw [if_pos .zs];refine kX c a f (h _ _ #[λ b o nl Z q=>(er _ _ (λ z=>nl (by rw [z];exact cf.mpr Y))).trans q,λ b o nl Z q=>#[o.slots,(er _ _ (λ z=>nl (by rw [z];exact cf.mpr Y))).trans q]]
  #[a6,vs,(er _ _ k).trans he,i,j,hd,U,aa] #[_,_,hN _ c (kW (iu a _)),iu a _,by simp [f];rfl])
end
end hx
namespace bj
open PySem PySem.Spec PyProof.Rows hx
theorem cX.GU (u:cX aw ex dq H h0 h) (k:eK L F h h') (l:∀ b∈L,h0.get? b=.n\/b∈ex) (j:∀ b∈F,b∈aw\/h0.get? b=.n):cX aw ex dq H h0 h':=by
 have d:∀ b o,h0.get? b=some o->b∉ex->b∉L:=λ b o e bf z=>by
  rcases l b z with y|y
  ·rw [y] at e;cases e
  ·exact bf y
 refine #[λ b o e n g bf=>?_,λ b o e n hf bf=>?_,u.free,λ b o e bf=>?_,u.ha,u.gH,u.g_]
 ·refine k.1 b o (d b o e bf) (λ z=>?_) (u.keep b o e n g bf);rcases j b z with z|z
  ·exact g z
  ·rw [z] at e;cases e
 ·obtain ⟨cu,a⟩:=u.slot b o e n hf bf;by_cases c:b∈F
  ·obtain ⟨i,f⟩:=k.2 b _ (d b o e bf) c a;exact #[i,f]
  ·exact #[cu,k.1 b _ (d b o e bf) c a]
 ·obtain ⟨cZ,a⟩:=u.there b o e bf;by_cases c:b∈F
  ·obtain ⟨i,f⟩:=k.2 b _ (d b o e bf) c a;exact #[_,f]
  ·exact #[_,k.1 b _ (d b o e bf) c a]
structure iv (X:aW) (pins:ef) (e:Addr):Prop where
 s0:X.s₀.heap.get? e=.n\/e∈X.ex
 loc:e≠X.env.locals
theorem iv.of {σ:St} (I:Inv X pins σ H s) (h:s.heap.get? e=.n):iv X pins e:=by
 refine #[?_,?_]
 ·cases q:X.s₀.heap.get? e with
  | none=>exact .inl rfl
  | some o =>
   refine .inr ?_;by_cases z:e∈X.ex
   ·exact z
   ·obtain ⟨cZ,y⟩:=I.base.there e o q z;rw [h] at y;cases y
 ·intro z;obtain ⟨m,⟨o,_,_,aA,_⟩,_⟩:=I.loc;rw [z,aA] at h;cases h
def vo (X:aW) (E:cL):Prop:=∀ pins (σ:St) H s (e C) d head a,Inv X pins σ H s->iv X pins e->H e=.n ->
 Rec s.heap e (.ref C) d head->nK s.heap e head a->(∀ b∈a,iv X pins b/\H b=.n)->E (.ref C) d H->X.a5 (.ref e) s
theorem P9 (k:vo X E):Passes (dY X.prog X.w) X E:=by
 rintro pins σ H s ev s' I ⟨e,T,C,d,H',rfl,aA,i,u,aK,g,f,l,c,b6,j,aG,h⟩;exact k pins σ H' s' e C d (.ref T) [T] (I.kT aA u aK i λ b a=>absurd a .zs) (iv.of I g) c j (.inr #[T,Y,aG,l,Y]) (λ b a=>by rw [cf.mp a];exact #[iv.of I f,b6]) h
def za (X:aW) (E:cL):Prop:=∀ pins (σ:St) H s (e T C) d fl,Inv X pins σ H s->cv X pins e->cv X pins T->H e=.n->H T=.n->T≠e ->
 Rec s.heap e (.ref C) d (.ref T)->Ent s.heap T fl->E (.ref C) d H->X.a5 (.ref e) s
theorem Tj {K:aP} :
  za (fj (dY P w) P w K mg base N qual scope f cd A outer s0 dq E) E:=by
 intro pins σ H s e T C d fl I m l i b6 n g aG u;show wpAny (model P w) (A.deeper (envOfC qual scope s0.heap.objs.size f cd)) (leaving (envOfC qual scope s0.heap.objs.size f cd) (.ref e)) _ _ s;have B:∀ b∈d8 (envOfC qual scope s0.heap.objs.size f cd::outer),H b=.n:=I.ix;have x:∀ b∈d8 (envOfC qual scope s0.heap.objs.size f cd::outer),b∈cz outer\/s0.heap.get? b=.n:=λ b a=>by
  rcases bt.mp a with z|z
  ·refine .inr ?_;cases q:s0.heap.get? b with
   | none=>rfl
   | some o=>have:=bu q;rw [z] at this;exact absurd this (ei _)
  ·exact .inl z
 have cx:∀ h j v,h.FunFrames base (envOfC qual scope s0.heap.objs.size f cd::outer)->Ent h j v->∀ b∈d8 (envOfC qual scope s0.heap.objs.size f cd::outer),b≠j:=λ h j v O ⟨Z,X,L,M,_⟩ b a z=>by
  obtain ⟨_,o,aA,Q⟩:=O.mem a;rw [z,L] at aA;cases aA;exact Q X M
 refine ax ?_;by_cases y:(fl==rawInt s0.heap.objs.size)=.t
 ·have aC:=jt y;subst aC;refine IJ rfl g aG (land g aG n (cx _ T _ I.stack aG) λ h' D p t1=>#[e,T,C,d,H,Y,I.os,I.bare,?_,?_,m.s0,l.s0,n,i,b6,p,t1,u])
  ·exact I.base.dU D (λ b a=>by rw [cf.mp a];exact l.s0) x
  ·exact I.aK.dU D (λ b a=>by rw [cf.mp a];exact b6) B
 ·refine G6 I.ok.frames I.stack rfl g aG (by cases z:(fl==rawInt s0.heap.objs.size) with|true=>exact absurd z y|false=>rfl) n λ U k c k1 p t1=>?_
  have G:k≠e:=λ z=>by
   obtain ⟨a6,_,he,_⟩:=g;rw [z,he] at c;cases c
  have R:∀ b∈d8 (envOfC qual scope s0.heap.objs.size f cd::outer),b≠k:=λ b a z=>by
   obtain ⟨_,o,aA,_⟩:=I.stack.mem a;rw [z,c] at aA;cases aA
  have t:=(cv.of I Y c).s0;have r:=I.aK.gone c;refine land p t1 G R λ aa k2 S aV=>#[e,k,C,d,H,Y,I.os,I.bare,?_,?_,m.s0,t,G,i,r,S,aV,u]
  ·refine I.base.dU (k1.trans k2) (λ b a=>?_) x;simp only [fA,bt,da,dc] at a;rcases a with (z|z)|z
   ·rw [z];exact m.s0
   ·rw [z];exact l.s0
   ·rw [z];exact t
  ·refine I.aK.dU (k1.trans k2) (λ b a=>?_) B;simp only [fA,bt,da,dc] at a;rcases a with (z|z)|z
   ·rw [z];exact i
   ·rw [z];exact b6
   ·rw [z];exact r
theorem Ur
  (C:jn X scope cl N js) (af:X.warm=.t) (ae:X.ex=[]) (fg:X.stack=X.env::X.outer) (oL:X.env.frame=some X.env.locals) (xW:za X E) (ar:gW X a4 iter oz)
  (gd:∀ aF pins s H a5,hU (cC X scope cl N aF pins s H a5) a4 g)
  (aG:∀ aF pins s H a5,kD (cC X scope cl N aF pins s H a5) cs cg)
  (he:∀ aF pins s H a5,vo (cC X scope cl N aF pins s H a5) E->bw (cC X scope cl N aF pins s H a5) elt bg)
  (av:∀ x,foldedSetIterable iter X.env x=pure x:=by intro _;rfl):bw X (.ListComp elt [#[a4,iter,cs,0]] scope pos) (jY js oz g cg bg):=by
 intro pins s σ H Q I h;rw [eval_ListComp];refine z4 rfl av C.l4 C.kind C.names (aU (ar pins s σ H _ I h) λ CL s1 U=>aU U λ ql s2 aa=>?_);obtain ⟨it,aF,ff,aC,aq,e,hT,T,iF,f2,aa⟩:=aa;subst e;obtain ⟨W,⟨m0,aY⟩,turn⟩:=aa s2.heap.objs.size hT.fresh;refine l_ (wpAny_newFunctionEnv C.k8 (by intro y jI;simp at jI) (λ hX kM oT=>?_) C.kind);have D:Inv X pins σ (upd aq s2.heap.objs.size (.lst [])) { s2 with heap:=s2.heap.push { cls:=.type "list", data:=.seq ([]).toArray } }:=hT.tb .nil (ej _);dsimp only at kM oT ⊢;generalize d6:({ s2 with heap:=s2.heap.push { cls:=.type "list", data:=.seq ([]:List Value).toArray } })=s3 at D;have jO:s2.heap.push { cls:=.type "list", data:=.seq ([]).toArray }=s3.heap:=by rw [<-d6]
 have C1:s2.gens=s3.gens:=by rw [<-d6]
 have C2:s2.os=s3.os:=by rw [<-d6]
 rw [jO] at kM oT ⊢;generalize rS:upd aq s2.heap.objs.size (.lst [])=G at D aY;have hz:s2.heap.objs.size<s3.heap.objs.size:=by rw [<-jO,eF];exact j0 _
 have nf:∀ b o,s2.heap.get? b=some o->s3.heap.get? b=some o:=λ b o q=>by rw [<-jO];exact a9 _ q
 have iH:∀ b o,s3.heap.get? b=some o->hX.get? b=some o:=λ b o q=>oT.extBut b o (cc (bu q)) (a9 _ q)
 have kI:∀ b∈aF,b<s3.heap.objs.size:=λ b l=>by
  obtain ⟨o,gw,_⟩:=T.obj 0 _ iF b l;exact bu (nf b o gw)
 have fst:∀ b∈aF,b∉cz X.stack:=λ b l z=>by
  rcases bt.mp (D.j5 b z) with q|q
  ·exact (f2 b l).2.1 q
  ·exact (f2 b l).2.2.1 q
 generalize sA:(λ e s'=>notedBy (model X.prog X.w) X.A (compEnvC scope cl s3.heap.objs.size X.env) (λ e g6=>compPost (model X.prog X.w) X.A X.a5 .n (el X pins σ Q) (.ref s2.heap.objs.size) s3.heap.objs.size (.error e) g6) e s')=L;have sX:(cC X scope cl N aF pins s3 G L).Ok:=by
  refine #[I.ok.mod,C.kind,I.ok.glob,I.ok.blt,bx _,λ x y c aV ed=>I.ok.inj x y c (C.sub _ _ aV) (C.sub _ _ ed),C.has,λ x c z=>absurd z dC,#[I.ok.hd.1,λ hw=>D.u7 hw λ b l=>(f2 b l).2.2.2.1],I.ok.frames,.inl Y,λ b l=>#[cc (kI b l),λ x c q=>(f2 b l).2.2.2.2.1 x c (C.sub _ _ q)],
   D.bs,dF I.ok.fI D.fe,λ b o q l=>?_,fst,D.stack,D.ix]
  rcases (f2 b l).2.2.2.1 with z|z
  ·exact I.ok.ji b o q z
  ·exact absurd (ey (bu q) (dF I.ok.fI z)) (ei _)
 have lB:Inv (cC X scope cl N aF pins s3 G L) [] (pick js σ) G { s3 with heap:=hX,toks:=s3.toks+([]:List (Str×Value)).length }:=by
  refine #[sX,Y,D.bare,cX.kept iH,#[_,kM,λ i x v aV ed hB=>?_],λ x c q=>?_,D.aK.fresh (bx _),λ x c q=>D.fm x c (C.sub _ _ q),λ p ah=>?_,D.aK.kept iH,?_]
  ·obtain ⟨j,k1,k2⟩:=A1 ed;obtain ⟨oA,h1,kA⟩:=C.seen i j x aV k1;obtain ⟨m,ao,eB⟩:=D.loc;obtain ⟨u,ov,lk⟩:=eB j x v oA k2 (.inr (.inl h1));refine #[u,ov,.inr #[kA,?_]];rcases lk with ⟨k,_⟩|⟨_,c,rT,dR,kK,jQ⟩
   ·have dQ:X.env.scope.names.lookup x=some .local:=k;rw [h1] at dQ;cases dQ
   ·obtain ⟨mQ,m4⟩:=C.has x kA;have:=C.sub _ _ m4;rw [rT] at this;cases this;exact #[c,m4,dR,iH _ _ kK,jQ]
  ·obtain ⟨v,dR,kK,jQ⟩:=D.cell x c (C.sub _ _ q);exact #[v,dR,iH _ _ kK,jQ]
  ·have m7:p∈X.gA++pins:=by simpa using ah
   obtain ⟨aV,ed,hB,ot,r_⟩:=D.pin p m7;refine #[iH _ _ aV,ed,cc (bu aV),λ z=>?_,r_];rcases bt.mp (D.j5 _ z) with q|q
   ·exact hB q
   ·exact ot q
  ·show (pick js σ).length=N.length;unfold pick;rw [bz,C.len]
 have stat:∀ {H':aD},(∀ b∈aF,H' b=.n)->∀ b∈aF,je (cC X scope cl N aF pins s3 G L) [] H' b:=λ ao b l =>
  #[ao b l,cc (kI b l),fst b l,.inl l,λ x c q=>(f2 b l).2.2.2.2.1 x c (C.sub _ _ q),λ p ah=>(f2 b l).2.2.2.2.2 p (by simpa using ah)]
 have nc:=T.keep 0 _ _ iF λ b l o q=>iH b o (nf b o q)
 have rW:∀ {iq:ef} {a:Addr},iv (cC X scope cl N aF pins s3 G L) iq a->cv X pins a:=λ {iq a} f=>by
  rcases f.s0 with z|z
  ·exact cv.of D ae z
  ·have:=f2 a z;refine #[?_,λ y=>this.2.1 y,λ x c q=>this.2.2.2.2.1 x c q,λ p ah=>this.2.2.2.2.2 p ah];rcases this.2.2.2.1 with y|y
   ·rw [ae] at y;cases y
   ·exact nE y
 have xX:vo (cC X scope cl N aF pins s3 G L) E:=by
  intro iq σ' H' s' e mF d head eB M gX mK S ku oM lE;show L (.ref e) s';rw [<-sA];show wpAny (model X.prog X.w) X.A (noteFrame (.ref e) X.env) (λ _ g6=>compPost (model X.prog X.w) X.A X.a5 .n (el X pins σ Q) (.ref s2.heap.objs.size) s3.heap.objs.size (.error (.ref e)) g6) _ s';have yq:X.A.frames=some (X.env::X.outer):=by rw [<-fg];exact I.ok.frames
  have cQ:s'.heap.FunFrames X.base (X.env::X.outer):=by rw [<-fg];exact M.stack
  have oG:d8 (X.env::X.outer)=cz X.stack:=by rw [fg];rfl
  refine zy yq cQ oL S ku λ U T gx lH hC t1=>?_
  obtain ⟨m,ao,_⟩:=M.loc;have zh:∀ b∈cz X.stack,b≠s3.heap.objs.size:=λ b l z=>by
   obtain ⟨_,o,aA,_⟩:=D.stack.mem l;have:=bu aA;rw [z] at this;exact ei _ this
  have yM:s3.heap.objs.size∉d8 (X.env::X.outer):=λ z=>by
   rw [oG] at z;exact zh _ z rfl
  have yN:s3.heap.objs.size∉e::eB:=λ z=>by
   rcases bt.mp z with y|y
   ·exact gX.loc y.symm
   ·exact (oM _ y).1.loc rfl
  have lY:T≠e:=λ z=>by
   obtain ⟨a6,_,jR,_⟩:=S;rw [z,jR] at gx;cases gx
  have jH:=iv.of M gx;have b6:=M.aK.gone gx;have yO:∀ b∈d8 (X.env::X.outer),b≠T:=λ b l z=>by
   obtain ⟨_,o,aA,_⟩:=cQ.mem l;rw [z,gx] at aA;cases aA
  have yF:U.Ns s3.heap.objs.size m:=by
   obtain ⟨o,aj,xO,aA,x5⟩:=ao;exact #[o,aj,xO,lH.1 _ _ yN yM aA,x5]
  refine #[m,yF,λ aa Z Pj yx=>?_];have k2:eK [s3.heap.objs.size] (d8 (X.env::X.outer)) U aa:=#[λ b o nl _ q=>(Z.2 b (λ z=>nl (by rw [z];exact cf.mpr Y))).trans q,λ b o nl _ q=>#[o.slots,(Z.2 b (λ z=>nl (by rw [z];exact cf.mpr Y))).trans q]]
  have jL:Rec aa e (.ref mF) d (.ref T):=by
   obtain ⟨a6,vs,a1,a2,rN,oi,oj,rO⟩:=hC;exact #[a6,vs,(Z.2 e gX.loc).trans a1,a2,rN,oi,oj,rO]
  have gf:Ent aa T (rawInt X.env.locals):=by
   obtain ⟨mW,lN,a1,a2⟩:=t1;exact #[mW,lN,(Z.2 T jH.loc).trans a1,a2]
  unfold PySem.passOn;obtain ⟨a6,vs,a1,a2,rN,oi,oj,rO⟩:=id jL;refine ax (cV a1 oi oj ?_);rw [if_neg (show ¬ ((Value.ref T==Value.none)=.t) by simp)];refine ax (C6 jL gf lY yO λ hy fl k3 uS t3=>wpAny_throw ?_);have fb:=(lH.trans k2).trans k3;have sz:∀ b∈(e::eB)++[s3.heap.objs.size]++[T],(s3.heap.get? b=.n\/b∈aF)/\H' b=.n:=λ b l=>by
   rcases fA.mp l with z|z
   ·rcases fA.mp z with z|z
    ·rcases bt.mp z with z|z
     ·rw [z];exact #[gX.s0,mK]
     ·exact #[(oM b z).1.s0,(oM b z).2]
    ·rw [cf.mp z];exact #[.inl (nE (bx _)),M.free]
   ·rw [cf.mp z];exact #[jH.s0,b6]
  have uV:cX (cz X.stack) aF G H' s3.heap hy:=cX.GU (show cX (cz X.stack) aF G H' s3.heap s'.heap from M.base) fb (λ b l=>(sz b l).1) (λ b l=>.inl (by rw [<-oG];exact l));have ze:cU X.prog X.w H' hy:=cU.dU (show cU X.prog X.w H' s'.heap from M.aK) fb (λ b l=>(sz b l).2) (λ b l=>M.ix b (by show b∈cz X.stack;rw [<-oG];exact l));have lB:Inv X pins σ H' { s' with heap:=hy }:=D.kT (ch:=aF) M.os uV ze M.bare (λ b l=>#[(f2 b l).2.2.2.1,(f2 b l).2.1,(f2 b l).2.2.2.2.1,(f2 b l).2.2.2.2.2]);exact xW pins σ H' { s' with heap:=hy } e T mF d fl lB (rW gX) (rW jH) mK b6 lY uS t3 lE
 have P:∀ {α: Type} {t:Sem α} {oh: α -> Shared->Prop} {z:Shared},wpAny (model X.prog X.w) X.A t oh L z->wpAny (model X.prog X.w) X.A t oh (notedBy (model X.prog X.w) X.A (compEnvC scope cl s3.heap.objs.size X.env) λ e g6=>compPost (model X.prog X.w) X.A X.a5 .n (el X pins σ Q) (.ref s2.heap.objs.size) s3.heap.objs.size (.error e) g6) z:=λ {α t oh z} h=>by
  rw [<-sA] at h;exact h
 have loop:codeAny (model X.prog X.w) X.A (.compLoop (.ListComp elt [#[a4,iter,cs,0]] scope pos) 0 (.ref it) (.ref s2.heap.objs.size) (compEnvC scope cl s3.heap.objs.size X.env))
   (compPost (model X.prog X.w) X.A X.a5 .n (el X pins σ Q) (.ref s2.heap.objs.size) s3.heap.objs.size) { s3 with heap:=hX,toks:=s3.toks+([]:List (Str×Value)).length }:=by
  refine Az (λ n s'=>∃ i σ' H' ys,Inv (cC X scope cl N aF pins s3 G L) [] σ' H' s'/\ff i s'.heap/\(∀ b∈aF,H' b=.n)/\W i n σ' H' ys) ?_ m0 #[0,_,G,[],lB,nc,λ b l=>?_,aY]
  ·rintro n s5 ⟨i,σ5,O,ys,i1,nd,m5,mZ⟩;obtain ⟨C8,way⟩:=turn i n σ5 O ys mZ;rcases way with ⟨stop,lM⟩|⟨go,fw,mO,lF,step⟩
   ·refine P (aU (T.done (cC X scope cl N aF pins s3 G L) Y Y Y Y af i [] s5 σ5 O _ i1 (stat m5) nd stop) ?_);rintro r e1 ⟨S,R⟩;subst S;obtain ⟨m,ao,_⟩:=R.loc;refine #[m,ao,λ h' Z=>#[.ref s2.heap.objs.size,O,?_,Y,lM]];have low:∀ b o,s3.heap.get? b=some o->b≠s3.heap.objs.size:=λ b o q=>cc (bu q)
    have same:∀ b,b≠s3.heap.objs.size->h'.get? b=e1.heap.get? b:=λ b l=>Z.2 b l
    have B:=R.base;refine D.kT (s':={ e1 with heap:=h' }) (H':=O) (ch:=aF) R.os #[λ b o q gz U aa=>?_,λ b o q gz U aa=>?_,B.free,λ b o q aa=>?_,B.ha,B.gH,B.g_] (λ a o q=>?_) R.bare (λ b l=>#[(f2 b l).2.2.2.1,(f2 b l).2.1,(f2 b l).2.2.2.2.1,(f2 b l).2.2.2.2.2])
    ·exact (same b (low b o q)).trans (B.keep b o q gz U aa)
    ·obtain ⟨cu,z⟩:=B.slot b o q gz U aa;exact #[cu,(same b (low b o q)).trans z]
    ·obtain ⟨cZ,z⟩:=B.there b o q aa;exact #[cZ,(same b (low b o q)).trans z]
    ·have mV:∀ c u,O c=some u->c≠s3.heap.objs.size:=λ c u z y=>by
      have:=R.free;rw [y] at z;rw [show O s3.heap.objs.size=.n from this] at z;cases z
     refine (R.aK a o q).ij (λ c u sC z=>(same c ?_).trans z) (λ _ z=>z) λ _ _ z=>z
     rcases sC with fx|fx
     ·rw [fx];exact mV a o q
     ·exact mV c _ fx
   ·refine P (aU (T.item (cC X scope cl N aF pins s3 G L) Y Y Y Y af i [] s5 σ5 O _ i1 (stat m5) nd go) ?_);rintro r e1 ⟨u,S,lD⟩;subst S;refine P (aU lD ?_);rintro _ hD ⟨x,fa,od,mX,sg,jT,sv⟩;have si:=od.pinned (stat sv) (T.obj _ _ jT);refine P (aU (gd aF pins s3 G L _ hD σ5 fa x u _ si mX (step x fa sg)) ?_);rintro _ i6 ⟨σ8,mI,oe,sa⟩;refine P (aU (aG aF pins s3 G L _ i6 σ8 mI _ oe sa) ?_);rintro k gZ ⟨mJ,mL,hY⟩;have fin:∀ {s':Shared} {σ':St} {H':aD} {g9:bh},Inv (cC X scope cl N aF pins s3 G L) ([]++pA aF hD.heap) σ' H' s'->mO σ' H' g9 ->
      ∃ gY,gY<n/\∃ i σ' H' ys,Inv (cC X scope cl N aF pins s3 G L) [] σ' H' s'/\ff i s'.heap/\(∀ b∈aF,H' b=.n)/\W i gY σ' H' ys:=λ {s' σ' H' g9} jF r9=>by
     obtain ⟨gY,hm,wv⟩:=lF σ' H' g9 r9;refine #[gY,hm,i+1,σ',H',g9,jF.rn,T.keep _ _ _ jT λ b l o q=>(jF.pin (b,o) (fq _ (fq _ (n3 l q)))).1,λ b l=>?_,wv];obtain ⟨o,q,_⟩:=T.obj _ _ jT b l;exact (jF.pin (b,o) (fq _ (fq _ (n3 l q)))).2.1
    cases k with
    | false =>
     rw [if_neg dC] at hY ⊢;exact fin mL hY.2
    | true =>
     rw [if_pos rfl] at hY ⊢;refine P (aU (he aF pins s3 G L xX _ gZ σ8 mJ _ mL hY) ?_);rintro y ky ⟨jM,ob,rI,sf,sy,sb⟩;refine P (aU (ue _ ky σ8 ob (.ref s2.heap.objs.size) [jM] _ [y] (λ _ i0=>mO σ8 i0 (ys++[jM])) rI Y (.cons sf .nil) #[_,ys,jM,Y,Y,sy,fw,sb]) ?_);rintro _ sB ⟨_,i0,rJ,_,sd⟩;exact fin rJ sd
  ·rw [<-rS,bC]
   ·exact (f2 b l).1
   ·obtain ⟨o,gw,_⟩:=T.obj 0 _ iF b l;exact cc (bu gw)
 have goal:codeAny (model X.prog X.w) X.A (.compStart (.ListComp elt [#[a4,iter,cs,0]] scope pos) 0 (.ref it) (.ref s2.heap.objs.size) (compEnvC scope cl s3.heap.objs.size X.env))
   (compPost (model X.prog X.w) X.A X.a5 .n (el X pins σ Q) (.ref s2.heap.objs.size) s3.heap.objs.size) { s3 with heap:=hX,toks:=s3.toks+([]).length } :=
  z5 loop (T.self _ 0 _ _ _ nc loop)
 subst d6;exact goal
theorem US
  (C:jn X scope cl N js) (af:X.warm=.t) (ae:X.ex=[]) (c:X.stack=X.env::X.outer) (a:X.env.frame=some X.env.locals) (d:za X E) (ar:iA X a4 iter e)
  (b:∀ aF pins s H a5,iz (cC X scope cl N aF pins s H a5) a4 g)
  (aG:∀ aF pins s H a5,qd (cC X scope cl N aF pins s H a5) cs cg)
  (he:∀ aF pins s H a5,vo (cC X scope cl N aF pins s H a5) E->aZ (cC X scope cl N aF pins s H a5) elt bg)
  (av:∀ x,foldedSetIterable iter X.env x=pure x:=by intro _;rfl):aZ X (.ListComp elt [#[a4,iter,cs,0]] scope pos) (jY js e g cg bg) :=
 #[Ur C af ae c a d ar.o (λ aF pins s H a5=>(b aF pins s H a5).o) (λ aF pins s H a5=>(aG aF pins s H a5).o) (λ aF pins s H a5 k=>(he aF pins s H a5 k).o) av]
def vy (X:aW) (E:cL):Prop:=∀ pins (σ:St) H s e v d head a,Inv X pins σ H s->iv X pins e->H e=.n ->
 Rec s.heap e v d head->nK s.heap e head a->(∀ b∈a,iv X pins b/\H b=.n)->E v d H->X.a5 (.ref e) s
theorem QQ (k:vy X E):Passes (g0 X.prog X.w) X E:=by
 rintro pins σ H s ev s' I ⟨e,T,v,d,H',rfl,aA,i,u,aK,g,f,l,c,b6,j,aG,h⟩;exact k pins σ H' s' e v d (.ref T) [T] (I.kT aA u aK i λ b a=>absurd a .zs) (iv.of I g) c j (.inr #[T,Y,aG,l,Y]) (λ b a=>by rw [cf.mp a];exact #[iv.of I f,b6]) h
def zt (X:aW) (E:cL):Prop:=∀ pins (σ:St) H s (e T) v d fl,Inv X pins σ H s->cv X pins e->cv X pins T->H e=.n->H T=.n->T≠e ->
 Rec s.heap e v d (.ref T)->Ent s.heap T fl->E v d H->X.a5 (.ref e) s
theorem Vi {K:aP} :
  zt (fj (g0 P w) P w K mg base N qual scope f cd A outer s0 dq E) E:=by
 intro pins σ H s e T v d fl I m l i b6 n g aG u;show wpAny (model P w) (A.deeper (envOfC qual scope s0.heap.objs.size f cd)) (leaving (envOfC qual scope s0.heap.objs.size f cd) (.ref e)) _ _ s;have B:∀ b∈d8 (envOfC qual scope s0.heap.objs.size f cd::outer),H b=.n:=I.ix;have x:∀ b∈d8 (envOfC qual scope s0.heap.objs.size f cd::outer),b∈cz outer\/s0.heap.get? b=.n:=λ b a=>by
  rcases bt.mp a with z|z
  ·refine .inr ?_;cases q:s0.heap.get? b with
   | none=>rfl
   | some o=>have:=bu q;rw [z] at this;exact absurd this (ei _)
  ·exact .inl z
 have cx:∀ h j v,h.FunFrames base (envOfC qual scope s0.heap.objs.size f cd::outer)->Ent h j v->∀ b∈d8 (envOfC qual scope s0.heap.objs.size f cd::outer),b≠j:=λ h j v M ⟨X,aV,aC,L,_⟩ b a z=>by
  obtain ⟨_,o,aA,O⟩:=M.mem a;rw [z,aC] at aA;cases aA;exact O aV L
 refine ax ?_;by_cases y:(fl==rawInt s0.heap.objs.size)=.t
 ·have G:=jt y;subst G;refine IJ rfl g aG (land g aG n (cx _ T _ I.stack aG) λ h' C p t1=>#[e,T,v,d,H,Y,I.os,I.bare,?_,?_,m.s0,l.s0,n,i,b6,p,t1,u])
  ·exact I.base.dU C (λ b a=>by rw [cf.mp a];exact l.s0) x
  ·exact I.aK.dU C (λ b a=>by rw [cf.mp a];exact b6) B
 ·refine G6 I.ok.frames I.stack rfl g aG (by cases z:(fl==rawInt s0.heap.objs.size) with|true=>exact absurd z y|false=>rfl) n λ U k c k1 p t1=>?_
  have D:k≠e:=λ z=>by
   obtain ⟨a6,_,he,_⟩:=g;rw [z,he] at c;cases c
  have Q:∀ b∈d8 (envOfC qual scope s0.heap.objs.size f cd::outer),b≠k:=λ b a z=>by
   obtain ⟨_,o,aA,_⟩:=I.stack.mem a;rw [z,c] at aA;cases aA
  have t:=(cv.of I Y c).s0;have r:=I.aK.gone c;refine land p t1 D Q λ aa k2 R S=>#[e,k,v,d,H,Y,I.os,I.bare,?_,?_,m.s0,t,D,i,r,R,S,u]
  ·refine I.base.dU (k1.trans k2) (λ b a=>?_) x;simp only [fA,bt,da,dc] at a;rcases a with (z|z)|z
   ·rw [z];exact m.s0
   ·rw [z];exact l.s0
   ·rw [z];exact t
  ·refine I.aK.dU (k1.trans k2) (λ b a=>?_) B;simp only [fA,bt,da,dc] at a;rcases a with (z|z)|z
   ·rw [z];exact i
   ·rw [z];exact b6
   ·rw [z];exact r
theorem Uq
  (C:jn X scope cl N js) (af:X.warm=.t) (ae:X.ex=[]) (fg:X.stack=X.env::X.outer) (oL:X.env.frame=some X.env.locals) (xW:zt X E) (ar:gW X a4 iter oz)
  (gd:∀ aF pins s H a5,hU (cC X scope cl N aF pins s H a5) a4 g)
  (aG:∀ aF pins s H a5,kD (cC X scope cl N aF pins s H a5) cs cg)
  (he:∀ aF pins s H a5,vy (cC X scope cl N aF pins s H a5) E->bw (cC X scope cl N aF pins s H a5) elt bg)
  (av:∀ x,foldedSetIterable iter X.env x=pure x:=by intro _;rfl):bw X (.ListComp elt [#[a4,iter,cs,0]] scope pos) (jY js oz g cg bg):=by
 intro pins s σ H Q I h;rw [eval_ListComp];refine z4 rfl av C.l4 C.kind C.names (aU (ar pins s σ H _ I h) λ CL s1 U=>aU U λ ql s2 aa=>?_);obtain ⟨it,aF,ff,aC,aq,e,hT,T,iF,f2,aa⟩:=aa;subst e;obtain ⟨W,⟨m0,aY⟩,turn⟩:=aa s2.heap.objs.size hT.fresh;refine l_ (wpAny_newFunctionEnv C.k8 (by intro y jI;simp at jI) (λ hX kM oT=>?_) C.kind);have D:Inv X pins σ (upd aq s2.heap.objs.size (.lst [])) { s2 with heap:=s2.heap.push { cls:=.type "list", data:=.seq ([]).toArray } }:=hT.tb .nil (ej _);dsimp only at kM oT ⊢;generalize d6:({ s2 with heap:=s2.heap.push { cls:=.type "list", data:=.seq ([]:List Value).toArray } })=s3 at D;have jO:s2.heap.push { cls:=.type "list", data:=.seq ([]).toArray }=s3.heap:=by rw [<-d6]
 have C1:s2.gens=s3.gens:=by rw [<-d6]
 have C2:s2.os=s3.os:=by rw [<-d6]
 rw [jO] at kM oT ⊢;generalize rS:upd aq s2.heap.objs.size (.lst [])=G at D aY;have hz:s2.heap.objs.size<s3.heap.objs.size:=by rw [<-jO,eF];exact j0 _
 have nf:∀ b o,s2.heap.get? b=some o->s3.heap.get? b=some o:=λ b o q=>by rw [<-jO];exact a9 _ q
 have iH:∀ b o,s3.heap.get? b=some o->hX.get? b=some o:=λ b o q=>oT.extBut b o (cc (bu q)) (a9 _ q)
 have kI:∀ b∈aF,b<s3.heap.objs.size:=λ b l=>by
  obtain ⟨o,gw,_⟩:=T.obj 0 _ iF b l;exact bu (nf b o gw)
 have fst:∀ b∈aF,b∉cz X.stack:=λ b l z=>by
  rcases bt.mp (D.j5 b z) with q|q
  ·exact (f2 b l).2.1 q
  ·exact (f2 b l).2.2.1 q
 generalize sA:(λ e s'=>notedBy (model X.prog X.w) X.A (compEnvC scope cl s3.heap.objs.size X.env) (λ e g6=>compPost (model X.prog X.w) X.A X.a5 .n (el X pins σ Q) (.ref s2.heap.objs.size) s3.heap.objs.size (.error e) g6) e s')=L;have sX:(cC X scope cl N aF pins s3 G L).Ok:=by
  refine #[I.ok.mod,C.kind,I.ok.glob,I.ok.blt,bx _,λ x y c aV ed=>I.ok.inj x y c (C.sub _ _ aV) (C.sub _ _ ed),C.has,λ x c z=>absurd z dC,#[I.ok.hd.1,λ hw=>D.u7 hw λ b l=>(f2 b l).2.2.2.1],I.ok.frames,.inl Y,λ b l=>#[cc (kI b l),λ x c q=>(f2 b l).2.2.2.2.1 x c (C.sub _ _ q)],
   D.bs,dF I.ok.fI D.fe,λ b o q l=>?_,fst,D.stack,D.ix]
  rcases (f2 b l).2.2.2.1 with z|z
  ·exact I.ok.ji b o q z
  ·exact absurd (ey (bu q) (dF I.ok.fI z)) (ei _)
 have lB:Inv (cC X scope cl N aF pins s3 G L) [] (pick js σ) G { s3 with heap:=hX,toks:=s3.toks+([]:List (Str×Value)).length }:=by
  refine #[sX,Y,D.bare,cX.kept iH,#[_,kM,λ i x v aV ed hB=>?_],λ x c q=>?_,D.aK.fresh (bx _),λ x c q=>D.fm x c (C.sub _ _ q),λ p ah=>?_,D.aK.kept iH,?_]
  ·obtain ⟨j,k1,k2⟩:=A1 ed;obtain ⟨oA,h1,kA⟩:=C.seen i j x aV k1;obtain ⟨m,ao,eB⟩:=D.loc;obtain ⟨u,ov,lk⟩:=eB j x v oA k2 (.inr (.inl h1));refine #[u,ov,.inr #[kA,?_]];rcases lk with ⟨k,_⟩|⟨_,c,rT,dR,kK,jQ⟩
   ·have dQ:X.env.scope.names.lookup x=some .local:=k;rw [h1] at dQ;cases dQ
   ·obtain ⟨mQ,m4⟩:=C.has x kA;have:=C.sub _ _ m4;rw [rT] at this;cases this;exact #[c,m4,dR,iH _ _ kK,jQ]
  ·obtain ⟨v,dR,kK,jQ⟩:=D.cell x c (C.sub _ _ q);exact #[v,dR,iH _ _ kK,jQ]
  ·have m7:p∈X.gA++pins:=by simpa using ah
   obtain ⟨aV,ed,hB,ot,r_⟩:=D.pin p m7;refine #[iH _ _ aV,ed,cc (bu aV),λ z=>?_,r_];rcases bt.mp (D.j5 _ z) with q|q
   ·exact hB q
   ·exact ot q
  ·show (pick js σ).length=N.length;unfold pick;rw [bz,C.len]
 have stat:∀ {H':aD},(∀ b∈aF,H' b=.n)->∀ b∈aF,je (cC X scope cl N aF pins s3 G L) [] H' b:=λ ao b l =>
  #[ao b l,cc (kI b l),fst b l,.inl l,λ x c q=>(f2 b l).2.2.2.2.1 x c (C.sub _ _ q),λ p ah=>(f2 b l).2.2.2.2.2 p (by simpa using ah)]
 have nc:=T.keep 0 _ _ iF λ b l o q=>iH b o (nf b o q)
 have rW:∀ {iq:ef} {a:Addr},iv (cC X scope cl N aF pins s3 G L) iq a->cv X pins a:=λ {iq a} f=>by
  rcases f.s0 with z|z
  ·exact cv.of D ae z
  ·have:=f2 a z;refine #[?_,λ y=>this.2.1 y,λ x c q=>this.2.2.2.2.1 x c q,λ p ah=>this.2.2.2.2.2 p ah];rcases this.2.2.2.1 with y|y
   ·rw [ae] at y;cases y
   ·exact nE y
 have xX:vy (cC X scope cl N aF pins s3 G L) E:=by
  intro iq σ' H' s' e CI d head eB M gX mK S ku oM lE;show L (.ref e) s';rw [<-sA];show wpAny (model X.prog X.w) X.A (noteFrame (.ref e) X.env) (λ _ g6=>compPost (model X.prog X.w) X.A X.a5 .n (el X pins σ Q) (.ref s2.heap.objs.size) s3.heap.objs.size (.error (.ref e)) g6) _ s';have yq:X.A.frames=some (X.env::X.outer):=by rw [<-fg];exact I.ok.frames
  have cQ:s'.heap.FunFrames X.base (X.env::X.outer):=by rw [<-fg];exact M.stack
  have oG:d8 (X.env::X.outer)=cz X.stack:=by rw [fg];rfl
  refine zy yq cQ oL S ku λ U T gx lH hC t1=>?_
  obtain ⟨m,ao,_⟩:=M.loc;have zh:∀ b∈cz X.stack,b≠s3.heap.objs.size:=λ b l z=>by
   obtain ⟨_,o,aA,_⟩:=D.stack.mem l;have:=bu aA;rw [z] at this;exact ei _ this
  have yM:s3.heap.objs.size∉d8 (X.env::X.outer):=λ z=>by
   rw [oG] at z;exact zh _ z rfl
  have yN:s3.heap.objs.size∉e::eB:=λ z=>by
   rcases bt.mp z with y|y
   ·exact gX.loc y.symm
   ·exact (oM _ y).1.loc rfl
  have lY:T≠e:=λ z=>by
   obtain ⟨a6,_,jR,_⟩:=S;rw [z,jR] at gx;cases gx
  have jH:=iv.of M gx;have b6:=M.aK.gone gx;have yO:∀ b∈d8 (X.env::X.outer),b≠T:=λ b l z=>by
   obtain ⟨_,o,aA,_⟩:=cQ.mem l;rw [z,gx] at aA;cases aA
  have yF:U.Ns s3.heap.objs.size m:=by
   obtain ⟨o,aj,xO,aA,x5⟩:=ao;exact #[o,aj,xO,lH.1 _ _ yN yM aA,x5]
  refine #[m,yF,λ aa Z Pj yx=>?_];have k2:eK [s3.heap.objs.size] (d8 (X.env::X.outer)) U aa:=#[λ b o nl _ q=>(Z.2 b (λ z=>nl (by rw [z];exact cf.mpr Y))).trans q,λ b o nl _ q=>#[o.slots,(Z.2 b (λ z=>nl (by rw [z];exact cf.mpr Y))).trans q]]
  have jL:Rec aa e CI d (.ref T):=by
   obtain ⟨a6,vs,a1,a2,rN,oi,oj,rO⟩:=hC;exact #[a6,vs,(Z.2 e gX.loc).trans a1,a2,rN,oi,oj,rO]
  have gf:Ent aa T (rawInt X.env.locals):=by
   obtain ⟨mW,lN,a1,a2⟩:=t1;exact #[mW,lN,(Z.2 T jH.loc).trans a1,a2]
  unfold PySem.passOn;obtain ⟨a6,vs,a1,a2,rN,oi,oj,rO⟩:=id jL;refine ax (cV a1 oi oj ?_);rw [if_neg (show ¬ ((Value.ref T==Value.none)=.t) by simp)];refine ax (C6 jL gf lY yO λ hy fl k3 uS t3=>wpAny_throw ?_);have fb:=(lH.trans k2).trans k3;have sz:∀ b∈(e::eB)++[s3.heap.objs.size]++[T],(s3.heap.get? b=.n\/b∈aF)/\H' b=.n:=λ b l=>by
   rcases fA.mp l with z|z
   ·rcases fA.mp z with z|z
    ·rcases bt.mp z with z|z
     ·rw [z];exact #[gX.s0,mK]
     ·exact #[(oM b z).1.s0,(oM b z).2]
    ·rw [cf.mp z];exact #[.inl (nE (bx _)),M.free]
   ·rw [cf.mp z];exact #[jH.s0,b6]
  have uV:cX (cz X.stack) aF G H' s3.heap hy:=cX.GU (show cX (cz X.stack) aF G H' s3.heap s'.heap from M.base) fb (λ b l=>(sz b l).1) (λ b l=>.inl (by rw [<-oG];exact l));have ze:cU X.prog X.w H' hy:=cU.dU (show cU X.prog X.w H' s'.heap from M.aK) fb (λ b l=>(sz b l).2) (λ b l=>M.ix b (by show b∈cz X.stack;rw [<-oG];exact l));have lB:Inv X pins σ H' { s' with heap:=hy }:=D.kT (ch:=aF) M.os uV ze M.bare (λ b l=>#[(f2 b l).2.2.2.1,(f2 b l).2.1,(f2 b l).2.2.2.2.1,(f2 b l).2.2.2.2.2]);exact xW pins σ H' { s' with heap:=hy } e T CI d fl lB (rW gX) (rW jH) mK b6 lY uS t3 lE
 have P:∀ {α: Type} {t:Sem α} {oh: α -> Shared->Prop} {z:Shared},wpAny (model X.prog X.w) X.A t oh L z->wpAny (model X.prog X.w) X.A t oh (notedBy (model X.prog X.w) X.A (compEnvC scope cl s3.heap.objs.size X.env) λ e g6=>compPost (model X.prog X.w) X.A X.a5 .n (el X pins σ Q) (.ref s2.heap.objs.size) s3.heap.objs.size (.error e) g6) z:=λ {α t oh z} h=>by
  rw [<-sA] at h;exact h
 have loop:codeAny (model X.prog X.w) X.A (.compLoop (.ListComp elt [#[a4,iter,cs,0]] scope pos) 0 (.ref it) (.ref s2.heap.objs.size) (compEnvC scope cl s3.heap.objs.size X.env))
   (compPost (model X.prog X.w) X.A X.a5 .n (el X pins σ Q) (.ref s2.heap.objs.size) s3.heap.objs.size) { s3 with heap:=hX,toks:=s3.toks+([]:List (Str×Value)).length }:=by
  refine Az (λ n s'=>∃ i σ' H' ys,Inv (cC X scope cl N aF pins s3 G L) [] σ' H' s'/\ff i s'.heap/\(∀ b∈aF,H' b=.n)/\W i n σ' H' ys) ?_ m0 #[0,_,G,[],lB,nc,λ b l=>?_,aY]
  ·rintro n s5 ⟨i,σ5,O,ys,i1,nd,m5,mZ⟩;obtain ⟨C8,way⟩:=turn i n σ5 O ys mZ;rcases way with ⟨stop,lM⟩|⟨go,fw,mO,lF,step⟩
   ·refine P (aU (T.done (cC X scope cl N aF pins s3 G L) Y Y Y Y af i [] s5 σ5 O _ i1 (stat m5) nd stop) ?_);rintro r e1 ⟨S,R⟩;subst S;obtain ⟨m,ao,_⟩:=R.loc;refine #[m,ao,λ h' Z=>#[.ref s2.heap.objs.size,O,?_,Y,lM]];have low:∀ b o,s3.heap.get? b=some o->b≠s3.heap.objs.size:=λ b o q=>cc (bu q)
    have same:∀ b,b≠s3.heap.objs.size->h'.get? b=e1.heap.get? b:=λ b l=>Z.2 b l
    have B:=R.base;refine D.kT (s':={ e1 with heap:=h' }) (H':=O) (ch:=aF) R.os #[λ b o q gz U aa=>?_,λ b o q gz U aa=>?_,B.free,λ b o q aa=>?_,B.ha,B.gH,B.g_] (λ a o q=>?_) R.bare (λ b l=>#[(f2 b l).2.2.2.1,(f2 b l).2.1,(f2 b l).2.2.2.2.1,(f2 b l).2.2.2.2.2])
    ·exact (same b (low b o q)).trans (B.keep b o q gz U aa)
    ·obtain ⟨cu,z⟩:=B.slot b o q gz U aa;exact #[cu,(same b (low b o q)).trans z]
    ·obtain ⟨cZ,z⟩:=B.there b o q aa;exact #[cZ,(same b (low b o q)).trans z]
    ·have mV:∀ c u,O c=some u->c≠s3.heap.objs.size:=λ c u z y=>by
      have:=R.free;rw [y] at z;rw [show O s3.heap.objs.size=.n from this] at z;cases z
     refine (R.aK a o q).ij (λ c u sC z=>(same c ?_).trans z) (λ _ z=>z) λ _ _ z=>z
     rcases sC with fx|fx
     ·rw [fx];exact mV a o q
     ·exact mV c _ fx
   ·refine P (aU (T.item (cC X scope cl N aF pins s3 G L) Y Y Y Y af i [] s5 σ5 O _ i1 (stat m5) nd go) ?_);rintro r e1 ⟨u,S,lD⟩;subst S;refine P (aU lD ?_);rintro _ hD ⟨x,fa,od,mX,sg,jT,sv⟩;have si:=od.pinned (stat sv) (T.obj _ _ jT);refine P (aU (gd aF pins s3 G L _ hD σ5 fa x u _ si mX (step x fa sg)) ?_);rintro _ i6 ⟨σ8,mI,oe,sa⟩;refine P (aU (aG aF pins s3 G L _ i6 σ8 mI _ oe sa) ?_);rintro k gZ ⟨mJ,mL,hY⟩;have fin:∀ {s':Shared} {σ':St} {H':aD} {g9:bh},Inv (cC X scope cl N aF pins s3 G L) ([]++pA aF hD.heap) σ' H' s'->mO σ' H' g9 ->
      ∃ gY,gY<n/\∃ i σ' H' ys,Inv (cC X scope cl N aF pins s3 G L) [] σ' H' s'/\ff i s'.heap/\(∀ b∈aF,H' b=.n)/\W i gY σ' H' ys:=λ {s' σ' H' g9} jF r9=>by
     obtain ⟨gY,hm,wv⟩:=lF σ' H' g9 r9;refine #[gY,hm,i+1,σ',H',g9,jF.rn,T.keep _ _ _ jT λ b l o q=>(jF.pin (b,o) (fq _ (fq _ (n3 l q)))).1,λ b l=>?_,wv];obtain ⟨o,q,_⟩:=T.obj _ _ jT b l;exact (jF.pin (b,o) (fq _ (fq _ (n3 l q)))).2.1
    cases k with
    | false =>
     rw [if_neg dC] at hY ⊢;exact fin mL hY.2
    | true =>
     rw [if_pos rfl] at hY ⊢;refine P (aU (he aF pins s3 G L xX _ gZ σ8 mJ _ mL hY) ?_);rintro y ky ⟨jM,ob,rI,sf,sy,sb⟩;refine P (aU (ue _ ky σ8 ob (.ref s2.heap.objs.size) [jM] _ [y] (λ _ i0=>mO σ8 i0 (ys++[jM])) rI Y (.cons sf .nil) #[_,ys,jM,Y,Y,sy,fw,sb]) ?_);rintro _ sB ⟨_,i0,rJ,_,sd⟩;exact fin rJ sd
  ·rw [<-rS,bC]
   ·exact (f2 b l).1
   ·obtain ⟨o,gw,_⟩:=T.obj 0 _ iF b l;exact cc (bu gw)
 have goal:codeAny (model X.prog X.w) X.A (.compStart (.ListComp elt [#[a4,iter,cs,0]] scope pos) 0 (.ref it) (.ref s2.heap.objs.size) (compEnvC scope cl s3.heap.objs.size X.env))
   (compPost (model X.prog X.w) X.A X.a5 .n (el X pins σ Q) (.ref s2.heap.objs.size) s3.heap.objs.size) { s3 with heap:=hX,toks:=s3.toks+([]).length } :=
  z5 loop (T.self _ 0 _ _ _ nc loop)
 subst d6;exact goal
theorem UR
  (C:jn X scope cl N js) (af:X.warm=.t) (ae:X.ex=[]) (c:X.stack=X.env::X.outer) (a:X.env.frame=some X.env.locals) (d:zt X E) (ar:iA X a4 iter e)
  (b:∀ aF pins s H a5,iz (cC X scope cl N aF pins s H a5) a4 g)
  (aG:∀ aF pins s H a5,qd (cC X scope cl N aF pins s H a5) cs cg)
  (he:∀ aF pins s H a5,vy (cC X scope cl N aF pins s H a5) E->aZ (cC X scope cl N aF pins s H a5) elt bg)
  (av:∀ x,foldedSetIterable iter X.env x=pure x:=by intro _;rfl):aZ X (.ListComp elt [#[a4,iter,cs,0]] scope pos) (jY js e g cg bg) :=
 #[Uq C af ae c a d ar.o (λ aF pins s H a5=>(b aF pins s H a5).o) (λ aF pins s H a5=>(aG aF pins s H a5).o) (λ aF pins s H a5 k=>(he aF pins s H a5 k).o) av]
end bj
namespace CT
open PySem PyProof.Rows
section
variable {A:Around} {E:c0} {s:Shared}
noncomputable def zP (items:ee) (x:Value) (i:Nat) (_:Option PySem.Fin×PUnit):Sem (ForInStep (Option PySem.Fin×PUnit)):=match items[i]? with
 | some y=>do
  let b ← eqBool y x
  if b=.t then do
   let g ← retInt (i:Int)
   pure (ForInStep.done (some g,.unit))
  else pure (ForInStep.yield (.n,.unit))
 | _=>pure (ForInStep.yield (.n,.unit))
theorem seek {e:Value->Bool}
  (b) (hit:e items[j]=.t) (c:∀ m (hm:m<items.size),m<j->e items[m]=.f) (he:∀ y,y∈items->SeqAt.EqAt A s y x (e y))
  (q:Q (some (.done (.ret (.int j s.toks))),⟨⟩) { s with toks:=s.toks+1 }) (d) :
  ∀ k n r,j=k+d->d<n->wpAny (model prog w) A (forIn (List.range' k n) r (zP items x)) Q E s:=by
 induction d with
 | zero =>
  intro k n r h ao;obtain ⟨n,rfl⟩:∃ m,n=m+1:=#[n-1,.au]
  have a:k=j:=by omega
  rw [List.range'_succ,List.forIn_cons,a];unfold zP;rw [wj b];refine ax (ax (he _ (Array.getElem_mem b) prog w _ _ ?_));rw [hit,if_pos rfl];exact ax (ax (wpAny_mkInt (a_ (a_ (a_ q)))))
 | succ d f =>
  intro k n r h ao;obtain ⟨n,rfl⟩:∃ m,n=m+1:=#[n-1,.au]
  have a:k<items.size:=by omega
  rw [List.range'_succ,List.forIn_cons];refine ax ?_;unfold zP;rw [wj a];refine ax (he _ (Array.getElem_mem a) prog w _ _ ?_);rw [c k a .au,if_neg .aB];exact a_ (f (k+1) n _ .au .au)
end
theorem Yn (t) (items) (x) (e:Value->Bool) (j:Nat) (a) (hit:e items[j]=.t) (b:∀ m (hm:m<items.size),m<j->e items[m]=.f) :
  Meets (Builtin.«tuple.index» ⟨[.ref t,x],[]⟩) (λ A R s=>s.heap.IsTuple t items/\(∀ y,y∈items->SeqAt.EqAt A.in1 s y x (e y))/\R (.ok (.ret (.int j s.toks))) { s with toks:=s.toks+1 }):=by
 intro prog w A R s h;obtain ⟨aG,he,h⟩:=h;obtain ⟨o,aA,af,n,hd⟩:=id aG;have c:=λ Q q=>seek (E:=λ e s'=>R (.error e) s') (Q:=Q) (prog:=prog) (w:=w) a hit b he q j 0 (min items.size items.size) (.n,.unit) .au .au
 refine ax (wpAny_of_eq Y ?_);dsimp only;refine ax ?_;refine ax (fO aA hd (a_ ?_));refine ax (a_ (ax (a_ ?_)));rw [Std.Legacy.Range.forIn_eq_forIn_range'];refine ax ?_;rw [show [:min items.size items.size].size=min items.size items.size by simp [Std.Legacy.Range.size]];exact c _ (a_ h)
end CT
namespace bj
open PySem PySem.Spec PyProof.Rows
section
variable {X:aW}
def UZ:V->bh->aD->b2->Prop:=λ x vs H Q=>∃ (t:Addr) (ns:bB) (k:Int),x=.ref t/\vs=[.int k]/\H t=some (.tup (ns.map V.int))/\k∈ns/\∀ j:Nat,ns[j]?=some k->(∀ m,m<j->ns[m]?≠some k)->Q (.int j) H
theorem HZ:∀ {ns:bB},k∈ns->∃ j:Nat,ns[j]?=some k/\∀ m,m<j->ns[m]?≠some k
 | [],h=>by cases h
 | n::ns,h=>by
  by_cases e:n=k
  ·exact #[0,by rw [e];rfl,λ m hm=>by omega]
  ·obtain ⟨j,U,aa⟩:=HZ ((bt.mp h).resolve_left λ z=>e z.symm);refine #[j+1,by simpa using U,λ m hm=>?_];cases m with
   | zero=>intro z;exact e (cE z)
   | succ m=>intro z;exact aa m .au (by simpa using z)
theorem WR:h3 X "tuple.index" UZ:=by
 intro pins s σ H x vs v us Q I C B h;obtain ⟨t,ns,k,rfl,rfl,l,p,q⟩:=h;cases C;obtain ⟨u,rfl,c⟩:=B.one;obtain ⟨a8,rfl⟩:=c;obtain ⟨a,r,dx,_⟩:=I.tuple (aX.of l);obtain ⟨j,b,d⟩:=HZ p;have hlen:=r.length;rw [bz] at hlen;have D:=(dr.mp b).1;have at_:∀ m,(hm:m<a.length)->∃ i t',a[m]=.int i t'/\ns[m]?=some i:=by
  intro m hm;have f:m<ns.length:=by omega
  obtain ⟨u,g,c⟩:=r.get (by rw [et,cK f];rfl);obtain ⟨t',rfl⟩:=c;refine #[ns[m],t',?_,cK f];rw [cK hm] at g;exact cE g
 obtain ⟨o,aA,af,n,hd⟩:=id dx;refine jr PySem.F.slot_tuple_index #[_,aA,af] PySem.F.entry_tuple_index (PySem.F.args_tuple_index_2 _ _)
  (CT.Yn t _ (.int k a8) (FZ k) j (by simp;omega) ?_ ?_) #[dx,λ y A=>?_,#[.int j,H,I.tok _,#[s.toks,Y],q j b d]]
 ·obtain ⟨i,t',U,aa⟩:=at_ j .au;rw [b] at aa;cases aa;rw [show a.toArray[j]'(by simp;omega)=a[j]'(by omega) by simp,U];simp [FZ]
 ·intro m hm w;obtain ⟨i,t',U,aa⟩:=at_ m (by simpa using hm);rw [show a.toArray[m]=a[m]'(by simpa using hm) by simp,U];have:=d m w;rw [aa] at this;exact nC.mpr λ z=>this (by rw [z])
 ·obtain ⟨m,hm,e⟩:=List.getElem_of_mem (by simpa using A:y∈a);obtain ⟨i,t',U,_⟩:=at_ m hm;rw [<-e,U];exact z2 i t' k a8
def EB (r:V->bh->aD->b2->Prop) (to:TE) (t:c2):TE:=λ σ H Q=>to σ H λ x H1=>(∃ p xs,x=.ref p/\H1 p=some (.tup xs))/\t σ H1 λ xs aq=>r x xs aq Q
variable {o e:Expr} {aj:List Expr} {to:TE} {t:c2} {name:Str} {apos bR:Pos} {id:String} {r:V->bh->aD->b2->Prop}
theorem QU (w:PlainAttrs "tuple") (slot:Slot "tuple" name id) (u:typeOf (.builtin id)=pure (.type "method_descriptor")) (hm:h3 X id r) (aA:bw X o to) (ak:fE X (e::aj) t)
  (l:attributeBase o name X.env (eval o X.env)=eval o X.env:=by rfl)
  (m:((backTo bR (starEach (e::aj) X.env)).all (λ x=> !x.1)&&(backToKw bR (keywordEach [] X.env)).all (λ x=>x.1.isSome)&&decide ((e::aj).length+([]:List Keyword).length+(if ([]:List Keyword).isEmpty then 0 else 1)<30))=.t:=by rfl)
  (n:(apos.endLine==bR.line)=.t:=by rfl) (av:starEach (e::aj) X.env=(.f,eval e X.env)::starEach aj X.env:=by rfl) (q:(backTo bR (starEach aj X.env)).any (·.1)=.f:=by rfl) :
  bw X (.Call (.Attribute o name apos) (e::aj) [] bR) (EB r to t):=by
 intro pins s σ H Q I h;refine vZ l m n rfl (aU (aA pins s σ H _ I h) ?_);rintro v s1 ⟨x,H1,b,d,⟨p,xs,g,ah⟩,y⟩;subst g;have i:=d;subst i;obtain ⟨_,B,_,bD,g1,g2,g3,k⟩:=(b.aK p _ ah)
 refine #["tuple", id,w,slot,u,#[bD,g1,g2],λ a j=>by cases j;exact #[bD,g1,k],?_];have c:=ak bR pins s1 σ H1 _ b y;rw [av] at c ⊢;refine tJ (by show (.f||(backTo bR (starEach aj X.env)).any (·.1))=.f;rw [q]<;>rfl) (pF ?_);exact aU c λ us s2 ⟨vs,aq,f,A,z⟩=>hm pins s2 σ aq _ vs _ us Q f d A z
theorem Rl (g:PlainAttrs "tuple") (slot:Slot "tuple" name id) (f:typeOf (.builtin id)=pure (.type "method_descriptor")) (hm:h3 X id r) (aA:aZ X o to) (ak:dG X (e::aj) t)
  (a:attributeBase o name X.env (eval o X.env)=eval o X.env:=by rfl)
  (b:((backTo bR (starEach (e::aj) X.env)).all (λ x=> !x.1)&&(backToKw bR (keywordEach [] X.env)).all (λ x=>x.1.isSome)&&decide ((e::aj).length+([]:List Keyword).length+(if ([]:List Keyword).isEmpty then 0 else 1)<30))=.t:=by rfl)
  (c:(apos.endLine==bR.line)=.t:=by rfl) (av:starEach (e::aj) X.env=(.f,eval e X.env)::starEach aj X.env:=by rfl) (d:(backTo bR (starEach aj X.env)).any (·.1)=.f:=by rfl) :
  aZ X (.Call (.Attribute o name apos) (e::aj) [] bR) (EB r to t):=#[QU g slot f hm aA.o ak.o a b c av d]
end
noncomputable def yh (x:Str):ht:=#[λ i Z=>i<x.cps.size,λ i H y H'=>H'=H/\∃ c,x.cps[i]?=some c/\y=.str ⟨[c].toArray⟩,λ i Z=>x.cps.size<=i]
theorem Vc (r:c=.t) {K:aP} (x) (t) (it):Turn P w K c a4 (yh x) [it] it (λ i h=>h.IsStrIter it "str_ascii_iterator" x t i) where
 mem:=by simp
 obj:=λ i h st b a=>by
  have e:b=it:=by simpa using a
  subst e;obtain ⟨o,e,c,d⟩:=st;exact #[o,e,λ v z=>by rw [d] at z;cases z]
 keep:=λ i h h' st k=>by
  obtain ⟨o,e,c,d⟩:=st;exact #[o,k it .zs o e,c,d]
 item:=by
  intro X l hw j n af i pins s σ H E I hf st m;subst l hw j;have ar:=m;have ae:=wj ar;obtain ⟨f0,f1,f2,f,f4,g⟩:=hf it .zs;refine wpAny_pyNext_ascii_item st ae λ h' cQ u=>?_
  have p:Inv X pins σ H { s with heap:=h',toks:=s.toks+1 }:=I.turned (λ b o a e=>(u.2 b (by simpa using a)).trans e) f0 f1 f f4 g;obtain ⟨o,e,c,d⟩:=id cQ;exact #[_,Y,vA e c d .aB #[.str #[[x.cps[i]].toArray],H,p,#[_,Y],#[Y,_,ae,Y],cQ,λ b a=>(hf b a).1]]
 done:=by
  intro X l hw j n af i pins s σ H E I hf st m;subst l hw j;have ar:=m;obtain ⟨f0,f1,f2,f,f4,g⟩:=hf it .zs;exact wpAny_pyNext_ascii_end (I.ok.hd.1 (n.trans r)) st (Array.getElem?_eq_none ar) λ h' q=>#[Y,I.turned (λ b o a e=>q b o a e) f0 f1 f f4 g]
 self:=λ Z Z Z Z Z st h=>wpAny_pyIter_striter_ascii st h
section
variable {X:aW} {a4:Expr}
def Ef (c6:TE):TI:=λ σ H R=>c6 σ H λ v H1=>∃ x,v=.str x/\x.cps.all (· < 128)=.t/\R (yh x) H1
theorem Q5 (f:bw X l c6) (d:X.calm=.t:=by rfl):gW X a4 l (Ef c6):=by
 intro pins s σ H R I h;refine aU (f pins s σ H _ I h) ?_;rintro v s1 ⟨y,H1,a,i,g⟩
 obtain ⟨x,e,ak,q⟩:=g;subst e;obtain ⟨t,rfl⟩:=i
 refine wpAny_pyIter_ascii ak ?_;refine #[s1.heap.objs.size,[s1.heap.objs.size],_,_,H1,Y,a.kept λ b o e=>a9 _ e,Vc d x t _,#[_,cJ _ Y,Y,Y],λ b c=>?_,q];have e:b=s1.heap.objs.size:=by simpa using c
 subst e;exact a.nh (bx _) (a.aK.fresh (bx _))
theorem vT (b:aZ X l c6) (a:X.calm=.t:=by rfl):iA X a4 l (Ef c6):=#[Q5 b.o a]
theorem nZ:cI X (binaryOp .Add) (λ x y H Q=>∃ a b,x=.str a/\y=.str b/\a.length+b.length<=sizeLine/\Q (.str (a++b)) H):=by
 intro pins s σ H x y v u Q I d e h;obtain ⟨a,b,rfl,rfl,c,q⟩:=h;obtain ⟨t,rfl⟩:=d
 obtain ⟨t',rfl⟩:=e
 exact add_str (λ t' a8=>#[.str _,H,I.tok _,#[_,Y],q]) c
end
end bj
namespace bV
open PySem bj ck
theorem w1 (ao:x.cps.size<=sizeLine) (ah:∃ u,pick js σ=u::σ0) (h:H1 D=.n)
  (aG:∀ i c H' R,ay H1 H'->x.cps[i]?=some c->(∀ aq,ay H' aq->R (t i) aq)->cg (some (.str ⟨[c].toArray⟩)::σ0) H' R)
  (av:∀ i c H' R,ay H1 H'->x.cps[i]?=some c->t i=.t->(∀ aq,ay H' aq->R (f i) aq)->bg (some (.str ⟨[c].toArray⟩)::σ0) H' R)
  (q:∀ H',ay H1 H'->H' D=some (.lst (((List.range x.cps.size).filter t).map f))->Q (.ref D) H'):hL (yh x) D js (e4 0) cg bg σ H1 Q:=by
 obtain ⟨j,ah⟩:=ah;refine Bd ao (λ i σ' H' zs=>(∃ u,σ'=u::σ0)/\ay H1 H'/\H' D=some (.lst zs)/\zs.length<=i/\zs=((List.range i).filter t).map f) #[#[j,ah],ay.new h,bN,bx _,Y] (λ i σ' H' zs _ ⟨_,_,a,g,_⟩=>#[a,g]) (λ i σ' H' zs ar _=>ar) (λ σ' H' zs ⟨_,s',a,_,e⟩=>#[bx _,?_]) ?_
 ·refine q H' s' ?_;rw [a,e]
 ·rintro i σ' H' zs v aq ar ⟨⟨u,rfl⟩,s',a,g,e⟩ ⟨rfl,c,af,rfl⟩;refine aG i c _ _ s' af λ k s3=>?_
  cases b:t i with
  | true =>
   refine av i c _ _ (s'.trans s3) af b λ l s4=>#[s4 _ _ (s3 _ _ a),#[_,Y],?_,bN,?_,?_]
   ·intro c o d;rw [bC (cq d h)];exact s4 _ _ (s3 _ _ (s' c o d))
   ·rw [c9];show zs.length+1<=i+1;omega
   ·rw [xw,e];simp [b]
  | false =>
   refine #[s3 _ _ a,#[_,Y],s'.trans s3,s3 _ _ a,.au,?_];rw [xw,e];simp [b]
end bV
namespace bj
open PySem PySem.Spec PyProof.Rows bV
section
variable {X:aW} {b8:i9} {k:Nat} {f C:Addr} {fd:FuncData} {ai:bA} {sp:bG} {c7:bh} {ds:List Value} {E:cL} {x m fl:Str} {p pos apos pos':Pos} {e o value:Expr} {aj:List Expr} {aN e2:TE} {t:c2}
theorem hj (he:aZ X e aN) (a:attributeBase e fl X.env (eval e X.env)=eval e X.env):aZ X (.Attribute e fl pos) (EC X.K aN fl):=#[QV he.o a]
theorem tD (ak:aZ X o aN) (aI:aZ X value e2) (av:swapsWith value (some (.Attribute o fl pos')) pos.line X.env=pure .f):e0 X (.Assign [.Attribute o fl pos'] value pos) (Ew X.K aN e2 fl):=#[Q9 ak.o aI.o av]
theorem ho {i:Sem Bool} (he:aZ X o aN) (c:hE X.K C) (hm:Meth X.K C m f) (F:dB X.prog X.w X.K X.mg X.base b8 k f fd ai sp) (g:cR k X.A) (b:Binds X.K fd ai ds) (hd:Vals c7 ds) (ae:Passes b8 X E) (ak:dG X (e::aj) t)
  (h:starEach (e::aj) X.env=(.f,eval e X.env)::starEach aj X.env:=by rfl) (d:(backTo pos (starEach aj X.env)).any (·.1)=.f:=by rfl)
  (aG:eval (.Call (.Attribute o m apos) (e::aj) [] pos) X.env=(do
   let a ← eval o X.env
   standAt apos.atName
   let (f,first) ← holding [a] (getMethod a m i)
   callWith pos f first (backTo pos (starEach (e::aj) X.env)) (backToKw pos (keywordEach [] X.env))):=by rfl) :
  aZ X (.Call (.Attribute o m apos) (e::aj) [] pos) (vI C m sp c7 E aN t):=#[Sk he.o c hm F g b hd ae ak.o h d aG]
theorem He {g:Sem Bool} (he:aZ X o aN) (c:hE X.K C) (hm:Meth X.K C m f) (F:dB X.prog X.w X.K X.mg X.base b8 k f fd ai sp) (d:cR k X.A) (b:Binds X.K fd ai ds) (hd:Vals c7 ds) (ae:Passes b8 X E)
  (aG:eval (.Call (.Attribute o m apos) [] [] pos) X.env=(do
   let a ← eval o X.env
   standAt apos.atName
   let (f,first) ← holding [a] (getMethod a m g)
   callWith pos f first (backTo pos (starEach [] X.env)) (backToKw pos (keywordEach [] X.env))):=by rfl) :
  aZ X (.Call (.Attribute o m apos) [] [] pos) (vI C m sp c7 E aN gk):=#[Ux he.o c hm F d b hd ae aG]
theorem SJ (M:p0 X.K C f) (F:dB X.prog X.w X.K X.mg X.base b8 k f fd ai sp) (g:cR (k+1) X.A) (c:cy X x) (hm:X.mg x=some (.ref C)) (a:Binds X.K fd ai ds) (hd:Vals c7 ds) (ae:Passes b8 X E)
  (ak:dG X (e::aj) t) (b:(x==("__debug__" : Str))=.f:=by decide) (he:starEach (e::aj) X.env=(.f,eval e X.env)::starEach aj X.env:=by rfl) (d:(backTo pos (starEach aj X.env)).any (·.1)=.f:=by rfl) :
  aZ X (.Call (.Name x p) (e::aj) [] pos) (vH C sp c7 E t):=#[Sj M F g c hm a hd ae ak.o b he d]
theorem Hd (M:p0 X.K C f) (F:dB X.prog X.w X.K X.mg X.base b8 k f fd ai sp) (d:cR (k+1) X.A) (c:cy X x) (hm:X.mg x=some (.ref C)) (a:Binds X.K fd ai ds) (hd:Vals c7 ds) (ae:Passes b8 X E)
  (b:(x==("__debug__" : Str))=.f:=by decide):aZ X (.Call (.Name x p) [] [] pos) (vH C sp c7 E gk):=#[Uw M F d c hm a hd ae b]
end
noncomputable abbrev b0 (x:Str):Key:=Sum.inr x
section
variable {X:aW}
theorem IL (b:X.A.units+1<cLine):cI X (compareOp .NotIn) (λ y x H Q=>∃ (n:Str) (d:Addr) (kvs:List (Key×V)),y=.str n/\x=.ref d/\H d=some (.cM kvs)/\Q (.aO (!(bU kvs (b0 n)).isSome)) H):=by
 intro pins s σ H y x u v Q I e c h;obtain ⟨n,d,kvs,rfl,rfl,hd,q⟩:=h;cases c;exact RK b I (ie.k (k:=b0 n) hd) e λ s3 a=>#[.aO _,H,a,Y,q]
inductive En (Q:b2) (x y:V) (aq:aD):Prop
 |mk (d:Addr) (n:Str) (kvs:List (Key×V)) (v:V):x=.ref d->y=.str n->aq d=some (.cM kvs)->bU kvs (b0 n)=some v->Q v aq->En Q x y aq
def RB (a ty:TE):TE:=λ σ H Q=>a σ H λ x H1=>ty σ H1 λ y aq=>En Q x y aq
theorem UT (e:X.A.units+1<cLine) (aA:aZ X o r) (ar:aZ X i ty) (av:y8 i):aZ X (.Subscript o i pos) (RB r ty):=#[by
 intro pins s σ H Q I h;refine Gs PySem.F.slot_dict_getitem.lookup av (aU (aA.o pins s σ H _ I h) ?_);rintro u s1 ⟨x,H1,b,m,f⟩;refine aU (ar.o pins s1 σ H1 _ b f) ?_;rintro t s2 ⟨y,aq,a,p,j⟩;obtain ⟨d,n,kvs,v,rfl,rfl,hd,aI,q⟩:=j;obtain rfl:u=Value.ref d:=m;have g:ie aq d (.str n) (some v):=by rw [<-aI];exact ie.k (k:=b0 n) hd
 exact #[Jc a g,HW e a g p λ b1 s3 c l=>#[v,aq,c,l,q]]]
def Rw (c ty e2:TE):cS:=λ D σ H=>e2 σ H λ v H1=>c σ H1 λ x aq=>ty σ aq λ y b=>∃ (d:Addr) (n:Str) (kvs:List (Key×V)),x=.ref d/\y=.str n/\b d=some (.cM kvs)/\kvs.length<sizeLine/\∀ a,bV.cB d b a->a d=some (.cM (putK kvs (b0 n) v))->D.bf σ a
theorem UY (g:X.A.units+1<cLine) (aA:aZ X o z) (ar:aZ X i ty) (aI:aZ X value e2) (av:swapsWith value (some (.Subscript o i pos')) pos.line X.env=pure .f) :
  e0 X (.Assign [.Subscript o i pos'] value pos) (Rw z ty e2):=#[by
 intro pins s σ H D I h;refine Ac (aU (aI.o pins s σ H _ I h) ?_) av;rintro r s1 ⟨v,H1,a,p,j⟩;refine aU (aA.o pins s1 σ H1 _ a j) ?_;rintro u s2 ⟨x,aq,b,t,l⟩;refine aU (ar.o pins s2 σ aq _ b l) ?_;rintro C s3 ⟨y,B,c,w,m⟩;obtain ⟨d,n,kvs,rfl,rfl,hd,f,q⟩:=m;obtain rfl:u=Value.ref d:=t;exact Be g c (ng.k (k:=b0 n) hd f) w p λ s4 e=>#[σ,_,e,q _ bV.cB.upd bN]]
def Rp:V->bh->aD->b2->Prop:=λ x vs H Q=>∃ (d:Addr) (n:Str) (kvs:List (Key×V)) (v:V),x=.ref d/\vs=[.str n]/\H d=some (.cM kvs)/\bU kvs (b0 n)=some v/\∀ H',bV.cB d H H'->H' d=some (.cM (mb kvs (b0 n)))->Q v H'
theorem Ub:h3 X "dict.pop" Rp:=by
 intro pins s σ H x vs v us Q I f c h;obtain ⟨d,n,kvs,y,rfl,rfl,hd,aI,q⟩:=h;cases f;obtain ⟨u,rfl,b⟩:=c.one;exact PY I hd (k:=b0 n) b aI (.inl Y) λ b1 s' a e=>#[y,_,a,e,q _ bV.cB.upd bN]
def Ro:V->bh->aD->b2->Prop:=λ x vs H Q=>∃ (d:Addr) (n:Str) (kvs:List (Key×V)),x=.ref d/\vs=[.str n]/\H d=some (.cM kvs)/\Q ((bU kvs (b0 n)).getD .aQ) H
theorem Ua:h3 X "dict.get" Ro:=by
 intro pins s σ H x vs v us Q I c b h;obtain ⟨d,n,kvs,rfl,rfl,hd,q⟩:=h;cases c;obtain ⟨u,rfl,a⟩:=b.one;obtain ⟨t,rfl⟩:=a
 obtain ⟨_,hm,xs,rel,dd⟩:=tk I.aK hd;refine call_meetsIn qW dd.typeIs Ad (PySem.F.args_dict_get_2 _ _) (meets_dict_get (gT X.prog X.w) d (Jj X.prog X.w n t) hm) #[_,dd.mapOf,?_];exact #[(bU kvs (b0 n)).getD .aQ,H,I.tok _,(rel.val (b0 n)).getD Y,q]
theorem Vq:ep X (.builtin "len") (λ xs H Q=>∃ (d:Addr) (kvs:List (Key×V)),xs=[V.ref d]/\H d=some (.cM kvs)/\Q (.int kvs.length) H):=by
 intro pins s σ H xs us Q I r h;obtain ⟨d,kvs,rfl,hd,q⟩:=h;obtain ⟨u,rfl,b⟩:=vals1 r;cases b;exact PX I (.inl hd) λ t s' a=>#[.int _,H,a,#[t,Y],q]
end
end bj
namespace bV
open PySem bj ck
theorem uk (ao:xs.length<=sizeLine) (ah:∃ u,pick js σ=u::σ0) (j:H1 D=.n)
  (ak:H1 a=some (.lst xs)) (b:Nat->aD->bh->Prop) (h0:b 0 (upd H1 D (.lst [])) [])
  (k:∀ i H' aq zs ys,H' D=some (.lst ys)->b i H' zs->cB D H' aq->b i aq zs)
  (av:∀ i x H' zs R,ay H1 H'->xs[i]?=some x->H' D=some (.lst zs)->zs.length=i->b i H' zs->(∀ z g,ay H' g->b (i+1) g (zs++[z])->R z g)->bg (some x::σ0) H' R)
  (q:∀ H' zs,ay H1 H'->H' D=some (.lst zs)->zs.length=xs.length->b xs.length H' zs->Q (.ref D) H'):hL (m1 K a) D js (e4 0) kc bg σ H1 Q:=by
 obtain ⟨n,ah⟩:=ah;refine Bd ao (λ i σ' H' zs=>(∃ u,σ'=u::σ0)/\ay H1 H'/\H' D=some (.lst zs)/\zs.length=i/\b i H' zs) #[#[n,ah],ay.new j,bN,Y,h0] (λ i σ' H' zs _ ⟨_,_,d,f,_⟩=>#[d,Nat.le_of_eq f]) (λ i σ' H' zs ar ⟨_,s',_⟩=>#[_,xs[i],aS.of (s' _ _ ak),cK ar]) (λ σ' H' zs ⟨_,s',d,f,e⟩=>#[#[_,aS.of (s' _ _ ak),bx _],q H' zs s' d f e]) ?_;rintro i σ' H' zs x aq ar ⟨⟨u,rfl⟩,s',d,f,e⟩ ⟨rfl,ae⟩;have l:=ae _ (aS.of (s' _ _ ak));refine av i x _ zs _ s' l d f e λ z g s4 m=>#[s4 _ _ d,#[_,Y],?_,bN,by rw [c9,f];rfl,k _ _ _ _ _ (s4 _ _ d) m cB.upd]
 intro c o h;rw [bC (cq h j)];exact s4 _ _ (s' c o h)
end bV
namespace ck
open PySem PySem.NumText
theorem F3 {α: Type} {p: α -> Bool} {l:List α} {x: α} (h:x∈l.filter p):x∈l:=(hO.mp h).1
noncomputable abbrev aL (c:Nat):Str:=#[[c].toArray]
noncomputable abbrev ba (x:Str):h2:=x.cps.toList
theorem n1 (a b):ba (a++b)=ba a++ba b:=by
 show (a.cps++b.cps).toList=_;rw [Array.toList_append]
theorem fC (a):(ba a).length=a.length:=e6
theorem t6 (h:ba a=ba b):a=b:=eG Str.mk (z9.mp h)
theorem ka (a):Str.empty++a=a:=t6 (by rw [n1];rfl)
theorem len_app (a b:Str):(a++b).length=a.length+b.length:=by rw [<-fC,<-fC,<-fC,n1,c9]
def jf (c:Nat) (x:Str):Prop:=c∉ba x
theorem jf.app (h:jf c a) (g:jf c b):jf c (a++b):=by
 unfold jf;rw [n1,fA];exact λ z=>z.elim h g
theorem FP:∀ {p q a b:h2},c∉p->c∉q->p++c::a=q++c::b->p=q/\a=b
 | [],[],a,b,_,_,e=>#[Y,(wk e).2]
 | [],y::q,a,b,_,d,e=>absurd (wk e).1 (λ z=>d (z ▸ dn))
 | x::p,[],a,b,ah,_,e=>absurd (wk e).1 (λ z=>ah (z ▸ dn))
 | x::p,y::q,a,b,ah,d,e=>by
  obtain ⟨f,g⟩:=wk e;obtain ⟨h,i⟩:=FP (λ z=>ah (de _ z)) (λ z=>d (de _ z)) g;exact #[by rw [f,h],i]
theorem TY (c) (x y) (r):Str.join (aL c) (x::y::r)=x++aL c++Str.join (aL c) (y::r):=rfl
theorem kb (c) (x y) (r):ba (Str.join (aL c) (x::y::r))=ba x++c::ba (Str.join (aL c) (y::r)):=by
 rw [TY,n1,n1,List.append_assoc];rfl
theorem AX (c):∀ l m,l≠[]->m≠[]->(∀ p∈l,jf c p)->(∀ p∈m,jf c p)->Str.join (aL c) l=Str.join (aL c) m->l=m
 | [],_,h,_,_,_,_=>absurd rfl h
 | _,[],_,h,_,_,_=>absurd rfl h
 | [x],[y],_,_,_,_,e=>eG (λ z=>[z]) e
 | [x],y::z::r,_,_,b,_,e=>by
  exfalso;refine b x (cf.mpr Y) ?_;have a:=eG ba (show x=_ from e);rw [a,kb];simp
 | x::z::r,[y],_,_,_,hm,e=>by
  exfalso;refine hm y (cf.mpr Y) ?_;have a:=eG ba (show y=_ from e.symm);rw [a,kb];simp
 | x::z::r,y::u::t,_,_,b,hm,e=>by
  have a:=eG ba e;rw [kb,kb] at a;obtain ⟨d,f⟩:=FP (b x dn) (hm y dn) a;have g:=AX c (z::r) (u::t) .zs .zs (λ p ah=>b p (de _ ah)) (λ p ah=>hm p (de _ ah)) (t6 f);rw [t6 d,g]
theorem kg (x y):Txt.split x y≠[]:=by
 unfold Txt.split;split
 ·simp
 ·split
  ·simp
  ·rw [StrLaws.partsBetween_eq];obtain ⟨p,r,e⟩:=StrLaws.partsFrom_ne x y.length 0 (Builtin.Str.occurrences x y 0 x.length (x.length+1));rw [e];simp
theorem xc (c) (l) (a:l≠[]) (h:∀ p∈l,jf c p):Txt.split (Str.join (aL c) l) (aL c)=l :=
 AX c _ l (kg _ _) a (StrLaws.split_free _ c) h (j_ _ _)
theorem Vd (y) (l):Txt.join y l=Str.join y l:=StrLaws.glued_eq_join y l
noncomputable def cx (n:Int):Str:=Str.ofString (toString n)
theorem nL (m:Nat):ba (cx (m:Int))=(Nat.toDigits 10 m).map Char.toNat:=by
 unfold cx ba;rw [Str.ofString_eq_toList];show (Nat.repr m).toList.map Char.toNat=_;rw [Nat.toList_repr]
theorem RL {c:Char} (h:c.isDigit=.t):48<=c.toNat/\c.toNat<=57:=by
 unfold Char.isDigit at h;rw [eJ,iT,iT] at h;exact #[UInt32.le_iff_toNat_le.mp h.1,UInt32.le_iff_toNat_le.mp h.2]
theorem zQ (h:0<=n):AllDigits (ba (cx n)):=by
 obtain ⟨m,rfl⟩:=nT h;intro c af;rw [nL] at af;obtain ⟨ch,a,e⟩:=cW.mp af;rw [<-e];exact RL (Nat.isDigit_of_mem_toDigits .aB .aB a)
theorem Aq:∀ d,d<10->(Nat.digitChar d).toNat=48+d:=by decide
theorem wO (h:10<=m):Nat.toDigits 10 m=Nat.toDigits 10 (m/10)++[Nat.digitChar (m%10)]:=by
 have hm:m%10<10:=Nat.mod_lt m .aB;have t:=Nat.toDigits_append_toDigits (n:=m/10) .aB .au hm;rw [Nat.div_add_mod] at t;rw [<-t,qX hm]
theorem Va:∀ m,0<m->∃ c r,(Nat.toDigits 10 m).map Char.toNat=c::r/\49<=c:=by
 intro m
 induction m using Nat.strongRecOn with
 | _ m a =>
  intro h0;by_cases h:m<10
  ·rw [qX h];exact #[(Nat.digitChar m).toNat,[],Y,by rw [Aq m h];omega]
  ·obtain ⟨c,r,e,af⟩:=a (m/10) .au .au;rw [wO .au,hl,e];exact #[c,r++_,Y,af]
theorem Gw:∀ k m,m<10 ^ (k+1)->(Nat.toDigits 10 m).length<=k+1
 | 0,m,h=>by
  rw [qX .au];exact bx _
 | k+1,m,h=>by
  by_cases U:m<10
  ·rw [qX U];show 1<=_;omega
  ·have a:=Gw k (m/10) (by rw [Nat.div_lt_iff_lt_mul .aB];rw [Nat.pow_succ] at h;exact h);rw [wO .au,c9];show _+1<=_;omega
theorem AL (m):digitsVal ((Nat.toDigits 10 m).map Char.toNat)=m:=by
 induction m using Nat.strongRecOn with
 | _ m a =>
  by_cases h:m<10
  ·rw [qX h];show 0*10+((Nat.digitChar m).toNat-48)=m;rw [Aq m h];omega
  ·rw [wO .au,hl];show digitsVal (_++[(Nat.digitChar (m%10)).toNat])=m;rw [digitsVal_snoc,a (m/10) .au,Aq _ .au];omega
theorem F5 (h:0<n):∃ c r,ba (cx n)=c::r/\49<=c:=by
 obtain ⟨m,rfl⟩:=nT (Int.le_of_lt h);rw [nL];exact Va m .au
theorem px (h:0<=n) (ao:n<((10 ^ (k+1):Nat):Int)):(cx n).length<=k+1:=by
 obtain ⟨m,rfl⟩:=nT h;rw [<-fC,nL,bz];exact Gw k m .au
theorem P8 (h:0<=n):ba (cx n)≠[]:=by
 obtain ⟨m,rfl⟩:=nT h;rw [nL];by_cases h:m<10
 ·rw [qX h];simp
 ·rw [wO .au];simp
theorem wI (h:0<=n) (af:c<48\/57<c):jf c (cx n):=λ z=>by
 have:=zQ h c z;omega
noncomputable def dZ (p e:Int):Str:=cx p++aL 94++cx e
theorem UM (i j):dZ i j=Str.join (aL 94) [cx i,cx j]:=rfl
theorem UL (ar:0<=i) (a:0<=j):jf 42 (dZ i j):=((wI ar .au).app (by unfold jf ba;decide)).app (wI a .au)
theorem w5 (ar:0<=i) (a:0<=j):Txt.split (dZ i j) (aL 94)=[cx i,cx j]:=by
 rw [UM];refine xc 94 _ .zs λ p ah=>?_
 simp only [bt,da,dc] at ah;rcases ah with rfl|rfl
 ·exact wI ar .au
 ·exact wI a .au
noncomputable def fh (l:cN):bA:=(l.filter λ p=>decide (0<p.2)).map λ p=>dZ p.1 p.2
noncomputable def dk (l:cN):Str:=if fh l=[] then aL 49 else Str.join (aL 42) (fh l)
end ck
namespace u0
open PySem PyProof.Rows
section
variable {prog:Program} {w:World} {A:Around} {E:c0} {s:Shared}
theorem Vv (n:A.handled=.n) (p:l≠I) (a:s.heap.IsRevIter I l ((items.size:Int)-1)) (d:s.heap.IsList l items) (ao:items.size<=sizeLine)
  (h:∀ h' a8 acc c,(∀ b o,b≠I->s.heap.get? b=some o->h'.get? b=some o)->h'.get? s.heap.objs.size=some { cls:=.type "list", dict:=.n,data:=.seq acc c,slots:=#[] }->ItemsOf (xE items) acc items.size->R (.ok (.ret (.ref s.heap.objs.size))) { s with heap:=h',toks:=a8 }) :
  codeAny (model prog w) A (.builtin "proto.collect" ⟨[.ref I],[]⟩) R s:=by
 have lt:∀ {b:Addr} {o:Obj},s.heap.get? b=some o->s.heap.objs.size≠b:=λ e=>(cc (bu e)).symm
 obtain ⟨kv,f,_⟩:=id a;obtain ⟨ol,g,_⟩:=id d;have i:(s.heap.push { cls:=.type "list", data:=.seq #[] }).get? s.heap.objs.size=some { cls:=.type "list", data:=.seq #[] }:=cJ _ rfl;refine nR F.entry_proto_collect ?_;rw [qU F.plain_proto_collect _];refine ax (l_ ?_);refine a_ #[pJ F.plain_list_iadd _,?_];refine nR F.entry_list_iadd ?_;rw [qU F.plain_list_iadd _];refine extend n I l p items s.heap.objs.size _ 0 i (lt f) (lt g) (a.at λ o e=>a9 _ e) (d.at λ o e=>a9 _ e) (λ h' a8 acc c bI j k=>?_) ao;exact h h' a8 acc c (λ b o m e=>bI b o (lt e).symm m (a9 _ e)) j k
theorem Wx (g:A.handled=.n) (i:l≠I) (a:s.heap.IsRevIter I l ((items.size:Int)-1)) (h:s.heap.IsList l items) (ao:items.size<=sizeLine)
  (d:∀ h' a8 acc,(∀ b o,b≠I->s.heap.get? b=some o->h'.get? b=some o)->ItemsOf (xE items) acc items.size->Q acc.toList { s with heap:=h',toks:=a8 }) :
  wpAny (model prog w) A (collect (.ref I)) Q E s:=by
 refine ax (wpAny_runValue (Vv g i a h ao λ h' a8 acc c bI e f=>?_));exact ax (tg e (a_ (d h' a8 acc bI f)))
theorem R5:(Value.type "list_reverseiterator" == Value.type "list" || Value.type "list_reverseiterator" == Value.type "tuple")=.f:=by decide
theorem RS (g:A.handled=.n) (i:l≠I) (a:s.heap.IsRevIter I l (([Value.str y u].toArray.size:Int)-1)) (h:s.heap.IsList l [.str y u].toArray)
  (f:∀ h' a8,(∀ b o,b≠I->s.heap.get? b=some o->h'.get? b=some o)->Q (.str y u) { s with heap:=h',toks:=a8 }) :
  wpAny (model prog w) A (call (.builtin "str.join") [.str x t,.ref I]) Q E s:=by
 refine j1 (tP F.slot_str_join.plain F.entry_str_join ?_);refine F.slot_str_join.check _ _ _ _ _ _ _ _ (mv _ _ _) (F.args_str_join_2 _ _) ?_;rw [join_tree_other];refine ax (wpAny_typeOf a.typeIs ?_);rw [R5,if_neg dC];refine ax (qV (wpAny_pyIter_revIter a ?_));refine ax (Wx g i a h (by show 1<=sizeLine;decide) λ h' a8 acc bI c=>?_);have e:acc.toList=[.str y u]:=by
  have U:acc.size=1:=c.1;have aa:=c.2 0 acc[0] (wj .au);have d:Value.str y u=acc[0]:=by
   have:([Value.str y u].toArray)[[Value.str y u].toArray.size-1-0]?=some acc[0]:=aa;simpa using this
  apply qY;intro j;cases j with
  | zero=>simp [d,U]
  | succ j =>
   rw [jw (by rw [e6,U];omega),jw .zs]
 rw [e];exact ax (ny (a_ (f h' a8 bI)))
end
end u0
namespace bj
open PySem PySem.Spec PyProof.Rows bV
theorem Iz:∀ l,Vals ((l.map (·.1)).map V.str) (strValues l)
 | []=>.nil
 | (x,t)::l=>.cons #[t,Y] (Iz l)
theorem Gr:∀ {ys:bA} {a:List Value},Vals (ys.map V.str) a->StrsAre a ys
 | [],_,.nil=>.nil
 | y::ys,_,.cons r b=>by
  obtain ⟨t,rfl⟩:=r;exact .cons y t (Gr b)
section
variable {X:aW}
inductive rJoin:V->bh->aD->b2->Prop
 |mk {x vs H Q} (y:Str) (a:Addr) (ys:bA):x=.str y->vs=[.ref a]->H a=some (.lst (ys.map V.str))->y.length<=16->(ys.map (·.length)).sum+ys.length<=1048576->Q (.str (Str.join y ys)) H->rJoin x vs H Q
theorem q9:h3 X "str.join" rJoin:=by
 intro pins s σ H x vs v us Q I g e h;obtain ⟨y,a,ys,rfl,rfl,ak,c,hw,q⟩:=h;obtain ⟨t,rfl⟩:=g
 obtain ⟨u,rfl,d⟩:=e.one;cases d;obtain ⟨z,i,n,f,hlen,b⟩:=I.fK ak;refine join_listW #[_,b,Y,n,Y] (Gr f) c hw λ t' k=>#[.str _,H,I.tok _,#[t',Y],?_]
 rw [ck.Vd];exact q
def Hv (to:TE) (aN:c2):TE:=λ σ H Q=>to σ H λ x H1=>∃ b,x=.str b/\aN σ H1 λ vs aq=>∃ (a:Addr) (y:Str),vs=[.ref a]/\aq a=some (.lst [.str y])/\Q (.str y) aq
theorem WY (af:X.calm=.t) (r:cy X "reversed") (hm:X.mg "reversed" = .n) (aA:bw X o to) (ak:fE X [c] aN) (av:starEach [c] X.env=[(.f,eval c X.env)]:=by rfl)
  (k:bootBuiltins "reversed" = some (.type "reversed"):=by decide +kernel)
  (l:attributeBase o "join" X.env (eval o X.env)=eval o X.env:=by rfl)
  (m:((backTo bR (starEach [.Call (.Name "reversed" p) [c] [] pos] X.env)).all (λ x=> !x.1)&&(backToKw bR (keywordEach [] X.env)).all (λ x=>x.1.isSome)
   && decide (([.Call (.Name "reversed" p) [c] [] pos]:List Expr).length+([]:List Keyword).length+(if ([]:List Keyword).isEmpty then 0 else 1)<30))=.t:=by rfl)
  (t:(apos.endLine==bR.line)=.t:=by rfl):bw X (.Call (.Attribute o "join" apos) [.Call (.Name "reversed" p) [c] [] pos] [] bR) (Hv to aN):=by
 intro pins s σ H Q I h;refine vZ l m t rfl (aU (aA pins s σ H _ I h) ?_);rintro v s1 ⟨x,H1,g,B,M,d,u⟩;subst d;obtain ⟨t0,rfl⟩:=B
 refine #["str", "str.join", gr,pK,pL,mv _ _ _,(λ Z e=>nomatch e),?_];refine tJ rfl (pF ?_);refine Calls.spliced_cons ?_;refine Call_ (mn g r hm k (qI (aU (ak pos pins s1 σ H1 _ g u) ?_) av Y));rintro us s2 ⟨vs,aq,f,C,w⟩;obtain ⟨a,y,e,A,q⟩:=w;subst e;obtain ⟨L,rfl,D⟩:=vals1 C;cases D;obtain ⟨z,aC,n,E,hlen,d⟩:=f.fK A;obtain ⟨aY,rfl,G⟩:=vals1 E;obtain ⟨ty,rfl⟩:=G
 have j:s2.heap.IsList a [Value.str y ty].toArray:=#[_,d,Y,n,Y]
 refine call_reversed_list j ?_;refine Calls.spliced_nil ?_;have lt:=cc (bu d);refine u0.RS (f.ok.hd.1 af) lt #[_,cJ _ Y,Y,Y] (j.at λ o e=>a9 _ e) λ h' a8 bI=>?_
 exact #[.str y,aq,f.kept λ b o i=>bI b o (cc (bu i)) (a9 _ i),#[_,Y],q]
theorem W0 (af:X.calm=.t) (e:cy X "reversed") (hm:X.mg "reversed" = .n) (aA:aZ X o to) (ak:dG X [a] aN) (av:starEach [a] X.env=[(.f,eval a X.env)]:=by rfl)
  (b:bootBuiltins "reversed" = some (.type "reversed"):=by decide +kernel)
  (c:attributeBase o "join" X.env (eval o X.env)=eval o X.env:=by rfl)
  (d:((backTo bR (starEach [.Call (.Name "reversed" p) [a] [] pos] X.env)).all (λ x=> !x.1)&&(backToKw bR (keywordEach [] X.env)).all (λ x=>x.1.isSome)
   && decide (([.Call (.Name "reversed" p) [a] [] pos]:List Expr).length+([]:List Keyword).length+(if ([]:List Keyword).isEmpty then 0 else 1)<30))=.t:=by rfl)
  (f:(apos.endLine==bR.line)=.t:=by rfl):aZ X (.Call (.Attribute o "join" apos) [.Call (.Name "reversed" p) [a] [] pos] [] bR) (Hv to aN):=#[WY af e hm aA.o ak.o av b c d f]
def Rt:V->bh->aD->b2->Prop:=λ x vs H Q=>∃ a y,x=.str a/\vs=[.str y]/\(y.length==0)=.f/\a.length+2<=sizeLine/\fi (.lst ((Txt.split a y).map V.str)) H Q
theorem split_len (x y):(Txt.split x y).length<=x.length+2:=by
 unfold Txt.split;split
 ·show 1<=_;omega
 ·split
  ·show 1<=_;omega
  ·have h:=StrLaws.occ_length_le x y 0 x.length (x.length+1);rw [StrLaws.partsBetween_eq];have:∀ w b a,(StrLaws.partsFrom x w a b).length=b.length+1:=by
    intro w b
    induction b with
    | nil=>intro a;rfl
    | cons c r d=>intro a;show (StrLaws.partsFrom x w (c+w) r).length+1=_;rw [d];rfl
   rw [this];omega
theorem Bv {σ:St} (I:Inv X pins σ H s) (c:l.length<=sizeLine) (q:fi (.lst ((l.map (·.1)).map V.str)) H Q) :
  el X pins σ Q (.ref s.heap.objs.size) { s with heap:=s.heap.push { cls:=.type "list", data:=.seq (strValues l).toArray },toks:=a8 }:=by
 refine #[.ref s.heap.objs.size,_,I.laid (λ b o a=>a9 _ a) (bx _) (show eh X.prog X.w _ _ _ (.lst _) from #[?_,strValues l,0,Iz l,cJ _ Y]),Y,q.at _ (I.aK.fresh (bx _))];rw [bz,bz];exact c
theorem lr:h3 X "str.split" Rt:=by
 intro pins s σ H x vs v us Q I d c h;obtain ⟨x,y,rfl,rfl,a,f,q⟩:=h;obtain ⟨t,rfl⟩:=d
 obtain ⟨u,rfl,b⟩:=c.one;obtain ⟨t',rfl⟩:=b
 have hlen:=split_len x y;cases U:(decide (x.length<y.length)||decide (Builtin.Str.strKind x<Builtin.Str.strKind y)) with
 | true =>
  have e:Txt.split x y=[x]:=if_pos U;rw [e] at q;exact jr iU (mv _ _ _) F.entry_str_split (Ae _ _) (meets_str_split_cannot_occur x y t t' U) (Bv (l:=[(x,t)]) I (by show 1<=sizeLine;decide) q)
 | false =>
  cases hf:(Builtin.Str.occurrences x y 0 x.length (x.length+1)).isEmpty with
  | true =>
   have e:Txt.split x y=[x]:=(if_neg (by rw [U];decide)).trans (if_pos hf);rw [e] at q;exact jr iU (mv _ _ _) F.entry_str_split (Ae _ _) (meets_str_split_not_found x y t t' U a hf) (Bv (l:=[(x,t)]) I (by show 1<=sizeLine;decide) q)
  | false =>
   have e:Txt.split x y=Builtin.Str.partsBetween x (Builtin.Str.occurrences x y 0 x.length (x.length+1)) y.length:=(if_neg (by rw [U];decide)).trans (if_neg (by rw [hf];decide));rw [e] at q hlen;refine jr iU (mv _ _ _) F.entry_str_split (Ae _ _) (meets_str_split_sep x y t t' U a hf .au .au) ?_;rw [strsFrom_eq];refine Bv I ?_ ?_
   ·have:=eG List.length (numbered_texts s.toks (Builtin.Str.partsBetween x (Builtin.Str.occurrences x y 0 x.length (x.length+1)) y.length));rw [bz] at this;omega
   ·rw [numbered_texts];exact q
theorem w0:ep X (.type "int") (λ xs H Q=>∃ (x:Str) (n:Int),xs=[.str x]/\x.length<=640/\intText? x=some n/\Q (.int n) H):=by
 intro pins s σ H xs us Q I r h;obtain ⟨x,n,rfl,a,ao,q⟩:=h;obtain ⟨u,rfl,b⟩:=vals1 r;obtain ⟨t,rfl⟩:=b
 exact PySem.W.KIN.call_text ao a #[.int n,H,I.tok _,#[_,Y],q]
def tm (x:V) (y:Str):Prop:=(x=.str y\/∃ i,x=.int i/\i.natAbs.log2<1920/\y=ck.cx i)/\y.length<=1000000
theorem vQ {σ:St} (I:Inv X pins σ H s) (r:RelV x v) (ae:tm x y) (h:∀ t s',Inv X pins σ H s'->R (.str y t) s') :
  wpAny (model X.prog X.w) X.A (formatField v Str.empty) R X.a5 s:=by
 obtain ⟨ae,a⟩:=ae;rcases ae with rfl|⟨i,rfl,ar,rfl⟩
 ·obtain ⟨t,rfl⟩:=r
  exact wpAny_formatField_str (h _ _ I) (h _ _ (I.tok _)) (by rw [b7];omega)
 ·obtain ⟨t,rfl⟩:=r
  exact wpAny_formatField_int ar (h _ _ (I.tok _))
def E2 (aN:TE) (y:Str) (a7:TE):TE:=λ σ H Q=>aN σ H λ x H1=>∃ a,tm x a/\a7 σ H1 λ z aq=>∃ fe,tm z fe/\Q (.str (a++y++fe)) aq
theorem Si (ak:bw X a aN) (k:bw X b a7) (r:y.length<=1000:=by decide) :
  bw X (.JoinedStr [.FormattedValue a (-1) .n dx,.Constant (.str y) j dS,.FormattedValue b (-1) .n lL] pos) (E2 aN y a7):=by
 intro pins s σ H Q I h;refine wpAny_JoinedStr ?_;refine wm (aU (ak pins s σ H _ I h) ?_);rintro v s1 ⟨x,H1,d,n,p,ae,l⟩;refine vQ d n ae λ t1 s2 e=>#[p,t1,Y,?_,?_]
 ·rw [ck.ka,b7];have:=ae.2;omega
 refine vO #[y,_,Y,?_,?_]
 ·rw [ck.ka,ck.len_app,b7];have:=ae.2;omega
 have f:=e.tok (s2.toks+1);refine wm (aU (k pins _ σ H1 _ f l) ?_);rintro u s4 ⟨z,aq,g,o,fe,c,m⟩;refine vQ g o c λ q s5 i=>#[fe,q,Y,?_,?_]
 ·rw [ck.ka,ck.len_app,ck.len_app,b7];have:=ae.2;have:=c.2;omega
 ·refine #[?_,.str _,aq,i.tok _,#[_,Y],?_]
  ·rw [ck.ka,ck.len_app,ck.len_app,b7];have:=ae.2;have:=c.2;omega
  ·rw [ck.ka];exact m
theorem SI (ak:aZ X a aN) (c:aZ X b a7) (d:y.length<=1000:=by decide) :
  aZ X (.JoinedStr [.FormattedValue a (-1) .n dx,.Constant (.str y) j dS,.FormattedValue b (-1) .n lL] pos) (E2 aN y a7):=#[Si ak.o c.o d]
theorem Fo {K:aP} {id:String} (a:X.K=K) (h:PlainAttrs T) (slot:Slot T name id) (g:typeOf (.builtin id)=pure (.type "method_descriptor")) (hm:h3 X id r) (aA:aZ X o to) (ak:dG X (e::aj) t)
  (b:attributeBase o name X.env (eval o X.env)=eval o X.env:=by rfl)
  (c:((backTo bR (starEach (e::aj) X.env)).all (λ x=> !x.1)&&(backToKw bR (keywordEach [] X.env)).all (λ x=>x.1.isSome)&&decide ((e::aj).length+([]:List Keyword).length+(if ([]:List Keyword).isEmpty then 0 else 1)<30))=.t:=by rfl)
  (d:(apos.endLine==bR.line)=.t:=by rfl) (av:starEach (e::aj) X.env=(.f,eval e X.env)::starEach aj X.env:=by rfl) (f:(backTo bR (starEach aj X.env)).any (·.1)=.f:=by rfl) :
  aZ X (.Call (.Attribute o name apos) (e::aj) [] bR) (y1 K T r to t):=by
 subst a;exact #[ET h slot g hm aA.o ak.o b c d av f]
noncomputable abbrev i5 (n:Int):Key:=Sum.inl n
def Ru (c ty e2:TE):cS:=λ D σ H=>e2 σ H λ v H1=>c σ H1 λ x aq=>ty σ aq λ y b=>∃ (d:Addr) (n:Int) (kvs:List (Key×V)),x=.ref d/\y=.int n/\b d=some (.cM kvs)/\kvs.length<sizeLine/\∀ a,bV.cB d b a->a d=some (.cM (putK kvs (i5 n) v))->D.bf σ a
theorem UX (g:X.A.units+1<cLine) (aA:aZ X o z) (ar:aZ X i ty) (aI:aZ X value e2) (av:swapsWith value (some (.Subscript o i pos')) pos.line X.env=pure .f) :
  e0 X (.Assign [.Subscript o i pos'] value pos) (Ru z ty e2):=#[by
 intro pins s σ H D I h;refine Ac (aU (aI.o pins s σ H _ I h) ?_) av;rintro r s1 ⟨v,H1,a,p,j⟩;refine aU (aA.o pins s1 σ H1 _ a j) ?_;rintro u s2 ⟨x,aq,b,t,l⟩;refine aU (ar.o pins s2 σ aq _ b l) ?_;rintro C s3 ⟨y,B,c,w,m⟩;obtain ⟨d,n,kvs,rfl,rfl,hd,f,q⟩:=m;obtain rfl:u=Value.ref d:=t;exact Be g c (ng.k (k:=i5 n) hd f) w p λ s4 e=>#[σ,_,e,q _ bV.cB.upd bN]]
def Rn:V->bh->aD->b2->Prop:=λ x vs H Q=>∃ (d:Addr) (n:Int) (z:V) (kvs:List (Key×V)),x=.ref d/\vs=[.int n,z]/\H d=some (.cM kvs)/\Q ((bU kvs (i5 n)).getD z) H
theorem T_:h3 X "dict.get" Rn:=by
 intro pins s σ H x vs v us Q I e a h;obtain ⟨d,n,z,kvs,rfl,rfl,hd,q⟩:=h;cases e;cases a with
 | cons b a =>
 cases a with
 | cons c a =>
 cases a;obtain ⟨t,rfl⟩:=b
 obtain ⟨_,hm,xs,rel,dd⟩:=tk I.aK hd;refine call_meetsIn qW dd.typeIs Ad (PySem.F.args_dict_get_3 _ _ _) (meets_dict_get_default (gT X.prog X.w) d (Ji X.prog X.w n t) hm _) #[_,dd.mapOf,?_];exact #[_,H,I.tok _,(rel.val (i5 n)).getD c,q]
end
end bj
namespace bV
open PySem bj ck
theorem XC (t) (f) (ao:min xs.length ys.length<=sizeLine) (ah:∃ u v,pick js σ=u::v::σ0) (m:H1 D=.n)
  (ak:∀ H',ay H1 H'->aX K H' a xs) (h:∀ H',ay H1 H'->aX K H' b ys)
  (aG:∀ i x y H' R,ay H1 H'->xs[i]?=some x->ys[i]?=some y->R (t i) H'->cg (some x::some y::σ0) H' R)
  (av:∀ i x y H' R,ay H1 H'->xs[i]?=some x->ys[i]?=some y->t i=.t->(∀ aq,ay H' aq->R (f i) aq)->bg (some x::some y::σ0) H' R)
  (q:∀ H',ay H1 H'->H' D=some (.lst (((List.range (min xs.length ys.length)).filter t).map f))->Q (.ref D) H'):hL (oC K a b) D js (o6 K 2 (md (e4 0) (md (e4 1) ta))) cg bg σ H1 Q:=by
 obtain ⟨w,v0,ah⟩:=ah;refine Bd ao (λ i σ' H' zs=>(∃ u v,σ'=u::v::σ0)/\ay H1 H'/\H' D=some (.lst zs)/\zs.length<=i/\zs=((List.range i).filter t).map f) #[#[w,v0,ah],ay.new m,bN,bx _,Y] (λ i σ' H' zs _ ⟨_,_,d,l,_⟩=>#[d,l]) (λ i σ' H' zs ar ⟨_,s',_⟩=>?_) (λ σ' H' zs ⟨_,s',d,_,e⟩=>#[?_,?_]) ?_
 ·exact #[_,_,xs[i]'(by omega),ys[i]'(by omega),ak _ s',h _ s',cK .au,cK .au]
 ·exact #[_,_,ak _ s',h _ s',.au]
 ·refine q H' s' ?_;rw [d,e]
 ·rintro i σ' H' zs v aq ar ⟨⟨u,v,rfl⟩,s',d,l,e⟩ ⟨p,n,rfl,x,y,rfl,s⟩;obtain ⟨ae,r⟩:=s _ _ (ak _ s') (h _ s');refine #[p,_,Y,aX.of bN,Y,_,_,Y,_,_,Y,Y,?_];have g:(upd H' p (.tup [x,y])) D=some (.lst zs):=by rw [bC (cq d n)];exact d
  have s2:ay H1 (upd H' p (.tup [x,y])):=ay.more s' n;refine aG i x y _ _ s2 ae r ?_;cases j:t i with
  | true =>
   refine av i x y _ _ s2 ae r j λ z s4=>#[s4 _ _ g,#[_,_,Y],?_,bN,?_,?_]
   ·intro c o k;rw [bC (cq k m)];exact s4 _ _ (s2 c o k)
   ·rw [c9];show zs.length+1<=i+1;omega
   ·rw [xw,e];simp [j]
  | false =>
   refine #[g,#[_,_,Y],s2,g,.au,?_];rw [xw,e];simp [j]
theorem range_getD {α: Type} (d) (l:List α):l=(List.range l.length).map λ i=>l.getD i d:=by
 apply qY;intro i;rcases lj i l.length with h|h
 ·rw [et,List.getElem?_range h,cK h];simp [List.getD,h]
 ·rw [jw h,jw (by rw [bz,jv];exact h)]
theorem W3 {α β: Type} (d) (t) (f : α -> β) (l:List α):((List.range l.length).filter λ i=>t (l.getD i d)).map (λ i=>f (l.getD i d))=(l.filter t).map f:=by
 conv=>rhs;rw [range_getD d l]
 rw [List.filter_map,gS];rfl
end bV
namespace bj
open PySem PySem.Spec PyProof.Rows bV
section
variable {X:aW}
def PT:V->Option Int->Option Int->aD->b2->Prop:=λ x lo ar H Q=>∃ z,x=.str z/\z.length<=sizeLine/\∀ y,y.length<=z.length->(∀ c∈ck.ba y,c∈ck.ba z)->Q (.str y) H
theorem part_of (p:IsPart v o):∃ q,v=partValue q/\q.map (·.1)=o:=by
 cases p with
 | none=>exact #[.n,Y,Y]
 | int i t=>exact #[some (i,t),Y,Y]
theorem qP:qe X PT:=by
 intro pins s σ H x v j k lo ar cu Q I e av d pu h;obtain ⟨z,rfl,b,q⟩:=h;obtain ⟨t,rfl⟩:=e
 obtain ⟨l,rfl,f⟩:=part_of d;obtain ⟨u,rfl,g⟩:=part_of pu;refine #["str", _,PySem.F.slot_str_getitem.lookup,mv _ _ _,?_];refine wpAny_getItem_str_slice (st:=.n) av rfl ?_;unfold sliceMade;have hlen:(((slicePicked z l u .n).filterMap (z.cps[·]?)).toArray).size<=z.length:=by
  rw [dK];exact dF (Aa _ _) (sliceIndices_le _ _ _)
 split
 ·exact #[.str z,H,I,#[t,Y],q z (bx _) λ c af=>af]
 ·refine #[dF hlen b,.str _,H,I.tok _,#[_,Y],q _ hlen λ c af=>?_];have a:c∈(slicePicked z l u .n).filterMap (z.cps[·]?):=by simpa [ck.ba] using af
  obtain ⟨i,_,ar⟩:=nF.mp a;exact b5 (show z.cps.toList[i]?=some c by rw [<-ar];simp)
theorem Fm:cI X (compareOp .LtE) (λ x y H Q=>∃ i j,x=.str i/\y=.str j/\Q (.aO (!decide (ck.ba j<ck.ba i))) H):=by
 intro pins s σ H x y v u Q I a b h;obtain ⟨i,j,rfl,rfl,q⟩:=h;obtain ⟨t,rfl⟩:=a
 obtain ⟨t',rfl⟩:=b
 exact P.le_str #[.aO _,H,I,Y,q]
def Qj:V->Option Int->Option Int->aD->b2->Prop:=λ x lo ar H Q=>∃ a xs,x=.ref a/\H a=some (.lst xs)/\∀ ys,ys.Sublist xs->fi (.lst ys) H Q
theorem rk:qe X Qj:=λ pins s σ H x v d f lo ar cu Q I c av b pu h=>by
 obtain ⟨a,xs,e,ak,q⟩:=h;refine wN pins s σ H x v d f lo ar cu Q I c av b pu #[a,xs,e,aS.of ak,(q (ig xs lo ar) ?_).at];exact (List.take_sublist _ _).trans (List.drop_sublist _ _)
end
end bj
namespace ck
open PySem PySem.NumText
instance (x:h2):Decidable (AllDigits x):=by unfold AllDigits;infer_instance
def bP (x:Str):Prop:=∀ c∈ba x,c<128
theorem bP.all (h:bP x):x.cps.all (· < 128)=.t:=by
 rw [Array.all_eq_true'];intro c af;exact bc (h c (Array.mem_toList_iff.mpr af))
theorem bP.app (h:bP a) (g:bP b):bP (a++b):=λ c af=>by
 rw [n1,fA] at af;exact af.elim (h c) (g c)
theorem bP.sub (h:bP a) (g:∀ c∈ba b,c∈ba a):bP b:=λ c af=>h c (g c af)
theorem bP.join (af:c<128):∀ {l:bA},(∀ y∈l,bP y)->bP (Str.join (aL c) l)
 | [],_=>λ z a=>by cases a
 | [x],h=>h x (cf.mpr Y)
 | x::y::r,h=>by
  have b:=bP.join af λ z a=>h z (de _ a)
  intro z a;rw [kb,fA,bt] at a;rcases a with q|q|q
  ·exact h x dn z q
  ·omega
  ·exact b z q
theorem Bh:∀ {l:bA} {y:Str},y∈l->∀ z∈ba y,z∈ba (Str.join (aL c) l)
 | [],_,h,_,_=>by cases h
 | [x],y,h,z,a=>by
  rw [cf.mp h] at a;exact a
 | x::b::r,y,h,z,a=>by
  rw [kb,fA];rcases bt.mp h with rfl|h'
  ·exact .inl a
  ·exact .inr (de _ (Bh h' z a))
theorem Kh:∀ {l:bA} {y:Str},y∈l->y.length<=(Str.join (aL c) l).length
 | [],_,h=>by cases h
 | [x],y,h=>by rw [cf.mp h];exact bx _
 | x::a::r,y,h=>by
  have e:(Str.join (aL c) (x::a::r)).length=x.length+(1+(Str.join (aL c) (a::r)).length):=by
   rw [<-fC,kb,c9,gq,fC,fC];omega
  rw [e];rcases bt.mp h with rfl|h'
  ·omega
  ·have:=Kh (c:=c) h';omega
theorem KH:∀ {l:bA},l≠[]->l.length<=(Str.join (aL c) l).length+1
 | [],h=>absurd rfl h
 | [x],_=>by show 1<=_;omega
 | x::a::r,_=>by
  have e:(Str.join (aL c) (x::a::r)).length=x.length+(1+(Str.join (aL c) (a::r)).length):=by
   rw [<-fC,kb,c9,gq,fC,fC];omega
  have b:=KH (c:=c) (l:=a::r) .zs;rw [e];show (a::r).length+1<=_;omega
theorem kk (h:y∈Txt.split x (aL c)):(∀ z∈ba y,z∈ba x)/\y.length<=x.length:=by
 have e:=j_ x (aL c);constructor
 ·intro z a;have:=Bh (c:=c) h z a;rw [e] at this;exact this
 ·have:=Kh (c:=c) h;rw [e] at this;exact this
theorem n4 (c) (x):(Txt.split x (aL c)).length<=x.length+1:=by
 have:=KH (c:=c) (kg x (aL c));rw [j_] at this;exact this
theorem bP.part (h:bP x) (a:y∈Txt.split x (aL c)):bP y:=h.sub (kk a).1
theorem FE (hd:AllDigits (ba x)) (ae:ba x=c::r) (b:r=[]\/49<=c):cx ((digitsVal (ba x):Nat):Int)=x:=by
 apply t6;rw [nL,toDigits_digitsVal r.length (ba x) (by rw [ae];rfl) hd (b.elim (λ z=>.inl (by rw [z];rfl)) λ z=>.inr #[c,r,ae,z]),gS]
 conv=>rhs;rw [<-List.map_id (ba x)]
 apply qT;intro d a;have:=hd d a;have:∀ d,d<=57->(Char.ofNat d).toNat=d:=by decide
 exact this d (hd d a).2
theorem FD (h:AllDigits l):digitsVal l<10 ^ l.length:=by
 have:∀ l,AllDigits l->∀ a,l.foldl (λ acc c=>acc*10+(c-48)) a<(a+1)*10 ^ l.length:=by
  intro l
  induction l with
  | nil=>intro _ a;show a<(a+1)*1;omega
  | cons d l e =>
   intro hd a;have i:=hd d dn;have f:=e (λ z b=>hd z (de _ b)) (a*10+(d-48));show l.foldl _ (a*10+(d-48))<(a+1)*10 ^ (l.length+1);have g:(a*10+(d-48)+1)*10 ^ l.length<=((a+1)*10)*10 ^ l.length:=Af _ .au;rw [Nat.pow_succ,nO (10 ^ l.length) 10,<-Nat.mul_assoc];omega
 have:=this l h 0;rw [Nat.zero_add,Nat.one_mul] at this;exact this
theorem Fi (c d):decide (ba (aL c)<ba (aL d))=decide (c<d):=by
 rw [StrLaws.lt_cons_cons,StrLaws.lt_nil_nil,jx,Bool.or_false]
noncomputable def hK (x:Str):Option Int:=if (1<=x.length/\x.length<=13/\(ba x).head?≠some 48)/\AllDigits (ba x) then some (digitsVal (ba x)) else .n
set_option tactic.hygienic true in
theorem tZ (h:hK x=some n):x=cx n/\1<=n/\n<10000000000000:=by
 unfold hK at h;split at h
 ·rename_i f;obtain ⟨⟨U,aa,b⟩,a⟩:=f;have e:=cE h;obtain ⟨c,r,ae⟩:∃ c r,ba x=c::r:=by
   cases av:ba x with
   | nil=>rw [<-fC,av] at U;cases U
   | cons c r=>exact #[c,r,Y]
  have af:=a c (by rw [ae];exact dn);have d:49<=c:=by
   rw [ae] at b;have:c≠48:=λ z=>b (by rw [z];rfl)
   omega
  have ao:=FE a ae (.inr d);rw [e] at ao;refine #[ao.symm,?_,?_]
  ·have:=digitsVal_pos (cs:=r) d;rw [<-e,ae];omega
  ·rw [<-e];have g:=FD a;have i:10 ^ (ba x).length<=10 ^ 13:=Nat.pow_le_pow_right .aB (by rw [fC];exact aa);omega
 ·cases h
theorem AB (U:1<=n) (aa:n<10000000000000):hK (cx n)=some n:=by
 obtain ⟨c,r,af,d⟩:=F5 (n:=n) .au;have a:(cx n).length<=13:=px .au .au;have b:1<=(cx n).length:=by rw [<-fC,af];simp
 unfold hK;rw [if_pos #[#[b,a,by rw [af];intro z;have:=cE z;omega],zQ .au]];obtain ⟨m,rfl⟩:=nT (show 0<=n by omega);rw [nL,AL]
noncomputable def cm (x:Str):Option Int:=if (x≠Str.empty/\x.length<=19/\AllDigits (ba x))/\cx ((digitsVal (ba x):Nat))=x then some (digitsVal (ba x)) else .n
set_option tactic.hygienic true in
theorem q5 (h:cm x=some n):x=cx n/\0<=n:=by
 unfold cm at h;split at h
 ·rename_i a;have e:=cE h;rw [e] at a;exact #[a.2.symm,.au]
 ·cases h
theorem Ar (U:0<=n) (aa:n<10000000000000):cm (cx n)=some n:=by
 have b:=px (k:=12) .au .au;have a:=P8 U;obtain ⟨m,rfl⟩:=nT U;have e:digitsVal (ba (cx m))=m:=by rw [nL,AL]
 unfold cm;rw [e,if_pos #[#[λ z=>a (by rw [z];rfl),.au,zQ U],Y]]
theorem wD (U:1<=n) (aa:n<10000000000000):cm x=some n ↔ hK x=some n:=by
 constructor
 ·intro h;rw [(q5 h).1];exact AB U aa
 ·intro h;rw [(tZ h).1];exact Ar .au aa
noncomputable def cG:bB:=[2,3,5,7,11,13,17,19,23,29]
noncomputable abbrev bJ (aj:bB):cN:=cG.zip aj
theorem pC (h:aj.length=10):(bJ aj).length=10:=by rw [List.length_zip,h];rfl
theorem Rj {i:Nat} (h:(bJ aj)[i]?=some (p,e)):cG[i]?=some p/\aj[i]?=some e:=by
 rw [nQ] at h;exact h
theorem uq:∀ p∈cG,2<=p/\p<=29:=by decide
noncomputable abbrev gm:bB:=List.replicate 10 0
noncomputable def en (l:cN):cN:=l.filter λ p=>decide (0<p.2)
theorem uc (l):fh l=(en l).map λ p=>dZ p.1 p.2:=rfl
theorem GB {α β: Type}:∀ (a:List α) (b:List β),List.Sublist ((a.zip b).map (·.1)) a
 | [],_=>by simp
 | x::a,[]=>by simp
 | x::a,y::b=>by simpa using GB a b
theorem AG (aj):((bJ aj).map (·.1)).Nodup:=(by decide:cG.Nodup).sublist (GB _ _)
theorem V4 (aj):((en (bJ aj)).map (·.1)).Nodup:=(AG aj).sublist (Ag.map _)
theorem Av:∀ {l:cN} {p e f:Int},(l.map (·.1)).Nodup->(p,e)∈l->(p,f)∈l->e=f
 | [],_,_,_,_,h,_=>by cases h
 | q::l,p,e,f,ao,U,aa=>by
  obtain ⟨c,d⟩:=nH.mp ao;rcases bt.mp U with b|b
  ·rcases bt.mp aa with a|a
   ·rw [<-b] at a;injection a with _ g;exact g.symm
   ·exact absurd (cW.mpr #[(p,f),a,by rw [<-b]]) c
  ·rcases bt.mp aa with a|a
   ·exact absurd (cW.mpr #[(p,e),b,by rw [<-a]]) c
   ·exact Av d b a
def i2 (aj:bB):Prop:=aj.length=10/\∀ e∈aj,0<=e/\e<=1000000
theorem t_:i2 gm:=#[Y,.aB]
theorem qD {aj:bB} (h:aj.length=10) {i:Nat} (ar:i<10):(bJ aj)[i]?=some (cG[i]'ar,aj[i]'(by omega)):=by
 rw [nQ];exact #[cK ar,cK .au]
theorem HE (c8:aj.length=10) (h0:∀ e∈aj,0<=e) (hw:fh (bJ aj)=[]):aj=gm:=by
 apply qY;intro i;rcases lj i 10 with ar|ar
 ·rw [cK .au,List.getElem?_replicate,if_pos ar];have U:=h0 _ (iw (show i<aj.length by omega));have aa:¬ 0<aj[i]'(by omega):=λ ah=>by
   have hm:(cG[i]'ar,aj[i]'(by omega))∈en (bJ aj):=hO.mpr #[b5 (qD c8 ar),bc ah];rw [uc] at hw;rw [List.map_eq_nil_iff.mp hw] at hm;cases hm
  congr 1;omega
 ·rw [jw .au,jw (by rw [List.length_replicate];exact ar)]
theorem Rg (p e):94∈ba (dZ p e):=by
 unfold dZ;rw [n1,n1,fA,fA];exact .inl (.inr .zs)
theorem Ay (h:fh l≠[]):dk l≠aL 49:=by
 unfold dk;rw [if_neg h];intro e;obtain ⟨y,a⟩:=List.exists_mem_of_ne_nil _ h;obtain ⟨f,_,rfl⟩:=cW.mp a;have:=Bh (c:=42) a 94 (Rg f.1 f.2);rw [e] at this;exact absurd this .aB
theorem G0:dk (bJ gm)=aL 49:=by
 unfold dk;rw [if_pos .aB]
theorem Fl (ar:0<=i) (a:0<=j) (h:cx i=cx j):i=j:=by
 obtain ⟨m,rfl⟩:=nT ar;obtain ⟨n,rfl⟩:=nT a;have e:=eG (λ x=>digitsVal (ba x)) h;simp only [nL,AL] at e;rw [e]
theorem SD (ak:0<=a) (g:0<=b) (af:0<=c) (hd:0<=d) (h:dZ a b=dZ c d):a=c/\b=d:=by
 have e:=w5 ak g;rw [h,w5 af hd] at e;injection e with i f;injection f with f _;exact #[Fl ak af i.symm,Fl g hd f.symm]
theorem map_inj {m:cN} (b:∀ q∈l,0<=q.1/\0<=q.2) (hm:∀ q∈m,0<=q.1/\0<=q.2) (h:(l.map λ p=>dZ p.1 p.2)=m.map λ p=>dZ p.1 p.2):l=m:=by
 induction l generalizing m with
 | nil=>exact (List.map_eq_nil_iff.mp h.symm).symm
 | cons q l e =>
  cases m with
  | nil=>cases h
  | cons r m =>
   injection h with U aa;have a1:=b q dn;have a2:=hm r dn;obtain ⟨c,d⟩:=SD a1.1 a1.2 a2.1 a2.2 U;rw [e (λ z a=>b z (de _ a)) (λ z a=>hm z (de _ a)) aa,show q=r from Prod.ext c d]
theorem AF (h:q∈en (bJ aj)):q.1∈cG/\0<q.2/\q.2∈aj:=by
 obtain ⟨U,aa⟩:=hO.mp h;have a:=nI U;exact #[a.1,cD aa,a.2]
theorem AE:∀ q∈en (bJ aj),0<=q.1/\0<=q.2:=λ q a=>by
 have h:=AF a;have:=uq _ h.1;exact #[.au,.au]
theorem UA (he:i2 aj) (hf:i2 aw) (h:en (bJ aj)=en (bJ aw)):aj=aw:=by
 have one:∀ {aj aw:bB},i2 aj->i2 aw->en (bJ aj)=en (bJ aw)->∀ i ar U (aa:i<aw.length),0<aj[i]->aj[i]=aw[i]:=λ {aj aw} he hf h i ar U aa ah=>by
  have hm:(cG[i]'ar,aj[i])∈en (bJ aj):=hO.mpr #[b5 (qD he.1 ar),bc ah];rw [h] at hm;exact Av (AG aw) (F3 hm) (b5 (qD hf.1 ar))
 apply qR (by rw [he.1,hf.1]);intro i U aa;have ar:i<10:=by rw [he.1] at U;exact U
 have b:=he.2 _ (iw U);have f1:=hf.2 _ (iw aa);by_cases ah:0<aj[i]
 ·exact one he hf h i ar U aa ah
 ·by_cases a:0<aw[i]
  ·exact (one hf he h.symm i ar aa U a).symm
  ·omega
theorem wR:∀ y∈fh (bJ aj),jf 42 y:=λ y a=>by
 obtain ⟨f,hm,rfl⟩:=cW.mp a;have:=AE f hm;exact UL this.1 this.2
theorem RX (he:i2 aj) (hf:i2 aw) (h:dk (bJ aj)=dk (bJ aw)):aj=aw:=by
 by_cases U:fh (bJ aj)=[]
 ·by_cases aa:fh (bJ aw)=[]
  ·rw [HE he.1 (λ e q=>(he.2 e q).1) U,HE hf.1 (λ e q=>(hf.2 e q).1) aa]
  ·exact absurd (h.symm.trans (by unfold dk;rw [if_pos U])) (Ay aa)
 ·by_cases aa:fh (bJ aw)=[]
  ·exact absurd (h.trans (by unfold dk;rw [if_pos aa])) (Ay U)
  ·unfold dk at h;rw [if_neg U,if_neg aa] at h;have:=AX 42 _ _ U aa wR wR h;exact UA he hf (map_inj AE AE this)
noncomputable def gO (x:Str):Option (Int×Int):=match (Txt.split x (aL 94)).map cm with
 | [some p,some e]=>if p∈cG/\1<=e/\e<=1000000 then some (p,e) else .n
 | _=>.n
theorem t9 {f:Str->Option Int} (h:l.map f=[some p,some e]):∃ a b,l=[a,b]/\f a=some p/\f b=some e:=by
 match l,h with
 | [],h=>cases h
 | [a],h=>simp at h
 | [a,b],h =>
  injection h with U aa;injection aa with aa _;exact #[a,b,Y,U,aa]
 | a::b::c::r,h=>simp at h
set_option tactic.hygienic true in
theorem Ul (h:gO x=some (p,e)):x=dZ p e/\p∈cG/\1<=e/\e<=1000000:=by
 unfold gO at h;split at h
 ·rename_i p' g hm;split at h
  ·rename_i af;cases h;obtain ⟨a,b,f,ak,d⟩:=t9 hm;have c:=j_ x (aL 94);rw [f,(q5 ak).1,(q5 d).1] at c;exact #[c.symm,af]
  ·cases h
 ·cases h
theorem Um (ah:p∈cG) (U:1<=e) (aa:e<=1000000):gO (dZ p e)=some (p,e):=by
 have a:=uq p ah;unfold gO;rw [w5 .au .au];simp only [es,j6];rw [Ar .au .au,Ar .au .au];exact if_pos #[ah,U,aa]
noncomputable def gj:Option (Int×bB)->Str->Option (Int×bB)
 | some (last,found),x=>match gO x with
  | some (p,e)=>if last<p then some (p,found.set (cG.idxOf p) e) else .n
  | none=>.n
 | none,_=>.n
theorem w3:∀ l:bA,l.foldl gj .n=.n
 | []=>rfl
 | _::l=>w3 l
noncomputable def hJ (x:Str):Option bB:=if x=aL 49 then some gm else ((Txt.split x (aL 42)).foldl gj (some (0,gm))).map (·.2)
structure qq (ws:bA) (last:Int) (found:bB):Prop where
 ok:i2 found
 cj:ws=fh (bJ found)
 Cb:∀ (i:Nat) (p:Int),cG[i]?=some p->last<p->found[i]?=some 0
theorem Xq:∀ i<10,∀ j<10,i<=j->(cG[i]?.getD 0)<=(cG[j]?.getD 0):=by decide
theorem qq.step (I:qq ws last found) (ah:p∈cG) (U:1<=e) (aa:e<=1000000) (D:last<p):qq (ws++[dZ p e]) p (found.set (cG.idxOf p) e):=by
 have d:=List.idxOf_lt_length_iff.mpr ah;have g:=d;have f:cG[cG.idxOf p]?=some p:=by rw [cK d,List.getElem_idxOf d]
 generalize B:cG.idxOf p=j at d g f;have a:=I.ok.1;have y:∀ i,j<=i->i<10->found[i]?=some 0:=λ i s h=>by
  obtain ⟨q,c⟩:∃ q,cG[i]?=some q:=#[_,cK h]
  refine I.Cb i q c ?_;have:=Xq j g i h s;rw [f,c] at this;simp only [Option.getD_some] at this;omega
 have w:bJ (found.set j e)=(bJ found).set j (p,e):=by
  apply qY;intro i;rcases lj i 10 with ar|ar
  ·rw [qD (by rw [pD];exact a) ar,List.getElem?_set];by_cases b:j=i
   ·subst b;rw [if_pos rfl,if_pos (by rw [pC a];exact ar)];have v:cG[j]'ar=p:=cE ((cK ar).symm.trans f);rw [v];simp
   ·rw [if_neg b,qD a ar];simp [b]
  ·rw [jw (by rw [pC (by rw [pD];exact a)];exact ar),jw (by rw [pD,pC a];exact ar)]
 have n:∀ k,j<=k->en ((bJ found).drop k)=[]:=λ k C=>by
  apply List.filter_eq_nil_iff.mpr;intro q c;obtain ⟨m,hm⟩:=hR c;rw [List.getElem?_drop] at hm;have u:k+m<10:=by
   rcases lj (k+m) 10 with z|z
   ·exact z
   ·rw [jw (by rw [pC a];exact z)] at hm;cases hm
  obtain ⟨E,G⟩:=q;have l:=(Rj hm).2;rw [y (k+m) .au u] at l;cases l;simp
 have t:j<(bJ found).length:=by rw [pC a];exact g
 refine #[#[by rw [pD];exact a,λ x ae=>?_],?_,λ i q ar c=>?_]
 ·rcases List.mem_or_eq_of_mem_set ae with z|z
  ·exact I.ok.2 x z
  ·omega
 ·rw [I.cj,w,uc,uc];have o:en (bJ found)=en ((bJ found).take j):=by
   conv=>lhs;rw [<-List.take_append_drop j (bJ found)]
   unfold en;rw [List.filter_append];have:=n j (bx _);unfold en at this;rw [this,qJ]
  have r:en ((bJ found).set j (p,e))=en ((bJ found).take j)++[(p,e)]:=by
   rw [List.set_eq_take_append_cons_drop,if_pos t];unfold en;rw [List.filter_append,List.filter_cons,if_pos (bc (show 0<e by omega))];have:=n (j+1) .au;unfold en at this;rw [this]
  rw [o,r,hl];rfl
 ·have A:=(dr.mp ar).1;have b:j≠i:=λ z=>by
   subst z;rw [f] at ar;cases ar;omega
  rw [List.getElem?_set_ne b];exact I.Cb i q ar .au
theorem P7:qq [] 0 gm:=#[t_,.aB,λ i p ar Z=>by
 have a:i<10:=(dr.mp ar).1;rw [List.getElem?_replicate,if_pos a]]
theorem H5:∀ ys ws last found a f2,qq ws last found->ys.foldl gj (some (last,found))=some (a,f2)->qq (ws++ys) a f2
 | [],ws,last,found,a,f2,I,h=>by
  cases h;rw [qJ];exact I
 | y::ys,ws,last,found,a,f2,I,h=>by
  have h':ys.foldl gj (gj (some (last,found)) y)=some (a,f2):=h;cases ah:gO y with
  | none =>
   have e:gj (some (last,found)) y=.n:=by show (match gO y with|some (p,e)=>_|none=>.n)=.n;rw [ah]
   rw [e,w3] at h';cases h'
  | some q =>
   obtain ⟨p,e⟩:=q;obtain ⟨a1,a2,d,f⟩:=Ul ah;by_cases c:last<p
   ·have b:gj (some (last,found)) y=some (p,found.set (cG.idxOf p) e):=by
     show (match gO y with|some (p,e)=>if last<p then some (p,found.set (cG.idxOf p) e) else .n|none=>.n)=_;rw [ah];exact if_pos c
    rw [b] at h';have:=H5 ys _ _ _ a f2 (I.step a2 d f c) h';rw [List.append_assoc] at this;rw [a1];exact this
   ·have b:gj (some (last,found)) y=.n:=by
     show (match gO y with|some (p,e)=>if last<p then some (p,found.set (cG.idxOf p) e) else .n|none=>.n)=_;rw [ah];exact if_neg c
    rw [b,w3] at h';cases h'
set_option tactic.hygienic true in
theorem Ax (h:hJ x=some aj):i2 aj/\x=dk (bJ aj):=by
 unfold hJ at h;split at h
 ·rename_i ae;cases h;exact #[t_,by rw [G0];exact ae]
 ·cases hf:(Txt.split x (aL 42)).foldl gj (some (0,gm)) with
  | none=>rw [hf] at h;cases h
  | some r =>
   obtain ⟨a,f2⟩:=r;rw [hf] at h;have e:=cE h;subst e;have I:=H5 _ [] _ _ _ _ P7 hf;rw [List.nil_append] at I;refine #[I.ok,?_];unfold dk;rw [if_neg (λ z=>kg x (aL 42) (by rw [I.cj,z])),<-I.cj];exact (j_ x (aL 42)).symm
theorem GX:∀ (L:cN) last found,L.Pairwise (λ a b=>a.1<b.1)->(∀ q∈L,last<q.1/\q.1∈cG/\1<=q.2/\q.2<=1000000)->∃ r,(L.map λ p=>dZ p.1 p.2).foldl gj (some (last,found))=some r
 | [],last,found,_,_=>#[_,Y]
 | q::L,last,found,ah,c=>by
  obtain ⟨dx,dS⟩:=List.pairwise_cons.mp ah;obtain ⟨a1,a2,f,g⟩:=c q dn;have e:gj (some (last,found)) (dZ q.1 q.2)=some (q.1,found.set (cG.idxOf q.1) q.2):=by
   show (match gO (dZ q.1 q.2) with|some (p,e)=>if last<p then some (p,found.set (cG.idxOf p) e) else .n|none=>.n)=_;rw [Um a2 f g];exact if_pos a1
  obtain ⟨r,h⟩:=GX L q.1 (found.set (cG.idxOf q.1) q.2) dS λ z d=>#[dx z d,(c z (de _ d)).2]
  refine #[r,?_];show (L.map λ p=>dZ p.1 p.2).foldl gj (gj (some (last,found)) (dZ q.1 q.2))=_;rw [e];exact h
theorem HF:∀ (a b:bB),a.Pairwise (· < ·)->(a.zip b).Pairwise λ x y=>x.1<y.1
 | [],_,_=>by simp
 | x::a,[],_=>by simp
 | x::a,y::b,h=>by
  obtain ⟨U,aa⟩:=List.pairwise_cons.mp h;rw [List.zip_cons_cons,List.pairwise_cons];exact #[λ z c=>U _ (nI c).1,HF a b aa]
theorem RW (h:i2 aj):hJ (dk (bJ aj))=some aj:=by
 suffices av:∃ aw,hJ (dk (bJ aj))=some aw by
  obtain ⟨aw,hf⟩:=av;obtain ⟨v,e⟩:=Ax hf;rw [hf,RX h v e]
 unfold hJ;by_cases hw:fh (bJ aj)=[]
 ·rw [if_pos (by unfold dk;rw [if_pos hw])];exact #[_,Y]
 ·rw [if_neg (Ay hw)];have e:dk (bJ aj)=Str.join (aL 42) (fh (bJ aj)):=by unfold dk;rw [if_neg hw]
  rw [e,xc 42 _ hw wR,uc];obtain ⟨r,b⟩:=GX (en (bJ aj)) 0 gm ((HF cG aj .aB).sublist Ag) λ q a=>by
   have:=AF a;have ah:=uq _ this.1;have he:=h.2 _ this.2.2;exact #[.au,this.1,.au,he.2]
  rw [b];exact #[_,Y]
noncomputable def d3 (c:Nat) (x:Str):Option (Int×Int):=match (Txt.split x (aL c)).map hK with
 | [some p,some e]=>some (p,e)
 | _=>.n
set_option tactic.hygienic true in
theorem Uk (h:d3 c x=some (p,e)):x=cx p++aL c++cx e/\(1<=p/\p<10000000000000)/\1<=e/\e<10000000000000:=by
 unfold d3 at h;split at h
 ·rename_i p' i hm;cases h;obtain ⟨a,b,g,ak,f⟩:=t9 hm;have d:=j_ x (aL c);rw [g,(tZ ak).1,(tZ f).1] at d;exact #[d.symm,(tZ ak).2,(tZ f).2]
 ·cases h
noncomputable def allR (c:Nat):bA->Option cN
 | []=>some []
 | x::l=>match d3 c x,allR c l with
  | some q,some r=>some (q::r)
  | _,_=>.n
theorem Bb (c:Nat) (x:Str):∀ l:bA,allR c (l++[x])=match allR c l,d3 c x with
  | some r,some q=>some (r++[q])
  | _,_=>.n
 | []=>by
  show (match d3 c x,some [] with|some q,some r=>some (q::r)|_,_=>.n)=(match some [],d3 c x with|some r,some q=>some (r++[q])|_,_=>.n);cases d3 c x<;>rfl
 | y::l=>by
  have a:=Bb c x l;show (match d3 c y,allR c (l++[x]) with|some q,some r=>some (q::r)|_,_=>.n)=(match (match d3 c y,allR c l with|some q,some r=>some (q::r)|_,_=>.n),d3 c x with|some r,some q=>some (r++[q])|_,_=>.n);rw [a];cases d3 c y<;>cases allR c l<;>cases d3 c x<;>rfl
theorem AS:∀ {l:bA},x∈l->d3 c x=.n->allR c l=.n
 | [],h,_=>by cases h
 | y::l,h,ae=>by
  show (match d3 c y,allR c l with|some q,some r=>some (q::r)|_,_=>.n)=.n;rcases bt.mp h with rfl|h'
  ·rw [ae]
  ·rw [AS h' ae];cases d3 c y<;>rfl
theorem rb:∀ {l:bA} {L:cN},allR c l=some L->L.length=l.length/\∀ q∈L,(1<=q.1/\q.1<10000000000000)/\1<=q.2/\q.2<10000000000000
 | [],L,h=>by cases h;exact #[Y,λ q d=>by cases d]
 | x::l,L,h=>by
  have h':(match d3 c x,allR c l with|some q,some r=>some (q::r)|_,_=>.n)=some L:=h;cases ah:d3 c x with
  | none=>rw [ah] at h';cases h'
  | some q =>
   cases a:allR c l with
   | none=>rw [ah,a] at h';cases h'
   | some r =>
    rw [ah,a] at h';cases h';have b:=rb a;refine #[by simp [b.1],λ z e=>?_];rcases bt.mp e with rfl|f
    ·exact (Uk ah).2
    ·exact b.2 z f
noncomputable def getL (L:cN) (p:Int):Int:=L.foldl (λ a q=>if q.1=p then q.2 else a) 0
theorem AW:∀ {L:cN} {a:Int},p∉L.map (·.1)->L.foldl (λ a q=>if q.1=p then q.2 else a) a=a
 | [],_,_=>rfl
 | q::L,a,h=>by
  show L.foldl _ (if q.1=p then q.2 else a)=a;rw [if_neg (λ z=>h (by rw [<-z];exact dn)),AW λ z=>h (de _ z)]
theorem FX:∀ {L:cN} {a:Int},(L.map (·.1)).Nodup->(p,e)∈L->L.foldl (λ a q=>if q.1=p then q.2 else a) a=e
 | [],_,_,h=>by cases h
 | q::L,a,ao,h=>by
  obtain ⟨b,c⟩:=nH.mp ao;show L.foldl _ (if q.1=p then q.2 else a)=e;rcases bt.mp h with z|z
  ·subst z;rw [if_pos rfl,AW b]
  ·exact FX c z
theorem GR:∀ {L:cN} {a:Int} {p:Int},(∀ q∈L,0<=q.2/\q.2<B)->0<=a/\a<B->0<=L.foldl (λ a q=>if q.1=p then q.2 else a) a/\L.foldl (λ a q=>if q.1=p then q.2 else a) a<B
 | [],_,_,_,h=>h
 | q::L,a,p,h,ak=>by
  have aa:0<=(if q.1=p then q.2 else a)/\(if q.1=p then q.2 else a)<B:=by
   split
   ·exact h q dn
   ·exact ak
  exact GR (L:=L) (λ z b=>h z (de _ b)) aa
noncomputable def eW (L:cN):bB:=cG.map (getL L)
theorem Vz (h:i2 aj):eW (en (bJ aj))=aj:=by
 apply qR (by unfold eW;rw [bz,h.1];rfl);intro i U aa;have ar:i<10:=by rw [h.1] at aa;exact aa
 show (cG.map (getL (en (bJ aj))))[i]'(by rw [bz];exact ar)=aj[i];rw [List.getElem_map];have hm:=b5 (qD h.1 ar);have he:=h.2 _ (iw aa);by_cases ah:0<aj[i]
 ·exact FX (V4 aj) (hO.mpr #[hm,bc ah])
 ·have:getL (en (bJ aj)) (cG[i]'ar)=0:=AW λ z=>by
   obtain ⟨⟨p',f⟩,hf,a⟩:=cW.mp z;have b:=a;subst b;obtain ⟨c,d⟩:=hO.mp hf;have:=Av (AG aj) hm c;have e:=cD d;omega
  omega
theorem Tz (h:∀ q∈L,(1<=q.1/\q.1<10000000000000)/\1<=q.2/\q.2<10000000000000):allR 94 (L.map λ p=>dZ p.1 p.2)=some L:=by
 induction L with
 | nil=>rfl
 | cons q L c =>
  have a:=h q dn;have e:d3 94 (dZ q.1 q.2)=some (q.1,q.2):=by
   unfold d3;rw [w5 .au .au];simp only [es,j6];rw [AB a.1.1 a.1.2,AB a.2.1 a.2.2]
  show (match d3 94 (dZ q.1 q.2),allR 94 (L.map λ p=>dZ p.1 p.2) with|some q,some r=>some (q::r)|_,_=>.n)=_;rw [e,c λ z b=>h z (de _ b)]
noncomputable def fM (x:Str):Option bB:=if x=aL 49 then some gm else match allR 94 (Txt.split x (aL 42)) with
 | some L=>if (∀ e∈eW L,e<=1000000)/\dk (bJ (eW L))=x then some (eW L) else .n
 | none=>.n
theorem GN (h:∀ q∈L,(1<=q.1/\q.1<10000000000000)/\1<=q.2/\q.2<10000000000000):(eW L).length=10/\∀ e∈eW L,0<=e/\e<10000000000000:=by
 refine #[by unfold eW;rw [bz];rfl,λ e he=>?_];obtain ⟨p,_,rfl⟩:=cW.mp he;exact GR (λ q a=>#[by have:=(h q a).2;omega,(h q a).2.2]) #[.aB,.aB]
set_option tactic.hygienic true in
theorem Bs (x):fM x=hJ x:=by
 have fwd:∀ aj,fM x=some aj->hJ x=some aj:=λ aj h=>by
  unfold fM at h;split at h
  ·rename_i ae;cases h;unfold hJ;rw [if_pos ae]
  ·split at h
   ·rename_i L d;split at h
    ·rename_i af;cases h;have ok:=GN (rb d).2;have v:i2 (eW L):=#[ok.1,λ e he=>#[(ok.2 e he).1,af.1 e he]]
     rw [<-af.2];exact RW v
    ·cases h
   ·cases h
 cases a:hJ x with
 | none =>
  cases g:fM x with
  | none=>rfl
  | some aj=>rw [fwd aj g] at a;cases a
 | some aj =>
  obtain ⟨v,e⟩:=Ax a;unfold fM;by_cases ae:x=aL 49
  ·rw [if_pos ae];unfold hJ at a;rw [if_pos ae] at a;exact a
  ·rw [if_neg ae];have hw:fh (bJ aj)≠[]:=λ z=>ae (by rw [e];unfold dk;rw [if_pos z])
   have b:x=Str.join (aL 42) (fh (bJ aj)):=by rw [e];unfold dk;rw [if_neg hw]
   have c:allR 94 (Txt.split x (aL 42))=some (en (bJ aj)):=by
    rw [b,xc 42 _ hw wR,uc];exact Tz λ q f=>by
     have U:=AF f;have aa:=uq _ U.1;have i:=v.2 _ U.2.2;exact #[#[.au,.au],.au,.au]
   rw [c];show (if (∀ e∈eW (en (bJ aj)),e<=1000000)/\dk (bJ (eW (en (bJ aj))))=x then some (eW (en (bJ aj))) else .n)=some aj;rw [Vz v,if_pos #[λ e he=>(v.2 e he).2,e.symm]]
theorem IG (h:d1 i j=.t):(1<=i/\i<=1000000000000)/\1<=j/\j<=1000000000000:=by
 unfold d1 dT at h;simp only [eJ,iT] at h;exact #[h.1.1.1,h.1.2.1]
noncomputable def fp (x:Str):Option (Int×Int):=match (Txt.split x (aL 47)).map cm with
 | [some a,some b]=>if d1 a b=.t then some (a,b) else .n
 | _=>.n
set_option tactic.hygienic true in
theorem IM:fp x=some q ↔ d3 47 x=some q/\d1 q.1 q.2=.t:=by
 constructor
 ·intro h;unfold fp at h;split at h
  ·rename_i a b hm;split at h
   ·rename_i hf;cases h;obtain ⟨u,v,c,d,aI⟩:=t9 hm;have r:=IG hf;refine #[?_,hf];unfold d3;rw [c];simp only [es,j6];rw [(wD r.1.1 .au).mp d,(wD r.2.1 .au).mp aI]
   ·cases h
  ·cases h
 ·rintro ⟨h,hf⟩;obtain ⟨a,b⟩:=q;unfold d3 at h;split at h
  ·rename_i a' e hm;cases h;obtain ⟨u,v,c,d,aI⟩:=t9 hm;have r:=IG hf;unfold fp;rw [c];simp only [es,j6];rw [(wD r.1.1 .au).mpr d,(wD r.2.1 .au).mpr aI];exact if_pos hf
  ·cases h
noncomputable def f3:bA->Option cN
 | []=>some []
 | x::l=>match fp x,f3 l with
  | some q,some r=>some (q::r)
  | _,_=>.n
theorem HL (x:Str):∀ l:bA,f3 (l++[x])=match f3 l,fp x with
  | some r,some q=>some (r++[q])
  | _,_=>.n
 | []=>by
  show (match fp x,some [] with|some q,some r=>some (q::r)|_,_=>.n)=(match some [],fp x with|some r,some q=>some (r++[q])|_,_=>.n);cases fp x<;>rfl
 | y::l=>by
  have a:=HL x l;show (match fp y,f3 (l++[x]) with|some q,some r=>some (q::r)|_,_=>.n)=(match (match fp y,f3 l with|some q,some r=>some (q::r)|_,_=>.n),fp x with|some r,some q=>some (r++[q])|_,_=>.n);rw [a];cases fp y<;>cases f3 l<;>cases fp x<;>rfl
theorem AR:∀ {l:bA},x∈l->fp x=.n->f3 l=.n
 | [],h,_=>by cases h
 | y::l,h,ae=>by
  show (match fp y,f3 l with|some q,some r=>some (q::r)|_,_=>.n)=.n;rcases bt.mp h with rfl|h'
  ·rw [ae]
  ·rw [AR h' ae];cases fp y<;>rfl
theorem ua:∀ {l:bA} {L:cN},f3 l=some L ↔ allR 47 l=some L/\∀ f∈L,d1 f.1 f.2=.t
 | [],L=>by
  constructor
  ·intro h;cases h;exact #[Y,λ f hf=>by cases hf]
  ·rintro ⟨h,_⟩;cases h;rfl
 | x::l,L=>by
  have d:f3 (x::l)=match fp x,f3 l with|some q,some r=>some (q::r)|_,_=>.n:=rfl
  have e:allR 47 (x::l)=match d3 47 x,allR 47 l with|some q,some r=>some (q::r)|_,_=>.n:=rfl
  rw [d,e];constructor
  ·intro h;cases ah:fp x with
   | none=>rw [ah] at h;cases h
   | some q =>
    cases a:f3 l with
    | none=>rw [ah,a] at h;cases h
    | some r =>
     rw [ah,a] at h;cases h;obtain ⟨a1,a2⟩:=IM.mp ah;obtain ⟨b,c⟩:=ua.mp a;rw [a1,b];exact #[Y,λ f hf=>(bt.mp hf).elim (λ z=>by rw [z];exact a2) (c f)]
  ·rintro ⟨h,hf⟩;cases ah:d3 47 x with
   | none=>rw [ah] at h;cases h
   | some q =>
    cases a:allR 47 l with
    | none=>rw [ah,a] at h;cases h
    | some r =>
     rw [ah,a] at h;cases h;rw [IM.mpr #[ah,hf q dn],ua.mpr #[a,λ f h=>hf f (de _ h)]]
noncomputable def hM (x:Str):Option cN:=match allR 47 (Txt.split x (aL 32)) with
 | some L=>if L.length<=16/\(∀ f∈L,d1 f.1 f.2=.t) then some L else .n
 | none=>.n
noncomputable def l8 (x:Str):Option cN:=match f3 (Txt.split x (aL 32)) with
 | some L=>if L.length<=16 then some L else .n
 | none=>.n
theorem Wb (x):hM x=l8 x:=by
 unfold hM l8;cases a:allR 47 (Txt.split x (aL 32)) with
 | none =>
  cases hf:f3 (Txt.split x (aL 32)) with
  | none=>rfl
  | some L=>rw [(ua.mp hf).1] at a;cases a
 | some L =>
  by_cases c:∀ f∈L,d1 f.1 f.2=.t
  ·rw [ua.mpr #[a,c]];by_cases b:L.length<=16
   ·show (if _ then _ else _)=(if _ then _ else _);rw [if_pos #[b,c],if_pos b]
   ·show (if _ then _ else _)=(if _ then _ else _);rw [if_neg λ z=>b z.1,if_neg b]
  ·have ao:f3 (Txt.split x (aL 32))=.n:=by
    cases hf:f3 (Txt.split x (aL 32)) with
    | none=>rfl
    | some M =>
     obtain ⟨d,e⟩:=ua.mp hf;rw [d] at a;cases a;exact absurd e c
   rw [ao];exact if_neg λ z=>c z.2
set_option tactic.hygienic true in
theorem U1 (h:hM x=some aw):1<=aw.length/\aw.length<=16/\∀ f∈aw,d1 f.1 f.2=.t:=by
 unfold hM at h;split at h
 ·rename_i L a;split at h
  ·rename_i af;cases h;refine #[?_,af];rw [(rb a).1];exact wo.mpr (kg _ _)
  ·cases h
 ·cases h
theorem wA (ah:2<=p) (ao:1<=n):0<cnt p n ↔ p∣n:=by
 rw [wB];by_cases h:n%p=0
 ·rw [if_pos #[ah,ao,h]];exact #[λ Z=>tL h,λ Z=>Nat.succ_pos _]
 ·rw [if_neg λ z=>h z.2.2];exact #[λ z=>absurd z (ei 0),λ z=>absurd (Nat.mod_eq_zero_of_dvd z) h]
set_option tactic.hygienic true in
theorem TC (n):cnt p n<=n:=by
 induction n using Nat.strongRecOn with
 | _ n a =>
  rw [wB];split
  ·rename_i h;have U:=j8 h.2.1 h.1;have:=a (n/p) U;omega
  ·exact ej _
theorem W7 (ak:1<=a) (d:1<=b):my a b=.t ↔ ∀ p∈dp,¬ ((0:Int)<(cnt p a:Int)*(cnt p b:Int)):=by
 rw [Xm];constructor
 ·intro h p ah z;have aa:=jq p ah;refine h p ah #[(wA aa ak).mp ?_,(wA aa d).mp ?_]
  ·apply Nat.pos_of_ne_zero;intro y;rw [y] at z;simp at z
  ·apply Nat.pos_of_ne_zero;intro y;rw [y] at z;simp at z
 ·rintro h p ah ⟨U,aa⟩;have c:=jq p ah;refine h p ah (Int.mul_pos ?_ ?_)
  ·have:=(wA c ak).mpr U;omega
  ·have:=(wA c d).mpr aa;omega
open bV
end ck
namespace CS
open PySem PySem.W PyProof.Rows bj
section
variable {prog:Program} {w:World} {A:Around} {E:c0} {s:Shared}
theorem take_all (K:KdlSrc prog w T r d n P l) (p:A.handled=.n) (aK:l s.heap) (ao:n<=sizeLine)
  (h:∀ g a8 acc,(∀ b o,s.heap.get? b=some o->g.get? b=some o)->s.heap.objs.size<g.objs.size->ItemsOf P acc n->R acc.toList { s with heap:=g,toks:=a8 }) :
  wpAny (model prog w) A (collect (.ref r)) R E s:=by
 have lt:=K.there _ aK;have q:(s.heap.push (seqObj "list" #[] 0)).get? s.heap.objs.size=some (seqObj "list" #[] 0):=cJ _ rfl;have key:=kdl_extend (s:={ s with heap:=s.heap.push (seqObj "list" #[] 0) })
  (R:=λ z s'=>∃ (g:Heap) (a8:Nat) (acc:ee) (c:Nat),z=.ok (.ret (.ref s.heap.objs.size))/\s'={ s with heap:=g,toks:=a8 }/\(∀ b o,s.heap.get? b=some o->g.get? b=some o)/\g.get? s.heap.objs.size=some { cls:=.type "list", dict:=.n,data:=.seq acc c,slots:=#[] }/\ItemsOf P acc n)
  K p (K.keep _ _ aK λ b Z o e=>a9 _ e) s.heap.objs.size (hP lt.1) (hP lt.2) (.ref s.heap.objs.size) 0 q
  (λ g a8 acc c j a i=>#[g,a8,acc,c,Y,Y,λ b o e=>j b o (cc (bu e)) (a9 _ e),a,i]) ao
 refine ax (wpAny_runValue (nR entry_proto_collect' (?_)));refine ax (wb (a_ #[Ab _ (by decide +kernel),nR entry_list_iadd' (?_)]));refine d_ key (λ z s' x=>?_) λ e s' x=>?_
 ·cases z with
  | again c =>
   refine #[x.1,j2 x.2 ?_];rintro _ _ ⟨g,a8,acc,m,f,k,j,a,i⟩;subst f k;exact (ax (tg a (a_ (h g a8 acc j (bu a) i))))
  | done v =>
   obtain ⟨g,a8,acc,m,f,k,j,a,i⟩:=x;subst k;cases f;exact (ax (tg a (a_ (h g a8 acc j (bu a) i))))
 ·obtain ⟨_,_,_,_,f,_⟩:=x;cases f
theorem Xt (q:A.handled=.n) (lo:(d==sysModules)=.f) (dd:s.heap.DictOf (gT prog w) d vs) (m:vs.map (·.1)=ns.map b0) (H:ns.length<64)
  (k:∀ h' a8 (p:Addr) out e ms,(∀ b bD,s.heap.get? b=some bD->h'.get? b=some bD)->s.heap.objs.size<=p->StrsAre out.toList ms->ms.Perm ns->sortedS ms=.t->h'.get? p=some (seqObj "list" out e)->R (.ref p) { s with heap:=h',toks:=a8 }) :
  wpAny (model prog w) A (call (.builtin "sorted") [.ref d]) R E s:=by
 obtain ⟨G,o⟩:=dd.dictAt;have l:vs.length=ns.length:=by
  have:=eG List.length m;simpa using this
 refine Calls.call_function_entry kind_sorted plain_sorted entry_sorted (args_sorted1 _) (?_);refine ax (a_ (ax (take_all (kdl_dict lo) q o (by rw [l,b7];omega) λ U t1 acc k1 u h=>ax (wb ?_ ?_))))
 ·have al:acc.toList.length=ns.length:=by rw [e6,h.1,l]
  have at':∀ j (v:Value),acc.toList[j]?=some v->∃ x t,ns[j]?=some x/\v=.str x t:=λ j v aI=>by
   obtain ⟨key,x,ae,ar⟩:=h.2 j v (by rw [<-Array.getElem?_toList];exact aI);have aa:(ns.map b0)[j]?=some key:=by rw [<-m,et,ae];rfl
   rw [et] at aa;obtain ⟨y,r,e⟩:=tM.mp aa;subst e;rcases lx (show pd (b0 y) v=.t from ar) with ⟨i,t,e,_⟩|⟨z,t,e,rfl⟩
   ·cases e
   ·cases e;exact #[y,t,r,Y]
  have g:StrsAre acc.toList ns:=by
   have U:=strsAre_map acc.toList λ v aI=>by
    obtain ⟨j,a⟩:=hR aI;obtain ⟨x,t,_,e⟩:=at' j v a;exact #[x,t,e]
   have e:acc.toList.map strOf=ns:=by
    apply qY;intro j;rw [et];cases a:acc.toList[j]? with
    | some v =>
     obtain ⟨x,t,ae,rfl⟩:=at' j v a;rw [ae];rfl
    | none =>
     have:=List.getElem?_eq_none_iff.mp a;rw [jw .au];rfl
   rw [e] at U;exact U
  have n:acc.toList.length<64:=by omega
  have c:(U.push (seqObj "list" acc.toList.toArray 0)).get? U.objs.size=some (seqObj "list" acc.toList.toArray 0):=cJ _ rfl;refine ax (eV (jk slot_list_sort #[_,c,Y] entry_list_sort (list_sort_treeK strKind_oneLt c g.keysOf (λ v₁ v₂ rest e=>keyKind_strs (by rw [<-e];exact g)) n λ cQ ah av=>#[_,Y,a_ #[_,Y,?_]]) (args_list_sort _)));obtain ⟨ms,B,C,D⟩:=sorted_out_str g ah av;obtain ⟨e,he⟩:=sortedHeap_at c;exact k _ t1 U.objs.size _ e ms (λ f bD y=>(sortedHeap_old (cc (bu (k1 f bD y))) (by rw [eF];exact mh (bu (k1 f bD y)))).trans (a9 _ (k1 f bD y))) (vN u) B C D he
 ·rw [e6,h.1,l,b7];omega
end
end CS
namespace bj
open PySem PySem.Spec PyProof.Rows
section
variable {X:aW}
theorem Xa (h:StrsAre vs ns):Vals (ns.map V.str) vs:=by
 induction h with
 | nil=>exact .nil
 | cons n t h a=>exact .cons #[t,Y] a
theorem X3 (af:X.calm=.t):ep X (.builtin "sorted") (λ xs H Q=>∃ (d:Addr) (kvs:List (Key×V)) (ns:bA),xs=[V.ref d]/\H d=some (.cM kvs)/\kvs.map (·.1)=ns.map b0/\ns.length<64/\∀ ms,ms.Perm ns->sortedS ms=.t->fi (.lst (ms.map V.str)) H Q):=by
 intro pins s σ H xs us Q I r h;obtain ⟨d,kvs,ns,rfl,hd,c,b,q⟩:=h;obtain ⟨u,rfl,g⟩:=vals1 r;cases g;obtain ⟨_,lo,vs,rel,dd⟩:=tk I.aK hd;refine CS.Xt (I.ok.hd.1 af) lo dd (by rw [<-rel.keys];exact c) b λ j k f out e ms old ge aA pm i a=>?_
 refine #[.ref f,_,I.laid old ge (show eh X.prog X.w _ _ _ (.lst (ms.map V.str)) from #[?_,out.toList,e,Xa aA,?_]),Y,(q ms pm i).at _ (I.aK.fresh ge)]
 ·rw [bz,pm.length_eq,b7];omega
 ·exact a
end
open PySem PySem.Spec PyProof.Rows bV
end bj
namespace ck
section
variable {α β: Type} [DecidableEq α]
noncomputable def di (b:List (α×β)) (x : α):Option β := (b.find? λ p=>decide (p.1=x)).map (·.2)
noncomputable def e3 (b:List (α×β)) (x : α) (e : β):List (α×β):=if (b.any λ p=>decide (p.1=x))=.t then b.map (λ p=>if p.1=x then (p.1,e) else p) else b++[(x,e)]
noncomputable def fz (b:List (α×β)) (x : α):List (α×β):=b.filter λ p=>decide (p.1≠x)
noncomputable abbrev d2 (b:List (α×β)):List α := b.map (·.1)
theorem rx {p: α×β} {b:List (α×β)} {x: α}:di (p::b) x=if p.1=x then some p.2 else di b x:=by
 unfold di;rw [pG];by_cases h:p.1=x
 ·rw [bc h,if_pos h];rfl
 ·rw [bZ h,if_neg h]
theorem um {b:List (α×β)} {x: α}:di b x=.n ↔ x∉d2 b:=by
 induction b with
 | nil=>exact #[λ Z h=>by simp at h,λ Z=>rfl]
 | cons p b a =>
  rw [rx];by_cases h:p.1=x
  ·rw [if_pos h];simp [h]
  ·rw [if_neg h,a];simp only [d2,es,bt,not_or];exact #[λ z=>#[λ e=>h e.symm,z],λ z=>z.2]
theorem ro {b:List (α×β)} {x: α} {e: β} (h:di b x=some e):(x,e)∈b:=by
 induction b with
 | nil=>cases h
 | cons p b a =>
  rw [rx] at h;by_cases ah:p.1=x
  ·rw [if_pos ah] at h;cases h;rw [<-ah];exact dn
  ·rw [if_neg ah] at h;exact de _ (a h)
theorem G1 {b:List (α×β)} (dg:(d2 b).Nodup) {x: α} {e: β} (h:(x,e)∈b):di b x=some e:=by
 induction b with
 | nil=>cases h
 | cons p b d =>
  rw [rx];have a:=nH.mp dg;rcases bt.mp h with z|z
  ·subst z;rw [if_pos rfl]
  ·rw [if_neg (λ c=>a.1 (show p.1∈_ by rw [c];exact qZ z))];exact d a.2 z
theorem any_keys {b:List (α×β)} {x: α}:(b.any λ p=>decide (p.1=x))=.t ↔ x∈d2 b:=by
 rw [q0];constructor
 ·rintro ⟨p,ah,e⟩;rw [<-cD e];exact qZ ah
 ·intro h;obtain ⟨p,ah,e⟩:=cW.mp h;exact #[p,ah,bc e]
theorem mz {b:List (α×β)} {x: α} {e: β} (h:x∈d2 b):e3 b x e=b.map (λ p=>if p.1=x then (p.1,e) else p):=if_pos (any_keys.mpr h)
theorem mB {b:List (α×β)} {x: α} {e: β} (h:x∉d2 b):e3 b x e=b++[(x,e)]:=if_neg λ z=>h (any_keys.mp z)
theorem keys_map {b:List (α×β)} {x: α} {e: β}:d2 (b.map (λ p=>if p.1=x then (p.1,e) else p))=d2 b:=by
 show List.map _ (List.map _ b)=_;rw [gS];refine qT λ p Z=>?_
 show (if p.1=x then (p.1,e) else p).1=p.1;split<;>rfl
theorem IP {b:List (α×β)} (dg:(d2 b).Nodup) (x : α) (e : β):(d2 (e3 b x e)).Nodup:=by
 by_cases h:x∈d2 b
 ·rw [mz h,keys_map];exact dg
 ·rw [mB h];show (List.map _ (b++[(x,e)])).Nodup;rw [hl,List.nodup_append];refine #[dg,.zs,λ a ak c af z=>?_];have:c=x:=by simpa using af
  subst z;rw [this] at ak;exact h ak
theorem Xi {b:List (α×β)} (dg:(d2 b).Nodup) (x : α):(d2 (fz b x)).Nodup:=dg.sublist (Ag.map _)
theorem HX {b:List (α×β)} {x: α} (h:x∉d2 b):fz b x=b:=List.filter_eq_self.mpr λ p ah=>bc λ z=>h (by rw [<-z];exact qZ ah)
theorem WJ {b c:List (α×β)} (h:b.Perm c) (dg:(d2 b).Nodup) (x : α):di b x=di c x:=by
 have a:=(h.map _).nodup_iff.mp dg;cases e:di b x with
 | none =>
  have:=um.mp e;exact (um.mpr λ z=>this ((h.map (·.1)).mem_iff.mpr z)).symm
 | some v=>exact (G1 a (h.mem_iff.mp (ro e))).symm
theorem V7 {b c:List (α×β)} (h:b.Perm c) (x : α) (e : β):(e3 b x e).Perm (e3 c x e):=by
 by_cases ae:x∈d2 b
 ·rw [mz ae,mz ((h.map (·.1)).mem_iff.mp ae)];exact h.map _
 ·rw [mB ae,mB λ z=>ae ((h.map (·.1)).mem_iff.mpr z)];exact h.append_right _
theorem Wy {b c:List (α×β)} (h:b.Perm c) (x : α):(fz b x).Perm (fz c x):=h.filter _
theorem UJ {b:List (α×β)} (dg:(d2 b).Nodup) {x: α} {e c: β} (h:di b x=some c):e3 (e3 b x e) x c=b:=by
 have ae:=qZ (f:=(·.1)) (ro h);rw [mz ae,mz (by rw [keys_map];exact ae),gS]
 conv=>rhs;rw [<-List.map_id b]
 refine qT λ p ah=>?_
 by_cases a:p.1=x
 ·have U:=G1 dg (show (x,p.2)∈b by rw [<-a];exact ah);rw [h] at U;cases U;show (if (if p.1=x then (p.1,e) else p).1=x then ((if p.1=x then (p.1,e) else p).1,p.2) else (if p.1=x then (p.1,e) else p))=p;rw [if_pos a,if_pos a]
 ·show (if (if p.1=x then (p.1,e) else p).1=x then ((if p.1=x then (p.1,e) else p).1,c) else (if p.1=x then (p.1,e) else p))=p;rw [if_neg a,if_neg a]
theorem UK {b:List (α×β)} {x: α} {e: β} (h:di b x=.n):fz (e3 b x e) x=b:=by
 have ae:=um.mp h;rw [mB ae];unfold fz;rw [List.filter_append,List.filter_cons_of_neg .zs,List.filter_nil,qJ];exact HX ae
theorem VB {b:List (α×β)} (dg:(d2 b).Nodup) {x: α} {c: β} (h:di b x=some c):(e3 (fz b x) x c).Perm b:=by
 have ae:x∉d2 (fz b x):=λ z=>by
  obtain ⟨p,ah,e⟩:=cW.mp z;have:=(hO.mp ah).2;exact absurd e (cD this)
 rw [mB ae]
 induction b with
 | nil=>cases h
 | cons p b i =>
  have d:=nH.mp dg;rw [rx] at h;by_cases ah:p.1=x
  ·rw [if_pos ah] at h;cases h;have aA:x∉d2 b:=by rw [<-ah];exact d.1
   have a:fz (p::b) x=b:=by
    unfold fz;rw [List.filter_cons_of_neg (by simp [ah])];exact HX aA
   rw [a];have f:(x,p.2)=p:=by rw [<-ah]
   rw [f];exact List.perm_append_singleton _ _
  ·rw [if_neg ah] at h;have a:fz (p::b) x=p::fz b x:=by
    unfold fz;rw [List.filter_cons_of_pos (by exact bc ah)]
   rw [a];exact (i d.2 h (λ z=>by
    obtain ⟨q,g,e⟩:=cW.mp z;exact absurd e (cD (hO.mp g).2))).cons p
end
open PySem PySem.Spec PyProof.Rows
theorem t5 (h:ba x=ba y):x=y:=by
 cases x;cases y;congr 1;exact z9.mp h
theorem BA:∀ l p,risingS p l=.t->∀ y∈l,ba p<=ba y
 | [],_,_,_,h=>by cases h
 | x::r,p,h,y,a=>by
  have h':(!ltCps x.cps.toList p.cps.toList&&risingS x r)=.t:=h;rw [eJ,Bool.not_eq_true',ltCps_eq,decide_eq_false_iff_not] at h';have U:=h'.1;rcases bt.mp a with z|z
  ·rw [z];exact U
  ·exact List.le_trans U (BA r x h'.2 y z)
theorem Jy (h:sortedS (x::r)=.t):sortedS r=.t:=by
 cases r with
 | nil=>rfl
 | cons y r =>
  have h':=h;exact (Ah.mp h').2
theorem I2:∀ {a b:bA},sortedS a=.t->sortedS b=.t->a.Perm b->a=b
 | [],b,_,_,h=>(List.Perm.nil_eq h)
 | x::r,[],_,_,h=>by have:=h.length_eq;simp at this
 | x::r,y::s,ak,c,h=>by
  have e:x=y:=by
   apply t5;have U:ba x<=ba y:=by
    rcases bt.mp (h.mem_iff.mpr (dn)) with z|z
    ·rw [z];exact List.le_refl _
    ·exact BA r x ak y z
   have aa:ba y<=ba x:=by
    rcases bt.mp (h.mem_iff.mp (dn)) with z|z
    ·rw [z];exact List.le_refl _
    ·exact BA s y c x z
   exact List.le_antisymm U aa
  subst e;rw [I2 (Jy ak) (Jy c) h.cons_inv]
section
variable {α β: Type} [DecidableEq α]
noncomputable def nx (b:List (α×β)) (x : α):Option β -> List (α×β)
 | none=>fz b x
 | some e=>e3 b x e
theorem BD {b c:List (α×β)} (h:b.Perm c) (x : α):∀ w:Option β,(nx b x w).Perm (nx c x w)
 | none=>Wy h x
 | some e=>V7 h x e
theorem Tf {b c:List (α×β)} (dg:(d2 b).Nodup) {x: α} {e: β} (h:c.Perm (e3 b x e)):(nx c x (di b x)).Perm b:=by
 refine (BD h x _).trans ?_;cases a:di b x with
 | none =>
  show (fz (e3 b x e) x).Perm b;rw [UK a]
 | some d =>
  show (e3 (e3 b x e) x d).Perm b;rw [UJ dg a]
theorem Ve {b c:List (α×β)} (dg:(d2 b).Nodup) {x: α} {d: β} (a:di b x=some d) (h:c.Perm (fz b x)):(nx c x (di b x)).Perm b:=by
 rw [a];exact (BD h x _).trans (VB dg a)
end
end ck
namespace bV
open PySem bj
structure n_ (K:aP) (R:Addr->Prop) (m q:Str) (st:Stmt) (ai:bA) where
 f:Addr
 fd:FuncData
 fn:fG K m q st f fd
 at_:R f
 bd:Binds K fd ai []
abbrev cp (K) (mg:Str->b_) (x) (st) (ai):=n_ K (λ f=>mg x=some (.ref f)) x x st ai
abbrev i_ (K) (C) (m q) (st) (ai):=n_ K (Meth K C m) m q st ai
abbrev yj (K) (C) (q) (st) (ai):=n_ K (p0 K C) "__init__" q st ai
abbrev cb (P:Program) (w:World) (mg:Str->b_) (base:Heap) (b8:i9) (k:Nat) {K:aP} {R:Addr->Prop} {m q:Str} {st:Stmt} {ai:bA} (D:n_ K R m q st ai) (sp:bG):Prop:=dB P w K mg base b8 k D.f D.fd ai sp
abbrev iD (P:Program) (w:World) (mg:Str->b_) (base:Heap) (k:Nat) {K:aP} {R:Addr->Prop} {m q:Str} {st:Stmt} {ai:bA} (D:n_ K R m q st ai) (sp:bG):Prop:=qv P w K mg base k D.f D.fd ai sp
theorem bY (h:bH N P sc:=by exact #[Y,Y,Y,by decide +kernel,Y,by decide +kernel,by decide +kernel]):bH N P sc:=h
section
variable {K:aP} {mg:Str->b_} {h:Heap} {x m q p dx dS lL p9:Str} {ai:bA} {C F D f:Addr}
def xB (x q:Str) (st:Stmt) (ai:bA):Prop:=∀ (cT doc pm) an (a0 b9) us,us.length=ai.length->bindArgs (PySem.W.fnOf x q (pN st) (iV st) (bo st) .none cT doc pm an a0 b9) ⟨us,[]⟩=pure (ai.zip us)
theorem len0 {us:List Value} (h:us.length=0):us=[]:=q1.mp h
theorem PH {us:List Value} (h:us.length=n+1):∃ u vs,us=u::vs/\vs.length=n:=by
 cases us with
 | nil=>cases h
 | cons u vs=>exact #[u,vs,Y,Nat.succ.inj h]
def oa (K:aP) (x:Str) (st:Stmt):Prop:=∃ f fd,PySem.W.nsIn K mainGlobals x=some (some (.ref f))/\fG K x x st f fd
theorem oa.mk {cT:Value} (a:PySem.W.nsIn K mainGlobals x=some (some (.ref f))) (l:K.lookup f=some ⟨dR,cH,.func (PySem.W.fnOf x x (pN st) (iV st) (bo st) .none cT doc pm an cd b9),cu⟩)
  (c:PySem.W.codeIn K cd x=.t) (k:PySem.W.keepIn K (.ref f)=.t):oa K x st:=#[f,_,a,zK l c k]
noncomputable def oa.dd (g:oa K x st) (X:K.In h) (G:h.Ns mainGlobals mg) (b:xB x x st ai):cp K mg x st ai :=
 Classical.choice (let ⟨f,fd,a,F⟩:=g;⟨⟨f,fd,F,PySem.W.mg_of X G a,F.binds b⟩⟩)
def mM (K:aP) (C:Addr) (m q:Str) (st:Stmt):Prop:=∃ f fd,PySem.W.findIn K (.ref C) m=some (some (.ref f))/\fG K m q st f fd/\PySem.W.isFn K (.ref f)=.t
theorem mM.mk {cT:Value} (a:PySem.W.findIn K (.ref C) m=some (some (.ref f))) (l:K.lookup f=some ⟨dR,cH,.func (PySem.W.fnOf m q (pN st) (iV st) (bo st) .none cT doc pm an cd b9),cu⟩)
  (c:PySem.W.codeIn K cd q=.t) (k:PySem.W.keepIn K (.ref f)=.t) (i:PySem.W.isFn K (.ref f)=.t):mM K C m q st:=#[f,_,a,zK l c k,i]
noncomputable def mM.Me (g:mM K C m q st) (b:xB m q st ai):i_ K C m q st ai :=
 Classical.choice (let ⟨f,fd,a,F,i⟩:=g;⟨⟨f,fd,F,⟨a,i,F.bI⟩,F.binds b⟩⟩)
noncomputable def mM.Mf (g:mM K C "__init__" q st) (c:PySem.W.makesIn K C=.t) (k:PySem.W.keepIn K (.ref C)=.t) (b:xB "__init__" q st ai):yj K C q st ai :=
 Classical.choice (let ⟨f,fd,a,F,i⟩:=g;⟨⟨f,fd,F,⟨c,a,i,k⟩,F.binds b⟩⟩)
def KF (K:aP) (C D:Addr) (b:Bool):Prop:=PySem.W.kitOne K (.ref C) (.ref D)=some b
end
end bV
namespace bj
open PySem PySem.Spec PyProof.Rows
section
variable {X:aW} {b8:i9} {k dQ:Nat} {R:Addr->Prop} {m q:Str} {ai:bA} {sp:bG} {E:cL} {x:Str} {p pos:Pos} {e:Expr} {aj:List Expr} {t:c2}
theorem bQ {D:bV.n_ X.K (λ f=>X.mg x=some (.ref f)) m q st ai} (F:dB X.prog X.w X.K X.mg X.base b8 k D.f D.fd ai sp) (g:cR dQ X.A) (ae:Passes b8 X E) (ak:dG X (e::aj) t) (b:cy X x:=by rfl) (c:k<=dQ:=by decide) (a:(x==("__debug__" : Str))=.f:=by decide) (he:starEach (e::aj) X.env=(.f,eval e X.env)::starEach aj X.env:=by rfl) (d:(backTo pos (starEach aj X.env)).any (·.1)=.f:=by rfl):aZ X (.Call (.Name x p) (e::aj) [] pos) (kV sp [] E t) :=
 SG F (g.mono c) b D.at_ D.fn.bI D.bd .nil ae ak a he d
theorem zS {D:bV.n_ X.K (λ f=>X.mg x=some (.ref f)) m q st ai} (F:dB X.prog X.w X.K X.mg X.base b8 k D.f D.fd ai sp) (d:cR dQ X.A) (ae:Passes b8 X E) (b:cy X x:=by rfl) (c:k<=dQ:=by decide) (a:(x==("__debug__" : Str))=.f:=by decide):aZ X (.Call (.Name x p) [] [] pos) (kV sp [] E gk) :=
 UN F (d.mono c) b D.at_ D.fn.bI D.bd .nil ae a
theorem bq (i) (S:bH X.N P sc) (he:aZ X e bg) (ar:X.N[i]?=some x:=by rfl) (ae:Loc X.env.scope x:=by exact Or.inl Y) (av:swapsWith e (some (.Name x pos')) pos.line X.env=pure .f:=by rfl) (hf:X.fn x=.t\/X.env.scope.names.lookup x=some .local:=by first|exact .inl Y|exact .inr Y|assumption):e0 X (.Assign [.Name x pos'] e pos) (kR bg (e4 i)) :=
 tE S.dg ar ae he av hf
theorem fL (i) (S:bH X.N P sc) (ar:X.N[i]?=some x:=by rfl) (ae:Loc X.env.scope x:=by exact Or.inl Y) (hf:X.fn x=.t\/X.env.scope.names.lookup x=some .local:=by first|exact .inl Y|exact .inr Y|assumption):iz X (.Name x pos) (e4 i) :=
 n0 S.dg ar ae hf
theorem bS {id:String} (af:ep X (.builtin id) r) (hm:X.mg x=.n) (aI:bootBuiltins x=some (.builtin id)) (ak:dG X (e::aj) t) (b:cy X x:=by rfl) (ao:x ≠ "__name__" := by decide) (a:(x==("__debug__" : Str))=.f:=by decide) (he:starEach (e::aj) X.env=(.f,eval e X.env)::starEach aj X.env:=by rfl) (c:(backTo pos (starEach aj X.env)).any (·.1)=.f:=by rfl):aZ X (.Call (.Name x p) (e::aj) [] pos) (oU r t) :=
 UO af b hm aI ak ao a he c
theorem gP (af:ep X (.type T) r) (hm:X.mg x=.n) (aI:bootBuiltins x=some (.type T)) (ak:dG X (e::aj) t) (b:cy X x:=by rfl) (ao:x ≠ "__name__" := by decide) (a:(x==("__debug__" : Str))=.f:=by decide) (he:starEach (e::aj) X.env=(.f,eval e X.env)::starEach aj X.env:=by rfl) (c:(backTo pos (starEach aj X.env)).any (·.1)=.f:=by rfl):aZ X (.Call (.Name x p) (e::aj) [] pos) (oU r t) :=
 V8 af b hm aI ak ao a he c
theorem e5 (a:decide X.N.Nodup=.t:=by kernel_rfl) (ar:X.N[0]?=some x:=by rfl) (ae:Loc X.env.scope x:=by exact Or.inl Y) (hf:X.fn x=.t\/X.env.scope.names.lookup x=some .local:=by exact Or.inr Y):iz X (.Name x pos) (e4 0) :=
 n0 (cD a) ar ae hf
theorem eg (_:bH a P b) (g:∀ p∈cl,X.env.cells.lookup p.1=some p.2) (aA:X.env.scope=b:=by exact Y) (l4:closureFor sc X.env=pure cl:=by exact Y) (f:cl.map (·.1)=zg sc:=by exact Y) (c:Ao sc b N a js=.t:=by decide +kernel) (d:X.N=a:=by exact Y):jn X sc cl N js :=
 Vw aA l4 f g c d
end
theorem bF {n:Nat} (h:Nat.ble n 16777216=.t:=by rfl):n<=sizeLine:=by rw [b7];exact Nat.le_of_ble_eq_true h
open PySem PySem.Spec PyProof.Rows PyProof.Rows.KTD bV
noncomputable def zx (K:aP) (ss:bA):Value->Bool
 | .ref a=>match K.lookup a with
  | some o=>o.cls==.type "tuple" && (match o.data with| .seq vs _=>strsLook vs.toList ss|_=>.f)
  | none=>.f
 | _=>.f
def D2 (K:aP) (a:Addr) (D:List (Str×bA)):Prop:=tabLook (zx K) (λ b=>K.lookup b) a D=.t
def Pd (K:aP) (ss:bA) (v:Value):Prop:=∃ a,v=.ref a/\∀ H,aX K H a (ss.map V.str)
theorem I4:∀ {vs:List Value} {ss:bA},strsLook vs ss=.t->Vals (ss.map V.str) vs
 | [],[],_=>.nil
 | [],_::_,h=>by simp [strsLook] at h
 | v::vs,[],h=>by cases v<;>simp [strsLook] at h
 | v::vs,s::ss,h=>by
  cases v with
  | str x t =>
   have h':(x==s&&strsLook vs ss)=.t:=h;rw [eJ] at h';obtain rfl:=iO.mp h'.1;exact .cons #[t,Y] (I4 h'.2)
  | _=>simp [strsLook] at h
theorem SY {K:aP} (ss) (v) (d:ss.length<=sizeLine) (h:zx K ss v=.t):Pd K ss v:=by
 cases v with
 | ref a =>
  refine #[a,Y,λ H=>?_];have h':(match K.lookup a with|some o=>o.cls==.type "tuple" && (match o.data with| .seq vs _=>strsLook vs.toList ss|_=>.f)|none=>.f)=.t:=h;cases c:K.lookup a with
  | none=>rw [c] at h';cases h'
  | some o =>
   rw [c] at h';have aa:=Ah.mp h';cases hd:o.data with
   | seq vs n =>
    have b:=aa.2;rw [hd] at b;have aI:=I4 b;refine .inr #[o,vs,n,c,iO.mp aa.1,hd,?_,aI];have:=aI.length;rw [bz] at this;rw [<-e6];omega
   | _=>have b:=aa.2;rw [hd] at b;cases b
 | _=>cases h
section
variable {prog:Program} {w:World} {A:Around} {E:c0} {s:Shared} {a:Addr} {k:Str} {a8:Tok} {R:bA->Value->Prop} {D:List (Str×bA)}
theorem VA (T:TabOf R s.heap a D)
  (h:∀ d v,datumAt k D=some d->R d v->Q (some v) { s with toks:=s.toks+1 }) (j:datumAt k D=.n->Q .n { s with toks:=s.toks+1 }):wpAny (model prog w) A (dictGet a (.str k a8)) Q E s:=by
 obtain ⟨-,o,aj,m,aA,-,hd,c⟩:=T;have fin:Q ((aj.toList.find? λ e=>e.key.isStr k).map (·.val)) { s with toks:=s.toks+1 }:=by
  rcases b:datumAt k D with _|d
  ·rw [c.find_none b];exact j b
  ·obtain ⟨v,aI,g⟩:=c.find_some b;rw [aI];exact h d v b g
 have ex:(aj.all λ e=>isExactStrKey e.key)=.t:=by
  have:=c.exact;cases aj with
  | mk l=>simpa using this
 have f:(aj.toList.find? λ e=>e.key.isStr k).map (·.val)=findBy (λ k v=>v.isStr k) aj k:=by
  cases aj with
  | mk l=>simp [findBy]
 rw [f,findBy_of_findIdx?] at fin
 refine ax ?_
 refine wpAny_pyHash_str (ax (kt_dictFind_strs aA hd ex ?_));cases ar:aj.findIdx? (λ e=>e.key.isStr k) with
 | none =>
  rw [ar] at fin;exact a_ fin
 | some i =>
  rw [ar] at fin;exact ax (wpAny_dictEntries aA hd (a_ fin))
end
theorem WQ {D:List (Str×bA)}:MeetsIn prog w (Builtin.«dict.get» ⟨[.ref a,.str k a8],[]⟩) (λ X Z s=>TabOf R s.heap a D/\(∀ d v,datumAt k D=some d->R d v->Z (.ok (.ret v)) { s with toks:=s.toks+1 }) /\
  (datumAt k D=.n->Z (.ok (.ret .none)) { s with toks:=s.toks+1 })):=.of_wp λ A Z s ⟨T,c,e⟩=>by
 show wpAny _ _ (dictGet a (.str k a8)>>=_) _ _ s;refine ax (VA T (λ d v hd b=>a_ #[v,Y,c d v hd b]) λ ao=>?_);refine ax (wpAny_missed_other T.1 ?_);exact a_ #[.none,Y,e ao]
section
variable {X:aW} {g:Str} {a:Addr} {D:List (Str×bA)} {e:Expr} {aj:List Expr} {t:c2} {p apos bR:Pos}
theorem Ja:∀ {D:List (Str×bA)},datumAt x D=some d->∃ y,(y,d)∈D
 | [],h=>by cases h
 | (y,b4)::D,h=>by
  by_cases ae:x=y
  ·rw [show datumAt x ((y,b4)::D)=some b4 from if_pos (bc ae)] at h;cases h;exact #[y,dn]
  ·rw [show datumAt x ((y,b4)::D)=datumAt x D from if_neg (by simp [ae])] at h;obtain ⟨z,b⟩:=Ja h;exact #[z,de _ b]
def Tc (K:aP) (D:List (Str×bA)) (t:c2):TE:=λ σ H Q=>t σ H λ vs H1=>∃ x,vs=[.str x] /\
 ((∃ ss,datumAt x D=some ss/\∀ t,(∀ H',aX K H' t (ss.map V.str))->Q (.ref t) H1)\/(datumAt x D=.n/\Q .aQ H1))
theorem V9 (hm:X.mg g=some (.ref a)) (a7:D2 X.K a D) (ak:dG X (e::aj) t) (G:∀ d∈D,d.2.length<=1000:=by decide) (w:cy X g:=by rfl) (n:(g==("__debug__" : Str))=.f:=by decide)
  (m:attributeBase (.Name g p) "get" X.env (eval (.Name g p) X.env)=eval (.Name g p) X.env:=by rfl)
  (r:((backTo bR (starEach (e::aj) X.env)).all (λ x=> !x.1)&&(backToKw bR (keywordEach [] X.env)).all (λ x=>x.1.isSome)
   && decide ((e::aj).length+([]:List Keyword).length+(if ([]:List Keyword).isEmpty then 0 else 1)<30))=.t:=by rfl)
  (B:(apos.endLine==bR.line)=.t:=by rfl) (av:starEach (e::aj) X.env=(.f,eval e X.env)::starEach aj X.env:=by rfl) (C:(backTo bR (starEach aj X.env)).any (·.1)=.f:=by rfl) :
  aZ X (.Call (.Attribute (.Name g p) "get" apos) (e::aj) [] bR) (Tc X.K D t):=#[by
 intro pins s σ H Q I h;have T:∀ {s:Shared} {σ:St} {H:aD},Inv X pins σ H s->TabOf (λ ss v=>zx X.K ss v=.t) s.heap a D:=λ {s σ H} I=>tab_of_look (λ Z Z z=>z) (λ b o q=>I.cA b o q) a7
 have ty:∀ {s:Shared} {σ:St} {H:aD},Inv X pins σ H s->s.TypeIs (.ref a) "dict" := λ {s σ H} I=>let ⟨_,o,_,_,aA,af,_⟩:=T I;⟨o,aA,af.1⟩
 refine vZ m r B Y (iW I w hm ?_ n);refine #["dict", "dict.get", wq,qW,Ai,ty I,λ b k=>?_,?_]
 ·cases k;exact let ⟨_,o,_,_,aA,af,_⟩:=T I;⟨o,aA,af.2.1⟩
 have i:=ak.o bR pins s σ H _ I h;rw [av] at i ⊢;refine tJ (by show (.f||(backTo bR (starEach aj X.env)).any (·.1))=.f;rw [C]<;>rfl) (pF ?_);refine aU i ?_;rintro us s2 ⟨vs,aq,f,aC,x,ev,j⟩
 subst ev;obtain ⟨u,rfl,L⟩:=aC.one;obtain ⟨a8,rfl⟩:=L
 refine call_meetsIn qW (ty f) Ad (PySem.F.args_dict_get_2 _ _) WQ #[T f,λ d v hd A=>?_,λ ao=>?_]
 ·rcases j with ⟨ss,c,q⟩|⟨c,_⟩
  ·rw [hd] at c;cases c;obtain ⟨y,E⟩:=Ja hd;obtain ⟨b,rfl,l⟩:=SY d v (dF (G _ E) .aB) A;exact #[.ref b,aq,f.tok _,Y,q b l]
  ·rw [hd] at c;cases c
 ·rcases j with ⟨ss,c,_⟩|⟨_,q⟩
  ·rw [ao] at c;cases c
  ·exact #[.aQ,aq,f.tok _,Y,q]]
end
def Qm (b:Str) (aN:TE) (y:Str) (a7:TE):TE:=λ σ H Q=>aN σ H λ x H1=>∃ a,tm x a/\a7 σ H1 λ z aq=>∃ fe,tm z fe/\Q (.str (b++a++y++fe)) aq
theorem Ga (ak:aZ X a aN) (m:aZ X b a7) (D:c.length<=1000:=by decide) (C:y.length<=1000:=by decide) :
  aZ X (.JoinedStr [.Constant (.str c) xV G,.FormattedValue a (-1) .n dx,.Constant (.str y) j dS,.FormattedValue b (-1) .n lL] pos) (Qm c aN y a7):=#[by
 intro pins s σ H Q I h;have big:∀ {n:Nat},n<=5000000->n<=sizeLine:=λ {n} z=>by rw [b7];omega
 refine wpAny_JoinedStr (vO #[c,_,Y,big ?_,?_])
 ·rw [ck.ka];omega
 have e:=I.tok (s.toks+1);refine wm (aU (ak.o pins _ σ H _ e h) ?_);rintro v s1 ⟨x,H1,f,r,w,ae,p⟩;have B:=ae.2;refine vQ f r ae λ t1 s2 g=>#[w,t1,Y,big ?_,?_]
 ·rw [ck.ka,ck.len_app];omega
 refine vO #[y,_,Y,big ?_,?_]
 ·rw [ck.ka,ck.len_app,ck.len_app];omega
 have i:=g.tok (s2.toks+1);refine wm (aU (m.o pins _ σ H1 _ i p) ?_);rintro u s4 ⟨z,aq,k,t,fe,d,q⟩;have E:=d.2;refine vQ k t d λ A s5 l=>#[fe,A,Y,big ?_,big ?_,.str _,aq,l.tok _,#[_,Y],?_]
 ·rw [ck.ka,ck.len_app,ck.len_app,ck.len_app];omega
 ·rw [ck.ka,ck.len_app,ck.len_app,ck.len_app];omega
 ·rw [ck.ka];exact q]
end bj
namespace ck
theorem Fj (hm:m=1\/m = -1) (af:∀ x∈c,-40<x/\x<40) (f:∀ x∈p,x<=B):∀ x∈bX p c m,x<=B+40:=λ x ae=>by
 obtain ⟨i,ar⟩:=hR ae;unfold bX at ar;rw [List.getElem?_zipWith] at ar;cases ak:p[i]? with
 | none=>rw [ak] at ar;cases ar
 | some a =>
  cases d:c[i]? with
  | none=>rw [ak,d] at ar;cases ar
  | some b =>
   rw [ak,d] at ar;have e:a+m*b=x:=by simpa using ar
   have U:=f a (b5 ak);have aa:=af b (b5 d);rcases hm with rfl|rfl<;>omega
theorem zL (b:uF rows) (a:∀ x∈p,x<=B):∀ {k:Nat} {q:bB},goN rows k p=some q->∀ x∈q,x<=B+40*(k:Int)
 | 0,q,h=>by
  cases h;intro x ae;have:=a x ae;simpa using this
 | k+1,q,h=>by
  obtain ⟨r,U,aa⟩:=tQ.mp h;obtain ⟨i,c,_,af,_,rfl⟩:=Hu aa;intro x ae;have:=Fj (.inl Y) (b c (b5 af)) (zL b a U) x ae;omega
set_option tactic.hygienic true in
theorem Vn (d:uF rows) (c8:ja rows) (ah:p.length=10) (c:∀ x∈p,x<=B) (f:q∈ml rows p):q.length=10/\∀ x∈q,0<=x/\x<=B+40:=by
 obtain ⟨i,ar,e⟩:=nF.mp f;unfold iP at e;split at e
 ·rename_i h;cases e;have a:=nD.mp ar;have b:rows.getD i []=rows[i]:=by rw [iQ,cK a];rfl
  have af:=iw a;rw [b] at h ⊢;refine #[xb ah (c8 _ af),λ x ae=>#[jo.mp h.1 x ae,Fj (.inr Y) (d _ af) c x ae]]
 ·cases e
noncomputable def gp:Option Nat->Nat->Nat
 | none,x=>x
 | some T,x=>min T x
inductive dW (R:d7) (ai:bB) (m:Nat):Nat->Nat->bB->Prop
 | nil:dW R ai m 0 0 ai
 | go {st d k:Nat} {cur c:bB} {o:Option Nat} (h:dW R ai m st d cur) (hd:d<m) (av:st<2000) (hf:cO R cur=some k) (af:R[k]?=some c) (aA:kE R cur c k o):dW R ai m (st+1) (d+gp o (m-d)) (bX cur c (gp o (m-d):Nat))
section
variable {R:d7} {ai cur kQ c:bB} {m st cQ d b4 k:Nat} {o cZ:Option Nat}
theorem U_ (h:kE R cur c k o) (h':kE R cur c k cZ):o=cZ:=by
 cases o with
 | some T=>exact (Gq h h').symm
 | none =>
  cases cZ with
  | none=>rfl
  | some T=>exact Gq h' h
theorem S_ (h:kE R cur c k o) (ao:n<=gp o n):∀ t,t<n->cO R (bX cur c t)=some k:=λ t aG=>by
 cases o with
 | none=>exact h t
 | some T =>
  have a:n<=min T n:=ao;exact h.1 t .au
theorem t7 (h:kE R cur c k o) (ah:cur.length=10) (af:c.length=10) (hf:cO R cur=some k) (ae:0<x):1<=gp o x:=by
 cases o with
 | none=>exact ae
 | some T =>
  have:T≠0:=λ z=>by
   subst z;refine h.2 ?_;rw [show ((0:Nat):Int)=0 from rfl,G3 ah af];exact hf
  show 1<=min T x;omega
theorem Am (o) (x):gp o x<=x:=by
 cases o with
 | none=>exact bx _
 | some T=>exact Nat.min_le_right _ _
theorem Vt (o) (x):gp o x<=gp o (gp o x):=by
 cases o with
 | none=>exact bx _
 | some T=>show min T x<=min T (min T x);omega
set_option tactic.hygienic true in
theorem dW.facts (e:ja R) (ah:ai.length=10) (ao:nn ai=.t) (h:dW R ai m st d cur):st<=d/\d<=m/\st<=2000/\goN R d ai=some cur:=by
 induction h with
 | nil=>exact #[bx _,ej _,ej _,Y]
 | go h hd av hf af aA g =>
  rename_i st d k cur c o;obtain ⟨i,j,l,f⟩:=g;have a:=(mm e ah ao f).1;have b:=e _ (b5 af);have dx:=t7 aA a b hf (show 0<m-d by omega);have dS:=Am o (m-d);exact #[.au,.au,.au,TS f af a b (S_ aA (Vt _ _))]
theorem dW.det (h:dW R ai m st d cur):∀ {b4:Nat} {kQ:bB},dW R ai m st b4 kQ->d=b4/\cur=kQ:=by
 induction h with
 | nil =>
  intro b4 kQ h';cases h' with
  | nil=>exact #[Y,Y]
 | go h hd av hf af aA e =>
  intro b4 kQ h';cases h' with
  | go g p3 f b a go' =>
   obtain ⟨rfl,rfl⟩:=e g;rw [hf] at b;cases b;rw [af] at a;cases a;rw [U_ aA go'];exact #[Y,Y]
set_option tactic.hygienic true in
theorem dW.pre (b:ja R) (ah:ai.length=10) (ao:nn ai=.t) (h:dW R ai m st d cur):∀ cQ,cQ<=st->∃ b4 a,dW R ai m cQ b4 a/\b4<=d/\(cQ<st->b4<d/\b4<m/\cO R a≠.n):=by
 induction h with
 | nil =>
  intro cQ h';obtain rfl:cQ=0:=by omega
  exact #[0,ai,.nil,bx _,λ z=>by omega]
 | go h hd av hf af aA i =>
  rename_i st d k cur c o;intro cQ h';obtain ⟨_,_,_,g⟩:=h.facts b ah ao;have dx:=t7 aA (mm b ah ao g).1 (b _ (b5 af)) hf (show 0<m-d by omega);by_cases e:cQ=st+1
  ·subst e;exact #[_,_,.go h hd av hf af aA,bx _,λ z=>by omega]
  ·by_cases f:cQ=st
   ·subst f;exact #[d,cur,h,.au,λ Z=>#[.au,hd,by rw [hf];exact λ z=>nomatch z]]
   ·obtain ⟨b4,a,ct,c5,i4⟩:=i cQ .au;have:=i4 .au;exact #[b4,a,ct,.au,λ Z=>#[.au,this.2]]
set_option tactic.hygienic true in
theorem dW.cut (b:ja R) (ah:ai.length=10) (ao:nn ai=.t) (h:dW R ai m st d cur) (hd:d<m) (h':dW R ai m cQ b4 kQ):cQ<=st->dW R ai d cQ b4 kQ:=by
 induction h' with
 | nil=>exact λ Z=>.nil
 | go g p3 n f e go' s =>
  rename_i t a k1 w u i;intro av;have q:=s .au;obtain ⟨j,v,ct,c5,_⟩:=h.pre b ah ao (t+1) av;obtain ⟨l,x⟩:=(dW.go g p3 n f e go').det ct;obtain ⟨_,_,_,r⟩:=g.facts b ah ao;have dx:=t7 go' (mm b ah ao r).1 (b _ (b5 e)) f (show 0<m-a by omega);have p:gp i (m-a)=gp i (d-a):=by
   cases i with
   | none =>
    have:a+(m-a)=j:=l;omega
   | some T =>
    have y:a+min T (m-a)=j:=l;show min T (m-a)=min T (d-a);omega
  rw [p];exact .go q .au n f e go'
theorem dW.again (a:ja R) (ah:ai.length=10) (ao:nn ai=.t) (h:dW R ai m st d cur) (hd:d<m) (h':dW R ai d cQ b4 kQ):(b4<d->cO R kQ≠.n/\cQ<2000)/\(¬ b4<d->kQ=cur):=by
 rcases lj st cQ with z|z
 ·obtain ⟨f,b,ct,c5,i4⟩:=h'.pre a ah ao st .au;have:=(h.cut a ah ao hd h (bx _)).det ct;have:=(i4 z).2.1;omega
 ·obtain ⟨f,b,ct,c5,i4⟩:=h.pre a ah ao cQ z;obtain ⟨rfl,rfl⟩:=(h.cut a ah ao hd ct z).det h';have aa:=(h.facts a ah ao).2.2.1;by_cases e:cQ=st
  ·subst e;obtain ⟨i,g⟩:=h.det ct;exact #[λ y=>by omega,λ Z=>g.symm]
  ·obtain ⟨k1,k2,k3⟩:=i4 .au;exact #[λ Z=>#[k3,.au],λ y=>by omega]
def vv (R:d7) (ai:bB) (m k:Nat) (cur:bB):Prop:=∃ st,dW R ai m st k cur/\(k=m\/cO R cur=.n)
def vw (R:d7) (ai:bB) (m:Nat):Prop:=∃ d cur,dW R ai m 2000 d cur/\d<m/\cO R cur≠.n
theorem vv.facts (a:ja R) (ah:ai.length=10) (ao:nn ai=.t) (h:vv R ai m k cur):k<=m/\goN R k ai=some cur/\(k=m\/cO R cur=.n):=by
 obtain ⟨st,U,aa⟩:=h;obtain ⟨_,b,_,e⟩:=U.facts a ah ao;exact #[b,e,aa]
end
open bV
end ck
namespace bj
open PySem PySem.Spec PyProof.Rows hx bV
open PySem PySem.Spec PyProof.Rows bV
open PySem PySem.Spec PyProof.Rows
def yR (o:Option fX) (k:V->Prop):Prop:=match o with
 | some (some v)=>k v
 | _=>False
theorem SV:∀ {o:Option fX} {k:V->Prop},yR o k->∃ v,o=some (some v)/\k v
 | some (some v),_,h=>#[v,Y,h]
def qa (i:Nat):TE:=λ σ H Q=>yR σ[i]? λ v=>Q v H
section
variable {X:aW}
theorem J (i) (a:X.N[i]?=some x:=by rfl) (aI:sr X.env.scope x:=by first|exact Or.inl Y|exact Or.inr (Or.inl Y)|exact Or.inr (Or.inr Y)) (hd:(x==("__debug__" : Str))=.f:=by decide) (b:(x==("__classdict__" : Str))=.f:=by decide):aZ X (.Name x pos) (qa i) :=
 #[λ pins s σ H Q I h=>(se i a aI hd b).o pins s σ H Q I (SV h)]
end
theorem pick_from (z) (k:Nat) (t):((slicePicked z (some ((k:Int),t)) .n .n).filterMap (z.cps[·]?))=z.cps.toList.drop k:=by
 have e:slicePicked z (some (k,t)) .n .n=(List.range (z.length-k)).map (λ x=>min k z.length+x):=by
  show sliceRange (max 0 (min (if k<0 then k+(z.length) else k) (z.length))) (z.length) 1=_;rw [if_neg .au,show max 0 (min (k:Int) (z.length))=(min k z.length:Nat) by omega];show List.map _ (List.range (Int.toNat (if 1>0 then (if (min k z.length:Nat)<(z.length:Int) then ((z.length)-((min k z.length:Nat):Int)+1-1)/1 else 0) else _)))=_;rw [if_pos .aB,show (if ((min k z.length:Nat):Int)<(z.length:Int) then ((z.length:Int)-((min k z.length:Nat):Int)+1-1)/1 else 0).toNat=z.length-k by split<;>omega];refine qT λ x Z=>?_
  omega
 rw [e,pick_run];have ao:z.cps.toList.length=z.length:=e6;rcases Nat.le_total k z.length with h|h
 ·rw [Nat.min_eq_left h];exact nz (by rw [List.length_drop,ao];exact bx _)
 ·rw [Nat.min_eq_right h,show z.length-k=0 by omega,List.take_zero,List.drop_eq_nil_of_le (by rw [ao];exact h)]
section
variable {X:aW}
def PS (k:Nat):V->Option Int->Option Int->aD->b2->Prop:=λ x lo ar H Q=>∃ z,x=.str z/\z.length<=sizeLine/\lo=some (k:Int)/\ar=.n/\Q (.str ⟨(z.cps.toList.drop k).toArray⟩) H
set_option tactic.hygienic true in
theorem S5 (k):qe X (PS k):=by
 intro pins s σ H x v n o lo ar cu Q I j av i pu h;obtain ⟨z,rfl,m,rfl,rfl,q⟩:=h;obtain ⟨t,rfl⟩:=j
 obtain ⟨l,rfl,c⟩:=part_of i;obtain ⟨u,rfl,g⟩:=part_of pu;obtain ⟨t1,rfl⟩:∃ t1,l=some ((k:Int),t1):=by
  cases l with
  | none=>cases c
  | some p =>
   obtain ⟨a,b⟩:=p;have:a=k:=cE c;exact #[b,by rw [this]]
 obtain rfl:u=.n:=by
  cases u with
  | none=>rfl
  | some _=>cases g
 refine #["str", _,PySem.F.slot_str_getitem.lookup,mv _ _ _,?_];refine wpAny_getItem_str_slice (st:=.n) av rfl ?_;unfold sliceMade;have ah:=pick_from z k t1;have ao:z.cps.toList.length=z.length:=e6;split
 ·rename_i af;have f:z.cps.toList.drop k=z.cps.toList:=by
   rw [eJ] at af;have aa:=jt af.2;cases k with
   | zero=>rfl
   | succ k =>
    have d:z.length=0:=by
     have e:(List.range (z.length-(k+1))).length=z.length:=by
      rw [<-aa];show _=(sliceRange (max 0 (min (if ((k+1:Nat):Int)<0 then (k+1:Nat)+(z.length) else (k+1:Nat)) (z.length))) (z.length) 1).length;unfold sliceRange;rw [bz,jv,jv];rw [if_pos .aB,if_neg (show ¬ ((k+1:Nat):Int)<0 by omega)];split<;>omega
     rw [jv] at e;omega
    have:=q1.mp (by rw [ao];exact d);rw [this];rfl
  refine #[.str z,H,I,#[t,Y],?_];rw [f] at q;exact q
 ·rw [ah];exact #[by show (z.cps.toList.drop k).toArray.size<=_;rw [dK,List.length_drop,ao];omega,.str _,H,I.tok _,#[_,Y],q]
def SU:V->bh->aD->b2->Prop:=λ x vs H Q=>∃ a y,x=.str a/\vs=[.str y]/\Q (.aO (Txt.startswith a y)) H
theorem VV:h3 X "str.startswith" SU:=by
 intro pins s σ H x vs v us Q I d c h;obtain ⟨a,y,rfl,rfl,q⟩:=h;obtain ⟨t,rfl⟩:=d
 obtain ⟨u,rfl,b⟩:=c.one;obtain ⟨t',rfl⟩:=b
 exact SC.startswith #[.aO _,H,I,Y,q]
end
open PySem PySem.Spec PySem.SeqAt PyProof.Rows bV
def yl (H:aD) (x y:V):Prop:=(∃ a,x=.str a/\y=.str a)\/∃ (a b:Addr) (z:Str),x=.ref a/\y=.ref b/\H a=some (.lst [.str z])/\H b=some (.lst [.str z])
theorem Uh (D:X.A.units+1<cLine):cI X (compareOp .NotEq) (λ x y H Q=>∃ (a b:Addr) (xs ys:bh),x=.ref a/\y=.ref b/\H a=some (.lst xs)/\H b=some (.lst ys)/\xs.length=ys.length/\(∀ (i:Nat) x y,xs[i]?=some x->ys[i]?=some y->yl H x y)/\Q (.aO .f) H):=by
 intro pins s σ H x y v u Q I Mr Ms h;obtain ⟨a,b,xs,ys,rfl,rfl,ak,M,N,aG,q⟩:=h;cases Mr;cases Ms;obtain ⟨_,m,aV,E,p1,Ml⟩:=I.fK ak;obtain ⟨_,o,Z,G,jG,x2⟩:=I.fK M;have P:s.heap.IsList a m.toArray:=#[_,Ml,Y,aV,Y]
 have R:s.heap.IsList b o.toArray:=#[_,x2,Y,Z,Y]
 have p:=E.length;have r:=G.length;have O:m.toArray.size=o.toArray.size:=by rw [dK,dK,<-p,<-r,N]
 have all1:∀ n,((List.range n).all λ _=>.t)=.t:=λ n=>fB.mpr λ _ _=>rfl
 have:=SeqAt.RcNeAt.lists (e:=λ _=>.t) P R O (qE D) λ j U aa=>?_
 ·rw [all1] at this;exact this X.prog X.w _ _ #[.aO .f,H,I,Y,q]
 ·have k:j<xs.length:=by rw [p];simpa using U
  have l:j<ys.length:=by rw [r];simpa using aa
  obtain ⟨Mw,g1,c⟩:=E.get (cK k);obtain ⟨CH,g2,d⟩:=G.get (cK l);have k1:m.toArray[j]=Mw:=by
   rw [cK (by rw [<-p];exact k)] at g1;simpa using cE g1
  have k2:o.toArray[j]=CH:=by
   rw [cK (by rw [<-r];exact l)] at g2;simpa using cE g2
  rw [k1,k2];rcases aG j _ _ (cK k) (cK l) with ⟨z,ex,g⟩|⟨t,B,z,ex,g,aC,L⟩
  ·rw [ex] at c;rw [g] at d;obtain ⟨t1,rfl⟩:=c
   obtain ⟨f,rfl⟩:=d
   have:=z3 (A:=X.A.in1) (s:=s) z t1 z f;simpa using this
  ·rw [ex] at c;rw [g] at d;cases c;cases d;by_cases C:t=B
   ·subst C;exact SeqAt.EqAt.same _
   ·obtain ⟨_,Oo,S,fc,f1,dx⟩:=I.fK aC;obtain ⟨_,aaV,T,ed,f2,dS⟩:=I.fK L;obtain ⟨v1,rfl,s1⟩:=fc.one;obtain ⟨v2,rfl,s2⟩:=ed.one;obtain ⟨t1,rfl⟩:=s1
    obtain ⟨f,rfl⟩:=s2
    have lc:s.heap.IsList t [Value.str z t1].toArray:=#[_,dx,Y,S,Y]
    have ld:s.heap.IsList B [Value.str z f].toArray:=#[_,dS,Y,T,Y]
    have:=SeqAt.RcAt.lists (A:=X.A.in1) (e:=λ _=>.t) lc ld rfl D λ i g1 g2=>?_
    ·rw [all1] at this;exact SeqAt.EqAt.of_refs C this
    ·have ar:i=0:=by simpa using g1
     subst ar;have:=z3 (A:=X.A.in1.in1) (s:=s) z t1 z f;simpa using this
theorem F6 (e:X.A.units+1<cLine):cI X (compareOp .Eq) (λ x y H Q=>yQ x y H Q\/∃ (a:Addr) (b:Str),x=.ref a/\y=.str b/\(∃ xs,H a=some (.lst xs))/\Q (.aO .f) H):=by
 intro pins s σ H x y v u Q I c d h;rcases h with h|⟨a,b,rfl,rfl,⟨xs,ak⟩,q⟩
 ·exact dE pins s σ H x y v u Q I c d h
 ·cases c;obtain ⟨t,rfl⟩:=d;obtain ⟨_,j,f,k,i,g⟩:=I.fK ak;exact SeqAt.RcAt.list_str b t (#[_,g,Y,f,Y]) (qE e) X.prog X.w _ _ #[.aO .f,H,I,Y,q]
theorem QR:Passes (g0 P w) X ft:=(by rintro _ _ _ _ _ _ _ ⟨_,_,_,_,_,_,_,_,_,_,_,_,_,_,_,_,_,a⟩;exact a.elim)
end bj
namespace bV
open PySem bj ck hx
noncomputable def top (i:Nat):Stmt:=PySem.Challenge.pw_wholefract_k96_rows_that_are_none.main.body.getD i (.Pass #[0,0,0,0])
noncomputable abbrev IW:Stmt:=top 18
noncomputable abbrev Jq:Stmt:=top 19
noncomputable abbrev Jw:Stmt:=top 20
noncomputable abbrev Jp:Stmt:=top 21
noncomputable abbrev Lb:Stmt:=top 22
noncomputable abbrev J1:Stmt:=top 23
noncomputable abbrev Kq:Stmt:=top 24
noncomputable abbrev Ij:Stmt:=top 25
noncomputable abbrev JZ:Stmt:=top 28
noncomputable abbrev Lk:Stmt:=top 29
noncomputable abbrev Fv:Stmt:=top 30
noncomputable abbrev IV:Stmt:=top 31
noncomputable abbrev Gi:Stmt:=top 32
noncomputable abbrev K3:Stmt:=top 33
noncomputable abbrev K2:Stmt:=top 34
noncomputable abbrev KR:Stmt:=top 35
noncomputable abbrev Fw:Stmt:=top 36
noncomputable abbrev Hi:Stmt:=top 38
noncomputable abbrev IU:Stmt:=top 39
noncomputable abbrev K_:Stmt:=top 44
noncomputable abbrev La:Stmt:=top 45
noncomputable abbrev K1:Stmt:=top 46
noncomputable abbrev Fx:Stmt:=top 47
noncomputable abbrev Ku:Stmt:=top 48
noncomputable abbrev KP:Stmt:=top 49
noncomputable abbrev Ju:Stmt:=top 50
noncomputable abbrev Kt:Stmt:=top 51
noncomputable abbrev Ii:Stmt:=top 57
noncomputable abbrev Ih:Stmt:=top 58
noncomputable abbrev Fu:Stmt:=top 61
noncomputable abbrev IZ:Stmt:=top 67
noncomputable abbrev KQ:Stmt:=top 68
noncomputable abbrev J3:Stmt:=top 69
noncomputable abbrev Jv:Stmt:=top 70
noncomputable abbrev Lh:Stmt:=top 71
noncomputable abbrev J0:Stmt:=top 72
noncomputable abbrev Hh:Stmt:=top 73
noncomputable abbrev Ig:Stmt:=top 74
noncomputable abbrev Hm:Stmt:=top 75
noncomputable abbrev KO:Stmt:=top 76
noncomputable abbrev Jr:Stmt:=top 78
noncomputable abbrev Gh:Stmt:=top 79
noncomputable abbrev Hl:Stmt:=top 80
noncomputable abbrev Js:Stmt:=top 81
noncomputable abbrev IY:Stmt:=top 82
noncomputable abbrev Hj:Stmt:=top 83
noncomputable abbrev K0:Stmt:=top 84
noncomputable abbrev J2:Stmt:=top 85
noncomputable abbrev Kr:Stmt:=top 86
noncomputable abbrev Jt:Stmt:=top 87
noncomputable abbrev Ks:Stmt:=top 88
noncomputable abbrev IX:Stmt:=top 89
noncomputable abbrev Hk:Stmt:=top 90
noncomputable abbrev zC:Stmt:=top 91
noncomputable def ip (s:Stmt) (j:Nat):Stmt:=match s with| .ClassDef _ _ _ b _ _ _ _ _ _ _=>b.getD j (.Pass #[0,0,0,0])|s=>s
noncomputable abbrev Kp:Stmt:=ip (top 2) 0
theorem YH:bH ["self", "steps"] ["self", "steps"] (bo Kp):=bY
noncomputable abbrev JX:Stmt:=ip (top 56) 0
noncomputable abbrev Jm:Stmt:=ip (top 56) 1
noncomputable abbrev Jn:Stmt:=ip (top 56) 2
noncomputable abbrev JU:Stmt:=ip (top 56) 3
noncomputable abbrev JY:Stmt:=ip (top 56) 4
noncomputable abbrev Ko:Stmt:=ip (top 56) 5
noncomputable abbrev KN:Stmt:=ip (top 56) 6
noncomputable abbrev JV:Stmt:=ip (top 56) 7
noncomputable abbrev KZ:Stmt:=ip (top 56) 8
noncomputable abbrev JT:Stmt:=ip (top 56) 9
noncomputable abbrev JW:Stmt:=ip (top 56) 10
noncomputable abbrev Jo:Stmt:=ip (top 66) 0
noncomputable abbrev IT:Stmt:=ip (top 66) 1
theorem Xr:bH ["thing"] ["thing"] (bo IW):=bY
theorem J4:bH ["thing"] ["thing"] (bo Jq):=bY
theorem J7:bH ["number"] ["number"] (bo Jw):=bY
theorem uv:bH ["prime", "number", "times", "rest"] ["prime", "number"] (bo Jp):=bY
theorem xy:bH ["number", "rest", "prime"] ["number"] (bo Lb):=bY
theorem Kx:bH ["thing"] ["thing"] (bo J1):=bY
theorem xq:bH ["thing", "top", "bottom"] ["thing"] (bo Kq):=bY
theorem W5:bH ["thing"] ["thing"] (bo Ij):=bY
theorem Kw:bH ["program"] ["program"] (bo JZ):=bY
theorem xA:bH ["fraction", "tops", "bottoms"] ["fraction"] (bo Lk):=bY
theorem AI:bH ["changes", "powers", "change", "power"] ["changes", "powers"] (bo Fv):=bY
theorem BI:bH ["rows", "powers", "number", "changes"] ["rows", "powers"] (bo IV):=bY
theorem Hn:bH ["powers", "changes", "many"] ["powers", "changes", "many"] (bo Gi):=bY
theorem uB:bH ["rows", "powers", "number", "used", "ends"] ["rows", "powers", "number"] (bo K3):=bY
theorem Ld:bH ["powers", "used"] ["powers", "used"] (bo K2):=bY
theorem pW:bH ["powers", "used", "ahead", "many", "power", "change", "change_ahead", "lacking"] ["powers", "used", "ahead"] (bo KR):=bY
theorem fs:bH ["program", "powers", "many", "rows", "reached", "done", "stretches", "number", "steps"] ["program", "powers", "many"] (bo Fw):=bY
theorem Wc:bH ["program", "powers"] ["program", "powers"] (bo Hi):=bY
theorem ur:bH ["rows", "powers", "found", "number", "changes", "ahead"] ["rows", "powers"] (bo IU):=bY
theorem xx:bH ["number", "block", "rest", "blocks"] ["number"] (bo K_):=bY
theorem B0:bH ["powers", "words"] ["powers"] (bo La):=bY
theorem Lc:bH ["prime", "power", "often"] ["prime", "power"] (bo K1):=bY
theorem AJ:bH ["text", "program"] ["text"] (bo Fx):=bY
theorem BY:bH ["text", "powers"] ["text"] (bo Ku):=bY
theorem uA:bH ["text", "found", "word", "pair"] ["text"] (bo KP):=bY
theorem J6:bH ["word", "sign", "parts"] ["word", "sign"] (bo Ju):=bY
theorem KU:bH ["text"] ["text"] (bo Kt):=bY
theorem I1:bH ["thing"] ["thing"] (bo Ii):=bY
theorem I0:bH ["program", "powers", "many", "rest"] ["program", "powers", "many"] (bo Ih):=bY
theorem pP:bH ["program", "powers", "most", "rows", "seen", "reached", "done", "number"] ["program", "powers", "most"] (bo Fu):=bY
theorem Jx:bH ["row", "words"] ["row"] (bo IZ):=bY
theorem Y6:bH ["words"] ["words"] (bo KQ):=bY
theorem BU:bH ["words", "kinds"] ["words"] (bo J3):=bY
theorem XR:bH ["kind", "word"] ["kind", "word"] (bo Jv):=bY
theorem ZS:bH ["word"] ["word"] (bo Lh):=bY
theorem BS:bH ["word", "most", "number"] ["word", "most"] (bo J0):=bY
theorem w6:bH ["bench", "word", "parts", "name", "powers"] ["bench", "word", "parts"] (bo Hh):=bY
theorem W4:bH ["bench", "word", "parts"] ["bench", "word", "parts"] (bo Ig):=bY
theorem Wd:bH ["words"] ["words"] (bo Hm):=bY
theorem xt:bH ["told", "steps", "powers", "length"] ["told"] (bo KO):=bY
theorem XQ:bH ["script", "k"] ["script", "k"] (bo Jr):=bY
theorem rj:bH ["cell", "number", "j", "more"] ["cell"] (bo Gh):=bY
theorem Il:bH ["pot", "far", "found"] ["pot", "far"] (bo Hl):=bY
theorem J5:bH ["word"] ["word"] (bo Js):=bY
theorem Xs:bH [] [] (bo IY):=bY
theorem rp:bH ["number", "found", "prime", "often"] ["number"] (bo Hj):=bY
theorem pX:bH ["text", "found", "word", "parts", "number"] ["text"] (bo K0):=bY
theorem pV:bH ["text", "found", "last", "part", "halves"] ["text"] (bo J2):=bY
theorem mE:bH ["pot", "text", "signs", "odds", "at", "sign", "words", "place", "odd", "some"] ["pot", "text", "signs", "odds"] (bo Kr):=bY
theorem rD:bH ["e", "some", "words"] ["e"] (bo Jt):=bY
theorem KS:bH ["desk", "thing", "e"] ["desk", "thing"] (bo Ks):=bY
theorem BJ:bH ["text", "words", "number"] ["text"] (bo IX):=bY
theorem Ik:bH ["desk"] ["desk"] (bo Hk):=bY
theorem hk:bH ["script", "desk", "bare", "text", "rows", "odds", "k", "pot", "odd", "thing", "none", "ahead", "told"] ["script"] (bo zC):=bY
theorem Yj:bH ["self", "program"] ["self", "program"] (bo JX):=bY
theorem XO:bH ["self", "name", "powers"] ["self", "name", "powers"] (bo Jm):=bY
theorem BN:bH ["self", "name", "many", "begin", "end"] ["self", "name", "many"] (bo Jn):=bY
theorem Yg:bH ["self", "name"] ["self", "name"] (bo JU):=bY
theorem Kv:bH ["self", "deed"] ["self"] (bo JY):=bY
theorem YG:bH ["self"] ["self"] (bo Ko):=bY
theorem Y5:bH ["self", "name"] ["self", "name"] (bo KN):=bY
theorem Yh:bH ["self", "name"] ["self", "name"] (bo JV):=bY
theorem Zq:bH ["self", "name"] ["self", "name"] (bo KZ):=bY
theorem Yf:bH ["self", "name", "what"] ["self", "name", "what"] (bo JT):=bY
theorem Yi:bH ["self", "name", "what"] ["self", "name", "what"] (bo JW):=bY
theorem XP:bH ["self"] ["self"] (bo Jo):=bY
theorem BH:bH ["self", "row", "words", "parts"] ["self", "row"] (bo IT):=bY
set_option genInjectivity false in
set_option genSizeOf false in
structure a3 (K:W.Frag) (mg:Str->b_) where
 ru:cp K mg "is_whole" IW ["thing"]
 I5:cp K mg "is_powers" Jq ["thing"]
 n5:cp K mg "powers_of" Jw ["number"]
 uo:cp K mg "how_often" Jp ["prime", "number"]
 rF:cp K mg "without_primes" Lb ["number"]
 JG:cp K mg "is_program" J1 ["thing"]
 Ka:cp K mg "is_fraction" Kq ["thing"]
 HJ:cp K mg "is_term" Ij ["thing"]
 rC:cp K mg "changes_of" JZ ["program"]
 uD:cp K mg "fraction_changes" Lk ["fraction"]
 nJ:cp K mg "fits" Fv ["changes", "powers"]
 rt:cp K mg "first_of" IV ["rows", "powers"]
 mx:cp K mg "moved" Gi ["powers", "changes", "many"]
 rE:cp K mg "stretch_steps" K3 ["rows", "powers", "number"]
 uz:cp K mg "steps_to_lack" K2 ["powers", "used"]
 uy:cp K mg "steps_to_fit" KR ["powers", "used", "ahead"]
 k6:cp K mg "leap" Fw ["program", "powers", "many"]
 GD:cp K mg "before" Hi ["program", "powers"]
 IA:cp K mg "ahead_by" IU ["rows", "powers"]
 K6:cp K mg "number_written" K_ ["number"]
 K7:cp K mg "powers_written" La ["powers"]
 KX:cp K mg "power_written" K1 ["prime", "power"]
 tw:cp K mg "read" Fx ["text"]
 uw:cp K mg "powers_read" Ku ["text"]
 KD:cp K mg "product_read" KP ["text"]
 I8:cp K mg "pair_read" Ju ["word", "sign"]
 Kd:cp K mg "number_read" Kt ["text"]
 HI:cp K mg "is_name" Ii ["thing"]
 HH:cp K mg "gone_on" Ih ["program", "powers", "many"]
 E7:cp K mg "fate" Fu ["program", "powers", "most"]
 ID:cp K mg "words_of" IZ ["row"]
 KG:cp K mg "program_read" KQ ["words"]
 JI:cp K mg "parts_read" J3 ["words"]
 I9:cp K mg "part_read" Jv ["kind", "word"]
 Lf:cp K mg "put_powers_read" Lh ["word"]
 JF:cp K mg "count_read" J0 ["word", "most"]
 GC:cp K mg "answer" Hh ["bench", "word", "parts"]
 HG:cp K mg "do_deed" Ig ["bench", "word", "parts"]
 GH:cp K mg "listed" Hm ["words"]
 KC:cp K mg "fate_written" KO ["told"]
 I6:cp K mg "_law_cell_at" Jr ["script", "k"]
 FH:cp K mg "_law_pot" Gh ["cell"]
 AQ:cp K mg "_law_take" Hl ["pot", "far"]
 I7:cp K mg "_law_figures" Js ["word"]
 IC:cp K mg "_law_primes" IY []
 GF:cp K mg "_law_exps" Hj ["number"]
 KW:cp K mg "_law_program_due" K0 ["text"]
 JH:cp K mg "_law_line_due" J2 ["text"]
 Kb:cp K mg "_law_bent_text" Kr ["pot", "text", "signs", "odds"]
 rA:cp K mg "_law_kind_of" Jt ["e"]
 Kc:cp K mg "_law_desk_told" Ks ["desk", "thing"]
 IB:cp K mg "_law_is_row" IX ["text"]
 GG:cp K mg "_law_seen" Hk ["desk"]
 iZ:Addr
 abt:mg "FractError" = some (.ref iZ)
 dt:Addr
 GS:mg "AtRest" = some (.ref dt)
 du:Addr
 AY:mg "NoText" = some (.ref du)
 kj:Addr
 WE:mg "NoNumber" = some (.ref kj)
 dj:Addr
 VI:mg "TooMany" = some (.ref dj)
 kh:Addr
 VG:mg "NoOrder" = some (.ref kh)
 dV:Addr
 Xk:mg "NoProgram" = some (.ref dV)
 ke:Addr
 T2:mg "Shared" = some (.ref ke)
 ek:Addr
 WG:mg "NoPowers" = some (.ref ek)
 ki:Addr
 VH:mg "NoTrail" = some (.ref ki)
 c4:Addr
 T1:mg "NoName" = some (.ref c4)
 dN:Addr
 TZ:mg "NoDeed" = some (.ref dN)
 df:Addr
 RU:mg "NoRow" = some (.ref df)
 fR:Addr
 RT:mg "Bench" = some (.ref fR)
 ea:Addr
 Fg:mg "Desk" = some (.ref ea)
 Xy:gE K mg "FractError" iZ
 mA:gE K mg "NoText" du
 HK:gE K mg "TooMany" dj
 Xc:gE K mg "NoProgram" dV
 Wr:gE K mg "NoPowers" ek
 GI:gE K mg "NoName" c4
 Tq:gE K mg "NoDeed" dN
 nX:gE K mg "NoRow" df
 Vk:Under K dj iZ
 Vm:W.gG K dj
 Vl:W.kitOne K (.ref dj) (.type "ValueError")=some .t
 K9:KF K dj dt .f
 Zo:KF K dj du .f
 ZQ:KF K dj kj .f
 ZE:KF K dj dj .t
 ZC:KF K dj kh .f
 ZX:KF K dj dV .f
 Zp:KF K dj ke .f
 ZR:KF K dj ek .f
 ZD:KF K dj ki .f
 Zn:KF K dj c4 .f
 Zm:KF K dj dN .f
 Y4:KF K dj df .f
 abk:Under K du iZ
 abn:W.gG K du
 abm:W.kitOne K (.ref du) (.type "ValueError")=some .t
 abB:KF K du dt .f
 abE:KF K du du .t
 abU:KF K du kj .f
 abM:KF K du dj .f
 abK:KF K du kh .f
 ab0:KF K du dV .f
 abF:KF K du ke .f
 abV:KF K du ek .f
 abL:KF K du ki .f
 abD:KF K du c4 .f
 abC:KF K du dN .f
 abv:KF K du df .f
 RF:Under K df iZ
 RH:W.gG K df
 RG:W.kitOne K (.ref df) (.type "ValueError")=some .t
 YA:KF K df dt .f
 YD:KF K df du .f
 Zk:KF K df kj .f
 Y3:KF K df dj .f
 Y1:KF K df kh .f
 ZA:KF K df dV .f
 YE:KF K df ke .f
 Zl:KF K df ek .f
 Y2:KF K df ki .f
 YC:KF K df c4 .f
 YB:KF K df dN .f
 Yd:KF K df df .t
 Tt:Under K c4 iZ
 Tx:W.gG K c4
 Tv:W.kitOne K (.ref c4) (.type "ValueError")=some .t
 YW:KF K c4 dt .f
 YZ:KF K c4 du .f
 Zx:KF K c4 kj .f
 Zj:KF K c4 dj .f
 Zh:KF K c4 kh .f
 ZK:KF K c4 dV .f
 Y0:KF K c4 ke .f
 Zy:KF K c4 ek .f
 Zi:KF K c4 ki .f
 YY:KF K c4 c4 .t
 YX:KF K c4 dN .f
 Yz:KF K c4 df .f
 abp:Under K ek iZ
 abr:W.gG K ek
 abq:W.kitOne K (.ref ek) (.type "ValueError")=some .t
 abP:KF K ek dt .f
 abS:KF K ek du .f
 ab1:KF K ek kj .f
 abZ:KF K ek dj .f
 abX:KF K ek kh .f
 ab3:KF K ek dV .f
 abT:KF K ek ke .f
 ab2:KF K ek ek .t
 abY:KF K ek ki .f
 abR:KF K ek c4 .f
 abQ:KF K ek dN .f
 abJ:KF K ek df .f
 Ts:Under K dN iZ
 Tw:W.gG K dN
 Tu:W.kitOne K (.ref dN) (.type "ValueError")=some .t
 YR:KF K dN dt .f
 YU:KF K dN du .f
 Zv:KF K dN kj .f
 Zg:KF K dN dj .f
 Ze:KF K dN kh .f
 ZJ:KF K dN dV .f
 YV:KF K dN ke .f
 Zw:KF K dN ek .f
 Zf:KF K dN ki .f
 YT:KF K dN c4 .f
 YS:KF K dN dN .t
 Yy:KF K dN df .f
 Xd:Under K dV iZ
 Xf:W.gG K dV
 Xe:W.kitOne K (.ref dV) (.type "ValueError")=some .t
 ZL:KF K dV dt .f
 ZO:KF K dV du .f
 Z1:KF K dV kj .f
 ZW:KF K dV dj .f
 ZU:KF K dV kh .f
 Z3:KF K dV dV .t
 ZP:KF K dV ke .f
 Z2:KF K dV ek .f
 ZV:KF K dV ki .f
 ZN:KF K dV c4 .f
 ZM:KF K dV dN .f
 Zz:KF K dV df .f
 BO:Addr
 BW:FuncData
 kd:kp K mg "AtRest" dt iZ BO
 Tr:fG K "__init__" "AtRest.__init__" Kp BO BW
 Tp:Binds K BW ["self", "steps"] []
 abo:E8 K dt iZ
 A_:W.findIn K (.ref dt) "steps" = some .n
 abl:W.kitOne K (.ref dt) (.type "ValueError")=some .t
 abw:KF K dt dt .t
 abz:KF K dt du .f
 abN:KF K dt kj .f
 abI:KF K dt dj .f
 abG:KF K dt kh .f
 abW:KF K dt dV .f
 abA:KF K dt ke .f
 abO:KF K dt ek .f
 abH:KF K dt ki .f
 aby:KF K dt c4 .f
 abx:KF K dt dN .f
 abu:KF K dt df .f
 dM:hE K fR
 xm:k7 K fR "deeds"
 mD:k7 K fR "held"
 xr:k7 K fR "program"
 xk:yj K fR "Bench.__init__" JX ["self", "program"]
 xe:i_ K fR "put" "Bench.put" Jm ["self", "name", "powers"]
 xf:i_ K fR "run" "Bench.run" Jn ["self", "name", "many"]
 xi:i_ K fR "drop" "Bench.drop" JU ["self", "name"]
 xl:i_ K fR "undo" "Bench.undo" JY ["self"]
 xn:i_ K fR "names" "Bench.names" Ko ["self"]
 xp:i_ K fR "powers" "Bench.powers" KN ["self", "name"]
 xj:i_ K fR "gone" "Bench.gone" JV ["self", "name"]
 lz:i_ K fR "held_by" "Bench.held_by" KZ ["self", "name"]
 n6:i_ K fR "done" "Bench.done" JT ["self", "name", "what"]
 rB:i_ K fR "hold" "Bench.hold" JW ["self", "name", "what"]
 pw:hE K ea
 uu:k7 K ea "bench"
 rz:yj K ea "Desk.__init__" Jo ["self"]
 rr:i_ K ea "say" "Desk.say" IT ["self", "row"]
 dI:mg "len" = .n
 eN:mg "isinstance" = .n
 pf:mg "int" = .n
 QF:mg "bool" = .n
 jz:mg "tuple" = .n
 AA:mg "range" = .n
 tp:mg "max" = .n
 vC:mg "min" = .n
 qC:mg "all" = .n
 nv:mg "zip" = .n
 nu:mg "str" = .n
 G2:mg "sorted" = .n
 Jg:mg "enumerate" = .n
 WK:mg "reversed" = .n
 XH:mg "ValueError" = .n
 gV:Addr
 pQ:mg "PRIMES" = some (.ref gV)
 jC:∀ H,aX K H gV [.int 2,.int 3,.int 5,.int 7,.int 11,.int 13,.int 17,.int 19,.int 23,.int 29]
 Y_:∃ t,mg "MOST_FRACTIONS" = some (.int 16 t)
 Xj:∃ t,mg "MOST_TERM" = some (.int 1000000000000 t)
 K8:∃ t,mg "MOST_STRETCHES" = some (.int 2000 t)
 H2:∃ t,mg "FIGURES" = some (.str "0123456789" t)
 Yp:∃ t,mg "MOST_FIGURES" = some (.int 13 t)
 JN:∃ t,mg "MOST_POWER" = some (.int 1000000 t)
 VD:∃ t,mg "LETTERS" = some (.str "abcdefghijklmnopqrstuvwxyz" t)
 Yq:∃ t,mg "MOST_LETTERS" = some (.int 8 t)
 XE:∃ t,mg "MOST_NAMES" = some (.int 12 t)
 XF:∃ t,mg "MOST_STEPS" = some (.int 400 t)
 WA:∃ t,mg "MOST_RUN" = some (.int 1000000000000000000 t)
 ZZ:∃ t,mg "MOST_COUNT_FIGURES" = some (.int 19 t)
 FK:Addr
 RP:mg "PARTS" = some (.ref FK)
 Td:D2 K FK [("put", ["name", "powers"]),("drop", ["name"]),("undo", []),("run", ["name", "run count"]),("show", ["name"]),("gone", ["name"]),("names", []),("fate", ["name", "fate count"]),("ahead", ["name"])]
section
variable {P:Program} {w:World} {K:aP} {mg:Str->b_} {base:Heap}
inductive Ir:bG
 |mk {vs H Q E} (a:Addr) (n h_:Int):vs=[.ref a,.int h_]->H a=some (.lst [.int n])->0<h_->h_<1073741824->Q (.int (n%h_)) (upd H a (.lst [.int (n/h_)]))->Ir vs H Q E
theorem V0 (T:a3 K mg):cb P w mg base cn 1 T.AQ Ir:=by
 refine T.AQ.fn.dO Il .bW λ a0 A outer s H vs Q E b h=>?_
 obtain ⟨a,n,h_,rfl,ak,h0,U,q⟩:=h;refine #[_,(aH (bq 2 Il (bK mr (b3 c1 (J 0) aM (λ Z Z=>rfl)) (J 1)))
  (aH (Fq (bK q_ (b3 c1 (J 0) aM (λ Z Z=>rfl)) (J 1)) (Fp (J 0) aM set_list))
  (aJ (bb (J 2))))),?_]
 refine #[a,_,_,_,Y,Y,aS.of ak,Y,_,_,Y,Y,h0,?_];refine #[a,_,_,_,Y,Y,aS.of ak,Y,_,_,Y,Y,#[h0,U],a,_,_,0,Y,Y,ak,Y,?_];exact (q)
def XW (K:aP):bG:=λ vs H Q Z=>∃ (a:Addr) (ns:bB) (k:Int),vs=[.ref a,.int k]/\aS K H a (ns.map V.int)/\0<=k/\∀ c,Q (.int c) H
theorem XM (T:a3 K mg):cb P w mg base cn 1 T.I6 (XW K):=by
 refine T.I6.fn.dO XQ .bW λ a0 A outer s H vs Q E g h=>?_
 obtain ⟨a,ns,k,rfl,b,h0,q⟩:=h;refine #[_,(aH (bM (br kU (J 1) (bS eY T.dI dH (ag (J 0) az)) (bp _))
   (aJ (bb (b3 c1 (J 0) (J 1) (λ Z Z=>rfl))))
   bO)
  (aJ (bb aM))),?_]
 refine #[a,_,Y,.inl b,_,_,Y,Y,_,Y,?_];refine c3 (λ d=>?_) (λ Z=>q 0);have f:k<((ns.map V.int).length):=by simpa using d
 rw [bz] at f;have c:k.toNat<ns.length:=by omega
 have e:(ns.map V.int)[k.toNat]?=some (V.int ns[k.toNat]):=by rw [et,cK c];rfl
 exact #[a,_,_,_,Y,Y,b,eH h0 e,q _]
def U8:bG:=λ vs H Q Z=>∃ c,vs=[.int c]/\∀ n p,H p=.n->Q (.ref p) (upd H p (.lst [.int n]))
theorem Ue (T:a3 K mg):cb P w mg base cn 1 T.FH U8:=by
 refine T.FH.fn.dO rj .bW λ a0 A outer s H vs Q E a h=>?_
 obtain ⟨c,rfl,q⟩:=h;refine #[_,(aH (bM (br vE (J 0) (bK qM aM aM) (bp _))
   (aJ (bb (zT (ag (bK mu (J 0) (bK qM aM aM)) az))))
   bO)
  (aH (bq 1 rj aM)
  (aH (hQ f_ Y (Br Y T.AA (ag aM az)) (fL 2 rj)
   (aH (bq 3 rj (bK mr (bK pz (bK e7 (bK e7 (bK mr (J 0) aM) (bK pz aM (J 2))) aM) aM) aM))
  (aH (bq 3 rj (bK mr (bK e7 (bK e7 (bK pz (J 3) (J 3)) (bK pz aM (J 2))) aM) aM))
  (aJ (bq 1 rj (bK e7 (bK pz (J 1) aM) (J 3)))))))
  (aJ (bb (zT (ag (J 1) az))))))),?_]
 refine #[_,_,Y,Y,#[.aB,.aB,.aB],_,_,Y,Y,_,Y,?_];refine c3 (λ Z=>?_) (λ Z=>?_)
 ·refine #[_,_,Y,Y,#[.aB,.aB,.aB],_,_,Y,Y,bF,λ p ah=>?_];exact q _ p ah
 ·refine #[64,Y,.aB,.aB,Bf (λ i σ aq=>∃ (n:Int) (u v:fX),σ=[some (.int c),some (.int n),u,v]/\aq=H) #[0,.n,.n,Y,Y] ?_ ?_]
  ·rintro i σ aq ar ⟨n,u,v,rfl,rfl⟩;refine #[_,_,Y,Y,(by show 0<2147483629;decide),_,_,Y,Y,.inl #[.aB,.aB],_,_,Y,Y,_,_,Y,Y,_,_,Y,Y,.inr #[.aB,.aB],_,_,Y,Y,(by show 0<2147483647;decide),?_];refine #[_,_,Y,Y,.inl ?_,_,_,Y,Y,.inl #[.aB,.aB],_,_,Y,Y,_,_,Y,Y,_,_,Y,Y,(by show 0<2147483587;decide),?_]
   ·have U:=Int.emod_nonneg ((c%2147483629+7919*(0+i)+1)*48271) (show 2147483647≠0 by decide);have aa:=Int.emod_lt_of_pos ((c%2147483629+7919*(0+i)+1)*48271) (show 0<2147483647 by decide);exact #[.au,.au]
   refine #[_,_,Y,Y,.inr #[.aB,.aB],_,_,Y,Y,?_];exact #[_,_,_,Y,Y]
  ·rintro σ aq ⟨n,u,v,rfl,rfl⟩;exact #[bF,λ p ah=>q n p ah]
noncomputable def eL:bh:=[.int 2,.int 3,.int 5,.int 7,.int 11,.int 13,.int 17,.int 19,.int 23,.int 29]
def Xv:bG:=λ vs H Q Z=>vs=[]/\∀ p,H p=.n->Q (.ref p) (upd H p (.tup eL))
theorem BG (T:a3 K mg):cb P w mg base cn 1 T.IC Xv:=by
 refine T.IC.fn.dO Xs (by intro _ _ _ _ h;repeat (obtain ⟨rfl,_⟩:=h;rfl)) λ a0 A outer s H vs Q E a h=>?_
 obtain ⟨rfl,q⟩:=h;refine #[_,(aJ (bb (Rm (ag aM (ag aM (ag aM (ag aM (ag aM (ag aM (ag aM (ag aM (ag aM (ag aM az))))))))))))),?_];exact #[bF,λ p ah=>q p ah]
inductive BC:bG
 |mk {vs H Q E} (a:Addr) (n h_:Int):vs=[.ref a,.int h_]->H a=some (.lst [.int n])->0<h_->h_<1073741824->(∀ (r jK) H',0<=r->r<h_->cB a H H'->H' a=some (.lst [.int jK])->Q (.int r) H')->BC vs H Q E
theorem pT (T:a3 K mg):cb P w mg base cn 1 T.AQ BC :=
 (V0 T).imp λ vs H Q E ⟨a,n,h_,e,ak,h0,U,q⟩=>#[a,n,h_,e,ak,h0,U,q _ (n/h_) _ (Int.emod_nonneg n .au) (Int.emod_lt_of_pos n h0) cB.upd bN]
theorem xh {i:Nat} (h:eL[i]?=some x):∃ p:Nat,x=.int (p:Int)/\dp[i]?=some p/\p<30:=by
 match i,h with
 | 0,h=>cases h;exact #[2,Y,Y,.aB]
 | 1,h=>cases h;exact #[3,Y,Y,.aB]
 | 2,h=>cases h;exact #[5,Y,Y,.aB]
 | 3,h=>cases h;exact #[7,Y,Y,.aB]
 | 4,h=>cases h;exact #[11,Y,Y,.aB]
 | 5,h=>cases h;exact #[13,Y,Y,.aB]
 | 6,h=>cases h;exact #[17,Y,Y,.aB]
 | 7,h=>cases h;exact #[19,Y,Y,.aB]
 | 8,h=>cases h;exact #[23,Y,Y,.aB]
 | 9,h=>cases h;exact #[29,Y,Y,.aB]
 | (k+10),h=>cases h
def Ht:bG:=λ vs H Q Z=>∃ v,vs=[v]/\dh H v/\Q (.aO (sS v)) H
theorem JP (T:a3 K mg):iD P w mg base 1 T.ru Ht:=by
 refine T.ru.fn.iE Xr .bW λ a0 A outer s H vs Q E c h=>?_
 obtain ⟨v,rfl,k,q⟩:=h;refine #[_,(aJ (bb (vS (bS kf T.eN eM (ag (J 0) (ag (jj (by rfl) T.pf pa) az))) (qN (zU (bS kf T.eN eM (ag (J 0) (ag (jj (by rfl) T.QF Qt) az)))))))),?_];obtain ⟨t,ty,e⟩:=P5 k;obtain ⟨t',b,a⟩:=P4 k;rw [<-Qx] at q;refine #[v, "int", t,_,Y,ty,e,_,Y,?_];cases ar:yJ v with
 | false =>
  rw [ar] at q;exact bE q
 | true =>
  rw [ar] at q;exact bk #[v, "bool", t',_,Y,b,a,_,Y,q]
theorem Jl (T:a3 K mg):cb P w mg base cn 1 T.ru Ht:=(JP T).fn
noncomputable def natAt (σ:St) (i:Nat):Nat:=match σ[i]? with
 | some (some (.int r))=>r.toNat
 | _=>0
theorem q7 (h:decide (V.int i=V.int j)=.t):i=j:=by
 have:=cD h;injection this
theorem Au (h:¬ decide (V.int i=V.int j)=.t):i≠j:=λ z=>h (bc (by rw [z]))
theorem JD:∀ (ai:h2) i p n,ai[i]?=some p->gR (ai.take (i+1)) n=strip p (gR (ai.take i) n):=by
 intro ai i p n h;unfold gR;rw [iS,h,List.foldl_append];rfl
def Li:bG:=λ vs H Q Z=>∃ m,vs=[.int m]/\1<=m/\Q (.int (gv m.toNat)) H
theorem Lj (T:a3 K mg):iD P w mg base 1 T.rF Li:=by
 refine T.rF.fn.iE xy .bW λ a0 A outer s H vs Q E e h=>?_
 obtain ⟨m,rfl,hm,q⟩:=h;refine #[_,(aH (bq 1 xy (J 0))
  (aH (hQ f_ Y (nM (fT (v:=.ref T.gV) (by rfl) T.pQ Y)) (fL 2 xy)
   (aJ (ri f_ (br dE (bK mr (J 1) (J 2)) aM (bp _))
   (aJ (bq 1 xy (bK q_ (J 1) (J 2)))))))
  (aJ (bb (J 1))))),?_]
 refine #[T.gV,Y,#[eL,T.jC H],FW (λ i σ aq=>(∃ u,σ=[some (.int m),some (.int (gR (dp.take i) m.toNat)),u])/\aq=H) #[#[.n,?_],Y] (λ i σ aq _ _=>T.jC aq) ?_ ?_]
 ·show [some (V.int m),some (V.int m),.n]=_;rw [show gR (dp.take 0) m.toNat=m.toNat from rfl,iR .au]
 ·rintro i x σ aq ae ⟨⟨u,rfl⟩,rfl⟩;obtain ⟨p,rfl,ah,j⟩:=xh ae;have d:=jq p (b5 ah);have g:1<=gR (dp.take i) m.toNat:=xd _ (λ r e=>jq r (List.mem_of_mem_take e)) _ .au;refine rq (λ σ c=>∃ r:Nat,σ=[some (.int m),some (.int r),some (.int p)]/\1<=r/\strip p r=strip p (gR (dp.take i) m.toNat)/\c=aq) (λ σ _=>natAt σ 1) #[_,Y,g,Y,Y] ?_;rintro σ c ⟨r,rfl,b,f,rfl⟩;refine #[_,_,Y,Y,.au,Y,_,Y,c3 (λ h=>?_) (λ h=>?_)]
  ·have h0:=q7 h;have a:r%p=0:=by omega
   refine s9 #[_,_,Y,Y,#[.au,.au],?_];refine #[#[r/p,?_,rv b a,by rw [<-ug d b a];exact f,Y],?_]
   ·rw [q2];rfl
   ·show (r/(p:Int)).toNat<((r:Int)).toNat;rw [<-q2,gQ,gQ];exact j8 b d
  ·have h0:¬ r%(p:Int)=0:=Au h;have a:r%p≠0:=by omega
   refine #[#[some (.int (p:Int)),?_],Y];rw [JD dp i p _ ah,<-f,uh a]
 ·rintro σ aq ⟨⟨u,rfl⟩,rfl⟩;exact (q)
theorem Zu (T:a3 K mg):cb P w mg base cn 1 T.rF Li:=(Lj T).fn
def XT:bG:=λ vs H Q Z=>∃ (p:Nat) (m:Int),vs=[.int p,.int m]/\2<=p/\p<30/\1<=m/\Q (.int (cnt p m.toNat)) H
theorem X6 (T:a3 K mg):iD P w mg base 1 T.uo XT:=by
 refine T.uo.fn.iE uv .bW λ a0 A outer s H vs Q E g h=>?_
 obtain ⟨p,m,rfl,e,f,hm,q⟩:=h;refine #[_,(aH (bq 2 uv aM)
  (aH (bq 3 uv (J 1))
  (aH (ri f_ (br dE (bK mr (J 3) (J 0)) aM (bp _))
   (aH (bq 3 uv (bK q_ (J 3) (J 0)))
  (aJ (bq 2 uv (bK e7 (J 2) aM)))))
  (aJ (bb (J 2)))))),?_]
 refine (?_);refine rq (λ σ d=>∃ o r:Nat,σ=[some (.int p),some (.int m),some (.int o),some (.int r)]/\1<=r/\o+cnt p r=cnt p m.toNat/\d=H) (λ σ _=>natAt σ 3) #[0,m.toNat,by rw [iR .au];rfl,.au,Nat.zero_add _,Y] ?_;rintro σ d ⟨o,r,rfl,b,c,rfl⟩;refine #[_,_,Y,Y,.au,Y,_,Y,c3 (λ h=>?_) (λ h=>?_)]
 ·have h0:=q7 h;have a:r%p=0:=by omega
  refine s9 #[_,_,Y,Y,#[.au,.au],_,_,Y,Y,?_];refine #[#[o+1,r/p,?_,rv b a,by rw [wy e b a] at c;omega,Y],?_]
  ·rw [q2,Int.natCast_add];rfl
  ·show (r/(p:Int)).toNat<((r:Int)).toNat;rw [<-q2,gQ,gQ];exact j8 b e
 ·have h0:¬ r%(p:Int)=0:=Au h;have a:r%p≠0:=by omega
  rw [wz a,Nat.add_zero] at c;subst c;exact (q)
noncomputable def vD (aj:h2):bh:=aj.map λ e=>V.int (e:Nat)
def Wf:bG:=λ vs H Q Z=>∃ m,vs=[.int m]/\1<=m/\(gv m.toNat≠1->∀ H',ay H H'->Q .aQ H') /\
 (gv m.toNat=1->∀ p H',ay H H'->H p=.n->H' p=some (.tup (vD (iN dp m.toNat)))->Q (.ref p) H')
theorem Bo (T:a3 K mg):cb P w mg base cn 2 T.GF Wf:=by
 refine T.GF.fn.dO rp .bW λ a0 A outer s H vs Q E j h=>?_
 obtain ⟨m,rfl,hm,I,aC⟩:=h;refine #[_,(aH (bq 1 rp (zT az))
  (aH (hQ f_ Y (nM (zS (BG T) j bT)) (fL 2 rp)
   (aH (bq 3 rp aM)
  (aH (ri f_ (br dE (bK mr (J 0) (J 2)) aM (bp _))
   (aH (bq 0 rp (bK q_ (J 0) (J 2)))
  (aJ (bq 3 rp (bK e7 (J 3) aM)))))
  (aJ (gU (eE nU tU tV ue (J 1) (ag (J 3) az)))))))
  (aH (bM (br gM (J 0) aM (bp _))
   (aJ (bb d4))
   bO)
  (aJ (bb (gP Ke T.jz jy (ag (J 1) az))))))),?_]
 refine #[bF,λ l q=>#[Y,λ t aG=>#[t,Y,#[_,aX.of bN],?_]]];have s0:ay H (upd (upd H l (.lst [])) t (.tup eL)):=ay.more (ay.new q) aG;have G:t≠l:=λ z=>by rw [z,bN] at aG;cases aG
 refine FW (λ i σ aq=>(∃ u v:fX,σ=[some (.int (gR (dp.take i) m.toNat)),some (.ref l),u,v])/\ay H aq/\aq t=some (.tup eL)/\aq l=some (.lst (vD (iN (dp.take i) m.toNat)))) #[#[.n,.n,?_],s0,bN,by rw [bC G.symm,bN];rfl] (λ i σ aq _ ⟨_,_,a,_⟩=>aX.of a) ?_ ?_
 ·show [some (V.int m),some (V.ref l),.n,.n]=_;rw [show gR (dp.take 0) m.toNat=m.toNat from rfl,iR .au]
 ·rintro i x σ aq ae ⟨⟨u,v,rfl⟩,s2,D,d⟩;obtain ⟨p,rfl,ah,L⟩:=xh ae;have g:=jq p (b5 ah);have y:1<=gR (dp.take i) m.toNat:=xd _ (λ r j=>jq r (List.mem_of_mem_take j)) _ .au;refine rq (λ σ k=>∃ r o:Nat,σ=[some (.int r),some (.ref l),some (.int p),some (.int o)]/\1<=r/\strip p r=strip p (gR (dp.take i) m.toNat)/\o+cnt p r=cnt p (gR (dp.take i) m.toNat)/\k=aq) (λ σ _=>natAt σ 0) #[_,0,Y,y,Y,Nat.zero_add _,Y] ?_;rintro σ k ⟨r,o,rfl,f,C,B,rfl⟩;refine #[_,_,Y,Y,(by show (0:Int)<p;omega),Y,_,Y,c3 (λ h=>?_) (λ h=>?_)]
  ·have h0:=q7 h;have c:r%p=0:=by omega
   refine s9 #[_,_,Y,Y,#[.au,.au],_,_,Y,Y,?_];refine #[#[r/p,o+1,?_,rv f c,by rw [<-ug g f c];exact C,by rw [wy g f c] at B;omega,Y],?_]
   ·rw [q2,Int.natCast_add];rfl
   ·show (r/(p:Int)).toNat<((r:Int)).toNat;rw [<-q2,gQ,gQ];exact j8 f g
  ·have h0:¬ r%(p:Int)=0:=Au h;have c:r%p≠0:=by omega
   have hlen:(vD (iN (dp.take i) m.toNat)).length<sizeLine:=by
    show (List.map _ _).length<_;rw [bz,JM,List.length_take,b7];show min i 10<_;omega
   refine #[.inl #[Y,_,aS.of d],l,_,_,Y,Y,d,hlen,#[#[some (.int (p:Int)),some (.int (o:Int)),?_],?_,?_,?_]]
   ·rw [JD dp i p _ ah,<-C,uh c]
   ·intro b bD n;rw [bC (cq n q)];exact s2 _ _ n
   ·rw [bC G];exact D
   ·rw [bN,IF dp i p _ ah,<-B,wz c,Nat.add_zero];show _=some (eZ.lst (List.map _ (_++[o])));rw [hl];rfl
 ·rintro σ aq ⟨⟨u,v,rfl⟩,s2,D,d⟩;have e:gR (dp.take eL.length) m.toNat=gv m.toNat:=rfl;have y:1<=gv m.toNat:=XZ .au;rw [e];refine #[_,_,Y,Y,_,Y,c3 (λ h=>?_) (λ h=>?_)]
  ·have U:=cD h;exact I .au aq s2
  ·have U:¬ (1:Int)<(gv m.toNat:Nat):=λ z=>h (bc z)
   refine #[l,_,Y,.inl #[aS.of d,λ p ah=>aC .au p _ (ay.more s2 ah) (s2.free ah) bN]]
def XY:bG:=λ vs H Q Z=>∃ i,vs=[.int i]/\1<=i/\gv i.toNat=1/\∀ p H',ay H H'->H' p=some (tupI (td (pB i.toNat)))->Q (.ref p) H'
theorem Ki (T:a3 K mg):iD P w mg base 2 T.n5 XY:=by
 refine T.n5.fn.iE J7 .bW λ a0 A outer s H vs Q E a h=>?_
 obtain ⟨i,rfl,U,b,q⟩:=h;refine #[_,(aH (bM (dw.pt (dP (e8 (eI (hS (JP T) (a.mono .aB) Y Y T.ru.at_ T.ru.fn.bI T.ru.bd (ag (J 0) az)))) (dP (br kU (J 0) aM (bp _)) (e9 (br gN (hS (Lj T) (a.mono .aB) Y Y T.rF.at_ T.rF.fn.bI T.rF.bd (ag (J 0) az)) aM (bp _))))))
   (aJ rh)
   bO)
  (aJ (bb (gP n9 T.jz jy (ag (gs (eg J7 (N:=["prime", "number"]) (js:=[.n,some 0]) (lg.mpr #[Y,(eX _)])) Y (nM (fT (v:=.ref T.gV) (by rfl) T.pQ Y)) (λ Z Z Z Z=>e5) (λ Z Z Z Z=>gu)
    (λ Z Z Z Z=>(hS (X6 T) (a.mono .aB) Y Y T.uo.at_ T.uo.fn.bI T.uo.bd (ag (J 0) (ag (J 1) az))))) az))))),?_]
 refine #[_,Y,trivial,_,Y,bE ?_];refine #[_,_,Y,Y,_,Y,?_];rw [bZ (show ¬ i<1 by omega)];refine bE #[i,Y,U,Y,_,Y,?_];rw [b];refine bE ?_;refine #[T.gV,Y,#[eL,T.jC H],λ D c=>JK (f:=λ v=>match v with| .int p=>V.int (cnt p.toNat i.toNat)|v=>v) Y .aB c (T.jC H) ?_ ?_]
 ·intro x H' R ae r;obtain ⟨z,b⟩:=hR ae;obtain ⟨p,rfl,ah,g⟩:=xh b;have e:=jq p (b5 ah);refine #[p,i,Y,e,g,.au,?_];have d:R (V.int (cnt ((p:Int).toNat) i.toNat)) H':=r;rw [gQ] at d;exact d
 ·refine #[D,_,Y,aS.of bN,λ p H' aF sp ah=>q p H' ((ay.new c).trans sp) ?_];rw [ah];rfl
theorem To (n d):List.zipWith (λ x y=>x-y) (td (pB n)) (td (pB d))=chg n d:=by
 unfold td chg;rw [List.zipWith_map]
def ZY:bG:=λ vs H Q Z=>∃ (b:Addr) (i j:Int),vs=[.ref b]/\H b=some (.tup [.int i,.int j])/\d1 i j=.t/\∀ p H',ay H H'->H' p=some (tupI (chg i.toNat j.toNat))->Q (.ref p) H'
theorem Z0 (T:a3 K mg):iD P w mg base 3 T.uD ZY:=by
 refine T.uD.fn.iE xA .bW λ a0 A outer s H vs Q E e h=>?_
 obtain ⟨b,i,j,rfl,a,hf,q⟩:=h;refine #[_,(aH (bq 1 xA (hS (Ki T) (e.mono .aB) Y Y T.n5.at_ T.n5.fn.bI T.n5.bd (ag (b3 fP (J 0) aM (λ Z Z=>rfl)) az)))
  (aH (bq 2 xA (hS (Ki T) (e.mono .aB) Y Y T.n5.at_ T.n5.fn.bI T.n5.bd (ag (b3 fP (J 0) aM (λ Z Z=>rfl)) az)))
  (aJ (bb (gP n9 T.jz jy (ag (gs (eg xA (js:=[.n,.n]) (eX _)) Y (qO Y Y T.nv (ag (J 1) (ag (J 2) az))) (λ Z Z Z Z=>(ra (n:=2) Y Y (fD e5 (fD (n0 (i:=1) (show List.Nodup (["top", "bottom"]:bA) from by decide +kernel) Y (Or.inl Y) (Or.inr Y)) lp)))) (λ Z Z Z Z=>gu)
    (λ Z Z Z Z=>(bK mu (J 0) (J 1)))) az)))))),?_]
 obtain ⟨⟨l,m⟩,⟨ct,c5⟩⟩:=Jd hf;refine #[b,_,_,_,Y,Y,aX.of a,Y,i,Y,l,m,λ dx H1 s1 c=>?_];refine #[b,_,_,_,Y,Y,aX.of (s1 _ _ a),Y,j,Y,ct,c5,λ dS aq s2 d=>?_];refine #[dx,dS,Y,#[_,aX.of (s2 _ _ c)],#[_,aX.of d],λ D k=>?_];refine Kg (by simp [td,pB,dp];decide) #[_,_,Y] k (s2 _ _ c) d (λ x y H' R Z Z r=>#[_,_,Y,Y,r]) λ o s3 g=>?_
 refine #[D,_,Y,aS.of g,λ p f aF s4 ah=>q p f (((s1.trans s2).trans s3).trans s4) ?_];rw [ah,To]
inductive BV:bG
 |mk {vs H Q E} (b:Addr) (xs:bh) (aw:cN):vs=[.ref b]->H b=some (.tup xs)->f7 H xs aw->xs.length<=1000->(∀ l H' ys,H l=.n->ay H H'->H' l=some (.lst ys)->c_ H' ys (rowsOf aw)->Q (.ref l) H')->BV vs H Q E
theorem KJ (T:a3 K mg):iD P w mg base 4 T.rC BV:=by
 refine T.rC.fn.iE Kw .bW λ a0 A outer s H vs Q E n h=>?_
 obtain ⟨b,xs,aw,rfl,l,hf,v,q⟩:=h;refine #[_,(aJ (bb (gs (eg Kw (N:=["fraction"]) (js:=[.n]) (eX _)) Y (nM (J 0)) (λ Z Z Z Z=>e5) (λ Z Z Z Z=>gu)
    (λ Z Z Z Z=>(hS (Z0 T) (n.mono .aB) Y Y T.uD.at_ T.uD.fn.bI T.uD.bd (ag (J 0) az)))))),?_]
 refine #[b,Y,#[_,aX.of l],λ D j=>?_];refine wV (by rw [b7];omega) (λ i σ' H' ys=>(∃ u,σ'=[u])/\ay H H'/\c_ H' ys ((rowsOf aw).take i)) #[#[_,Y],ay.new j,c_.nil] (λ i σ' H' ys _ _ ⟨_,s',_⟩=>aX.of (s' _ _ l)) ?_ ?_
 ·rintro i x σ' H' ys R ae f r ⟨⟨u,rfl⟩,s',g⟩ t;obtain ⟨a,d,c,f1,rfl,af,f4⟩:=hf.2 i x ae;refine #[c,a,d,Y,s' _ _ af,f4,λ p aq s2 ah=>?_];refine t _ _ _ (s2 _ _ f) #[#[_,Y],?_,?_]
  ·intro e o k;rw [bC (cq k j)];exact s2 _ _ (s' _ _ k)
  ·have m:(rowsOf aw)[i]?=some (chg a.toNat d.toNat):=by unfold rowsOf;rw [et,f1];rfl
   rw [iS,m];exact c_.but ((g.same s2).app (c_.one #[p,Y,ah])) (s2 _ _ f) cB.upd
 ·rintro σ' H' ys f r ⟨_,s',g⟩;rw [nz (by rw [ry,<-hf.1];exact bx _)] at g;exact q D H' ys j s' f g
theorem BR (T:a3 K mg):cb P w mg base cn 4 T.rC BV:=(KJ T).fn
inductive Gm:bG
 |mk {vs H Q E} (a b:Addr) (cs ai:bB):vs=[.ref a,.ref b]->H a=some (tupI cs)->H b=some (tupI ai)->(∀ H',ay H H'->Q (.aO (d0 cs ai)) H')->Gm vs H Q E
theorem RM {i:Nat} (U:cs[i]?=some a) (aa:ai[i]?=some b) (h:b+a<0):d0 cs ai=.f:=by
 rw [lh];intro z;have:=w2.mp z i a b U aa;omega
theorem G8 (T:a3 K mg):iD P w mg base 1 T.nJ Gm:=by
 refine T.nJ.fn.iE AI .bW λ a0 A outer s H vs Q E B h=>?_
 obtain ⟨a,b,cs,ai,rfl,ak,f,q⟩:=h;refine #[_,(aH (hQ f_ Y (qO Y Y T.nv (ag (J 0) (ag (J 1) az))) (tC Y (fD (fL 2 AI) (fD (fL 3 AI) lp)))
   (aJ (bM (br kU (bK e7 (J 3) (J 2)) aM (bp _))
   (aJ (bb hg))
   bO)))
  (aJ (bb hg))),?_]
 refine #[a,b,Y,#[_,aX.of ak],#[_,aX.of f],?_];refine RN (λ i σ aq=>(∃ u v,σ=[some (.ref a),some (.ref b),u,v])/\ay H aq/\∀ j,j<i->∀ x y,cs[j]?=some x->ai[j]?=some y->0<=y+x) #[#[.n,.n,Y],ay.refl H,λ j l=>by omega] (λ i σ aq _ ⟨_,s2,_⟩=>#[aX.of (s2 _ _ ak),aX.of (s2 _ _ f)]) ?_ ?_
 ·rintro i x y p σ aq ae n ah ⟨⟨u,v,rfl⟩,s2,e⟩;obtain ⟨x,rfl,g⟩:=jE ae;obtain ⟨y,rfl,k⟩:=jE n;refine #[p,_,Y,aX.of bN,Y,_,_,Y,_,_,Y,Y,?_];refine #[_,_,Y,Y,_,_,Y,Y,_,Y,c3 (λ h=>?_) (λ h=>?_)]
  ·have h0:=cD h;have aR:=q _ (ay.more (o:=.tup [.int x,.int y]) s2 ah);rw [RM g k h0] at aR;exact aR
  ·have h0:¬ y+x<0:=λ z=>h (bc z)
   refine #[#[_,_,Y],ay.more s2 ah,λ j l r t c d=>?_];by_cases m:j=i
   ·subst m;rw [g] at c;rw [k] at d;cases c;cases d;omega
   ·exact e j .au r t c d
 ·rintro σ aq ⟨⟨u,v,rfl⟩,s2,e⟩;have aR:=q aq s2;rw [w2.mpr λ j x y c d=>e j ?_ x y c d] at aR
  ·exact aR
  ·have U:=(dr.mp c).1;have aa:=(dr.mp d).1;rw [bz,bz];omega
inductive BK:bG
 |mk {vs H Q E} (l b:Addr) (ys:bh) (rows:d7) (ai:bB):vs=[.ref l,.ref b]->H l=some (.lst ys)->c_ H ys rows->H b=some (tupI ai)->(∀ H',ay H H'->Q (iK (cO rows ai)) H')->BK vs H Q E
theorem JO (T:a3 K mg):iD P w mg base 2 T.rt BK:=by
 refine T.rt.fn.iE BI .bW λ a0 A outer s H vs Q E y h=>?_
 obtain ⟨l,b,ys,rows,ai,rfl,g,k,n,q⟩:=h;refine #[_,(aH (hQ f_ Y (Gd Y Y T.Jg (ag (J 0) az)) (tC Y (fD (fL 2 BI) (fD (fL 3 BI) lp)))
   (aJ (bM (eI (hS (G8 T) (y.mono .aB) Y Y T.nJ.at_ T.nJ.fn.bI T.nJ.bd (ag (J 3) (ag (J 1) az))))
   (aJ (bb (J 2)))
   bO)))
  (aJ (bb d4))),?_]
 refine #[l,ys,Y,g,?_];refine GQ (λ i σ aq=>(∃ u v,σ=[some (.ref l),some (.ref b),u,v])/\ay H aq/\∀ j,j<i->∀ c,rows[j]?=some c->d0 c ai=.f) #[#[.n,.n,Y],ay.refl H,λ j r=>by omega] (λ i σ aq _ ⟨_,s2,_⟩=>s2 _ _ g) ?_ ?_
 ·rintro i x p σ aq ae ah ⟨⟨u,v,rfl⟩,s2,d⟩;obtain ⟨c,a,af,rfl,ak⟩:=k.at ae;have s3:=ay.more (o:=.tup [.int i,.ref a]) s2 ah;refine #[p,_,Y,aX.of bN,Y,_,_,Y,_,_,Y,Y,?_];refine #[a,b,c,ai,Y,s3 _ _ ak,s3 _ _ n,λ m s4=>#[_,Y,c3 (λ h=>?_) (λ h=>?_)]]
  ·have aR:=q m (s3.trans s4);rw [As rows ai i d (λ f e=>by rw [af] at e;cases e;exact h) (dr.mp af).1] at aR;exact (aR)
  ·refine #[#[_,_,Y],s3.trans s4,λ j r f e=>?_];by_cases t:j=i
   ·subst t;rw [af] at e;cases e;cases z:d0 c ai with
    | true=>exact absurd z h
    | false=>rfl
   ·exact d j .au f e
 ·rintro σ aq ⟨⟨u,v,rfl⟩,s2,d⟩;have aR:=q aq s2;rw [H0 rows ai λ j c e=>d j (by rw [k.1];exact (dr.mp e).1) c e] at aR;exact aR
theorem BF (T:a3 K mg):cb P w mg base cn 2 T.rt BK:=(JO T).fn
inductive A6:bG
 |mk {vs H Q E} (a b:Addr) (ai cs:bB) (m:Int):vs=[.ref a,.ref b,.int m]->H a=some (tupI ai)->H b=some (tupI cs)->(-(2 ^ 64)<m/\m<2 ^ 64)->ai.length<=1000->(∀ p H',ay H H'->H' p=some (tupI (bX ai cs m))->Q (.ref p) H')->A6 vs H Q E
theorem Bn (T:a3 K mg):iD P w mg base 1 T.mx A6:=by
 refine T.mx.fn.iE Hn .bW λ a0 A outer s H vs Q E k h=>?_
 obtain ⟨a,b,ai,cs,m,rfl,ak,c,hm,j,q⟩:=h;refine #[_,(aJ (bb (gP n9 T.jz jy (ag (gs (eg Hn (js:=[.n,.n,some 2]) (lg.mpr #[Y,(eX _)])) Y (qO Y Y T.nv (ag (J 0) (ag (J 1) az))) (λ Z Z Z Z=>(ra (n:=2) Y Y (fD e5 (fD (n0 (i:=1) (show List.Nodup (["power", "change", "many"]:bA) from by decide +kernel) Y (Or.inl Y) (Or.inr Y)) lp)))) (λ Z Z Z Z=>gu)
    (λ Z Z Z Z=>(bK e7 (J 0) (bK pz (J 2) (J 1))))) az)))),?_]
 refine #[a,b,Y,#[_,aX.of ak],#[_,aX.of c],λ D f=>?_];refine Kg (by rw [b7];omega) #[_,_,Y] f ak c (λ x y H' R Z Z r=>#[_,_,Y,Y,.inl hm,_,_,Y,Y,r]) λ g s3 e=>?_
 exact #[D,_,Y,aS.of e,λ p d aF s4 ah=>q p d (s3.trans s4) ah]
theorem A0 (T:a3 K mg):cb P w mg base cn 1 T.mx A6:=(Bn T).fn
def CO (H:aD) (v:V):rH->Prop
 | .round b l=>∃ a,v=.ref a/\H a=some (.tup [.str "round", .int (b:Int),.int (l:Int)])
 | .rests n c=>∃ a d,v=.ref a/\H a=some (.tup [.str "rests", .int (n:Int),.ref d])/\H d=some (tupI c)
 | .ph=>∃ a,v=.ref a/\H a=some (.tup [.str "open"])
structure ma (rows:d7) (ai:bB) (i:Nat) (kvs:List (List Key×V)):Prop where
 len:kvs.length<=i
 out:∀ e v,bU kvs (fW e)=some v->∃ j:Nat,j<i/\v=.int (j:Int)/\goN rows j ai=some e
 Dt:∀ (j:Nat),j<i->∀ e,goN rows j ai=some e->∃ v,bU kvs (fW e)=some v
theorem ma.nil:ma rows ai 0 []:=#[bx _,(λ e v h=>by cases h),(λ j h=>by omega)]
theorem ma.put (S:ma rows ai i kvs) (af:goN rows i ai=some cur):ma rows ai (i+1) (putK kvs (fW cur) (.int (i:Int))):=by
 refine #[?_,λ e v h=>?_,λ j b e he=>?_]
 ·have:=BE kvs (fW cur) (.int i);have:=S.len;omega
 ·by_cases z:e=cur
  ·subst z;rw [KA] at h;exact #[i,.au,(cE h).symm,af]
  ·rw [JE z] at h;obtain ⟨j,U,aa⟩:=S.out e v h;exact #[j,.au,aa]
 ·by_cases z:e=cur
  ·subst z;exact #[_,KA]
  ·rw [JE z];by_cases a:j=i
   ·subst a;rw [af] at he;exact absurd (cE he).symm z
   ·exact S.Dt j .au e he
theorem ma.fresh (S:ma rows ai i kvs) (D:sh rows ai i) (af:goN rows i ai=some cur) (ao:bU kvs (fW cur)=.n):sh rows ai (i+1):=λ j k a c e=>by
 by_cases b:k=i
 ·subst b;rw [af] at e;obtain ⟨v,aI⟩:=S.Dt j a cur e;rw [ao] at aI;cases aI
 ·exact D j k a .au e
inductive Gl:bG
 |mk {vs H Q E} (b a:Addr) (xs:bh) (aw:cN) (ai:bB) (m:Int):vs=[.ref b,.ref a,.int m]->H b=some (.tup xs)->f7 H xs aw->xs.length<=1000->H a=some (tupI ai)->ai.length=10->nn ai=.t->0<=m->m<=1000->(∀ v H' o,ay H H'->EJ (rowsOf aw) m.toNat ai o->CO H' v o->Q v H')->Gl vs H Q E
theorem R9 (T:a3 K mg):cb P w mg base cn 5 T.E7 Gl:=by
 refine T.E7.fn.dO pP .bW λ a0 A outer s H vs Q E r h=>?_
 obtain ⟨b,a,xs,aw,ai,m,rfl,kr,hf,eB,ak,vq,qi,m0,r8,q⟩:=h;refine #[_,(aH (bq 3 pP (bQ (BR T) r bT (ag (J 0) az)))
  (aH (bq 4 pP UU)
  (aH (bq 5 pP (J 1))
  (aH (hQ f_ Y (Br Y T.AA (ag (bK e7 (J 2) aM) az)) (fL 6 pP)
   (aH (bM (br (QN (il r)) (J 5) (J 4) (by with_unfolding_all rfl))
   (aJ (bb (hp (ag aT (ag (F_ (il r) (J 4) (J 5) (λ _ _=>rfl)) (ag (bK mu (J 6) (F_ (il r) (J 4) (J 5) (λ _ _=>rfl))) az))))))
   bO)
  (aH (bq 7 pP (bQ (BF T) r bT (ag (J 3) (ag (J 5) az))))
  (aH (bM (br mq (J 7) d4 (bp _))
   (aJ (bb (hp (ag aT (ag (J 6) (ag (J 5) az))))))
   bO)
  (aH (SN (il r) (J 4) (J 5) (J 6) Y)
  (aJ (bq 5 pP (bQ (A0 T) r bT (ag (J 5) (ag (b3 c1 (J 3) (J 7) (λ _ _=>rfl)) (ag aM az)))))))))))
  (aJ (bb (hp (ag aT az)))))))),?_]
 refine #[b,xs,aw,Y,kr,hf,eB,λ l H1 ys fl s1 O S=>?_];refine λ d aq f2 s2 hd2=>?_
 have fd:=s1.free f2;have R:=lu aw;refine #[_,_,Y,Y,m+1,Y,.au,.au,Bf (λ i σ y=>∃ (c:Addr) (cur:bB) (kvs:List (List Key×V)) (u v:fX),σ=[some (.ref b),some (.ref a),some (.int m),some (.ref l),some (.ref d),some (.ref c),u,v]/\ay H1 y/\y d=some (.ez kvs)/\y c=some (tupI cur)/\goN (rowsOf aw) i ai=some cur/\sh (rowsOf aw) ai i/\ma (rowsOf aw) ai i kvs)
  #[a,ai,[],.n,.n,Y,s2,hd2,s2 _ _ (s1 _ _ ak),Y,λ _ _ _ h=>by omega,ma.nil] ?_ ?_]
 ·rintro i σ y ar ⟨c,cur,kvs,u,v,rfl,s3,n,f,g,B,C⟩;have abe:=mm R vq qi g;refine #[c,d,cur,kvs,Y,Y,f,n,_,Y,?_];cases aI:bU kvs (fW cur) with
  | some v0 =>
   obtain ⟨j,p5,rfl,ND⟩:=C.out cur v0 aI;refine bk ?_;refine #[d,c,cur,kvs,_,Y,Y,n,f,aI,d,c,cur,kvs,_,Y,Y,n,f,aI,_,_,Y,Y,bF,λ t D f4 s4 aG=>?_];refine q (.ref t) D (.round j (i-j)) ((s1.trans s3).trans s4) #[.au,.au,#[cur,ND,by rw [show j+(i-j)=i by omega];exact g],by rw [show j+(i-j)=i by omega];exact B] #[t,Y,?_];rw [aG];show some (eZ.tup [_,_,V.int (0+i-j)])=_;rw [show (0+i-j)=((i-j:Nat):Int) by omega]
  | none =>
   refine bE ?_;have Z:=C.fresh B g aI;refine #[l,c,ys,rowsOf aw,cur,Y,s3 _ _ O,S.same s3,f,λ D s4=>?_];cases L:cO (rowsOf aw) cur with
   | none =>
    refine #[Y,_,Y,bk #[bF,λ t G oo s5 aG=>?_]];refine q (.ref t) G (.rests i cur) (((s1.trans s3).trans s4).trans s5) #[.au,g,L] #[t,c,Y,?_,s5 _ _ (s4 _ _ f)];rw [aG,Int.zero_add]
   | some k =>
    obtain ⟨M,N,_,hA⟩:=q6 L;obtain ⟨x,e,ae,rfl,he⟩:=(S.same s3).of N;have fg:=zX L N;refine #[Y,_,Y,bE #[d,c,cur,kvs,Y,Y,s4 _ _ n,s4 _ _ f,(by have:=C.len;rw [b7];omega),λ G I X=>?_]];have bI:ay H1 G:=λ c o aC=>I c o (λ z=>by rw [z,f2] at aC;cases aC) (s4 _ _ (s3 _ _ aC))
    have Ow:=fo f n nofun;have Ox:=fo he n nofun;refine #[l,_,_,_,Y,Y,aS.of (bI _ _ O),eH (nS k) (by rw [gQ];exact ae),c,e,cur,M,1,Y,I _ _ Ow (s4 _ _ f),I _ _ Ox (s4 _ _ he),#[.aB,.aB],.au,λ p lA aV sJ=>?_];refine #[p,bX cur M 1,_,_,_,Y,bI.trans aV,aV _ _ X,sJ,?_,Z,?_]
    ·show (goN (rowsOf aw) i ai).bind _=_;rw [g];exact fg
    ·rw [Int.zero_add];exact C.put g
 ·rintro σ y ⟨c,cur,kvs,u,v,rfl,s3,n,f,g,B,C⟩;have em:(m+1).toNat=m.toNat+1:=by omega
  rw [em] at g B;exact #[bF,λ t D f4 s4 aG=>q (.ref t) D .ph ((s1.trans s3).trans s4) #[#[cur,g],B] #[t,Y,aG]]
inductive Le:bG
 |mk {vs H Q E} (a b:Addr) (ai cs:bB):vs=[.ref a,.ref b]->H a=some (tupI ai)->H b=some (tupI cs)->ai.length=10->cs.length=10->nn ai=.t->(∀ x∈cs,-40<x/\x<40)->(∀ H' o,ay H H'->ti ai cs o->Q (iK o) H')->Le vs H Q E
theorem Zt (T:a3 K mg):iD P w mg base 1 T.uz Le:=by
 refine T.uz.fn.iE Ld .bW λ a0 A outer s H vs Q E u h=>?_
 obtain ⟨a,b,ai,cs,rfl,ak,c,m,k,d,l,q⟩:=h;refine #[_,(aJ (bb (Gb Y (by rfl) T.vC vz (ag (gs (eg Ld (js:=[.n,.n]) (eX _)) Y (qO Y Y T.nv (ag (J 0) (ag (J 1) az))) (λ Z Z Z Z=>(ra (n:=2) Y Y (fD e5 (fD (n0 (i:=1) (show List.Nodup (["power", "change"]:bA) from by decide +kernel) Y (Or.inl Y) (Or.inr Y)) lp)))) (λ Z Z Z Z=>(t2 (br kU (J 1) aM (bp _))))
    (λ Z Z Z Z=>(bK q_ (J 0) (zB zZ (J 1))))) az)))),?_]
 refine #[a,b,Y,#[_,aX.of ak],#[_,aX.of c],λ D j=>?_];refine I_ (f:=λ x y=>x/(-y)) (by rw [m,k,b7];decide) #[_,_,Y] j ak c (λ x y H' R Z Z r=>#[_,_,Y,Y,_,Y,r]) (λ x y H' R Z o aG r=>?_) λ H1 s1 U=>?_
 ·have U:=cD aG;have aa:=l y o;exact #[_,Y,_,_,Y,Y,#[.au,.au],r]
 ·refine #[D,tn ai cs,Y,aS.of U,λ e=>q H1 .n s1 (VP d e),λ M p t=>?_];obtain ⟨g,L⟩:=VQ d p t;have:=q H1 _ s1 L;rw [show iK (some M.toNat)=V.int M by show V.int (M.toNat)=_;rw [iR g]] at this;exact this
inductive K5:bG
 |mk {vs H Q E} (a b c:Addr) (ai cs ds:bB):vs=[.ref a,.ref b,.ref c]->H a=some (tupI ai)->H b=some (tupI cs)->H c=some (tupI ds)->ai.length=10->cs.length=10->ds.length=10->nn ai=.t->(∀ x∈cs,-40<x/\x<40)->(∀ x∈ds,-40<x/\x<40)->(∀ H' o,ay H H'->o1 ai cs ds o->Q (iK o) H')->K5 vs H Q E
theorem Za (T:a3 K mg):iD P w mg base 2 T.uy K5:=by
 refine T.uy.fn.iE pW .bW λ a0 A outer s H vs Q E B h=>?_
 obtain ⟨a,b,c,ai,cs,ds,rfl,ak,j,af,e,I,L,N,aC,M,q⟩:=h;refine #[_,(aH (bq 3 pW aM)
  (aH (hQ f_ Y (SK Y Y T.nv (ag (J 0) (ag (J 1) (ag (J 2) az)))) (tC Y (fD (fL 4 pW) (fD (fL 5 pW) (fD (fL 6 pW) lp))))
   (aH (bq 7 pW (bK mu (zB zZ (J 6)) (J 4)))
  (aJ (bM (br gM (J 7) aM (bp _))
   (aH (bM (br pg (J 5) aM (bp _))
   (aJ (bb d4))
   bO)
  (aJ (bq 3 pW (bS (Bc Y) T.tp tj (ag (J 3) (ag (bK q_ (bK mu (bK e7 (J 7) (J 5)) aM) (J 5)) az))))))
   bO))))
  (aH (bM (eI (hS (G8 T) (B.mono .aB) Y Y T.nJ.at_ T.nJ.fn.bI T.nJ.bd (ag (J 2) (ag (hS (Bn T) (B.mono .aB) Y Y T.mx.at_ T.mx.fn.bI T.mx.bd (ag (J 0) (ag (J 1) (ag (J 3) az)))) az))))
   (aJ (bb (J 3)))
   bO)
  (aJ (bb d4))))),?_]
 refine #[a,b,c,Y,#[_,aX.of ak],#[_,aX.of j],#[_,aX.of af],?_];refine TO (by rw [bz,bz,e,I]) (by rw [bz,bz,e,L]) (λ i σ aq=>∃ (m:Int) (l n o t:fX),σ=[some (.ref a),some (.ref b),some (.ref c),some (.int m),l,n,o,t]/\ay H aq/\gi ai cs ds i m) #[0,.n,.n,.n,.n,Y,ay.refl H,gi.start] (λ i σ aq _ ⟨_,_,_,_,_,_,s2,_⟩=>#[aX.of (s2 _ _ ak),aX.of (s2 _ _ j),aX.of (s2 _ _ af)]) ?_ ?_
 ·rintro i x y z p σ aq ae O R ah ⟨m,l,n,o,t,rfl,s2,d⟩;obtain ⟨x,rfl,f⟩:=jE ae;obtain ⟨y,rfl,k⟩:=jE O;obtain ⟨z,rfl,g⟩:=jE R;have s3:ay H (upd aq p (.tup [.int x,.int y,.int z])):=ay.more s2 ah;have X:=M z (b5 g);have aV:=aC y (b5 k);have x0:=jo.mp N x (b5 f);refine #[p,_,Y,aX.of bN,Y,_,_,Y,_,_,Y,_,_,Y,Y,?_];refine #[_,Y,_,_,Y,Y,?_];refine #[_,_,Y,Y,_,Y,c3 (λ h=>?_) (λ h=>?_)]
  ·have v:=cD h;refine #[_,_,Y,Y,_,Y,c3 (λ h'=>?_) (λ h'=>?_)]
   ·exact q _ .n s3 (gi.never f k g v (cD h'))
   ·have C:0<y:=by
     have:¬ y<=0:=λ w=>h' (bc w)
     omega
    exact #[_,_,Y,Y,_,_,Y,Y,_,_,Y,Y,#[C,.au],_,_,Y,_,_,_,_,_,Y,s3,d.more f k g v .au C]
  ·exact #[m,_,_,_,_,Y,s3,d.skip (y:=y) f g λ w=>h (bc w)]
 ·rintro σ aq ⟨m,l,n,o,t,rfl,s2,d⟩;rw [bz,e] at d;have h0:=d.1;have U:=d.2.1;refine #[a,b,ai,cs,m,Y,s2 _ _ ak,s2 _ _ j,#[.au,.au],.au,λ r S s3 G=>?_];refine #[c,r,ds,bX ai cs m,Y,s3 _ _ (s2 _ _ af),G,λ u s4=>?_];have D:=(s2.trans s3).trans s4;refine #[_,Y,c3 (λ h=>?_) (λ h=>?_)]
  ·have:=q u _ D (d.yes h);rw [show iK (some m.toNat)=V.int m by show V.int (m.toNat)=_;rw [iR h0]] at this;exact (this)
  ·exact q u .n D (d.no e (lh.mpr h))
theorem Bz:∀ (os:List (Option Nat)),(os.map iK).filter (λ v=> !decide (v=V.aQ))=((os.filterMap id).map λ n:Nat=>(n:Int)).map V.int
 | []=>rfl
 | none::os=>by
  show (os.map iK).filter _=_;rw [Bz os];rfl
 | some n::os=>by
  show V.int n::(os.map iK).filter _=_;rw [Bz os];rfl
inductive BZ:bG
 |mk {vs H Q E} (l a:Addr) (ys:bh) (rows:d7) (ai c:bB) (k:Nat):vs=[.ref l,.ref a,.int k]->H l=some (.lst ys)->c_ H ys rows->ys.length<=1000->H a=some (tupI ai)->ai.length=10->nn ai=.t->ja rows->uF rows->rows[k]?=some c->(∀ H' o,ay H H'->kE rows ai c k o->(∀ T,o=some T->(∃ x∈ai,T<=x)\/T<=1000)->Q (iK o) H')->BZ vs H Q E
theorem Lg (T:a3 K mg):iD P w mg base 3 T.rE BZ:=by
 refine T.rE.fn.iE uB .bW λ a0 A outer s H vs Q E gy h=>?_
 obtain ⟨l,a,ys,rows,ai,c,k,rfl,Z,g,vd,ak,vq,qi,R,B,p,q⟩:=h;refine #[_,(aH (tE (i:=3) uB.dg Y (Or.inr Y) (b3 c1 (J 0) (J 2) (λ _ _=>rfl)))
  (aH (bq 4 uB (bK jA (d5 (ag (hS (Zt T) (gy.mono .aB) Y Y T.uz.at_ T.uz.fn.bI T.uz.bd (ag (J 1) (ag (J 3) az))) az)) (gs (eg uB (N:=["ahead", "powers", "used"]) (js:=[.n,some 1,some 3]) (lg.mpr #[Y,(lg.mpr #[Y,(eX _)])])) Y (iX (hs wN (J 0) hq (hr (J 2)))) (λ _ _ _ _=>e5) (λ _ _ _ _=>gu)
    (λ _ _ _ _=>(hS (Za T) (gy.mono .aB) Y Y T.uy.at_ T.uy.fn.bI T.uy.bd (ag (J 1) (ag (J 2) (ag (J 0) az))))))))
  (aJ (bb (Gb Y (by rfl) T.vC vz (ag (gs (eg uB (N:=["end"]) (js:=[.n]) (eX _)) Y (iX (J 4)) (λ _ _ _ _=>e5) (λ _ _ _ _=>(t2 (br wK (J 0) d4 (bp _))))
    (λ _ _ _ _=>(J 0))) az)))))),?_]
 obtain ⟨x,e,ae,rfl,he⟩:=g.of p;have t:=b5 p;have aaO:=(dr.mp p).1;refine #[l,_,_,_,Y,Y,aS.of Z,eH (nS k) (by rw [gQ];exact ae),?_];refine #[a,e,ai,c,Y,ak,he,vq,R c t,qi,B c t,λ H1 o s1 X=>?_];refine #[bF,λ p7 aq f2 s2 NJ=>?_];have C:=s1.trans s2;refine #[_,Y,l,ys,Y,aS.of (C _ _ Z),λ d hd=>?_];rw [TH (nS k),gQ];have s3:ay aq (upd aq d (.lst (ys.take k))):=ay.new hd;have lU:(ys.take k).length=k:=by rw [List.length_take,g.1];omega
 refine #[d,Y,#[_,aS.of bN],λ D aV=>?_];refine Vx (by rw [lU,b7,<-g.1] at *;omega) (λ i σ' H' zs=>(∃ u,σ'=[u,some (.ref a),some (.ref e)])/\ay (upd aq d (.lst (ys.take k))) H'/\∃ os,zs=os.map iK/\os.length=i/\∀ j,j<i->∀ r,rows[j]?=some r->∃ z,os[j]?=some z/\o1 ai c r z) #[#[_,Y],ay.new aV,[],Y,Y,λ j p5=>absurd p5 .au] (λ i σ' H' zs _ _ ⟨_,s',_⟩=>aS.of (s' _ _ bN)) ?_ ?_
 ·rintro j x σ' H' zs aC y qh jc ⟨⟨u,rfl⟩,s',os,rfl,f,m⟩ fb;have NH:j<k:=by
   have:=(dr.mp y).1;omega
  have N9:ys[j]?=some x:=by rw [List.getElem?_take_of_lt NH] at y;exact y
  obtain ⟨r,mY,Dj,rfl,yG⟩:=g.at N9;have Dl:=b5 Dj;have G:=(C.trans s3).trans s';refine #[a,e,mY,ai,c,r,Y,G _ _ ak,G _ _ he,G _ _ yG,vq,R c t,R r Dl,qi,B c t,B r Dl,λ mG z s4 fw=>?_];refine fb _ _ _ (s4 _ _ qh) #[#[_,Y],?_,os++[z],?_,?_,?_]
  ·intro xI uQ L;rw [bC (cq L aV)];exact s4 _ _ (s' xI uQ L)
  ·rw [hl];rfl
  ·rw [c9,f];rfl
  ·intro i ar x3 v;by_cases NG:i<j
   ·obtain ⟨fx,U,aa⟩:=m i NG x3 v;exact #[fx,by rw [jm .au];exact U,aa]
   ·have:i=j:=by omega
    subst this;rw [Dj] at v;cases v;exact #[z,by rw [<-f,List.getElem?_concat_length],fw]
 ·rintro σ' mG zs M7 jc ⟨_,s4,os,rfl,f,m⟩;rw [lU] at f m;have DM:=s3.trans s4;refine #[p7,D,_,_,Y,Y,DM _ _ NJ,M7,?_,λ Cn mH oo s5 O=>?_]
  ·rw [bz,f,b7];show 1+k<=_;have:=g.1;omega
  have vi:=(C.trans DM).trans s5;refine #[Cn,Y,#[_,aS.of O],λ xD yu=>?_];refine XB (σ0:=[]) (xs:=(o::os).map iK) ?_ #[_,Y] yu O (λ x H' aC _ _ r=>#[Y,_,Y,r]) (λ x H' aC _ _ _ r=>(r)) λ I e1 S=>?_
  ·rw [bz,gq,f,b7];have:=g.1;omega
  rw [Bz] at S;refine #[xD,_,Y,aS.of S,λ LO=>?_,λ M r6 r7=>?_]
  ·exact q I .n (vi.trans e1) (S8 p X m (List.map_eq_nil_iff.mp LO)) (λ T z=>by cases z)
  ·obtain ⟨n,ao,rfl⟩:=cW.mp r6;obtain ⟨U,aa⟩:=S9 p f X m ao λ b kr=>by
    have:=r7 b (qZ kr);omega
   exact q I (some n) (vi.trans e1) U (λ T z=>by cases z;exact aa)
theorem Zd (T:a3 K mg):cb P w mg base cn 3 T.rE BZ:=(Lg T).fn
theorem Gv (h:dT i=.t):i<=1000000000000:=by
 unfold dT at h;simp only [eJ,iT] at h;exact h.1.2
theorem TQ (h:d1 i j=.t):i<=1000000000000/\j<=1000000000000:=by
 unfold d1 at h;simp only [eJ] at h;exact #[Gv h.1.1,Gv h.1.2]
theorem t4 (hf:f7 H xs aw):uF (rowsOf aw):=λ c af x ae=>by
 obtain ⟨⟨i,j⟩,hm,rfl⟩:=cW.mp af;obtain ⟨k,b⟩:=hR hm;have d:k<xs.length:=by rw [hf.1];exact (dr.mp b).1
 obtain ⟨e,l,a,U,_,_,f⟩:=hf.2 k _ (cK d);rw [b] at U;cases U;obtain ⟨⟨g,_⟩,⟨ct,_⟩⟩:=Jd f;obtain ⟨h,m⟩:=TQ f;exact Qu .au .au .au .au ae
noncomputable def intOf:Option fX->Nat
 | some (some (V.int i))=>i.toNat
 | _=>0
noncomputable def D7 (σ:St):Nat:=intOf σ[5]?
inductive Hs:bG
 |mk {vs H Q E} (b a:Addr) (xs:bh) (aw:cN) (ai:bB) (m:Int):vs=[.ref b,.ref a,.int m]->H b=some (.tup xs)->f7 H xs aw->xs.length<=1000->H a=some (tupI ai)->ai.length=10->nn ai=.t->0<=m->m<2 ^ 62->(∀ st d cur,dW (rowsOf aw) ai m.toNat st d cur->d<m.toNat->cO (rowsOf aw) cur≠.n/\st<2000)->(∀ st cur,dW (rowsOf aw) ai m.toNat st m.toNat cur->∀ aR H',ay H H'->H' aR=some (tupI cur)->Q (.ref aR) H')->Hs vs H Q E
theorem Ud (T:a3 K mg):iD P w mg base 5 T.k6 Hs:=by
 refine T.k6.fn.iE fs .bW λ a0 A outer s H vs Q E q h=>?_
 obtain ⟨b,a,xs,aw,ai,m,rfl,X,hf,M,ak,O,N,m0,r8,I,fc⟩:=h;refine #[_,(aH (bq 3 fs (hS (KJ T) (q.mono .aB) Y Y T.rC.at_ T.rC.fn.bI T.rC.bd (ag (J 0) az)))
  (aH (bq 4 fs (J 1))
  (aH (bq 5 fs aM)
  (aH (bq 6 fs aM)
  (aH (ri f_ (br kU (J 5) (J 2) (bp _))
   (aH (bq 7 fs (hS (JO T) (q.mono .aB) Y Y T.rt.at_ T.rt.fn.bI T.rt.bd (ag (J 3) (ag (J 4) az))))
  (aH (bM (br mq (J 7) d4 (bp _))
   (aJ rh)
   bO)
  (aH (bM (br dE (J 6) (jB (by rfl) T.K8) (bp _))
   (aJ rh)
   bO)
  (aH (bq 8 fs (hS (Lg T) (q.mono .aB) Y Y T.rE.at_ T.rE.fn.bI T.rE.bd (ag (J 3) (ag (J 4) (ag (J 7) az)))))
  (aH (zV (dw.pt (dP (br mq (J 8) d4 (bp _)) (e9 (br gM (J 8) (bK mu (J 2) (J 5)) (bp _)))))
   (aJ (bq 8 fs (bK mu (J 2) (J 5))))
   bO)
  (aH (bq 4 fs (hS (Bn T) (q.mono .aB) Y Y T.mx.at_ T.mx.fn.bI T.mx.bd (ag (J 4) (ag (b3 c1 (J 3) (J 7) (λ _ _=>rfl)) (ag (J 8) az)))))
  (aH (bq 5 fs (bK e7 (J 5) (J 8)))
  (aJ (bq 6 fs (bK e7 (J 6) aM)))))))))))
  (aJ (bb (J 4)))))))),?_]
 refine #[b,xs,aw,Y,X,hf,M,λ l H1 ys fl s1 G r=>?_];have R:=lu aw;have B:=t4 hf;have vd:ys.length<=1000:=by rw [r.1,ry,<-hf.1];exact M
 refine (?_);refine rq (λ σ g=>∃ (f:Addr) (cur:bB) (d st:Nat) (u v:fX),σ=[some (.ref b),some (.ref a),some (.int m),some (.ref l),some (.ref f),some (.int d),some (.int st),u,v]/\ay H1 g/\g f=some (tupI cur)/\dW (rowsOf aw) ai m.toNat st d cur)
  (λ σ _=>m.toNat-D7 σ) #[a,ai,0,0,.n,.n,Y,ay.refl H1,s1 _ _ ak,.nil] ?_
 rintro σ g ⟨f,cur,d,st,u,v,rfl,s3,j,L⟩;obtain ⟨N2,Nw,Dn,gd⟩:=L.facts R O N;have D:=mm R O N gd;refine #[_,_,Y,Y,_,Y,c3 (λ h=>?_) (λ h=>?_)]
 ·have h0:=cD h;have C:d<m.toNat:=by omega
  refine s9 #[l,f,ys,rowsOf aw,cur,Y,s3 _ _ G,r.same s3,j,λ mG s4=>?_];cases n:cO (rowsOf aw) cur with
  | none =>
   exact absurd n (I st d cur L C).1
  | some k =>
   obtain ⟨c,af,_,hA⟩:=q6 n;obtain ⟨x,e,ae,rfl,he⟩:=(r.same s3).of af;have Z:=R c (b5 af);refine #[Y,_,Y,bE #[Y,_,Y,?_]];have aa:=(I st d cur L C).2;rw [bZ (λ z=>by injection z with z;omega)];refine bE ?_;refine #[l,f,ys,rowsOf aw,cur,c,k,Y,s4 _ _ (s3 _ _ G),(r.same s3).same s4,vd,s4 _ _ j,D.1,D.2,R,B,af,λ S o s5 aC gx=>?_];have t:=s4.trans s5;have dx:=t7 aC D.1 Z n (show 0<m.toNat-d by omega);have dS:=Am o (m.toNat-d);have aV:=dW.go L C .au n af aC;refine #[λ σ' H'=>σ'=[some (.ref b),some (.ref a),some (.int m),some (.ref l),some (.ref f),some (.int d),some (.int st),some (.int k),some (.int (gp o (m.toNat-d)))]/\S=H',?_,?_]
   ·have all:∀ {v:Int},v=(gp o (m.toNat-d))->[some (V.ref b),some (.ref a),some (.int m),some (.ref l),some (.ref f),some (.int d),some (.int st),some (.int k),some (.int v)]=[some (.ref b),some (.ref a),some (.int m),some (.ref l),some (.ref f),some (.int d),some (.int st),some (.int k),some (.int (gp o (m.toNat-d)))]:=λ e=>by rw [e]
    cases o with
    | none =>
     exact #[Y,_,Y,bk (bk #[_,_,Y,Y,all (by show m-d=(m.toNat-d:Nat);omega),Y])]
    | some i =>
     refine #[Y,_,Y,bE #[_,_,Y,Y,_,_,Y,Y,_,Y,c3 (λ h'=>?_) (λ h'=>?_)]]
     ·have yA:=cD h';exact #[_,_,Y,Y,all (by show m-d=((min i (m.toNat-d):Nat));omega),Y]
     ·have yA:¬ i>m-d:=λ z=>h' (bc z)
      exact #[all (by show (i:Int)=((min i (m.toNat-d):Nat):Int);omega),Y]
   rintro σ' H' ⟨rfl,rfl⟩;generalize gp o (m.toNat-d)=y at *;refine #[l,_,_,_,Y,Y,aS.of (t _ _ (s3 _ _ G)),eH (nS k) (by rw [gQ];exact ae),f,e,cur,c,(y:Int),Y,t _ _ j,t _ _ he,#[.au,.au],.au,λ p lA e1 sJ=>?_];refine #[_,_,Y,Y,_,_,Y,Y,#[p,bX cur c y,d+y,st+1,_,_,Y,(s3.trans t).trans e1,sJ,aV],?_];show m.toNat-((d:Int)+(y:Int)).toNat<m.toNat-((d:Int)).toNat;omega
 ·have h0:¬ (d:Int)<m:=λ z=>h (bc z)
  obtain rfl:d=m.toNat:=by omega
  exact (fc st cur L f g (s1.trans s3) j)
theorem Yu (T:a3 K mg):dB P w K mg base cn 1 T.BO T.BW ["self", "steps"] (AK T.dt "steps"):=by
 refine T.Tr.dO YH .bW λ a0 A outer s H vs Q E f h=>?_
 obtain ⟨e,t,v,rfl,he,q⟩:=h;refine #[_,(aJ (SO Y (J 0) (J 1) Y)),?_];obtain ⟨cd,a,b,c⟩:=T.kd.cls;refine #[e,T.dt,T.iZ,t,cd,Y,he,a,b,c,T.kd.eC.bD,T.kd.x7,?_,λ aE d=>q aE d];show PySem.W.takerIn K T.dt "steps" = some .n;unfold PySem.W.takerIn;rw [T.A_];rfl
inductive Hr (B4 rG:Addr):bG
 |mk {vs H Q E} (b a:Addr) (xs:bh) (aw:cN) (ai:bB) (m:Int):vs=[.ref b,.ref a,.int m]->H b=some (.tup xs)->f7 H xs aw->xs.length<=1000->H a=some (tupI ai)->ai.length=10->nn ai=.t->0<=m->m<2 ^ 62->(∀ st cur,dW (rowsOf aw) ai m.toNat st m.toNat cur->∀ aR H',ay H H'->H' aR=some (tupI cur)->Q (.ref aR) H')->(∀ st d cur,dW (rowsOf aw) ai m.toNat st d cur->d<m.toNat->cO (rowsOf aw) cur=.n->∀ aE H',ay H H'->H' aE=some (.hZ [("steps", .int d)])->E (.ref B4) (some aE) H')->(vw (rowsOf aw) ai m.toNat->∀ H',ay H H'->E (.ref rG) .n H')->Hr B4 rG vs H Q E
theorem Ug (T:a3 K mg):cb P w mg base (dY P w) 5 T.k6 (Hr T.dt T.dj):=by
 refine T.k6.fn.gh fs .bW λ a0 A outer s H vs Q E i h=>?_
 obtain ⟨b,a,xs,aw,ai,m,rfl,X,hf,M,ak,O,N,m0,r8,fc,ed,hB⟩:=h;refine #[_,(aH (bq 3 fs (bQ (BR T) i bT (ag (J 0) az)))
  (aH (bq 4 fs (J 1))
  (aH (bq 5 fs aM)
  (aH (bq 6 fs aM)
  (aH (ri PassesOwn.leaving (br kU (J 5) (J 2) (bp _))
   (aH (bq 7 fs (bQ (BF T) i bT (ag (J 3) (ag (J 4) az))))
  (aH (bM (br mq (J 7) d4 (bp _))
   (aJ (V_ fQ Y Y T.kd (Yu T) (i.mono .aB) T.Tp (by rfl) (ag (J 5) az)))
   bO)
  (aH (bM (br dE (J 6) (jB (by rfl) T.K8) (bp _))
   (aJ (fU fQ Y Y T.HK (by rfl) (ag aT az)))
   bO)
  (aH (bq 8 fs (bQ (Zd T) i bT (ag (J 3) (ag (J 4) (ag (J 7) az)))))
  (aH (zV (dw.pt (dP (br mq (J 8) d4 (bp _)) (e9 (br gM (J 8) (bK mu (J 2) (J 5)) (bp _)))))
   (aJ (bq 8 fs (bK mu (J 2) (J 5))))
   bO)
  (aH (bq 4 fs (bQ (A0 T) i bT (ag (J 4) (ag (b3 c1 (J 3) (J 7) (λ _ _=>rfl)) (ag (J 8) az)))))
  (aH (bq 5 fs (bK e7 (J 5) (J 8)))
  (aJ (bq 6 fs (bK e7 (J 6) aM)))))))))))
  (aJ (bb (J 4)))))))),?_]
 refine #[b,xs,aw,Y,X,hf,M,λ l H1 ys fl s1 I r=>?_];have R:=lu aw;have B:=t4 hf;have vd:ys.length<=1000:=by rw [r.1,ry,<-hf.1];exact M
 refine (?_);refine rq (λ σ j=>∃ (f:Addr) (cur:bB) (d st:Nat) (u v:fX),σ=[some (.ref b),some (.ref a),some (.int m),some (.ref l),some (.ref f),some (.int d),some (.int st),u,v]/\ay H1 j/\j f=some (tupI cur)/\dW (rowsOf aw) ai m.toNat st d cur)
  (λ σ _=>m.toNat-D7 σ) #[a,ai,0,0,.n,.n,Y,ay.refl H1,s1 _ _ ak,.nil] ?_
 rintro σ j ⟨f,cur,d,st,u,v,rfl,s3,q,L⟩;obtain ⟨N2,Nw,Dn,gd⟩:=L.facts R O N;have G:=mm R O N gd;refine #[_,_,Y,Y,_,Y,c3 (λ h=>?_) (λ h=>?_)]
 ·have h0:=cD h;have D:d<m.toNat:=by omega
  refine s9 #[l,f,ys,rowsOf aw,cur,Y,s3 _ _ I,r.same s3,q,λ S s4=>?_];cases g:cO (rowsOf aw) cur with
  | none =>
   refine #[Y,_,Y,bk #[_,Y,λ aE C s5 Ny=>?_]];exact ed st d cur L D g aE C (((s1.trans s3).trans s4).trans s5) Ny
  | some k =>
   obtain ⟨c,af,_,hA⟩:=q6 g;obtain ⟨x,e,ae,rfl,he⟩:=(r.same s3).of af;have Z:=R c (b5 af);refine #[Y,_,Y,bE #[Y,_,Y,?_]];by_cases aa:st=2000
   ·rw [bc (show V.int st=V.int 2000 by rw [aa];rfl)];subst aa;exact bk #[bF,hB #[d,cur,L,D,by rw [g];exact λ z=>nomatch z] S ((s1.trans s3).trans s4)]
   rw [bZ (λ z=>by injection z with z;omega)];refine bE ?_;refine #[l,f,ys,rowsOf aw,cur,c,k,Y,s4 _ _ (s3 _ _ I),(r.same s3).same s4,vd,s4 _ _ q,G.1,G.2,R,B,af,λ C o s5 aC gx=>?_];have t:=s4.trans s5;have dx:=t7 aC G.1 Z g (show 0<m.toNat-d by omega);have dS:=Am o (m.toNat-d);have aV:=dW.go L D .au g af aC;refine #[λ σ' H'=>σ'=[some (.ref b),some (.ref a),some (.int m),some (.ref l),some (.ref f),some (.int d),some (.int st),some (.int k),some (.int (gp o (m.toNat-d)))]/\C=H',?_,?_]
   ·have all:∀ {v:Int},v=(gp o (m.toNat-d))->[some (V.ref b),some (.ref a),some (.int m),some (.ref l),some (.ref f),some (.int d),some (.int st),some (.int k),some (.int v)]=[some (.ref b),some (.ref a),some (.int m),some (.ref l),some (.ref f),some (.int d),some (.int st),some (.int k),some (.int (gp o (m.toNat-d)))]:=λ e=>by rw [e]
    cases o with
    | none =>
     exact #[Y,_,Y,bk (bk #[_,_,Y,Y,all (by show m-d=(m.toNat-d:Nat);omega),Y])]
    | some n =>
     refine #[Y,_,Y,bE #[_,_,Y,Y,_,_,Y,Y,_,Y,c3 (λ h'=>?_) (λ h'=>?_)]]
     ·have yA:=cD h';exact #[_,_,Y,Y,all (by show m-d=((min n (m.toNat-d):Nat));omega),Y]
     ·have yA:¬ n>m-d:=λ z=>h' (bc z)
      exact #[all (by show (n:Int)=((min n (m.toNat-d):Nat):Int);omega),Y]
   rintro σ' H' ⟨rfl,rfl⟩;generalize gp o (m.toNat-d)=y at *;refine #[l,_,_,_,Y,Y,aS.of (t _ _ (s3 _ _ I)),eH (nS k) (by rw [gQ];exact ae),f,e,cur,c,(y:Int),Y,t _ _ q,t _ _ he,#[.au,.au],.au,λ p lA e1 sJ=>?_];refine #[_,_,Y,Y,_,_,Y,Y,#[p,bX cur c y,d+y,st+1,_,_,Y,(s3.trans t).trans e1,sJ,aV],?_];show m.toNat-((d:Int)+(y:Int)).toNat<m.toNat-((d:Int)).toNat;omega
 ·have h0:¬ (d:Int)<m:=λ z=>h (bc z)
  obtain rfl:d=m.toNat:=by omega
  exact (fc st cur L f j (s1.trans s3) q)
def Qs (T:a3 K mg) (H:aD) (b a:Addr) (aw:cN) (ai:bB) (m:Int):St->cL:=λ σ c d H1=>σ=[some (.ref b),some (.ref a),some (.int m),.n]/\ay H H1/\((c=.ref T.dt/\∃ (aE:Addr) (st n:Nat) (r:bB),d=some aE/\H1 aE=some (.hZ [("steps", .int n)])/\n<m.toNat/\dW (rowsOf aw) ai m.toNat st n r/\cO (rowsOf aw) r=.n)\/(c=.ref T.dj/\d=.n/\vw (rowsOf aw) ai m.toNat))
inductive I3 (rG:Addr):bG
 |mk {vs H Q E} (b a:Addr) (xs:bh) (aw:cN) (ai:bB) (m:Int):vs=[.ref b,.ref a,.int m]->H b=some (.tup xs)->f7 H xs aw->xs.length<=1000->H a=some (tupI ai)->ai.length=10->nn ai=.t->0<=m->m<2 ^ 62->(∀ k r t aR H',vv (rowsOf aw) ai m.toNat k r->ay H H'->H' t=some (.tup [.int k,.ref aR])->H' aR=some (tupI r)->Q (.ref t) H')->(vw (rowsOf aw) ai m.toNat->∀ H',ay H H'->E (.ref rG) .n H')->I3 rG vs H Q E
theorem WW (T:a3 K mg):cb P w mg base (dY P w) 7 T.HH (I3 T.dj):=by
 refine T.HH.fn.gh I0 .bW λ a0 A outer s H vs Q E D h=>?_
 obtain ⟨b,a,xs,aw,ai,m,rfl,y,hf,B,ak,j,g,m0,O,q,S⟩:=h;refine #[_,(aJ (SP (E:=(Qs T H b a aw ai m)) (i:=3) Y Y Y T.kd.at_ (WO T.kd) (T9 T.K9 T.kd.eC.be) Tn Y (by rfl) I0.dg Y Y (λ Z Z aV=>(aJ (bb (hp (ag (bS (Bc Y) T.tp tj (ag (J 2) (ag aM az))) (ag (Bq (Ug T) (D.mono .aB) Y aV Y T.k6.at_ T.k6.fn.bI T.k6.bd (ag (J 0) (ag (J 1) (ag (J 2) az)))) az))))))
   (λ Z=>(aJ (bb (hp (ag (Hc Y (J 3) (by rfl)) (ag (UP (Ud T) ((D.mark _).mono .aB) Y Y T.k6.at_ T.k6.fn.bI T.k6.bd (ag (J 0) (ag (J 1) (ag (Hc Y (J 3) (by rfl)) az)))) az)))))))),?_]
 have R:=lu aw;refine #[#[_,_,Y,b,a,xs,aw,ai,m,Y,y,hf,B,ak,j,g,m0,O,λ st r L aR H1 s1 k=>?_,λ st n r L ao x aE H' s' v=>#[Y,s',.inl #[Y,aE,st,n,r,Y,v,ao,L,x]],λ M H' s'=>#[Y,s',.inr #[Y,Y,M]]],?_]
 ·refine #[bF,λ t aq f2 s2 aG=>?_];refine q m.toNat r t aR aq #[st,L,.inl Y] (s1.trans s2) ?_ (s2 _ _ k);rw [aG];rw [if_neg .au,iR m0]
 ·rintro C d H1 σ1 ⟨rfl,s1,⟨u,aE,st,n,r,rfl,v,ao,L,x⟩|⟨u,rfl,M⟩⟩
  ·cases u;refine .inr #[Y,λ e he hσ=>?_];have s2:ay H1 (upd H1 e (l5 e T.dt (some aE))):=ay.new he;have hd2:=s2 _ _ v;have N:=s1.free he;refine #[e,T.dt,aE,_,_,Y,bN,hd2,T.kd.eC,T.kd.hd,T.A_,Y,e,T.dt,aE,_,_,Y,bN,hd2,T.kd.eC,T.kd.hd,T.A_,Y,#[_,_,bN],λ aq aa k2=>?_];have l:ay H aq:=λ c o p=>by
    have G:c≠e:=λ z=>by rw [z,N] at p;cases p
    rw [k2 c G,bC G];exact s1 _ _ p
   refine #[b,a,xs,aw,ai,n,Y,l _ _ y,hf.same l,B,l _ _ ak,j,g,.au,.au,λ cQ b4 aC f h'=>?_,λ cQ aC f aR X s3 k=>?_]
   ·rw [gQ] at f h';exact (L.again R j g ao f).1 h'
   ·rw [gQ] at f;rw [(L.again R j g ao f).2 (ei _)] at k;refine #[bF,λ t I f4 s4 aG=>?_];exact q n r t aR I #[st,L,.inr x] ((l.trans s3).trans s4) aG (s4 _ _ k)
  ·cases u;exact .inl #[Y,S M H1 s1]
end
theorem Xz:bootBuiltins "ValueError" = some (.type "ValueError"):=by decide +kernel
section
variable {P:Program} {w:World} {K:aP} {mg:Str->b_} {base:Heap}
noncomputable def Bj:bA:=["rest", "deed", "name", "number", "order", "powers", "program", "row", "text", "trail", "shared", "many"]
structure pv (T:a3 K mg) (C:Addr) (i:Nat):Prop where
 eC:PySem.W.gG K C
 uW:PySem.W.kitOne K (.ref C) (.type "ValueError")=some .t
 k0:PySem.W.kitOne K (.ref C) (.ref T.dt)=some (i==0)
 k1:PySem.W.kitOne K (.ref C) (.ref T.dN)=some (i==1)
 k2:PySem.W.kitOne K (.ref C) (.ref T.c4)=some (i==2)
 k3:PySem.W.kitOne K (.ref C) (.ref T.kj)=some (i==3)
 lG:PySem.W.kitOne K (.ref C) (.ref T.kh)=some (i==4)
 k5:PySem.W.kitOne K (.ref C) (.ref T.ek)=some (i==5)
 oq:PySem.W.kitOne K (.ref C) (.ref T.dV)=some (i==6)
 r4:PySem.W.kitOne K (.ref C) (.ref T.df)=some (i==7)
 L8:PySem.W.kitOne K (.ref C) (.ref T.du)=some (i==8)
 L9:PySem.W.kitOne K (.ref C) (.ref T.ki)=some (i==9)
 Og:PySem.W.kitOne K (.ref C) (.ref T.ke)=some (i==10)
 Oh:PySem.W.kitOne K (.ref C) (.ref T.dj)=some (i==11)
noncomputable abbrev tH (i:Nat):List Bool:=[i==0,i==1,i==2,i==3,i==4,i==5,i==6,i==7,i==8,i==9,i==10,i==11]
theorem X1:∀ i,i<12->(tH i).count .t=1:=by decide
theorem Wm:∀ i,i<12->(tH i)[i]?=some .t:=by decide
theorem X0:∀ i,i<12->∀ m,m<i->(tH i)[m]?=some (!.t):=by decide
inductive J8 (T:a3 K mg):bG
 |mk {vs H Q E} (e C:Addr) (i:Nat) (x:Str):vs=[.ref e]->H e=some (vp e C)->pv T C i->i<12->Bj[i]?=some x->(∀ H',ay H H'->Q (.str x) H')->J8 T vs H Q E
theorem X7 (T:a3 K mg):zr P w K mg base 1 T.rA.f T.rA.fd ["e"] (J8 T):=by
 refine T.rA.fn.OH rD .bW λ a0 A outer s H vs Q E gy h=>?_
 obtain ⟨e,C,i,x,rfl,he,k,ar,ae,q⟩:=h;refine #[_,(aH (bq 1 rD (d5 (ag (bS iy T.eN eM (ag (J 0) (ag (fT (v:=.ref T.dt) (by rfl) T.GS Y) az))) (ag (bS iy T.eN eM (ag (J 0) (ag (fT (v:=.ref T.dN) (by rfl) T.TZ Y) az))) (ag (bS iy T.eN eM (ag (J 0) (ag (fT (v:=.ref T.c4) (by rfl) T.T1 Y) az))) (ag (bS iy T.eN eM (ag (J 0) (ag (fT (v:=.ref T.kj) (by rfl) T.WE Y) az))) az))))))
  (aH (bq 1 rD (bK jA (J 1) (d5 (ag (bS iy T.eN eM (ag (J 0) (ag (fT (v:=.ref T.kh) (by rfl) T.VG Y) az))) (ag (bS iy T.eN eM (ag (J 0) (ag (fT (v:=.ref T.ek) (by rfl) T.WG Y) az))) (ag (bS iy T.eN eM (ag (J 0) (ag (fT (v:=.ref T.dV) (by rfl) T.Xk Y) az))) (ag (bS iy T.eN eM (ag (J 0) (ag (fT (v:=.ref T.df) (by rfl) T.RU Y) az))) az)))))))
  (aH (bq 1 rD (bK jA (J 1) (d5 (ag (bS iy T.eN eM (ag (J 0) (ag (fT (v:=.ref T.du) (by rfl) T.AY Y) az))) (ag (bS iy T.eN eM (ag (J 0) (ag (fT (v:=.ref T.ki) (by rfl) T.VH Y) az))) (ag (bS iy T.eN eM (ag (J 0) (ag (fT (v:=.ref T.ke) (by rfl) T.T2 Y) az))) (ag (bS iy T.eN eM (ag (J 0) (ag (fT (v:=.ref T.dj) (by rfl) T.VI Y) az))) az)))))))
  (aH (bM (dw.pt (dP (br gN (eE nU PySem.F.slot_list_count PySem.F.type_list_count VT (J 1) (ag hg az)) aM (bp _)) (e9 (e8 (eI (bS iy T.eN eM (ag (J 0) (ag (jj (by rfl) T.XH Xz) az))))))))
   (aJ (bb aT))
   bO)
  (aH (bq 2 rD (d5 (ag aT (ag aT (ag aT (ag aT (ag aT (ag aT (ag aT (ag aT az))))))))))
  (aH (bq 2 rD (bK jA (J 2) (d5 (ag aT (ag aT (ag aT (ag aT az)))))))
  (aJ (bb (b3 c1 (J 2) (eE nU PySem.F.slot_list_index PySem.F.type_list_index VU (J 1) (ag hg az)) (λ _ _=>rfl)))))))))),?_]
 have eC:=k.eC;refine #[e,C,_,_,_,Y,he,Y,eC,k.k0,e,C,_,_,_,Y,he,Y,eC,k.k1,e,C,_,_,_,Y,he,Y,eC,k.k2,e,C,_,_,_,Y,he,Y,eC,k.k3,bF,λ I H1 f1 s1 r=>?_];have a:=s1 _ _ he;refine #[e,C,_,_,_,Y,a,Y,eC,k.lG,e,C,_,_,_,Y,a,Y,eC,k.k5,e,C,_,_,_,Y,a,Y,eC,k.oq,e,C,_,_,_,Y,a,Y,eC,k.r4,bF,λ aC aq f2 s2 t=>#[I,aC,_,_,Y,Y,s2 _ _ r,t,bF,λ L S iB s3 u=>?_]];have b:=s3 _ _ (s2 _ _ a);refine #[e,C,_,_,_,Y,b,Y,eC,k.L8,e,C,_,_,_,Y,b,Y,eC,k.L9,e,C,_,_,_,Y,b,Y,eC,k.Og,e,C,_,_,_,Y,b,Y,eC,k.Oh,bF,λ M aV f4 s4 y=>#[L,M,_,_,Y,Y,s4 _ _ u,y,bF,λ j X oo s5 z=>?_]];have p:=s5 _ _ (s4 _ _ b);have c:=z;refine #[.inl #[Y,_,aS.of c],j,tH i,.t,Y,Y,c,Y,_,Y,P6 (by rw [X1 i ar];rfl) ?_];refine #[e,C,_,_,_,Y,p,Y,eC,k.uW,_,Y,bE ?_];refine #[bF,λ N Z rU l B=>?_];refine #[bF,λ O fa LR d D=>#[N,O,_,_,Y,Y,d _ _ B,D,bF,λ R n f8 m G=>?_]];have g:=m _ _ (d _ _ (l _ _ c));have hw:=G;have o:(Bj.map V.str)[i]?=some (.str x):=by rw [et,ae];rfl
 exact #[.inl #[Y,_,aS.of g],j,tH i,.t,i,Y,Y,g,Wm i ar,X0 i ar,(by show 12<=1000;decide),R,_,_,_,Y,Y,aS.of hw,FN o,q n (((((((s1.trans s2).trans s3).trans s4).trans s5).trans l).trans d).trans m)]
end
noncomputable def nr (c:Nat):Bool:=decide (97<=c/\c<=122)
theorem lets (c):decide (c∈(("abcdefghijklmnopqrstuvwxyz" : String):Str).cps.toList)=nr c:=by
 have e:(("abcdefghijklmnopqrstuvwxyz"):Str).cps.toList=List.range' 97 26:=by decide +kernel
 rw [e];exact wt.mpr (List.mem_range'_1.trans #[λ h=>#[h.1,.au],λ h=>#[h.1,.au]])
theorem wM (x) (t):(((List.range x.cps.size).map λ i=>t (x.cps.getD i 0)).all id)=(ba x).all t:=by
 have e:ba x=(List.range x.cps.size).map λ i=>x.cps.getD i 0:=by
  apply qY;intro i;rcases lj i x.cps.size with h|h
  ·rw [et,List.getElem?_range h];simp [ba,h]
  ·rw [jw (by rw [e6];exact h),jw (by rw [bz,jv];exact h)]
 rw [e,nV,nV];rfl
section
variable {P:Program} {w:World} {K:aP} {mg:Str->b_} {base:Heap}
noncomputable def mf:V->Bool
 | .int i=>dT i
 | _=>.f
def W8:bG:=λ vs H Q Z=>∃ v,vs=[v]/\dh H v/\Q (.aO (mf v)) H
theorem IK (T:a3 K mg):cb P w mg base cn 2 T.HJ W8:=by
 refine T.HJ.fn.dO W5 .bW λ a0 A outer s H vs Q E a h=>?_
 obtain ⟨v,rfl,k,q⟩:=h;refine #[_,(aH (bM (dw.pt (dP (e8 (eI (bQ (Jl T) a bT (ag (J 0) az)))) (dP (br kU (J 0) aM (bp _)) (e9 (br gM (J 0) (jB (by rfl) T.Xj) (bp _))))))
   (aJ (bb hg))
   bO)
  (aJ (bb (hn dE (bQ (Zu T) a bT (ag (J 0) az)) aM (bp _))))),?_]
 refine #[v,Y,k,_,Y,?_];cases hw:sS v with
 | false =>
  refine bk (bk ?_);have e:mf v=.f:=by cases v<;>first|rfl|cases hw
  rw [e] at q;exact q
 | true =>
  obtain ⟨i,rfl⟩:=F0 hw;refine bE #[_,_,Y,Y,_,Y,c3 (λ h=>?_) (λ h=>#[_,_,Y,Y,_,Y,c3 (λ h'=>?_) (λ h'=>?_)])]
  ·have U:=cD h;have e:mf (.int i)=.f:=by
    show (decide (1<=i)&&decide (i<=1000000000000)&&decide (gv i.toNat=1))=.f;rw [bZ (by omega:¬ 1<=i)];rfl
   rw [e] at q;exact bk q
  ·have U:=cD h';have e:mf (.int i)=.f:=by
    show (decide (1<=i)&&decide (i<=1000000000000)&&decide (gv i.toNat=1))=.f;rw [bZ (by omega:¬ i<=1000000000000),jx];rfl
   rw [e] at q;exact q
  ·have U:¬ i<1:=λ z=>h (bc z)
   have aa:¬ 1000000000000<i:=λ z=>h' (bc z)
   refine #[i,Y,.au,Y,?_];have e:mf (.int i)=decide (V.int (gv i.toNat)=V.int 1):=by
    show (decide (1<=i)&&decide (i<=1000000000000)&&decide (gv i.toNat=1))=_;rw [bc (by omega:1<=i),bc (by omega:i<=1000000000000),Bool.and_self,q3];by_cases z:gv i.toNat=1
    ·rw [z];rfl
    ·rw [bZ z,bZ];intro y;injection y with y;omega
   rw [e] at q;exact q
noncomputable def fk (H:aD) (v:V):Bool:=match eT H v with
 | some [.int i,.int j]=>d1 i j
 | _=>.f
theorem Wu (i j:Nat):((eL.map λ v=>match v with| .int p=>V.aO ((!decide (V.int ((i:Int)%p)=V.int 0)) || !decide (V.int ((j:Int)%p)=V.int 0))|v=>v))=(dp.map λ p=>(i%p != 0||j%p != 0)).map V.aO:=by
 have e:∀ (a p:Nat),(!decide (V.int (a%p)=V.int 0))=(a%p != 0):=by
  intro a p;by_cases z:a%p=0
  ·have:a%(p:Int)=0:=by omega
   rw [this,z];rfl
  ·have:a%(p:Int)≠0:=by omega
   rw [bZ (λ y=>this (by injection y))];have:(a%p != 0)=.t:=by simpa using z
   rw [this];rfl
 have b:eL=dp.map λ p=>V.int ((p:Nat):Int):=rfl
 rw [b,gS,gS];refine qT λ p Z=>?_
 show V.aO ((!decide (V.int ((i:Int)%(p:Int))=V.int 0)) || !decide (V.int ((j:Int)%(p:Int))=V.int 0))=V.aO (i%p != 0||j%p != 0);rw [e,e]
def YI:bG:=λ vs H Q Z=>∃ v,vs=[v]/\hI H v/\∀ H',ay H H'->Q (.aO (fk H v)) H'
set_option tactic.hygienic true in
theorem Yv (T:a3 K mg):cb P w mg base cn 3 T.Ka YI:=by
 refine T.Ka.fn.dO xq .bW λ a0 A outer s H vs Q E B h=>?_
 obtain ⟨v,rfl,⟨k,bI⟩,q⟩:=h;refine #[_,(aH (bM (dw.pt (dP (e8 (eI (bS kf T.eN eM (ag (J 0) (ag (jj (by rfl) T.jz jy) az))))) (e9 (br gN (bS eY T.dI dH (ag (J 0) az)) aM (bp _)))))
   (aJ (bb hg))
   bO)
  (aH (tE (i:=1) xq.dg Y (Or.inr Y) (b3 fP (J 0) aM (λ _ _=>rfl)))
  (aH (tE (i:=2) xq.dg Y (Or.inr Y) (b3 fP (J 0) aM (λ _ _=>rfl)))
  (aH (bM (dw.pt (dP (e8 (eI (bQ (IK T) B bT (ag (J 1) az)))) (e9 (e8 (eI (bQ (IK T) B bT (ag (J 2) az)))))))
   (aJ (bb hg))
   bO)
  (aJ (bb (bS (rd Y) T.qC qx (ag (gs (eg xq (N:=["prime", "top", "bottom"]) (js:=[.n,some 1,some 2]) (lg.mpr #[Y,(lg.mpr #[Y,(eX _)])])) Y (nM (fT (v:=.ref T.gV) (by rfl) T.pQ Y)) (λ _ _ _ _=>e5) (λ _ _ _ _=>gu)
    (λ _ _ _ _=>(EV (hn gN (bK mr (J 1) (J 0)) aM (bp _)) (qN (hn gN (bK mr (J 2) (J 0)) aM (bp _)))))) az)))))))),?_]
 obtain ⟨t,ty,e⟩:=zw (K:=K) k;refine #[v, "tuple", t,_,Y,ty,e,_,Y,?_];cases c:eT H v with
 | none =>
  refine bk (bk ?_);have aR:=q H (ay.refl H);rw [show fk H v=.f by unfold fk;rw [c]] at aR;exact aR
 | some xs =>
  obtain ⟨a,rfl,ak⟩:=wX c;obtain ⟨aV,u⟩:=bI xs c;refine bE #[a,xs,Y,.inr (aX.of ak),Y,_,Y,c3 (λ h=>?_) (λ h=>?_)]
  ·have aR:=q H (ay.refl H);have g:xs.length≠2:=λ z=>by
    rw [z] at h;exact absurd h .aB
   rw [show fk H (.ref a)=.f by
    unfold fk;rw [c];split
    ·rename_i i j z;cases z;exact absurd rfl g
    ·rfl] at aR
   exact aR
  ·have g:xs.length=2:=by
    have h':decide (V.int (xs.length:Int)=V.int 2)=.t:=by
     cases z:decide (V.int (xs.length:Int)=V.int 2) with
     | true=>rfl
     | false=>rw [z] at h;exact absurd rfl h
    have:=q7 h';omega
   obtain ⟨x,y,rfl⟩:=vY g
   ·have M:dh H x:=u x .zs;have O:dh H y:=u y .zs;refine #[a,_,_,x,Y,Y,aX.of ak,Y,?_];refine #[a,_,_,y,Y,Y,aX.of ak,Y,?_];have n:∀ {b:Bool},mf x=.f\/mf y=.f->fk H (.ref a)=.f:=by
     intro _ z;unfold fk;rw [c];split
     ·rename_i i j S;cases S;show (dT i&&dT j&&my i.toNat j.toNat)=.f;rcases z with z|z
      ·rw [show dT i=.f from z];rfl
      ·rw [show dT j=.f from z,jx];rfl
     ·rfl
    refine #[x,Y,M,_,Y,?_];cases m:mf x with
    | false =>
     refine bk (bk ?_);have aR:=q H (ay.refl H);rw [n (b:=.t) (.inl m)] at aR;exact aR
    | true =>
     refine bE #[y,Y,O,_,Y,?_];cases l:mf y with
     | false =>
      refine bk ?_;have aR:=q H (ay.refl H);rw [n (b:=.t) (.inr l)] at aR;exact aR
     | true =>
      refine bE ?_;obtain ⟨i,rfl⟩:∃ i,x=.int i:=by cases x<;>first|exact #[_,Y]|cases m
      obtain ⟨j,rfl⟩:∃ j,y=.int j:=by cases y<;>first|exact #[_,Y]|cases l
      have ox:dT i=.t:=m;have iG:dT j=.t:=l;have mR:1<=i:=by
       unfold dT at ox;simp only [eJ,iT] at ox;exact ox.1.1
      have ct:1<=j:=by
       unfold dT at iG;simp only [eJ,iT] at iG;exact iG.1.1
      refine #[T.gV,Y,#[eL,T.jC H],λ D o=>JK (xs:=eL) (f:=λ v=>match v with| .int p=>V.aO ((!decide (V.int ((i.toNat:Int)%p)=V.int 0)) || !decide (V.int ((j.toNat:Int)%p)=V.int 0))|v=>v) Y .aB o (T.jC H) ?_ ?_]
      ·intro x H' R ae r;obtain ⟨z,L⟩:=hR ae;obtain ⟨p,rfl,ah,Z⟩:=xh L;have X:2<=p:=jq p (b5 ah);have I:((i.toNat:Nat):Int)=i:=iR .au;have aC:((j.toNat:Nat):Int)=j:=iR .au;have d:R (V.aO ((!decide (V.int (i%(p:Int))=V.int 0)) || !decide (V.int (j%(p:Int))=V.int 0))) H':=by
        have C:R (V.aO ((!decide (V.int ((i.toNat:Int)%(p:Int))=V.int 0)) || !decide (V.int ((j.toNat:Int)%(p:Int))=V.int 0))) H':=r;rw [I,aC] at C;exact C
       refine #[_,_,Y,Y,(by show (0:Int)<p;omega),Y,_,Y,?_];cases z:decide (V.int (i%(p:Int))=V.int 0) with
       | false =>
        rw [z] at d;exact bk d
       | true =>
        rw [z] at d;exact bE #[_,_,Y,Y,(by show (0:Int)<p;omega),Y,d]
      ·rw [Wu];refine #[D,_,Y,aS.of bN,?_];have G:fk H (.ref a)=(dp.map λ p=>(i.toNat%p != 0||j.toNat%p != 0)).all id:=by
        unfold fk;rw [c];show (dT i&&dT j&&my i.toNat j.toNat)=_;rw [ox,iG,Bool.and_self,q3];rw [nV];rfl
       rw [G] at q;exact q _ (ay.new o)
theorem ay.eT (s:ay H H') (k:dh H v):bV.eT H' v=bV.eT H v:=(jg.of s).eT k
theorem ay.hI (s:ay H H') (k:bV.hI H v):bV.hI H' v:=(jg.of s).hI k
theorem ay.fk (s:ay H H') (k:dh H v):bV.fk H' v=bV.fk H v:=by
 unfold bV.fk;rw [ay.eT s k]
noncomputable def me (H:aD) (v:V):Bool:=match eT H v with
 | some xs=>decide (1<=xs.length)&&decide (xs.length<=16)&&xs.all (fk H)
 | none=>.f
def Yl:bG:=λ vs H Q Z=>∃ v,vs=[v]/\vn H v/\∀ H',ay H H'->Q (.aO (me H v)) H'
theorem Kl (T:a3 K mg):cb P w mg base cn 4 T.JG Yl:=by
 refine T.JG.fn.dO Kx .bW λ a0 A outer s H vs Q E l h=>?_
 obtain ⟨v,rfl,⟨k,bI⟩,q⟩:=h;refine #[_,(aH (bM (dw.pt (dP (e8 (eI (bS kf T.eN eM (ag (J 0) (ag (jj (by rfl) T.jz jy) az))))) (dP (br kU (bS eY T.dI dH (ag (J 0) az)) aM (bp _)) (e9 (br gM (bS eY T.dI dH (ag (J 0) az)) (jB (by rfl) T.Y_) (bp _))))))
   (aJ (bb hg))
   bO)
  (aJ (bb (bS (rd Y) T.qC qx (ag (gs (eg Kx (N:=["part"]) (js:=[.n]) (eX _)) Y (nM (J 0)) (λ Z Z Z Z=>e5) (λ Z Z Z Z=>gu)
    (λ Z Z Z Z=>(bQ (Yv T) l bT (ag (J 0) az)))) az))))),?_]
 obtain ⟨t,ty,e⟩:=zw k;refine #[v, "tuple", t,_,Y,ty,e,_,Y,?_];cases c:eT H v with
 | none =>
  refine bk (bk ?_);have aR:=q H (ay.refl H);rw [show me H v=.f by unfold me;rw [c]] at aR;exact aR
 | some xs =>
  obtain ⟨a,rfl,ak⟩:=wX c;obtain ⟨y,j⟩:=bI xs c;have dX:me H (.ref a)=(decide (1<=xs.length)&&decide (xs.length<=16)&&xs.all (fk H)):=by unfold me;rw [c]
  refine bE #[a,xs,Y,.inr (aX.of ak),_,_,Y,Y,_,Y,c3 (λ h=>?_) (λ h=>#[a,xs,Y,.inr (aX.of ak),_,_,Y,Y,_,Y,c3 (λ h'=>?_) (λ h'=>?_)])]
  ·have U:=cD h;have aR:=q H (ay.refl H);rw [dX,bZ (by omega:¬ 1<=xs.length)] at aR;exact bk aR
  ·have U:=cD h';have aR:=q H (ay.refl H);rw [dX,bZ (by omega:¬ xs.length<=16),jx] at aR;exact aR
  ·have U:¬ (xs.length:Int)<1:=λ z=>h (bc z)
   have aa:¬ (16:Int)<xs.length:=λ z=>h' (bc z)
   refine #[a,Y,#[_,aX.of ak],λ D g=>wV (by rw [b7];omega) (λ i σ' H' ys=>(∃ u,σ'=[u])/\ay H H'/\ys=((xs.take i).map (fk H)).map V.aO) #[#[_,Y],ay.new g,Y] (λ i σ' H' ys _ _ ⟨_,s',_⟩=>aX.of (s' _ _ ak)) ?_ ?_]
   ·rintro i x σ' H' ys R ae d m ⟨⟨u,rfl⟩,s',rfl⟩ n;obtain ⟨p,_⟩:=id (j x (b5 ae));refine #[x,Y,ay.hI s' (j x (b5 ae)),λ r s4=>n _ _ _ (s4 _ _ d) #[#[_,Y],?_,?_]]
    ·intro b o f;rw [bC (cq f g)];exact s4 _ _ (s' _ _ f)
    ·rw [ay.fk s' p,xo ae,hl];rfl
   ·rintro σ' H' ys d m ⟨_,s',rfl⟩;refine #[D,_,Y,aS.of d,?_];have aR:=q H' s';rw [dX,bc (by omega:1<=xs.length),bc (by omega:xs.length<=16),Bool.and_self,q3] at aR;rw [ju,nV];exact aR
noncomputable def iL:V->Bool
 | .int i=>decide (0<=i)
 | _=>.f
noncomputable def jX (H:aD) (v:V):Bool:=match eT H v with
 | some xs=>decide (xs.length=10)&&xs.all iL
 | none=>.f
def XU:bG:=λ vs H Q Z=>∃ v,vs=[v]/\hI H v/\∀ H',ay H H'->Q (.aO (jX H v)) H'
theorem XK (T:a3 K mg):cb P w mg base cn 2 T.I5 XU:=by
 refine T.I5.fn.dO J4 .bW λ a0 A outer s H vs Q E l h=>?_
 obtain ⟨v,rfl,⟨k,bI⟩,q⟩:=h;refine #[_,(aH (bM (dw.pt (dP (e8 (eI (bS kf T.eN eM (ag (J 0) (ag (jj (by rfl) T.jz jy) az))))) (e9 (br gN (bS eY T.dI dH (ag (J 0) az)) (bS eY T.dI dH (ag (fT (v:=.ref T.gV) (by rfl) T.pQ Y) az)) (bp _)))))
   (aJ (bb hg))
   bO)
  (aJ (bb (bS (rd Y) T.qC qx (ag (gs (eg J4 (N:=["part"]) (js:=[.n]) (eX _)) Y (nM (J 0)) (λ Z Z Z Z=>e5) (λ Z Z Z Z=>gu)
    (λ Z Z Z Z=>(vS (bQ (Jl T) l bT (ag (J 0) az)) (qN (hn vE (J 0) aM (bp _)))))) az))))),?_]
 obtain ⟨t,ty,e⟩:=zw k;refine #[v, "tuple", t,_,Y,ty,e,_,Y,?_];cases c:eT H v with
 | none =>
  refine bk (bk ?_);have aR:=q H (ay.refl H);rw [show jX H v=.f by unfold jX;rw [c]] at aR;exact aR
 | some xs =>
  obtain ⟨a,rfl,ak⟩:=wX c;obtain ⟨m,j⟩:=bI xs c;have dX:jX H (.ref a)=(decide (xs.length=10)&&xs.all iL):=by unfold jX;rw [c]
  refine bE #[a,xs,Y,.inr (aX.of ak),T.gV,_,Y,.inr (T.jC H),Y,_,Y,c3 (λ h=>?_) (λ h=>?_)]
  ·have b:xs.length≠10:=λ z=>by
    rw [z] at h;exact absurd h .aB
   have aR:=q H (ay.refl H);rw [dX,bZ b] at aR;exact aR
  ·have b:xs.length=10:=by
    have h':decide (V.int (xs.length)=V.int 10)=.t:=by
     cases z:decide (V.int (xs.length)=V.int 10) with
     | true=>rfl
     | false=>exact absurd (show (!decide (V.int (xs.length)=V.int 10))=.t by rw [z];rfl) h
    have:=q7 h';omega
   refine #[a,Y,#[_,aX.of ak],λ D d=>Kf (f:=λ v=>.aO (iL v)) Y (by rw [b];decide) d (aX.of ak) ?_ #[D,xs.map iL,Y,?_,?_]]
   ·intro x H' R s' ae r;refine #[x,Y,ay.kind s' (j x ae),_,Y,?_];cases hw:sS x with
    | false =>
     refine bE ?_;have i:iL x=.f:=by cases x<;>first|rfl|cases hw
     have g:=r;rw [i] at g;exact g
    | true =>
     obtain ⟨n,rfl⟩:=F0 hw;exact bk #[_,_,Y,Y,r]
   ·rw [gS];exact aS.of bN
   ·have aR:=q _ (ay.new (o:=.lst (xs.map λ v=>V.aO (iL v))) d);rw [dX,bc b,q3] at aR;rw [nV];exact aR
noncomputable def hb:V->Bool
 | .str x=>decide (1<=x.length)&&decide (x.length<=8)&&(ba x).all nr
 | _=>.f
def CQ (H:aD) (v:V):Prop:=dh H v/\∀ x,v=.str x->bP x/\x.length<=1000
def Xu:bG:=λ vs H Q Z=>∃ v,vs=[v]/\CQ H v/\∀ H',ay H H'->Q (.aO (hb v)) H'
theorem WX (T:a3 K mg):cb P w mg base cn 1 T.HI Xu:=by
 refine T.HI.fn.dO I1 .bW λ a0 A outer s H vs Q E l h=>?_
 obtain ⟨v,rfl,⟨k,ae⟩,q⟩:=h;refine #[_,(aH (bM (dw.pt (dP (e8 (eI (bS kf T.eN eM (ag (J 0) (ag (jj (by rfl) T.nu nq) az))))) (dP (br kU (bS n7 T.dI dH (ag (J 0) az)) aM (bp _)) (e9 (br gM (bS n7 T.dI dH (ag (J 0) az)) (jB (by rfl) T.Yq) (bp _))))))
   (aJ (bb hg))
   bO)
  (aJ (bb (bS (rd Y) T.qC qx (ag (gs (eg I1 (N:=["sign"]) (js:=[.n]) (eX _)) Y (vT (J 0)) (λ Z Z Z Z=>e5) (λ Z Z Z Z=>gu)
    (λ Z Z Z Z=>(hn Bp (J 0) (A4 (by rfl) T.VD) (by with_unfolding_all rfl)))) az))))),?_]
 obtain ⟨t,ty,e⟩:=qz k;refine #[v, "str", t,_,Y,ty,e,_,Y,?_];cases av:oO v with
 | false =>
  have aR:=q H (ay.refl H);rw [show hb v=.f by cases v<;>first|rfl|cases av] at aR;exact bk (bk aR)
 | true =>
  obtain ⟨x,rfl⟩:∃ x,v=.str x:=by cases v<;>first|exact #[_,Y]|cases av
  obtain ⟨ak,j⟩:=ae x rfl;have a:x.length<=sizeLine:=by rw [b7];omega
  refine bE #[_,Y,a,_,_,Y,Y,_,Y,c3 (λ h=>?_) (λ h=>?_)]
  ·have h0:=cD h;have aR:=q H (ay.refl H);rw [show hb (.str x)=.f by show (decide _&&decide _&&_)=.f;rw [bZ (by omega:¬ 1<=x.length)];rfl] at aR;exact bk aR
  have h0:¬ (x.length:Int)<1:=λ z=>h (bc z)
  refine #[_,Y,a,_,_,Y,Y,_,Y,c3 (λ h'=>?_) (λ h'=>?_)]
  ·have U:=cD h';have aR:=q H (ay.refl H);rw [show hb (.str x)=.f by show (decide _&&decide _&&_)=.f;rw [bZ (by omega:¬ x.length<=8),jx];rfl] at aR;exact aR
  have U:¬ (x.length:Int)>8:=λ z=>h' (bc z)
  refine #[_,Y,ak.all,λ D g=>w1 (f:=λ i=>V.aO (nr (x.cps.getD i 0))) (by exact a) #[_,Y] g (λ i c H' R s' af r=>r H' (ay.refl _)) (λ i c H' R s' af aG r=>?_) λ H1 s1 b=>?_]
  ·have e:x.cps.getD i 0=c:=by rw [tW,af];rfl
   have d:=r H' (ay.refl _);rw [e] at d;refine #[_,_,Y,Y,?_];rw [show (⟨[c].toArray⟩)=aL c from rfl,StrLaws.found_one,lets];exact d
  ·have e:(((List.range x.cps.size).filter λ Z=>.t).map λ i=>V.aO (nr (x.cps.getD i 0)))=((List.range x.cps.size).map λ i=>nr (x.cps.getD i 0)).map V.aO:=by
    rw [List.filter_eq_self.mpr (λ Z Z=>rfl),gS];rfl
   rw [e] at b;refine #[D,_,Y,aS.of b,?_];rw [wM];have aR:=q H1 s1;rw [show hb (.str x)=(ba x).all nr by show (decide _&&decide _&&_)=_;rw [bc (by omega:1<=x.length),bc (by omega:x.length<=8)];rfl] at aR;exact aR
structure eO (T:a3 K mg) (H:aD) (bn pr hd dl:Addr) (kvs:List (Key×V)) (ds:bh):Prop where
 at_:∃ aE,H bn=some (.ins T.fR aE [("program", .ref pr),("held", .ref hd),("deeds", .ref dl)])
 hd:H hd=some (.cM kvs)
 dl:H dl=some (.lst ds)
theorem eO.same {T:a3 K mg} {hd dl:Addr} (b:eO T H bn pr hd dl kvs ds) (s:ay H H'):eO T H' bn pr hd dl kvs ds :=
 #[let ⟨aE,h⟩:=b.at_;⟨aE,s _ _ h⟩,s _ _ b.hd,s _ _ b.dl]
noncomputable def vB (kvs:List (Key×V)) (x:Str):V->List (Key×V)
 | .aQ=>mb kvs (b0 x)
 | w=>putK kvs (b0 x) w
def g4 (a b:Addr) (H H':aD):Prop:=∀ c o,c≠a->c≠b->H c=some o->H' c=some o
inductive Gn (T:a3 K mg):bG
 |mk {vs H Q E} (bn pr hd dl:Addr) (kvs:List (Key×V)) (ds:bh) (x:Str) (w:V):vs=[.ref bn,.str x,w]->eO T H bn pr hd dl kvs ds->kvs.length<=100->((w=.aQ/\∃ v,bU kvs (b0 x)=some v)\/∃ t,w=.ref t)->(∀ H',cB hd H H'->H' hd=some (.cM (vB kvs x w))->Q .aQ H')->Gn T vs H Q E
theorem Kj (T:a3 K mg):cb P w mg base cn 1 T.rB (Gn T):=by
 refine T.rB.fn.dO Yi .bW λ a0 A outer s H vs Q E c h=>?_
 obtain ⟨bn,pr,hd,dl,kvs,ds,x,w,rfl,B,d,hw,q⟩:=h;refine #[_,(aJ (bM (br mq (J 2) d4 (bp _))
   (aJ (gU (eE wq PySem.F.slot_dict_pop PySem.F.type_dict_pop Ub (hj (J 0) (by rfl)) (ag (J 1) az))))
   (aJ (UY (il c) (hj (J 0) (by rfl)) (J 1) (J 2) Y)))),?_]
 obtain ⟨aE,b⟩:=B.at_;rcases hw with ⟨rfl,v,aI⟩|⟨t,rfl⟩
 ·refine #[Y,_,Y,bk #[bn,_,aE,_,_,Y,b,T.dM,T.mD,Y,?_,hd,x,kvs,v,Y,Y,B.hd,aI,λ H' a h'=>q H' a h']];exact .inr (.inr (.inl #[Y,.inl #[kvs,B.hd]]))
 ·refine #[Y,_,Y,bE #[bn,_,aE,_,_,Y,b,T.dM,T.mD,Y,hd,x,kvs,Y,Y,B.hd,by rw [b7];omega,λ H' a h'=>q H' a h']]
inductive Gk (T:a3 K mg):bG
 |mk {vs H Q E} (bn pr hd dl:Addr) (kvs:List (Key×V)) (ds:bh) (x:Str) (w:V):vs=[.ref bn,.str x,w]->eO T H bn pr hd dl kvs ds->kvs.length<=100->ds.length<=1000->((w=.aQ/\∃ v,bU kvs (b0 x)=some v)\/∃ t,w=.ref t)->(∀ t H',g4 hd dl H H'->H' t=some (.tup [.str x,(bU kvs (b0 x)).getD .aQ])->eO T H' bn pr hd dl (vB kvs x w) (ds++[.ref t])->Q .aQ H')->Gk T vs H Q E
theorem BQ (T:a3 K mg):cb P w mg base cn 2 T.n6 (Gk T):=by
 refine T.n6.fn.dO Yf .bW λ a0 A outer s H vs Q E n h=>?_
 obtain ⟨bn,pr,hd,dl,kvs,ds,x,w,rfl,B,m,D,hw,q⟩:=h;refine #[_,(aH (gU (eE nU tU tV xa (hj (J 0) (by rfl)) (ag (hp (ag (J 1) (ag (eE wq qW Ai Ua (hj (J 0) (by rfl)) (ag (J 1) az)) az))) az)))
  (aJ (gU (ho (J 0) T.dM T.rB.at_ (Kj T) (n.mono .aB) T.rB.bd .nil bT (ag (J 1) (ag (J 2) az)))))),?_]
 obtain ⟨aE,a⟩:=B.at_;have i:=fo B.hd B.dl nofun;have u:=fo a B.dl nofun;have v:=fo a B.hd nofun;refine #[bn,_,aE,_,_,Y,a,T.dM,T.xm,Y,.inl #[Y,_,aS.of B.dl],bn,_,aE,_,_,Y,a,T.dM,T.mD,Y,.inr (.inr (.inl #[Y,.inl #[kvs,B.hd]])),hd,x,kvs,Y,Y,B.hd,bF,λ t H1 f1 s1 aG=>?_];refine #[dl,ds,_,Y,Y,s1 _ _ B.dl,by rw [b7];omega,λ aq b aa=>?_];have y:t≠dl:=λ z=>by rw [z,B.dl] at f1;cases f1
 have C:t≠hd:=λ z=>by rw [z,B.hd] at f1;cases f1
 have e:eO T aq bn pr hd dl kvs (ds++[.ref t]):=#[#[aE,b _ _ u (s1 _ _ a)],b _ _ i (s1 _ _ B.hd),aa]
 obtain ⟨f,g⟩:=e.at_;refine #[bn,f,_,Y,g,Y,bn,pr,hd,dl,kvs,_,x,w,Y,e,m,hw,λ j d l=>?_];refine q t j (λ c o p r k=>d _ _ p (b _ _ r (s1 _ _ k))) (d _ _ C (b _ _ y aG)) #[#[f,d _ _ v g],l,d _ _ (dz i) e.dl]
noncomputable def ik (kvs:List (Key×V)):V->fX
 | .str x=>bU kvs (b0 x)
 | _=>.n
inductive JA (T:a3 K mg):bG
 |mk {vs H Q E} (bn pr hd dl:Addr) (kvs:List (Key×V)) (ds:bh) (v:V):vs=[.ref bn,v]->eO T H bn pr hd dl kvs ds->dh H v->(∀ u,ik kvs v=some u->Q u H)->(ik kvs v=.n->E (.ref T.c4) .n H)->JA T vs H Q E
theorem xu (T:a3 K mg):cb P w mg base (dY P w) 1 T.lz (JA T):=by
 refine T.lz.fn.gh Zq .bW λ a0 A outer s H vs Q E b h=>?_
 obtain ⟨bn,pr,hd,dl,kvs,ds,v,rfl,B,k,q,c⟩:=h;refine #[_,(aH (bM (dw.pt (dP (e8 (eI (bS kf T.eN eM (ag (J 1) (ag (jj (by rfl) T.nu nq) az))))) (e9 (br (IL (il b)) (J 1) (hj (J 0) (by rfl)) (by with_unfolding_all rfl)))))
   (aJ (fU fQ Y Y T.GI (by rfl) (ag aT az)))
   bO)
  (aJ (bb (UT (il b) (hj (J 0) (by rfl)) (J 1) (λ Z Z=>rfl))))),?_]
 obtain ⟨aE,a⟩:=B.at_;obtain ⟨t,ty,e⟩:=qz k;refine #[v, "str", t,_,Y,ty,e,_,Y,?_];cases av:oO v with
 | false=>exact bk (bk #[bF,c (by cases v<;>first|rfl|cases av)])
 | true =>
  obtain ⟨x,rfl⟩:∃ x,v=.str x:=by cases v<;>first|exact #[_,Y]|cases av
  refine bE #[bn,_,aE,_,_,Y,a,T.dM,T.mD,Y,x,hd,kvs,Y,Y,B.hd,_,Y,?_];cases aI:bU kvs (b0 x) with
  | none=>exact bk #[bF,c aI]
  | some u=>exact bE #[bn,_,aE,_,_,Y,a,T.dM,T.mD,Y,hd,x,kvs,u,Y,Y,B.hd,aI,q u aI]
inductive Hq (T:a3 K mg):bG
 |mk {vs H Q E} (bn pr hd dl:Addr) (kvs:List (Key×V)) (ds:bh) (v:V):vs=[.ref bn,v]->eO T H bn pr hd dl kvs ds->dh H v->(ik kvs v=.n->E (.ref T.c4) .n H)->(∀ u,ik kvs v=some u->∃ (w:Addr) (a b:V),u=.ref w/\H w=some (.tup [a,b])/\Q a H)->Hq T vs H Q E
theorem YN (T:a3 K mg):cb P w mg base (dY P w) 2 T.xp (Hq T):=by
 refine T.xp.fn.gh Y5 .bW λ a0 A outer s H vs Q E d h=>?_
 obtain ⟨bn,pr,hd,dl,kvs,ds,v,rfl,B,k,f,q⟩:=h;refine #[_,(aJ (bb (b3 fP (ho (J 0) T.dM T.lz.at_ (xu T) (d.mono .aB) T.lz.bd .nil hc (ag (J 1) az)) aM (λ Z Z=>rfl)))),?_];obtain ⟨aE,c⟩:=B.at_;refine #[bn,aE,_,Y,c,Y,bn,pr,hd,dl,kvs,ds,v,Y,B,k,λ u e=>?_,f];obtain ⟨w,a,b,rfl,hw,q⟩:=q u e;exact #[w,_,_,_,Y,Y,aX.of hw,Y,q]
inductive Io (T:a3 K mg):bG
 |mk {vs H Q E} (bn pr hd dl:Addr) (kvs:List (Key×V)) (ds:bh) (v:V):vs=[.ref bn,v]->eO T H bn pr hd dl kvs ds->dh H v->(ik kvs v=.n->E (.ref T.c4) .n H)->(∀ u,ik kvs v=some u->∃ (w:Addr) (a b:V),u=.ref w/\H w=some (.tup [a,b])/\Q b H)->Io T vs H Q E
theorem X9 (T:a3 K mg):cb P w mg base (dY P w) 2 T.xj (Io T):=by
 refine T.xj.fn.gh Yh .bW λ a0 A outer s H vs Q E d h=>?_
 obtain ⟨bn,pr,hd,dl,kvs,ds,v,rfl,B,k,f,q⟩:=h;refine #[_,(aJ (bb (b3 fP (ho (J 0) T.dM T.lz.at_ (xu T) (d.mono .aB) T.lz.bd .nil hc (ag (J 1) az)) aM (λ Z Z=>rfl)))),?_];obtain ⟨aE,c⟩:=B.at_;refine #[bn,aE,_,Y,c,Y,bn,pr,hd,dl,kvs,ds,v,Y,B,k,λ u e=>?_,f];obtain ⟨w,a,b,rfl,hw,q⟩:=q u e;exact #[w,_,_,_,Y,Y,aX.of hw,Y,q]
inductive Ip (T:a3 K mg):bG
 |mk {vs H Q E} (bn pr hd dl:Addr) (kvs:List (Key×V)) (ds:bh) (ns:bA):vs=[.ref bn]->eO T H bn pr hd dl kvs ds->kvs.map (·.1)=ns.map b0->ns.length<64->(∀ ms,ms.Perm ns->PyProof.Rows.sortedS ms=.t->∀ l H',H l=.n->ay H H'->H' l=some (.lst (ms.map V.str))->Q (.ref l) H')->Ip T vs H Q E
theorem Yt (T:a3 K mg):cb P w mg base cn 1 T.xn (Ip T):=by
 refine T.xn.fn.dO YG .bW λ a0 A outer s H vs Q E g h=>?_
 obtain ⟨bn,pr,hd,dl,kvs,ds,ns,rfl,B,c,a,q⟩:=h;refine #[_,(aJ (bb (bS (X3 Y) T.G2 GJ (ag (hj (J 0) (by rfl)) az)))),?_];obtain ⟨aE,b⟩:=B.at_;exact #[bn,_,aE,_,_,Y,b,T.dM,T.mD,Y,hd,kvs,ns,Y,B.hd,c,a,λ ms pm d l H' f s' e=>q ms pm d l H' f s' e]
inductive w8 (T:a3 K mg):bG
 |mk {vs H Q E} (bn pr hd dl:Addr) (kvs:List (Key×V)) (ds:bh):vs=[.ref bn]->eO T H bn pr hd dl kvs ds->kvs.length<=100->(ds=[]->E (.ref T.dN) .n H)->(∀ h9 u,ds=h9++[u]->∃ (t:Addr) (x:Str) (w:V),u=.ref t/\H t=some (.tup [.str x,w])/\((w=.aQ/\∃ v,bU kvs (b0 x)=some v)\/∃ a,w=.ref a)/\∀ H',g4 hd dl H H'->eO T H' bn pr hd dl (vB kvs x w) h9->Q .aQ H')->w8 T vs H Q E
theorem Ya (T:a3 K mg):cb P w mg base (dY P w) 2 T.xl (w8 T):=by
 refine T.xl.fn.gh Kv .bW λ a0 A outer s H vs Q E p h=>?_
 obtain ⟨bn,pr,hd,dl,kvs,ds,rfl,B,n,G,q⟩:=h;refine #[_,(aH (bM (br dE (bS eY T.dI dH (ag (hj (J 0) (by rfl)) az)) aM (bp _))
   (aJ (fU fQ Y Y T.Tq (by rfl) (ag aT az)))
   bO)
  (aH (bq 1 Kv (Rk nU PySem.F.slot_list_pop PySem.F.type_list_pop QG (hj (J 0) (by rfl))))
  (aJ (gU (ho (J 0) T.dM T.rB.at_ (Kj T) (p.mono .aB) T.rB.bd .nil bT (ag (b3 fP (J 1) aM (λ Z Z=>rfl)) (ag (b3 fP (J 1) aM (λ Z Z=>rfl)) az))))))),?_]
 obtain ⟨aE,b⟩:=B.at_;have j:=fo B.hd B.dl nofun;have y:=fo b B.dl nofun;have C:=fo b B.hd nofun;refine #[bn,_,aE,_,_,Y,b,T.dM,T.xm,Y,dl,_,Y,.inl (aS.of B.dl),Y,_,Y,?_];by_cases ao:ds=[]
 ·subst ao;exact bk #[bF,G Y]
 obtain ⟨h9,u,rfl⟩:∃ h9 u,ds=h9++[u]:=#[ds.dropLast,ds.getLast ao,(List.dropLast_concat_getLast ao).symm]
 obtain ⟨t,x,w,rfl,aG,hw,q⟩:=q h9 u rfl;have D:=fo aG B.dl nofun;rw [bZ (λ z=>by injection z with z;rw [c9] at z;simp at z;omega)];refine bE #[bn,_,aE,_,_,Y,b,T.dM,T.xm,Y,.inl #[Y,_,aS.of B.dl],dl,_,.ref t,Y,Y,B.dl,.zs,?_];have a:cB dl H (upd H dl (.lst (h9++[V.ref t]).dropLast)):=cB.upd;have d:eO T (upd H dl (.lst (h9++[V.ref t]).dropLast)) bn pr hd dl kvs h9:=#[#[aE,a _ _ y b],a _ _ j B.hd,by rw [bN,List.dropLast_concat]]
 generalize upd H dl (.lst (h9++[V.ref t]).dropLast)=aq at a d;obtain ⟨f,g⟩:=d.at_;have i:=a _ _ D aG;refine #[bn,f,_,Y,g,Y,t,_,_,_,Y,Y,aX.of i,Y,t,_,_,_,Y,Y,aX.of i,Y,bn,pr,hd,dl,kvs,_,x,w,Y,d,n,hw,λ k e m=>?_];exact q k (λ c o r v l=>e _ _ r (a _ _ v l)) #[#[f,e _ _ C g],m,e _ _ (dz j) d.dl]
inductive w7 (T:a3 K mg):bG
 |mk {vs H Q E} (bn pr hd dl:Addr) (kvs:List (Key×V)) (ds:bh) (v:V):vs=[.ref bn,v]->eO T H bn pr hd dl kvs ds->kvs.length<=100->ds.length<=1000->dh H v->(ik kvs v=.n->E (.ref T.c4) .n H)->(∀ x u,v=.str x->bU kvs (b0 x)=some u->∀ t H',g4 hd dl H H'->H' t=some (.tup [.str x,u])->eO T H' bn pr hd dl (mb kvs (b0 x)) (ds++[.ref t])->Q .aQ H')->w7 T vs H Q E
theorem X8 (T:a3 K mg):cb P w mg base (dY P w) 3 T.xi (w7 T):=by
 refine T.xi.fn.gh Yg .bW λ a0 A outer s H vs Q E b h=>?_
 obtain ⟨bn,pr,hd,dl,kvs,ds,v,rfl,B,f,e,k,g,q⟩:=h;refine #[_,(aH (gU (ho (J 0) T.dM T.lz.at_ (xu T) (b.mono .aB) T.lz.bd .nil hc (ag (J 1) az)))
  (aJ (gU (ho (J 0) T.dM T.n6.at_ (BQ T) (b.mono .aB) T.n6.bd .nil bT (ag (J 1) (ag d4 az)))))),?_]
 obtain ⟨aE,a⟩:=B.at_;refine #[bn,aE,_,Y,a,Y,bn,pr,hd,dl,kvs,ds,v,Y,B,k,λ u c=>?_,g];obtain ⟨x,rfl⟩:∃ x,v=.str x:=by cases v<;>first|exact #[_,Y]|cases c
 have aI:bU kvs (b0 x)=some u:=c;refine #[bn,aE,_,Y,a,Y,bn,pr,hd,dl,kvs,ds,x,.aQ,Y,B,f,e,.inl #[Y,u,aI],λ t H' dQ aG d=>?_];rw [aI] at aG;exact q x u rfl aI t H' dQ aG d
end
noncomputable def tc:V->Bool
 | .int i=>decide (i<=1000000)
 | _=>.f
noncomputable def pe (H:aD) (v:V):Bool:=match eT H v with
 | some xs=>decide (xs.length=10)&&xs.all iL&&xs.all tc
 | none=>.f
theorem G_:∀ {xs:bh},xs.all iL=.t->∃ ai:bB,xs=ai.map V.int/\∀ i∈ai,0<=i
 | [],_=>#[[],Y,λ Z h=>by cases h]
 | x::xs,h=>by
  rw [List.all_cons,eJ] at h;obtain ⟨ai,rfl,ah⟩:=G_ h.2;obtain ⟨i,rfl,ar⟩:∃ i,x=.int i/\0<=i:=by
   cases x with
   | int i=>exact #[i,Y,cD h.1]
   | _=>cases h.1
  exact #[i::ai,Y,λ j a=>(bt.mp a).elim (λ z=>by rw [z];exact ar) (ah j)]
section
variable {P:Program} {w:World} {K:aP} {mg:Str->b_} {base:Heap}
inductive wY (T:a3 K mg):bG
 |mk {vs H Q E} (bn pr hd dl:Addr) (kvs:List (Key×V)) (ds:bh) (v p:V):vs=[.ref bn,v,p]->eO T H bn pr hd dl kvs ds->kvs.length<=12->ds.length<=1000->CQ H v->hI H p->(hb v=.f->∀ H',ay H H'->E (.ref T.c4) .n H')->(hb v=.t->pe H p=.f->∀ H',ay H H'->E (.ref T.ek) .n H')->(∀ x,v=.str x->hb v=.t->pe H p=.t->bU kvs (b0 x)=.n->kvs.length=12->∀ H',ay H H'->E (.ref T.dj) .n H')->(∀ x a ai,v=.str x->hb v=.t->p=.ref a->H a=some (tupI ai)->ai.length=10->(∀ i∈ai,0<=i/\i<=1000000)->(bU kvs (b0 x)≠.n\/kvs.length<12)->∀ t w H',g4 hd dl H H'->H' w=some (.tup [.ref a,.int 0])->H' t=some (.tup [.str x,(bU kvs (b0 x)).getD .aQ])->eO T H' bn pr hd dl (putK kvs (b0 x) (.ref w)) (ds++[.ref t])->Q .aQ H')->wY T vs H Q E
theorem XI (T:a3 K mg):cb P w mg base (dY P w) 3 T.xe (wY T):=by
 refine T.xe.fn.gh XO .bW λ a0 A outer s H vs Q E l h=>?_
 obtain ⟨bn,pr,hd,dl,kvs,ds,v,p,rfl,B,hA,N,aI,ah,fc,D,ot,hB⟩:=h;refine #[_,(aH (bM (e8 (eI (bQ (WX T) l bT (ag (J 1) az))))
   (aJ (fU fQ Y Y T.GI (by rfl) (ag aT az)))
   bO)
  (aH (bM (dw.pt (dP (e8 (eI (bQ (XK T) l bT (ag (J 2) az)))) (e9 (br gM (bS (HS Y) T.tp tj (ag (J 2) az)) (jB (by rfl) T.JN) (bp _)))))
   (aJ (fU fQ Y Y T.Wr (by rfl) (ag aT az)))
   bO)
  (aH (zV (dw.pt (vU (br (IL (il l)) (J 1) (hj (J 0) (by rfl)) (by with_unfolding_all rfl)) (wL (br dE (bS Vq T.dI dH (ag (hj (J 0) (by rfl)) az)) (jB (by rfl) T.XE) (bp _)))))
   (aJ (fU fQ Y Y T.HK (by rfl) (ag aT az)))
   bO)
  (aJ (gU (ho (J 0) T.dM T.n6.at_ (BQ T) (l.mono .aB) T.n6.bd .nil bT (ag (J 1) (ag (hp (ag (J 2) (ag aM az))) az)))))))),?_]
 refine #[v,Y,aI,λ H1 s1=>#[_,Y,?_]];cases ao:hb v with
 | false=>exact bk #[bF,fc ao H1 s1]
 | true =>
  obtain ⟨x,rfl⟩:∃ x,v=.str x:=by cases v<;>first|exact #[_,Y]|cases ao
  refine bE #[p,Y,ay.hI s1 ah,λ aq s2=>#[_,Y,?_]];have S:jX H1 p=jX H p:=by unfold jX;rw [ay.eT s1 ah.1]
  rw [S];cases k:jX H p with
  | false =>
   refine bk (bk #[bF,D ao ?_ aq (s1.trans s2)]);unfold jX at k;unfold pe;cases b:eT H p with
   | none=>rfl
   | some xs =>
    rw [b] at k;show (decide (xs.length=10)&&xs.all iL&&xs.all tc)=.f;rw [show (decide (xs.length=10)&&xs.all iL)=.f from k];rfl
  | true =>
   have e:=k;unfold jX at e;cases b:eT H p with
   | none=>rw [b] at e;cases e
   | some xs =>
    rw [b] at e;obtain ⟨a,rfl,ak⟩:=wX b;have f:=Ah.mp e;have C:=cD f.1;obtain ⟨ai,rfl,kL⟩:=G_ f.2;have n:ai.length=10:=by rw [bz] at C;exact C
    have g:=s1.trans s2;refine bE #[a,ai,Y,aX.of (g _ _ ak),(by intro z;rw [z] at n;cases n),λ M L O=>#[_,_,Y,Y,_,Y,?_]];by_cases r:M>1000000
    ·rw [bc r];refine bk #[bF,D ao ?_ aq g];unfold pe;rw [b];show (decide ((ai.map V.int).length=10)&&(ai.map V.int).all iL&&(ai.map V.int).all tc)=.f;rw [show (ai.map V.int).all tc=.f from ?_,jx];rw [lh];intro z;have:=cD (fB.mp z (.int M) (qZ L));omega
    ·rw [bZ r];refine bE ?_;have q:∀ i∈ai,0<=i/\i<=1000000:=λ i ar=>#[kL i ar,by have:=O i ar;omega]
     have d:=B.same g;obtain ⟨aE,m⟩:=d.at_;refine #[λ σ' H'=>σ'=[some (.ref bn),some (.str x),some (.ref a)]/\aq=H'/\(bU kvs (b0 x)≠.n\/kvs.length<12),?_,?_]
     ·refine #[bn,_,aE,_,_,Y,m,T.dM,T.mD,Y,x,hd,kvs,Y,Y,d.hd,_,Y,?_];cases av:(bU kvs (b0 x)).isSome with
      | true=>exact bE (bE #[Y,Y,.inl λ z=>by rw [z] at av;cases av])
      | false =>
       have R:bU kvs (b0 x)=.n:=by
        cases h:bU kvs (b0 x) with
        | none=>rfl
        | some u=>rw [h] at av;cases av
       refine bk #[bn,_,aE,_,_,Y,m,T.dM,T.mD,Y,hd,kvs,Y,d.hd,Y,_,Y,?_];by_cases f:kvs.length=12
       ·rw [bc (show V.int (kvs.length)=V.int 12 by rw [f];rfl)];refine bk #[bF,ot x Y ao ?_ R f aq g];unfold pe;rw [b];show (decide ((ai.map V.int).length=10)&&(ai.map V.int).all iL&&(ai.map V.int).all tc)=.t;rw [show (decide ((ai.map V.int).length=10)&&(ai.map V.int).all iL)=.t from e,q3,fB];intro y X;obtain ⟨i,ar,rfl⟩:=cW.mp X;exact bc (q i ar).2
       rw [bZ (λ z=>by injection z with z;omega)];exact bE #[Y,Y,.inr .au]
     ·rintro σ' H' ⟨rfl,rfl,aV⟩;refine #[bn,aE,_,Y,m,Y,bF,λ w km j s3 hw=>?_];refine #[bn,pr,hd,dl,kvs,ds,x,.ref w,Y,d.same s3,.au,N,.inr #[w,Y],λ t I lG aG G=>?_];have OF:w≠dl:=λ z=>by rw [z,d.dl] at j;cases j
      have OG:w≠hd:=λ z=>by rw [z,d.hd] at j;cases j
      exact hB x a ai rfl ao rfl ak n q aV t w I (λ c o Z lI aC=>lG _ _ Z lI (s3 _ _ (g _ _ aC))) (lG _ _ OG OF hw) aG G
inductive rl (T:a3 K mg):bG
 |mk {vs H Q E} (bn pr hd dl:Addr) (kvs:List (Key×V)) (ds:bh) (v:V) (m:Int):vs=[.ref bn,v,.int m]->eO T H bn pr hd dl kvs ds->kvs.length<=100->ds.length<=1000->dh H v->0<=m->m<2 ^ 62->(ik kvs v=.n->E (.ref T.c4) .n H)->(∀ x u,v=.str x->bU kvs (b0 x)=some u->∃ (w a:Addr) (xs:bh) (aw:cN) (ai:bB) (n:Int),u=.ref w/\H pr=some (.tup xs)/\f7 H xs aw/\xs.length<=1000/\H w=some (.tup [.ref a,.int n])/\H a=some (tupI ai)/\ai.length=10/\nn ai=.t/\(vw (rowsOf aw) ai m.toNat->∀ H',ay H H'->E (.ref T.dj) .n H')/\∀ k r aR b1 t H',vv (rowsOf aw) ai m.toNat k r->g4 hd dl H H'->H' aR=some (tupI r)->H' b1=some (.tup [.ref aR,.int (n+k)])->H' t=some (.tup [.str x,.ref w]) -> eO T H' bn pr hd dl (putK kvs (b0 x) (.ref b1)) (ds++[.ref t])->Q (.int k) H')->rl T vs H Q E
theorem XJ (T:a3 K mg):cb P w mg base (dY P w) 8 T.xf (rl T):=by
 refine T.xf.fn.gh BN .bW λ a0 A outer s H vs Q E g h=>?_
 obtain ⟨bn,pr,hd,dl,kvs,ds,v,m,rfl,B,D,C,G,m0,R,ed,q⟩:=h;refine #[_,(aH (bq 3 BN (ho (J 0) T.dM T.lz.at_ (xu T) (g.mono .aB) T.lz.bd .nil hc (ag (J 1) az)))
  (aH (bq 4 BN (bQ (WW T) g hc (ag (hj (J 0) (by rfl)) (ag (b3 fP (J 3) aM (λ _ _=>rfl)) (ag (J 2) az)))))
  (aH (gU (ho (J 0) T.dM T.n6.at_ (BQ T) (g.mono .aB) T.n6.bd .nil bT (ag (J 1) (ag (hp (ag (b3 fP (J 4) aM (λ _ _=>rfl)) (ag (bK e7 (b3 fP (J 3) aM (λ _ _=>rfl)) (b3 fP (J 4) aM (λ _ _=>rfl))) az))) az))))
  (aJ (bb (b3 fP (J 4) aM (λ _ _=>rfl))))))),?_]
 obtain ⟨aE,f⟩:=B.at_;refine #[bn,aE,_,Y,f,Y,bn,pr,hd,dl,kvs,ds,v,Y,B,G,λ u j=>?_,ed];obtain ⟨x,rfl⟩:∃ x,v=.str x:=by cases v<;>first|exact #[_,Y]|cases j
 have aI:bU kvs (b0 x)=some u:=j;obtain ⟨w,a,xs,aw,ai,n,rfl,M,hf,I,hw,ak,L,aC,Mo,q⟩:=q x u rfl aI;refine #[bn,_,aE,_,_,Y,f,T.dM,T.xr,Y,w,_,_,_,Y,Y,aX.of hw,Y,pr,a,xs,aw,ai,m,Y,M,hf,I,ak,L,aC,m0,R,λ k r e aR H1 y s1 he N=>?_,Mo];have b:=B.same s1;refine #[bn,aE,_,Y,s1 _ _ f,Y,e,_,_,_,Y,Y,aX.of he,Y,w,_,_,_,Y,Y,aX.of (s1 _ _ hw),Y,e,_,_,_,Y,Y,aX.of he,Y,_,_,Y,Y,bF,λ b1 aq f2 s2 O=>?_];have d:=b.same s2;refine #[bn,pr,hd,dl,kvs,ds,x,.ref b1,Y,d,D,C,.inr #[b1,Y],λ t i k3 aG l=>?_];rw [aI] at aG;have X:b1≠dl:=λ z=>by rw [z,b.dl] at f2;cases f2
 have Z:b1≠hd:=λ z=>by rw [z,b.hd] at f2;cases f2
 have bI:∀ {c:Addr} {xs:bh},aq c=some (.tup xs)->i c=some (.tup xs):=λ {c xs} af=>k3 _ _ (fo af d.hd nofun) (fo af d.dl nofun) af
 refine #[e,_,_,_,Y,Y,aX.of (bI (s2 _ _ he)),Y,?_];exact q k r aR b1 t i y (λ c o S aV p=>k3 _ _ S aV (s2 _ _ (s1 _ _ p))) (bI (s2 _ _ N)) (k3 _ _ Z X O) aG l
end
def tx (H:aD) (x:V):Prop:=∃ (c:Addr) (i j:Int),x=.ref c/\H c=some (.tup [.int i,.int j])/\d1 i j=.t
theorem Ib (h:H p=some (.tup xs)) (U:1<=xs.length) (aa:xs.length<=16) (hf:∀ x∈xs,tx H x):me H (.ref p)=.t:=by
 unfold me;rw [nY h];show (decide _&&decide _&&xs.all (fk H))=.t;rw [bc U,bc aa];refine fB.mpr λ x ae=>?_
 obtain ⟨c,i,j,rfl,af,f⟩:=hf x ae;unfold fk;rw [nY af];exact f
theorem Vf (h:H p=some (.tup xs)) (aa:xs.length<=16) (hf:∀ x∈xs,tx H x):vn H (.ref p) :=
 GA h .au λ x ae=>by
  obtain ⟨c,i,j,rfl,af,f⟩:=hf x ae;exact AO af .zs (all2 trivial trivial)
section
variable {P:Program} {w:World} {K:aP} {mg:Str->b_} {base:Heap}
inductive Hp (T:a3 K mg):bG
 |mk {vs H Q E} (bn aE pr:Addr) (xs:bh):vs=[.ref bn,.ref pr]->H bn=some (.ins T.fR aE [])->H pr=some (.tup xs)->1<=xs.length->xs.length<=16->(∀ x∈xs,tx H x)->(∀ hd dl H',cB bn H H'->H hd=.n->H dl=.n->eO T H' bn pr hd dl [] []->Q .aQ H')->Hp T vs H Q E
theorem X_ (T:a3 K mg):cb P w mg base cn 5 T.xk (Hp T):=by
 refine T.xk.fn.dO Yj .bW λ a0 A outer s H vs Q E p h=>?_
 obtain ⟨bn,aE,pr,xs,rfl,n,i,r,iI,f,q⟩:=h;refine #[_,(aH (bM (e8 (eI (bQ (Kl T) p bT (ag (J 1) az))))
   (aJ rh)
   bO)
  (aH (tD (J 0) (J 1) Y)
  (aH (tD (J 0) A3 Y)
  (aJ (tD (J 0) (d5 az) Y))))),?_]
 refine #[.ref pr,Y,Vf i iI f,λ H1 s1=>#[_,Y,?_]];rw [Ib i r iI f];refine bE #[bn,_,aE,_,Y,s1 _ _ n,T.dM,T.xr,.aB,?_];refine λ hd aq f2 s2 aa=>#[bn,_,aE,_,Y,s2 _ _ bN,T.dM,T.mD,(by show 1<1000;decide),?_]
 refine #[bF,λ dl t a s3 m=>#[bn,_,aE,_,Y,s3 _ _ bN,T.dM,T.xm,(by show 2<1000;decide),?_]];have b:hd≠bn:=λ z=>by rw [z,bN] at f2;cases f2
 have e:dl≠bn:=λ z=>by rw [z,bN] at a;cases a
 have u:dl≠hd:=λ z=>by rw [z,bC b,aa] at a;cases a
 have l:=s1.free (by rw [bC b] at f2;exact f2);have k:H dl=.n:=by
  rw [bC e] at a;have g:=s2.free a;rw [bC e] at g;exact s1.free g
 refine q hd dl _ (λ c o d j=>?_) l k #[#[aE,bN],?_,?_]
 ·rw [bC d];refine s3 _ _ ?_;rw [bC d];refine s2 _ _ ?_;rw [bC d];exact s1 _ _ j
 ·rw [bC b];refine s3 _ _ ?_;rw [bC b];exact aa
 ·rw [bC e];exact m
end
theorem yX:(("/" : String):Str)=aL 47:=by decide +kernel
theorem vk:(("^" : String):Str)=aL 94:=by decide +kernel
theorem sZ:(("*" : String):Str)=aL 42:=by decide +kernel
theorem g7:((" " : String):Str)=aL 32:=by decide +kernel
theorem s6:(("1" : String):Str)=aL 49:=by decide +kernel
theorem oS:(("0" : String):Str)=aL 48:=by decide +kernel
theorem s0:(("" : String):Str)=Str.empty:=by decide +kernel
theorem OJ:(10:Int) ^ (60:Int).toNat=10 ^ 60:=by decide
theorem zO {n:Int} (h0:0<=n) (U:n<10 ^ 60):n.natAbs.log2<1920:=by
 by_cases z:n.natAbs=0
 ·rw [z];decide
 ·rw [Nat.log2_lt z];have:n.natAbs<10 ^ 60:=by omega
  exact Nat.lt_trans this .aB
theorem zi (h0:0<=n) (U:n<10 ^ 60):(cx n).length<=60:=px h0 .au
theorem w4:eL=cG.map V.int:=rfl
theorem SE (ah:0<=p/\p<=29) (he:0<=e/\e<10 ^ 60):(dZ p e).length<=63:=by
 have a:=px (k:=1) ah.1 .au;have b:=zi he.1 he.2;have c:(aL 94).length=1:=rfl;unfold dZ;rw [len_app,len_app];omega
theorem t8:∀ (l:bA),(∀ y∈l,y.length<=B)->(l.map (·.length)).sum<=l.length*B
 | [],_=>ej _
 | y::l,h=>by
  have b:=t8 l λ z a=>h z (de _ a)
  have U:=h y dn;show y.length+(l.map (·.length)).sum<=(l.length+1)*B;rw [Nat.add_mul];omega
theorem FF (a:∀ q∈l,(0<=q.1/\q.1<=29)/\0<=q.2/\q.2<10 ^ 60):∀ y∈fh l,y.length<=63:=λ y c=>by
 obtain ⟨q,b,rfl⟩:=cW.mp c;have:=a q (F3 b);exact SE this.1 this.2
theorem Gz (l):(fh l).length<=l.length:=by
 unfold fh;rw [bz];exact z8 _ _
theorem EU (h:∀ e∈aj,0<=e/\e<10 ^ 60):∀ q∈bJ aj,(0<=q.1/\q.1<=29)/\0<=q.2/\q.2<10 ^ 60:=λ q a=>by
 obtain ⟨p,e⟩:=q;have U:=nI a;have:=uq p U.1;exact #[#[.au,this.2],h e U.2]
section
variable {P:Program} {w:World} {K:aP} {mg:Str->b_} {base:Heap}
def ZF:bG:=λ vs H Q Z=>∃ n,vs=[.int n]/\0<=n/\n<10 ^ 60/\∀ H',ay H H'->Q (.str (cx n)) H'
theorem uC (T:a3 K mg):cb P w mg base cn 1 T.K6 ZF:=by
 refine T.K6.fn.dO xx .bW λ a0 A outer s H vs Q E j h=>?_
 obtain ⟨n,rfl,h0,U,q⟩:=h;refine #[_,(aH (bq 1 xx (bK qM aM aM))
  (aH (bq 2 xx (J 0))
  (aH (bq 3 xx (d5 az))
  (aH (ri f_ (br vE (J 2) (J 1) (bp _))
   (aH rh
  (aJ rh)))
  (aH (gU (eE nU tU tV xa (J 3) (ag (gP JJ T.nu nq (ag (J 2) az)) az)))
  (aJ (bb (W0 Y (by rfl) T.WK aT (ag (J 3) az))))))))),?_]
 refine #[_,_,Y,Y,#[.aB,.aB,.aB],?_];refine (?_);refine #[bF,λ l H1 f s1 a=>?_];refine rq (λ σ aq=>∃ B,σ=[some (.int n),some (.int B),some (.int n),some (.ref l)]/\B=10 ^ 60/\aq=H1) (λ Z Z=>0) #[_,Y,OJ,Y] ?_;rintro σ aq ⟨B,rfl,i,rfl⟩;refine #[_,_,Y,Y,_,Y,c3 (λ h=>?_) (λ h=>?_)]
 ·have:=cD h;omega
 ·refine #[.inl #[Y,_,aS.of a],n,Y,zO h0 U,l,_,_,Y,Y,a,.aB,λ g b d=>?_];exact #[_,Y,l,_,Y,d,q _ λ c o e=>b _ _ (cq e f) (s1 _ _ e)]
def gg (H:aD) (xs:bh) (aw:cN):Prop:=xs.length=aw.length/\∀ (k:Nat) x,xs[k]?=some x->∃ c i j,x=.ref c/\H c=some (.tup [.int i,.int j])/\aw[k]?=some (i,j)
theorem gg.same (h:gg H xs aw) (s:ay H H'):gg H' xs aw:=#[h.1,λ k x ae=>by
 obtain ⟨c,i,j,a,b,d⟩:=h.2 k x ae;exact #[c,i,j,a,s _ _ b,d]]
theorem gg.but (h:gg H xs aw) (ak:H a=some (.lst ys)) (s:cB a H H'):gg H' xs aw:=#[h.1,λ k x ae=>by
 obtain ⟨c,i,j,d,b,e⟩:=h.2 k x ae;exact #[c,i,j,d,s _ _ (λ z=>by rw [z,ak] at b;cases b) b,e]]
theorem gg.Po (h:gg H xs aw) (hf:∀ f∈aw,d1 f.1 f.2=.t):∀ x∈xs,tx H x:=λ x ae=>by
 obtain ⟨k,e⟩:=hR ae;obtain ⟨c,i,j,a,b,d⟩:=h.2 k x e;exact #[c,i,j,a,b,hf _ (b5 d)]
def Zs:bG:=λ vs H Q Z=>∃ p e,vs=[.int p,.int e]/\(0<=p/\p<=29)/\(0<=e/\e<10 ^ 60)/\∀ H',ay H H'->Q (.str (dZ p e)) H'
theorem Zc (T:a3 K mg):cb P w mg base cn 2 T.KX Zs:=by
 refine T.KX.fn.dO Lc .bW λ a0 A outer s H vs Q E a h=>?_
 obtain ⟨p,e,rfl,ah,he,q⟩:=h;refine #[_,(aH (bq 2 Lc (bQ (uC T) a bT (ag (J 1) az)))
  (aJ (bb (SI (J 0) (J 2))))),?_]
 refine #[e,Y,he.1,he.2,λ H1 s1=>?_];have b:=zi ah.1 .au;have c:=zi he.1 he.2;refine #[cx p,#[.inr #[p,Y,zO ah.1 .au,Y],.au],cx e,#[.inl Y,.au],?_];have aR:=q H1 s1;rw [vk];exact aR
def ZG:bG:=λ vs H Q Z=>∃ (a:Addr) (aj:bB),vs=[.ref a]/\H a=some (.tup (aj.map V.int))/\aj.length=10/\(∀ e∈aj,0<=e/\e<10 ^ 60)/\∀ H',ay H H'->Q (.str (dk (bJ aj))) H'
theorem xv (T:a3 K mg):cb P w mg base cn 3 T.K7 ZG:=by
 refine T.K7.fn.dO B0 .bW λ a0 A outer s H vs Q E o h=>?_
 obtain ⟨a,aj,rfl,ak,c8,m,q⟩:=h;refine #[_,(aH (AH (i:=1) B0.dg Y (Or.inl Y) (eg B0 (js:=[.n,.n]) (eX _)) Y (qO Y Y T.nv (ag (fT (v:=.ref T.gV) (by rfl) T.pQ Y) (ag (J 0) az))) (λ Z Z Z Z=>(ra (K:=K) (n:=2) Y Y (fD e5 (fD (n0 (i:=1) (show List.Nodup (["prime", "power"]:bA) from by decide +kernel) Y (Or.inl Y) (Or.inr Y)) lp)))) (λ Z Z Z Z=>(t2 (br gM (J 1) aM (bp _))))
    (λ Z Z Z Z=>(bQ (Zc T) o bT (ag (J 0) (ag (J 1) az)))))
  (aH (bM (br dE (bS eY T.dI dH (ag (J 1) az)) aM (bp _))
   (aJ (bb aT))
   bO)
  (aJ (bb (eE gr pK pL q9 aT (ag (J 1) az)))))),?_]
 refine #[T.gV,a,Y,#[_,T.jC H],#[_,aX.of ak],λ D l=>?_];have t:=pC c8;have get:∀ {i:Nat} {x y:V},eL[i]?=some x->(aj.map V.int)[i]?=some y->∃ p e,x=.int p/\y=.int e/\(bJ aj)[i]?=some (p,e):=λ {i x y} ae b=>by
  rw [w4] at ae;obtain ⟨p,rfl,ah⟩:=jE ae;obtain ⟨e,rfl,he⟩:=jE b;exact #[p,e,Y,Y,by rw [nQ];exact #[ah,he]]
 have aK:=EU m;refine XC (xs:=eL) (ys:=aj.map V.int) (λ i=>decide (0<((bJ aj).getD i (0,0)).2)) (λ i=>V.str (dZ ((bJ aj).getD i (0,0)).1 ((bJ aj).getD i (0,0)).2)) (by rw [bz,c8];decide) #[_,_,Y] l (λ H' s'=>T.jC H') (λ H' s'=>aX.of (s' _ _ ak)) (λ i x y H' R s' ae b r=>?_) (λ i x y H' R s' ae b aG r=>?_) λ H1 s1 U=>?_
 ·obtain ⟨p,e,rfl,rfl,d⟩:=get ae b;have g:(bJ aj).getD i (0,0)=(p,e):=by simp [List.getD,d]
  have c:=r;rw [g] at c;exact #[_,_,Y,Y,_,Y,c]
 ·obtain ⟨p,e,rfl,rfl,d⟩:=get ae b;have g:(bJ aj).getD i (0,0)=(p,e):=by simp [List.getD,d]
  have c:∀ aq,ay H' aq->R (V.str (dZ ((bJ aj).getD i (0,0)).1 ((bJ aj).getD i (0,0)).2)) aq:=r;rw [g] at c;have:=aK _ (b5 d);exact #[p,e,Y,this.1,this.2,c]
 have j:min eL.length (aj.map V.int).length=(bJ aj).length:=by rw [t,bz,c8];rfl
 have k:((List.range (min eL.length (aj.map V.int).length)).filter λ i=>decide (0<((bJ aj).getD i (0,0)).2)).map (λ i=>V.str (dZ ((bJ aj).getD i (0,0)).1 ((bJ aj).getD i (0,0)).2))=(fh (bJ aj)).map V.str:=by
  rw [j,W3 (0,0) (λ p:Int×Int=>decide (0<p.2)) (λ p=>V.str (dZ p.1 p.2))];unfold fh;rw [gS];rfl
 rw [k] at U;have u:=t8 _ (FF aK);have B:=Gz (bJ aj);have aR:=q H1 s1;refine #[D,_,Y,.inl (aS.of U),Y,_,Y,c3 (λ h=>?_) (λ h=>?_)]
 ·have f:fh (bJ aj)=[]:=by
   have:=q7 h;rw [bz] at this;exact FG .au
  unfold dk at aR;rw [if_pos f] at aR;rw [s6];exact aR
 ·have f:fh (bJ aj)≠[]:=λ z=>by
   rw [z] at h;exact h .aB
  unfold dk at aR;rw [if_neg f] at aR;refine #[Y,_,D,fh (bJ aj),Y,Y,U,.aB,.au,?_];rw [sZ];exact aR
end
open PySem bj ck PySem.NumText hx
noncomputable abbrev gB (c:Nat):Bool:=decide (48<=c/\c<=57)
theorem D_ (c):decide (c∈(("0123456789" : String):Str).cps.toList)=gB c:=by
 have e:(("0123456789"):Str).cps.toList=[48,49,50,51,52,53,54,55,56,57]:=by decide +kernel
 rw [e];apply wt.mpr;simp only [bt,da,dc];omega
theorem Ak (x):(ba x).all gB=decide (AllDigits (ba x)):=by
 rw [nG,fB,iT];exact #[λ h c af=>cD (h c af),λ h c af=>bc (h c af)]
section
variable {P:Program} {w:World} {K:aP} {mg:Str->b_} {base:Heap}
def YJ (C:Addr):bG:=λ vs H Q E=>∃ x,vs=[.str x]/\bP x/\x.length<=1000000/\(∀ n,hK x=some n->∀ H',ay H H'->Q (.int n) H')/\(hK x=.n->∀ H',ay H H'->E (.ref C) .n H')
theorem KL (T:a3 K mg):cb P w mg base (dY P w) 1 T.Kd (YJ T.du):=by
 refine T.Kd.fn.gh KU .bW λ a0 A outer s H vs Q E t h=>?_
 obtain ⟨x,rfl,ak,q,o,p⟩:=h;refine #[_,(aH (bM (dw.pt (dP (br kU (bS n7 T.dI dH (ag (J 0) az)) aM (bp _)) (dP (br gM (bS n7 T.dI dH (ag (J 0) az)) (jB (by rfl) T.Yp) (bp _)) (e9 (br dE (b3 zM (J 0) aM (λ Z Z=>rfl)) aT (bp _))))))
   (aJ (fU fQ Y Y T.mA (by rfl) (ag aT az)))
   bO)
  (aH (bM (e8 (eI (bS (rd Y) T.qC qx (ag (gs (eg KU (N:=["sign"]) (js:=[.n]) (eX _)) Y (vT (J 0)) (λ Z Z Z Z=>e5) (λ Z Z Z Z=>gu)
    (λ Z Z Z Z=>(hn Bp (J 0) (A4 (by rfl) T.H2) (by with_unfolding_all rfl)))) az))))
   (aJ (fU fQ Y Y T.mA (by rfl) (ag aT az)))
   bO)
  (aJ (bb (gP w0 T.pf pa (ag (J 0) az)))))),?_]
 have a:x.length<=sizeLine:=by rw [b7];omega
 have bad:∀ H',ay H H'->¬ ((1<=x.length/\x.length<=13/\(ba x).head?≠some 48)/\AllDigits (ba x))->E (.ref T.du) .n H':=λ H' s' z=>p (by unfold hK;rw [if_neg z]) H' s'
 refine #[_,Y,a,_,_,Y,Y,_,Y,c3 (λ h=>?_) (λ h=>#[_,Y,a,_,_,Y,Y,_,Y,c3 (λ h'=>?_) (λ h'=>?_)])]
 ·have h0:=cD h;exact bk #[bF,bad H (ay.refl _) λ z=>by omega]
 ·have h0:=cD h';exact bk #[bF,bad H (ay.refl _) λ z=>by omega]
 have h0:¬ (x.length:Int)<1:=λ z=>h (bc z)
 have U:¬ (13:Int)<x.length:=λ z=>h' (bc z)
 obtain ⟨c,r,af⟩:∃ c r,ba x=c::r:=by
  cases av:ba x with
  | nil=>have:=fC x;rw [av] at this;simp at this;omega
  | cons c r=>exact #[c,r,Y]
 have m:h6 x.cps.toList 0=some c:=by
  rw [show x.cps.toList=c::r from af];exact eH .aB rfl
 refine #[_,_,c,Y,Y,a,m,Y,_,Y,c3 (λ aa=>?_) (λ aa=>?_)]
 ·have e:=cD aa;rw [oS] at e;have g:(⟨[c].toArray⟩)=aL 48:=by injection e
  have j:=eG ba g;have k:c=48:=by injection j
  refine #[bF,bad H (ay.refl _) λ z=>z.1.2.2 (by rw [af,k];rfl)]
 ·have n:c≠48:=λ z=>aa (bc (by rw [oS,z]))
  refine #[_,Y,ak.all,λ D l=>w1 (f:=λ i=>V.aO (gB (x.cps.getD i 0))) (by exact a) #[_,Y] l (λ i c H' R s' af r=>r H' (ay.refl _)) (λ i c H' R s' af aG r=>?_) λ H1 s1 b=>?_]
  ·have e:x.cps.getD i 0=c:=by rw [tW,af];rfl
   have d:=r H' (ay.refl _);rw [e] at d;refine #[_,_,Y,Y,?_];rw [show (⟨[c].toArray⟩)=aL c from rfl,StrLaws.found_one,D_];exact d
  ·have e:(((List.range x.cps.size).filter λ Z=>.t).map λ i=>V.aO (gB (x.cps.getD i 0)))=((List.range x.cps.size).map λ i=>gB (x.cps.getD i 0)).map V.aO:=by
    rw [List.filter_eq_self.mpr (λ Z Z=>rfl),gS];rfl
   rw [e] at b;refine #[D,_,Y,aS.of b,_,Y,?_];rw [wM,Ak];by_cases hd:AllDigits (ba x)
   ·rw [bc hd];have ao:hK x=some ((digitsVal (ba x)):Int):=by
     unfold hK;rw [if_pos #[#[.au,.au,by rw [af];intro z;exact n (cE z)],hd]]
    exact bE #[x,_,Y,.au,intText_digits hd (by rw [show x.cps.toList=c::r from af];simp) .au,o _ ao H1 s1]
   ·rw [bZ hd];exact bk #[bF,bad H1 s1 λ z=>hd z.2]
inductive J9 (C:Addr):bG
 |mk {vs H Q E} (x y:Str) (c:Nat):vs=[.str x,.str y]->y=aL c->bP x->x.length<=1000000->(∀ p e,d3 c x=some (p,e)->fi (.tup [.int p,.int e]) H Q)->(d3 c x=.n->∀ H',ay H H'->E (.ref C) .n H')->J9 C vs H Q E
set_option tactic.hygienic true in
theorem JR (T:a3 K mg):cb P w mg base (dY P w) 2 T.I8 (J9 T.du):=by
 refine T.I8.fn.gh J6 .bW λ a0 A outer s H vs Q E n h=>?_
 obtain ⟨x,y,c,rfl,rfl,ak,B,v,k⟩:=h;refine #[_,(aH (bq 2 J6 (eE gr iU ll lr (J 0) (ag (J 1) az)))
  (aH (bM (br gN (bS eY T.dI dH (ag (J 2) az)) aM (bp _))
   (aJ (fU fQ Y Y T.mA (by rfl) (ag aT az)))
   bO)
  (aJ (bb (hp (ag (bQ (KL T) n hc (ag (b3 c1 (J 2) aM (λ Z Z=>rfl)) az)) (ag (bQ (KL T) n hc (ag (b3 c1 (J 2) aM (λ Z Z=>rfl)) az)) az))))))),?_]
 refine #[Y,x,aL c,Y,Y,Y,by rw [b7];omega,λ l H1 f1 s1 f=>?_];refine #[l,_,Y,.inl (aS.of f),Y,_,Y,c3 (λ h=>?_) (λ h=>?_)]
 ·refine #[bF,k ?_ H1 s1];unfold d3;split
  ·rename_i p e hm;obtain ⟨a,b,d,_⟩:=t9 hm;rw [d] at h;exact absurd h (by show ¬ (!decide (V.int 2=V.int 2))=.t;decide)
  ·rfl
 ·have aa:(Txt.split x (aL c)).length=2:=by
   by_cases z:(Txt.split x (aL c)).length=2
   ·exact z
   ·exfalso;apply h;rw [bZ (λ y=>z (by injection y with y;rw [bz] at y;omega))];rfl
  obtain ⟨a,b,d⟩:∃ a b,Txt.split x (aL c)=[a,b]:=by
   match av:Txt.split x (aL c),aa with
   | [a,b],_=>exact #[a,b,Y]
  have t:=kk (by rw [d];exact dn);have u:=kk (by rw [d];exact de _ dn);rw [d] at f;have pr:d3 c x=match hK a,hK b with|some p,some e=>some (p,e)|_,_=>.n:=by
   unfold d3;rw [d];simp only [es,j6];cases hK a<;>cases hK b<;>rfl
  refine #[l,_,_,_,Y,Y,aS.of f,Y,a,Y,ak.sub t.1,.au,λ i ar aq s2=>?_,λ ar aq s2=>k (by rw [pr,ar]) aq (s1.trans s2)];refine #[l,_,_,_,Y,Y,aS.of (s2 _ _ f),Y,b,Y,ak.sub u.1,.au,λ j g m s3=>?_,λ g m s3=>k (by rw [pr,ar,g]) m ((s1.trans s2).trans s3)];have o:=s1.trans (s2.trans s3);exact #[bF,λ p q f4 s4 r=>v i j (by rw [pr,ar,g]) p q (o.free f4) (o.trans s4) r]
noncomputable def qt (l:cN) (kvs:List (Key×V)):List (Key×V):=l.foldl (λ k p=>putK k (i5 p.1) (.int p.2)) kvs
theorem Hb:∀ {l:cN} {kvs:List (Key×V)},(qt l kvs).length<=kvs.length+l.length
 | [],_=>bx _
 | q::l,kvs=>by
  have h:=Hb (l:=l) (kvs:=putK kvs (i5 q.1) (.int q.2));have aa:(putK kvs (i5 q.1) (.int q.2)).length<=kvs.length+1:=by
   unfold putK;split
   ·rw [bz];omega
   ·rw [c9];exact bx _
  show (qt l (putK kvs (i5 q.1) (.int q.2))).length<=kvs.length+(l.length+1);omega
theorem Ha:∀ {l:cN} {kvs:List (Key×V)} {a:Int},(bU kvs (i5 p)).getD (.int 0)=.int a->(bU (qt l kvs) (i5 p)).getD (.int 0)=.int (l.foldl (λ a q=>if q.1=p then q.2 else a) a)
 | [],_,_,h=>h
 | q::l,kvs,a,h=>by
  show (bU (qt l (putK kvs (i5 q.1) (.int q.2))) (i5 p)).getD (.int 0)=.int (l.foldl _ (if q.1=p then q.2 else a));refine Ha ?_;rw [A7];by_cases e:q.1=p
  ·rw [if_pos (by rw [e]),if_pos e];rfl
  ·rw [if_neg (λ z=>e (by injection z with z;exact z.symm)),if_neg e];exact h
def Y8 (C:Addr):bG:=λ vs H Q E=>∃ x,vs=[.str x]/\bP x/\x.length<=1000000/\(∀ L,allR 94 (Txt.split x (aL 42))=some L->∀ p H',ay H H'->H' p=some (.tup ((eW L).map V.int))->Q (.ref p) H')/\(allR 94 (Txt.split x (aL 42))=.n->∀ H',ay H H'->E (.ref C) .n H')
theorem YP (T:a3 K mg):cb P w mg base (dY P w) 3 T.KD (Y8 T.du):=by
 refine T.KD.fn.gh uA .bW λ a0 A outer s H vs Q E M h=>?_
 obtain ⟨x,rfl,ak,eB,aV,X⟩:=h;refine #[_,(aH (tE (i:=1) uA.dg Y (Or.inr Y) A3)
  (aH (hQ PassesOwn.leaving Y (iX (eE gr iU ll lr (J 0) (ag aT az))) (fL 2 uA)
   (aH (bq 3 uA (bQ (JR T) M hc (ag (J 2) (ag aT az))))
  (aJ (UX (il M) (J 1) (b3 fP (J 3) aM (λ _ _=>rfl)) (b3 fP (J 3) aM (λ _ _=>rfl)) Y))))
  (aJ (bb (gP n9 T.jz jy (ag (gs (eg uA (N:=["prime", "found"]) (js:=[.n,some 1]) (lg.mpr #[Y,(eX _)])) Y (nM (fT (v:=.ref T.gV) (by rfl) T.pQ Y)) (λ _ _ _ _=>e5) (λ _ _ _ _=>gu)
    (λ _ _ _ _=>(Fo Y wq qW Ai T_ (J 1) (ag (J 0) (ag aM az))))) az)))))),?_]
 have lT:=n4 42 x;refine λ d H1 f1 s1 C=>?_
 refine #[Y,_,_,Y,Y,by rw [sZ];rfl,by rw [b7];omega,λ l aq f2 s2 m=>?_];rw [sZ] at m;generalize jb:Txt.split x (aL 42)=ws at m aV X lT;have hd2:=s2 _ _ C;have Oz:l≠d:=λ z=>by rw [z,C] at f2;cases f2
 refine #[l,Y,#[_,aS.of m],rf (λ i σ b=>(∃ u v,σ=[some (.str x),some (.ref d),u,v])/\cB d aq b/\∃ L,allR 94 (ws.take i)=some L/\b d=some (.cM (qt L []))) #[#[.n,.n,Y],cB.of (ay.refl _),[],Y,hd2] (λ i σ b _ ⟨_,j,_⟩=>aS.of (j _ _ Oz m)) ?_ ?_]
 ·rintro i y σ b g ⟨⟨u,v,rfl⟩,j,L,k,n⟩;obtain ⟨cj,O,rfl⟩:∃ cj,ws[i]?=some cj/\y=.str cj:=by
   rw [et] at g;cases aC:ws[i]? with
   | none=>rw [aC] at g;cases g
   | some f=>rw [aC] at g;exact #[f,Y,(cE g).symm]
  have S:=b5 O;have ah:=kk (by rw [jb];exact S);have q:ay H b:=λ c o e=>j _ _ (cq e f1) ((s1.trans s2) _ _ e)
  refine #[_,_,94,Y,vk,ak.sub ah.1,.au,λ p e he pr t f4 s4 G=>?_,λ he t s4=>X (AS S he) t (q.trans s4)];have hlen:L.length<=1000001:=by
   rw [(rb k).1,List.length_take];omega
  refine #[pr,_,_,_,Y,Y,aX.of G,Y,pr,_,_,_,Y,Y,aX.of G,Y,d,p,_,Y,Y,s4 _ _ n,?_,λ B Z r0=>#[#[_,_,Y],j.trans ((cB.of s4).trans Z),L++[(p,e)],?_,?_]]
  ·have:=Hb (l:=L) (kvs:=[]);rw [b7];simp only [List.length_nil] at this;omega
  ·rw [iS,O];show allR 94 (ws.take i++[cj])=_;rw [Bb,k,he]
  ·rw [r0];unfold qt;rw [List.foldl_append];rfl
 ·rintro σ b ⟨⟨u,v,rfl⟩,j,L,k,n⟩;rw [bz,ju] at k;have q:ay H b:=λ c o e=>j _ _ (cq e f1) ((s1.trans s2) _ _ e)
  refine #[T.gV,Y,#[eL,T.jC b],λ D I=>Kf (K:=K) (a:=T.gV) (xs:=eL) (σ0:=[some (.ref d)]) (f:=λ v=>match v with| .int p=>.int (getL L p)|v=>v) Y .aB I (T.jC b) ?_ ?_]
  ·intro y H' R s' g r;rw [w4] at g;obtain ⟨p,_,rfl⟩:=cW.mp g;refine #[.inr (.inr (.inl #[Y,.inl #[_,s' _ _ n]])),d,p,_,_,Y,Y,s' _ _ n,?_];rw [Ha rfl];exact r
  ·have e:(eL.map λ v=>match v with| .int p=>V.int (getL L p)|v=>v)=(eW L).map V.int:=by
    unfold eW;rw [w4,gS,gS];rfl
   rw [e];exact #[D,_,Y,aS.of bN,λ p B oo s5 rR=>aV L k p B ((q.trans (ay.new I)).trans s5) rR]
def YK (C:Addr):bG:=λ vs H Q E=>∃ v,vs=[v]/\dh H v/\(∀ x,v=.str x->bP x/\x.length<=1000000)/\(∀ x aj,v=.str x->fM x=some aj->∀ p H',ay H H'->H' p=some (.tup (aj.map V.int))->Q (.ref p) H')/\((∀ x,v=.str x->fM x=.n)->∀ H',ay H H'->E (.ref C) .n H')
theorem Yx (T:a3 K mg):cb P w mg base (dY P w) 4 T.uw (YK T.du):=by
 refine T.uw.fn.gh BY .bW λ a0 A outer s H vs Q E l h=>?_
 obtain ⟨v,rfl,C,ae,m,n⟩:=h;refine #[_,(aH (bM (e8 (eI (bS kf T.eN eM (ag (J 0) (ag (jj (by rfl) T.nu nq) az)))))
   (aJ (fU fQ Y Y T.mA (by rfl) (ag aT az)))
   bO)
  (aH (bq 1 BY (bK Uj (hp (ag aM az)) (bS eY T.dI dH (ag (fT (v:=.ref T.gV) (by rfl) T.pQ Y) az))))
  (aH (bM (br gN (J 0) aT (bp _))
   (aJ (bq 1 BY (bQ (YP T) l hc (ag (J 0) az))))
   bO)
  (aH (bM (dw.pt (dP (br gM (bS (HS Y) T.tp tj (ag (J 1) az)) (jB (by rfl) T.JN) (bp _)) (e9 (br gN (bQ (xv T) l bT (ag (J 1) az)) (J 0) (bp _)))))
   (aJ (fU fQ Y Y T.mA (by rfl) (ag aT az)))
   bO)
  (aJ (bb (J 1))))))),?_]
 obtain ⟨D,tys,r⟩:=qz C;refine #[_, "str", D,_,Y,tys,r,_,Y,?_];cases aI:oO v with
 | false =>
  refine bk #[bF,n (λ x e=>?_) H (ay.refl _)];rw [e] at aI;cases aI
 | true =>
 obtain ⟨x,rfl⟩:∃ x,v=.str x:=by
  cases v<;>first|exact #[_,Y]|cases aI
 obtain ⟨ak,B⟩:=ae x rfl;refine bE ?_;refine #[bF,λ t0 H1 f1 s1 o=>?_];refine #[T.gV,eL,Y,.inr (T.jC H1),t0,_,_,Y,Y,o,.zs,.aB,.aB,.aB,λ z aq f2 s2 q=>?_];have f:=q;refine #[Y,_,Y,?_];have bad:fM x=.n->∀ H',ay H H'->E (.ref T.du) .n H':=λ h=>n λ y e=>by injection e with e;rw [<-e];exact h
 by_cases a:x=aL 49
 ·rw [show decide (V.str x=V.str ("1"))=.t by rw [a,s6];exact bc rfl];refine bE ?_;refine #[z,gm,Y,aX.of f,.aB,λ M i Z=>#[_,_,Y,Y,_,Y,c3 (λ h=>?_) (λ h=>?_)]]
  ·have:=cD h;have:=(t_.2 M i).2;omega
  ·refine #[z,gm,Y,f,Y,λ e he=>#[(t_.2 e he).1,by have:=(t_.2 e he).2;omega],λ b s5=>#[Y,_,Y,?_]];rw [G0,a,bc rfl];exact bE (m x gm Y (by unfold fM;rw [if_pos a]) z b ((s1.trans s2).trans s5) (s5 _ _ f))
 ·rw [show decide (V.str x=V.str ("1"))=.f by
   rw [s6];exact bZ λ e=>a (by injection e)]
  refine bk ?_;refine #[x,Y,ak,B,λ L c p d s3 g=>?_,λ c d s3=>bad (by unfold fM;rw [if_neg a,c]) d ((s1.trans s2).trans s3)];have ok:=GN (rb c).2;have j:fM x=if (∀ e∈eW L,e<=1000000)/\dk (bJ (eW L))=x then some (eW L) else .n:=by
   unfold fM;rw [if_neg a,c]
  have k:=(s1.trans s2).trans s3;have u:eW L≠[]:=λ z=>by have:=ok.1;rw [z] at this;cases this
  refine #[p,eW L,Y,aX.of g,u,λ M i t=>#[_,_,Y,Y,_,Y,c3 (λ h=>?_) (λ h=>?_)]]
  ·have h0:=cD h;exact bk #[bF,bad (by rw [j,if_neg λ z=>by have:=z.1 M i;omega]) d k]
  ·have h0:¬ 1000000<M:=λ z=>h (bc z)
   have hle:∀ e∈eW L,e<=1000000:=λ e he=>by have:=t e he;omega
   refine #[p,eW L,Y,g,ok.1,λ e he=>#[(ok.2 e he).1,by have:=(ok.2 e he).2;omega],λ b s5=>#[Y,_,Y,?_]];by_cases hw:dk (bJ (eW L))=x
   ·rw [hw,bc rfl];exact bE (m x (eW L) Y (by rw [j,if_pos #[hle,hw]]) p b (k.trans s5) (s5 _ _ g))
   ·rw [bZ λ e=>hw (by injection e)];exact bk #[bF,bad (by rw [j,if_neg λ z=>hw z.2]) b (k.trans s5)]
theorem Th (h:H p=some (.tup xs)) (aa:xs.length<=1000) (a:gg H xs aw):vn H (.ref p) :=
 GA h aa λ x ae=>by
  obtain ⟨k,b⟩:=hR ae;obtain ⟨c,i,j,rfl,af,_⟩:=a.2 k x b;exact AO af .zs (all2 trivial trivial)
theorem V6 (h:H p=some (.tup xs)) (b:gg H xs aw) (U:1<=aw.length):me H (.ref p)=decide (aw.length<=16/\∀ f∈aw,d1 f.1 f.2=.t):=by
 have o:=b.1;by_cases af:aw.length<=16/\∀ f∈aw,d1 f.1 f.2=.t
 ·rw [bc af];exact Ib h .au .au (b.Po af.2)
 ·rw [bZ af];unfold me;rw [nY h];show (decide _&&decide _&&xs.all (fk H))=.f;by_cases n:xs.length<=16
  ·have:xs.all (fk H)=.f:=by
    rw [lh];intro z;refine af #[.au,λ f hf=>?_];obtain ⟨k,e⟩:=hR hf;have g:k<xs.length:=by rw [o];exact (dr.mp e).1
    obtain ⟨c,i,j,l,m,d⟩:=b.2 k _ (cK g);rw [e] at d;cases d;have a:=fB.mp z _ (iw g);rw [l] at a;unfold fk at a;rw [nY m] at a;exact a
   rw [this,jx]
  ·rw [bZ n,jx,Bool.false_and]
def S7 (C:Addr):bG:=λ vs H Q E=>∃ v,vs=[v]/\dh H v/\(∀ x,v=.str x->bP x/\x.length<=900)/\(∀ x aw,v=.str x->hM x=some aw->∀ p xs H',ay H H'->H' p=some (.tup xs)->gg H' xs aw->Q (.ref p) H')/\((∀ x,v=.str x->hM x=.n)->∀ H',ay H H'->E (.ref C) .n H')
theorem R_ (T:a3 K mg):cb P w mg base (dY P w) 5 T.tw (S7 T.du):=by
 refine T.tw.fn.gh AJ .bW λ a0 A outer s H vs Q E a h=>?_
 obtain ⟨v,rfl,r5,ae,fc,M⟩:=h;refine #[_,(aH (bM (e8 (eI (bS kf T.eN eM (ag (J 0) (ag (jj (by rfl) T.nu nq) az)))))
   (aJ (fU fQ Y Y T.mA (by rfl) (ag aT az)))
   bO)
  (aH (bq 1 AJ (gP n9 T.jz jy (ag (US (eg AJ (N:=["word"]) (js:=[.n]) (eX _)) Y Y Y Y Tj (iX (eE gr iU ll lr (J 0) (ag aT az))) (λ _ _ _ _ _=>e5) (λ _ _ _ _ _=>gu)
    (λ _ _ _ _ _ lP=>(bQ (JR T) a (P9 lP) (ag (J 0) (ag aT az))))) az)))
  (aH (bM (e8 (eI (bQ (Kl T) a bT (ag (J 1) az))))
   (aJ (fU fQ Y Y T.mA (by rfl) (ag aT az)))
   bO)
  (aJ (bb (J 1)))))),?_]
 obtain ⟨lN,tys,aV⟩:=qz r5;refine #[_, "str", lN,_,Y,tys,aV,_,Y,?_];cases aI:oO v with
 | false =>
  refine bk #[bF,M (λ x e=>?_) H (ay.refl _)];rw [e] at aI;cases aI
 | true =>
 obtain ⟨x,rfl⟩:∃ x,v=.str x:=by
  cases v<;>first|exact #[_,Y]|cases aI
 obtain ⟨ak,eB⟩:=ae x rfl;refine bE ?_;have bad:hM x=.n->∀ H',ay H H'->E (.ref T.du) .n H':=λ h=>M λ y e=>by injection e with e;rw [<-e];exact h
 have lT:=n4 32 x;have C:=kg x (aL 32);refine #[Y,_,_,Y,Y,by rw [g7];rfl,by rw [b7];omega,λ l H1 f1 s1 o=>?_];rw [g7] at o;have n:hM x=match allR 47 (Txt.split x (aL 32)) with|some L=>if L.length<=16/\(∀ f∈L,d1 f.1 f.2=.t) then some L else .n|none=>.n:=rfl
 have G:∀ y∈Txt.split x (aL 32),bP y/\y.length<=1000000:=λ y d=>by
  have:=kk d;exact #[ak.sub this.1,.au]
 generalize Txt.split x (aL 32)=ws at o n lT C G;refine #[l,Y,#[_,aS.of o],λ D X=>?_];refine uk (by rw [b7,bz];omega) #[_,Y] X o (λ i H' zs=>∃ L,allR 47 (ws.take i)=some L/\gg H' zs L) #[[],Y,Y,λ k x e=>by cases e] (λ i H' aq zs ys u ⟨L,e,a⟩ b=>#[L,e,a.but u b]) (λ i y H' zs R s' d u jc a fb=>?_) λ aq zs s2 Z jc a=>?_
 ·obtain ⟨cj,I,rfl⟩:∃ cj,ws[i]?=some cj/\y=.str cj:=by
   rw [et] at d;cases B:ws[i]? with
   | none=>rw [B] at d;cases d
   | some f=>rw [B] at d;exact #[f,Y,(cE d).symm]
  have aC:=b5 I;obtain ⟨L,j,a⟩:=a;have ah:=G cj aC;refine #[_,_,47,Y,yX,ah.1,ah.2,λ p e he pr g f4 s4 S=>fb _ _ s4 #[L++[(p,e)],?_,?_],λ he g s4=>bad (by rw [n,AS aC he]) g ((s1.trans s').trans s4)]
  ·rw [iS,I];show allR 47 (ws.take i++[cj])=_;rw [Bb,j,he]
  ·have NY:=a.same s4;refine #[by rw [c9,c9,a.1];rfl,λ k y d=>?_];rcases lj k zs.length with q|q
   ·rw [jm q] at d;obtain ⟨c,mR,ct,g1,g2,g3⟩:=NY.2 k y d;exact #[c,mR,ct,g1,g2,by rw [jm (by rw [<-a.1];exact q)];exact g3]
   ·rw [j4 q] at d;have oN:k=zs.length:=by
     cases yD:k-zs.length with
     | zero=>omega
     | succ m=>rw [yD] at d;cases d
    subst oN;rw [pM] at d;cases d;exact #[pr,p,e,Y,S,by rw [j4 (by rw [a.1];exact bx _),a.1,pM];rfl]
 ·obtain ⟨L,j,a⟩:=a;rw [bz,ju] at j;rw [j] at n;have z:=(rb j).1;have Na:1<=L.length:=by rw [z];exact wo.mpr C
  refine #[D,_,Y,aS.of Z,λ p km iB s3 r=>?_];have t:=a.same s3;have O:=(s1.trans s2).trans s3;refine #[_,Y,Th r (by rw [a.1,z];omega) t,λ g s4=>#[_,Y,?_]];rw [V6 r t Na];by_cases af:L.length<=16/\∀ f∈L,d1 f.1 f.2=.t
  ·rw [bc af];exact bE (fc x L Y (by rw [n];exact if_pos af) p zs g (O.trans s4) (s4 _ _ r) (t.same s4))
  ·rw [bZ af];exact bk #[bF,bad (by rw [n];exact if_neg af) g (O.trans s4)]
noncomputable def ih (x:Str):Bool:=ib (.str ("")) ((Txt.split x (aL 32)).map V.str)
def Xw (C:Addr):bG:=λ vs H Q E=>∃ v,vs=[v]/\dh H v/\(∀ x,v=.str x->bP x/\x.length<=900)/\(∀ x,v=.str x->ih x=.f->fi (.lst ((Txt.split x (aL 32)).map V.str)) H Q) /\
 ((∀ x,v=.str x->ih x=.t)->∀ H',ay H H'->E (.ref C) .n H')
theorem Xp (T:a3 K mg):cb P w mg base (dY P w) 1 T.ID (Xw T.df):=by
 refine T.ID.fn.gh Jx .bW λ a0 A outer s H vs Q E k h=>?_
 obtain ⟨v,rfl,f,ae,g,c⟩:=h;refine #[_,(aH (bM (e8 (eI (bS kf T.eN eM (ag (J 0) (ag (jj (by rfl) T.nu nq) az)))))
   (aJ (fU fQ Y Y T.nX (by rfl) (ag aT az)))
   bO)
  (aH (bq 1 Jx (eE gr iU ll lr (J 0) (ag aT az)))
  (aH (bM (br pR aT (J 1) (by with_unfolding_all rfl))
   (aJ (fU fQ Y Y T.nX (by rfl) (ag aT az)))
   bO)
  (aJ (bb (J 1)))))),?_]
 obtain ⟨i,tys,aj⟩:=qz f;refine #[_, "str", i,_,Y,tys,aj,_,Y,?_];cases aI:oO v with
 | false =>
  refine bk #[bF,c (λ x e=>?_) H (ay.refl _)];rw [e] at aI;cases aI
 | true =>
 obtain ⟨x,rfl⟩:∃ x,v=.str x:=by
  cases v<;>first|exact #[_,Y]|cases aI
 obtain ⟨ak,j⟩:=ae x rfl;refine bE ?_;refine #[Y,_,_,Y,Y,.aB,by rw [b7];omega,λ l H1 f1 s1 a=>?_];rw [g7] at a;refine #[l,_,Y,.inl (aS.of a),Y,fB.mpr λ y d=>?_,_,Y,?_]
 ·obtain ⟨z,_,rfl⟩:=cW.mp d;rfl
 ·show (if ih x=.t then _ else _);cases b:ih x with
  | true=>exact bk #[bF,c (λ y e=>by injection e with e;rw [<-e];exact b) H1 s1]
  | false=>exact bE (g x Y b l H1 f1 s1 a)
def DW (T:a3 K mg) (H:aD) (p:Prop):St->cL:=λ Z v d H1=>v=.ref T.du/\d=.n/\ay H H1/\p
inductive K4 (C:Addr):bG
 |mk {vs H Q E} (l:Addr) (ws:bA):vs=[.ref l]->H l=some (.lst (ws.map V.str))->(ws.map (·.length)).sum+ws.length<=1048576->bP (Str.join (aL 32) ws)->(Str.join (aL 32) ws).length<=900->(∀ aw,hM (Str.join (aL 32) ws)=some aw->∀ p xs H',ay H H'->H' p=some (.tup xs)->gg H' xs aw->Q (.ref p) H')->(hM (Str.join (aL 32) ws)=.n->∀ v H',jd v=.ref C->ay H H'->E v .n H')->K4 C vs H Q E
theorem YQ (T:a3 K mg):cb P w mg base (g0 P w) 6 T.KG (K4 T.df):=by
 refine T.KG.fn.sW Y6 .bW λ a0 A outer s H vs Q E g h=>?_
 obtain ⟨l,ws,rfl,f,i,ak,hlen,k,m⟩:=h;refine #[_,(aJ (Ge (E:=(DW T H (hM (Str.join (aL 32) ws)=.n))) Y Y Y T.AY (Jh T.mA) HC (by rfl) T.nX (by rfl) (λ Z Z n=>(aJ (bb (Bq (R_ T) (g.mono .aB) Y n Y T.tw.at_ T.tw.fn.bI T.tw.bd (ag (Fo Y gr pK pL q9 aT (ag (J 0) az)) az))))) (λ Z=>(ag aT az)))),?_];refine #[?_,λ C d H1 σ1 c=>?_]
 ·refine #[Y,_,l,ws,Y,Y,f,.aB,i,_,Y,trivial,λ x e=>?_,λ x aw e hf p xs H' s' b fr=>?_,λ ao H' s'=>#[Y,Y,s',ao _ ?_]]
  ·injection e with e;rw [<-e,g7];exact #[ak,hlen]
  ·injection e with e;rw [<-e,g7] at hf;exact k aw hf p xs H' s' b fr
  ·rw [g7]
 ·obtain ⟨a,rfl,s1,ao⟩:=c;injection a with a;exact #[a,λ y j=>#[bF,#[_,_,bN],m ao _ _ Y (s1.trans (ay.new j))]]
def ZT (C:Addr):bG:=λ vs H Q E=>∃ x,vs=[.str x]/\bP x/\x.length<=900/\(∀ aj,fM x=some aj->∀ p H',ay H H'->H' p=some (.tup (aj.map V.int))->Q (.ref p) H') /\
 (fM x=.n->∀ v H',jd v=.ref C->ay H H'->E v .n H')
theorem ZI (T:a3 K mg):cb P w mg base (g0 P w) 5 T.Lf (ZT T.df):=by
 refine T.Lf.fn.sW ZS .bW λ a0 A outer s H vs Q E f h=>?_
 obtain ⟨x,rfl,ak,hlen,i,j⟩:=h;refine #[_,(aJ (Ge (E:=(DW T H (fM x=.n))) Y Y Y T.AY (Jh T.mA) HC (by rfl) T.nX (by rfl) (λ Z Z k=>(aJ (bb (Bq (Yx T) (f.mono .aB) Y k Y T.uw.at_ T.uw.fn.bI T.uw.bd (ag (J 0) az))))) (λ Z=>(ag aT az)))),?_];refine #[?_,λ C d H1 σ1 c=>?_]
 ·refine #[_,Y,trivial,λ y e=>?_,λ y aj e hf p H' s' b=>?_,λ ao H' s'=>#[Y,Y,s',ao _ Y]]
  ·injection e with e;rw [<-e];exact #[ak,.au]
  ·injection e with e;rw [<-e] at hf;exact i aj hf p H' s' b
 ·obtain ⟨a,rfl,s1,ao⟩:=c;injection a with a;exact #[a,λ y g=>#[bF,#[_,_,bN],j ao _ _ Y (s1.trans (ay.new g))]]
theorem t5 (h:ba x=ba y):x=y:=by
 obtain ⟨⟨a⟩⟩:=x;obtain ⟨⟨b⟩⟩:=y;have:a=b:=h;rw [this]
theorem GP (af:ba x=c::r) (a:x.length<=19) (hd:AllDigits (ba x)) (h:r=[]\/49<=c):cm x=some ((digitsVal (ba x):Nat):Int):=by
 unfold cm;rw [if_pos #[#[(λ z=>by rw [z] at af;cases af),a,hd],FE hd af h]]
theorem TN (af:ba x=48::r) (c:r≠[]):cm x=.n:=by
 cases h:cm x with
 | none=>rfl
 | some n =>
  exfalso;obtain ⟨e,h0⟩:=q5 h;by_cases ao:n=0
  ·subst ao;have:ba (cx 0)=[48]:=by decide +kernel
   rw [<-e,af] at this;injection this with _ this;exact c this
  ·obtain ⟨d,g,b,f⟩:=F5 (n:=n) .au;rw [<-e,af] at b;injection b with a;omega
inductive Ky (C:Addr):bG
 |mk {vs H Q E} (x:Str) (m:Int):vs=[.str x,.int m]->bP x->1<=x.length->x.length<=900->m<=1000000000000000000->(∀ n,cm x=some n->n<=m->∀ H',ay H H'->Q (.int n) H')->((∀ n,cm x=some n->m<n)->∀ H',ay H H'->E (.ref C) .n H')->Ky C vs H Q E
theorem Kk (T:a3 K mg):cb P w mg base (dY P w) 1 T.JF (Ky T.df):=by
 refine T.JF.fn.gh BS .bW λ a0 A outer s H vs Q E a h=>?_
 obtain ⟨x,m,rfl,ak,G,C,hm,p,k⟩:=h;refine #[_,(aH (bM (dw.pt (dP (br gM (bS n7 T.dI dH (ag (J 0) az)) (jB (by rfl) T.ZZ) (bp _)) (e9 (e8 (eI (bS (rd Y) T.qC qx (ag (gs (eg BS (N:=["sign"]) (js:=[.n]) (eX _)) Y (vT (J 0)) (λ Z Z Z Z=>e5) (λ Z Z Z Z=>gu)
    (λ Z Z Z Z=>(hn Bp (J 0) (A4 (by rfl) T.H2) (by with_unfolding_all rfl)))) az)))))))
   (aJ (fU fQ Y Y T.nX (by rfl) (ag aT az)))
   bO)
  (aH (bM (dw.pt (vU (br dE (b3 zM (J 0) aM (λ Z Z=>rfl)) aT (bp _)) (wL (br gN (J 0) aT (bp _)))))
   (aJ (fU fQ Y Y T.nX (by rfl) (ag aT az)))
   bO)
  (aH (bq 2 BS (gP w0 T.pf pa (ag (J 0) az)))
  (aH (bM (br gM (J 2) (J 1) (bp _))
   (aJ (fU fQ Y Y T.nX (by rfl) (ag aT az)))
   bO)
  (aJ (bb (J 2))))))),?_]
 have j:x.length<=sizeLine:=by rw [b7];omega
 have bad:∀ H',ay H H'->cm x=.n->E (.ref T.df) .n H':=λ H' s' z=>k (λ n e=>by rw [z] at e;cases e) H' s'
 refine #[_,Y,j,_,_,Y,Y,_,Y,c3 (λ h=>?_) (λ h=>?_)]
 ·have h0:=cD h;refine #[bF,bad H (ay.refl _) ?_];unfold cm;rw [if_neg λ z=>by have:=z.1.2.1;omega]
 have y:¬ (19:Int)<x.length:=λ z=>h (bc z)
 refine #[_,Y,ak.all,λ D u=>w1 (f:=λ i=>V.aO (gB (x.cps.getD i 0))) (by show x.length<=_;exact j) #[_,Y] u (λ i c H' R s' af r=>r H' (ay.refl _)) (λ i c H' R s' af aG r=>?_) λ H1 s1 l=>?_]
 ·have e:x.cps.getD i 0=c:=by rw [tW,af];rfl
  have q:=r H' (ay.refl _);rw [e] at q;refine #[_,_,Y,Y,?_];rw [show (⟨[c].toArray⟩)=aL c from rfl,StrLaws.found_one,D_];exact q
 ·have e:(((List.range x.cps.size).filter λ Z=>.t).map λ i=>V.aO (gB (x.cps.getD i 0)))=((List.range x.cps.size).map λ i=>gB (x.cps.getD i 0)).map V.aO:=by
   rw [List.filter_eq_self.mpr (λ Z Z=>rfl),gS];rfl
  rw [e] at l;refine #[D,_,Y,aS.of l,_,Y,?_];rw [wM,Ak];cases o:decide (AllDigits (ba x)) with
  | false =>
   refine bk #[bF,bad H1 s1 ?_];unfold cm;rw [if_neg λ z=>of_decide_eq_false o z.1.2.2]
  | true =>
  have hd:=cD o;refine bE ?_;obtain ⟨c,r,af⟩:∃ c r,ba x=c::r:=by
   cases av:ba x with
   | nil=>have:=fC x;rw [av] at this;simp at this;omega
   | cons c r=>exact #[c,r,Y]
  have v:h6 x.cps.toList 0=some c:=by
   rw [show x.cps.toList=c::r from af];exact eH .aB rfl
  have c8:x.cps.toList≠[]:=by rw [show x.cps.toList=c::r from af];simp
  have hit:=intText_digits hd c8 .au;refine #[_,_,c,Y,Y,j,v,Y,_,Y,?_];by_cases b:c=48
  ·rw [bc (show V.str (⟨[c].toArray⟩)=V.str ("0") by rw [b,oS])];refine bk #[Y,_,Y,?_];by_cases a:r=[]
   ·have ex:x=("0"):=by
     rw [oS];have:ba x=ba (aL 48):=by rw [af,b,a]
     exact t5 this
    rw [bc (show V.str x=V.str ("0") by rw [ex])];refine bE #[x,_,Y,.au,hit,_,_,Y,Y,_,Y,?_];have hf:=GP af .au hd (.inl a);refine c3 (λ h=>?_) (λ h=>?_)
    ·have h0:=cD h;exact #[bF,k (λ n e=>by rw [hf] at e;cases e;exact h0) H1 s1]
    ·have h0:¬ m<((digitsVal (ba x):Nat)):=λ z=>h (bc z)
     exact (p _ hf .au H1 s1)
   ·rw [bZ (λ e=>by
     rw [oS] at e;have d:x=aL 48:=by injection e
     rw [d] at af;injection af with _ g;exact a g.symm)]
    exact bk #[bF,bad H1 s1 (TN (by rw [af,b]) a)]
  ·rw [bZ (λ e=>by
    rw [oS] at e;have d:(⟨[c].toArray⟩)=aL 48:=by injection e
    have g:[c]=[48]:=eG ba d;have t:c=48:=by injection g
    exact b t)]
   have B:=hd c (by rw [af];exact dn);have hf:=GP af .au hd (.inr .au);refine bE (bE #[x,_,Y,.au,hit,_,_,Y,Y,_,Y,?_]);refine c3 (λ h=>?_) (λ h=>?_)
   ·have h0:=cD h;exact #[bF,k (λ n e=>by rw [hf] at e;cases e;exact h0) H1 s1]
   ·have h0:¬ m<((digitsVal (ba x):Nat)):=λ z=>h (bc z)
    exact (p _ hf .au H1 s1)
inductive fv where
 | nm (x:Str)
 | kx (aj:bB)
 | b9 (n:Int)
noncomputable def fv.word:fv->Str
 | .nm x=>x
 | .kx aj=>dk (bJ aj)
 | .b9 n=>cx n
def fv.val (H:aD) (z:V):fv->Prop
 | .nm x=>z=.str x
 | .kx aj=>∃ p,z=.ref p/\H p=some (.tup (aj.map V.int))
 | .b9 n=>z=.int n
theorem fv.val.dy (k:∀ c xs,H c=some (.tup xs)->H' c=some (.tup xs)):∀ {d:fv},d.val H z->d.val H' z
 | .nm _,h=>h
 | .kx _,⟨p,e,h⟩=>#[p,e,k _ _ h]
 | .b9 _,h=>h
def jN (H:aD) (zs:bh) (ds:List fv):Prop:=zs.length=ds.length/\∀ (i:Nat) z d,zs[i]?=some z->ds[i]?=some d->d.val H z
noncomputable def fy:List (Str×bA):=[("put", ["name", "powers"]),("drop", ["name"]),("undo", []),("run", ["name", "run count"]),("show", ["name"]),("gone", ["name"]),("names", []),("fate", ["name", "fate count"]),("ahead", ["name"])]
noncomputable def dm (cF x:Str):Option fv:=if cF = "powers" then (fM x).map .kx else if cF = "run count" then (cm x).bind (λ n=>if n<=1000000000000000000 then some (.b9 n) else .n) else
 if cF = "fate count" then (cm x).bind (λ n=>if n<=400 then some (.b9 n) else .n) else some (.nm x)
inductive J_ (C:Addr):bG
 |mk {vs H Q E} (cF x):vs=[.str cF,.str x]->bP x->1<=x.length->x.length<=900->(∀ d,dm cF x=some d->∀ z H',ay H H'->d.val H' z->Q z H')->(dm cF x=.n->∀ v H',jd v=.ref C->ay H H'->E v .n H')->J_ C vs H Q E
theorem XN (T:a3 K mg):cb P w mg base (g0 P w) 6 T.I9 (J_ T.df):=by
 refine T.I9.fn.sW XR .bW λ a0 A outer s H vs Q E c h=>?_
 obtain ⟨cF,x,rfl,ak,U,b,a,d⟩:=h;refine #[_,(aH (bM (br dE (J 0) aT (bp _))
   (aJ (bb (bQ (ZI T) c zR (ag (J 1) az))))
   bO)
  (aH (bM (br dE (J 0) aT (bp _))
   (aJ (bb (bQ (Kk T) c vR (ag (J 1) (ag (jB (by rfl) T.WA) az)))))
   bO)
  (aH (bM (br dE (J 0) aT (bp _))
   (aJ (bb (bQ (Kk T) c vR (ag (J 1) (ag (jB (by rfl) T.XF) az)))))
   bO)
  (aJ (bb (J 1)))))),?_]
 refine #[Y,_,Y,?_];by_cases k1:cF = "powers"
 ·rw [bc (by rw [k1])];refine bk #[x,Y,ak,b,λ aj he p H' s' f=>a (.kx aj) ?_ _ H' s' #[p,Y,f],λ ao v H' aI s'=>d ?_ v H' aI s']
  ·unfold dm;rw [if_pos k1,he];rfl
  ·unfold dm;rw [if_pos k1,ao];rfl
 rw [bZ λ e=>k1 (by injection e)];refine bE #[Y,_,Y,?_];by_cases k2:cF = "run count"
 ·rw [bc (by rw [k2])];refine bk #[x,_,Y,ak,U,b,.aB,λ n ao hm H' s'=>a (.b9 n) ?_ _ H' s' Y,λ ao H' s'=>d ?_ _ H' Y s']
  ·unfold dm;rw [if_neg k1,if_pos k2,ao];exact if_pos hm
  ·unfold dm;rw [if_neg k1,if_pos k2];cases e:cm x with
   | none=>rfl
   | some n=>exact if_neg (by have:=ao n e;omega)
 rw [bZ λ e=>k2 (by injection e)];refine bE #[Y,_,Y,?_];by_cases k3:cF = "fate count"
 ·rw [bc (by rw [k3])];refine bk #[x,_,Y,ak,U,b,.aB,λ n ao hm H' s'=>a (.b9 n) ?_ _ H' s' Y,λ ao H' s'=>d ?_ _ H' Y s']
  ·unfold dm;rw [if_neg k1,if_neg k2,if_pos k3,ao];exact if_pos hm
  ·unfold dm;rw [if_neg k1,if_neg k2,if_pos k3];cases e:cm x with
   | none=>rfl
   | some n=>exact if_neg (by have:=ao n e;omega)
 rw [bZ λ e=>k3 (by injection e)];exact bE (a (.nm x) (by unfold dm;rw [if_neg k1,if_neg k2,if_neg k3]) _ H (ay.refl _) Y)
end
noncomputable def gL:bA->bA->Option (List fv)
 | [],[]=>some []
 | cF::a,x::xs=>(dm cF x).bind λ d=>(gL a xs).map (d :: ·)
 | _,_=>.n
noncomputable def gD:bA->Option (List fv)
 | []=>.n
 | aY::ws=>(PyProof.Rows.KTD.datumAt aY fy).bind λ a=>gL a ws
theorem Ws:∀ a xs (i:Nat) cF x,a[i]?=some cF->xs[i]?=some x->dm cF x=.n->gL a xs=.n:=by
 intro a
 induction a with
 | nil=>intro xs i cF x h;cases h
 | cons k ks c =>
  intro xs i cF x U aa b;cases xs with
  | nil=>rfl
  | cons y ys =>
   show (dm k y).bind _=.n;cases i with
   | zero =>
    cases U;cases aa;rw [b];rfl
   | succ i =>
    cases dm k y with
    | none=>rfl
    | some d =>
     rw [c ys i cF x U aa b];rfl
theorem Wt:∀ e xs ds,e.length=xs.length->ds.length=e.length->(∀ (i:Nat) cF x d,e[i]?=some cF->xs[i]?=some x->ds[i]?=some d->dm cF x=some d)->gL e xs=some ds:=by
 intro e
 induction e with
 | nil =>
  intro xs ds U aa _;cases xs with
  | nil=>cases ds with
   | nil=>rfl
   | cons _ _=>cases aa
  | cons _ _=>cases U
 | cons k ks f =>
  intro xs ds U aa h;cases xs with
  | nil=>cases U
  | cons y ys=>cases ds with
   | nil=>cases aa
   | cons d ds =>
    show (dm k y).bind _=_;rw [h 0 k y d rfl rfl rfl];rw [f ys ds (Nat.succ.inj U) (Nat.succ.inj aa) λ i cF x b4 a b c=>h (i+1) cF x b4 a b c];rfl
theorem Ba:∀ a xs,a.length≠xs.length->gL a xs=.n:=by
 intro a
 induction a with
 | nil=>intro xs h;cases xs with
  | nil=>exact absurd rfl h
  | cons _ _=>rfl
 | cons k ks b =>
  intro xs h;cases xs with
  | nil=>rfl
  | cons y ys =>
   show (dm k y).bind _=.n;cases dm k y with
   | none=>rfl
   | some d =>
    rw [b ys λ z=>h (by rw [gq,gq,z])];rfl
section
variable {P:Program} {w:World} {K:aP} {mg:Str->b_} {base:Heap}
inductive Kz (C:Addr):bG
 |mk {vs H Q E} (l:Addr) (aY:Str) (ws:bA):vs=[.ref l]->H l=some (.lst ((aY::ws).map V.str))->ws.length<=900->(∀ y∈ws,bP y/\1<=y.length/\y.length<=900)->(∀ ds,gD (aY::ws)=some ds->∀ aR zs H',H aR=.n->ay H H'->H' aR=some (.lst zs)->jN H' zs ds->Q (.ref aR) H')->(gD (aY::ws)=.n->∀ v H',jd v=.ref C->ay H H'->E v .n H')->Kz C vs H Q E
theorem Yc (T:a3 K mg):cb P w mg base (g0 P w) 7 T.JI (Kz T.df):=by
 refine T.JI.fn.sW BU .bW λ a0 A outer s H vs Q E gy h=>?_
 obtain ⟨l,aY,ws,rfl,M,abc,jb,fc,S⟩:=h;refine #[_,(aH (bq 1 BU (V9 T.RP T.Td (ag (b3 c1 (J 0) aM (λ _ _=>rfl)) az)))
  (aH (bM (dw.pt (dP (br mq (J 1) d4 (bp _)) (e9 (br gN (bS eY T.dI dH (ag (J 0) az)) (bK e7 (bS eY T.dI dH (ag (J 1) az)) aM) (bp _)))))
   (aJ (fU wU.y4 Y Y T.nX (by rfl) (ag aT az)))
   bO)
  (aJ (bb (UR (eg BU (N:=["kind", "word"]) (js:=[.n,.n]) (eX _)) Y Y Y Y Vi (SM Y Y T.nv (ag (J 1) (ag (hs wN (J 0) (hr aM) hq) az))) (λ _ _ _ _ _=>(ra (K:=K) (n:=2) Y Y (fD e5 (fD (n0 (i:=1) (show List.Nodup (["kind", "word"]:bA) from by decide +kernel) Y (Or.inl Y) (Or.inr Y)) lp)))) (λ _ _ _ _ _=>gu)
    (λ _ _ _ _ _ lP=>(bQ (XN T) gy (QQ lP) (ag (J 0) (ag (J 1) az))))))))),?_]
 refine #[l,_,_,.str aY,Y,Y,aS.of M,eH .aB Y,aY,Y,?_];cases C:PyProof.Rows.KTD.datumAt aY fy with
 | none =>
  refine .inr #[C,?_];refine #[Y,_,Y,bk #[bF,S ?_ _ H Y (ay.refl _)]];show (PyProof.Rows.KTD.datumAt aY fy).bind _=.n;rw [C];rfl
 | some f =>
 have aC:gD (aY::ws)=gL f ws:=by
  show (PyProof.Rows.KTD.datumAt aY fy).bind _=_;rw [C];rfl
 refine .inl #[f,C,λ t aG=>?_];have L:∀ H',aX K H' t (f.map V.str):=aG;refine #[Y,_,Y,bE #[l,_,Y,.inl (aS.of M),t,_,Y,.inr (L H),_,_,Y,Y,Y,_,Y,?_]];by_cases hlen:f.length=ws.length
 case neg =>
  rw [bZ (show ¬ V.int _=V.int _ from λ e=>hlen (by
   injection e with e;simp at e;omega))]
  exact bk #[bF,S (by rw [aC,Ba _ _ hlen]) _ H Y (ay.refl _)]
 rw [bc (show V.int _=V.int _ by simp [hlen])];refine bE ?_;refine #[1,Y,l,_,Y,aS.of M,λ O yE=>#[t,O,Y,#[_,L _],#[_,aS.of bN],λ D q=>?_]];have Z:ig ((aY::ws).map V.str) (some 1) .n=ws.map V.str:=by
  unfold ig;rw [zW .aB,es,gq,show min (1:Int).toNat ((ws.map V.str).length+1)=1 by omega];exact nz (bx _)
 have s2:ay H (upd H O (.lst (ig ((aY::ws).map V.str) (some 1) .n))):=ay.new yE;rw [Z] at q s2 ⊢;refine Vy (by rw [b7];simp;omega) (λ i σ' H' zs=>(∃ u v,σ'=[u,v])/\ay (upd H O (.lst (ws.map V.str))) H'/\∃ ds:List fv,jN H' zs ds/\ds.length=i/\∀ (j:Nat) (cF x) d,f[j]?=some cF->ws[j]?=some x->ds[j]?=some d->dm cF x=some d) #[#[_,_,Y],ay.new q,[],#[Y,λ i z d h=>by cases h],Y,λ j cF x d _ _ h=>by cases h] (λ i σ' H' zs _ h=>#[L _,aS.of (h.2.1 _ _ bN)]) ?_ ?_
 ·rintro i x y p σ' H' zs R ae X ah r jc ⟨⟨u,v,rfl⟩,s',ds,dX,dl,hW⟩ fb;obtain ⟨cF,aV,rfl⟩:∃ cF,f[i]?=some cF/\V.str cF=x:=by rw [et] at ae;exact tM.mp ae
  obtain ⟨cj,hd,rfl⟩:∃ cj,ws[i]?=some cj/\V.str cj=y:=by rw [et] at X;exact tM.mp X
  refine #[p,_,Y,aX.of bN,Y,_,_,Y,_,_,Y,Y,?_];have sp:ay H' (upd H' p (.tup [V.str cF,V.str cj])):=ay.new ah;obtain ⟨qb,i7,lO⟩:=jb cj (b5 hd);refine #[cF,cj,Y,qb,i7,lO,λ d Nu z k s4 aI=>?_,λ ao v k aI s4=>S (by rw [aC,Ws _ _ i cF cj aV hd ao]) v k aI ((s2.trans s').trans (sp.trans s4))];have G:=sp.trans s4;refine fb _ z k (G _ _ r) #[#[_,_,Y],λ c o e=>?_,ds++[d],?_,by rw [c9,dl];rfl,λ j Om uX b4 a b c=>?_]
  ·rw [bC (cq e q)];exact G _ _ (s' _ _ e)
  ·have kt:∀ c xs,k c=some (.tup xs)->(upd k D (.lst (zs++[z]))) c=some (.tup xs):=λ c xs h=>by
    rw [bC (fo h (G _ _ r) nofun)];exact h
   refine #[by rw [c9,c9,dX.1];rfl,λ j fx b4 m B=>?_];rcases lj j zs.length with g|g
   ·rw [jm g] at m;rw [jm (by rw [<-dX.1];exact g)] at B;exact (((dX.2 j fx b4 m B).dy λ c xs h=>G _ _ h).dy kt)
   ·have I:j=zs.length:=by
     have:=(dr.mp m).1;rw [c9] at this;have U:[z].length=1:=rfl;omega
    subst I;rw [j4 (bx _),pM] at m;rw [dX.1,j4 (bx _),pM] at B;cases m;cases B;exact aI.dy kt
  ·rcases lj j ds.length with g|g
   ·rw [jm g] at c;exact hW j Om uX b4 a b c
   ·have I:j=i:=by
     have:=(dr.mp c).1;rw [c9] at this;have U:[d].length=1:=rfl;omega
    subst I;rw [<-dl,j4 (bx _),pM] at c;cases c;rw [aV] at a;rw [hd] at b;cases a;cases b;exact Nu
 ·rintro σ' H' zs r jc ⟨_,s',ds,dX,dl,hW⟩;have em:min (f.map V.str).length (ws.map V.str).length=f.length:=by simp [hlen]
  rw [em] at dl;exact fc ds (by rw [aC,Wt _ _ ds hlen dl hW]) D zs H' (s2.free q) (s2.trans s') r dX
end
open PySem bj ck hx PySem.NumText
theorem TX (c) (l) (h:∀ y∈l,y.length<=B):(Str.join (aL c) l).length<=l.length*(B+1):=by
 have U:=StrLaws.join_length_le (aL c) l;have aa:=t8 l h;have a:(aL c).length=1:=rfl;rw [a] at U;rw [Nat.mul_add];omega
theorem n2 (h:x≠y):decide (V.str x=V.str y)=.f:=bZ λ z=>by injection z with z;exact h z
noncomputable def qs (ys:bA):Str:=if ys=[] then "none" else Str.join (aL 32) ys
noncomputable def C7:rH->Str
 | .ph => "open"
 | .rests n c => "rests " ++ cx (n:Int) ++ " " ++ dk (bJ c)
 | .round b l => "round " ++ cx (b:Int) ++ " " ++ cx (l:Int)
def yg:rH->Prop
 | .ph=>True
 | .rests n c=>(n:Int)<10 ^ 60/\c.length=10/\∀ e∈c,0<=e/\e<10 ^ 60
 | .round b l=>(b:Int)<10 ^ 60/\(l:Int)<10 ^ 60
section
variable {P:Program} {w:World} {K:aP} {mg:Str->b_} {base:Heap}
def Wg:bG:=λ vs H Q Z=>∃ (l:Addr) (ys:bA),vs=[.ref l]/\H l=some (.lst (ys.map V.str))/\(ys.map (·.length)).sum+ys.length<=1048576/\Q (.str (qs ys)) H
theorem H_ (T:a3 K mg):cb P w mg base cn 1 T.GH Wg:=by
 refine T.GH.fn.dO Wd .bW λ a0 A outer s H vs Q E b h=>?_
 obtain ⟨l,ys,rfl,a,av,q⟩:=h;refine #[_,(aJ (bb (UW (br gM (bS eY T.dI dH (ag (J 0) az)) aM (bp _)) (eE gr pK pL q9 aT (ag (J 0) az)) aT))),?_];refine #[l,_,Y,.inl (aS.of a),_,_,Y,Y,_,Y,?_];unfold qs at q;by_cases h0:ys=[]
 ·subst h0;exact bE q
 ·rw [if_neg h0] at q;have ah:=wo.mpr h0;rw [bc (show 0<((ys.map V.str).length:Int) by rw [bz];omega)];refine bk #[Y,_,l,ys,Y,Y,a,.aB,av,?_];rw [g7];exact q
theorem F2 (c8:aj.length=10) (a:∀ e∈aj,0<=e/\e<10 ^ 60):(dk (bJ aj)).length<=700:=by
 have aK:=EU λ e he=>#[(a e he).1,(a e he).2]
 have c:=FF aK;have d:=TX 42 _ c;have b:=Gz (bJ aj);rw [pC c8] at b;unfold dk;split
 ·decide
 ·have:=Af (63+1) b;omega
def Y7:bG:=λ vs H Q Z=>∃ (v:V) (o:rH),vs=[v]/\CO H v o/\yg o/\∀ H',ay H H'->Q (.str (C7 o)) H'
theorem YO (T:a3 K mg):cb P w mg base cn 4 T.KC Y7:=by
 refine T.KC.fn.dO xt .bW λ a0 A outer s H vs Q E i h=>?_
 obtain ⟨v,o,rfl,g,k,q⟩:=h;refine #[_,(aH (bM (br dE (b3 fP (J 0) aM (λ Z Z=>rfl)) aT (bp _))
   (aJ (bb aT))
   bO)
  (aH (bq 1 xt (bQ (uC T) i bT (ag (b3 fP (J 0) aM (λ Z Z=>rfl)) az)))
  (aH (bM (br dE (b3 fP (J 0) aM (λ Z Z=>rfl)) aT (bp _))
   (aH (bq 2 xt (bQ (xv T) i bT (ag (b3 fP (J 0) aM (λ Z Z=>rfl)) az)))
  (aJ (bb (Ga (J 1) (J 2)))))
   bO)
  (aH (bq 3 xt (bQ (uC T) i bT (ag (b3 fP (J 0) aM (λ Z Z=>rfl)) az)))
  (aJ (bb (Ga (J 1) (J 3)))))))),?_]
 cases o with
 | ph =>
  obtain ⟨a,rfl,ak⟩:=g;refine #[a,_,_,_,Y,Y,aX.of ak,Y,Y,_,Y,?_];rw [bc rfl];exact bk (q H (ay.refl _))
 | rests n c =>
  obtain ⟨a,d,rfl,ak,hd⟩:=g;obtain ⟨f,e,j⟩:=k;refine #[a,_,_,_,Y,Y,aX.of ak,Y,Y,_,Y,?_];rw [n2 (show ("rests" : Str) ≠ "open" by decide)];refine bE #[a,_,_,_,Y,Y,aX.of ak,Y,n,Y,.au,f,λ H1 s1=>?_];refine #[a,_,_,_,Y,Y,aX.of (s1 _ _ ak),Y,Y,_,Y,?_];rw [bc rfl];refine bk #[a,_,_,_,Y,Y,aX.of (s1 _ _ ak),Y,d,c,Y,s1 _ _ hd,e,j,λ aq s2=>?_];have m:(cx n).length<=61:=px .au .au;have p:=F2 e j;refine #[_,#[.inl Y,.au],_,#[.inl Y,.au],q aq (s1.trans s2)]
 | round b l =>
  obtain ⟨a,rfl,ak⟩:=g;obtain ⟨f,e⟩:=k;refine #[a,_,_,_,Y,Y,aX.of ak,Y,Y,_,Y,?_];rw [n2 (show ("round" : Str) ≠ "open" by decide)];refine bE #[a,_,_,_,Y,Y,aX.of ak,Y,b,Y,.au,f,λ H1 s1=>?_];refine #[a,_,_,_,Y,Y,aX.of (s1 _ _ ak),Y,Y,_,Y,?_];rw [n2 (show ("round" : Str) ≠ "rests" by decide)];refine bE #[a,_,_,_,Y,Y,aX.of (s1 _ _ ak),Y,l,Y,.au,e,λ aq s2=>?_];have m:(cx b).length<=61:=px .au .au;have p:(cx l).length<=61:=px .au .au;exact #[_,#[.inl Y,.au],_,#[.inl Y,.au],q aq (s1.trans s2)]
inductive Jz:bG
 |mk {vs H Q E} (l b:Addr) (ys:bh) (rows:d7) (ai:bB):vs=[.ref l,.ref b]->H l=some (.lst ys)->c_ H ys rows->ja rows->H b=some (tupI ai)->ai.length=10->rows.length<=1000->(∀ aR H' zs,H aR=.n->ay H H'->H' aR=some (.lst zs)->c_ H' zs (ml rows ai)->Q (.ref aR) H')->Jz vs H Q E
theorem WS (U:M∈p) (aa:∀ a∈p,M<=a):nn p=decide (0<=M):=by
 by_cases h:0<=M
 ·rw [bc h,jo];intro x ae;have:=aa x ae;omega
 ·rw [bZ h,lh];intro z;exact h (jo.mp z M U)
theorem Xn (T:a3 K mg):cb P w mg base cn 3 T.IA Jz:=by
 refine T.IA.fn.dO ur .bW λ a0 A outer s H vs Q E L h=>?_
 obtain ⟨l,b,ys,rows,ai,rfl,C,D,c8,aV,Z,hlen,q⟩:=h;refine #[_,(aH (bq 2 ur (d5 az))
  (aH (hQ f_ Y (Gd Y Y T.Jg (ag (J 0) az)) (tC Y (fD (fL 3 ur) (fD (fL 4 ur) lp)))
   (aH (bq 5 ur (bQ (A0 T) L bT (ag (J 1) (ag (J 4) (ag (zB zZ aM) az)))))
  (aJ (bM (dw.pt (vU (br vE (bS (Vs Y) T.vC vz (ag (J 5) az)) aM (bp _)) (wL (br dE (bQ (BF T) L bT (ag (J 0) (ag (J 5) az))) (J 3) (bp _)))))
   (aJ (gU (eE nU tU tV xa (J 2) (ag (J 5) az))))
   bO))))
  (aJ (bb (J 2))))),?_]
 refine #[bF,λ f H1 f1 s1 X=>?_];refine #[l,ys,Y,s1 _ _ C,?_];refine GQ (λ i σ aq=>(∃ u v x,σ=[some (.ref l),some (.ref b),some (.ref f),u,v,x])/\ay H aq/\∃ zs,aq f=some (.lst zs)/\c_ aq zs ((List.range i).filterMap (iP rows ai)))
  #[#[.n,.n,.n,Y],s1,[],X,c_.nil] (λ i σ aq _ ⟨_,s2,_⟩=>s2 _ _ C) ?_ ?_
 ·rintro i x p σ aq ae ah ⟨⟨u,v,uX,rfl⟩,s2,zs,m,n⟩;obtain ⟨c,a,af,rfl,ak⟩:=D.at ae;have O:=c8 c (b5 af);have sp:=ay.new (o:=.tup [.int i,.ref a]) ah;have s3:=s2.trans sp;refine #[p,_,Y,aX.of bN,Y,_,_,Y,_,_,Y,Y,?_];refine #[_,Y,b,a,ai,c,-1,Y,s3 _ _ aV,s3 _ _ ak,#[.aB,.aB],.au,λ w t s4 hw=>?_];have N:(bX ai c (-1)).length=10:=xb Z O;have I:(List.range (i+1)).filterMap (iP rows ai)=(List.range i).filterMap (iP rows ai)++(iP rows ai i).toList:=by
   rw [List.range_succ,List.filterMap_append];cases e:iP rows ai i<;>simp [e]
  have y:iP rows ai i=if nn (bX ai c (-1))=.t/\cO rows (bX ai c (-1))=some i then some (bX ai c (-1)) else .n:=by
   unfold iP;rw [wG af]
  have s5:=s3.trans s4;have jc:zs.length<=i:=by
   rw [n.1];exact dF (Aa _ _) (by rw [jv];exact bx _)
  have ar:=(dr.mp af).1;have skip:iP rows ai i=.n->∀ j,ay t j->(∃ u v x,[some (V.ref l),some (.ref b),some (.ref f),some (.int i),some (.ref a),some (.ref w)]=[some (.ref l),some (.ref b),some (.ref f),u,v,x])/\ay H j/\∃ zs,j f=some (.lst zs)/\c_ j zs ((List.range (i+1)).filterMap (iP rows ai)):=by
   intro e j g;refine #[#[_,_,_,Y],s5.trans g,zs,g _ _ (s4 _ _ (sp _ _ m)),?_];rw [I,e];show c_ j zs (_++[]);rw [qJ];exact ((n.same sp).same s4).same g
  refine #[w,bX ai c (-1),Y,aX.of hw,(by intro z;rw [z] at N;cases N),λ M r6 r7=>#[_,_,Y,Y,_,Y,?_]];have R:=WS r6 r7;rw [<-R];cases aC:nn (bX ai c (-1)) with
  | false =>
   refine bE ?_;exact skip (by rw [y,aC,if_neg (by rintro ⟨z,_⟩;cases z)]) t (ay.refl t)
  | true =>
   refine bk #[l,w,ys,rows,bX ai c (-1),Y,s5 _ _ C,D.same s5,hw,λ j g=>#[?_,_,Y,?_]]
   ·cases cO rows (bX ai c (-1))<;>rfl
   ·by_cases r:cO rows (bX ai c (-1))=some i
    ·rw [r];rw [show decide (iK (some i)=V.int i)=.t from bc rfl];refine bk #[.inl #[Y,_,aS.of (g _ _ (s4 _ _ (sp _ _ m)))],f,zs,.ref w,Y,Y,g _ _ (s4 _ _ (sp _ _ m)),by rw [b7];omega,λ fa G S=>?_];refine #[#[_,_,_,Y],?_,_,S,?_]
     ·intro d o B;exact G d o (λ z=>by rw [z,f1] at B;cases B) (g _ _ (s5 _ _ B))
     ·rw [I,y,aC,if_pos #[Y,r]];have NZ:=((n.same sp).same s4).same g;exact c_.but (NZ.app (c_.one #[w,Y,g _ _ hw])) (g _ _ (s4 _ _ (sp _ _ m))) G
    ·rw [show decide (iK (cO rows (bX ai c (-1)))=V.int i)=.f from bZ λ z=>r ?_]
     ·exact bE (skip (by rw [y,if_neg (by rintro ⟨_,z⟩;exact r z)]) j g)
     ·cases e:cO rows (bX ai c (-1)) with
      | none=>rw [e] at z;cases z
      | some k =>
       rw [e] at z;have fx:k=(i:Int):=by injection z
       rw [show k=i by omega]
 ·rintro σ aq ⟨⟨u,v,uX,rfl⟩,s2,zs,m,n⟩;rw [D.1] at n;exact (q f aq zs f1 s2 m n)
inductive Im:bG
 |mk {vs H Q E} (b a:Addr) (xs:bh) (aw:cN) (ai:bB):vs=[.ref b,.ref a]->H b=some (.tup xs)->f7 H xs aw->xs.length<=16->H a=some (tupI ai)->ai.length=10->(∀ aR H' zs,H aR=.n->ay H H'->H' aR=some (.lst zs)->c_ H' zs (l9 (ml (rowsOf aw) ai))->Q (.ref aR) H')->Im vs H Q E
theorem VZ (T:a3 K mg):cb P w mg base cn 5 T.GD Im:=by
 refine T.GD.fn.dO Wc .bW λ a0 A outer s H vs Q E f h=>?_
 obtain ⟨b,a,xs,aw,ai,rfl,j,hf,k,ak,e,q⟩:=h;refine #[_,(aJ (bb (bS XA T.G2 GJ (ag (bQ (Xn T) f bT (ag (bQ (BR T) f bT (ag (J 0) az)) (ag (J 1) az))) az)))),?_];refine #[b,xs,aw,Y,j,hf,.au,λ l H1 ys fl s1 m o=>?_];refine #[l,a,ys,rowsOf aw,ai,Y,m,o,lu aw,s1 _ _ ak,e,by rw [ry,<-hf.1];omega,λ aR aq zs t s2 n d=>?_];have u:zs.length<=16:=by
  rw [d.1];exact dF (IE _ _) (by rw [ry,<-hf.1];exact k)
 refine #[aR,zs,_,Y,n,d,λ c af z=>?_,.au,λ r g i s3 p=>?_]
 ·have:=(Vo (lu aw) e af).2.1;rw [z] at this;cases this
 ·exact q r g _ (s1.free (s2.free i)) ((s1.trans s2).trans s3) p (d.same s3).O0
end
theorem nt {B:Prop} (h:x≠y) (k:B):if decide (V.str x=V.str y)=.t then A else B:=by
 rw [n2 h];exact bE k
theorem pb {B:Prop} (k:A):if decide (V.str x=V.str x)=.t then A else B:=by
 rw [bc rfl];exact bk k
section
variable {P:Program} {w:World} {K:aP} {mg:Str->b_} {base:Heap}
inductive BB (T:a3 K mg):bG
 |mk {vs H Q E} (bn l aE:Addr) (word:Str) (zs:bh) (fl:List (Str×V)):vs=[.ref bn,.str word,.ref l]->H l=some (.lst zs)->H bn=some (.ins T.fR aE fl)->fl.lookup ("put" : Str)=.n->fl.lookup ("drop" : Str)=.n->fl.lookup ("undo" : Str)=.n->((word = "put" /\ ∃ x p,zs=[x,p]/\wY T [.ref bn,x,p] H (λ _ H'=>Q .aQ H') E)\/(word = "drop" /\ ∃ x,zs=[x]/\w7 T [.ref bn,x] H (λ _ H'=>Q .aQ H') E)\/(word = "undo" /\ w8 T [.ref bn] H (λ _ H'=>Q .aQ H') E))->BB T vs H Q E
theorem WV (T:a3 K mg):cb P w mg base (dY P w) 4 T.HG (BB T):=by
 refine T.HG.fn.gh W4 .bW λ a0 A outer s H vs Q E c h=>?_
 obtain ⟨bn,l,aE,word,zs,fl,rfl,b,a,d,e,f,h⟩:=h;refine #[_,(aJ (bM (br dE (J 1) aT (bp _))
   (aJ (gU (ho (J 0) T.dM T.xe.at_ (XI T) (c.mono .aB) T.xe.bd .nil hc (ag (b3 c1 (J 2) aM (λ Z Z=>rfl)) (ag (b3 c1 (J 2) aM (λ Z Z=>rfl)) az)))))
   (aJ (bM (br dE (J 1) aT (bp _))
   (aJ (gU (ho (J 0) T.dM T.xi.at_ (X8 T) (c.mono .aB) T.xi.bd .nil hc (ag (b3 c1 (J 2) aM (λ Z Z=>rfl)) az))))
   (aJ (gU (He (J 0) T.dM T.xl.at_ (Ya T) (c.mono .aB) T.xl.bd .nil hc))))))),?_]
 refine #[Y,_,Y,?_];rcases h with ⟨rfl,x,p,rfl,h⟩|⟨rfl,x,rfl,h⟩|⟨rfl,h⟩
 ·exact pb #[bn,aE,fl,Y,a,d,l,_,_,_,Y,Y,aS.of b,Y,l,_,_,_,Y,Y,aS.of b,Y,h]
 ·exact nt .aB #[Y,_,Y,pb #[bn,aE,fl,Y,a,e,l,_,_,_,Y,Y,aS.of b,Y,h]]
 ·exact nt .aB #[Y,_,Y,nt .aB #[bn,aE,fl,Y,a,f,h]]
structure PW (H:aD) (kvs:List (Key×V)) (x:Str) (w a:Addr) (n:Int) (ai:bB):Prop where
 aI:bU kvs (b0 x)=some (.ref w)
 hw:H w=some (.tup [.ref a,.int n])
 ak:H a=some (tupI ai)
 c8:ai.length=10
 kL:∀ e∈ai,0<=e/\e<=10 ^ 30
 gz:0<=n
 Mh:n<=10 ^ 30
def Pg (H:aD) (aw:cN) (n:Int) (ai:bB) (Q:b2) (word:Str) (i8:bh):Prop :=
 (word = "gone" /\ i8=[]/\∀ H',ay H H'->Q (.str (cx n)) H')\/(word = "show" /\ i8=[]/\∀ H',ay H H'->Q (.str (dk (bJ ai))) H') \/
 (word = "fate" /\ ∃ m,i8=[.int m]/\0<=m/\m<=400/\∀ o H',ay H H'->EJ (rowsOf aw) m.toNat ai o->yg o->Q (.str (C7 o)) H') \/
 (word = "ahead" /\ i8=[]/\∀ H',ay H H'->Q (.str (qs ((l9 (ml (rowsOf aw) ai)).map λ q=>dk (bJ q)))) H')
inductive uf (T:a3 K mg):bG
 |mk {vs H Q E} (bn l pr hd dl:Addr) (word:Str) (zs:bh) (kvs:List (Key×V)) (ds:bh):vs=[.ref bn,.str word,.ref l]->H l=some (.lst zs)->eO T H bn pr hd dl kvs ds->((ib (.str word) [V.str "put", V.str "drop", V.str "undo"]=.t/\∀ H1,ay H H1->BB T [.ref bn,.str word,.ref l] H1 (λ _ H'=>Q (.str "ok") H') E) \/ (word = "names" /\ ∃ ns,kvs.map (·.1)=ns.map b0/\ns.length<64/\(∀ x∈ns,x.length<=8)/\∀ ms,ms.Perm ns->PyProof.Rows.sortedS ms=.t->∀ H',ay H H'->Q (.str (qs ms)) H') \/ (word = "run" /\ ∃ (x:Str) (m:Int),zs=[.str x,.int m]/\∀ H1,ay H H1->rl T [.ref bn,.str x,.int m] H1 (λ v H'=>∃ k:Nat,v=.int k/\k<=10 ^ 30/\∀ kB,ay H' kB->Q (.str (cx k)) kB) E) \/ (∃ (x:Str) (i8:bh),zs=.str x::i8/\(word = "gone" \/ word = "show" \/ word = "fate" \/ word = "ahead") /\ ((bU kvs (b0 x)=.n/\∀ H1,ay H H1->E (.ref T.c4) .n H1)\/∃ (w a:Addr) (n:Int) (ai:bB) (xs:bh) (aw:cN),PW H kvs x w a n ai/\H pr=some (.tup xs)/\f7 H xs aw/\xs.length<=16/\Pg H aw n ai Q word i8)))->uf T vs H Q E
theorem TB {T:a3 K mg} (h:rl T vs H Q E) (k:∀ v H',Q v H'->b v H'):rl T vs H b E:=by
 obtain ⟨bn,pr,hd,dl,kvs,ds,v,m,e,B,G,I,aC,L,M,N,q⟩:=h;refine #[bn,pr,hd,dl,kvs,ds,v,m,e,B,G,I,aC,L,M,N,λ x u i j=>?_];obtain ⟨w,a,xs,aw,ai,n,l,o,p,s,y,z,A,C,D,q⟩:=q x u i j;exact #[w,a,xs,aw,ai,n,l,o,p,s,y,z,A,C,D,λ dQ r aR b1 t H' a1 a2 c d f g=>k _ _ (q dQ r aR b1 t H' a1 a2 c d f g)]
theorem VY (T:a3 K mg):cb P w mg base (dY P w) 9 T.GC (uf T):=by
 refine T.GC.fn.gh w6 .bW λ a0 A outer s H vs Q E d h=>?_
 obtain ⟨bn,l,pr,hd,dl,word,zs,kvs,ds,rfl,eB,B,h⟩:=h;refine #[_,(aH (bM (br pR (J 1) (hp (ag aT (ag aT (ag aT az)))) (by with_unfolding_all rfl))
   (aH (gU (bQ (WV T) d hc (ag (J 0) (ag (J 1) (ag (J 2) az)))))
  (aJ (bb aT)))
   bO)
  (aH (bM (br dE (J 1) aT (bp _))
   (aJ (bb (bQ (H_ T) d bT (ag (He (J 0) T.dM T.xn.at_ (Yt T) (d.mono .aB) T.xn.bd .nil bT) az))))
   bO)
  (aH (bq 3 w6 (b3 c1 (J 2) aM (λ _ _=>rfl)))
  (aH (bM (br dE (J 1) aT (bp _))
   (aJ (bb (bQ (uC T) d bT (ag (ho (J 0) T.dM T.xf.at_ (XJ T) (d.mono .aB) T.xf.bd .nil hc (ag (J 3) (ag (b3 c1 (J 2) aM (λ _ _=>rfl)) az))) az))))
   bO)
  (aH (bM (br dE (J 1) aT (bp _))
   (aJ (bb (bQ (uC T) d bT (ag (ho (J 0) T.dM T.xj.at_ (X9 T) (d.mono .aB) T.xj.bd .nil hc (ag (J 3) az)) az))))
   bO)
  (aH (bq 4 w6 (ho (J 0) T.dM T.xp.at_ (YN T) (d.mono .aB) T.xp.bd .nil hc (ag (J 3) az)))
  (aH (bM (br dE (J 1) aT (bp _))
   (aJ (bb (bQ (xv T) d bT (ag (J 4) az))))
   bO)
  (aH (bM (br dE (J 1) aT (bp _))
   (aJ (bb (bQ (YO T) d bT (ag (bQ (R9 T) d bT (ag (hj (J 0) (by rfl)) (ag (J 4) (ag (b3 c1 (J 2) aM (λ _ _=>rfl)) az)))) az))))
   bO)
  (aJ (bb (bQ (H_ T) d bT (ag (gs (eg w6 (N:=["found"]) (js:=[.n]) (eX _)) Y (iX (bQ (VZ T) d bT (ag (hj (J 0) (by rfl)) (ag (J 4) az)))) (λ _ _ _ _=>e5) (λ _ _ _ _=>gu)
    (λ _ _ _ _=>(bQ (xv T) d bT (ag (J 0) az)))) az)))))))))))),?_]
 obtain ⟨aE,kr⟩:=B.at_;refine #[bF,λ t H1 f1 s1 U=>#[t,_,Y,.inr (aX.of U),Y,Y,_,Y,?_]];have aV:=s1 _ _ eB;have aC:=B.same s1;have g:=s1 _ _ kr;show (if ib (.str word) [V.str "put", V.str "drop", V.str "undo"]=.t then _ else _);rcases h with ⟨fY,h⟩|h
 ·rw [fY];exact bk (h H1 s1)
 ·have fY:ib (.str word) [V.str "put", V.str "drop", V.str "undo"]=.f:=by
   rcases h with ⟨rfl,_⟩|⟨rfl,_⟩|⟨_,_,_,rfl|rfl|rfl|rfl,_⟩<;>decide +kernel
  rw [fY];refine bE #[Y,_,Y,?_];rcases h with ⟨rfl,ns,hA,M4,ae,q⟩|h
  ·refine pb #[bn,aE,_,Y,g,Y,bn,pr,hd,dl,kvs,ds,ns,Y,aC,hA,M4,λ ms pm Mu mS aq f2 s2 aa=>?_];refine #[mS,ms,Y,aa,?_,q ms pm Mu aq (s1.trans s2)];have:=t8 ms (B:=8) λ y r=>ae y (pm.mem_iff.mp r)
   have:=pm.length_eq;omega
  obtain ⟨x,i8,rfl,qi⟩:∃ x i8,zs=.str x::i8/\word ≠ "names" := by
   rcases h with ⟨rfl,x,m,rfl,_⟩|⟨x,i8,rfl,rfl|rfl|rfl|rfl,_⟩<;>exact #[_,_,Y,.aB]
  refine nt qi #[l,_,_,_,Y,Y,aS.of aV,eH .aB Y,Y,_,Y,?_];rcases h with ⟨rfl,x,m,e,h⟩|⟨x,i8,e,hw,h⟩
  ·cases e;refine pb #[bn,aE,_,Y,g,Y,l,_,_,_,Y,Y,aS.of aV,Y,?_];dsimp only [gk];refine TB (h H1 s1) ?_;rintro v H' ⟨k,rfl,hA,q⟩;exact #[_,Y,.au,.au,q]
  ·cases e;have Mi:word ≠ "run" := by rcases hw with rfl|rfl|rfl|rfl<;>decide
   refine nt Mi #[Y,_,Y,?_];by_cases j:word = "gone"
   ·subst j;refine pb #[bn,aE,_,Y,g,Y,bn,pr,hd,dl,kvs,ds,.str x,Y,aC,trivial,λ aI=>?_,λ u f=>?_]
    ·rcases h with ⟨_,q⟩|⟨b1,a,n,ai,xs,aw,ah,_⟩
     ·exact q H1 s1
     ·rw [show ik kvs (.str x)=bU kvs (b0 x) from rfl,ah.aI] at aI;cases aI
    ·rcases h with ⟨aI,_⟩|⟨b1,a,n,ai,xs,aw,ah,_,_,_,⟨_,_,q⟩|⟨z,_⟩|⟨z,_⟩|⟨z,_⟩⟩
     ·rw [show ik kvs (.str x)=bU kvs (b0 x) from rfl,aI] at f;cases f
     ·rw [show ik kvs (.str x)=bU kvs (b0 x) from rfl,ah.aI] at f;cases f;exact #[b1,_,_,Y,s1 _ _ ah.hw,n,Y,ah.gz,by have:=ah.Mh;omega,λ aq s2=>q aq (s1.trans s2)]
     all_goals exact absurd z .aB
   ·refine nt j #[bn,aE,_,Y,g,Y,bn,pr,hd,dl,kvs,ds,.str x,Y,aC,trivial,λ aI=>?_,λ u f=>?_]
    ·rcases h with ⟨_,q⟩|⟨b1,a,n,ai,xs,aw,ah,_⟩
     ·exact q H1 s1
     ·rw [show ik kvs (.str x)=bU kvs (b0 x) from rfl,ah.aI] at aI;cases aI
    rcases h with ⟨aI,_⟩|⟨b1,a,n,ai,xs,aw,ah,m8,hf,PA,h⟩
    ·rw [show ik kvs (.str x)=bU kvs (b0 x) from rfl,aI] at f;cases f
    rw [show ik kvs (.str x)=bU kvs (b0 x) from rfl,ah.aI] at f;cases f;have S:=s1 _ _ ah.ak;have Py:∀ e∈ai,0<=e/\e<10 ^ 60:=λ e he=>#[(ah.kL e he).1,by have:=(ah.kL e he).2;omega]
    have Eb:=jo.mpr λ e he=>(ah.kL e he).1
    have c8:=ah.c8;refine #[b1,_,_,Y,s1 _ _ ah.hw,Y,_,Y,?_];rcases h with ⟨z,_⟩|⟨rfl,rfl,q⟩|h
    ·exact absurd z j
    ·exact pb #[a,ai,Y,S,c8,Py,λ aq s2=>q aq (s1.trans s2)]
    have ns:word ≠ "show" := by rcases h with ⟨rfl,_⟩|⟨rfl,_⟩<;>decide
    refine nt ns #[Y,_,Y,?_];rcases h with ⟨rfl,m,rfl,m0,r8,q⟩|⟨rfl,rfl,q⟩
    ·refine pb #[bn,_,aE,_,_,Y,g,T.dM,T.xr,Y,l,_,_,_,Y,Y,aS.of aV,Y,pr,a,xs,aw,ai,m,Y,s1 _ _ m8,hf.same s1,.au,S,c8,Eb,m0,.au,λ v aq o s2 M xR=>?_];have X:yg o:=by
      cases o with
      | ph=>trivial
      | rests k c =>
       obtain ⟨k1,k2,_⟩:=M;have j:=mm (lu aw) c8 Eb k2;have p:=zL (t4 hf) (λ e he=>(ah.kL e he).2) k2;exact #[.au,j.1,λ e he=>#[jo.mp j.2 e he,by have:=p e he;omega]]
      | round b aap =>
       obtain ⟨k1,k2,_⟩:=M;exact #[.au,.au]
     exact #[v,o,Y,xR,X,λ C s3=>q o C ((s1.trans s2).trans s3) M X]
    ·refine nt .aB #[bn,_,aE,_,_,Y,g,T.dM,T.xr,Y,pr,a,xs,aw,ai,Y,s1 _ _ m8,hf.same s1,PA,S,c8,λ aR aq rs f2 s2 aa O=>?_];have N0:(l9 (ml (rowsOf aw) ai)).length<=16:=by
      rw [(It _).length_eq];have:=IE (rowsOf aw) ai;rw [ry,<-hf.1] at this;omega
     have p:∀ q∈l9 (ml (rowsOf aw) ai),q.length=10/\∀ e∈q,0<=e/\e<10 ^ 60:=λ q G=>by
      have:=Vn (t4 hf) (lu aw) c8 (λ e he=>(ah.kL e he).2) ((It _).mem_iff.mp G);exact #[this.1,λ e he=>#[(this.2 e he).1,by have:=(this.2 e he).2;omega]]
     generalize l9 (ml (rowsOf aw) ai)=L at *;refine #[aR,Y,#[_,aS.of aa],λ D hz=>uk (K:=K) (by rw [b7,O.1];omega) #[_,Y] hz aa (λ i H' zs=>zs=((L.take i).map λ q=>dk (bJ q)).map V.str) Y (λ i H' C zs ys _ e _=>e) (λ i y H' zs R s' r qh jc I fb=>?_) λ C zs s3 M6 jc I=>?_]
     ·obtain ⟨c,af,z,rfl,fw⟩:=O.2 i y r;have Z:=p c (b5 af);refine #[z,c,Y,s' _ _ fw,Z.1,Z.2,λ mG s4=>fb _ mG s4 ?_];subst I;rw [xo af,hl];rfl
     ·rw [O.1,ju] at I;subst I;refine #[D,L.map λ q=>dk (bJ q),Y,M6,?_,q C ((s1.trans s2).trans s3)];have Pz:=t8 (L.map λ q=>dk (bJ q)) (B:=700) λ y r=>by
       obtain ⟨q,G,rfl⟩:=cW.mp r;exact F2 (p q G).1 (p q G).2
      rw [bz] at Pz ⊢;have:=Af 700 N0;omega
end
def dA (B:Nat) (y:Str):Prop:=bP y/\y.length<=B
theorem dA.mono (h:dA B y) (a:B<=C):dA C y:=#[h.1,dF h.2 a]
theorem dA.app (h:dA B x) (g:dA C y):dA (B+C) (x++y):=#[h.1.app g.1,by rw [len_app];have:=h.2;have:=g.2;omega]
noncomputable def fZ (l:bA):Nat:=(l.map (·.length)).sum+l.length
theorem Ti (a b):fZ (a++b)=fZ a+fZ b:=by
 unfold fZ;rw [hl,List.sum_append,c9];omega
set_option tactic.hygienic true in
theorem AP (h:a.Sublist b):fZ a<=fZ b:=by
 induction h with
 | slnil=>exact bx _
 | cons x _ d =>
  rename_i e c _;show _<=(x.length+(c.map (·.length)).sum)+(c.length+1);unfold fZ at d ⊢;omega
 | cons_cons x _ d =>
  rename_i e c _;show (x.length+(e.map (·.length)).sum)+(e.length+1)<=(x.length+(c.map (·.length)).sum)+(c.length+1);unfold fZ at d;omega
theorem rg (c):∀ {l:bA},l≠[]->(Str.join (aL c) l).length+1=fZ l
 | [],h=>absurd rfl h
 | [x],_=>by
  show x.length+1=(x.length+0)+1;omega
 | x::y::r,_=>by
  have e:(Str.join (aL c) (x::y::r)).length=x.length+(1+(Str.join (aL c) (y::r)).length):=by
   rw [<-fC,kb,c9,gq,fC,fC];omega
  have a:=rg c (l:=y::r) .zs;rw [e];show _=(x.length+((y::r).map (·.length)).sum)+((y::r).length+1);unfold fZ at a;omega
theorem join_le (c) (l):(Str.join (aL c) l).length<=fZ l:=by
 by_cases h:l=[]
 ·rw [h];exact ej _
 ·have:=rg c h;omega
theorem dA.join (ao:fZ l<=n) (h:∀ y∈l,bP y):dA n (Str.join (aL 32) l):=#[bP.join .aB h,dF (join_le 32 l) ao]
theorem gg.Pp (h:gg H xs aw) (hf:∀ f∈aw,d1 f.1 f.2=.t):f7 H xs aw:=#[h.1,λ k x ae=>by
 obtain ⟨c,i,j,b,d,a⟩:=h.2 k x ae;exact #[i,j,c,a,b,d,hf (i,j) (b5 a)]]
theorem RO (h:f7 H xs aw):∀ x∈xs,tx H x:=λ x ae=>by
 obtain ⟨k,a⟩:=hR ae;obtain ⟨i,j,c,_,e,af,f⟩:=h.2 k x a;exact #[c,i,j,e,af,f]
theorem Pl:ig (x::xs) (some 1) .n=xs:=by
 unfold ig;rw [zW .aB,gq,show min (1:Int).toNat (xs.length+1)=1 by omega];exact nz (bx _)
theorem HA (ak:bP x) (d:x.length<=900) (b:ih x=.f):∃ (aY:Str) (ws:bA),Txt.split x (aL 32)=aY::ws/\ws.length<=900/\fZ ws<=901/\(∀ y∈ws,bP y/\1<=y.length/\y.length<=900):=by
 have hw:=rg 32 (kg x (aL 32));rw [j_] at hw;have c:=n4 32 x;have ah:∀ y∈Txt.split x (aL 32),bP y/\y.length<=x.length:=λ y a=>#[ak.part a,(kk a).2]
 have ao:∀ y∈Txt.split x (aL 32),1<=y.length:=λ y a=>by
  rcases z7 y.length with z|z
  ·exfalso;have e:y=(""):=t5 (by
    have:=fC y;rw [z] at this;rw [q1.mp this];decide +kernel)
   rw [lh] at b;exact b (q0.mpr #[.str y,cW.mpr #[y,a,Y],by rw [e];decide +kernel])
  ·exact z
 cases av:Txt.split x (aL 32) with
 | nil=>exact absurd av (kg _ _)
 | cons aY ws =>
  rw [av] at hw c ah ao;refine #[aY,ws,Y,?_,?_,λ y a=>#[(ah y (de _ a)).1,ao y (de _ a),?_]]
  ·rw [gq] at c;omega
  ·have:=AP (List.sublist_cons_self aY ws);omega
  ·have:=(ah y (de _ a)).2;omega
noncomputable def tf:bA->Bool
 | []=>.f
 | aY::ws=>if aY = "program" then (hM (Str.join (aL 32) ws)).isSome else (gD (aY::ws)).isSome
theorem Bu (ws):tf (("program" : Str)::ws)=(hM (Str.join (aL 32) ws)).isSome:=by
 show (if ("program") = "program" then (hM (Str.join (aL 32) ws)).isSome else (gD (("program")::ws)).isSome)=_;rw [if_pos rfl]
theorem Bt {aY:Str} (h:aY ≠ "program"):tf (aY::ws)=(gD (aY::ws)).isSome:=if_neg h
noncomputable def eo (x:Str):Bool := !ih x&&tf (Txt.split x (aL 32))
section
variable {P:Program} {w:World} {K:aP} {mg:Str->b_} {base:Heap}
def U7 (T:a3 K mg):bG:=λ vs H Q Z=>∃ bL aE,vs=[.ref bL]/\H bL=some (.ins T.ea aE [])/\Q .aQ (upd H bL (.ins T.ea aE [("bench", .aQ)]))
theorem JQ (T:a3 K mg):cb P w mg base cn 1 T.rz (U7 T):=by
 refine T.rz.fn.dO XP .bW λ a0 A outer s H vs Q E b h=>?_
 obtain ⟨bL,aE,rfl,a,q⟩:=h;refine #[_,(aJ (tD (J 0) d4 Y)),?_];exact #[bL,_,aE,_,Y,a,T.pw,T.uu,.aB,q]
inductive qQ (T:a3 K mg):bG
 |mk {vs H Q E} (bL aE:Addr) (bv th:V):vs=[.ref bL,th]->dh H th->(∀ x,th=.str x->bP x/\x.length<=900)->H bL=some (.ins T.ea aE [("bench", bv)])->((∀ x,th=.str x->eo x=.f)->∀ v H',jd v=.ref T.df->ay H H'->E v .n H')->(∀ x ws aw,th=.str x->eo x=.t->Txt.split x (aL 32)=("program" : Str)::ws->hM (Str.join (aL 32) ws)=some aw->∀ pr bn hd dl xs H',cB bL H H'->H' bL=some (.ins T.ea aE [("bench", .ref bn)])->eO T H' bn pr hd dl [] []->H hd=.n->H dl=.n->H bn=.n->H' pr=some (.tup xs)->f7 H' xs aw->xs.length<=16->Q (.str "ok") H')->(∀ x aY ws ds,th=.str x->eo x=.t->Txt.split x (aL 32)=aY::ws->aY ≠ "program" -> gD (aY::ws)=some ds -> ((bv=.aQ/\∀ H',ay H H'->E (.ref T.dV) .n H')\/∃ bn,bv=.ref bn/\∀ l zs H',ay H H'->H' l=some (.lst zs)->jN H' zs ds->uf T [.ref bn,.str aY,.ref l] H' Q E))->qQ T vs H Q E
theorem Jk (T:a3 K mg):cb P w mg base (g0 P w) 10 T.rr (qQ T):=by
 refine T.rr.fn.sW BH .bW λ a0 A outer s H vs Q E p h=>?_
 obtain ⟨bL,aE,bv,th,rfl,r5,ae,g,uR,fc,ed⟩:=h;refine #[_,(aH (bq 2 BH (bQ (Xp T) p vR (ag (J 1) az)))
  (aH (bM (br dE (b3 c1 (J 2) aM (λ _ _=>rfl)) aT (bp _))
   (aH (tD (J 0) (SJ T.xk.at_ (X_ T) (p.mono .aB) Y T.RT T.xk.bd .nil bT (ag (bQ (YQ T) p zR (ag (hs wN (J 2) (hr aM) hq) az)) az)) Y)
  (aJ (bb aT)))
   bO)
  (aH (bq 3 BH (bQ (Yc T) p zR (ag (J 2) az)))
  (aH (bM (br mq (hj (J 0) (by rfl)) d4 (bp _))
   (aJ (fU wU.y4 Y Y T.Xc (by rfl) (ag aT az)))
   bO)
  (aJ (bb (bQ (VY T) p vR (ag (hj (J 0) (by rfl)) (ag (b3 c1 (J 2) aM (λ _ _=>rfl)) (ag (J 3) az)))))))))),?_]
 refine #[th,Y,r5,ae,λ x e t l H1 f1 s1 U=>?_,λ t H' s'=>uR (λ x e=>by unfold eo;rw [t x e];rfl) _ H' Y s'];subst e;obtain ⟨ak,P0⟩:=ae x rfl;obtain ⟨aY,ws,av,ao,hw,jb⟩:=HA ak P0 t;have G:eo x=tf (aY::ws):=by unfold eo;rw [t,av];rfl
 rw [av] at U;have u9:=s1 _ _ g;have EP:tf (aY::ws)=.f->∀ v H',jd v=.ref T.df->ay H H'->E v .n H':=λ fw=>uR λ y e=>by injection e with e;rw [<-e,G];exact fw
 refine #[l,_,_,_,Y,Y,aS.of U,eH .aB Y,Y,_,Y,?_];by_cases n:aY = "program"
 ·subst n;rw [bc rfl];refine bk #[1,Y,l,_,Y,aS.of U,λ r yE=>?_];have s2:ay H1 (upd H1 r (.lst (ig ((("program" : Str)::ws).map V.str) (some 1) .n))):=ay.new yE;have S:(upd H1 r (.lst (ig ((("program" : Str)::ws).map V.str) (some 1) .n))) r=some (.lst (ws.map V.str)):=by rw [bN,es,Pl]
  generalize upd H1 r (.lst (ig ((("program" : Str)::ws).map V.str) (some 1) .n))=aq at s2 S;have kq:bP (Str.join (aL 32) ws):=bP.join .aB λ y jI=>(jb y jI).1
  have L:(Str.join (aL 32) ws).length<=900:=by
   by_cases h0:ws=[]
   ·rw [h0];decide
   ·have:=rg 32 h0;omega
  refine #[r,ws,Y,S,by unfold fZ at hw;omega,kq,L,λ aw M pr xs m s3 Z L=>?_,λ O v m aI s3=>EP (by rw [Bu,O];rfl) v m aI ((s1.trans s2).trans s3)];obtain ⟨NB,X,oL⟩:=U1 M;have q:=fc x ws aw rfl (by rw [G,Bu,M];rfl) av M;have f:=L.Pp oL;have b:=(s1.trans s2).trans s3;refine λ bn D d fd dg=>?_
  have a:ay m (upd (upd m D (.own bn)) bn (.ins T.fR D [])):=λ mQ o e=>by
   rw [bC (cq e d),bC (cq e fd)];exact e
  refine #[bn,D,pr,xs,Y,bN,a _ _ Z,by rw [f.1];exact NB,by rw [f.1];exact X,RO (f.same a),λ hd dl B mP aC I u=>#[Y,?_]];have C:ay m B:=λ mQ o e=>mP _ _ (cq e d) (a _ _ e)
  have R:=b.trans C;refine #[bL,_,aE,_,Y,R _ _ g,T.pw,T.uu,(by show 1<1000;decide),?_];obtain ⟨MP,kr⟩:=u.at_;have ne1:bn≠bL:=λ z=>by rw [z] at d;rw [b _ _ g] at d;cases d
  have ne2:hd≠bL:=λ z=>by rw [z,a _ _ (b _ _ g)] at aC;cases aC
  have ne3:dl≠bL:=λ z=>by rw [z,a _ _ (b _ _ g)] at I;cases I
  have kt:∀ c ys,B c=some (.tup ys)->(upd B bL (.ins T.ea aE (gI "bench" (.ref bn) [("bench", bv)]))) c=some (.tup ys):=λ c ys h=>by
   rw [bC (fo h (R _ _ g) nofun)];exact h
  refine q pr bn hd dl xs _ (λ c o uP e=>?_) bN #[#[MP,?_],?_,?_] (b.free (a.free aC)) (b.free (a.free I)) (b.free d) (kt _ _ (C _ _ Z)) #[f.1,λ k x ae=>?_] (by rw [f.1];exact X)
  ·rw [bC uP];exact R _ _ e
  ·rw [bC ne1];exact kr
  ·rw [bC ne2];exact u.hd
  ·rw [bC ne3];exact u.dl
  ·obtain ⟨i,j,c,oA,h1,kA,yd⟩:=f.2 k x ae;exact #[i,j,c,oA,h1,kt _ _ (C _ _ kA),yd]
 ·rw [n2 n];refine bE #[l,aY,ws,Y,U,ao,jb,λ ds aV aR zs aq f2 s2 sx dX=>?_,λ O v aq aI s2=>EP (by rw [Bt n,O];rfl) v aq aI (s1.trans s2)];have N:=s2 _ _ u9;have q:=ed x aY ws ds rfl (by rw [G,Bt n,aV];rfl) av n aV;rcases q with ⟨rfl,q⟩|⟨bn,rfl,q⟩
  ·exact #[bL,_,aE,_,_,Y,N,T.pw,T.uu,Y,Y,_,Y,bk #[bF,q aq (s1.trans s2)]]
  ·exact #[bL,_,aE,_,_,Y,N,T.pw,T.uu,Y,Y,_,Y,bE #[bL,_,aE,_,_,Y,N,T.pw,T.uu,Y,l,_,_,_,Y,Y,aS.of (s2 _ _ U),eH .aB Y,q aR zs aq (s1.trans s2) sx dX]]
end
theorem Vp (a:X.K=K):ep X (.builtin "isinstance") (Ep K):=by
 subst a;exact iy
section
variable {P:Program} {w:World} {K:aP} {mg:Str->b_} {base:Heap}
theorem VL (T:a3 K mg):pv T T.dN 1:=#[T.Tw,T.Tu,T.YR,T.YS,T.YT,T.Zv,T.Ze,T.Zw,T.ZJ,T.Yy,T.YU,T.Zf,T.YV,T.Zg]
theorem VN (T:a3 K mg):pv T T.c4 2:=#[T.Tx,T.Tv,T.YW,T.YX,T.YY,T.Zx,T.Zh,T.Zy,T.ZK,T.Yz,T.YZ,T.Zi,T.Y0,T.Zj]
theorem XG (T:a3 K mg):pv T T.dV 6:=#[T.Xf,T.Xe,T.ZL,T.ZM,T.ZN,T.Z1,T.ZU,T.Z2,T.Z3,T.Zz,T.ZO,T.ZV,T.ZP,T.ZW]
theorem T3 (T:a3 K mg):pv T T.df 7:=#[T.RH,T.RG,T.YA,T.YB,T.YC,T.Zk,T.Y1,T.Zl,T.ZA,T.Yd,T.YD,T.Y2,T.YE,T.Y3]
theorem VM (T:a3 K mg):pv T T.dj 11:=#[T.Vm,T.Vl,T.K9,T.Zm,T.Zn,T.ZQ,T.ZC,T.ZR,T.ZX,T.Y4,T.Zo,T.ZD,T.Zp,T.ZE]
def fN (T:a3 K mg) (Q:b2):cL:=λ v d H1=>d=.n/\∃ (C:Addr) (i:Nat) (x:Str),jd v=.ref C/\pv T C i/\i<12/\i≠0/\Bj[i]?=some x/\Under K C T.iZ/\∀ H',ay H1 H'->Q (.str x) H'
theorem fN.Pn (T:a3 K mg) (q:∀ H',ay H1 H'->Q (.str "deed") H'):fN T Q (.ref T.dN) .n H1:=#[Y,T.dN,1, "deed", Y,VL T,.aB,.aB,Y,T.Ts,q]
theorem fN.name (T:a3 K mg) (q:∀ H',ay H1 H'->Q (.str "name") H'):fN T Q (.ref T.c4) .n H1:=#[Y,T.c4,2, "name", Y,VN T,.aB,.aB,Y,T.Tt,q]
theorem fN.program (T:a3 K mg) (q:∀ H',ay H1 H'->Q (.str "program") H'):fN T Q (.ref T.dV) .n H1:=#[Y,T.dV,6, "program", Y,XG T,.aB,.aB,Y,T.Xd,q]
theorem fN.many (T:a3 K mg) (q:∀ H',ay H1 H'->Q (.str "many") H'):fN T Q (.ref T.dj) .n H1:=#[Y,T.dj,11, "many", Y,VM T,.aB,.aB,Y,T.Vk,q]
theorem fN.row (T:a3 K mg) (aI:jd v=.ref T.df) (q:∀ H',ay H1 H'->Q (.str "row") H'):fN T Q v .n H1:=#[Y,T.df,7, "row", aI,T3 T,.aB,.aB,Y,T.RF,q]
inductive pU (T:a3 K mg):bG
 |mk {vs H Q E} (bL aE:Addr) (fl:List (Str×V)) (th:V):vs=[.ref bL,th]->H bL=some (.ins T.ea aE fl)->fl.lookup ("say" : Str)=.n->qQ T [.ref bL,th] H (λ v H'=>1<=sizeLine/\fi (.lst [v]) H' Q) (fN T Q)->pU T vs H Q E
theorem BX (T:a3 K mg):cb P w mg base cn 12 T.Kc (pU T):=by
 refine T.Kc.fn.dO KS .bW λ a0 A outer s H vs Q E b h=>?_
 obtain ⟨bL,aE,fl,th,rfl,f,g,h⟩:=h;refine #[_,(aJ (SQ (E:=(fN T Q)) (i:=2) Y Y Y T.Xy (by rfl) KS.dg Y Y (λ Z Z j=>(aJ (bb (d5 (ag (ho (se 0) T.pw T.rr.at_ (Jk T) (b.mono .aB) T.rr.bd .nil (ER Y j) (ag (se 1) az)) az)))))
   (λ Z=>(aH (bM (eI (bS (Vp Y) T.eN eM (ag (se 2) (ag (fT (v:=.ref T.dt) (by rfl) T.GS Y) az))))
   (aJ (bb aT))
   bO)
  (aJ (bb (UQ (X7 T) ((b.mark _).mono .aB) Y T.rA.at_ T.rA.fn.bI T.rA.bd (ag (se 2) az)))))))),?_]
 refine #[#[_,Y,bL,aE,fl,Y,f,g,_,Y,h],?_];rintro v d H1 ⟨rfl,C,i,x,c,a,ar,h0,ae,un,q⟩;have k0:=a.k0;rw [show (i==0)=.f by simp [h0]] at k0;exact #[C,c,Y,un,λ e σ1 he hσ=>#[_,pl hσ,e,C,_,_,_,Y,bN,Y,a.eC,k0,_,Y,bE #[_,pl hσ,e,C,i,x,Y,bN,a,ar,ae,λ H' s'=>q H' ((ay.new he).trans s')]]]
end
noncomputable def ni:Option Int->V
 | none=>.aQ
 | some n=>.int n
theorem OW:(("9" : String):Str)=aL 57:=by decide +kernel
theorem FV (x):(((List.range x.cps.size).filter λ i=> !gB (x.cps.getD i 0)).map λ i=>V.str (aL (x.cps.getD i 0))).length=0 ↔ AllDigits (ba x):=by
 rw [bz,q1,List.filter_eq_nil_iff];have h:=wM x gB;rw [Ak] at h;constructor
 ·intro z;apply cD;rw [<-h,nV];exact fB.mpr λ i ar=>by
   have:=z i ar;cases a:gB (x.cps.getD i 0) with
   | true=>exact a
   | false=>rw [a] at this;exact absurd rfl this
 ·intro z i ar;rw [bc z,nV,fB] at h;have aa:gB (x.cps.getD i 0)=.t:=h i ar;rw [aa];decide
section
variable {P:Program} {w:World} {K:aP} {mg:Str->b_} {base:Heap}
def XX:bG:=λ vs H Q Z=>∃ x,vs=[.str x]/\bP x/\x.length<=1000000/\∀ H',ay H H'->Q (ni (cm x)) H'
theorem BM (T:a3 K mg):cb P w mg base cn 1 T.I7 XX:=by
 refine T.I7.fn.dO J5 .bW λ a0 A outer s H vs Q E b h=>?_
 obtain ⟨x,rfl,ak,u,q⟩:=h;refine #[_,(aH (bM (dw.pt (dP (br dE (J 0) aT (bp _)) (dP (br gM (bS n7 T.dI dH (ag (J 0) az)) aM (bp _)) (e9 (br (G9 (il b)) (gs (eg J5 (N:=["sign"]) (js:=[.n]) (eX _)) Y (vT (J 0)) (λ Z Z Z Z=>e5) (λ Z Z Z Z=>(t2 (e8 (A5 Fm Fm aT (J 0) aT))))
    (λ Z Z Z Z=>(J 0))) (d5 az) (bp _))))))
   (aJ (bb d4))
   bO)
  (aH (bM (br gN (gP JJ T.nu nq (ag (gP w0 T.pf pa (ag (J 0) az)) az)) (J 0) (bp _))
   (aJ (bb d4))
   bO)
  (aJ (bb (gP w0 T.pf pa (ag (J 0) az)))))),?_]
 have l:x.length<=sizeLine:=by rw [b7];omega
 have bad:∀ H',ay H H'->¬ ((x≠Str.empty/\x.length<=19/\AllDigits (ba x))/\cx ((digitsVal (ba x):Nat))=x)->Q .aQ H':=λ H' s' z=>by
  have:=q H' s';unfold cm at this;rw [if_neg z] at this;exact this
 refine #[Y,_,Y,c3 (λ h=>?_) (λ h=>#[_,Y,l,_,_,Y,Y,_,Y,c3 (λ h'=>?_) (λ h'=>?_)])]
 ·have e:=cD h;rw [s0] at e;have m:x=Str.empty:=by injection e
  exact bk (bad H (ay.refl _) λ z=>z.1.1 m)
 ·have h0:=cD h';exact bk (bad H (ay.refl _) λ z=>by have:=z.1.2.1;omega)
 have h0:x≠Str.empty:=λ z=>h (bc (by rw [z,s0]))
 have U:¬ (19:Int)<x.length:=λ z=>h' (bc z)
 refine #[_,Y,ak.all,λ D n=>w1 (t:=λ i=> !gB (x.cps.getD i 0)) (f:=λ i=>V.str (aL (x.cps.getD i 0))) (by exact l) #[_,Y] n (λ i c H' R s' af r=>?_) (λ i c H' R s' af aG r=>?_) λ H1 s1 o=>?_]
 ·have e:x.cps.getD i 0=c:=by rw [tW,af];rfl
  have a:=r H' (ay.refl _);rw [e] at a;refine #[_,_,Y,Y,_,Y,?_];rw [oS,show (⟨[c].toArray⟩)=aL c from rfl,Fi];by_cases j:c<48
  ·rw [bc j];refine bE #[_,Y,?_];rw [show gB c=.f from bZ .au] at a;exact a
  ·rw [bZ j];refine bk #[_,_,Y,Y,_,Y,?_];rw [OW,Fi];have d:(!decide (57<c))=gB c:=by
    by_cases k:57<c
    ·rw [bc k,show gB c=.f from bZ .au];rfl
    ·rw [bZ k,show gB c=.t from bc .au];rfl
   rw [d];exact a
 ·have e:x.cps.getD i 0=c:=by rw [tW,af];rfl
  have a:=r H' (ay.refl _);rw [e] at a;exact (a)
 refine #[bF,λ nl aq f2 s2 d=>#[D,nl,_,Y,Y,s2 _ _ o,d,_,Y,?_]];have g:=s1.trans s2;by_cases hd:AllDigits (ba x)
 ·rw [bc ((FV x).mpr hd)];refine bE ?_;have p:ba x≠[]:=λ z=>h0 (t6 z)
  have aI:=FD hd;have v:digitsVal (ba x)<10 ^ 19:=ey aI (Nat.pow_le_pow_right .aB (by rw [fC];omega));have b:intText? x=some ((digitsVal (ba x):Nat)):=intText_digits hd p .au;refine #[x,_,Y,.au,b,_,Y,zO .au .au,Y,_,Y,?_];by_cases ao:cx ((digitsVal (ba x):Nat))=x
  ·rw [show decide (V.str (Str.ofString (toString ((digitsVal (ba x)):Int)))=V.str x)=.t from bc (by rw [show Str.ofString (toString ((digitsVal (ba x)):Int))=x from ao])];refine bE #[x,_,Y,.au,b,?_];have:=q aq g;unfold cm at this;rw [if_pos #[#[h0,.au,hd],ao]] at this;exact this
  ·rw [show decide (V.str (Str.ofString (toString ((digitsVal (ba x)):Int)))=V.str x)=.f from bZ λ e=>ao (by injection e)];exact bk (bad aq g λ z=>ao z.2)
 ·rw [bZ λ z=>hd ((FV x).mp z)];exact bk (bad aq g λ z=>hd z.1.2.2)
theorem Oc (p):ib (.int p) eL=decide (p∈cG):=by
 unfold ib;rw [w4,List.any_map,nG,q0,iT];constructor
 ·rintro ⟨q,b,e⟩;have a:=e;rw [<-jt a];exact b
 ·intro h;exact #[p,h,beq_self_eq_true p]
theorem Qw:∀ j<10,cG.idxOf (cG.getD j 0)=j:=by decide
theorem Ia (l:List (Option Int)):(l.map ni).all mc=.t:=by
 rw [nV];exact fB.mpr λ o Z=>by cases o<;>rfl
def Ym:bG:=λ vs H Q Z=>∃ x,vs=[.str x]/\bP x/\x.length<=1000000/\(hJ x=.n->∀ H',ay H H'->Q .aQ H')/\(∀ aj,hJ x=some aj->∀ p H',ay H H'->H' p=some (.tup (aj.map V.int))->Q (.ref p) H')
set_option tactic.hygienic true in
theorem Yb (T:a3 K mg):cb P w mg base cn 2 T.JH Ym:=by
 refine T.JH.fn.dO pV .bW λ a0 A outer s H vs Q E k h=>?_
 obtain ⟨x,rfl,ak,eB,fc,ed⟩:=h;refine #[_,(aH (bq 1 pV (bK Ui (d5 (ag aM az)) aM))
  (aH (bM (br dE (J 0) aT (bp _))
   (aJ (bb (gP n9 T.jz jy (ag (J 1) az))))
   bO)
  (aH (bq 2 pV aM)
  (aH (hQ f_ Y (iX (eE gr iU ll lr (J 0) (ag aT az))) (fL 3 pV)
   (aH (AH (i:=4) pV.dg Y (Or.inl Y) (eg pV (N:=["half"]) (js:=[.n]) (eX _)) Y (iX (eE gr iU ll lr (J 3) (ag aT az))) (λ _ _ _ _=>e5) (λ _ _ _ _=>gu)
    (λ _ _ _ _=>(bQ (BM T) k bT (ag (J 0) az))))
  (aH (bM (dw.pt (dP (br gN (bS eY T.dI dH (ag (J 4) az)) aM (bp _)) (dP (br pR d4 (J 4) (by with_unfolding_all rfl)) (dP (br JS (b3 c1 (J 4) aM (λ _ _=>rfl)) (zS (BG T) k bT) (by with_unfolding_all rfl)) (e9 (br pg (b3 c1 (J 4) aM (λ _ _=>rfl)) (J 2) (bp _)))))))
   (aJ (bb d4))
   bO)
  (aH (bM (e8 (A5 pg pg aM (b3 c1 (J 4) aM (λ _ _=>rfl)) (bK qM aM aM)))
   (aJ (bb d4))
   bO)
  (aH (bq 2 pV (b3 c1 (J 4) aM (λ _ _=>rfl)))
  (aJ (Fq (b3 c1 (J 4) aM (λ _ _=>rfl)) (Fp (J 1) (Rl PySem.F.plainAttrs_tuple PySem.F.slot_tuple_index PySem.F.type_tuple_index WR (zS (BG T) k bT) (ag (J 2) az)) set_list))))))))
  (aJ (bb (gP n9 T.jz jy (ag (J 1) az)))))))),?_]
 refine #[bF,λ L_ H1 f1 s1 p1=>#[L_,10,_,Y,Y,p1,.aB,.aB,.aB,λ l aq f2 s2 jG=>?_]];have ym:=jG;have qm:=s1.trans s2;have fl:=s1.free f2;refine #[Y,_,Y,c3 (λ h=>?_) (λ h=>?_)]
 ·have e:=cD h;rw [s6] at e;have p1:x=aL 49:=by injection e
  exact #[l,_,Y,aS.of ym,λ p km iB s3 r=>ed gm (by unfold hJ;rw [if_pos p1]) p km (qm.trans s3) r]
 have N8:x≠aL 49:=λ z=>h (bc (by rw [z,s6]))
 have xZ:hJ x=((Txt.split x (aL 42)).foldl gj (some (0,gm))).map (·.2):=by unfold hJ;rw [if_neg N8]
 have lT:=n4 42 x;refine #[Y,_,_,Y,Y,by rw [sZ];rfl,by rw [b7];omega,λ wl km iB s3 r=>?_];rw [sZ] at r;generalize jb:Txt.split x (aL 42)=ws at r xZ lT;have yP:wl≠l:=λ z=>by rw [z,ym] at iB;cases iB
 have bad:∀ i,(ws.take i).foldl gj (some (0,gm))=.n->∀ H',ay H H'->Q .aQ H':=λ i ar=>fc (by
  rw [xZ,<-List.take_append_drop i ws,List.foldl_append,ar,w3];rfl)
 refine #[wl,Y,#[_,aS.of r],rf (xs:=ws.map V.str) (λ i σ n=>∃ (lst:Int) (d:bB) (u v:fX),σ=[some (.str x),some (.ref l),some (.int lst),u,v]/\cB l km n/\n l=some (.lst (d.map V.int))/\d.length=10/\(ws.take i).foldl gj (some (0,gm))=some (lst,d)) #[0,gm,.n,.n,Y,cB.of (ay.refl _),s3 _ _ ym,Y,Y] (λ i σ n _ ⟨_,_,_,_,_,q,_⟩=>aS.of (q _ _ yP r)) ?_ ?_]
 ·rintro i y σ n g ⟨lst,d,u,v,rfl,q,m6,zd,aV⟩;obtain ⟨cj,qj,rfl⟩:∃ cj,ws[i]?=some cj/\y=.str cj:=by
   rw [et] at g;cases L:ws[i]? with
   | none=>rw [L] at g;cases g
   | some f=>rw [L] at g;exact #[f,Y,(cE g).symm]
  have vc:=b5 qj;have ah:=kk (c:=42) (x:=x) (y:=cj) (by rw [jb];exact vc);have m9:ay H n:=λ c o e=>q _ _ (cq e fl) ((qm.trans s3) _ _ e)
  have lU:(ws.take (i+1)).foldl gj (some (0,gm))=gj (some (lst,d)) cj:=by
   rw [iS,qj,List.foldl_append,aV];rfl
  have I:gO cj=.n->∀ H',ay H H'->Q .aQ H':=λ m8=>bad (i+1) (by
   rw [lU];show (match gO cj with|some (p,e)=>if lst<p then some (p,d.set (cG.idxOf p) e) else .n|none=>.n)=.n;rw [m8])
  refine #[Y,_,_,Y,Y,by rw [vk];rfl,by rw [b7];omega,λ sI mH oo s5 B=>?_];rw [vk] at B;have zf:=n4 94 cj;have sL:∀ z∈Txt.split cj (aL 94),bP z/\z.length<=1000000:=λ z fw=>by
   have aa:=kk fw;exact #[(ak.sub ah.1).sub aa.1,.au]
  have oR:gO cj=match (Txt.split cj (aL 94)).map cm with | [some p,some e]=>if p∈cG/\1<=e/\e<=1000000 then some (p,e) else .n|_=>.n:=rfl
  generalize aaL:Txt.split cj (aL 94)=av at B zf sL oR;refine #[sI,Y,#[_,aS.of B],λ D hz=>?_];refine uk (K:=K) (a:=sI) (σ0:=[]) (xs:=av.map V.str) (by rw [b7,bz];omega) #[_,Y] hz B (λ i H' zs=>zs=((av.take i).map cm).map ni) rfl (λ i H' aq zs ys _ k _=>k) (λ j y H' zs R s' g qh jc k fb=>?_) λ m zs e1 oI jc k=>?_
  ·obtain ⟨hf,sH,rfl⟩:∃ hf,av[j]?=some hf/\y=.str hf:=by
    rw [et] at g;cases L:av[j]? with
    | none=>rw [L] at g;cases g
    | some f=>rw [L] at g;exact #[f,Y,(cE g).symm]
   have ku:=sL hf (b5 sH);refine #[hf,Y,ku.1,ku.2,λ fa hD=>fb _ fa hD ?_];rw [k,iS,sH,hl,hl];rfl
  rw [k,bz,ju] at oI;have m_:=s5.trans e1;have Z:=m9.trans m_;have NK:=m_ _ _ m6;refine #[D,_,Y,.inl (aS.of oI),Y,_,Y,c3 (λ h=>?_) (λ h=>?_)]
  ·refine bk (I ?_ m Z);rw [oR];split
   ·rename_i p e hm;rw [hm] at h;exact absurd h (by show ¬ (!decide (V.int 2=V.int 2))=.t;decide)
   ·rfl
  obtain ⟨a,b,rfl⟩:∃ a b,av=[a,b]:=by
   have aa:av.length=2:=by
    by_cases z:av.length=2
    ·exact z
    ·exfalso;apply h;rw [bZ (λ y=>z (by injection y with y;rw [bz,bz] at y;omega))];rfl
   match av,aa with
   | [a,b],_=>exact #[a,b,Y]
  have o7:m D=some (.lst [ni (cm a),ni (cm b)]):=oI;refine #[D,_,Y,.inl (aS.of o7),Y,Ia [cm a,cm b],_,Y,?_];have C:gO cj=match cm a,cm b with|some p,some e=>if p∈cG/\1<=e/\e<=1000000 then some (p,e) else .n|_,_=>.n:=by
   rw [oR];simp only [es,j6];cases cm a<;>cases cm b<;>rfl
  cases oK:cm a with
  | none =>
   rw [oK] at C;refine bk (bk (I C m Z))
  | some p =>
  cases sF:cm b with
  | none =>
   rw [oK,sF] at C;refine bk (bk (I C m Z))
  | some e =>
  rw [oK,sF] at C o7;have aC:m D=some (.lst [.int p,.int e]):=o7;refine bE #[D,_,_,_,Y,Y,aS.of aC,Y,Y,λ t aG=>#[t,eL,Y,.inr (aX.of bN),Y,.aB,_,Y,?_]];have G:ay m (upd m t (.tup eL)):=ay.new aG;have yT:=Z.trans G;have X:gO cj=if p∈cG/\1<=e/\e<=1000000 then some (p,e) else .n:=C
  rw [if_pos rfl,Oc];by_cases M:p∈cG
  ·rw [bc M];refine bE #[D,_,_,_,Y,Y,aS.of (G _ _ aC),Y,_,_,Y,Y,_,Y,c3 (λ aa=>?_) (λ aa=>?_)]
   ·have hy:p<=lst:=cD aa;refine bad (i+1) ?_ _ yT;rw [lU];show (match gO cj with|some (p,e)=>if lst<p then some (p,d.set (cG.idxOf p) e) else .n|none=>.n)=.n;rw [X];split
    ·split
     ·rename_i r0 lD;split at r0
      ·cases r0;omega
      ·cases r0
     ·rfl
    ·rfl
   ·have hy:¬ p<=lst:=λ z=>aa (bc z)
    refine #[D,_,_,_,Y,Y,aS.of (G _ _ aC),Y,_,_,Y,Y,_,Y,?_];have D5:¬ (1<=e/\e<=1000000)->Q .aQ (upd m t (.tup eL)):=λ z=>I (by rw [X,if_neg λ y=>z y.2]) _ yT
    by_cases O:1<=e
    ·rw [bc O];refine bk #[_,_,Y,Y,#[.aB,.aB,.aB],_,_,Y,Y,_,Y,?_];rw [show (10:Int) ^ (6:Int).toNat=1000000 by decide];by_cases S:e<=1000000
     ·rw [bc S];refine bE ?_;refine #[D,_,_,_,Y,Y,aS.of (G _ _ aC),Y,?_];refine #[D,_,_,_,Y,Y,aS.of (G _ _ aC),Y,Y,λ gf sN=>?_];have DO:=G.trans (ay.new (o:=.tup eL) sN);refine #[#[gf,_,Y,bN],gf,cG,p,Y,Y,bN,M,λ j p5 aaN=>?_];have Pw:j<10:=(dr.mp p5).1;have Pu:cG.idxOf p=j:=by
       have:=Qw j Pw;rw [iQ,p5] at this;exact this
      refine #[l,_,_,j,Y,Y,DO _ _ NK,Qy .au (by rw [bz,zd];omega),?_];refine #[p,d.set j e,_,_,Y,?_,?_,by rw [pD];exact zd,?_]
      ·intro c o nl gw;rw [bC nl];exact DO _ _ (m_ _ _ (q _ _ nl gw))
      ·rw [bN,List.map_set]
      ·rw [lU];show (match gO cj with|some (p,e)=>if lst<p then some (p,d.set (cG.idxOf p) e) else .n|none=>.n)=_;rw [X,if_pos #[M,O,S]];show (if lst<p then some (p,d.set (cG.idxOf p) e) else .n)=_;rw [if_pos .au,Pu]
     ·rw [bZ S];exact bk (D5 λ z=>S z.2)
    ·rw [bZ O];exact bE #[_,Y,bk (D5 λ z=>O z.1)]
  ·rw [bZ M];exact bk (I (by rw [X,if_neg λ z=>M z.1]) _ yT)
 ·rintro σ n ⟨lst,d,u,v,rfl,q,m6,zd,aV⟩;rw [bz,ju] at aV;have m9:ay H n:=λ c o e=>q _ _ (cq e fl) ((qm.trans s3) _ _ e)
  exact #[l,_,Y,aS.of m6,λ p mH oo s5 B=>ed d (by rw [xZ,aV];rfl) p mH (m9.trans s5) B]
theorem G4 (n) (ao:1<=n):eZ.tup (vD (iN dp n))=tupI ((dp.map λ p=>cnt p n).map λ e:Nat=>(e:Int)):=by
 rw [HY dp jq WZ n ao];show eZ.tup ((dp.map λ p=>cnt p n).map _)=eZ.tup (((dp.map λ p=>cnt p n).map _).map V.int);rw [gS];rfl
theorem GV (ak:1<=a) (c:1<=b):((qB (λ x y=>decide (0<x*y)) (λ x Z=>x) ((dp.map λ p=>cnt p a).map λ e:Nat=>(e:Int)) ((dp.map λ p=>cnt p b).map λ e:Nat=>(e:Int))).map V.int).length=0 ↔ my a b=.t:=by
 rw [W7 ak c];unfold qB;rw [bz,bz,q1,List.filter_eq_nil_iff,gS,gS,List.zip_map'];constructor
 ·intro h p ah z;exact h _ (cW.mpr #[p,ah,Y]) (bc z)
 ·intro h q d z;obtain ⟨p,ah,rfl⟩:=cW.mp d;exact h p ah (cD z)
def Zr:bG:=λ vs H Q Z=>∃ x,vs=[.str x]/\bP x/\x.length<=1000000/\(l8 x=.n->∀ H',ay H H'->Q .aQ H')/\(∀ aw,l8 x=some aw->∀ p xs H',ay H H'->H' p=some (.tup xs)->gg H' xs aw->Q (.ref p) H')
set_option tactic.hygienic true in
theorem Zb (T:a3 K mg):cb P w mg base cn 3 T.KW Zr:=by
 refine T.KW.fn.dO pX .bW λ a0 A outer s H vs Q E g h=>?_
 obtain ⟨x,rfl,ak,eB,fc,ed⟩:=h;refine #[_,(aH (bq 1 pX (d5 az))
  (aH (hQ f_ Y (iX (eE gr iU ll lr (J 0) (ag aT az))) (fL 2 pX)
   (aH (AH (i:=3) pX.dg Y (Or.inl Y) (eg pX (N:=["part"]) (js:=[.n]) (eX _)) Y (iX (eE gr iU ll lr (J 2) (ag aT az))) (λ _ _ _ _=>e5) (λ _ _ _ _=>gu)
    (λ _ _ _ _=>(bQ (BM T) g bT (ag (J 0) az))))
  (aH (bM (dw.pt (dP (br gN (bS eY T.dI dH (ag (J 3) az)) aM (bp _)) (e9 (br pR d4 (J 3) (by with_unfolding_all rfl)))))
   (aJ (bb d4))
   bO)
  (aH (hQ f_ Y (iX (J 3)) (fL 4 pX)
   (aJ (bM (dw.pt (dP (e8 (A5 pg pg aM (J 4) (bK qM aM aM))) (e9 (br mq (bQ (Bo T) g bT (ag (J 4) az)) d4 (bp _)))))
   (aJ (bb d4))
   bO)))
  (aH (bM (br (G9 (il g)) (gs (eg pX (N:=["one", "other"]) (js:=[.n,.n]) (eX _)) Y (qO Y Y T.nv (ag (bQ (Bo T) g bT (ag (b3 c1 (J 3) aM (λ _ _=>rfl)) az)) (ag (bQ (Bo T) g bT (ag (b3 c1 (J 3) aM (λ _ _=>rfl)) az)) az))) (λ _ _ _ _=>(ra (K:=K) (n:=2) Y Y (fD e5 (fD (n0 (i:=1) (show List.Nodup (["one", "other"]:bA) from by decide +kernel) Y (Or.inl Y) (Or.inr Y)) lp)))) (λ _ _ _ _=>(t2 (br gM (bK pz (J 0) (J 1)) aM (bp _))))
    (λ _ _ _ _=>(J 0))) (d5 az) (bp _))
   (aJ (bb d4))
   bO)
  (aJ (gU (eE nU tU tV xa (J 1) (ag (hp (ag (b3 c1 (J 3) aM (λ _ _=>rfl)) (ag (b3 c1 (J 3) aM (λ _ _=>rfl)) az))) az)))))))))
  (aH (bM (br gM (bS eY T.dI dH (ag (J 1) az)) aM (bp _))
   (aJ (bb d4))
   bO)
  (aJ (bb (gP n9 T.jz jy (ag (J 1) az))))))),?_]
 refine #[bF,λ l aq fl s2 jG=>?_];have lT:=n4 32 x;have lf:l8 x=match f3 (Txt.split x (aL 32)) with|some L=>if L.length<=16 then some L else .n|none=>.n:=rfl
 have lS:∀ y∈Txt.split x (aL 32),bP y/\y.length<=1000000:=λ y d=>by
  have:=kk d;exact #[ak.sub this.1,.au]
 refine #[Y,_,_,Y,Y,by rw [g7];rfl,by rw [b7];omega,λ wl km iB s3 d6=>?_];rw [g7] at d6;generalize Txt.split x (aL 32)=ws at d6 lf lT lS;have yP:wl≠l:=λ z=>by rw [z,jG] at iB;cases iB
 refine #[wl,Y,#[_,aS.of d6],rf (xs:=ws.map V.str) (λ i σ C=>∃ (L:cN) (ys:bh) (u v b1:fX),σ=[some (.str x),some (.ref l),u,v,b1]/\cB l km C/\C l=some (.lst ys)/\gg C ys L/\f3 (ws.take i)=some L/\L.length<=i) #[[],[],.n,.n,.n,Y,cB.of (ay.refl _),s3 _ _ jG,#[Y,λ k x e=>by cases e],Y,bx _] (λ i σ C _ ⟨_,_,_,_,_,_,S,_⟩=>aS.of (S _ _ yP d6)) ?_ ?_]
 ·rintro i y σ C d ⟨L,ys,u,v,b1,rfl,S,m6,B,uM,Nb⟩;obtain ⟨cj,qj,rfl⟩:∃ cj,ws[i]?=some cj/\y=.str cj:=by
   rw [et] at d;cases sG:ws[i]? with
   | none=>rw [sG] at d;cases d
   | some f=>rw [sG] at d;exact #[f,Y,(cE d).symm]
  have vc:=b5 qj;have aaM:i<ws.length:=(dr.mp qj).1;have ah:=lS cj vc;have m9:ay H C:=λ c o e=>S _ _ (cq e fl) ((s2.trans s3) _ _ e)
  have bad:fp cj=.n->∀ H',ay H H'->Q .aQ H':=λ m8=>fc (by rw [lf,AR vc m8])
  have zf:=n4 47 cj;have sL:∀ z∈Txt.split cj (aL 47),bP z/\z.length<=1000000:=λ z fw=>by
   have aa:=kk fw;exact #[ah.1.sub aa.1,by have:=ah.2;omega]
  have oR:fp cj=match (Txt.split cj (aL 47)).map cm with | [some a,some b]=>if d1 a b=.t then some (a,b) else .n|_=>.n:=rfl
  refine #[Y,_,_,Y,Y,by rw [yX];rfl,by rw [b7];have:=ah.2;omega,λ sI mH oo s5 aV=>?_];rw [yX] at aV;have aaT:=ah.2;generalize Txt.split cj (aL 47)=av at aV zf sL oR;refine #[sI,Y,#[_,aS.of aV],λ D hz=>?_];refine uk (K:=K) (a:=sI) (σ0:=[]) (xs:=av.map V.str) (by rw [b7,bz];omega) #[_,Y] hz aV (λ i H' zs=>zs=((av.take i).map cm).map ni) rfl (λ i H' aq zs ys _ g _=>g) (λ j y H' zs R s' d qh jc g fb=>?_) λ M zs e1 oI jc g=>?_
  ·obtain ⟨hf,sH,rfl⟩:∃ hf,av[j]?=some hf/\y=.str hf:=by
    rw [et] at d;cases sG:av[j]? with
    | none=>rw [sG] at d;cases d
    | some f=>rw [sG] at d;exact #[f,Y,(cE d).symm]
   have ku:=sL hf (b5 sH);refine #[hf,Y,ku.1,ku.2,λ fa hD=>fb _ fa hD ?_];rw [g,iS,sH,hl,hl];rfl
  rw [g,bz,ju] at oI;have m_:=s5.trans e1;have qn:=m9.trans m_;refine #[D,_,Y,.inl (aS.of oI),Y,_,Y,c3 (λ h=>?_) (λ h=>?_)]
  ·refine bk (bad ?_ M qn);rw [oR];split
   ·rename_i p e hm;rw [hm] at h;exact absurd h (by show ¬ (!decide (V.int 2=V.int 2))=.t;decide)
   ·rfl
  obtain ⟨a,b,rfl⟩:∃ a b,av=[a,b]:=by
   have aa:av.length=2:=by
    by_cases z:av.length=2
    ·exact z
    ·exfalso;apply h;rw [bZ (λ y=>z (by injection y with y;rw [bz,bz] at y;omega))];rfl
   match av,aa with
   | [a,b],_=>exact #[a,b,Y]
  have o7:M D=some (.lst [ni (cm a),ni (cm b)]):=oI;refine #[D,_,Y,.inl (aS.of o7),Y,Ia [cm a,cm b],_,Y,?_];have Z:fp cj=match cm a,cm b with|some p,some e=>if d1 p e=.t then some (p,e) else .n|_,_=>.n:=by
   rw [oR];simp only [es,j6];cases cm a<;>cases cm b<;>rfl
  cases oK:cm a with
  | none =>
   rw [oK] at Z;refine bk (bad Z M qn)
  | some p =>
  cases sF:cm b with
  | none =>
   rw [oK,sF] at Z;refine bk (bad Z M qn)
  | some e =>
  rw [oK,sF] at Z o7;have yv:M D=some (.lst ([p,e].map V.int)):=o7;have Em:fp cj=if d1 p e=.t then some (p,e) else .n:=Z
  have zb:d1 p e=.f->∀ H',ay H H'->Q .aQ H':=λ X=>bad (by rw [Em,if_neg (by rw [X];decide)])
  refine bE #[D,Y,#[_,aS.of yv],rf (xs:=[p,e].map V.int) (λ j σ O=>(∃ i7:fX,σ=[some (.str x),some (.ref l),some (.str cj),some (.ref D),i7])/\ay M O/\∀ z∈[p,e].take j,dT z=.t) #[#[_,Y],ay.refl _,λ z fw=>by cases fw] (λ j σ O _ ⟨_,q,_⟩=>aS.of (q _ _ yv)) ?_ ?_]
  ·rintro j y σ O d ⟨⟨i7,rfl⟩,q,ve⟩;obtain ⟨z,rfl,yI⟩:=jE d;have D6:dT z=.f->Q .aQ O:=λ X=>zb (by
    have hm:=b5 yI;simp only [bt,da,dc] at hm;unfold d1;rcases hm with rfl|rfl
    ·rw [X];rfl
    ·rw [X,jx];rfl) O (qn.trans q)
   have nextT:dT z=.t->∀ G,ay O G->(∃ i7:fX,[some (V.str x),some (.ref l),some (.str cj),some (.ref D),some (.int z)]=[some (.str x),some (.ref l),some (.str cj),some (.ref D),i7])/\ay M G/\∀ y∈[p,e].take (j+1),dT y=.t:=λ X G I=>#[#[_,Y],q.trans I,λ y d=>by
    rw [iS,yI,fA] at d;rcases d with d|d
    ·exact ve y d
    ·rw [show y=z by simpa using d];exact X]
   refine #[_,_,Y,Y,_,Y,?_];by_cases qk:1<=z
   ·rw [bc qk];refine bk #[_,_,Y,Y,#[.aB,.aB,.aB],_,_,Y,Y,_,Y,?_];rw [show (10:Int) ^ (12:Int).toNat=1000000000000 by decide];by_cases sQ:z<=1000000000000
    ·rw [bc sQ];refine bE #[z,Y,qk,λ fg G I=>#[Y,_,Y,bk ?_],λ fg p' G I _ m7=>#[Y,_,Y,bE ?_]]
     ·have:dT z=.f:=by
       unfold dT;rw [bZ fg,jx]
      exact zb (by
       have hm:=b5 yI;simp only [bt,da,dc] at hm;unfold d1;rcases hm with rfl|rfl
       ·rw [this];rfl
       ·rw [this,jx];rfl) G ((qn.trans q).trans I)
     ·refine nextT ?_ G I;unfold dT;rw [bc qk,bc sQ,bc fg];rfl
    ·rw [bZ sQ];exact bk (bk (D6 (by unfold dT;rw [bZ sQ,jx];rfl)))
   ·rw [bZ qk];exact bE #[_,Y,bk (bk (D6 (by unfold dT;rw [bZ qk];rfl)))]
  ·rintro σ O ⟨⟨i7,rfl⟩,q,ve⟩;have aC:dT p=.t:=ve p .zs;have bg:dT e=.t:=ve e .zs;have Cz:1<=p/\gv p.toNat=1:=by
    unfold dT at aC;simp only [eJ,iT] at aC;exact #[aC.1.1,aC.2]
   have re:1<=e/\gv e.toNat=1:=by
    unfold dT at bg;simp only [eJ,iT] at bg;exact #[bg.1.1,bg.2]
   have yw:=q _ _ yv;refine #[D,_,_,_,Y,Y,aS.of yw,Y,p,Y,Cz.1,λ z=>absurd Cz.2 z,λ _ t1 G I _ Dq=>?_];refine #[D,_,_,_,Y,Y,aS.of (I _ _ yw),Y,e,Y,re.1,λ z=>absurd re.2 z,λ _ gf aae CE _ sN=>?_];rw [G4 p.toNat .au] at Dq;rw [G4 e.toNat .au] at sN;have Ee:=CE _ _ Dq;refine #[t1,gf,Y,#[_,aX.of Ee],#[_,aX.of sN],λ xD yu=>?_];refine I_ (K:=K) (t:=λ x y=>decide (0<x*y)) (f:=λ x _=>x) (σ0:=[]) (by rw [bz,bz,bz,bz];decide) #[_,_,Y] yu Ee sN (λ x y H' R ae d r=>?_) (λ x y H' R _ _ _ r=>(r)) λ ob ky kq=>?_
   ·have aaf:0<=x/\x<2 ^ 64:=by
     obtain ⟨c,af,rfl⟩:=cW.mp ae;obtain ⟨uR,_,rfl⟩:=cW.mp af;have U:=TC (p:=uR) p.toNat;have aa:p<=1000000000000:=by
      unfold dT at aC;simp only [eJ,iT] at aC;exact aC.1.2
     omega
    exact #[_,_,Y,Y,.inl #[.au,.au],_,_,Y,Y,_,Y,r]
   refine #[bF,λ nl i0 LS sB xP=>#[xD,nl,_,Y,Y,sB _ _ kq,xP,_,Y,?_]];have s7:=((I.trans CE).trans ky).trans sB;have OV:=(qn.trans q).trans s7;have fr:d1 p e=my p.toNat e.toNat:=by
    unfold d1;rw [aC,bg];rfl
   by_cases vb:my p.toNat e.toNat=.t
   ·rw [bc ((GV .au .au).mpr vb)];refine bE ?_;have u_:i0 l=some (.lst ys):=s7 _ _ (q _ _ (m_ _ _ m6));have C9:=s7 _ _ yw;refine #[.inl #[Y,_,aS.of u_],D,_,_,_,Y,Y,aS.of C9,Y,D,_,_,_,Y,Y,aS.of C9,Y,bF,λ pr B5 rV ow p4=>?_];refine #[l,_,_,Y,Y,ow _ _ u_,by rw [b7,B.1];omega,λ Ll xH qh=>?_];have M8:gg B5 ys L:=((B.same (m_.trans (q.trans s7))).same ow)
    have OA:pr≠l:=λ z=>by rw [z,u_] at rV;cases rV
    refine #[L++[(p,e)],ys++[.ref pr],_,_,_,Y,S.trans ((cB.of ((m_.trans (q.trans s7)).trans ow)).trans xH),qh,?_,?_,by rw [c9];show _+1<=_;omega]
    ·have M9:=M8.but (ow _ _ u_) xH;refine #[by rw [c9,c9,B.1];rfl,λ k y d=>?_];rcases lj k ys.length with hA|hA
     ·rw [jm hA] at d;obtain ⟨c,mR,ct,g1,g2,g3⟩:=M9.2 k y d;exact #[c,mR,ct,g1,g2,by rw [jm (by rw [<-B.1];exact hA)];exact g3]
     ·rw [j4 hA] at d;have oN:k=ys.length:=by
       cases yD:k-ys.length with
       | zero=>omega
       | succ m=>rw [yD] at d;cases d
      subst oN;rw [pM] at d;cases d;exact #[pr,p,e,Y,xH _ _ OA p4,by rw [j4 (by rw [B.1];exact bx _),B.1,pM];rfl]
    ·rw [iS,qj];show f3 (ws.take i++[cj])=_;rw [HL,uM,Em,if_pos (by rw [fr];exact vb)]
   ·rw [bZ λ z=>vb ((GV .au .au).mp z)];exact bk (zb (by rw [fr];exact lh.mpr vb) i0 OV)
 ·rintro σ C ⟨L,ys,u,v,b1,rfl,S,m6,B,uM,Nb⟩;rw [bz,ju] at uM;have m9:ay H C:=λ c o e=>S _ _ (cq e fl) ((s2.trans s3) _ _ e)
  rw [uM] at lf;refine #[l,_,Y,.inl (aS.of m6),_,_,Y,Y,_,Y,c3 (λ h=>?_) (λ h=>?_)]
  ·have h0:(16:Int)<ys.length:=cD h;rw [B.1] at h0;exact fc (by rw [lf];exact if_neg .au) C m9
  ·have h0:¬ (16:Int)<ys.length:=λ z=>h (bc z)
   rw [B.1] at h0;exact #[l,_,Y,aS.of m6,λ p mH oo s5 aV=>ed L (by rw [lf];exact if_pos .au) p ys mH (m9.trans s5) aV (B.same s5)]
end
def iM (n:Nat) (xs:bh):Prop:=∃ ys,xs=ys.map V.str/\fZ ys<=n/\∀ y∈ys,bP y
theorem iM.sub (h:iM n xs) (hm:ys.Sublist xs):iM n ys:=by
 obtain ⟨zs,rfl,ao,b⟩:=h;obtain ⟨ws,hw,rfl⟩:=List.sublist_map_iff.mp hm;exact #[ws,Y,dF (AP hw) ao,λ y a=>b y (hw.subset a)]
theorem iM.app (h:iM m xs) (g:iM n ys):iM (m+n) (xs++ys):=by
 obtain ⟨a,rfl,ak,c⟩:=h;obtain ⟨b,rfl,f,d⟩:=g;exact #[a++b,by rw [hl],by rw [Ti];omega,λ y e=>(fA.mp e).elim (c y) (d y)]
theorem iM.one (h:dA n y):iM (n+1) [.str y]:=#[[y],Y,by show (y.length+0)+1<=_;have:=h.2;omega,λ z a=>by rw [cf.mp a];exact h.1]
theorem iM.len (h:iM n xs):xs.length<=n:=by
 obtain ⟨a,rfl,ak,_⟩:=h;rw [bz];unfold fZ at ak;omega
section
variable {P:Program} {w:World} {K:aP} {mg:Str->b_} {base:Heap}
inductive KV:bG
 |mk {vs H Q E} (a o:Addr) (n:Int) (x sn:Str) (os:bA):vs=[.ref a,.str x,.str sn,.ref o]->H a=some (.lst [.int n])->dA 300 x->bP sn->1<=sn.length->sn.length<=100->H o=some (.lst (os.map V.str))->1<=os.length->os.length<=100->(∀ y∈os,dA 100 y)->(∀ y H' jK,cB a H H'->H' a=some (.lst [.int jK])->dA 900 y->Q (.str y) H')->KV vs H Q E
theorem Yw (T:a3 K mg):cb P w mg base cn 2 T.Kb KV:=by
 refine T.Kb.fn.dO mE .bW λ a0 A outer s H vs Q E k h=>?_
 obtain ⟨a,o,n,x,sn,os,rfl,ak,ae,N1,Dm,Dn,aA,aaQ,aaR,NT,q⟩:=h;refine #[_,(aH (bq 4 mE (bQ (pT T) k bT (ag (J 0) (ag (bK e7 (bS n7 T.dI dH (ag (J 1) az)) aM) az))))
  (aH (bq 5 mE (b3 zM (J 2) (bQ (pT T) k bT (ag (J 0) (ag (bS n7 T.dI dH (ag (J 2) az)) az))) (λ _ _=>rfl)))
  (aH (bq 6 mE (eE gr iU ll lr (J 1) (ag aT az)))
  (aH (bq 7 mE (bQ (pT T) k bT (ag (J 0) (ag (bS eY T.dI dH (ag (J 6) az)) az))))
  (aH (bq 8 mE (b3 c1 (J 3) (bQ (pT T) k bT (ag (J 0) (ag (bS eY T.dI dH (ag (J 3) az)) az))) (λ _ _=>rfl)))
  (aH (bq 9 mE (d5 (ag (J 1) (ag (bK nZ (bK nZ (hs qP (J 1) hq (hr (J 4))) (J 5)) (hs qP (J 1) (hr (J 4)) hq)) (ag (bK nZ (hs qP (J 1) hq (hr (J 4))) (hs qP (J 1) (hr (bK e7 (J 4) aM)) hq)) (ag (bK nZ (bK nZ (hs qP (J 1) hq (hr (J 4))) (J 5)) (hs qP (J 1) (hr (bK e7 (J 4) aM)) hq)) (ag (J 8) az)))))))
  (aH (bq 9 mE (bK jA (J 9) (d5 (ag (eE gr pK pL q9 aT (ag (bK jA (hs rk (J 6) hq (hr (J 7))) (hs rk (J 6) (hr (bK e7 (J 7) aM)) hq)) az)) (ag (eE gr pK pL q9 aT (ag (bK jA (hs rk (J 6) hq (hr (bK e7 (J 7) aM))) (hs rk (J 6) (hr (J 7)) hq)) az)) az)))))
  (aH (bq 9 mE (bK jA (J 9) (d5 (ag (bK nZ aT (J 1)) (ag (bK nZ (J 1) aT) (ag (eE gr pK pL q9 aT (ag (bK jA (bK jA (hs rk (J 6) hq (hr (J 7))) (d5 (ag (J 8) az))) (hs rk (J 6) (hr (bK e7 (J 7) aM)) hq)) az)) (ag (bK nZ (J 1) (J 5)) az)))))))
  (aJ (bb (b3 c1 (J 9) (bQ (pT T) k bT (ag (J 0) (ag (bS eY T.dI dH (ag (J 9) az)) az))) (λ _ _=>rfl)))))))))))),?_]
 have aaU:=ae.2;have b:x.length<=sizeLine:=by rw [b7];omega
 have Dp:sn.length<=sizeLine:=by rw [b7];omega
 have m:o≠a:=λ z=>by
  rw [z,ak] at aA;have e:=eG (λ z=>match z with|some (eZ.lst l)=>l|_=>[]) aA;have jG:=e;cases os with
  | nil=>cases jG
  | cons y os=>injection jG with j;cases j
 refine #[x,Y,b,_,_,Y,Y,a,n,_,Y,ak,.au,.au,λ at' mU H1 Cx hC uI Nj=>?_];refine #[sn,Y,Dp,a,mU,_,Y,Nj,.au,.au,λ L lI aq OM aa7 uJ Dd=>?_];obtain ⟨c,Nr,Nt⟩:∃ c,h6 sn.cps.toList L=some c/\c∈ba sn:=by
  have hA:L.toNat<sn.cps.toList.length:=by rw [e6];show _<sn.length;omega
  exact #[_,eH OM (cK hA),iw hA]
 refine #[sn,L,c,Y,Y,Dp,Nr,?_];have d:dA 1 (⟨[c].toArray⟩):=#[λ z b=>by rw [show z=c by simpa [ba] using b];exact N1 c Nt,bx _]
 refine #[Y,x,_,Y,Y,.aB,by rw [b7];omega,λ wl km iB s3 j=>?_];rw [g7] at j;have lT:=n4 32 x;have i:iM 301 ((Txt.split x (aL 32)).map V.str):=#[_,Y,by
  have:=rg 32 (kg x (aL 32));rw [j_] at this;omega,λ y jI=>ae.1.part jI]
 have N7:1<=(Txt.split x (aL 32)).length:=wo.mpr (kg _ _);generalize (Txt.split x (aL 32))=ws at j i N7 lT;have Nk:=s3 _ _ Dd;have DH:wl≠a:=λ z=>by rw [z,Dd] at iB;cases iB
 refine #[wl,_,Y,.inl (aS.of j),a,lI,_,Y,Nk,by rw [bz];omega,by rw [bz];omega,λ aav x1 mG aau dx G Nl=>?_];have Dh:mG o=some (.lst (os.map V.str)):=G _ _ m (s3 _ _ (uJ _ _ m (uI _ _ m aA)));refine #[o,_,Y,.inl (aS.of Dh),a,x1,_,Y,Nl,by rw [bz];omega,by rw [bz];omega,λ M Cu t ON OO I De=>?_];rw [bz] at OO;have Dk:M.toNat<os.length:=by omega
 have aC:=NT _ (iw Dk);refine #[o,_,_,.str os[M.toNat],Y,Y,aS.of (I _ _ m Dh),eH ON (by rw [et,cK Dk];rfl),?_];generalize os[M.toNat]=odd at aC;have rR:t wl=some (.lst (ws.map V.str)):=I _ _ DH (G _ _ DH j);have Nq:cB a H t:=(((uI.trans uJ).trans (cB.of s3)).trans G).trans I;have f:∀ {u v:Str} {B C:Nat},dA B u->dA C v->B+C<=1000000->u.length+v.length<=sizeLine:=λ {u v B C} h g aaJ=>by
  have:=h.2;have:=g.2;rw [b7];omega
 refine #[_,Y,x,Y,b,λ MB p7 r6=>?_];have t1:dA 300 MB:=#[ae.1.sub r6,.au]
 refine #[_,_,Y,Y,f t1 d .aB,_,Y,x,Y,b,λ yb mS r7=>?_];have gf:dA 300 yb:=#[ae.1.sub r7,.au]
 refine #[_,_,Y,Y,f (t1.app d) gf .aB,_,Y,x,Y,b,λ MC mT Ma=>?_];have t3:dA 300 MC:=#[ae.1.sub Ma,.au]
 refine #[_,_,Y,Y,_,Y,x,Y,b,λ MD aaq r8=>?_];have kz:dA 300 MD:=#[ae.1.sub r8,.au]
 refine #[_,_,Y,Y,f t3 kz .aB,_,Y,x,Y,b,λ yc aar Mb=>?_];have Z:dA 300 yc:=#[ae.1.sub Mb,.au]
 refine #[_,_,Y,Y,f Z d .aB,_,_,Y,Y,_,Y,x,Y,b,λ ME aas Mc=>?_];have uU:dA 300 ME:=#[ae.1.sub Mc,.au]
 refine #[_,_,Y,Y,f (Z.app d) uU .aB,bF,λ Lq lA rU p Nf=>?_];refine #[Y,_,Y,wl,_,Y,p _ _ rR,λ v1 k1 om fa LR hD LZ=>?_];have qb:=i.sub k1;have Ci:=hD _ _ (p _ _ rR);refine #[_,_,Y,Y,_,Y,wl,_,Y,Ci,λ v2 k2 xI mI f8 O L0=>?_];have i7:=i.sub k2;have LJ:=O _ _ Ci;have aaW:=qb.len;have aaX:=i7.len;refine #[om,xI,_,_,Y,Y,O _ _ LZ,L0,by rw [b7];omega,λ xJ mJ Co gZ r1=>?_];obtain ⟨ct,MQ,DA,O2⟩:=qb.app i7;rw [MQ] at r1;have OX:(ct.map (·.length)).sum+ct.length<=1048576:=by unfold fZ at DA;omega
 refine #[aL 32,xJ,ct,eG V.str g7,Y,r1,.aB,OX,?_];have Lu:=dA.join DA O2;have Cj:=gZ _ _ LJ;refine #[Y,_,_,Y,Y,_,Y,wl,_,Y,Cj,λ aay k3 xK ob aag ky kq=>?_];have lO:=i.sub k3;have Ck:=ky _ _ Cj;refine #[_,Y,wl,_,Y,Ck,λ v4 lG Lz i0 LS sB xP=>?_];have CJ:=i.sub lG;have LK:=sB _ _ Ck;have aaY:=lO.len;have aaZ:=CJ.len;refine #[xK,Lz,_,_,Y,Y,sB _ _ kq,xP,by rw [b7];omega,λ xM B5 rV ow p4=>?_];obtain ⟨c5,MR,DB,O3⟩:=lO.app CJ;rw [MR] at p4;have OY:(c5.map (·.length)).sum+c5.length<=1048576:=by unfold fZ at DB;omega
 refine #[aL 32,xM,c5,eG V.str g7,Y,p4,.aB,OY,?_];have Lv:=dA.join DB O3;have LL:=ow _ _ LK;have N:=(((((hD.trans O).trans gZ).trans ky).trans sB).trans ow)
 refine #[bF,λ Lr Ll aah r Ng=>?_];refine #[Lq,Lr,_,_,Y,Y,r _ _ (N _ _ Nf),Ng,bF,λ Ls Z9 aai R Nh=>?_];have Cm:=R _ _ (r _ _ LL);have aa3:(aL 32).length=1:=rfl;have a7:dA 1 (aL 32):=#[λ z b=>by rw [show z=32 by simpa [ba] using b];decide,bx _]
 refine #[aL 32,x,eG V.str g7,Y,f a7 ae .aB,x,aL 32,Y,eG V.str g7,f ae a7 .aB,?_];refine #[Y,_,Y,wl,_,Y,Cm,λ aaz k5 LA Z_ aaj CA L1=>?_];have mZ:=i.sub k5;have LM:=CA _ _ Cm;refine #[bF,λ LB aaa aak aV r2=>?_];have aa0:=mZ.len;refine #[LA,LB,_,_,Y,Y,aV _ _ L1,r2,by rw [b7];show _+1<=_;omega,λ LC aab gc CC L2=>?_];have LN:=CC _ _ (aV _ _ LM);refine #[_,_,Y,Y,_,Y,wl,_,Y,LN,λ v6 oq LD aac aal CD L3=>?_];have CK:=i.sub oq;have DV:=mZ.app (iM.one aC);have abh:=DV.len;have aa1:=CK.len;refine #[LC,LD,_,_,Y,Y,CD _ _ L2,L3,by rw [b7];omega,λ LF aad aam sK Cr=>?_];obtain ⟨i4,MS,DC,O4⟩:=DV.app CK;rw [MS] at Cr;have OZ:(i4.map (·.length)).sum+i4.length<=1048576:=by unfold fZ at DC;omega
 refine #[aL 32,LF,i4,eG V.str g7,Y,Cr,.aB,OZ,?_];have Lw:=dA.join DC O4;refine #[_,_,Y,Y,f ae d .aB,?_];have S:=(((((CA.trans aV).trans CC).trans CD).trans sK))
 refine #[bF,λ uH Lm aan X Ni=>?_];refine #[Ls,uH,_,_,Y,Y,X _ _ (S _ _ Nh),Ni,bF,λ D Ln LU Mt C_=>?_];have DN:ay t Ln:=((((p.trans N).trans (r.trans R)).trans S).trans X).trans Mt;have Nm:=DN _ _ De;refine #[D,_,Y,.inl (aS.of C_),a,Cu,_,Y,Nm,(by show 0<11;decide),(by show 11<1073741824;decide),λ mX Mg B6 OP OQ Cc Nn=>?_];have Ov:D≠a:=λ z=>by
  have:Lm a=some (.lst [.int Cu]):=((((p.trans N).trans (r.trans R)).trans S).trans X) _ _ De;rw [<-z,LU] at this;cases this
 obtain ⟨v,N6,Dr,_⟩:=item_at (n:=11) OP OQ (show ([_,_,_,_,_,_,_,_,_,_,_]).length=11 from Y);refine #[D,_,_,v,Y,Y,aS.of (Cc _ _ Ov C_),N6,?_];have big:∀ {B:Nat} {y:Str},dA B y->B<=900->dA 900 y:=λ h g=>h.mono g
 have fin:∀ y:Str,dA 900 y->Q (.str y) B6:=λ y ty=>q y B6 Mg ((Nq.trans (cB.of DN)).trans Cc) Nn ty
 simp only [bt,da,dc,List.cons_append,List.nil_append] at Dr;rcases Dr with rfl|rfl|rfl|rfl|rfl|rfl|rfl|rfl|rfl|rfl|rfl
 ·exact fin _ (big ae .aB)
 ·exact fin _ (big ((t1.app d).app gf) .aB)
 ·exact fin _ (big (t3.app kz) .aB)
 ·exact fin _ (big ((Z.app d).app uU) .aB)
 ·exact fin _ (big aC .aB)
 ·exact fin _ (big Lu .aB)
 ·exact fin _ (big Lv .aB)
 ·exact fin _ (big (a7.app ae) .aB)
 ·exact fin _ (big (ae.app a7) .aB)
 ·exact fin _ (big Lw .aB)
 ·exact fin _ (big (ae.app d) .aB)
end
theorem VC (h:Txt.split x (aL 32)=("program" : Str)::ws):(⟨(x.cps.toList.drop 8).toArray⟩:Str)=Str.join (aL 32) ws:=by
 have e:=j_ x (aL 32);rw [h] at e;apply t5;rw [<-e];cases ws with
 | nil=>decide +kernel
 | cons y r =>
  show (ba (Str.join (aL 32) (("program")::y::r))).drop 8=_;rw [kb,show ba ("program")=[112,114,111,103,114,97,109] by decide +kernel];rfl
theorem RQ (h:ih x=.t):("" : Str)∈Txt.split x (aL 32):=by
 obtain ⟨y,b,e⟩:=q0.mp h;obtain ⟨z,c,rfl⟩:=cW.mp b;have a:z=(""):=by simpa [jP] using e
 rw [<-a];exact c
theorem U5 (h:Txt.split x (aL 32)=("program" : Str)::ws):eo x=(l8 (Str.join (aL 32) ws)).isSome:=by
 unfold eo;rw [h,Bu,Wb];cases b:ih x with
 | false=>rfl
 | true =>
  have hm:=RQ b;rw [h] at hm;have a:=(bt.mp hm).elim (λ z=>absurd z .aB) id;have c:ws≠[]:=λ z=>by rw [z] at a;cases a
  have aj:=xc 32 ws c λ p ah=>StrLaws.split_free x 32 p (by rw [h];exact de _ ah)
  have:l8 (Str.join (aL 32) ws)=.n:=by
   unfold l8;rw [aj,AR a (by decide +kernel)]
  rw [this];rfl
theorem Gg (h:ih x=.t):eo x=.f:=by
 unfold eo;rw [h];rfl
theorem U4 (a:ih x=.f) (h:Txt.split x (aL 32)=aY::ws) (ao:aY ≠ "program"):eo x=(gD (aY::ws)).isSome:=by
 unfold eo;rw [a,h,Bt ao];rfl
theorem PM (h:PyProof.Rows.KTD.datumAt aY fy=some []):(gD (aY::ws)).isSome=decide (ws.length=0):=by
 show ((PyProof.Rows.KTD.datumAt aY fy).bind _).isSome=_;rw [h];cases ws<;>rfl
theorem PN (h:PyProof.Rows.KTD.datumAt aY fy=some [("name" : Str)]):(gD (aY::ws)).isSome=decide (ws.length=1):=by
 show ((PyProof.Rows.KTD.datumAt aY fy).bind _).isSome=_;rw [h];cases ws with
 | nil=>rfl
 | cons a r=>cases r with
  | nil=>rfl
  | cons b r =>
   rw [bZ .zs];rfl
theorem El (h:PyProof.Rows.KTD.datumAt aY fy=some [("name" : Str),cF]) (a:ws.length≠2):(gD (aY::ws)).isSome=.f:=by
 show ((PyProof.Rows.KTD.datumAt aY fy).bind _).isSome=_;rw [h];show (gL [("name"),cF] ws).isSome=.f;rw [Ba _ _ λ z=>a (by rw [<-z];rfl)];rfl
theorem zk (h:PyProof.Rows.KTD.datumAt aY fy=some [("name" : Str),cF]):(gD (aY::[a,b])).isSome=(dm cF b).isSome:=by
 show ((PyProof.Rows.KTD.datumAt aY fy).bind _).isSome=_;rw [h];show ((dm "name" a).bind λ d=>((dm cF b).bind λ d=>(some []).map (d :: ·)).map (d :: ·)).isSome=_;rw [show dm "name" a=some (.nm a) from rfl];cases dm cF b<;>rfl
theorem Sr (h:PyProof.Rows.KTD.datumAt aY fy=.n):(gD (aY::ws)).isSome=.f:=by
 show ((PyProof.Rows.KTD.datumAt aY fy).bind _).isSome=_;rw [h];rfl
theorem GL (h:aY∉[("put" : Str), "drop", "undo", "run", "show", "gone", "names", "fate", "ahead"]):PyProof.Rows.KTD.datumAt aY fy=.n:=by
 simp only [bt,da,dc,not_or] at h;obtain ⟨U,aa,a,b,c,d,e,f,g⟩:=h;unfold fy;simp [PyProof.Rows.KTD.datumAt,dz U,dz aa,dz a,dz b,dz c,dz d,dz e,dz f,dz g,U,aa,a,b,c,d,e,f,g]
theorem in_str (L:bA):ib (.str aY) (L.map V.str)=decide (aY∈L):=by
 rw [nG,iT];constructor
 ·intro h;obtain ⟨y,b,e⟩:=q0.mp h;obtain ⟨z,c,rfl⟩:=cW.mp b;have a:z=aY:=by simpa [jP] using e
  rw [<-a];exact c
 ·intro h;exact q0.mpr #[.str aY,cW.mpr #[aY,h,Y],by simp [jP]]
section
variable {P:Program} {w:World} {K:aP} {mg:Str->b_} {base:Heap}
def JB:bG:=λ vs H Q Z=>∃ x,vs=[.str x]/\bP x/\x.length<=900/\∀ H',ay H H'->Q (.aO (eo x)) H'
theorem Xo (T:a3 K mg):cb P w mg base cn 4 T.IB JB:=by
 refine T.IB.fn.dO BJ .bW λ a0 A outer s H vs Q E I h=>?_
 obtain ⟨x,rfl,ak,eB,q⟩:=h;refine #[_,(aH (bq 1 BJ (eE gr iU ll lr (J 0) (ag aT az)))
  (aH (bM (br dE (b3 c1 (J 1) aM (λ _ _=>rfl)) aT (bp _))
   (aJ (bb (hn wK (bQ (Zb T) I bT (ag (hs (S5 8) (J 0) (hr aM) hq) az)) d4 (bp _))))
   bO)
  (aH (bM (br pR aT (J 1) (by with_unfolding_all rfl))
   (aJ (bb hg))
   bO)
  (aH (bM (br pR (b3 c1 (J 1) aM (λ _ _=>rfl)) (hp (ag aT (ag aT az))) (by with_unfolding_all rfl))
   (aJ (bb (hn dE (bS eY T.dI dH (ag (J 1) az)) aM (bp _))))
   bO)
  (aH (bM (br pR (b3 c1 (J 1) aM (λ _ _=>rfl)) (hp (ag aT (ag aT (ag aT (ag aT az))))) (by with_unfolding_all rfl))
   (aJ (bb (hn dE (bS eY T.dI dH (ag (J 1) az)) aM (bp _))))
   bO)
  (aH (bM (br dE (b3 c1 (J 1) aM (λ _ _=>rfl)) aT (bp _))
   (aJ (bb (vS (hn dE (bS eY T.dI dH (ag (J 1) az)) aM (bp _)) (qN (hn wK (bQ (Yb T) I bT (ag (b3 c1 (J 1) aM (λ _ _=>rfl)) az)) d4 (bp _))))))
   bO)
  (aH (bM (dw.pt (dP (br JS (b3 c1 (J 1) aM (λ _ _=>rfl)) (hp (ag aT (ag aT az))) (by with_unfolding_all rfl)) (e9 (br gN (bS eY T.dI dH (ag (J 1) az)) aM (bp _)))))
   (aJ (bb hg))
   bO)
  (aH (bq 2 BJ (bQ (BM T) I bT (ag (b3 c1 (J 1) aM (λ _ _=>rfl)) az)))
  (aJ (bb (vS (hn wK (J 2) d4 (bp _)) (qN (hn pg (J 2) (b3 c1 (d5 (ag (bK qM aM aM) (ag aM az))) (gP HR T.pf pa (ag (hn dE (b3 c1 (J 1) aM (λ _ _=>rfl)) aT (bp _)) az)) (λ _ _=>rfl)) (bp _)))))))))))))),?_]
 have fw:x.length<=sizeLine:=by rw [b7];omega
 refine #[Y,_,_,Y,Y,.aB,by rw [b7];omega,λ l H1 f1 s1 g=>?_];rw [g7] at g;obtain ⟨aY,ws,av⟩:∃ aY ws,Txt.split x (aL 32)=aY::ws:=by
  cases h:Txt.split x (aL 32) with
  | nil=>exact absurd h (kg _ _)
  | cons aY ws=>exact #[aY,ws,Y]
 rw [av] at g;have aC:∀ y∈aY::ws,bP y/\y.length<=900:=λ y i=>by
  rw [<-av] at i;exact #[ak.part i,dF (kk i).2 eB]
 refine #[l,_,_,_,Y,Y,aS.of g,eH .aB Y,Y,_,Y,?_];by_cases ah:aY = "program"
 ·subst ah;rw [bc rfl];have aR:∀ H',ay H H'->Q (.aO (l8 (Str.join (aL 32) ws)).isSome) H':=λ H' s'=>by rw [<-U5 av];exact q H' s'
  have kq:bP (Str.join (aL 32) ws):=bP.join .aB λ y i=>(aC y (de _ i)).1
  refine bk #[8,Y,x,Y,fw,Y,Y,?_];rw [VC av];have hle:(Str.join (aL 32) ws).length<=1000000:=by
   have U:=rg 32 (kg x (aL 32));rw [j_,av] at U;have aa:=join_le 32 ws;have hy:=AP (List.sublist_cons_self ("program" : Str) ws);omega
  refine #[_,Y,kq,hle,λ ao H' s'=>#[Y,?_],λ aw hf p xs H' s' _ _=>#[Y,?_]]
  ·have:=aR H' (s1.trans s');rw [ao] at this;exact this
  ·have:=aR H' (s1.trans s');rw [hf] at this;exact this
 rw [n2 ah];refine bE #[l,_,Y,.inl (aS.of g),Y,fB.mpr λ y i=>?_,_,Y,?_]
 ·obtain ⟨z,_,rfl⟩:=cW.mp i;rfl
 show (if ib (.str ("")) ((aY::ws).map V.str)=.t then _ else _);rw [<-av,show ib (.str ("")) ((Txt.split x (aL 32)).map V.str)=ih x from rfl];cases aV:ih x with
 | true=>exact bk (by rw [<-Gg aV];exact q H1 s1)
 | false =>
 have aR:∀ H',ay H H'->Q (.aO (gD (aY::ws)).isSome) H':=λ H' s'=>by rw [<-U4 aV av ah];exact q H' s'
 have t:∀ n,decide (V.int (((aY::ws).map V.str).length)=V.int (n+1:Nat))=decide (ws.length=n):=λ n=>wt.mpr #[λ e=>by injection e with e;simp at e;omega,λ e=>by simp;omega]
 have aaF:=g;refine bE #[l,_,_,_,Y,Y,aS.of g,eH .aB Y,bF,λ gf aq f2 s2 jG=>#[gf,_,Y,.inr (aX.of jG),Y,Y,_,Y,?_]];have qm:=s1.trans s2;have L:=s2 _ _ g;show (if ib (.str aY) ([("undo" : Str), "names"].map V.str)=.t then _ else _);rw [in_str];by_cases j:aY∈[("undo" : Str), "names"]
 ·rw [bc j];have hd:PyProof.Rows.KTD.datumAt aY fy=some []:=by
   simp only [bt,da,dc] at j;rcases j with rfl|rfl<;>decide +kernel
  refine bk #[l,_,Y,.inl (aS.of L),Y,?_];have:=aR aq qm;rw [PM hd,<-t 0] at this;exact this
 rw [bZ j];refine bE #[l,_,_,_,Y,Y,aS.of L,eH .aB Y,bF,λ t3 R iB s3 d6=>#[t3,_,Y,.inr (aX.of d6),Y,Y,_,Y,?_]];have o:=qm.trans s3;have m:=s3 _ _ L;show (if ib (.str aY) ([("drop" : Str), "show", "gone", "ahead"].map V.str)=.t then _ else _);rw [in_str];by_cases f:aY∈[("drop" : Str), "show", "gone", "ahead"]
 ·rw [bc f];have hd:PyProof.Rows.KTD.datumAt aY fy=some [("name" : Str)]:=by
   simp only [bt,da,dc] at f;rcases f with rfl|rfl|rfl|rfl<;>decide +kernel
  refine bk #[l,_,Y,.inl (aS.of m),Y,?_];have:=aR R o;rw [PN hd,<-t 1] at this;exact this
 rw [bZ f];refine bE #[l,_,_,_,Y,Y,aS.of m,eH .aB Y,Y,_,Y,?_];by_cases u:aY = "put"
 ·have hd:PyProof.Rows.KTD.datumAt aY fy=some [("name" : Str), "powers"]:=by rw [u];decide +kernel
  rw [bc (by rw [u])];refine bk #[l,_,Y,.inl (aS.of m),Y,_,Y,?_];show (if decide (V.int (((aY::ws).map V.str).length:Int)=V.int ((2+1:Nat):Int))=.t then _ else _);rw [t 2];by_cases d:ws.length=2
  ·rw [bc d];obtain ⟨a,b,rfl⟩:=vY d;have G:=aC b .zs;refine bk #[l,_,_,_,Y,Y,aS.of m,eH .aB Y,b,Y,G.1,.au,λ ao H' s'=>#[Y,?_],λ aj he p H' s' _=>#[Y,?_]]
   ·have:=aR H' (o.trans s');rw [zk hd,show dm "powers" b=(fM b).map .kx from if_pos rfl,Bs,ao] at this;exact this
   ·have:=aR H' (o.trans s');rw [zk hd,show dm "powers" b=(fM b).map .kx from if_pos rfl,Bs,he] at this;exact this
  ·rw [bZ d];have:=aR R o;rw [El hd d] at this;exact bE this
 rw [n2 u];refine bE #[l,_,_,_,Y,Y,aS.of m,eH .aB Y,bF,λ kz S f4 s4 Cf=>#[kz,_,Y,.inr (aX.of Cf),Y,Y,_,Y,?_]];have O:=o.trans s4;have M:=s4 _ _ m;show (if (!ib (.str aY) ([("run" : Str), "fate"].map V.str))=.t then _ else _);rw [in_str];by_cases k:aY∈[("run" : Str), "fate"]
 case neg =>
  rw [bZ k];have hd:=GL (by
   simp only [bt,da,dc,not_or] at j f k ⊢;exact #[u,f.1,j.1,k.1,f.2.1,f.2.2.1,j.2,k.2,f.2.2.2])
  have:=aR S O;rw [Sr hd] at this;exact bk this
 rw [bc k];refine bE #[l,_,Y,.inl (aS.of M),Y,_,Y,?_];show (if (!decide (V.int (((aY::ws).map V.str).length:Int)=V.int ((2+1:Nat):Int)))=.t then _ else _);rw [t 2];obtain ⟨cF,c,hd,X⟩:∃ (cF:Str) (c:Int),PyProof.Rows.KTD.datumAt aY fy=some [("name" : Str),cF]/\((aY = "run" /\ cF = "run count" /\ c=1000000000000000000)\/(aY = "fate" /\ cF = "fate count" /\ c=400)):=by
  simp only [bt,da,dc] at k;rcases k with rfl|rfl
  ·exact #["run count", _,by decide +kernel,.inl #[Y,Y,Y]]
  ·exact #["fate count", _,by decide +kernel,.inr #[Y,Y,Y]]
 by_cases d:ws.length=2
 case neg =>
  rw [bZ d];have:=aR S O;rw [El hd d] at this;exact bk this
 rw [bc d];obtain ⟨a,b,rfl⟩:=vY d;have G:=aC b .zs;have lS:(dm cF b).isSome=((cm b).bind λ n=>if n<=c then some n else .n).isSome:=by
  rcases X with ⟨_,rfl,rfl⟩|⟨_,rfl,rfl⟩
  ·show (if ("run count" : Str) = "powers" then _ else if ("run count" : Str) = "run count" then _ else _:Option fv).isSome=_;rw [if_neg .aB,if_pos rfl];cases cm b with
   | none=>rfl
   | some n=>show (if _ then _ else _:Option fv).isSome=(if _ then _ else _:Option Int).isSome;split<;>rfl
  ·show (if ("fate count" : Str) = "powers" then _ else if ("fate count" : Str) = "run count" then _ else if ("fate count" : Str) = "fate count" then _ else _:Option fv).isSome=_;rw [if_neg .aB,if_neg .aB,if_pos rfl];cases cm b with
   | none=>rfl
   | some n=>show (if _ then _ else _:Option fv).isSome=(if _ then _ else _:Option Int).isSome;split<;>rfl
 refine bE #[l,_,_,_,Y,Y,aS.of M,eH .aB Y,b,Y,G.1,.au,λ v s5=>?_];have vi:=O.trans s5;have Z:=s5 _ _ M;have N:∀ H',ay v H'->Q (.aO ((cm b).bind λ n=>if n<=c then some n else .n).isSome) H':=λ H' s'=>by
  rw [<-lS,<-zk hd];exact aR H' (vi.trans s')
 cases hf:cm b with
 | none =>
  refine #[Y,_,Y,?_];have:=N v (ay.refl _);rw [hf] at this;exact bE this
 | some n =>
  rw [hf] at N;refine #[Y,_,Y,bk ?_];have fin:∀ H',ay v H'->Q (.aO (decide (n<=c))) H':=λ H' s'=>by
   have:=N H' s';rw [show ((some n).bind λ n=>if n<=c then some n else .n).isSome=decide (n<=c) by
    show (if n<=c then some n else .n).isSome=_;by_cases h:n<=c
    ·rw [if_pos h,bc h];rfl
    ·rw [if_neg h,bZ h];rfl] at this
   exact this
  rcases X with ⟨rfl,rfl,rfl⟩|⟨rfl,rfl,rfl⟩
  ·refine #[_,_,Y,Y,?_,bF,λ D B rU r C=>#[l,_,_,_,Y,Y,aS.of (r _ _ Z),eH .aB Y,Y,.inr #[_,Y,D,_,_,V.int (10 ^ 18),Y,Y,aS.of C,?_,_,_,Y,Y,?_]]]
   ·unfold y7;decide
   ·rw [n2 (show ("run" : Str) ≠ "fate" by decide)];rfl
   ·exact fin B r
  ·refine #[_,_,Y,Y,?_,bF,λ D B rU r C=>#[l,_,_,_,Y,Y,aS.of (r _ _ Z),eH .aB Y,Y,.inr #[_,Y,D,_,_,V.int 400,Y,Y,aS.of C,?_,_,_,Y,Y,?_]]]
   ·unfold y7;decide
   ·rw [bc rfl];rfl
   ·exact fin B r
end
def kC (H H':aD):Prop:=∀ c xs,H c=some (.tup xs)->H' c=some (.tup xs)
theorem kC.of (s:ay H H'):kC H H':=λ c xs h=>s _ _ h
theorem f7.dy (h:f7 H xs aw) (k:kC H H'):f7 H' xs aw:=#[h.1,λ i x ae=>by
 obtain ⟨a,b,c,U,aa,d,e⟩:=h.2 i x ae;exact #[a,b,c,U,aa,k _ _ d,e]]
abbrev Ent:=bB×Int
abbrev eb:=List (Str×Ent)
def kO (H:aD) (u:V) (e:Ent):Prop:=∃ w a,u=.ref w/\H w=some (.tup [.ref a,.int e.2])/\H a=some (tupI e.1)
theorem kO.dy (h:kO H u e) (k:kC H H'):kO H' u e:=by
 obtain ⟨w,a,b,U,aa⟩:=h;exact #[w,a,b,k _ _ U,k _ _ aa]
inductive dD (H:aD):List (Key×V)->eb->Prop
 | nil:dD H [] []
 | cons {x:Str} {u:V} {e:Ent} {kvs:List (Key×V)} {bl:eb}:kO H u e->dD H kvs bl->dD H ((b0 x,u)::kvs) ((x,e)::bl)
section
variable {H H':aD} {kvs:List (Key×V)} {bl:eb} {x:Str} {u:V} {e:Ent}
theorem tA (h:b0 x=b0 y):x=y:=by injection h
theorem dD.dy (k:kC H H'):∀ {kvs:List (Key×V)} {bl:eb},dD H kvs bl->dD H' kvs bl
 | _,_,.nil=>.nil
 | _,_,.cons h t=>.cons (h.dy k) (t.dy k)
theorem dD.len:∀ {kvs:List (Key×V)} {bl:eb},dD H kvs bl->kvs.length=bl.length
 | _,_,.nil=>rfl
 | _,_,.cons _ t=>by rw [gq,gq,t.len]
theorem dD.keys:∀ {kvs:List (Key×V)} {bl:eb},dD H kvs bl->kvs.map (·.1)=(d2 bl).map b0
 | _,_,.nil=>rfl
 | _,_,.cons _ t=>by rw [es,t.keys];rfl
theorem dD.none:∀ {kvs:List (Key×V)} {bl:eb},dD H kvs bl->di bl x=.n->bU kvs (b0 x)=.n
 | _,_,.nil,_=>rfl
 | _,_,.cons (x:=y) _ t,h=>by
  rw [rx] at h;by_cases a:y=x
  ·rw [if_pos a] at h;cases h
  ·rw [if_neg a] at h;rw [iY (λ z=>a (tA z))];exact t.none h
theorem dD.some:∀ {kvs:List (Key×V)} {bl:eb},dD H kvs bl->di bl x=Option.some e->∃ u,bU kvs (b0 x)=Option.some u/\kO H u e
 | _,_,.nil,h=>by cases h
 | _,_,.cons (x:=y) (u:=u) b t,h=>by
  rw [rx] at h;by_cases a:y=x
  ·rw [if_pos a] at h;cases h;exact #[u,jD (by rw [a]),b]
  ·rw [if_neg a] at h;obtain ⟨c,U,aa⟩:=t.some h;exact #[c,by rw [iY (λ z=>a (tA z))];exact U,aa]
theorem dD.app:∀ {kvs:List (Key×V)} {bl:eb},dD H kvs bl->kO H u e->dD H (kvs++[(b0 x,u)]) (bl++[(x,e)])
 | _,_,.nil,h=>.cons h .nil
 | _,_,.cons a t,h=>.cons a (t.app h)
theorem dD.o_ (b:kO H u e):∀ {kvs:List (Key×V)} {bl:eb},dD H kvs bl->dD H (kvs.map λ c=>if c.1=b0 x then (c.1,u) else c) (bl.map λ p=>if p.1=x then (p.1,e) else p)
 | _,_,.nil=>.nil
 | _,_,.cons (x:=y) h t=>by
  rw [es,es];by_cases a:y=x
  ·rw [if_pos (show b0 y=b0 x by rw [a]),if_pos a];exact .cons b (t.o_ b)
  ·rw [if_neg (λ z=>a (tA z)),if_neg a];exact .cons h (t.o_ b)
theorem dD.put (d:dD H kvs bl) (a:kO H u e):dD H (putK kvs (b0 x) u) (e3 bl x e):=by
 unfold putK e3;have b:(kvs.any λ f=>decide (f.1=b0 x))=(bl.any λ p=>decide (p.1=x)):=by
  induction d with
  | nil=>rfl
  | @cons y _ _ _ _ _ _ c =>
   rw [pE,pE,c];have:decide (b0 y=b0 x)=decide (y=x):=wt.mpr #[tA,λ z=>by rw [z]];rw [this]
 rw [b];split
 ·exact d.o_ a
 ·exact d.app a
theorem dD.drop:∀ {kvs:List (Key×V)} {bl:eb},dD H kvs bl->dD H (mb kvs (b0 x)) (fz bl x)
 | _,_,.nil=>.nil
 | _,_,.cons (x:=y) h t=>by
  unfold mb fz;by_cases a:y=x
  ·rw [List.filter_cons_of_neg (by simp [a]),List.filter_cons_of_neg (by simp [a])];exact t.drop
  ·rw [List.filter_cons_of_pos (by exact bc λ z=>a (tA z)),List.filter_cons_of_pos (by exact bc a)];exact .cons h t.drop
end
def oZ (b:Int) (e:Ent):Prop:=e.1.length=10/\(∀ i∈e.1,0<=i/\i<=b)/\0<=e.2/\e.2<=b
def gJ (b:Int) (bl:eb):Prop:=(d2 bl).Nodup/\bl.length<=12/\∀ p∈bl,hb (.str p.1)=.t/\oZ b p.2
theorem oZ.mono (h:oZ b e) (af:b<=c):oZ c e:=#[h.1,λ i ar=>#[(h.2.1 i ar).1,nW (h.2.1 i ar).2 af],h.2.2.1,nW h.2.2.2 af]
theorem gJ.nil:gJ b []:=#[List.nodup_nil,ej _,λ p h=>by cases h]
theorem gJ.mono (h:gJ b bl) (af:b<=c):gJ c bl:=#[h.1,h.2.1,λ p ah=>#[(h.2.2 p ah).1,(h.2.2 p ah).2.mono af]]
theorem gJ.perm (h:gJ m b) (p:c.Perm b):gJ m c:=#[(p.map _).nodup_iff.mpr h.1,by rw [p.length_eq];exact h.2.1,λ q a=>h.2.2 q (p.mem_iff.mp a)]
theorem gJ.drop (h:gJ m b) (x):gJ m (fz b x):=#[Xi h.1 _,dF (z8 _ _) h.2.1,λ p ah=>h.2.2 p (hO.mp ah).1]
theorem gJ.put (h:gJ m b) (ae:hb (.str x)=.t) (he:oZ m e) (d:di b x≠.n\/b.length<12):gJ m (e3 b x e):=by
 by_cases a:x∈d2 b
 ·refine #[IP h.1 _ _,?_,λ p ah=>?_]
  ·rw [mz a,bz];exact h.2.1
  ·rw [mz a] at ah;obtain ⟨q,c,rfl⟩:=cW.mp ah;split
   ·exact #[(h.2.2 q c).1,he]
   ·exact h.2.2 q c
 ·have f:=d.resolve_left λ z=>z (um.mpr a)
  refine #[IP h.1 _ _,?_,λ p ah=>?_]
  ·rw [mB a,c9];show b.length+1<=12;omega
  ·rw [mB a] at ah;rcases fA.mp ah with z|z
   ·exact h.2.2 p z
   ·rw [cf.mp z];exact #[ae,he]
def o3 (H:aD) (w:V):Option Ent->Prop
 | none=>w=.aQ
 | some e=>kO H w e
theorem o3.dy (k:kC H H'):∀ {o:Option Ent},o3 H w o->o3 H' w o
 | none,h=>h
 | some e,h=>kO.dy h k
theorem dD.hold (d:dD H kvs bl) (h:o3 H w o):dD H (vB kvs x w) (nx bl x o):=by
 cases o with
 | none =>
  obtain rfl:w=.aQ:=h;exact d.drop
 | some e =>
  obtain ⟨a,b,rfl,U,aa⟩:=id h;exact d.put h
theorem dD.opt (d:dD H kvs bl):o3 H ((bU kvs (b0 x)).getD .aQ) (di bl x):=by
 cases h:di bl x with
 | none=>rw [d.none h];rfl
 | some e =>
  obtain ⟨u,a,he⟩:=d.some h;rw [a];exact he
inductive eU (H:aD) (b:Int):bh->eb->Prop
 | nil {bl:eb} (g:gJ b bl):eU H b [] bl
 | snoc {ds:bh} {qg bl:eb} {t:Addr} {x:Str} {w:V} {o:Option Ent} (s:eU H b ds qg) (g:gJ b bl) (aG:H t=some (.tup [.str x,w])) (aA:o3 H w o) (ae:o=.n->di bl x≠.n) (ah:(nx bl x o).Perm qg):eU H b (ds++[.ref t]) bl
theorem eU.good (s:eU H b ds bl):gJ b bl:=by
 cases s with
 | nil g=>exact g
 | snoc _ g _ _ _ _=>exact g
theorem eU.dy (k:kC H H') (s:eU H b ds bl):eU H' b ds bl:=by
 induction s with
 | nil g=>exact .nil g
 | snoc _ g aG aA ae ah a=>exact .snoc a g (k _ _ aG) (aA.dy k) ae ah
theorem eU.mono (af:b<=c) (s:eU H b ds bl):eU H c ds bl:=by
 induction s with
 | nil g=>exact .nil (g.mono af)
 | snoc _ g aG aA ae ah a=>exact .snoc a (g.mono af) aG aA ae ah
theorem eU.last (s:eU H b (h9++[u]) bl):∃ (t:Addr) (x:Str) (w:V) (o:Option Ent) (qg:eb),u=.ref t/\H t=some (.tup [.str x,w])/\o3 H w o/\(o=.n->di bl x≠.n)/\(nx bl x o).Perm qg/\eU H b h9 qg:=by
 generalize e:h9++[u]=l at s;cases s with
 | nil g=>exact absurd e .zs
 | snoc s g aG aA ae ah =>
  obtain ⟨rfl,a⟩:=List.append_inj' e rfl;injection a with a;exact #[_,_,_,_,_,a,aG,aA,ae,ah,s]
theorem eU.perm (s:eU H b ds bl) (p:c.Perm bl):eU H b ds c:=by
 cases s with
 | nil g=>exact .nil (g.perm p)
 | snoc s g aG aA ae ah=>exact .snoc s (g.perm p) aG aA (λ z=>by rw [WJ p ((p.map _).nodup_iff.mpr g.1)];exact ae z) ((BD p _ _).trans ah)
theorem T7 {b:eb}:di (e3 b x e) x≠.n:=by
 intro z;have a:=um.mp z;by_cases h:x∈d2 b
 ·rw [mz h] at a;obtain ⟨p,ah,c⟩:=cW.mp h;exact a (cW.mpr #[_,cW.mpr #[p,ah,Y],by split<;>assumption])
 ·rw [mB h] at a;exact a (cW.mpr #[(x,e),fq _ (cf.mpr Y),Y])
theorem eU.put (s:eU H b ds c) (k:kC H H') (d:dD H kvs c) (ae:hb (.str x)=.t) (he:oZ b e) (a:di c x≠.n\/c.length<12) (aG:H' t=some (.tup [.str x,(bU kvs (b0 x)).getD .aQ])):eU H' b (ds++[.ref t]) (e3 c x e) :=
 .snoc (s.dy k) (s.good.put ae he a) aG (d.opt.dy k) (λ Z=>T7) (Tf s.good.1 (wa _))
theorem eU.drop (s:eU H b ds c) (k:kC H H') (d:dD H kvs c) (a:di c x=some e) (aG:H' t=some (.tup [.str x,(bU kvs (b0 x)).getD .aQ])):eU H' b (ds++[.ref t]) (fz c x) :=
 .snoc (s.dy k) (s.good.drop x) aG (d.opt.dy k) (λ z=>by rw [a] at z;cases z) (Ve s.good.1 a (wa _))
theorem FL (h:gL [] ws=some ds):ds=[]:=by
 cases ws with
 | nil=>exact (cE h).symm
 | cons _ _=>cases h
theorem tX (h:gL [k] ws=some ds):∃ a d,ws=[a]/\dm k a=some d/\ds=[d]:=by
 cases ws with
 | nil=>cases h
 | cons a r=>cases r with
  | nil =>
   have h':((dm k a).bind λ d=>(some ([])).map (d :: ·))=some ds:=h;cases e:dm k a with
   | none=>rw [e] at h';cases h'
   | some d=>rw [e] at h';exact #[a,d,Y,e,(cE h').symm]
  | cons b r =>
   have:=Ba [k] (a::b::r) .zs;rw [this] at h;cases h
theorem Aj (h:gL [k,dQ] ws=some ds):∃ a a' d b4,ws=[a,a']/\dm k a=some d/\dm dQ a'=some b4/\ds=[d,b4]:=by
 cases ws with
 | nil=>cases h
 | cons a r =>
  have h':((dm k a).bind λ d=>(gL [dQ] r).map (d :: ·))=some ds:=h;cases e:dm k a with
  | none=>rw [e] at h';cases h'
  | some d =>
   rw [e] at h';cases b:gL [dQ] r with
   | none=>rw [show ((some d).bind λ d=>(gL [dQ] r).map (d :: ·))=(gL [dQ] r).map (d :: ·) from rfl,b] at h';cases h'
   | some f =>
    rw [show ((some d).bind λ d=>(gL [dQ] r).map (d :: ·))=(gL [dQ] r).map (d :: ·) from rfl,b] at h';obtain ⟨a',b4,rfl,c,rfl⟩:=tX b;exact #[a,a',d,b4,Y,e,c,(cE h').symm]
theorem pO (h:dm "name" a=some d):d=.nm a:=(cE h).symm
theorem Qg (h:dm "powers" a=some d):∃ aj,d=.kx aj/\aj.length=10/\∀ e∈aj,0<=e/\e<=1000000:=by
 have h':(fM a).map fv.kx=some d:=h;cases e:fM a with
 | none=>rw [e] at h';cases h'
 | some aj =>
  rw [e] at h';rw [Bs] at e;have uW:=(Ax e).1;exact #[aj,(cE h').symm,uW.1,uW.2]
theorem Rd (h:dm "run count" a=some d):∃ n,d=.b9 n/\0<=n/\n<=1000000000000000000:=by
 have h':((cm a).bind λ n=>if n<=1000000000000000000 then some (fv.b9 n) else .n)=some d:=h;cases e:cm a with
 | none=>rw [e] at h';cases h'
 | some n =>
  rw [e] at h';have aa:(if n<=1000000000000000000 then some (fv.b9 n) else .n)=some d:=h';by_cases ao:n<=1000000000000000000
  ·rw [if_pos ao] at aa;exact #[n,(cE aa).symm,(q5 e).2,ao]
  ·rw [if_neg ao] at aa;cases aa
theorem Sy (h:dm "fate count" a=some d):∃ n,d=.b9 n/\0<=n/\n<=400:=by
 have h':((cm a).bind λ n=>if n<=400 then some (fv.b9 n) else .n)=some d:=h;cases e:cm a with
 | none=>rw [e] at h';cases h'
 | some n =>
  rw [e] at h';have aa:(if n<=400 then some (fv.b9 n) else .n)=some d:=h';by_cases ao:n<=400
  ·rw [if_pos ao] at aa;exact #[n,(cE aa).symm,(q5 e).2,ao]
  ·rw [if_neg ao] at aa;cases aa
def D0 (aY:Str) (ws:bA) (ds:List fv):Prop :=
 (aY = "put" /\ ∃ a b aj,ws=[a,b]/\ds=[.nm a,.kx aj]/\aj.length=10/\∀ e∈aj,0<=e/\e<=1000000) \/
 (aY = "run" /\ ∃ a b n,ws=[a,b]/\ds=[.nm a,.b9 n]/\0<=n/\n<=1000000000000000000) \/
 (aY = "fate" /\ ∃ a b n,ws=[a,b]/\ds=[.nm a,.b9 n]/\0<=n/\n<=400) \/
 ((aY = "drop" \/ aY = "show" \/ aY = "gone" \/ aY = "ahead")/\∃ a,ws=[a]/\ds=[.nm a]) \/
 ((aY = "undo" \/ aY = "names")/\ds=[])
theorem Ft (h:gD (aY::ws)=some ds):D0 aY ws ds:=by
 have h':((PyProof.Rows.KTD.datumAt aY fy).bind λ f=>gL f ws)=some ds:=h;by_cases hm:aY∈[("put" : Str), "drop", "undo", "run", "show", "gone", "names", "fate", "ahead"]
 ·simp only [bt,da,dc] at hm;rcases hm with rfl|rfl|rfl|rfl|rfl|rfl|rfl|rfl|rfl
  ·obtain ⟨a,b,d,b4,rfl,U,aa,rfl⟩:=Aj h';obtain ⟨aj,rfl,c,e⟩:=Qg aa;rw [pO U];exact .inl #[Y,a,b,aj,Y,Y,c,e]
  ·obtain ⟨a,d,rfl,U,rfl⟩:=tX h';rw [pO U];exact .inr (.inr (.inr (.inl #[.inl Y,a,Y,Y])))
  ·exact .inr (.inr (.inr (.inr #[.inl Y,FL h'])))
  ·obtain ⟨a,b,d,b4,rfl,U,aa,rfl⟩:=Aj h';obtain ⟨n,rfl,c,e⟩:=Rd aa;rw [pO U];exact .inr (.inl #[Y,a,b,n,Y,Y,c,e])
  ·obtain ⟨a,d,rfl,U,rfl⟩:=tX h';rw [pO U];exact .inr (.inr (.inr (.inl #[.inr (.inl Y),a,Y,Y])))
  ·obtain ⟨a,d,rfl,U,rfl⟩:=tX h';rw [pO U];exact .inr (.inr (.inr (.inl #[.inr (.inr (.inl Y)),a,Y,Y])))
  ·exact .inr (.inr (.inr (.inr #[.inr Y,FL h'])))
  ·obtain ⟨a,b,d,b4,rfl,U,aa,rfl⟩:=Aj h';obtain ⟨n,rfl,c,e⟩:=Sy aa;rw [pO U];exact .inr (.inr (.inl #[Y,a,b,n,Y,Y,c,e]))
  ·obtain ⟨a,d,rfl,U,rfl⟩:=tX h';rw [pO U];exact .inr (.inr (.inr (.inl #[.inr (.inr (.inr Y)),a,Y,Y])))
 ·rw [GL hm] at h';cases h'
section
variable {P:Program} {w:World} {K:aP} {mg:Str->b_} {base:Heap}
structure eu (T:a3 K mg) (H:aD) (bn pr hd dl:Addr) (kvs:List (Key×V)) (ds:bh) (xs:bh) (aw:cN) (c:eb) (b:Int) (m:Nat):Prop where
 B:eO T H bn pr hd dl kvs ds
 ah:H pr=some (.tup xs)
 fr:f7 H xs aw
 iI:xs.length<=16
 eA:dD H kvs c
 st:eU H b ds c
 lC:ds.length<=m
variable {T:a3 K mg} {H H':aD} {bn pr hd dl:Addr} {kvs:List (Key×V)} {ds xs:bh} {aw:cN} {c:eb} {b:Int} {m:Nat} {Q:b2} {E:cL}
theorem eu.dy (g:eu T H bn pr hd dl kvs ds xs aw c b m) (k:g4 hd dl H H'):kC H H':=λ a ys h=>k a _ (fo h g.B.hd nofun) (fo h g.B.dl nofun) h
theorem eu.len (g:eu T H bn pr hd dl kvs ds xs aw c b m):kvs.length<=12:=by
 rw [g.eA.len];exact g.st.good.2.1
theorem eu.same (g:eu T H bn pr hd dl kvs ds xs aw c b m) (s:ay H H'):eu T H' bn pr hd dl kvs ds xs aw c b m :=
 #[g.B.same s,s _ _ g.ah,g.fr.dy (.of s),g.iI,g.eA.dy (.of s),g.st.dy (.of s),g.lC]
theorem eu.put (g:eu T H bn pr hd dl kvs ds xs aw c b m) {aj:bB} (ak:bP a) (G:a.length<=900) (ah:H p=some (.tup (aj.map V.int))) (c8:aj.length=10) (f:∀ e∈aj,0<=e/\e<=1000000) (hm:m<=900) (D:1000000<=b)
  (q:∀ v j l H',g4 hd dl H H'->eu T H' bn pr hd dl v j xs aw (e3 c a l) b (m+1)->Q .aQ H') (e:∀ C H',(C=T.c4/\hb (.str a)=.f)\/(C=T.dj/\kvs.length=12)->ay H H'->E (.ref C) .n H'):wY T [.ref bn,.str a,.ref p] H Q E:=by
 have o:pe H (.ref p)=.t:=by
  unfold pe;rw [nY ah];show (decide _&&_&&_)=.t;rw [bc (by rw [bz];exact c8),q3,eJ];refine #[fB.mpr λ x ae=>?_,fB.mpr λ x ae=>?_]
  ·obtain ⟨i,ar,rfl⟩:=cW.mp ae;exact bc (f i ar).1
  ·obtain ⟨i,ar,rfl⟩:=cW.mp ae;exact bc (f i ar).2
 refine #[bn,pr,hd,dl,kvs,ds,.str a,.ref p,Y,g.B,g.len,by have:=g.lC;omega,#[trivial,λ x ex=>?_],AO ah (by rw [bz];omega) (λ x ae=>?_),λ d H' s=>e _ H' (.inl #[Y,d]) s,λ Z d=>?_,λ x Z Z Z Z d H' s=>e _ H' (.inr #[Y,d]) s,λ x a' ai ex nm A n Z kL u t b1 H' k hw aG h=>?_]
 ·injection ex with ex;rw [<-ex];exact #[ak,.au]
 ·obtain ⟨i,_,rfl⟩:=cW.mp ae;trivial
 ·rw [o] at d;cases d
 ·injection ex with ex;subst ex;have kt:=g.dy k;have r:ai.length=10:=by assumption
  refine q _ _ (ai,0) H' k #[h,kt _ _ g.ah,g.fr.dy kt,g.iI,(g.eA.dy kt).put #[b1,a',Y,hw,kt _ _ n],g.st.put kt g.eA nm #[r,λ i ar=>#[(kL i ar).1,by have:=(kL i ar).2;omega],tT _,.au] ?_ aG,by rw [c9];have:=g.lC;show ds.length+1<=_;omega];rcases u with z|z
  ·refine .inl λ y=>z (g.eA.none y)
  ·exact .inr (by rw [<-g.eA.len];exact z)
theorem eu.drop (g:eu T H bn pr hd dl kvs ds xs aw c b m) (hm:m<=900)
  (q:∀ n l j H',g4 hd dl H H'->eu T H' bn pr hd dl n l xs aw j b (m+1)->Q .aQ H') (e:∀ H',ay H H'->E (.ref T.c4) .n H'):w7 T [.ref bn,.str a] H Q E:=by
 refine #[bn,pr,hd,dl,kvs,ds,.str a,Y,g.B,by have:=g.len;omega,by have:=g.lC;omega,trivial,λ Z=>e H (ay.refl _),λ x u ex f t H' k aG i=>?_];injection ex with ex;subst ex;have kt:=g.dy k;obtain ⟨d,h0⟩:∃ d,di c a=some d:=by
  cases h:di c a with
  | none=>rw [g.eA.none h] at f;cases f
  | some d=>exact #[d,Y]
 exact q _ _ (fz c a) H' k #[i,kt _ _ g.ah,g.fr.dy kt,g.iI,(g.eA.dy kt).drop,g.st.drop kt g.eA h0 (by rw [f];exact aG),by rw [c9];have:=g.lC;show ds.length+1<=_;omega]
theorem eu.PV (g:eu T H bn pr hd dl kvs ds xs aw c b m)
  (q:∀ n f d H',g4 hd dl H H'->eu T H' bn pr hd dl n f xs aw d b m->Q .aQ H') (e:∀ H',ay H H'->E (.ref T.dN) .n H'):w8 T [.ref bn] H Q E:=by
 refine #[bn,pr,hd,dl,kvs,ds,Y,g.B,by have:=g.len;omega,λ Z=>e H (ay.refl _),λ h9 u j=>?_];subst j;obtain ⟨t,x,b1,o,qg,rfl,aG,aA,ae,ah,s0⟩:=g.st.last;refine #[t,x,b1,Y,aG,?_,λ H' k a=>?_]
 ·cases o with
  | none =>
   refine .inl #[aA,?_];cases h:di c x with
   | none=>exact absurd h (ae Y)
   | some i =>
    obtain ⟨u,l,_⟩:=g.eA.some h;exact #[u,l]
  | some i =>
   obtain ⟨p,a2,rfl,_⟩:=aA
   exact .inr #[p,Y]
 ·have kt:=g.dy k;exact q _ _ (nx c x o) H' k #[a,kt _ _ g.ah,g.fr.dy kt,g.iI,(g.eA.dy kt).hold (aA.dy kt),(s0.perm ah).dy kt,by have:=g.lC;rw [c9] at this;omega]
theorem eu.run (g:eu T H bn pr hd dl kvs ds xs aw c b m) (h0:0<=n) (ao:n<=1000000000000000000) (hm:m<=900) (kr:0<=b)
  (q:∀ (k:Nat) Z A z H',k<=1000000000000000000->g4 hd dl H H'->eu T H' bn pr hd dl Z A xs aw z (b+40000000000000000000) (m+1)->Q (.int (k:Int)) H') (e:∀ C H',C=T.c4\/C=T.dj->ay H H'->E (.ref C) .n H'):rl T [.ref bn,.str a,.int n] H Q E:=by
 refine #[bn,pr,hd,dl,kvs,ds,.str a,n,Y,g.B,by have:=g.len;omega,by have:=g.lC;omega,trivial,h0,.au,λ _=>e _ H (.inl Y) (ay.refl _),λ x u ex f=>?_];injection ex with ex;subst ex;obtain ⟨d,j⟩:∃ d,di c a=some d:=by
  cases h:di c a with
  | none=>rw [g.eA.none h] at f;cases f
  | some d=>exact #[d,Y]
 obtain ⟨aaw,v,qb,a1,rfl,S,I⟩:=g.eA.some j;rw [f] at v;cases v;have M:=ro j;obtain ⟨N,c8,o,aV,X⟩:=g.st.good.2.2 _ M;have qk:0<=d.2:=aV;have sQ:d.2<=b:=X;have l:=jo.mpr λ i ar=>(o i ar).1
 refine #[qb,a1,xs,aw,d.1,d.2,Y,g.ah,g.fr,by have:=g.iI;omega,S,I,c8,l,λ _ H' s=>e _ H' (.inr Y) s,λ k r aR b1 t H' G bI O hw aG y=>?_];have kt:=g.dy bI;obtain ⟨k1,k2,_⟩:=G.facts (lu aw) c8 l;have L:k<=1000000000000000000:=by omega
 have p:=mm (lu aw) c8 l k2;have aC:=zL (t4 g.fr) (λ i ar=>(o i ar).2) k2;have D:oZ (b+40000000000000000000) (r,d.2+k):=#[p.1,λ i ar=>#[jo.mp p.2 i ar,by have:=aC i ar;omega],.au,.au]
 have R:H' t=some (.tup [.str a,(bU kvs (b0 a)).getD .aQ]):=by rw [f];exact aG
 exact q k _ _ (e3 c a (r,d.2+k)) H' L bI #[y,kt _ _ g.ah,g.fr.dy kt,g.iI,(g.eA.dy kt).put #[b1,aR,Y,hw,O],(g.st.mono .au).put kt g.eA N D (.inl (by rw [j];nofun)) R,by rw [c9];have:=g.lC;show ds.length+1<=_;omega]
end
theorem jN.nil (h:jN H zs []):zs=[]:=q1.mp h.1
theorem jN.one (h:jN H zs [d]):∃ z,zs=[z]/\d.val H z:=by
 cases zs with
 | nil=>cases h.1
 | cons a t=>cases t with
  | nil=>exact #[a,Y,h.2 0 a d Y Y]
  | cons _ _=>cases h.1
theorem jN.two (h:jN H zs [d,b4]):∃ z c,zs=[z,c]/\d.val H z/\b4.val H c:=by
 obtain ⟨a,b,rfl⟩:=vY h.1;exact #[a,b,Y,h.2 0 a d Y Y,h.2 1 b b4 Y Y]
section
variable {P:Program} {w:World} {K:aP} {mg:Str->b_} {base:Heap}
variable {T:a3 K mg} {H H' H1:aD} {bn pr hd dl:Addr} {kvs:List (Key×V)} {ds xs:bh} {aw:cN} {c:eb} {b:Int} {m:Nat} {Q:b2} {E:cL}
theorem eu.mono (g:eu T H bn pr hd dl kvs ds xs aw c b m) (d:b<=a) (hm:m<=e):eu T H bn pr hd dl kvs ds xs aw c a e:=#[g.B,g.ah,g.fr,g.iI,g.eA,g.st.mono d,dF g.lC hm]
theorem g4.pre {b:Addr} (s:ay H H1) (k:g4 a b H1 H'):g4 a b H H':=λ c o d e h=>k c o d e (s _ _ h)
theorem g4.of {b:Addr} (s:ay H H'):g4 a b H H':=λ c o Z Z h=>s _ _ h
theorem eu.answer (g:eu T H bn pr hd dl kvs ds xs aw c b m) (row:D0 aY ws C0) (jb:∀ y∈ws,bP y/\1<=y.length/\y.length<=900) (I:H l=some (.lst zs)) (dX:jN H zs C0) (hm:m<=900) (kr:1000000<=b) (G:b<=10 ^ 30)
  (q:∀ y A r j H',g4 hd dl H H'->eu T H' bn pr hd dl A r xs aw j (b+40000000000000000000) (m+1)->Q (.str y) H')
  (e:∀ C H',C=T.c4\/C=T.dN\/C=T.dj->ay H H'->E (.ref C) .n H'):uf T [.ref bn,.str aY,.ref l] H Q E:=by
 have D:∀ y H',ay H H'->Q (.str y) H':=λ y H' s=>q y _ _ _ H' (.of s) ((g.same s).mono .au .au)
 have nl:hd≠l/\dl≠l\/True:=.inr trivial;obtain ⟨aE,M⟩:=g.B.at_;refine #[bn,l,pr,hd,dl,aY,zs,kvs,ds,Y,I,g.B,?_];rcases row with ⟨rfl,a,a',aj,rfl,rfl,c8,NA⟩|⟨rfl,a,a',n,rfl,rfl,gz,Ou⟩|⟨rfl,a,a',n,rfl,rfl,gz,x1⟩|⟨hw,a,rfl,rfl⟩|⟨hw,rfl⟩
 ·obtain ⟨z,fx,rfl,rfl,p,rfl,ah⟩:=dX.two;have kq:=jb a .zs;refine .inl #[by decide +kernel,λ H1 s1=>#[bn,l,aE,_,_,_,Y,s1 _ _ I,s1 _ _ M,Y,Y,Y,.inl #[Y,_,_,Y,?_]]];exact (g.same s1).put kq.1 kq.2.2 (s1 _ _ ah) c8 NA hm kr (λ A r j H' k d=>q "ok" _ _ _ H' (.pre s1 k) (d.mono .au (bx _))) λ C H' aC s=>e C H' (aC.elim (λ z=>.inl z.1) λ z=>.inr (.inr z.1)) (s1.trans s)
 ·obtain ⟨z,fx,rfl,rfl,rfl⟩:=dX.two;refine .inr (.inr (.inl #[Y,a,n,Y,λ H1 s1=>?_]));exact (g.same s1).run gz Ou hm .au (λ k A r j H' hA bI d=>#[k,Y,.au,λ kB g6=>q _ _ _ _ kB (λ c o mU lI h=>g6 _ _ (bI c o mU lI (s1 _ _ h))) (d.same g6)]) λ C H' aC s=>e C H' (aC.elim .inl λ z=>.inr (.inr z)) (s1.trans s)
 ·obtain ⟨z,fx,rfl,rfl,rfl⟩:=dX.two;refine .inr (.inr (.inr #[a,_,Y,.inr (.inr (.inl Y)),?_]));cases f:di c a with
  | none=>exact .inl #[g.eA.none f,λ H1 s1=>e _ H1 (.inl Y) s1]
  | some t =>
   obtain ⟨u,N,Z,a1,rfl,O,L⟩:=g.eA.some f;obtain ⟨NQ,c8,v,R,X⟩:=g.st.good.2.2 _ (ro f);have S:=R;have aV:=X;exact .inr #[Z,a1,t.2,t.1,xs,aw,#[N,O,L,c8,λ i ar=>#[(v i ar).1,nW (v i ar).2 G],S,nW aV G],g.ah,g.fr,g.iI,.inr (.inr (.inl #[Y,n,Y,gz,x1,λ o H' s _ _=>D _ H' s]))]
 ·obtain ⟨z,rfl,rfl⟩:=dX.one;rcases hw with rfl|hw
  ·refine .inl #[by decide +kernel,λ H1 s1=>#[bn,l,aE,_,_,_,Y,s1 _ _ I,s1 _ _ M,Y,Y,Y,.inr (.inl #[Y,_,Y,?_])]];exact (g.same s1).drop hm (λ A r j H' k d=>q "ok" _ _ _ H' (.pre s1 k) (d.mono .au (bx _))) λ H' s=>e _ H' (.inl Y) (s1.trans s)
  ·refine .inr (.inr (.inr #[a,[],Y,by rcases hw with rfl|rfl|rfl<;>simp,?_]));cases f:di c a with
   | none=>exact .inl #[g.eA.none f,λ H1 s1=>e _ H1 (.inl Y) s1]
   | some t =>
    obtain ⟨u,N,Z,a1,rfl,O,L⟩:=g.eA.some f;obtain ⟨NQ,c8,v,R,X⟩:=g.st.good.2.2 _ (ro f);have S:=R;have aV:=X;refine .inr #[Z,a1,t.2,t.1,xs,aw,#[N,O,L,c8,λ i ar=>#[(v i ar).1,nW (v i ar).2 G],S,nW aV G],g.ah,g.fr,g.iI,?_];rcases hw with rfl|rfl|rfl
    ·exact .inr (.inl #[Y,Y,λ H' s=>D _ H' s])
    ·exact .inl #[Y,Y,λ H' s=>D _ H' s]
    ·exact .inr (.inr (.inr #[Y,Y,λ H' s=>D _ H' s]))
 ·obtain rfl:=dX.nil;rcases hw with rfl|rfl
  ·refine .inl #[by decide +kernel,λ H1 s1=>#[bn,l,aE,_,_,_,Y,s1 _ _ I,s1 _ _ M,Y,Y,Y,.inr (.inr #[Y,?_])]];exact (g.same s1).PV (λ A r j H' k d=>q "ok" _ _ _ H' (.pre s1 k) (d.mono .au .au)) λ H' s=>e _ H' (.inr (.inl Y)) (s1.trans s)
  ·refine .inr (.inl #[Y,d2 c,g.eA.keys,?_,λ x ae=>?_,λ ms _ _ H' s=>D _ H' s])
   ·have:=g.st.good.2.1;rw [bz];omega
   ·obtain ⟨p,ah,rfl⟩:=cW.mp ae;have ao:=(g.st.good.2.2 p ah).1;have va:(decide (1<=p.1.length)&&decide (p.1.length<=8)&&(ba p.1).all nr)=.t:=ao;rw [eJ,eJ] at va;exact cD va.1.2
end
section
variable {P:Program} {w:World} {K:aP} {mg:Str->b_} {base:Heap}
structure ew (T:a3 K mg) (H:aD) (bL aE bn pr hd dl:Addr) (kvs:List (Key×V)) (ds xs:bh) (aw:cN) (c:eb) (b:Int) (m:Nat):Prop where
 at_:H bL=some (.ins T.ea aE [("bench", .ref bn)])
 g:eu T H bn pr hd dl kvs ds xs aw c b m
def yi (M:List Addr) (H H':aD):Prop:=∀ c o,c∉M->H c=some o->H' c=some o
def vx (H:aD) (v:V):Prop:=(∃ l y,v=.ref l/\H l=some (.lst [.str y]))\/v=.str "name" \/ v=.str "deed" \/ v=.str "many"
variable {T:a3 K mg} {H H' H1:aD} {bL aE bn pr hd dl:Addr} {kvs:List (Key×V)} {ds xs:bh} {aw:cN} {c:eb} {b:Int} {m:Nat} {Q:b2} {E:cL}
theorem ew.same (g:ew T H bL aE bn pr hd dl kvs ds xs aw c b m) (s:ay H H'):ew T H' bL aE bn pr hd dl kvs ds xs aw c b m:=#[s _ _ g.at_,g.g.same s]
theorem ew.mono (g:ew T H bL aE bn pr hd dl kvs ds xs aw c b m) (d:b<=a) (hm:m<=e):ew T H bL aE bn pr hd dl kvs ds xs aw c a e:=#[g.at_,g.g.mono d hm]
theorem U3 (h:eo x=.t):ih x=.f:=by
 cases a:ih x with
 | false=>rfl
 | true=>rw [Gg a] at h;cases h
theorem ew.told (g:ew T H bL aE bn pr hd dl kvs ds xs aw c b m) (r5:dh H th) (ae:∀ x,th=.str x->bP x/\x.length<=900) (hm:m<=900) (S:1000000<=b) (aV:b<=10 ^ 30)
  (lM:(∀ x,th=.str x->eo x=.f)->∀ H',ay H H'->Q (.str "row") H')
  (t:∀ x,th=.str x->eo x=.t->∀ v d r f e p n u kJ j H',vx H' v->yi [bL,hd,dl] H H'->ew T H' bL aE d r f e p n u kJ j (b+40000000000000000000) (m+1)->((d=bn/\f=hd/\e=dl)\/(H d=.n/\H f=.n/\H e=.n))->Q v H') :
  pU T [.ref bL,th] H Q E:=by
 refine #[bL,aE,_,th,Y,g.at_,Y,bL,aE,.ref bn,th,Y,r5,ae,g.at_,λ ao v H' aI s=>fN.row T aI λ kB g6=>lM ao kB (s.trans g6),λ x ws kJ ex i av hf r d f e u H' G X D mU lI Ct m7 R N=>?_,λ x aY ws C0 ex i av aaP m8=>.inr #[bn,Y,λ l zs H' s Z dX=>?_]]
 ·refine #[.aB,λ q aq f2 s2 L=>t x ex i _ d r f e [] [] u kJ [] aq (.inl #[q,_,Y,L]) (λ j o k h=>s2 _ _ (G _ _ (λ z=>k (by rw [z];simp)) h)) #[s2 _ _ X,?_] (.inr #[Ct,mU,lI])];exact #[D.same s2,s2 _ _ m7,R.dy (.of s2),N,.nil,.nil .nil,ej _]
 ·obtain ⟨ak,NL⟩:=ae x ex;obtain ⟨aa9,aa_,A,_,_,jb⟩:=HA ak NL (U3 i);rw [av] at A;cases A;have g1:=g.same s;refine g1.g.answer (Ft m8) jb Z dX hm S aV (λ y p n j aq bI g2=>#[.aB,λ q a iB s3 M=>?_]) λ C aq O s2=>?_
  ·have aC:=bI _ _ (fo g1.at_ g1.g.B.hd nofun) (fo g1.at_ g1.g.B.dl nofun) g1.at_;exact t x ex i _ bn pr hd dl p n xs aw j a (.inl #[q,_,Y,M]) (λ I o k h=>s3 _ _ (bI _ _ (λ z=>k (by rw [z];simp)) (λ z=>k (by rw [z];simp)) (s _ _ h))) #[s3 _ _ aC,g2.same s3] (.inl #[Y,Y,Y])
  ·have fin:∀ v,vx aq v->∀ a,ay aq a->(v=.str "name" \/ v=.str "deed" \/ v=.str "many")->Q v a:=λ v _ a s3 aI=>t x ex i v bn pr hd dl kvs ds xs aw c a (.inr aI) (λ I o _ h=>s3 _ _ (s2 _ _ (s _ _ h))) ((g1.same (s2.trans s3)).mono .au .au) (.inl #[Y,Y,Y])
   rcases O with rfl|rfl|rfl
   ·exact fN.name T λ a s3=>fin _ (.inr (.inl Y)) a s3 (.inl Y)
   ·exact fN.Pn T λ a s3=>fin _ (.inr (.inr (.inl Y))) a s3 (.inr (.inl Y))
   ·exact fN.many T λ a s3=>fin _ (.inr (.inr (.inr Y))) a s3 (.inr (.inr Y))
theorem HM (at_:H bL=some (.ins T.ea aE [("bench", .aQ)])) (e:dh H th) (ae:∀ x,th=.str x->bP x/\x.length<=900)
  (ah:∀ x,th=.str x->eo x=.t->∀ ws,Txt.split x (aL 32)≠("program" : Str)::ws)
  (f:(∀ x,th=.str x->eo x=.f)->∀ H',ay H H'->Q (.str "row") H')
  (g:∀ x,th=.str x->eo x=.t->∀ H',ay H H'->Q (.str "program") H'):pU T [.ref bL,th] H Q E :=
 #[bL,aE,_,th,Y,at_,Y,bL,aE,.aQ,th,Y,e,ae,at_,λ ao v H' aI s=>fN.row T aI λ kB d=>f ao kB (s.trans d),λ x ws kJ ex a av Z=>absurd av (ah x ex a ws),λ x aY ws h ex a av i j=>.inl #[Y,λ H' s=>fN.program T λ kB d=>g x ex a kB (s.trans d)]]
end
def qw (c:eb) (i:Nat) (o:Option Str):Prop:=(i=0/\∃ ms,ms.Perm (d2 c)/\PyProof.Rows.sortedS ms=.t/\o=some (qs ms))\/(i=1/\o=(di c "one").map λ e=>dk (bJ e.1))\/(i=2/\o=(di c "two").map λ e=>dk (bJ e.1))\/(i=3/\o=(di c "one").map λ e=>cx e.2)
theorem qw.one (h:qw c i o) (h':qw c i cZ):o=cZ:=by
 rcases h with ⟨rfl,ms,p,s,rfl⟩|⟨rfl,rfl⟩|⟨rfl,rfl⟩|⟨rfl,rfl⟩<;>rcases h' with ⟨z,a,p',s',rfl⟩|⟨z,rfl⟩|⟨z,rfl⟩|⟨z,rfl⟩<;>(first|rfl|cases z|skip);rw [I2 s s' (p.trans p'.symm)]
def iJ (D:Addr) (H:aD) (o:Option Str) (v:V):Prop:=(o=.n/\v=.str "name")\/∃ (l:Addr) (y:Str),o=some y/\v=.ref l/\l≠D/\H l=some (.lst [.str y])
theorem iJ.but (h:iJ D H o v) (b:cB D H H'):iJ D H' o v:=by
 rcases h with h|⟨l,y,U,aa,a,c⟩
 ·exact .inl h
 ·exact .inr #[l,y,U,aa,a,b _ _ a c]
theorem iJ.same (h:iJ D H o v) (s:ay H H'):iJ D H' o v:=h.but (cB.of s)
theorem iJ.y2 (h:iJ D H o v) (h':iJ e H o d):yl H v d:=by
 rcases h with ⟨rfl,rfl⟩|⟨l,y,rfl,rfl,f,a⟩<;>rcases h' with ⟨z,rfl⟩|⟨c,i,z,rfl,g,b⟩
 ·exact .inl #[_,Y,Y]
 ·cases z
 ·cases z
 ·cases z;exact .inr #[l,c,y,Y,Y,a,b]
def nk (D:Addr) (H:aD) (c:eb) (zs:bh):Prop:=∀ i v,zs[i]?=some v->∃ o,qw c i o/\iJ D H o v
theorem nk.but (h:nk D H c zs) (b:cB D H H'):nk D H' c zs:=λ i v aI=>by
 obtain ⟨o,U,aa⟩:=h i v aI;exact #[o,U,aa.but b]
theorem nk.y2 (h:nk D H c zs) (h':nk e H c ys):∀ (i:Nat) x y,zs[i]?=some x->ys[i]?=some y->yl H x y:=λ i x y ae d=>by
 obtain ⟨o,U,aa⟩:=h i x ae;obtain ⟨cZ,a,b⟩:=h' i y d;cases U.one a;exact aa.y2 b
section
variable {P:Program} {w:World} {K:aP} {mg:Str->b_} {base:Heap}
variable {T:a3 K mg} {H H' H1:aD} {bL aE bn pr hd dl:Addr} {kvs:List (Key×V)} {ds xs:bh} {aw:cN} {c:eb} {b:Int} {m:Nat} {Q:b2} {E:cL}
theorem ew.ask (g:ew T H bL aE bn pr hd dl kvs ds xs aw c b m) (ae:bP x/\x.length<=900) (f:eo x=.t) (av:Txt.split x (aL 32)=aY::ws) (j:aY ≠ "program") (k:gD (aY::ws)=some i)
  (h:∀ l zs H',ay H H'->H' l=some (.lst zs)->jN H' zs i->uf T [.ref bn,.str aY,.ref l] H' (λ v H'=>1<=sizeLine/\fi (.lst [v]) H' Q) (fN T Q)):pU T [.ref bL,.str x] H Q E:=by
 refine #[bL,aE,_,.str x,Y,g.at_,Y,bL,aE,.ref bn,.str x,Y,trivial,λ y e=>by cases e;exact ae,g.at_,λ ao=>?_,λ y n kJ e Z a=>?_,λ y p n o e Z a Z d=>.inr #[bn,Y,?_]]
 ·rw [ao x rfl] at f;cases f
 ·cases e;rw [av] at a;cases a;exact absurd rfl j
 ·cases e;rw [av] at a;cases a;rw [k] at d;cases d;exact h
theorem ew.names (g:ew T H bL aE bn pr hd dl kvs ds xs aw c b m) (q:∀ o v H',qw c 0 o->(∀ D,H D≠.n->iJ D H' o v)->ay H H'->Q v H'):pU T [.ref bL,.str "names"] H Q E:=by
 refine g.ask (ws:=[]) #[by unfold bP;decide +kernel,by decide +kernel] (by decide +kernel) (by decide +kernel) (by decide +kernel) rfl λ l zs H1 s1 i dX=>#[bn,l,pr,hd,dl, "names", zs,kvs,ds,Y,i,g.g.B.same s1,.inr (.inl #[Y,d2 c,g.g.eA.keys,?_,λ x ae=>?_,λ ms p s aq s2=>#[bF,λ j d e s3 f=>q (some (qs ms)) _ d (.inl #[Y,ms,p,s,Y]) (λ D h=>.inr #[j,_,Y,Y,λ z=>h ?_,f]) ((s1.trans s2).trans s3)]])]
 ·have:=g.g.st.good.2.1;rw [bz];omega
 ·obtain ⟨p,ah,rfl⟩:=cW.mp ae;have ao:=(g.g.st.good.2.2 p ah).1;have a:(decide (1<=p.1.length)&&decide (p.1.length<=8)&&(ba p.1).all nr)=.t:=ao;rw [eJ,eJ] at a;exact cD a.1.2
 ·rw [<-z];exact (s1.trans s2).free e
theorem ew.one (g:ew T H bL aE bn pr hd dl kvs ds xs aw c b m) (k:b<=10 ^ 30) (ae:bP x/\x.length<=900) (A:eo x=.t) (av:Txt.split x (aL 32)=[aY,a]) (y:gD [aY,a]=some [.nm a]) (hw:(aY = "show" /\ f=λ e=>dk (bJ e.1))\/(aY = "gone" /\ f=λ e=>cx e.2))
  (q:∀ v H',(∀ D,H D≠.n->iJ D H' ((di c a).map f) v)->ay H H'->Q v H'):pU T [.ref bL,.str x] H Q E:=by
 refine g.ask ae A av (by rcases hw with ⟨rfl,_⟩|⟨rfl,_⟩<;>decide) y λ l zs H1 s1 t dX=>#[bn,l,pr,hd,dl,aY,zs,kvs,ds,Y,t,g.g.B.same s1,.inr (.inr (.inr ?_))]
 obtain ⟨z,rfl,rfl⟩:=dX.one;have g1:=g.g.same s1;refine #[a,[],Y,by rcases hw with ⟨rfl,_⟩|⟨rfl,_⟩<;>simp,?_];cases d:di c a with
 | none=>exact .inl #[g1.eA.none d,λ aq s2=>fN.name T λ h s3=>q _ h (λ D Z=>.inl #[by rw [d];rfl,Y]) ((s1.trans s2).trans s3)]
 | some j =>
  obtain ⟨u,C,O,a1,rfl,G,s⟩:=g1.eA.some d;obtain ⟨R,c8,n,I,M⟩:=g1.st.good.2.2 _ (ro d);have aC:=I;have L:=M;have fin:∀ aq,ay H1 aq->1<=sizeLine/\fi (.lst [.str (f j)]) aq Q:=λ aq s2=>#[bF,λ N h o s3 p=>q _ h (λ D r=>.inr #[N,_,by rw [d];rfl,Y,λ z=>r (by rw [<-z];exact (s1.trans s2).free o),p]) ((s1.trans s2).trans s3)]
  refine .inr #[O,a1,j.2,j.1,xs,aw,#[C,G,s,c8,λ i ar=>#[(n i ar).1,nW (n i ar).2 k],aC,nW L k],g1.ah,g1.fr,g1.iI,?_];rcases hw with ⟨rfl,rfl⟩|⟨rfl,rfl⟩
  ·exact .inr (.inl #[Y,Y,fin])
  ·exact .inl #[Y,Y,fin]
inductive Iq (T:a3 K mg):bG
 |mk {vs H Q E} (bL aE bn pr hd dl:Addr) (kvs:List (Key×V)) (ds xs:bh) (aw:cN) (c:eb) (b:Int) (m:Nat):vs=[.ref bL]->ew T H bL aE bn pr hd dl kvs ds xs aw c b m->b<=10 ^ 30->(∀ l zs H',H l=.n->ay H H'->H' l=some (.lst zs)->zs.length=4->nk l H' c zs->Q (.ref l) H')->Iq T vs H Q E
theorem H9 (T:a3 K mg):cb P w mg base cn 13 T.GG (Iq T):=by
 refine T.GG.fn.dO Ik .bW λ a0 A outer s H vs Q E G h=>?_
 obtain ⟨bL,aE,bn,pr,hd,dl,kvs,ds,xs,aw,c,b,m,rfl,g,n,q⟩:=h;refine #[_,(aJ (bb (gs (eg Ik (N:=["text", "desk"]) (js:=[.n,some 0]) (lg.mpr #[Y,(eX _)])) Y (iX (d5 (ag aT (ag aT (ag aT (ag aT az)))))) (λ Z Z Z Z=>e5) (λ Z Z Z Z=>gu)
    (λ Z Z Z Z=>(bQ (BX T) G bT (ag (J 1) (ag (J 0) az))))))),?_]
 refine #[bF,λ l H1 f1 s1 U=>#[l,Y,#[_,aS.of U],λ D r=>uk bF #[_,Y] r U (λ i H' zs=>zs.length=i/\nk D H' c zs) #[Y,λ i v h=>by cases h] (λ i H' p zs ys Z e b=>#[e.1,e.2.but b]) (λ i x H' zs R s' ae z t f I=>?_) λ p zs s3 B t f=>q D zs p (s1.free r) (s1.trans s3) B t f.2]];have k:=g.same (s1.trans s');have fin:∀ o v a,qw c i o->(∀ D,H' D≠.n->iJ D a o v)->ay H' a->R v a:=λ o v a U aa s4=>I v a s4 #[by rw [c9,f.1];rfl,λ j u d=>?_]
 ·refine (?_);rcases (by have:=(dr.mp ae).1;have:i<4:=this;omega:i=0\/i=1\/i=2\/i=3) with rfl|rfl|rfl|rfl
  ·cases ae;exact k.names (E:=ft) fin
  ·cases ae;exact k.one (E:=ft) n #[by unfold bP;decide +kernel,by decide +kernel] (by decide +kernel) (by decide +kernel) rfl (.inl #[Y,Y]) λ v a h s4=>fin _ v a (.inr (.inl #[Y,Y])) h s4
  ·cases ae;exact k.one (E:=ft) n #[by unfold bP;decide +kernel,by decide +kernel] (by decide +kernel) (by decide +kernel) rfl (.inl #[Y,Y]) λ v a h s4=>fin _ v a (.inr (.inr (.inl #[Y,Y]))) h s4
  ·cases ae;exact k.one (E:=ft) n #[by unfold bP;decide +kernel,by decide +kernel] (by decide +kernel) (by decide +kernel) rfl (.inr #[Y,Y]) λ v a h s4=>fin _ v a (.inr (.inr (.inr #[Y,Y]))) h s4
 ·by_cases C:j<zs.length
  ·rw [jm C] at d;obtain ⟨cZ,aC,L⟩:=f.2 j u d;exact #[cZ,aC,L.same s4]
  ·rw [j4 .au] at d;have y:j-zs.length=0:=by
    have:=(dr.mp d).1;have:j-zs.length<1:=this;omega
   rw [y] at d;cases d;obtain rfl:j=i:=by have:=f.1;omega
   exact #[o,U,aa D (by rw [z];nofun)]
end
theorem kl {H:aD} (h:H c=.n) (h':H d=some o):c≠d:=λ z=>by rw [z,h'] at h;cases h
theorem Xx (h:Txt.split x (aL 32)=("program" : Str)::ws):Txt.startswith x "program" = .t:=by
 have e:=j_ x (aL 32);rw [h] at e;have ah:∃ r,ba x=ba ("program")++r:=by
  rw [<-e];cases ws with
  | nil=>exact #[[],by decide +kernel]
  | cons y r=>exact #[_,kb _ _ _ _]
 obtain ⟨r,a⟩:=ah;have b:x.length=7+r.length:=by
  rw [<-fC,a,c9];rfl
 unfold Txt.startswith
 rw [eJ];refine #[bc (by show 0+7<=_;omega),?_];rw [StrLaws.subAt_eq];show (((ba x).drop 0).take 7==ba ("program"))=.t;rw [a,List.drop_zero,show 7=(ba ("program")).length from rfl,List.take_left];exact beq_self_eq_true _
def eS (M:List Addr) (dq:aD) (bL hd dl:Addr) (H:aD):Prop:=∀ c o,c∉M->dq c=some o->H c=some o/\c≠bL/\c≠hd/\c≠dl
theorem eS.start:eS [bL,hd,dl] H bL hd dl H:=λ c o n h=>by
 simp only [bt,da,dc,not_or] at n;exact #[h,n]
theorem eS.same (a:eS M dq bL hd dl H) (s:ay H H'):eS M dq bL hd dl H':=λ c o n h=>#[s _ _ (a c o n h).1,(a c o n h).2]
theorem eS.told (a:eS M dq bL hd dl H) (k:yi [bL,hd,dl] H H') (U:e=hd\/H e=.n) (aa:d=dl\/H d=.n):eS M dq bL e d H':=λ c o n h=>by
 obtain ⟨b,f,g,i⟩:=a c o n h;refine #[k _ _ (by simp only [bt,da,dc,not_or];exact #[f,g,i]) b,f,?_,?_]
 ·rcases U with rfl|U
  ·exact g
  ·exact cq b U
 ·rcases aa with rfl|aa
  ·exact i
  ·exact cq b aa
theorem eS.trans (a:eS M dq bL hd dl H1) (b:eS [bL,hd,dl] H1 bL e d H):eS M dq bL e d H:=λ c o n h=>by
 obtain ⟨f,g,i,j⟩:=a c o n h;exact b c o (by simp only [bt,da,dc,not_or];exact #[g,i,j]) f
theorem eS.kind (a:eS M dq bL hd dl H) (k:dh dq v) (h:∀ c,v=.ref c->c∉M):dh H v:=by
 cases v with
 | ref c =>
  have af:=h c rfl;rcases k with ⟨xs,e⟩|⟨xs,e⟩|⟨kvs,e⟩
  ·exact .inl #[xs,(a c _ af e).1]
  ·exact .inr (.inl #[xs,(a c _ af e).1])
  ·exact .inr (.inr #[kvs,(a c _ af e).1])
 | aQ=>trivial
 | aO b=>trivial
 | int i=>trivial
 | str x=>trivial
 | _=>exact False.elim k
theorem UI {c:eb}:(e3 c a e).length<=c.length+1:=by
 by_cases h:a∈d2 c
 ·rw [mz h,bz];omega
 ·rw [mB h,c9];exact bx _
section
variable {P:Program} {w:World} {K:aP} {mg:Str->b_} {base:Heap}
variable {T:a3 K mg} {H H' H1:aD} {bL aE bn pr hd dl:Addr} {kvs:List (Key×V)} {ds xs:bh} {aw:cN} {c:eb} {b:Int} {m:Nat} {Q:b2} {E:cL}
theorem U6 (at_:H bL=some (.ins T.ea aE [("bench", .aQ)])) (ae:bP x/\x.length<=900) (d:eo x=.t) (av:Txt.split x (aL 32)=("program" : Str)::ws)
  (q:∀ bn pr hd dl xs aw H',cB bL H H'->H hd=.n->H dl=.n->ew T H' bL aE bn pr hd dl [] [] xs aw [] 1000000 0->Q (.str "ok") H'):qQ T [.ref bL,.str x] H Q E:=by
 refine #[bL,aE,.aQ,.str x,Y,trivial,λ y e=>by cases e;exact ae,at_,λ ao=>?_,λ y u kJ e Z a hf t g l i v H' h n f r s A p k j=>q g t l i v kJ H' h r s #[n,f,p,k,j,.nil,.nil .nil,ej _],λ y B u z e Z a o Z=>?_]
 ·rw [ao x rfl] at d;cases d
 ·cases e;rw [av] at a;cases a;exact absurd rfl o
theorem ew.S2 (g:ew T H bL aE bn pr hd dl kvs ds xs aw c b m) (ae:bP x/\x.length<=900) (t:eo x=.t) (av:Txt.split x (aL 32)=[("put" : Str),a,p]) (ak:bP a/\a.length<=900/\hb (.str a)=.t) (af:c.length<12) (hm:m<=900) (A:1000000<=b)
  (q:∀ j f i H',yi [bL,hd,dl] H H'->ew T H' bL aE bn pr hd dl j f xs aw (e3 c a i) b (m+1)->Q (.str "ok") H'):qQ T [.ref bL,.str x] H Q E:=by
 refine #[bL,aE,.ref bn,.str x,Y,trivial,λ y e=>by cases e;exact ae,g.at_,λ ao=>?_,λ y L kJ e Z d=>?_,λ y O L f e Z d Z I=>.inr #[bn,Y,λ l zs H1 s1 s dX=>?_]]
 ·rw [ao x rfl] at t;cases t
 ·cases e;rw [av] at d;injection d with z;exact absurd z .aB
 ·cases e;rw [av] at d;cases d;have g1:=g.same s1;obtain ⟨u,D⟩:=g1.g.B.at_;rcases Ft I with ⟨_,a',p',aj,e,rfl,c8,G⟩|⟨z,_⟩|⟨z,_⟩|⟨z,_⟩|⟨z,_⟩
  ·cases e;obtain ⟨z,R,rfl,rfl,N,rfl,aC⟩:=dX.two;refine #[bn,l,pr,hd,dl, "put", _,kvs,ds,Y,s,g1.g.B,.inl #[by decide +kernel,λ aq s2=>#[bn,l,u,_,_,_,Y,s2 _ _ s,s2 _ _ D,Y,Y,Y,.inl #[Y,_,_,Y,?_]]]];have g2:=g1.same s2;refine g2.g.put ak.1 ak.2.1 (s2 _ _ aC) c8 G hm A (λ j f i r k g3=>q j f i r (λ M o n h=>k _ _ (λ z=>n (by rw [z];simp)) (λ z=>n (by rw [z];simp)) (s2 _ _ (s1 _ _ h))) #[k _ _ (fo g2.at_ g2.g.B.hd nofun) (fo g2.at_ g2.g.B.dl nofun) g2.at_,g3]) λ C r v Z=>?_
   exfalso;rcases v with ⟨_,z⟩|⟨_,z⟩
   ·rw [ak.2.2] at z;cases z
   ·rw [g2.g.eA.len] at z;omega
  ·exact absurd z .aB
  ·exact absurd z .aB
  ·exact absurd z .aB
  ·exact absurd z .aB
def DZ (H:aD) (v:V):Prop:=dh H v/\∀ x,v≠.str x
theorem tF (h:o=some (some v)) (q:k v):yR o k:=by
 rw [h];exact q
theorem VW (N:σ[3]?=some (some (.str x))) (O:σ[7]?=some (some (.ref pt))) (ah:H pt=some (.lst [.int n])) (q:∀ v jK H',cB pt H H'->H' pt=some (.lst [.int jK])->DZ H' v->(∀ c,v=.ref c->H c=.n)->Q v H') :
  l1 (zm K) (vG (f9 (eR .aQ) (f9 (eR (.int 3)) (f9 (eR (.aO .t)) (f9 (vG (f9 (qa 3) gk)) (f9 (E5 (f9 (eR (.str "names")) gk)) (f9 Fz (f9 (vG (f9 (eR (.str "names")) gk)) gk)))))))) (kV BC [] ft (f9 (qa 7) (f9 (eR (.int 7)) gk))) σ H Q:=by
 refine tF N #[bF,λ d H1 f1 s1 U=>#[bF,λ f aq f2 s2 aa=>λ g R p s3 u=>#[bF,λ h S f4 s4 z=>#[bF,λ l aV s s5 A=>?_]]]];have k:=((s1.trans s2).trans s3).trans s4;have o:=k.trans s5;refine tF O #[pt,n,7,Y,o _ _ ah,.aB,.aB,λ r aC j M X a B=>?_];have nl:=kl s (k _ _ ah);have C:=kl f1 ah;have D:=kl f2 (s1 _ _ ah);have G:=kl p (s2 _ _ (s1 _ _ ah));have I:=kl f4 (s3 _ _ (s2 _ _ (s1 _ _ ah)));obtain ⟨v,aI,L,t⟩:∃ v,h6 [.aQ,.int 3,.aO .t,.ref d,.ref f,.ref g,.ref h] r=some v/\DZ j v/\∀ c,v=.ref c->H c=.n:=by
  have ar:r.toNat<[V.aQ,.int 3,.aO .t,.ref d,.ref f,.ref g,.ref h].length:=by show _<7;omega
  refine #[_,eH M (cK ar),?_];have i:=iw ar;generalize [V.aQ,.int 3,.aO .t,.ref d,.ref f,.ref g,.ref h][r.toNat]=y at i;simp only [bt,da,dc] at i;rcases i with rfl|rfl|rfl|rfl|rfl|rfl|rfl
  ·exact #[#[trivial,nofun],nofun]
  ·exact #[#[trivial,nofun],nofun]
  ·exact #[#[trivial,nofun],nofun]
  ·exact #[#[.inr (.inl #[_,a _ _ C (s5 _ _ (s4 _ _ (s3 _ _ (s2 _ _ U))))]),nofun],λ c e=>by cases e;exact f1]
  ·exact #[#[.inl #[_,a _ _ D (s5 _ _ (s4 _ _ (s3 _ _ aa)))],nofun],λ c e=>by cases e;exact s1.free f2]
  ·exact #[#[.inr (.inr #[_,a _ _ G (s5 _ _ (s4 _ _ u))]),nofun],λ c e=>by cases e;exact s1.free (s2.free p)]
  ·exact #[#[.inr (.inl #[_,a _ _ I (s5 _ _ z)]),nofun],λ c e=>by cases e;exact s1.free (s2.free (s3.free f4))]
 exact #[l,_,_,_,Y,Y,aS.of (a _ _ nl A),aI,q v aC j ((cB.of o).trans a) B L t]
theorem none_of (f:σ[9]?=some (some th)) (k:dh H th) (ae:∀ x,th=.str x->bP x/\x.length<=900) (d:(∀ x,th=.str x->eo x=.f)->∀ H',ay H H'->Q (.aO .t) H') (g:∀ x,th=.str x->eo x=.t->∀ H',ay H H'->Q (.aO .f) H') :
  zo (vJ (oU (zl K) (f9 (qa 9) (f9 (eR (.ty "str")) gk)))) (vJ (kV JB [] ft (f9 (qa 9) gk))) σ H Q:=by
 obtain ⟨h,tys,aj⟩:=qz k;refine tF f #[_, "str", h,_,Y,tys,aj,_,Y,_,Y,?_];cases aI:oO th with
 | false=>exact bk (d (λ x e=>by rw [e] at aI;cases aI) H (ay.refl _))
 | true =>
  obtain ⟨x,rfl⟩:∃ x,th=.str x:=by
   cases th<;>first|exact #[_,Y]|cases aI
  refine bE (tF f #[x,Y,(ae x Y).1,(ae x Y).2,λ H1 s1=>#[_,Y,?_]]);cases a:eo x with
  | false=>exact d (λ y e=>by cases e;exact a) H1 s1
  | true=>exact g x rfl a H1 s1
theorem vx.ne (t:vx H v) {y:Str} (d:y = "row" \/ y = "other") (q:Q (.aO .f) H):yQ v (.str y) H Q\/∃ (a:Addr) (b:Str),v=.ref a/\V.str y=.str b/\(∃ xs,H a=some (.lst xs))/\Q (.aO .f) H:=by
 rcases t with ⟨l,z,rfl,h⟩|h
 ·exact .inr #[l,y,Y,Y,#[_,h],q]
 ·refine .inl #[?_,?_]
  ·rcases h with rfl|rfl|rfl<;>rfl
  ·rw [show decide (v=V.str y)=.f by rcases h with rfl|rfl|rfl<;>rcases d with rfl|rfl<;>decide +kernel];exact q
theorem sR {b:Bool} {B:Prop} (h:b=.f) (k:B):if b=.t then A else B:=by
 subst h;exact bE k
end
section
variable {P:Program} {w:World} {K:aP} {mg:Str->b_} {base:Heap}
theorem F4 (b:H k=.n) (d:H a=.n):ay H (upd (upd (upd H a (.own k)) k (.ins C a fl)) k (.ins C a u6)):=λ c o e=>by
 rw [bC (cq e b),bC (cq e b),bC (cq e d)];exact e
noncomputable abbrev vr:Nat:=14
def vW (K:aP):bG:=λ vs H Q Z=>∃ (a:Addr) (ns:bB),vs=[.ref a]/\aS K H a (ns.map V.int)/\ns.length<=63/\∀ H',Q (.aO .t) H'
noncomputable def vF:bA:=["names", "show one", "gone two", "run one 7", "fate two 30", "ahead one", "put one 3^2", "put two 1", "drop two", "undo", "program 1/2 2/3", "program 3/2", "run one 1000000000000000000", "fate one 400"]
noncomputable def zz:bA:=["", "program", "program ", "run one 1000000000000000001", "fate one 401", "run one 07", "put one", "gone", "program 2/4", "program 31/1", "undo -", "put one 2^0", "put one 3^1*2^1", "put one 0", "-"]
theorem S0:∀ y∈vF,dA 300 y:=by unfold dA bP;decide +kernel
theorem R7:∀ y∈zz,dA 100 y:=by unfold dA bP;decide +kernel
noncomputable def RD:bh:=[.str "program 3/2 5/7", .str "put one 2^3*7^1", .str "put two 1"]
theorem QL (T:a3 K mg) (F:fG K "law" "law" zC f fd):dB P w K mg base cn vr f fd ["script"] (vW K):=by
 refine F.dO hk .bW λ a0 A outer s H vs Q E d h=>?_
 obtain ⟨a,ns,rfl,L4,hlen,q⟩:=h;refine #[_,(aH (bq 1 hk (Hd T.rz.at_ (JQ T) (d.mono .aB) Y T.Fg T.rz.bd .nil bT))
  (aH (bq 2 hk (Hd T.rz.at_ (JQ T) (d.mono .aB) Y T.Fg T.rz.bd .nil bT))
  (aH (hQ f_ Y (iX (d5 (ag aT (ag aT (ag aT az))))) (fL 3 hk)
   (aJ (gU (ho (J 1) T.pw T.rr.at_ (Jk T) (d.mono .aB) T.rr.bd .nil QR (ag (J 3) az)))))
  (aH (bq 4 hk (d5 (ag aT (ag aT (ag aT (ag aT (ag aT (ag aT (ag aT (ag aT az))))))))))
  (aH (bq 4 hk (bK jA (J 4) (d5 (ag aT (ag aT (ag aT (ag aT (ag aT (ag aT az)))))))))
  (aH (bq 5 hk (d5 (ag aT (ag aT (ag aT (ag aT (ag aT (ag aT (ag aT az)))))))))
  (aH (bq 5 hk (bK jA (J 5) (d5 (ag aT (ag aT (ag aT (ag aT (ag aT (ag aT (ag aT (ag aT az)))))))))))
  (aH (hQ f_ Y (Br Y T.AA (ag (bS (Bc Y) T.tp tj (ag aM (ag (bS (Vr Y) T.vC vz (ag (bS eY T.dI dH (ag (J 0) az)) (ag aM az))) az))) az)) (fL 6 hk)
   (aH (bq 7 hk (bQ (Ue T) d bT (ag (bQ (XM T) d bT (ag (J 0) (ag (J 6) az))) az)))
  (aH (bq 3 hk (bQ (Yw T) d bT (ag (J 7) (ag (b3 c1 (J 4) (bQ (pT T) d bT (ag (J 7) (ag aM az))) (λ _ _=>rfl)) (ag aT (ag (J 5) az))))))
  (aH (bq 8 hk (b3 c1 (d5 (ag d4 (ag aM (ag hg (ag (d5 (ag (J 3) az)) (ag (hp (ag aT az)) (ag A3 (ag (d5 (ag aT az)) az)))))))) (bQ (pT T) d bT (ag (J 7) (ag aM az))) (λ _ _=>rfl)))
  (aJ (hQ f_ Y (iX (d5 (ag (J 3) (ag (J 8) az)))) (fL 9 hk)
   (aH (bq 10 hk (EV (zU (bS kf T.eN eM (ag (J 9) (ag (jj (by rfl) T.nu nq) az)))) (qN (zU (bQ (Xo T) d bT (ag (J 9) az))))))
  (aH (bq 11 hk (bQ (H9 T) d bT (ag (J 1) az)))
  (aH (bq 12 hk (bQ (BX T) d bT (ag (J 1) (ag (J 9) az))))
  (aH (bM (dw.pt (dP (br gN (hn (F6 (il d)) (J 12) aT (bp _)) (J 10) (bp _)) (dP (br (F6 (il d)) (J 12) aT (bp _)) (e9 (dw.pt (vU (eI (J 10)) (wL (br (Uh (il d)) (bQ (H9 T) d bT (ag (J 1) az)) (J 11) (bp _)))))))))
   (aJ (bb hg))
   bO)
  (aJ (bM (dw.pt (dP (eI (J 10)) (e9 (e8 (eI (eE gr PySem.F.slot_str_startswith PySem.F.type_str_startswith VV (J 9) (ag aT az)))))))
   (aJ (bM (br gN (bQ (BX T) d bT (ag (J 2) (ag (J 9) az))) (b3 c1 (d5 (ag aT (ag aT az))) (gP HR T.pf pa (ag (J 10) az)) (λ _ _=>rfl)) (bp _))
   (aJ (bb hg))
   bO))
   bO))))))))))))
  (aJ (bb hg)))))))))),?_]
 refine λ b k C5 MZ aa4=>#[b,k,Y,bN,Y,?_]
 have yY:=F4 (C:=T.ea) (fl:=[]) (u6:=[("bench", .aQ)]) C5 MZ;have oN:upd (upd (upd H k (.own b)) b (.ins T.ea k [])) b (.ins T.ea k [("bench", .aQ)]) b=_:=bN;generalize upd (upd (upd H k (.own b)) b (.ins T.ea k [])) b (.ins T.ea k [("bench", .aQ)])=B1 at yY oN ⊢;refine λ m O yp M0 aa5=>#[m,O,Y,bN,Y,?_]
 have yZ:=F4 (C:=T.ea) (fl:=[]) (u6:=[("bench", .aQ)]) yp M0;have u9:upd (upd (upd B1 O (.own m)) m (.ins T.ea O [])) m (.ins T.ea O [("bench", .aQ)]) m=_:=bN;generalize upd (upd (upd B1 O (.own m)) m (.ins T.ea O [])) m (.ins T.ea O [("bench", .aQ)])=Z4 at yZ u9 ⊢;have Dz:m≠b:=kl yp oN;have aaI:H m=.n:=yY.free yp;refine #[bF,λ mT I aaH y0 yt=>#[mT,Y,#[_,aS.of yt],?_]];have Dw:=y0 _ _ (yZ _ _ oN);refine rf (K:=K) (xs:=RD) (λ i σ H'=>(∃ R,σ=[some (.ref a),some (.ref b),some (.ref m),R,.n,.n,.n,.n,.n,.n,.n,.n,.n])/\(∀ c o,c≠b->I c=some o->H' c=some o)/\((i=0/\H' b=some (.ins T.ea k [("bench", .aQ)])/\H'=I)\/(1<=i/\∃ bn pr hd dl kvs ds xs aw c,ew T H' b k bn pr hd dl kvs ds xs aw c 1000000 i/\I hd=.n/\I dl=.n/\c.length<=i))) #[#[_,Y],λ c o _ h=>h,.inl #[Y,Dw,Y]] (λ i σ H' _ p=>aS.of (p.2.1 _ _ (fo yt Dw nofun) yt)) ?_ ?_
 ·rintro i x σ H' ae ⟨⟨R,rfl⟩,old,hz⟩;have ar:i<3:=(dr.mp ae).1;have put:∀ {bn pr hd dl:Addr} {kvs ds xs aw c} {a' p' y:Str},x=.str y->ew T H' b k bn pr hd dl kvs ds xs aw c 1000000 i->I hd=.n->I dl=.n->c.length<=i->(bP y/\y.length<=900)->eo y=.t->Txt.split y (aL 32)=[("put" : Str),a',p']->(bP a'/\a'.length<=900/\hb (.str a')=.t)->qQ T [.ref b,x] H' (λ _ G=>(∃ R,[some (.ref a),some (.ref b),some (.ref m),some x,.n,.n,.n,.n,.n,.n,.n,.n,.n]=[some (.ref a),some (.ref b),some (.ref m),R,.n,.n,.n,.n,.n,.n,.n,.n,.n])/\(∀ c o,c≠b->I c=some o->G c=some o)/\((i+1=0/\G b=some (.ins T.ea k [("bench", .aQ)])/\G=I)\/(1<=i+1/\∃ bn pr hd dl kvs ds xs aw c,ew T G b k bn pr hd dl kvs ds xs aw c 1000000 (i+1)/\I hd=.n/\I dl=.n/\c.length<=i+1))) ft:=by
   rintro bn pr hd dl kvs ds xs aw c a' p' y rfl g L N d6 jI d av ak;refine g.S2 jI d av ak .au .au (tT _) λ abg aaE Cn G bI rX=>#[#[_,Y],λ mQ o n h=>bI _ _ ?_ (old _ _ n h),.inr #[.au,_,_,_,_,_,_,_,_,_,rX,L,N,dF UI .au]]
   simp only [bt,da,dc,not_or];exact #[n,cq h L,cq h N]
  have Nv:∃ fl,H' b=some (.ins T.ea k fl)/\fl.lookup ("say" : Str)=.n:=by
   rcases hz with ⟨_,z,_⟩|⟨_,bn,pr,hd,dl,kvs,ds,xs,aw,c,g,_⟩
   ·exact #[_,z,Y]
   ·exact #[_,g.at_,Y]
  obtain ⟨fl,NC,Ot⟩:=Nv;refine #[b,k,fl,Y,NC,Ot,?_];rcases (by omega:i=0\/i=1\/i=2) with rfl|rfl|rfl
  ·cases ae;rcases hz with ⟨_,z,rfl⟩|⟨z,_⟩
   ·dsimp only [gk,f9,qa];refine tF (v:=.str "program 3/2 5/7") rfl ?_;refine U6 (x := "program 3/2 5/7") z #[by unfold bP;decide +kernel,by decide +kernel] (by decide +kernel) (ws:=["3/2", "5/7"]) (by decide +kernel) λ bn pr hd dl xs aw G Ly L N g=>#[#[_,Y],λ c o n h=>Ly _ _ n h,.inr #[.au,bn,pr,hd,dl,_,_,xs,aw,_,g.mono (tT _) .au,L,N,by show 0<=_;omega]]
   ·omega
  ·cases ae;rcases hz with ⟨z,_⟩|⟨_,bn,pr,hd,dl,kvs,ds,xs,aw,c,g,L,N,d6⟩
   ·cases z
   ·exact put rfl g L N d6 #[by unfold bP;decide +kernel,by decide +kernel] (by decide +kernel) (a' := "one") (p' := "2^3*7^1") (by decide +kernel) #[by unfold bP;decide +kernel,by decide +kernel,by decide +kernel]
  ·cases ae;rcases hz with ⟨z,_⟩|⟨_,bn,pr,hd,dl,kvs,ds,xs,aw,c,g,L,N,d6⟩
   ·cases z
   ·exact put rfl g L N d6 #[by unfold bP;decide +kernel,by decide +kernel] (by decide +kernel) (a' := "two") (p' := "1") (by decide +kernel) #[by unfold bP;decide +kernel,by decide +kernel,by decide +kernel]
 ·rintro σ H' ⟨⟨R,rfl⟩,old,hz⟩;rcases hz with ⟨z,_⟩|⟨_,bn,pr,hd,dl,kvs,ds,xs,aw,c,g,MW,MV,-⟩
  ·cases z
  refine #[bF,λ hC Z5 L t1 mR=>#[bF,λ jL Z6 N gf xT=>#[hC,jL,_,_,Y,Y,gf _ _ mR,xT,bF,λ mY B3 d6 t3 xU=>?_]]];refine #[bF,λ Cv Z7 Cf kz L5=>#[bF,λ uQ Z8 rR uT L6=>#[Cv,uQ,_,_,Y,Y,uT _ _ L5,L6,bF,λ p8 dq Cg uU L7=>?_]]];have aC:ay H' B3:=(t1.trans gf).trans t3;have uG:ay B3 dq:=(kz.trans uT).trans uU;have LW:=(g.same (aC.trans uG)).mono (tT _) (show 3<=3 by decide);have yG:dq mY=some (.lst (vF.map V.str)):=uG _ _ xU;have NS:dq p8=some (.lst (zz.map V.str)):=L7;have uO:∀ c,c≠b->(I c≠.n\/H' c=.n)->c∉[b,hd,dl]:=λ c n h=>by
   simp only [bt,da,dc,not_or];refine #[n,?_,?_]
   ·rintro rfl;rcases h with h|h
    ·exact h MW
    ·rw [g.g.B.hd] at h;cases h
   ·rintro rfl;rcases h with h|h
    ·exact h MV
    ·rw [g.g.B.dl] at h;cases h
  have OE:mY∉[b,hd,dl]:=uO mY (kl ((t1.trans gf).free d6) g.at_) (.inr ((t1.trans gf).free d6));have OC:p8∉[b,hd,dl]:=uO p8 (kl (aC.free ((kz.trans uT).free Cg)) g.at_) (.inr (aC.free ((kz.trans uT).free Cg)));have Dx:I m=some (.ins T.ea O [("bench", .aQ)]):=y0 _ _ u9;have DG:m∉[b,hd,dl]:=uO m Dz (.inl (by rw [Dx];nofun));have Di:dq m=some (.ins T.ea O [("bench", .aQ)]):=(aC.trans uG) _ _ (old _ _ Dz Dx);have DP:ay H I:=(yY.trans yZ).trans y0;have vl:∀ c o,H c=some o->dq c=some o/\c∉[b,hd,dl]:=λ c o h=>by
   have uP:c≠b:=cq h C5;exact #[(aC.trans uG) _ _ (old _ _ uP (DP _ _ h)),uO c uP (.inl (by rw [DP _ _ h];nofun))]
  have sc:∀ {D t:Addr} {G:aD},eS [b,hd,dl] dq b D t G->aS K G a (ns.map V.int):=λ {D t G} ap=>by
   rcases L4 with (h|⟨u,h⟩)|h
   ·exact .inl (.inl (ap _ _ (vl _ _ h).2 (vl _ _ h).1).1)
   ·exact .inl (.inr #[u,(ap _ _ (vl _ _ h).2 (vl _ _ h).1).1])
   ·exact .inr h
  refine #[a,_,Y,.inl (sc eS.start),_,_,Y,_,_,Y,?_];generalize NN:(if (if 30<((ns.map V.int).length:Int) then (30:Int) else ((ns.map V.int).length:Int))>1 then (if (30:Int)<((ns.map V.int).length:Int) then (30:Int) else ((ns.map V.int).length:Int)) else 1)=M;have uN:0<=M/\M<=30:=by
   rw [<-NN];split<;>split<;>omega
  refine #[M,Y,.au,.au,Bf (n:=M.toNat) (λ i σ aq=>(∃ R x8 x9 u8 oy oV oW oX:fX,σ=[some (.ref a),some (.ref b),some (.ref m),R,some (.ref mY),some (.ref p8),x8,x9,u8,oy,oV,oW,oX])/\∃ bn pr D t kvs ds xs aw c,ew T aq b k bn pr D t kvs ds xs aw c (1000000+80000000000000000000*(i:Int)) (3+2*i)/\eS [b,hd,dl] dq b D t aq) #[#[_,_,_,_,_,_,_,_,Y],bn,pr,hd,dl,kvs,ds,xs,aw,c,LW,eS.start] ?_ ?_]
  ·rintro i σ aq ar ⟨⟨R,x8,x9,u8,oy,oV,oW,oX,rfl⟩,MK,OK,oJ,Z,PF,MN,O8,MX,om,g1,ap⟩;refine #[a,ns,_,Y,sc ap,.au,λ c=>#[c,Y,λ n pt lS=>?_]];have bG:ay aq (upd aq pt (.lst [.int n])):=ay.new lS;refine #[pt,n,14,Y,bN,.aB,.aB,λ r mU km Cx aa6 rP NU=>?_];have aC:ay aq km:=λ mQ o e=>rP _ _ (cq e lS) (bG _ _ e)
   obtain ⟨x,ae,Mv⟩:∃ x,h6 (vF.map V.str) r=some (.str x)/\dA 300 x:=by
    have ar:r.toNat<vF.length:=by show _<14;omega
    exact #[_,eH Cx (by rw [et,cK ar];rfl),S0 _ (iw ar)]
   refine #[mY,_,_,_,Y,Y,aS.of (aC _ _ (ap _ _ OE yG).1),ae,pt,p8,mU,x,_,zz,Y,NU,Mv,by unfold bP;decide +kernel,by decide +kernel,by decide +kernel,aC _ _ (ap _ _ OC NS).1,.aB,.aB,R7,λ y mG lI mP NV ty=>?_];have uH:ay aq mG:=λ mQ o e=>mP _ _ (cq e lS) (aC _ _ e)
   dsimp only [e4,vu,kR];refine VW (x:=y) rfl rfl NV λ v Ct mH rQ aaS DJ LV=>?_
   have B8:ay aq mH:=λ mQ o e=>rQ _ _ (cq e lS) (uH _ _ e)
   refine #[bF,λ c6 lA rU e1 lD=>#[c6,Y,#[_,aS.of lD],?_]];have B9:=B8.trans e1;have uL:=g1.same B9;have DF:∀ c,aq c=.n->c∉[b,oJ,Z]:=λ c h=>by
    simp only [bt,da,dc,not_or];exact #[kl h g1.at_,kl h g1.g.B.hd,kl h g1.g.B.dl]
   have zj:∀ {D t:Addr} {G:aD},eS [b,oJ,Z] lA b D t G->eS [b,hd,dl] dq b D t G:=λ MI=>(ap.same B9).trans MI
   refine rf (K:=K) (xs:=[.str y,v]) (λ j σ fa=>(∃ oy oV oW oX:fX,σ=[some (.ref a),some (.ref b),some (.ref m),some (.str y),some (.ref mY),some (.ref p8),some (.int (0+(i:Int))),some (.ref pt),some v,oy,oV,oW,oX])/\∃ bn pr D t kvs ds xs aw c,ew T fa b k bn pr D t kvs ds xs aw c (1000000+80000000000000000000*(i:Int)+40000000000000000000*(j:Int)) (3+2*i+j)/\eS [b,oJ,Z] lA b D t fa) #[#[_,_,_,_,Y],MK,OK,oJ,Z,PF,MN,O8,MX,om,uL.mono .au .au,eS.start] ?_ ?_ ?_
   ·rintro j σ fa _ ⟨_,aV,oQ,hd2,oD,o8,oE,oY,oH,X,g2,S⟩;exact aS.of (S _ _ (DF _ (B8.free rU)) lD).1
   ·rintro j th σ fa yH ⟨⟨oy,oV,oW,oX,rfl⟩,aV,oQ,hd2,oD,o8,oE,oY,oH,X,g2,S⟩;have p5:j<2:=(dr.mp yH).1;obtain ⟨oq,xM,sP⟩:dh lA th/\(∀ c,th=.ref c->c∉[b,oJ,Z])/\∀ x,th=.str x->bP x/\x.length<=900:=by
     rcases (by omega:j=0\/j=1) with rfl|rfl
     ·cases yH;exact #[trivial,nofun,λ x e=>by cases e;exact ty]
     ·cases yH;exact #[ay.kind e1 DJ.1,λ c e=>DF c (uH.free (LV c e)),λ x e=>absurd e (DJ.2 x)]
    have r4:dh fa th:=S.kind oq xM;have NX:=((zj S) _ _ DG Di).1;dsimp only [e4,vu,kR];refine none_of (th:=th) rfl r4 sP (λ ao mI i6=>?_) (λ x ex Ed mI i6=>?_)
    ·have p2:=g2.same i6;refine #[b,k,aV,oQ,hd2,oD,o8,oE,oY,oH,X,_,_,Y,p2,.au,λ l zs mJ Co gZ r1 yd CF=>?_];refine ((p2.same gZ).told (E:=ft) (ay.kind gZ (ay.kind i6 r4)) sP .au .au .au (λ _ uY vj=>?_) (λ x ex d=>absurd d (by rw [ao x ex];decide)));have M1:=(p2.same gZ).same vj;refine (.inl #[Y,Y,_,Y,sR (by decide +kernel) (.inl #[Y,_,Y,sR (by decide +kernel) #[_,Y,bk ?_]])]);refine #[b,k,aV,oQ,hd2,oD,o8,oE,oY,oH,X,_,_,Y,M1,.au,λ mS O_ aaD aaG yU M3 aba O1=>#[mS,l,O_,zs,Y,Y,M3,yU _ _ (vj _ _ r1),.au,O1.y2 (CF.but (cB.of (vj.trans yU))),_,Y,bE ?_]];have yk:=((i6.trans gZ).trans vj).trans yU;refine #[_,Y,bk (bk (HM (E:=ft) (yk _ _ NX) (ay.kind yk r4) sP (λ x ex d=>absurd d (by rw [ao x ex];decide)) (λ _ MG yV=>#[bF,λ mT CP MU yW yr=>(.inr #[_,Y,mT,_,_,_,Y,Y,aS.of yr,Y,Y,_,Y,sR (by decide +kernel) ?_])]) (λ x ex d=>absurd d (by rw [ao x ex];decide))))];have CR:=(yk.trans yV).trans yW;exact #[#[_,_,_,_,Y],aV,oQ,hd2,oD,o8,oE,oY,oH,X,(g2.same CR).mono .au .au,S.same CR]
    ·subst ex;have p2:=g2.same i6;refine #[b,k,aV,oQ,hd2,oD,o8,oE,oY,oH,X,_,_,Y,p2,.au,λ l zs mJ Co gZ r1 yd CF=>?_];refine ((p2.same gZ).told (E:=ft) trivial sP .au .au .au (λ ao=>absurd Ed (by rw [ao x rfl];decide)) (λ uX Ce _ aaA ML OL sE CZ PG MO O9 MY xJ uY CG bI g3 DL=>?_));have MJ:=(S.same i6).same gZ;have D4:eS [b,oJ,Z] lA b sE CZ uY:=MJ.told bI (DL.imp (·.2.1) (·.2.1)) (DL.imp (·.2.2) (·.2.2));refine (CG.ne (.inl Y) #[Y,_,Y,sR .aB (CG.ne (.inr Y) #[_,Y,bE #[_,Y,bE (bE ?_)]])]);have fin:∀ G,ay uY G->∃ bn pr D t kvs ds xs aw c,ew T G b k bn pr D t kvs ds xs aw c (1000000+80000000000000000000*(i:Int)+40000000000000000000*((j+1:Nat):Int)) (3+2*i+(j+1))/\eS [b,oJ,Z] lA b D t G:=λ G CB=>#[ML,OL,sE,CZ,PG,MO,O9,MY,xJ,(g3.same CB).mono .au .au,D4.same CB]
     refine #[_,Y,bE #[Y,_,_,Y,Y,_,Y,?_]];cases fg:Txt.startswith x "program" with
     | true=>exact bE #[#[_,_,_,_,Y],fin uY (ay.refl _)]
     | false =>
      refine bk (HM (E:=ft) ((zj D4) _ _ DG Di).1 trivial sP (λ x e _ ws av=>?_) (λ ao=>absurd Ed (by rw [ao x rfl];decide)) (λ _ _ _ MG yV=>#[bF,λ mT CP MU yW yr=>(.inr #[_,Y,mT,_,_,_,Y,Y,aS.of yr,Y,Y,_,Y,sR (by decide +kernel) #[#[_,_,_,_,Y],fin CP (yV.trans yW)]])]));cases e;rw [Xx av] at fg;cases fg
   ·rintro σ fa ⟨⟨oy,oV,oW,oX,rfl⟩,aV,oQ,hd2,oD,o8,oE,oY,oH,X,g2,S⟩;exact #[#[_,_,_,_,_,_,_,_,Y],aV,oQ,hd2,oD,o8,oE,oY,oH,X,g2.mono (by show 1000000+80000000000000000000*(i:Int)+40000000000000000000*((2:Nat):Int)<=_;omega) (by show 3+2*i+2<=_;omega),zj S]
  ·rintro σ aq ⟨⟨R,x8,x9,u8,oy,oV,oW,oX,rfl⟩,_⟩;exact q aq
end
def CN:bA->(List Value->Prop)->Prop
 | [],f=>f []
 | _::ai,f=>∀ u,CN ai λ us=>f (u::us)
theorem u2 {ai:bA}:∀ {f:List Value->Prop},CN ai f->∀ us:List Value,us.length=ai.length->f us:=by
 induction ai with
 | nil =>
  intro f h us e;obtain rfl:=len0 e;exact h
 | cons p ai b =>
  intro f h us e;obtain ⟨u,vs,rfl,a⟩:=PH e;exact b (h u) vs a
theorem fin {l:PySem.W.OpenLaw} {w:World} {K:aP} {h:Heap} {mg:Str->b_} {a:Addr} (X:K.In h) (G:h.Ns mainGlobals mg) (c:mg "law" = some (.ref a)) (d:oa K "law" zC) (T:a3 K mg) :
  ∃ fd:FuncData,(∀ (s:Shared) (v:Value),BindsTo s fd ⟨[v],[]⟩ [("script", v)])/\∀ base:Heap,K.In base->base.Ns mainGlobals mg->dB l.prog w K mg base cn vr a fd ["script"] (vW K):=by
 obtain ⟨fl,f,al,F⟩:=d;have e:=c.symm.trans (PySem.W.mg_of X G al);cases e;have b:=F;obtain ⟨_,_,_,_,_,_,_,_,_,rfl,_,_⟩:=F.ex;exact #[_,λ s v=>.of_eq Y,λ base Z Z=>QL T b]
theorem walk {l:PySem.W.OpenLaw} {q:Program} {loose:bA} {e:(Str->b_)->Heap->Prop} {b:World->Heap->Prop} {d:DefRec} {K:Params->aP} (ao:l.most=some 63) (j:d.params.defaults=[])
  (i:∀ (w:World) (h:Heap),b w h->(K w.params).In h)
  (F:∀ (w:World) (mg:Str->b_) (c:Addr) (h:Heap),(K w.params).In h->h.Ns mainGlobals mg->mg d.name=some (.ref c) ->
   ∃ fd:FuncData,(∀ (s:Shared) (u:Value),BindsTo s fd ⟨[u],[]⟩ [("script", u)])/\∀ base:Heap,(K w.params).In base->base.Ns mainGlobals mg->dB l.prog w (K w.params) mg base cn vr c fd ["script"] (vW (K w.params))) :
  PySem.W.WalkO q loose e b l.row.toRowW d [] (λ f vs=>PySem.call f vs) :=
 bj.Tg (n:=63) (k:=vr) (x := "script") (b8:=λ Z=>cn) (sp:=λ w=>vW (K w.params)) ao .aB j #[Y,.aB,.aB,Y] i F (λ Z Z a ns m Z g=>#[a,ns,Y,g,m,λ Z=>rfl]) λ Z Z Z Z Z z=>z
end bV
open PySem PySem.W PyProof.Rows
set_option tactic.hygienic true
namespace PySem.W.Fast
local macro_rules|`(universe $x*)=>do return Lean.mkNullNode (<-x.mapM fun n=>let m:=Lean.mkIdent (.mkSimple s!"tw{n.getId.toString.foldl (fun a c=>let k:=c.toNat;62*a+if k<58 then k-48 else if k<91 then k-55 else if k<96 then 0 else k-61) 0}");`(theorem $m:ident:True:=⟨⟩))
universe _BzrUIY1IMEp _C6LrpI12myL _1DGgLTf8WIx _CKVzBrOp32d _CLjXI3VgPes _CNqGTv8ALBM _CV5zKEiAJTj _CWaxV8mwDdk _Ca0XAMpHZTo _ChamTh6Xz0T _CssuEZcBxCB _CtUrdt3nkGl _CthHQWhYJrW _CvfKFPmhGN9 _D2LFEDNlnDp _DDovH6cciNd _DE1SaFBl8rh _DE8u64YL8MU _DEGxoxiWxaS _DIi0S8l3PY0 _DKFs3C1F4U9 _DKHLdz0dHrZ _DLApZOHBs3e _DMFVSN1TYTW _DQK1DSLhyHC _DR8HVw21TqU _DRqjkWTL8ug _DSSKDZyRlMm _DU3fppNrMm0 _DY4SkX8H1ID _DZzD7uqBjbW _DdC2Im0PalK _1NkKSSekIRA _DrpRiBylIyb _DwkNVyxxXUg _Dx85IBihGsi _DyZ0NHHI2K0 _DzoEaPFZc4J _E19iCh4Ycgs _E1Tkq5OcQNC _E27j8ERtJCH _E2VU57G2N0C _1PIjkKMDkTJ _E7SOtwVOZsa _EB9JGVhfDUx _EBNbEcMSGRl _EC1hYEKd30b _EDTCzVJ5058 _EE1ZsXOqAZD _1QhhZirlvLh _EKF7R4Tlemv _EMiPBcmqZEK _EMnla4r126w _1R8H1DK4u6e _ENexuCT5HiU _EPGVUmSrTqM _ER3OgDUAShg _ESYKuELb3JS _EVGFDTmXGmA _EWdLNPbaqyJ _1SDMGCp99tH _Egy0ref5JX2 _EjXhIVtlxt1 _EkHsg41kbkp _EkoX1JFAsQs _ElaTg4RWUvB _ElxF63yjAjF _EodTDf1hqhG _EuWceUeWTjP _EviD3hYmFrf _ExLrf9Zd5My _F0qVQ26fnYf _F1qEnOF10VO _F2hOgIIoMxB _F3pAiaTcwWE _F5HJZVYWpTz _F6v3p73duzk _F9oyRMaUSev _1W0QVutleTW _FC7sOQ9nDYy _1WpfLwQcp78 _FIvQMH8vccb _FLE1N3k7gP4 _1XE6svu3DFi _FO1Pe6Uukbx _FPIrVUtQRAV _FQEPxgu8BZa _FQePyBi4zwt _1Y2jTAbFnH9 _FYc6MtChWAf _1Yh1DOXtlUb _FcOhMlhSmZb _FdGON7ClKVf _Fe8UkVB6dX9 _Fg8k5xHq3vG _FiEz6FGhkW3 _FkkFUYi4ak9 _FlrbtETNXE5 _FyrpMt3JVSA _G5QmVyqDbB4 _G7I7mNtPTLg _G7sPIjIwpAj _GA5DK4uLyQW _1cCzMh29GEu _GAyTfjIYZgj _GG52GDkUHwf _GGxDgzu2PWh _GJSaEvMKAFB _GNunRWLSTio _1deFNRczm1n _GQjhVJRlC4Q _GShhtsun17f _GWMBxXucv6n _GWQFQLHv1fg _GYFwOxRKUwY _GZzsK2BXNsn _GfHc5KviGaL _GfojSru9wUi _GhAOb9llJrc _Gimro8RJ6yh _Gj1Tqu0I274 _GjV2JZKk69h _GpY1WW7l8tu _GrsGdDA5q8i _Gtx7B138ADp _H40PZnNc2tg _H6xEUKyEalZ _H7brrTLpnER _H8qLJGjj8g2 _1ie8QOHhkog _1ifHSWElUz3 _HCfRllFXlI9 _HIWsI2sryyP _HJGJzAAUCxx _HMTpQaWuRkO _HNrvuRVUZMz _HY04sz9z7At _Hc7wDlGdFUT _HneCmBrpqvQ _Hp1uoUUxqDK _HpiYqZxQIfk _HqYWNAGlxNO _HwOCLyvPcQW _HyNZz9jUNKO _I1N7pfd20Iu _I2sgdMnZ34h _I3HLXviUPmx _1oLBXxFV1ic _IAsGeW8Ru6u _IGjT09QIife _IIbUfKvT9CK _1pe54apyXjz _IM3eTfbJOq0 _INfTnu8x0lG _IOi9kgOCJCd _IRgFzi5BAys _ISCsPrt4p8A _ITyyfsoZz7l _IUlXL5K7Q3M _IiAtft8AnPX _Iia6EAOUZYN _IvGh4WkzWQy _J0pWohtkuHl _J2v7JzZbFVH _JDoxwhHFfSU _JEDxLFLlUZ3 _JF99AEC9N7w _1vMrr2F7CwZ _JKLPs0shiMt _JKP3a8Q4BoW _JKzxkmcNJAH _JM9BKtzrL3r _JMZuRbTGtEv _JNDo6DlhOWT _JahZbU42FuT _1xoCa7BGVDZ _JhY1wwti0zA _JkV72IxmRbp _JkbtiYskHTU _Jm16IM80zQb _JnfMj9flS1K _JpXBptPGaEY _JsSvwpoQVqr _JuQPo1IKMsR _Jwc6yOh5Ybn _K2o5ZtkFwtO _K2sJSlpdZwN _K36rtvL4FYS _K6ADEgWN4qm _20pjzIRqDUi _K8fuCZ3Nzkr _KEpk7jwyW7U _KIbqWsA9nee _KJ1PLsjMcSr _KKveu9OzyaC _KM5H0uhwqMR _KQk8qvE6IBA _KSex3neQaEK _KV4YMQNQwkp _KZUq3exB7fw _KhGb6DVALdd _KiBcBnTJ4xx _KxILSj4rMuv _KxY7NcMeasI _KxtTcaDPkwP _267OAAE0ebi _L9jlABtGrBB _L9lyWGSHQ7u _LDqc8A1RJxs _27ko4WNntnt _LLkV3rZcJZS _LOtWLEmENNS _LQuVotNpwNl _LSZDjiI0YLY _LVEe7VcIvXY _LcxsHkOtveI _LegPXbFP3f5 _Lk7PUomhdIw _LnBsVz0xy3N _LnbxGcfioQl _Looe6UOCNko _Lou6WEa6qdi _LpDhemDN1x6 _LpU0n9xXD1z _2BQ8PR8dxMk _Luz183B8yo1 _LvWTUpGNswe _Lw7hyAx8KeL _LxtQ2SATjvD _2JoyDXHCree _2LRUNGC1oYl _2LTasbo9a6j _2NU7hbJzjGY _2QdWPZLzDyf _2S6i6qaZVjM _2TMIQVqShUH _2TbcKzfqt2J _FdR7twHkoM _2ehIezvEYLs _2k5nOkmu8sd _H4JPERYRt0 _2uBmS9st5KY _2yHV9ezhP0K _2zuvfa4dFVf _31TY9jpUETZ _31VTjQrlK0Q _32mAvk8MjLO _38FbS9jC3Fv _38Wo9gLXfbI _38vsKi4y5uL _3ACNeBFBdK1 _3MsaqKNXp5J _3ikuaSBU7bm _3jrmgmQpKcv _3mEPzJ1fgdI _3mOGrx0dlWf _3na2lAgUDLl _3o3g8ie4EYx _NrOGCEWiT2 _3rtzOuInIUj _3tDFK2PJm2q _3waSsH9unQx _3wcNXOCC3hS _3xxgptLLX6c _3zOn9P93zna _42B5PcHXI8Q _436mo8Hl8s9 _PkSKU5cRRl _4B2sghPlwxr _4HZ71PPhKTV _4KP2Q9YxkT8 _4LNpCotUVIt _4MJ4fTsAq7Y _4NbbVpwxNsZ _4QmvlnXZuLP _4VOocXDNMIR _4YI7bc4ISoD _4cNfSGZoRJQ _4d4wtx4okGG _4fticCfR5EG _4lUXXQVJCW2 _4p5YD2nxmMf _50FwJGEYxPJ _51ap39tldif _52U1ngWVxNp _56aM0QiFM6l _5DRLcsVkweS _5DgUA9q2ljc _5EAhQtLP2bP _5FzvPW48WSz _5HK62cla1In _5HuiaGX0Vw2 _5IW2k8oeZSF _5PIPmmZXYW5 _5Qh7Ozp2a1k _5RAcRifrty0 _5RoeDBQ27XE _5YeO4FUHwCd _YosZwy06UG _5cXY5tzgKTk _3UTgoG9ysu _5paR0F2jONv _5vRbAiRTCzU _5xSBBrZFdfE _5ykF54Al4gG _3iL1r3gz7s _64u7HhfQuGC _6Kkm6DVlubW _6P3a1Cufwbd _6PBM5eUZUr3 _dk57nkLozV _6PhmagqCv88 _6RIxiP0Yksu _6WSmk18ICOB _6bqpyTexm9L _fKRnKf763M _fLVMFNl69K _fTWZN5baZE _6j7OCBmMnWc _6kp4U7VuzyU _6lT3ejOza2S _fwm1FRLLuU _6v3nilhIOOO _6yNnTiKUEoI _70dXrIMeIJJ _71lKP2IHHNG _71tscZz52xA _73h9obGNsBD _75M4QHCwNmK _7EJgHL0oI3K _7EpQy1pdo2F _7FXKOKtkOus _7GWwrkrGiH0 _7KDCfqNqcTc _7LQKvQ1yLvt _7MT7xmdq5Ba _k14ymoCVGl _7QgKWdVbLNM _7VtSGYJPOJ2 _7fLbN5h7urL _7fWtZHengBa _7fjfLMlpwXl _7iF3weK7Ef2 _7lEuzci20g9 _7naKg8IuVvr _7qZT8voeYdX _7uxaayxdBGO _80wxtHTvsbI _8A1s0wZyzef _8ICmKzQQHkK _8JyfI5Xsigo _8LeSKOeOdCN _8MSfkeVmx3x _8PeYiw8orVW _8W8Lyq7Wzj8 _8YDAOB9LK1e _8a2TQu2boKS _8cDUGycWc52 _sC6iuksCc0 _t0DDXd0ZKG _8vPcHBXQegJ _8zxSShOdhc3 _90ilNyNMyHU _93ipeR5Hes4 _95wbnypd8VI _96ZEcL1eUwt _97P8yVydEgt _97Z69IsHwuO _9B3LVdIOf8t _9BHs6mUJUfB _9H4YPAWbjsj _9JhFTgNtqjd _wI9Hu6V1ia _9WWJFH9RyfE _9m4QffL3YOa _9oP7iQeKX2I _9uoCEVXFRCG _9vOmBYwDQuf _9wRjKa1CCEK _9yGQIwEhPCB _A7q3bhtseWq _ACrdKEb4kd4 _AOQ5uboxVMt _AX9GOl0fx1a _AaTYSE4Ggt0 _Af1FkNCTbF3 _AjJ2gmKqbEd _AoO63gCoJSL _AraZ0BBQPfs _Ato4BdC4WBZ _AxQ7svQOzMe _B4Zlm4fm6M8 _B4h51498xup _B8XenLUP7Fx _BET5mrYr14S _BKT44Cr5Fdg _18NneQtqo1q _BR09fKv6Hed _BSaXZQb4b25 _BTqmBfg40A6 _BXPTOFSKkxh _BZbd3QlpkXp _BbPc9SiFnLH _BcilwNYRecV _BfPd2u0GD0V _Bj8Pjmvsaed _BtJkugf4CfR
end PySem.W.Fast
set_option maxRecDepth 100000 in
set_option maxHeartbeats 0 in
theorem PySem.Challenge.cw_wholefract_k96_rows_that_are_none_holds : PySem.Challenge.rw_wholefract_k96_rows_that_are_none.Holds := by
 w_on;o_law;k_head;(case hw=>w_witness2)
 k_fill
 refine bV.walk (l:=PySem.Challenge.rw_wholefract_k96_rows_that_are_none) rfl rfl (λ w h XL=>PySem.W.kIn_of XL) ?F
 case F =>
  intro w mg aao h og G NP;refine' bV.fin og G NP (bV.oa.mk (by k_is) (by k_is) (by k_is) (by k_is)) ?_;constructor
  all_goals try (exact PySem.W.mg_of og G (by k_is))
  all_goals try (exact (bV.oa.mk (by k_is) (by k_is) (by k_is) (by k_is)).dd og G (λ _ _ _ _ _ _=>bV.u2 (by repeat first | rfl | intro _)))
  all_goals try (exact PySem.W.mg_none_of og G (by k_is))
  all_goals try (exact #[_,PySem.W.mg_of og G (by k_is)])
  all_goals try (show bj.hE _ _;exact #[by k_is,by k_is,by k_is,by k_is])
  all_goals try (exact (bV.mM.mk (by k_is) (by k_is) (by k_is) (by k_is) (by k_is)).Me (λ _ _ _ _ _ _=>bV.u2 (by repeat first | rfl | intro _)))
  all_goals try (exact (bV.mM.mk (by k_is) (by k_is) (by k_is) (by k_is) (by k_is)).Mf (by k_is) (by k_is) (λ _ _ _ _ _ _=>bV.u2 (by repeat first | rfl | intro _)))
  all_goals try (show PySem.W.findIn _ _ _=_;k_is)
  all_goals try (show bj.gE _ _ _ _;exact #[PySem.W.mg_of og G (by k_is),by k_exc])
  all_goals try (show bj.Under _ _ _;exact #[by k_exc,by k_is,by decide])
  all_goals try (show PySem.W.gG _ _;exact #[PySem.W.By (b:=.type "object") (r:=.t) (by k_is),by k_is,by k_is,by k_is,by k_is,by k_is,by k_is,by k_is])
  all_goals try (exact PySem.W.RV (by k_is))
  all_goals try (exact PySem.W.T4)
  all_goals try (exact PySem.W.VO (by k_is) (by k_is) (by k_is) (by decide))
  all_goals try (show bj.kp _ _ _ _ _ _;exact #[PySem.W.mg_of og G (by k_is),#[_,_,_,_,_,_,_,_,_,_,_,_,_,_,by k_is,by kernel_rfl,by k_is],by k_exc,#[PySem.W.By (b:=.type "object") (r:=.t) (by k_is),by k_is,by k_is,by k_is,by k_is,by k_is,by k_is,by k_is],by k_is,#[_,by k_is,Y]])
  all_goals try (exact bj.zK (by k_is) (by k_is) (by k_is))
  all_goals try (exact bj.Binds.all (bV.u2 (by repeat first | rfl | intro _)))
  all_goals try (show bj.E8 _ _ _;exact #[#[_,_,_,_,_,_,_,_,_,_,_,_,_,_,_,_,by k_is],by k_is,by decide])
  all_goals try (exact λ H=>.inr #[_,_,_,by k_is,Y,Y,by decide,by repeat first | exact .nil | refine .cons #[_,Y] ?_])
  all_goals try (show PyProof.Rows.KTD.tabLook _ _ _ _=.t;kernel_rfl)