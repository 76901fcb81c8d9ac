import PyProof.Rows.All
import Wide.All
import PyProof.EqAt
import PyProof.WalkInts
import OpenK.AllK
import Wide.FinOn
import Lean
import PyProof.EqKinds
import PyProof.TupleCall
import KE.KTryMore
import PyProof.EnumMake
import PyProof.Draws
import PyProof.Rows.MatchSeqLen
import PyProof.StrLawsTight
import PyProof.StrLawsChain
import KE.IntTextText
import PyProof.JoinWalk
import PyProof.Rows.StrWeight2
import PyProof.StrBlock2
import PyProof.FString
import PyProof.StrLawsOcc
import KE.KIntText
import PyProof.SliceStr2
import PyProof.FString5
import KE.KDictSum
import PyProof.Rows.SortStr
import KE.KDictOf
import PyProof.DictIter
import KE.KTops
import PyProof.ReprRoads
import PySem.Challenge.RW_wholefract_k99_whole_all_agree
set_option Elab.async false
set_option linter.all false
set_option maxRecDepth 100000
set_option maxHeartbeats 4000000
set_option hygiene false
local macro_rules|`(.ab)=>`(by omega)|`(.aG)=>`(by decide)|`(.zs)=>`(by simp)
noncomputable abbrev cx:=List (Int×Int)
noncomputable abbrev aw:=List Int
noncomputable abbrev bo:=List Nat
noncomputable abbrev cE:=List PySem.Str
noncomputable abbrev cn:=Array PySem.Value
noncomputable abbrev eo:=List (PySem.Addr×PySem.Obj)
noncomputable abbrev dP:=Option PySem.Value
noncomputable abbrev dc:=PySem.W.Frag
noncomputable abbrev aZ:=List aw
noncomputable abbrev bY:=PySem.Value->PySem.Shared->Prop
theorem fc:type_of% @Bool.false_ne_true:=@Bool.false_ne_true
noncomputable def aI:=@PySem.wpAny_bind
noncomputable def kg:=@PySem.wpAny_holding
noncomputable def fN:=@PySem.wpAny_field
noncomputable def b2:=@PySem.wpAny_pure
noncomputable def mj:=@PySem.wpAny_newObj_type
noncomputable def bW:=@PySem.Heap.get?_push_of_some
noncomputable def dI:=@PySem.Heap.get?_push_size
theorem cb:type_of% @PySem.Heap.lt_size:=@PySem.Heap.lt_size
theorem d1:type_of% @Nat.ne_of_lt:=@Nat.ne_of_lt
theorem g0:type_of% @Nat.lt_of_lt_of_le:=@Nat.lt_of_lt_of_le
theorem fX:type_of% @PySem.Heap.size_push:=@PySem.Heap.size_push
noncomputable def kj:=@Nat.le_succ
theorem s7:type_of% @PySem.Heap.get?_update_self:=@PySem.Heap.get?_update_self
noncomputable def p9:=@PySem.Heap.get?_update_other
noncomputable def iW:=@Nat.lt_irrefl
noncomputable def uQ:=@Nat.lt_of_succ_lt
noncomputable def iw:=@PySem.wpAny_seqItems
theorem dY:type_of% @Int.toNat_natCast:=@Int.toNat_natCast
noncomputable def s8:=@PySem.wpAny_rule
noncomputable def AB:=@PySem.Heap.SameBut.update
noncomputable def p_:=@PySem.wpAny_attempt
noncomputable def kW:=@PySem.wpAny_callSpecial?_slot
noncomputable def AD:=@PySem.slot_listiter_next
noncomputable def kX:=@PySem.wpAny_call_entry
noncomputable def rh:=@PySem.wpAny_isInstance
noncomputable def s9:=@PySem.isSubtype_stop
noncomputable def uR:=@PySem.F.slot_tuple_iterator_next
noncomputable def EI:=@PySem.F.entry_tuple_iterator_next
noncomputable def EJ:=@PySem.F.args_tuple_iterator_next_1
noncomputable def uS:=@PySem.F.slot_enumerate_next
noncomputable def EK:=@PySem.F.entry_enumerate_next
noncomputable def EL:=@PySem.F.args_enumerate_next_1
noncomputable def AE:=@PySem.wpAny_specialOf
theorem xT:type_of% @Bool.false_eq_true:=@Bool.false_eq_true
theorem fG:type_of% @List.take_of_length_le:=@List.take_of_length_le
noncomputable def xU:=@PySem.wpAny_standAt
noncomputable def nq:=@PySem.wpAny_pyIter_tuple
noncomputable def nr:=@Nat.lt_succ_self
noncomputable def oS:=@Nat.lt_succ_of_lt
noncomputable def xV:=@PySem.intItems_at
theorem c8:type_of% @List.mem_cons:=@List.mem_cons
theorem gg:type_of% @List.not_mem_nil:=@List.not_mem_nil
theorem gh:type_of% @or_false:=@or_false
theorem ix:type_of% @List.mem_singleton:=@List.mem_singleton
theorem ee:type_of% @decide_eq_false:=@decide_eq_false
theorem eA:type_of% @Option.some.inj:=@Option.some.inj
theorem mr:type_of% @List.mem_filter:=@List.mem_filter
theorem fH:type_of% @List.mem_range:=@List.mem_range
noncomputable def et:=@Nat.le_trans
theorem d2:type_of% @List.mem_cons_self:=@List.mem_cons_self
theorem eQ:type_of% @List.mem_cons_of_mem:=@List.mem_cons_of_mem
theorem nt:type_of% @Ne.symm:=@Ne.symm
noncomputable def iX:=@List.mem_append
noncomputable def EM:=@List.mem_append_left
theorem cL:type_of% @List.getElem?_eq_some_iff:=@List.getElem?_eq_some_iff
theorem nu:type_of% @List.getElem?_set_self:=@List.getElem?_set_self
theorem mu:type_of% @List.getElem?_set_ne:=@List.getElem?_set_ne
noncomputable def mv:=@PySem.wpAny_mono
noncomputable def s_:=@PySem.wpAny_truthy_bool
theorem mw:type_of% @Array.length_toList:=@Array.length_toList
theorem h3:type_of% @congrArg:=@congrArg
noncomputable def AF:=@PySem.wpAny_execs_nil
noncomputable def ta:=@PySem.wpAny_passesOwn
noncomputable def hz:=@Nat.ne_of_gt
theorem tc:type_of% @Bool.false_and:=@Bool.false_and
noncomputable def ri:=@PySem.wpAny_pyIter_list
theorem br:type_of% @Nat.le_refl:=@Nat.le_refl
noncomputable def oT:=@PyProof.Rows.callWith_type1
noncomputable def AG:=@List.mem_filterMap
noncomputable def jH:=@List.mem_append_right
theorem fk:type_of% @Nat.zero_le:=@Nat.zero_le
theorem rj:type_of% @Bool.eq_iff_iff:=@Bool.eq_iff_iff
theorem cW:type_of% @PySem.sizeLine_eq:=@PySem.sizeLine_eq
noncomputable def nv:=@PySem.W.kia_one
theorem mx:type_of% @List.append_nil:=@List.append_nil
noncomputable def uT:=@PySem.codeAny_mono
noncomputable def xW:=@PySem.wpAny_Call_Name_kw
theorem ff:type_of% @List.length_take:=@List.length_take
noncomputable def xX:=@PySem.mem_of_lookup
theorem g4:type_of% @List.getElem?_append_right:=@List.getElem?_append_right
theorem xY:type_of% @List.getElem?_replicate:=@List.getElem?_replicate
theorem gi:type_of% @List.getElem?_append_left:=@List.getElem?_append_left
theorem c9:type_of% @List.getElem?_map:=@List.getElem?_map
theorem qa:type_of% @List.getElem?_take_of_lt:=@List.getElem?_take_of_lt
noncomputable def cf:=@List.mem_of_getElem?
theorem cJ:type_of% @List.length_append:=@List.length_append
theorem a6:type_of% @List.length_map:=@List.length_map
theorem kk:type_of% @List.length_replicate:=@List.length_replicate
noncomputable def EN:=@PySem.SeqAt.EqAt.int_int
noncomputable def EO:=@PySem.F.slot_tuple_add
noncomputable def EP:=@PySem.F.entry_tuple_add
noncomputable def ER:=@PySem.F.args_tuple_add_2
theorem eu:type_of% @List.size_toArray:=@List.size_toArray
theorem kY:type_of% @if_true:=@if_true
theorem qb:type_of% @List.length_drop:=@List.length_drop
noncomputable def uU:=@PyProof.Rows.slot_tuple_getitem
noncomputable def xZ:=@PySem.wpAny_typeOf
theorem h4:type_of% @Bool.and_eq_true:=@Bool.and_eq_true
theorem kl:type_of% @LawfulBEq.eq_of_beq:=@LawfulBEq.eq_of_beq
theorem jo:type_of% @List.map_cons:=@List.map_cons
theorem jI:type_of% @List.length_set:=@List.length_set
noncomputable def x4:=@PySem.typeIs_int
theorem rq:type_of% @List.replicate_succ:=@List.replicate_succ
theorem x5:type_of% @List.flatten_cons:=@List.flatten_cons
theorem lI:type_of% @List.append_assoc:=@List.append_assoc
noncomputable def th:=@PySem.call_meets
noncomputable def AQ:=@PySem.F.slot_int_rmul
theorem mA:type_of% @Nat.mul_comm:=@Nat.mul_comm
noncomputable def E8:=@Nat.le_of_not_lt
theorem cX:type_of% @decide_eq_true:=@decide_eq_true
theorem e5:type_of% @List.all_eq_true:=@List.all_eq_true
theorem bk:type_of% @List.getD_eq_getElem?_getD:=@List.getD_eq_getElem?_getD
theorem bz:type_of% @List.getElem?_eq_getElem:=@List.getElem?_eq_getElem
theorem g5:type_of% @List.getElem_mem:=@List.getElem_mem
theorem mB:type_of% @List.length_cons:=@List.length_cons
theorem dz:type_of% @List.mem_map:=@List.mem_map
noncomputable def AR:=@PySem.pushCells_keeps
noncomputable def x6:=@List.contains_iff_mem
noncomputable def nC:=@PySem.wpAny_setField_rec
noncomputable def rr:=@PySem.wpAny_onRaise
noncomputable def E9:=@PySem.wpAny_updateSeq_pair
noncomputable def nD:=@PySem.wpAny_letGo
noncomputable def rt:=@PySem.F.slot_zip_next
noncomputable def AS:=@PySem.F.entry_zip_next
noncomputable def AU:=@PySem.F.args_zip_next_1
noncomputable def AV:=@PySem.Heap.IsTuple.push
noncomputable def AW:=@PySem.wpAny_pyIter_zip
noncomputable def mC:=@Nat.le_add_right
noncomputable def u1:=@PySem.codeAny_builtin
noncomputable def u2:=@PySem.plainId_quiet
theorem i0:type_of% @List.length_range:=@List.length_range
noncomputable def mD:=@PySem.wpAny_loadPart'
theorem qh:type_of% @Int.toNat_of_nonneg:=@Int.toNat_of_nonneg
noncomputable def fY:=@of_decide_eq_true
theorem qi:type_of% @Nat.div_lt_self:=@Nat.div_lt_self
noncomputable def nE:=@Nat.eq_zero_or_pos
theorem ti:type_of% @Nat.pow_zero:=@Nat.pow_zero
theorem tj:type_of% @Nat.one_mul:=@Nat.one_mul
theorem nF:type_of% @Nat.pow_succ:=@Nat.pow_succ
theorem ru:type_of% @Nat.mul_assoc:=@Nat.mul_assoc
noncomputable def u3:=@Nat.pow_pos
noncomputable def tk:=@Nat.dvd_of_mod_eq_zero
noncomputable def E_:=@Nat.coprime_one_right
theorem x7:type_of% @List.pairwise_cons:=@List.pairwise_cons
noncomputable def gk:=@List.getElem?_of_mem
theorem lJ:type_of% @List.sum_cons:=@List.sum_cons
theorem tl:type_of% @Nat.pow_add:=@Nat.pow_add
noncomputable def u4:=@Nat.mul_le_mul
theorem oV:type_of% @decide_eq_true_iff:=@decide_eq_true_iff
theorem k3:type_of% @List.map_set:=@List.map_set
theorem eC:type_of% @List.take_add_one:=@List.take_add_one
theorem ej:type_of% @List.map_append:=@List.map_append
theorem kn:type_of% @List.take_length:=@List.take_length
theorem nG:type_of% @List.find?_cons:=@List.find?_cons
noncomputable def Fb:=@PySem.tupleKind_room_in1
noncomputable def Fc:=@PySem.wpAny_letOwnedTupleGo_enum
noncomputable def u5:=@PySem.wpAny_pyIter_enum
noncomputable def u6:=@Option.bind_eq_some_iff
theorem qj:type_of% @List.map_congr_left:=@List.map_congr_left
theorem gH:type_of% @List.getElem?_zipWith_eq_some:=@List.getElem?_zipWith_eq_some
theorem k4:type_of% @List.length_zipWith:=@List.length_zipWith
theorem fZ:type_of% @List.map_map:=@List.map_map
noncomputable def Fd:=@List.mem_map_of_mem
noncomputable def x8:=@PySem.wpAny_updateSeq
theorem u7:type_of% @List.filter_append:=@List.filter_append
theorem tm:type_of% @PySem.F.plain_min_loop:=@PySem.F.plain_min_loop
noncomputable def AX:=@PySem.wpAny_tryCatch
theorem u9:type_of% @List.any_eq_true:=@List.any_eq_true
noncomputable def rv:=@List.ext_getElem?
theorem g6:type_of% @List.getElem?_eq_none:=@List.getElem?_eq_none
theorem jq:type_of% @Nat.not_lt_zero:=@Nat.not_lt_zero
noncomputable def x9:=@Int.mul_nonneg
theorem lK:type_of% @Int.natCast_nonneg:=@Int.natCast_nonneg
theorem rx:type_of% @Nat.zero_add:=@Nat.zero_add
theorem qk:type_of% @List.foldl_append:=@List.foldl_append
noncomputable def AY:=@PySem.F.called_enumerate
theorem tn:type_of% @Nat.add_sub_cancel_left:=@Nat.add_sub_cancel_left
noncomputable def k5:=@Nat.lt_or_ge
theorem x_:type_of% @List.length_reverse:=@List.length_reverse
theorem jr:type_of% @Int.mul_zero:=@Int.mul_zero
theorem oW:type_of% @Int.mul_add:=@Int.mul_add
theorem mE:type_of% @Int.mul_assoc:=@Int.mul_assoc
noncomputable def AZ:=@Nat.dvd_trans
noncomputable def Fe:=@Int.natCast_dvd_natCast
theorem ko:type_of% @Int.one_mul:=@Int.one_mul
theorem nH:type_of% @Int.neg_mul:=@Int.neg_mul
theorem u_:type_of% @Int.natAbs_mul:=@Int.natAbs_mul
noncomputable def Ff:=@Nat.lt_trichotomy
theorem ry:type_of% @Int.zero_mul:=@Int.zero_mul
noncomputable def va:=@Nat.two_pow_pos
theorem nI:type_of% @Int.mul_comm:=@Int.mul_comm
noncomputable def rz:=@Classical.em
theorem rA:type_of% @Int.add_zero:=@Int.add_zero
noncomputable def A0:=@Nat.log2_lt
theorem vb:type_of% @List.range_succ:=@List.range_succ
noncomputable def A1:=@List.length_eq_zero_iff
theorem ql:type_of% @Int.zero_add:=@Int.zero_add
theorem ya:type_of% @List.find?_eq_none:=@List.find?_eq_none
theorem nJ:type_of% @List.getElem?_range:=@List.getElem?_range
noncomputable def A2:=@Classical.byContradiction
noncomputable def Fg:=@Int.eq_of_mul_eq_mul_left
theorem rB:type_of% @Int.ne_of_gt:=@Int.ne_of_gt
noncomputable def A3:=@Int.mul_pos
noncomputable def tp:=@Int.lt_or_le
noncomputable def vc:=@Int.le_refl
noncomputable def dZ:=@PySem.PassesOwn.never
noncomputable def rC:=@Int.emod_nonneg
noncomputable def rD:=@Int.emod_lt_of_pos
noncomputable def lL:=@PySem.F.plainAttrs_list
theorem qm:type_of% @List.mem_of_mem_take:=@List.mem_of_mem_take
noncomputable def A4:=@List.mem_of_mem_drop
noncomputable def d3:=@List.forall_mem_nil
noncomputable def e6:=@List.forall_mem_cons
noncomputable def rE:=@List.mem_or_eq_of_mem_set
theorem yb:type_of% @List.mem_replicate:=@List.mem_replicate
noncomputable def oX:=@PySem.F.slot_list_append
noncomputable def oY:=@PySem.F.type_list_append
theorem yc:type_of% @List.getElem?_concat_length:=@List.getElem?_concat_length
theorem mF:type_of% @Bool.true_and:=@Bool.true_and
theorem tq:type_of% @List.all_map:=@List.all_map
theorem yd:type_of% @List.map_replicate:=@List.map_replicate
theorem vd:type_of% @Nat.add_assoc:=@Nat.add_assoc
theorem qn:type_of% @List.length_mapIdx:=@List.length_mapIdx
noncomputable def Fh:=@List.mem_mapIdx
noncomputable def qo:=@PySem.W.mg_of
noncomputable def jt:=@PySem.W.mg_none_of
variable {A:PySem.Around} {D a it dq dU l cZ t1 bx t3 z:PySem.Addr} {prog:PySem.Program} {w:PySem.World} {its us:List PySem.Value} {ch a3:List PySem.Addr} {col d m many n t':Nat} {s:PySem.Shared} {pins:eo} {K:dc} {st:PySem.Stmt} {pos':PySem.Pos} {body:List PySem.Stmt} {lo:Option Int} {aJ aN elt iter:PySem.Expr} {ax:PySem.Str->dP} {base h':PySem.Heap} {eX sc scope:PySem.Scope} {qual x0:PySem.Str} {cd doc g_ pm fK ha:PySem.Value} {an gO:Option PySem.Addr} {U aH ws:bo} {ns:aw} {ku loose:cE} {yZ:(PySem.Str->dP)->PySem.Heap->Prop} {tS:PySem.World->PySem.Heap->Prop} {B:Prop} {js:List (Option Nat)} {R cs:aZ} {cl:List (PySem.Str×PySem.Addr)} {B1 p1:Bool} {rest:List PySem.Expr} {gv:Nat->Nat} {nY:Nat->Nat->Int}
namespace gu
open PySem PyProof.Rows
noncomputable def In (A:Around) (h:Heap):Prop:=A.handled=none \/ ∃ (e:Addr) (eN:Obj) (ag:cn),A.handled=some (.ref e)/\h.get? e=some eN/\eN.data=.fields ag/\ag[2]?=some .none
theorem In.kept {h g:Heap} (a:In A h) (k : ∀ b o,h.get? b=some o->g.get? b=some o):In A g :=
 a.imp id λ ⟨e,eN,ag,I,ah,r⟩=>⟨e,eN,ag,I,k _ _ ah,r⟩
theorem In.but {h g:Heap} {j:Addr} {o:Obj} (a:In A h) (a0:h.get? j=some o) (no : ∀ ag,o.data=.fields ag->ag[2]?≠some .none) (k:Heap.ExtBut j h g):In A g :=
 a.imp id λ ⟨e,eN,ag,I,ah,aD,aL⟩=>⟨e,eN,ag,I,k e eN (λ z=>by subst z;rw [a0] at ah;cases ah;exact no ag aD aL) ah,aD,aL⟩
theorem AO {a b:Value} : ∀ ag,Data.fields #[a,b]=Data.fields ag->ag[2]?≠some .none:=λ ag e=>by
 injection e with e;subst e;exact λ z=>nomatch z
theorem A_ (t:Addr) : ¬ ((Value.ref t == Value.none)=true):=fc
section
variable {E:bY}
theorem ZN {α: Type} {h:Addr} {o Ia:Obj} {ag aF:cn} {Q: α -> Shared->Prop} (de:A.handled=some (.ref h)) (ne:h≠a)
  (a0:s.heap.get? a=some o) (hd:o.data=.fields ag) (aS:2<ag.size) (S8:s.heap.get? h=some Ia) (SM:Ia.data=.fields aF) (ah:aF[2]?=some .none)
  (q:E (.ref a) { s with heap:=s.heap.update a (Obj.mapFields (·.setIfInBounds 2 (.ref h))) }):wpAny (model prog w) A (raiseNew (.ref a):Sem α) Q E s:=by
 unfold raiseNew;refine aI (wpAny_handled ?_);rw [de];dsimp only;rw [if_pos (by simpa using ne)];refine aI (kg (runValue_entry (b:=Builtin.«proto.unchain») (entryFor_of_tree (by kernel_rfl)) ?_));unfold Builtin.«proto.unchain»;dsimp only;refine aI (fN S8 SM ah ?_);rw [if_pos (show (Value.none == Value.none)=true from rfl)];refine b2 ⟨.none,rfl,?_⟩;refine aI ?_;unfold updateField;refine aI (wpAny_load a0 ?_);rw [hd];dsimp only;rw [if_pos aS];refine wpAny_update a0 ?_;exact wpAny_throw q
theorem stop {α: Type} {Q: α -> Shared->Prop} (de:In A s.heap)
  (q : ∀ g e,(∀ b o,s.heap.get? b=some o->g.get? b=some o)->(∃ o,g.get? e=some o/\o.cls=.type "StopIteration")->E (.ref e) { s with heap:=g }) :
  wpAny (model prog w) A ((newExc (.type "StopIteration") []>>=λ x=>raiseNew x):Sem α) Q E s:=by
 refine aI ?_;simp only [newExc,newTuple];refine aI (mj (aI (m:=firstArgMember _ _) (wpAny_of_eq (a:=Value.none) (by first | rfl | (simp only [firstArgMember];rfl)) (mj ?_ (by size_fits)))) (by size_fits));rcases de with de | ⟨e,eN,ag,I,ah,aD,aL⟩
 ·exact wpAny_raiseNew_none de (q _ _ (λ b o y=>bW _ (bW _ y)) ⟨_,dI _ rfl,rfl⟩)
 ·have lt:=cb ah;refine ZN I (d1 (g0 lt (by rw [fX];exact kj _))) (dI _ rfl) rfl (by simp;omega) (bW _ (bW _ ah)) aD aL ?_;refine q _ _ (λ b o y=>?_) ⟨_,s7 _ (dI _ rfl) (Obj.isFreed_of_fields (Obj.data_mapFields rfl _)),(Obj.cls_mapFields ..).trans rfl⟩;have vY:=cb y;refine (p9 _ _ ?_).trans (bW _ (bW _ y));intro z;rw [fX] at z;subst z;exact iW _ (uQ vY)
theorem NZ {i:Nat} {items:cn} {Q:Fin->Shared->Prop} (de:In A s.heap) (hit:s.heap.IsListIter it l i) (ar:s.heap.IsList l items) (ae:items[i]?=none)
  (q : ∀ g e,Heap.ExtBut it s.heap g->(∃ o,g.get? e=some o/\o.cls=.type "StopIteration")->E (.ref e) { s with heap:=g }) :
  wpAny (model prog w) A (Builtin.«list_iterator.__next__» ⟨[.ref it],[]⟩) Q E s:=by
 obtain ⟨o,a0,aj,hd⟩:=id hit;obtain ⟨ol,Dp,_,nl,C5⟩:=ar;show wpAny _ _ (field (.ref it) 0>>=_) _ _ s;refine aI (fN a0 hd (x:=.ref l) rfl ?_);show wpAny _ _ (ite ((Value.ref l == Value.none)=true) _ _) _ _ s;rw [if_neg (A_ _)];show wpAny _ _ (field (.ref it) 1>>=_) _ _ s;refine aI (fN a0 hd (x:=.int i 0) rfl ?_);show wpAny _ _ (seqItems? (.ref l)>>=_) _ _ s;refine aI (iw Dp C5 ?_);simp only [dY,ae];refine aI (s8 (aI (wpAny_setField a0 hd .zs ?_)));have k:=(AB s.heap it (Obj.mapFields (·.setIfInBounds 0 .none))).extBut;exact stop (de.but a0 (by rw [hd];exact AO) k) λ g e d5 x=>q g e (λ b o nb y=>d5 b o (k b o nb y)) x
theorem Nr {t:Addr} {i:Nat} {items:cn} {Q:Fin->Shared->Prop} (de:In A s.heap) (hit:s.heap.IsTupleIter it t i) (ar:s.heap.IsTuple t items) (ae:items[i]?=none)
  (q : ∀ g e,Heap.ExtBut it s.heap g->(∃ o,g.get? e=some o/\o.cls=.type "StopIteration")->E (.ref e) { s with heap:=g }) :
  wpAny (model prog w) A (Builtin.«tuple_iterator.__next__» ⟨[.ref it],[]⟩) Q E s:=by
 obtain ⟨o,a0,aj,hd⟩:=id hit;obtain ⟨ol,Dp,_,nl,C5⟩:=ar;show wpAny _ _ (field (.ref it) 0>>=_) _ _ s;refine aI (fN a0 hd (x:=.ref t) rfl ?_);show wpAny _ _ (ite ((Value.ref t == Value.none)=true) _ _) _ _ s;rw [if_neg (A_ _)];show wpAny _ _ (field (.ref it) 1>>=_) _ _ s;refine aI (fN a0 hd (x:=.int i 0) rfl ?_);show wpAny _ _ (seqItems? (.ref t)>>=_) _ _ s;refine aI (iw Dp C5 ?_);simp only [dY,ae];refine aI (s8 (aI (wpAny_setField a0 hd .zs ?_)));have k:=(AB s.heap it (Obj.mapFields (·.setIfInBounds 0 .none))).extBut;exact stop (de.but a0 (by rw [hd];exact AO) k) λ g e d5 x=>q g e (λ b o nb y=>d5 b o (k b o nb y)) x
theorem ZJ {i:Nat} {items:cn} {Q:dP->Shared->Prop} (de:In A s.heap) (hit:s.heap.IsListIter it l i) (ar:s.heap.IsList l items) (ae:items[i]?=none)
  (q : ∀ g,Heap.ExtBut it s.heap g->Q none { s with heap:=g }):wpAny (model prog w) A (pyNext (.ref it)) Q E s:=by
 unfold pyNext;refine aI (p_ (kW (name:=Str.ofString "__next__") hit.typeIs AD (kX AD hit.typeIs entry_listiter_next ?_ (args_listiter_next _))));exact NZ (A:=A.in1) de hit ar ae λ g e d5 ⟨o,a0,aj⟩=>aI (rh (T := "StopIteration") (b:=true) ⟨o,a0,aj⟩ s9 (b2 (q g d5)))
theorem FO {t:Addr} {i:Nat} {items:cn} {Q:dP->Shared->Prop} (de:In A s.heap) (hit:s.heap.IsTupleIter it t i) (ar:s.heap.IsTuple t items) (ae:items[i]?=none)
  (q : ∀ g,Heap.ExtBut it s.heap g->Q none { s with heap:=g }):wpAny (model prog w) A (pyNext (.ref it)) Q E s:=by
 unfold pyNext;refine aI (p_ (kW (name:=Str.ofString "__next__") hit.typeIs uR (kX uR hit.typeIs EI ?_ (EJ _))));exact Nr (A:=A.in1) de hit ar ae λ g e d5 ⟨o,a0,aj⟩=>aI (rh (T := "StopIteration") (b:=true) ⟨o,a0,aj⟩ s9 (b2 (q g d5)))
theorem N0 {i:Nat} {items:cn} {Q:bY} (de:In A s.heap) (hit:s.heap.IsListIter it l i) (ar:s.heap.IsList l items) (ae:items[i]?=none)
  (q : ∀ g e,Heap.ExtBut it s.heap g->(∃ o,g.get? e=some o/\o.cls=.type "StopIteration")->E (.ref e) { s with heap:=g }):wpAny (model prog w) A (Builtin.SmallTypes.nextOf (.ref it)) Q E s:=by
 unfold Builtin.SmallTypes.nextOf;exact aI (kW (name:=Str.ofString "__next__") hit.typeIs AD (kX AD hit.typeIs entry_listiter_next (NZ (A:=A.in1) de hit ar ae q) (args_listiter_next _)))
theorem Nt {t:Addr} {i:Nat} {items:cn} {Q:bY} (de:In A s.heap) (hit:s.heap.IsTupleIter it t i) (ar:s.heap.IsTuple t items) (ae:items[i]?=none)
  (q : ∀ g e,Heap.ExtBut it s.heap g->(∃ o,g.get? e=some o/\o.cls=.type "StopIteration")->E (.ref e) { s with heap:=g }):wpAny (model prog w) A (Builtin.SmallTypes.nextOf (.ref it)) Q E s:=by
 unfold Builtin.SmallTypes.nextOf;exact aI (kW (name:=Str.ofString "__next__") hit.typeIs uR (kX uR hit.typeIs EI (Nr (A:=A.in1) de hit ar ae q) (EJ _)))
theorem Zu {e:Addr} {i:Nat} {items:cn} {old:Value} {Q:dP->Shared->Prop} (de:In A s.heap) (he:IsEnum s.heap e it i old) (hit:s.heap.IsListIter it l i) (ar:s.heap.IsList l items) (ae:items[i]?=none)
  (q : ∀ g,Heap.ExtBut it s.heap g->Q none { s with heap:=g }):wpAny (model prog w) A (pyNext (.ref e)) Q E s:=by
 have ty:s.TypeIs (.ref e) "enumerate" := ⟨_,he,rfl⟩
 unfold pyNext;refine aI (p_ (kW (name:=Str.ofString "__next__") ty uS (kX uS ty EK ?_ (EL _))));show wpAny _ _ (field (.ref e) 2>>=_) _ _ _;refine aI (fN he rfl (x:=.ref it) rfl (aI (N0 (A:=A.in1) de hit ar ae λ g x d5 ⟨o,a0,aj⟩=>?_)));exact aI (rh (T := "StopIteration") (b:=true) ⟨o,a0,aj⟩ s9 (b2 (q _ d5)))
theorem items {t:Addr} {items:cn} {Q:List Value->Shared->Prop} (de:In A s.heap) (aW:IsTup s.heap t items)
  (q : ∀ g,Heap.ExtBut s.heap.objs.size s.heap g->Q items.toList { s with heap:=g }):wpAny (model prog w) A (unpackItems (.ref t) items.size none) Q E s:=by
 have lt:t≠s.heap.objs.size:=by
  obtain ⟨o,a0,_⟩:=aW;exact d1 (cb a0)
 unfold unpackItems;refine aI ?_;unfold notIterableAtAll;refine aI (AE aW.typeIs slot_tuple_iter.lookup (b2 ?_));simp only [xT,if_false];refine aI (kg (iter_tuple aW (aI (kg (draw_tuple lt items.size 0 _ _ ⟨_,dI _ rfl,rfl,rfl⟩ (aW.push _) .ab λ g1 jf s1=>?_)))));rw [show List.take items.size (List.drop 0 items.toList)=items.toList by rw [List.drop_zero];exact fG .zs,if_neg .zs];have t1:IsTup g1 t items:=(aW.push _).extBut s1.extBut lt;have d5 : ∀ b o,s.heap.get? b=some o->g1.get? b=some o:=λ b o y=>s1.extBut b o (d1 (cb y)) (bW _ y)
 refine aI (kg (FO (de.kept d5) (show Heap.IsTupleIter g1 s.heap.objs.size t (0+items.size) from jf) (show Heap.IsTuple g1 t items from t1) .zs λ g2 aN=>?_));simp only [Option.isSome_none,xT,if_false];exact b2 (q g2 λ b o nb y=>aN b o nb (d5 b o y))
theorem aat {env:Env} {elts:List Expr} {k} {pos:Pos} {t:Addr} {items:cn} {Q:Unit->Shared->Prop} (de:In A s.heap) (aW:IsTup s.heap t items)
  (az:(assignEach elts env).length=items.size) (aF:(assignEach elts env).findIdx? (·.1)=none)
  (h : ∀ g,Heap.ExtBut s.heap.objs.size s.heap g->wpAny (model prog w) A (assignInOrder ((assignEach elts env).map (·.2)) items.toList) Q E { s with heap:=g }) :
  wpAny (model prog w) A (assign (.Tuple elts k pos) env (.ref t)) Q E s:=by
 rw [assign_Tuple];refine aI (xU ?_);unfold unpack;rw [az,aF];exact aI (kg (gu.items de aW h))
end
theorem acr {e:Addr} {eN:Obj} {ag:cn} (I:A.handled=some (.ref e)) (aD:eN.data=.fields ag) (aL:ag[2]?=some .none) (C vN:Addr) (dD:vN≠C) (su:e≠C) (items:cn) :
  Walks prog w A C [C,vN,e] [C] items.size (λ i v=>items[i]?=some v) (λ i h=>h.IsTupleIter C vN i/\h.IsTuple vN items/\h.get? e=some eN) where
 sub:=λ b af=>by simp at af;simp [af]
 frame:=λ _ _ _ st aE=>⟨st.1.at λ o y=>aE C .zs o y,st.2.1.at λ o y=>aE vN .zs o y,aE e .zs _ st.2.2⟩
 item:=λ i s Q E aq st fp=>by
  refine wpAny_pyNext_tuple_item st.1 st.2.1 (x:=items[i]) (by simp [aq]) λ g TF eg=>?_
  exact fp _ g s.toks (by simp [aq]) ⟨TF,st.2.1.extBut eg.extBut dD,eg.extBut _ _ su st.2.2⟩ λ b o af y=>eg.extBut b o (λ z=>af (by simp [z])) y
 done:=λ s Q E st fp=>FO (.inr ⟨e,eN,ag,I,st.2.2,aD,aL⟩) st.1 st.2.1 .zs λ g eS=>fp g s.toks λ b o af y=>eS b o (λ z=>af (by simp [z])) y
 self:=λ _ _ _ _ st fp=>wpAny_pyIter_tupleiter st.1 fp
section
variable {E:bY}
theorem max2 {a b:Int} {t u:Tok} {Q:bY} (de:In A s.heap)
  (h : ∀ g bE,(∀ c o,s.heap.get? c=some o->g.get? c=some o)->Q (if b > a then .int b u else .int a t) { s with heap:=g,toks:=bE }) :
  wpAny (model prog w) A (call (.builtin "max") [.int a t,.int b u]) Q E s:=by
 rcases de with de | ⟨e,eN,ag,I,ah,aD,aL⟩
 ·exact max_two_ints de h
 have ck:(s.heap.push { cls:=.type "tuple", data:=.seq #[.int a t,.int b u] }).IsTuple s.heap.objs.size (intItems #[(a,t),(b,u)]):=⟨_,dI _ rfl,rfl,0,by simp [intItems]⟩
 have lt:=cb ah;have hsz:(s.heap.push { cls:=.type "tuple", data:=.seq #[.int a t,.int b u] }).objs.size=s.heap.objs.size+1:=fX ..;refine call_max_two (nq ck ⟨_,[_,s.heap.objs.size,e],[_],_,_,_,_,rfl,acr (A:=A.in1) I aD aL _ s.heap.objs.size (by rw [hsz];exact d1 (nr _)) (by rw [hsz];exact d1 (oS lt)) (intItems #[(a,t),(b,u)]),
  ⟨⟨_,dI _ rfl,rfl,rfl⟩,ck.push _,bW _ (bW _ ah)⟩,λ c aj=>?_,by simp [intItems],CmpOf.ints_gt (numAt #[(a,t),(b,u)]) (λ _ _=>xV),λ v g bE b8 aE=>?_⟩)
 ·have hI:((s.heap.push { cls:=.type "tuple", data:=.seq #[.int a t,.int b u] }).push { cls:=.type "tuple_iterator", data:=.fields #[.ref s.heap.objs.size,.int 0 0] }).objs.size=s.heap.objs.size+2:=by rw [fX,hsz]
  show c<((s.heap.push _).push _).objs.size;rw [hI];simp only [c8,gg,gh,hsz] at aj;rcases aj with aj | aj | aj
  ·rw [aj];exact nr _
  ·rw [aj];exact oS (nr _)
  ·rw [aj];exact oS (oS lt)
 ·have hold : ∀ c o,s.heap.get? c=some o->g.get? c=some o:=λ c o y=>aE c o (λ hm=>by
   have aJ:=ix.mp hm;have:=cb y;rw [aJ,hsz] at this;exact iW _ (uQ this)) (bW _ (bW _ y))
  have kL:(intItems #[(a,t),(b,u)])[argBest (λ i j=>decide (numAt #[(a,t),(b,u)] i > numAt #[(a,t),(b,u)] j)) 1]?=some v:=by
   have Vl:(intItems #[(a,t),(b,u)]).size - 1=1:=by simp [intItems]
   rw [<-Vl];exact b8
  have bl:v=if b > a then Value.int b u else Value.int a t:=by
   by_cases uc:b > a
   ·rw [show argBest (λ i j=>decide (numAt #[(a,t),(b,u)] i > numAt #[(a,t),(b,u)] j)) 1=1 by simp [argBest,numAt,uc]] at kL;simpa [intItems,uc] using kL.symm
   ·rw [show argBest (λ i j=>decide (numAt #[(a,t),(b,u)] i > numAt #[(a,t),(b,u)] j)) 1=0 by simp [argBest,numAt,uc]] at kL;simpa [intItems,uc] using kL.symm
  rw [bl];exact h g bE hold
end
end gu
namespace bC
open PySem PySem.Spec PyProof.Rows
noncomputable abbrev Key:=Sum Int Str
noncomputable def uN:Key->Value->Bool
 | .inl k,v=>Value.isInt k v
 | .inr x,v=>Value.isStrOf x v
noncomputable def Vt (w:World):Key->Int
 | .inl k=>hashInt k
 | .inr x=>hashStr w x
theorem qt : ∀ {k:Key} {v:Value},uN k v=true->(∃ i t,k=Sum.inl i/\v=Value.int i t)\/(∃ x t,k=Sum.inr x/\v=Value.str x t)
 | .inl i,v,h=>by
  obtain ⟨t,e⟩:=Value.isInt_shape (k:=i) (v:=v) h;exact .inl ⟨i,t,rfl,e⟩
 | .inr x,v,h=>by
  obtain ⟨t,e⟩:=Value.isStrOf_shape (x:=x) (v:=v) h;exact .inr ⟨x,t,rfl,e⟩
theorem aaY (i:Int) (t:Tok):uN (.inl i) (.int i t)=true:=by simp [uN,Value.isInt]
theorem aaZ (x:Str) (t:Tok):uN (.inr x) (.str x t)=true:=by simp [uN,Value.isStrOf]
theorem WW (a b:Int):decide ((Sum.inl a:Key)=Sum.inl b)=(a == b):=by
 by_cases e:a=b
 ·subst e;simp
 ·have h : ¬ (Sum.inl a:Key)=Sum.inl b:=λ q=>e (Sum.inl.inj q)
  rw [ee h];exact (beq_eq_false_iff_ne.mpr e).symm
theorem WZ (a b:Str):decide ((Sum.inr a:Key)=Sum.inr b)=decide (a=b):=by
 by_cases e:a=b
 ·subst e;simp
 ·have h : ¬ (Sum.inr a:Key)=Sum.inr b:=λ q=>e (Sum.inr.inj q)
  rw [ee h,ee e]
theorem WX (a:Int) (b:Str):decide ((Sum.inl a:Key)=Sum.inr b)=false:=ee (λ q=>nomatch q)
theorem WY (a:Str) (b:Int):decide ((Sum.inr a:Key)=Sum.inl b)=false:=ee (λ q=>nomatch q)
noncomputable def lN (prog:Program) (w:World):PySem.KeyKind prog w Key where
 is:=uN
 hash:=Vt w
 inj:=λ v a b au af=>by
  rcases qt au with ⟨i,t,rfl,rfl⟩ | ⟨x,t,rfl,rfl⟩
  ·rcases qt af with ⟨j,u,rfl,e⟩ | ⟨y,u,rfl,e⟩
   ·injection e with aJ _;rw [aJ]
   ·exact nomatch e
  ·rcases qt af with ⟨j,u,rfl,e⟩ | ⟨y,u,rfl,e⟩
   ·exact nomatch e
   ·injection e with aJ _;rw [aJ]
 byValue:=λ k v h=>by
  rcases qt h with ⟨i,t,rfl,rfl⟩ | ⟨x,t,rfl,rfl⟩<;>rfl
 pyHash:=λ bl h=>by
  rcases qt bl with ⟨i,t,rfl,rfl⟩ | ⟨x,t,rfl,rfl⟩
  ·exact wpAny_pyHash_int h
  ·exact wpAny_pyHash_str h
 eqBool:=λ bM bl h=>by
  rcases qt bM with ⟨i,t,rfl,rfl⟩ | ⟨x,t,rfl,rfl⟩
  ·rcases qt bl with ⟨j,u,rfl,rfl⟩ | ⟨y,u,rfl,rfl⟩
   ·rw [WW] at h;exact wpAny_eqBool_int h
   ·rw [WX] at h;exact SeqAt.EqAt.int_str i t y u _ _ _ _ h
  ·rcases qt bl with ⟨j,u,rfl,rfl⟩ | ⟨y,u,rfl,rfl⟩
   ·rw [WY] at h;exact SeqAt.EqAt.str_int x t j u _ _ _ _ h
   ·rw [WZ] at h;exact wpAny_eqBool_str h
 «strs» := λ k x t v h=>by
  rcases qt h with ⟨i,u,rfl,e⟩ | ⟨y,u,rfl,e⟩
  ·exact nomatch e
  ·injection e with aJ _;subst aJ;cases v<;>rfl
theorem acB (prog:Program) (w:World) (i:Int) (t:Tok):(lN prog w).is (.inl i) (.int i t)=true:=aaY i t
theorem acC (prog:Program) (w:World) (x:Str) (t:Tok):(lN prog w).is (.inr x) (.str x t)=true:=aaZ x t
inductive V where
 | cV | aH (b:Bool) | int (i:Int) | str (x:Str) | l6 (b:Array UInt8) | si (b:UInt64) | ref (a:Addr) | ty (n:String)
 deriving DecidableEq
noncomputable def RelV:V->Value->Prop
 | .cV,u=>u=Value.none
 | .aH b,u=>u=Value.bool b
 | .int i,u => ∃ t,u=Value.int i t
 | .str x,u => ∃ t,u=Value.str x t
 | .l6 b,u => ∃ t,u=Value.bytes b t
 | .si b,u => ∃ t,u=Value.float b t
 | .ref a,u=>u=Value.ref a
 | .ty n,u=>u=Value.type n
noncomputable abbrev Vals:List V->List Value->Prop:=Paired RelV
theorem Vals.length {xs:List V} (r:Vals xs us):xs.length=us.length:=Paired.length r
theorem Vals.get : ∀ {xs:List V} {us:List Value} {i:Nat} {x:V},Vals xs us->xs[i]?=some x -> ∃ u,us[i]?=some u/\RelV x u
 | _,_,_,_,.nil,e=>by simp at e
 | _,_,0,_,.cons r _,e=>by simp at e;subst e;exact ⟨_,rfl,r⟩
 | _,_,i+1,x,.cons _ t,e=>by
  obtain ⟨u,I,ah⟩:=Vals.get (i:=i) (x:=x) t (by simpa using e);exact ⟨u,by simpa using I,ah⟩
theorem Vals.set {x:V} {u:Value} (r:RelV x u) : ∀ {xs:List V} {us:List Value} (i:Nat),Vals xs us->Vals (xs.set i x) (us.set i u)
 | _,_,_,.nil=>.nil
 | _,_,0,.cons _ t=>.cons r t
 | _,_,i+1,.cons q t=>.cons q (Vals.set r i t)
theorem Vals.append : ∀ {xs ys:List V} {us ws:List Value},Vals xs us->Vals ys ws->Vals (xs++ys) (us++ws)
 | _,_,_,_,.nil,s=>s
 | _,_,_,_,.cons r t,s=>.cons r (Vals.append t s)
theorem Vals.take : ∀ {xs:List V} {us:List Value} (n:Nat),Vals xs us->Vals (xs.take n) (us.take n)
 | _,_,0,_=>.nil
 | _,_,_+1,.nil=>.nil
 | _,_,n+1,.cons r t=>.cons r (Vals.take n t)
theorem Vals.drop : ∀ {xs:List V} {us:List Value} (n:Nat),Vals xs us->Vals (xs.drop n) (us.drop n)
 | _,_,0,r=>r
 | _,_,_+1,.nil=>.nil
 | _,_,n+1,.cons _ t=>Vals.drop n t
noncomputable def m_:Option V->dP->Prop
 | some v,some u=>RelV v u
 | none,none=>True
 | _,_=>False
noncomputable def h9 {κ : Type}:List (κ × V)->List (κ × Value)->Prop:=Paired λ (p : κ × V) (q : κ × Value)=>p.1=q.1/\RelV p.2 q.2
noncomputable def c2:Key->V
 | .inl i=>.int i
 | .inr x=>.str x
inductive fy where
 | lst (xs:List V)
 | tup (xs:List V)
 | gM (aU:List (Key×V)) | f5 (aU:List (List Key×V))
 | set (S:Int->Bool) (n:Nat)
 | ins (a9 gw:Addr) (ai:List (Str×V))
 | own (x:Addr)
 | Cz (ai:List (Str×V))
 | met (f x:Addr)
 | sO (lo aq:Int)
 | kJ (o:Obj) (u:fy)
 | sR (ps:cn)
 | ext (φ : Heap->Prop)
noncomputable abbrev aA:=Addr->Option fy
noncomputable def upd (H:aA) (a:Addr) (o:fy):aA:=λ b=>if b=a then some o else H b
theorem bK {H:aA} {o:fy}:upd H a o a=some o:=by unfold upd;rw [if_pos rfl]
theorem bw {H:aA} {b:Addr} {o:fy} (h:b≠a):upd H a o b=H b:=by unfold upd;rw [if_neg h]
theorem FQ {H:aA} {o u:fy}:upd (upd H a o) a u=upd H a u:=by
 funext b;unfold upd;split<;>rfl
theorem gY {H:aA} {b:Addr} {o u:fy} (h:H a=some o) (h':H b=some u) (d:o≠u):a≠b:=by
 intro e;subst e;rw [h] at h';exact d (eA h')
theorem bT {H:aA} {b:Addr} {o:fy} (h:H a=some o) (h':H b=none):a≠b:=by
 intro e;subst e;rw [h] at h';cases h'
section
variable (P:Program) (w:World)
noncomputable def nx (h:Heap) (a:Addr) (items:cn):Prop := ∃ o,h.get? a=some o/\o.cls=.type "tuple" /\ (∃ n,o.data=.seq items n)/\o.dict=none
theorem nx.up {h:Heap} {items:cn}:nx h a items->IsTup h a items:=λ ⟨o,e,c,d,_⟩=>⟨o,e,c,d⟩
theorem nx.lt {h:Heap} {items:cn}:nx h a items->a<h.objs.size:=λ ⟨_,e,_⟩=>cb e
theorem nx.new (h:Heap) (items:cn):nx (h.push { cls:=.type "tuple", data:=.seq items }) h.objs.size items:=⟨_,dI _ rfl,rfl,⟨_,rfl⟩,rfl⟩
noncomputable def fw (H:aA) (h:Heap) (a:Addr):fy->Prop
 | .lst xs=>xs.length<=sizeLine /\ ∃ (its:List Value) (n:Nat),Vals xs its/\h.get? a=some { cls:=.type "list", data:=.seq its.toArray n }
 | .tup xs=>xs.length<=sizeLine /\ ∃ its:List Value,Vals xs its/\nx h a its.toArray
 | .gM aU=>aU.length<=sizeLine/\(a == sysModules)=false /\ ∃ ag,h9 aU ag/\h.DictOf (lN P w) a ag
 | .f5 aU=>aU.length<=sizeLine/\(a == sysModules)=false /\ ∃ xs:List (List Key×Addr×Value),
   Paired (λ (p:List Key×V) (q:List Key×Addr×Value)=>p.1=q.1/\H q.2.1=some (.tup (p.1.map c2))/\RelV p.2 q.2.2) aU xs /\
   ∃ o es e7,h.get? a=some o/\o.ExactDict/\o.data=.dict es e7/\es.toList=xs.map (entryOfKey (tupleKind (lN P w)))/\(xs.map (·.1)).Nodup
 | .set S n=>h.SetOf (intKind P w) a S n
 | .ins a9 gw ai=>H gw=some (.own a)/\ai.length<=1000/\gw≠a/\h.get? a=some (PySem.W.instObj a9 gw) /\
   ∃ gz,h.Ns1 gw gz/\(∀ f,m_ (ai.lookup f) (gz f))/\PySem.Within gz (ai.map (·.1))
 | .own _ => ∃ o,h.get? a=some o
 | .Cz ai => ∃ gz,h.Ns1 a gz /\ ∀ f,m_ (ai.lookup f) (gz f)
 | .sO lo aq => ∃ t u v,h.get? a=some { cls:=.type "range", data:=.fields #[.int lo t,.int aq u,.int 1 v] }
 | .kJ o u=>h.get? a=some o/\fw H h a u
 | .sR ps=>h.get? a=some { cls:=.none,data:=.fields ps }
 | .met f x=>h.get? a=some (PySem.W.methodObj (.ref f) (.ref x))
 | .ext φ => φ h/\(∃ o,h.get? a=some o) /\ ∀ I ah:Heap,φ I->(∀ o,I.get? a=some o->ah.get? a=some o) -> φ ah
noncomputable def fC (H:aA) (h:Heap):Prop := ∀ a o,H a=some o->fw P w H h a o
end
section
variable {P:Program} {H H':aA} {h:Heap} {o:fy}
theorem fw.lt (x:fw P w H h a o):a<h.objs.size:=by
 cases o with
 | lst xs=>obtain ⟨_,_,_,_,e⟩:=x;exact cb e
 | tup xs=>obtain ⟨_,_,_,p⟩:=x;exact p.lt
 | gM aU=>obtain ⟨_,_,_,_,o,_,_,e,_⟩:=x;exact cb e
 | f5 aU=>obtain ⟨_,_,_,_,o,_,_,e,_⟩:=x;exact cb e
 | set S n=>obtain ⟨o,_,_,_,e,_⟩:=x;exact cb e
 | ins a9 gw ai=>obtain ⟨_,_,_,e,_⟩:=x;exact cb e
 | own y=>obtain ⟨_,e⟩:=x;exact cb e
 | Cz ai=>obtain ⟨_,⟨_,_,_,e,_⟩,_⟩:=x;exact cb e
 | sO lo aq=>obtain ⟨_,_,_,e⟩:=x;exact cb e
 | kJ da u=>obtain ⟨e,_⟩:=x;exact cb e
 | sR ps=>exact cb (show h.get? a=some _ from x)
 | met f y=>exact cb (show h.get? a=some _ from x)
 | ext φ => obtain ⟨_,⟨_,e⟩,_⟩:=x;exact cb e
theorem Paired.Ef {α β: Type} {F G: α -> β -> Prop} : ∀ {l₁:List α} {l₂:List β},Paired F l₁ l₂->(∀ a b,F a b->G a b)->Paired G l₁ l₂
 | _,_,.nil,_=>.nil
 | _,_,.cons r t,f=>.cons (f _ _ r) (Paired.Ef t f)
theorem fw.hP (x:fw P w H h a o) (k : ∀ b u,(b=a\/H b=some (.own a))->h.get? b=some u->h'.get? b=some u)
  (a0 : ∀ b,H b=some (.own a)->H' b=some (.own a)) (aW : ∀ b xs,H b=some (.tup xs)->H' b=some (.tup xs)):fw P w H' h' a o:=by
 induction o with
 | lst xs=>obtain ⟨z,its,n,r,e⟩:=x;exact ⟨z,its,n,r,k _ _ (.inl rfl) e⟩
 | tup xs=>obtain ⟨z,its,r,da,e,c⟩:=x;exact ⟨z,its,r,da,k _ _ (.inl rfl) e,c⟩
 | gM aU=>obtain ⟨z,y,ag,r,da,es,e7,e,c⟩:=x;exact ⟨z,y,ag,r,da,es,e7,k _ _ (.inl rfl) e,c⟩
 | f5 aU =>
  obtain ⟨z,y,xs,r,da,es,e7,e,c⟩:=x;exact ⟨z,y,xs,Paired.Ef r λ p q z=>⟨z.1,aW _ _ z.2.1,z.2.2⟩,da,es,e7,k _ _ (.inl rfl) e,c⟩
 | set S n=>obtain ⟨da,es,e7,t,e,c⟩:=x;exact ⟨da,es,e7,t,k _ _ (.inl rfl) e,c⟩
 | ins a9 gw ai =>
  obtain ⟨d,z,ne,e,gz,⟨gO,es,e7,aN,c⟩,r⟩:=x;exact ⟨a0 _ d,z,ne,k _ _ (.inl rfl) e,gz,⟨gO,es,e7,k _ _ (.inr d) aN,c⟩,r⟩
 | own y=>obtain ⟨da,e⟩:=x;exact ⟨da,k _ _ (.inl rfl) e⟩
 | Cz ai=>obtain ⟨gz,⟨gO,es,e7,e,c⟩,r⟩:=x;exact ⟨gz,⟨gO,es,e7,k _ _ (.inl rfl) e,c⟩,r⟩
 | sO lo aq=>obtain ⟨t,u,v,e⟩:=x;exact ⟨t,u,v,k _ _ (.inl rfl) e⟩
 | kJ da u b0=>obtain ⟨e,q⟩:=x;exact ⟨k _ _ (.inl rfl) e,b0 q⟩
 | sR ps =>
  have e:h.get? a=some { cls:=.none,data:=.fields ps }:=x;show h'.get? a=some { cls:=.none,data:=.fields ps };exact k a _ (.inl rfl) e
 | met f y =>
  have e:h.get? a=some (PySem.W.methodObj (.ref f) (.ref y)):=x;show h'.get? a=some (PySem.W.methodObj (.ref f) (.ref y));exact k a _ (.inl rfl) e
 | ext φ => obtain ⟨p,⟨o,e⟩,st⟩:=x;exact ⟨st _ _ p λ o q=>k _ _ (.inl rfl) q,⟨o,k _ _ (.inl rfl) e⟩,st⟩
theorem fC.lt (x:fC P w H h) (e:H a=some o):a<h.objs.size:=(x a o e).lt
theorem fC.fresh (x:fC P w H h) (e:h.objs.size<=a):H a=none:=by
 cases q:H a with
 | none=>rfl
 | some u=>exact absurd (g0 (x.lt q) e) (iW _)
theorem fC.kept (x:fC P w H h) (k : ∀ b u,h.get? b=some u->h'.get? b=some u):fC P w H h':=λ a o e =>
 (x a o e).hP (λ b u _ q=>k b u q) (λ _ q=>q) λ _ _ q=>q
theorem fC.laid (x:fC P w H h) (k : ∀ b u,h.get? b=some u->h'.get? b=some u) (ao:h.objs.size<=a) (new:fw P w (upd H a o) h' a o):fC P w (upd H a o) h':=λ b u e=>by
 have az:=x.fresh ao;by_cases af:b=a
 ·subst af;rw [bK] at e;cases e;exact new
 ·rw [bw af] at e;exact (x b u e).hP (λ c v _ q=>k c v q) (λ c q=>by rw [bw (bT q az)];exact q) λ c xs q=>by rw [bw (bT q az)];exact q
end
noncomputable def o4 (H:aA) (a:Addr) (u:fy):Prop:=H a=some u \/ ∃ o,H a=some (.kJ o u)
theorem o4.ok {P:Program} {H:aA} {h:Heap} {u:fy} (r:o4 H a u) (x:fC P w H h):fw P w H h a u:=by
 rcases r with r | ⟨o,r⟩
 ·exact x a u r
 ·obtain ⟨_,q⟩:=x a _ r;exact q
noncomputable def wh:Option fy->Prop
 | some (.lst _)=>True
 | some (.gM _)=>True
 | some (.f5 _)=>True
 | some (.set _ _)=>True
 | some (.ins _ _ _)=>True
 | some (.ext _)=>True
 | _=>False
section
variable {P:Program} {H:aA} {h:Heap} {x e:Addr} {e0:fy}
theorem fC.write (ok:fC P w H h) (kx:wh (H x)) (he:e=x\/H e=some (.own x)) (k : ∀ b u,b≠e->h.get? b=some u->h'.get? b=some u) (oq : ∃ u,h'.get? e=some u)
  (new:fw P w (upd H x e0) h' x e0):fC P w (upd H x e0) h':=λ b u q=>by
 have Ks : ∀ c y,H c=some (.own y)->c≠x:=λ c y r z=>by subst z;rw [r] at kx;exact kx
 have VB : ∀ c xs,H c=some (.tup xs)->c≠x:=λ c xs r z=>by subst z;rw [r] at kx;exact kx
 by_cases af:b=x
 ·subst af;rw [bK] at q;cases q;exact new
 ·rw [bw af] at q;by_cases sm:b=e
  ·have bh:H b=some (.own x):=by
    rcases he with z | z
    ·exact absurd (sm.trans z) af
    ·rw [sm];exact z
   rw [q] at bh;cases bh;obtain ⟨v,bl⟩:=oq;exact ⟨v,by rw [sm];exact bl⟩
  ·refine (ok b u q).hP (λ c v aj r=>k c v ?_ r) (λ c r=>by rw [bw (Ks c b r)];exact r) λ c xs r=>by rw [bw (VB c xs r)];exact r
   rcases aj with rfl | aj
   ·exact sm
   ·rintro rfl;rcases he with z | z
    ·exact Ks c b aj z
    ·rw [aj] at z;cases z;exact af rfl
end
structure g8 (ai ex:List Addr) (H H':aA) (h h':Heap):Prop where
 keep : ∀ b o,h.get? b=some o->H b=none->b∉ai->b∉ex->h'.get? b=some o
 slot : ∀ b o,h.get? b=some o->H b=none->b∈ai->b∉ex -> ∃ cZ,h'.get? b=some { o with slots:=cZ }
 free : ∀ b o,h.get? b=some o->H b=none->b∉ex->H' b=none
 there : ∀ b o,h.get? b=some o->b∉ex -> ∃ e0,h'.get? b=some e0
 oN : ∀ b xs,H b=some (.tup xs)->H' b=some (.tup xs)
 nc : ∀ b o u,H b=some (.kJ o u)->H' b=some (.kJ o u)
 oM : ∀ b ps,H b=some (.sR ps) -> ∃ more,H' b=some (.sR (ps++more))
section
variable {ai Rk ex aeZ:List Addr} {H H1 ay:aA} {h I ah:Heap} {x e:Addr} {o:fy}
theorem g8.any (u:g8 ai ex H H1 h I) {b:Addr} {da:Obj} (q:h.get? b=some da) (n:H b=none) (ae:b∉ex) : ∃ cZ,I.get? b=some { da with slots:=cZ }:=by
 by_cases af:b∈ai
 ·exact u.slot b da q n af ae
 ·exact ⟨da.slots,u.keep b da q n af ae⟩
theorem g8.kept (k : ∀ b u,h.get? b=some u->h'.get? b=some u):g8 ai ex H H h h' :=
 ⟨λ b da q _ _ _=>k b da q,λ b da q _ _ _=>⟨da.slots,k b da q⟩,λ _ _ _ n _=>n,λ b da q _=>⟨da,k b da q⟩,λ _ _ q=>q,λ _ _ _ q=>q,λ _ ps q=>⟨#[],by rw [q];simp⟩⟩
theorem g8.refl:g8 ai ex H H h h:=g8.kept λ _ _ q=>q
theorem g8.laid (k : ∀ b u,h.get? b=some u->h'.get? b=some u) (ao:h.objs.size<=a) (az:H a=none):g8 ai ex H (upd H a o) h h' where
 keep:=λ b u q _ _ _=>k b u q
 slot:=λ b u q _ _ _=>⟨u.slots,k b u q⟩
 free:=λ b u q n _=>by rw [bw (d1 (g0 (cb q) ao))];exact n
 there:=λ b u q _=>⟨u,k b u q⟩
 oN:=λ b xs q=>by rw [bw (bT q az)];exact q
 nc:=λ b u xs q=>by rw [bw (bT q az)];exact q
 oM:=λ b ps q=>⟨#[],by rw [bw (bT q az),q];simp⟩
theorem g8.write (kx:wh (H x)) (he:e=x\/H e=some (.own x)) (k : ∀ b u,b≠e->h.get? b=some u->h'.get? b=some u) (oq : ∃ u,h'.get? e=some u):g8 ai ex H (upd H x o) h h':=by
 have ae : ∀ b,H b=none->b≠x:=λ b n z=>by subst z;rw [n] at kx;exact kx
 have af : ∀ b,H b=none->b≠e:=λ b n z=>by
  subst z;rcases he with r | r
  ·exact ae b n r
  ·rw [n] at r;cases r
 have hm : ∀ b u,H b=some u -> ¬ wh (some u)->b≠x:=λ b u q nm z=>by subst z;rw [q] at kx;exact nm kx
 refine ⟨λ b u q n _ _=>k b u (af b n) q,λ b u q n _ _=>⟨u.slots,k b u (af b n) q⟩,λ b u q n _=>by rw [bw (ae b n)];exact n,λ b u q _=>?_,
  λ b xs q=>by rw [bw (hm b _ q λ z=>z)];exact q,λ b u xs q=>by rw [bw (hm b _ q λ z=>z)];exact q,λ b ps q=>⟨#[],by rw [bw (hm b _ q λ z=>z),q];simp⟩⟩
 by_cases sm:b=e
 ·subst sm;exact oq
 ·exact ⟨u,k b u sm q⟩
end
noncomputable def z3 (h:Heap) (H:aA):List Addr:=(List.range h.objs.size).filter λ a=>(H a).isSome
noncomputable def p0 (h:Heap) (H:aA):Heap:=PySem.W.hideAll h (z3 h H)
theorem aaT (h:Heap) (H:aA):(p0 h H).objs.size=h.objs.size:=PySem.W.hideAll_size _ _
theorem ZD {h:Heap} {H:aA} {b:Addr} {o:Obj} (e:h.get? b=some o) (n:H b=none):(p0 h H).get? b=some o :=
 PySem.W.hideAll_get _ e λ hm=>by
  have q:(H b).isSome=true:=(mr.mp hm).2;rw [n] at q;simp at q
theorem Yj {h:Heap} {H:aA} {b:Addr} {o:Obj} (e:(p0 h H).get? b=some o):h.get? b=some o/\H b=none:=by
 have bF:h.get? b=some o:=PySem.W.of_hideAll (z3 h H) e;refine ⟨bF,?_⟩;cases q:H b with
 | none=>rfl
 | some x =>
  have hm:b∈z3 h H:=mr.mpr ⟨fH.mpr (cb bF),by simp [q]⟩;have z:(p0 h H).get? b=none:=PySem.W.hideAll_none (z3 h H) hm;rw [z] at e;cases e
structure Mod (K:dc) (ax:Str->dP) (base:Heap):Prop where
 DD:K.In base
 glob:base.Ns mainGlobals ax
 blt : ∃ l0,base.Ns builtinsNs l0 /\ ∀ x:Str,x ≠ "__name__" -> l0 x=bootBuiltins x
 nolimit:base.NoLimit
structure a7 where
 prog:Program
 w:World
 K:dc
 ax:Str->dP
 base:Heap
 A:Around
 N:cE
 s₀:Shared
 H₀:aA
 env:Env
 outer:List Env
 stack:List Env
 ex:List Addr
 fn:Str->Bool
 calm:Bool
 warm:Bool
 hV:eo
 dB:Value->Shared->Prop
noncomputable def kI (l:List Env):List Addr:=l.filterMap (·.frame)
noncomputable abbrev a7.ai (X:a7):List Addr:=kI X.outer
noncomputable def zj (sc:Scope) (x:Str):Prop:=sc.names.lookup x=some .local\/sc.names.lookup x=some .cell\/sc.names.lookup x=some .free
noncomputable def Loc (sc:Scope) (x:Str):Prop:=sc.names.lookup x=some .local\/sc.names.lookup x=some .cell
noncomputable def Look (env:Env) (h:Heap) (m:Str->dP) (x:Str) (u:Value):Prop :=
 (env.kindOf x=some .local/\m x=some u)\/((env.kindOf x=some .cell\/env.kindOf x=some .free) /\ ∃ c,env.cells.lookup x=some c/\h.IsCell c (some u))
noncomputable def DW (A:Around) (h:Heap) (H:aA) (ai ex:List Addr):Prop :=
 A.handled=none \/ ∃ (e:Addr) (eN:Obj) (ag:cn),A.handled=some (.ref e)/\h.get? e=some eN/\H e=none/\e∉ai/\e∉ex/\eN.data=.fields ag/\ag[2]?=some .none
structure a7.Ok (X:a7):Prop where
 mod:Mod X.K X.ax X.base
 kind:X.env.scope.kind=.function
 glob:X.env.globals=mainGlobals
 blt:X.env.builtins=builtinsNs
 above:X.s₀.heap.objs.size<=X.env.locals
 inj : ∀ x y c,X.env.cells.lookup x=some c->X.env.cells.lookup y=some c->x=y
 has : ∀ x,(X.env.kindOf x=some .cell\/X.env.kindOf x=some .free) -> ∃ c,X.env.cells.lookup x=some c
 wt : ∀ x c,X.fn x=true->X.env.cells.lookup x=some c->X.s₀.heap.objs.size<=c
 hd:(X.calm=true->X.A.handled=none)/\(X.warm=true->DW X.A X.s₀.heap X.H₀ X.ai X.ex)
 frames:X.A.frames=some X.stack
 z0:X.stack=X.outer\/(X.stack=X.env::X.outer/\X.env.frame=some X.env.locals)
 IC : ∀ b∈X.ex,b≠X.env.locals /\ ∀ x c,X.env.cells.lookup x=some c->c≠b
 bs : ∀ b o,X.base.get? b=some o->X.s₀.heap.get? b=some o/\X.H₀ b=none
 oe:X.base.objs.size<=X.s₀.heap.objs.size
 uH : ∀ b o,X.base.get? b=some o->b∉X.ex
 Ab : ∀ b∈X.ex,b∉X.ai
 nd:X.s₀.heap.FunFrames X.base X.outer
 ub : ∀ b∈X.ai,X.H₀ b=none
structure Inv (X:a7) (pins:eo) (σ:List (Option V)) (H:aA) (s:Shared):Prop where
 ok:X.Ok
 os:s.os=X.s₀.os
 bare:AllBare s.gens
 base:g8 X.ai X.ex X.H₀ H X.s₀.heap s.heap
 loc : ∃ m,s.heap.Ns X.env.locals m /\ ∀ (i:Nat) (x:Str) (v:V),X.N[i]?=some x->σ[i]?=some (some v)->zj X.env.scope x -> ∃ u,RelV v u/\Look X.env s.heap m x u
 cell : ∀ x c,X.env.cells.lookup x=some c -> ∃ v,s.heap.IsCell c v
 free:H X.env.locals=none
 ni : ∀ x c,X.env.cells.lookup x=some c->H c=none
 pin : ∀ p∈X.hV++pins,s.heap.get? p.1=some p.2/\H p.1=none/\p.1≠X.env.locals/\p.1∉X.ai /\ ∀ v,p.2.data≠.cell v
 bX:fC X.prog X.w H s.heap
 len:σ.length=X.N.length
section
variable {X:a7} {σ:List (Option V)} {H H':aA}
theorem a7.Ok.Vy (ok:X.Ok) {b:Addr} {o:Obj} (e:X.base.get? b=some o):b∉X.ai:=λ af=>by
 have:=(ok.nd.mem af).1;rw [e] at this;cases this
theorem Inv.bs (C:Inv X pins σ H s) : ∀ b o,X.base.get? b=some o->s.heap.get? b=some o/\H b=none:=λ b o e =>
 ⟨C.base.keep b o (C.ok.bs b o e).1 (C.ok.bs b o e).2 (C.ok.Vy e) (C.ok.uH b o e),C.base.free b o (C.ok.bs b o e).1 (C.ok.bs b o e).2 (C.ok.uH b o e)⟩
theorem Inv.eL (C:Inv X pins σ H s) : ∀ b o,X.base.get? b=some o->s.heap.get? b=some o:=λ b o e=>(C.bs b o e).1
theorem Inv.mod (C:Inv X pins σ H s):Mod X.K X.ax X.base:=C.ok.mod
theorem Inv.U2 (C:Inv X pins σ H s) (hw:X.warm=true):DW X.A s.heap H X.ai X.ex :=
 (C.ok.hd.2 hw).imp id λ ⟨e,eN,ag,I,ah,aD,aL,cp,r⟩=>⟨e,eN,ag,I,C.base.keep e eN ah aD aL cp,C.base.free e eN ah aD cp,aL,cp,r⟩
theorem Inv.j3 (C:Inv X pins σ H s) (hw:X.warm=true):gu.In X.A s.heap :=
 (C.U2 hw).imp id λ ⟨e,eN,ag,I,ah,_,_,_,r⟩=>⟨e,eN,ag,I,ah,r⟩
theorem Inv.iO (C:Inv X pins σ H s):X.K.In s.heap:=C.ok.mod.DD.keeps C.eL
theorem Inv.lt (C:Inv X pins σ H s):X.env.locals<s.heap.objs.size:=let ⟨_,az,_⟩:=C.loc;az.lt
theorem Inv.l2 (C:Inv X pins σ H s):X.s₀.heap.objs.size<=s.heap.objs.size:=et C.ok.above (Nat.le_of_lt C.lt)
theorem Inv.Vz (C:Inv X pins σ H s) (h:s.heap.objs.size<=a):a∉X.ai:=λ af=>by
 obtain ⟨_,o,a0,_⟩:=C.ok.nd.mem af;exact absurd (g0 (cb a0) (et C.l2 h)) (iW _)
theorem Inv.se (C:Inv X pins σ H s) : ∀ x c,X.env.cells.lookup x=some c->c≠X.env.locals:=λ x c e z=>by
 obtain ⟨v,o,a0,hd⟩:=C.cell x c e;obtain ⟨m,⟨e0,es,e7,pG,oo,_⟩,_⟩:=C.loc;rw [z,pG] at a0;cases a0;rw [oo] at hd;cases hd
theorem Inv.nd (C:Inv X pins σ H s):s.heap.FunFrames X.base X.outer:=by
 have all : ∀ (l:List Env),(∀ b∈kI l,b∈X.ai)->X.s₀.heap.FunFrames X.base l->s.heap.FunFrames X.base l:=by
  intro l
  induction l with
  | nil=>intro _ _;trivial
  | cons env r b0 =>
   intro aF ar;obtain ⟨aE,⟨L,o,hf,az,a0,hd⟩,av⟩:=ar;have cc:L∈X.ai:=aF L (by unfold kI;rw [List.filterMap_cons,hf];exact d2);obtain ⟨cZ,e⟩:=C.base.slot L o a0 (C.ok.ub L cc) cc λ z=>C.ok.Ab L z cc
   exact ⟨aE,⟨L,_,hf,az,e,hd⟩,b0 (λ b af=>aF b (by unfold kI;rw [List.filterMap_cons,hf];exact eQ _ af)) av⟩
 exact all X.outer (λ _ af=>af) C.ok.nd
theorem Inv.stack (C:Inv X pins σ H s):s.heap.FunFrames X.base X.stack:=by
 rcases C.ok.z0 with e | ⟨e,hf⟩
 ·rw [e];exact C.nd
 ·rw [e];obtain ⟨m,az,_⟩:=C.loc;refine .cons (by rw [C.ok.kind];decide) hf az ?_ C.nd;exact Heap.get?_none_of_le (et C.ok.oe C.ok.above)
theorem Inv.tg (C:Inv X pins σ H s) : ∀ b∈kI X.stack,b∈X.env.locals::X.ai:=λ b af=>by
 rcases C.ok.z0 with e | ⟨e,hf⟩
 ·rw [e] at af;exact eQ _ af
 ·rw [e] at af;unfold kI at af;rw [List.filterMap_cons,hf] at af;exact af
theorem Inv.I5 (C:Inv X pins σ H s) (hw:X.warm=true) (f : ∀ b∈a3,b∈X.ex\/X.s₀.heap.objs.size<=b):DW X.A s.heap H (kI X.stack) a3 :=
 (C.ok.hd.2 hw).imp id λ ⟨e,eN,ag,I,ah,aD,aL,cp,r⟩=>⟨e,eN,ag,I,C.base.keep e eN ah aD aL cp,C.base.free e eN ah aD cp,
  λ z=>(c8.mp (C.tg e z)).elim (λ q=>absurd (g0 (cb ah) (by rw [q];exact C.ok.above)) (iW _)) aL,
  λ z=>(f e z).elim cp λ q=>absurd (g0 (cb ah) q) (iW _),r⟩
theorem Inv.FL (C:Inv X pins σ H s) : ∀ b∈kI X.stack,H b=none:=λ b af=>by
 rcases c8.mp (C.tg b af) with e | af
 ·rw [e];exact C.free
 ·obtain ⟨_,o,a0,_⟩:=C.ok.nd.mem af;exact C.base.free b o a0 (C.ok.ub b af) λ z=>C.ok.Ab b z af
theorem Inv.step {g':Array GenState} {t':Nat} {d':Drawn} (C:Inv X pins σ H s)
  (om : ∀ b∈ch,(b∈X.ex\/X.s₀.heap.objs.size<=b)/\b≠X.env.locals/\(∀ x c,X.env.cells.lookup x=some c->c≠b) /\ ∀ p∈X.hV++pins,p.1≠b)
  (keep : ∀ b o,b≠X.env.locals->b∉X.ai->b∉ch->s.heap.get? b=some o->H b=none->h'.get? b=some o)
  (slot : ∀ b o,b≠X.env.locals->b∈X.ai->b∉ch->s.heap.get? b=some o->H b=none -> ∃ cZ,h'.get? b=some { o with slots:=cZ }) (free : ∀ b o,b∉ch->s.heap.get? b=some o->H b=none->H' b=none)
  (there : ∀ b o,b∉ch->s.heap.get? b=some o -> ∃ e0,h'.get? b=some e0)
  (oN : ∀ b xs,H b=some (.tup xs)->H' b=some (.tup xs)) (nc : ∀ b o u,H b=some (.kJ o u)->H' b=some (.kJ o u)) (oM : ∀ b ps,H b=some (.sR ps) -> ∃ more,H' b=some (.sR (ps++more)))
  (ns : ∀ m,s.heap.Ns X.env.locals m->h'.Ns X.env.locals m) (bX:fC X.prog X.w H' h') (aR:AllBare g') :
  Inv X pins σ H' { s with heap:=h',gens:=g',drawn:=d',toks:=t' }:=by
 have JC : ∀ b o,X.s₀.heap.get? b=some o->b≠X.env.locals:=λ b o e=>d1 (g0 (cb e) C.ok.above)
 have zU : ∀ b o,X.s₀.heap.get? b=some o->b∉X.ex->b∉ch:=λ b o e ae af=>by
  rcases (om b af).1 with z | z
  ·exact ae z
  ·exact absurd (g0 (cb e) z) (iW _)
 have cellK : ∀ x c,X.env.cells.lookup x=some c -> ∀ v,s.heap.IsCell c v->h'.IsCell c v:=λ x c e v ⟨o,a0,hd⟩=>by
  have w8:c∉ch:=λ z=>(om c z).2.2.1 x c e rfl
  by_cases aj:c∈X.ai
  ·obtain ⟨cZ,q⟩:=slot c o (C.se x c e) aj w8 a0 (C.ni x c e);exact ⟨_,q,hd⟩
  ·exact ⟨o,keep c o (C.se x c e) aj w8 a0 (C.ni x c e),hd⟩
 refine ⟨C.ok,C.os,aR,⟨λ b o e n af ae=>?_,λ b o e n af ae=>?_,λ b o e n ae=>?_,λ b o e ae=>?_,λ b xs e=>oN b xs (C.base.oN b xs e),λ b o xs e=>nc b o xs (C.base.nc b o xs e),λ b ps e=>?_⟩,?_,λ x c e=>?_,?_,λ x c e=>?_,λ p ao=>?_,bX,C.len⟩
 ·exact keep b o (JC b o e) af (zU b o e ae) (C.base.keep b o e n af ae) (C.base.free b o e n ae)
 ·obtain ⟨cZ,aJ⟩:=C.base.slot b o e n af ae;obtain ⟨Ui,aN⟩:=slot b _ (JC b o e) af (zU b o e ae) aJ (C.base.free b o e n ae);exact ⟨Ui,aN⟩
 ·obtain ⟨e0,aJ⟩:=C.base.there b o e ae;exact free b e0 (zU b o e ae) aJ (C.base.free b o e n ae)
 ·obtain ⟨e0,aJ⟩:=C.base.there b o e ae;exact there b e0 (zU b o e ae) aJ
 ·obtain ⟨hT,aJ⟩:=C.base.oM b ps e;obtain ⟨lZ,aN⟩:=oM b _ aJ;exact ⟨hT++lZ,by rw [aN,Array.append_assoc]⟩
 ·obtain ⟨m,az,ar⟩:=C.loc;refine ⟨m,ns m az,λ i x v aJ aN dT=>?_⟩;obtain ⟨u,r,l⟩:=ar i x v aJ aN dT;refine ⟨u,r,?_⟩;rcases l with l | ⟨k,c,e,z⟩
  ·exact .inl l
  ·exact .inr ⟨k,c,e,cellK x c e _ z⟩
 ·obtain ⟨v,z⟩:=C.cell x c e;exact ⟨v,cellK x c e v z⟩
 ·obtain ⟨m,⟨o,_,_,a0,_⟩,_⟩:=C.loc;exact free _ o (λ z=>(om _ z).2.1 rfl) a0 C.free
 ·obtain ⟨v,o,a0,hd⟩:=C.cell x c e;exact free c o (λ z=>(om c z).2.2.1 x c e rfl) a0 (C.ni x c e)
 ·obtain ⟨e,n,ne,tY,d⟩:=C.pin p ao;have w8:p.1∉ch:=λ z=>(om p.1 z).2.2.2 p ao rfl
  exact ⟨keep p.1 p.2 ne tY w8 e n,free p.1 p.2 w8 e n,ne,tY,d⟩
theorem Inv.un (C:Inv X pins σ H s) (u:g8 X.ai [] H H' s.heap h') (bX:fC X.prog X.w H' h'):Inv X pins σ H' { s with heap:=h',toks:=t' }:=by
 obtain ⟨m,⟨o,es,e7,a0,r⟩,_⟩:=id C.loc;obtain ⟨cZ,cc⟩:=u.any a0 C.free .zs;exact C.step (g':=s.gens) (d':=s.drawn) (ch:=[]) (λ _ z=>nomatch z) (λ b o _ af _ e n=>u.keep b o e n af .zs) (λ b o _ af _ e n=>u.slot b o e n af .zs) (λ b o _ e n=>u.free b o e n .zs) (λ b o _ e=>u.there b o e .zs) u.oN u.nc u.oM (λ cR hm=>by
  obtain ⟨e0,og,CO,pG,bU⟩:=hm;rw [a0] at pG;cases pG;exact ⟨_,og,CO,cc,bU⟩) bX C.bare
theorem Inv.call {g':Array GenState} {d':Drawn} (C:Inv X pins σ H s) (u:g8 (kI X.stack) ch H H' s.heap h') (bX:fC X.prog X.w H' h') (aR:AllBare g')
  (om : ∀ b∈ch,(b∈X.ex\/X.s₀.heap.objs.size<=b)/\b≠X.env.locals/\(∀ x c,X.env.cells.lookup x=some c->c≠b) /\ ∀ p∈X.hV++pins,p.1≠b) :
  Inv X pins σ H' { s with heap:=h',gens:=g',drawn:=d',toks:=t' }:=by
 obtain ⟨m,⟨o,es,e7,a0,r⟩,_⟩:=id C.loc;obtain ⟨cZ,cc⟩:=u.any a0 C.free λ z=>(om _ z).2.1 rfl
 exact C.step (ch:=ch) om (λ b o cc af aj e n=>u.keep b o e n (λ z=>(c8.mp (C.tg b z)).elim cc af) aj) (λ b o _ _ aj e n=>u.any e n aj) (λ b o aj e n=>u.free b o e n aj) (λ b o aj e=>u.there b o e aj) u.oN u.nc u.oM (λ cR hm=>by
  obtain ⟨e0,og,CO,pG,bU⟩:=hm;rw [a0] at pG;cases pG;exact ⟨_,og,CO,cc,bU⟩) bX aR
theorem Inv.turned (C:Inv X pins σ H s) (k : ∀ b o,b≠it->s.heap.get? b=some o->h'.get? b=some o) (az:H it=none) (cc:it≠X.env.locals)
  (I:it∈X.ex\/X.s₀.heap.objs.size<=it) (ah : ∀ x c,X.env.cells.lookup x=some c->c≠it) (aD : ∀ p∈X.hV++pins,p.1≠it):Inv X pins σ H { s with heap:=h',toks:=t' }:=by
 have qX : ∀ b u,H b=some u->b≠it:=λ b u e z=>by rw [z,az] at e;cases e
 refine C.step (g':=s.gens) (d':=s.drawn) (ch:=[it]) (λ b af=>?_) (λ b o _ _ aj e _=>k b o (λ z=>aj (by simp [z])) e) (λ b o _ _ aj e _=>⟨o.slots,k b o (λ z=>aj (by simp [z])) e⟩) (λ _ _ _ _ n=>n)
  (λ b o aj e=>⟨o,k b o (λ z=>aj (by simp [z])) e⟩) (λ _ _ e=>e) (λ _ _ _ e=>e) (λ b ps e=>⟨#[],by rw [e];simp⟩) (λ m hm=>?_) (λ b u e=>?_) C.bare
 ·have e:b=it:=by simpa using af
  subst e;exact ⟨I,cc,ah,aD⟩
 ·obtain ⟨o,es,e7,a0,r⟩:=hm;exact ⟨o,es,e7,k _ o (nt cc) a0,r⟩
 ·refine (C.bX b u e).hP (λ c v aj q=>k c v ?_ q) (λ _ q=>q) λ _ _ q=>q
  rcases aj with z | z
  ·rw [z];exact qX b u e
  ·exact qX c _ z
theorem Inv.tok (C:Inv X pins σ H s) (t:Nat):Inv X pins σ H { s with toks:=t }:=C.un (h':=s.heap) (t':=t) g8.refl C.bX
theorem Inv.kept (C:Inv X pins σ H s) (k : ∀ b u,s.heap.get? b=some u->h'.get? b=some u):Inv X pins σ H { s with heap:=h',toks:=t' }:=C.un (g8.kept k) (C.bX.kept k)
theorem Inv.laid {o:fy} (C:Inv X pins σ H s) (k : ∀ b u,s.heap.get? b=some u->h'.get? b=some u) (ao:s.heap.objs.size<=a) (new:fw X.prog X.w (upd H a o) h' a o) :
  Inv X pins σ (upd H a o) { s with heap:=h',toks:=t' }:=C.un (g8.laid k ao (C.bX.fresh ao)) (C.bX.laid k ao new)
theorem Inv.write {x e:Addr} {o:fy} (C:Inv X pins σ H s) (kx:wh (H x)) (he:e=x\/H e=some (.own x)) (k : ∀ b u,b≠e->s.heap.get? b=some u->h'.get? b=some u) (oq : ∃ u,h'.get? e=some u)
  (new:fw X.prog X.w (upd H x o) h' x o):Inv X pins σ (upd H x o) { s with heap:=h',toks:=t' }:=C.un (g8.write kx he k oq) (C.bX.write kx he k oq new)
theorem Inv.Mj {K2:eo} (C:Inv X pins σ H s) (h : ∀ p∈K2,s.heap.get? p.1=some p.2/\H p.1=none/\p.1≠X.env.locals/\p.1∉X.ai /\ ∀ v,p.2.data≠.cell v):Inv X K2 σ H s :=
 ⟨C.ok,C.os,C.bare,C.base,C.loc,C.cell,C.free,C.ni,λ p ao=>(iX.mp ao).elim (λ z=>C.pin p (EM _ z)) (h p),C.bX,C.len⟩
theorem M1 {N:cE} (d9:N.Nodup) {i j:Nat} {x:Str} (a:N[i]?=some x) (b:N[j]?=some x):i=j:=by
 obtain ⟨I,aJ⟩:=cL.mp a;obtain ⟨ah,aN⟩:=cL.mp b;exact (List.getElem_inj d9).mp (aJ.trans aN.symm)
theorem N_ {M:Model} {E:bY} {i:Nat} {x:Str} {v:V} {u:Value} {Q:Unit->Shared->Prop} (C:Inv X pins σ H s) (d9:X.N.Nodup) (aq:X.N[i]?=some x) (ae:Loc X.env.scope x) (r:RelV v u)
  (h : ∀ s',Inv X pins (σ.set i (some v)) H s'->(∃ a,Heap.SameBut a s.heap s'.heap/\(a=X.env.locals\/X.env.cells.lookup x=some a))->Q () s') (hf:X.fn x=true\/X.env.scope.names.lookup x=some .local:=by first | exact .inl rfl | exact .inr rfl | assumption):wpAny M A (storeName X.env x u) Q E s:=by
 obtain ⟨m,az,ar⟩:=id C.loc;have U1:(X.env.scope.kind == .class||(X.env.scope.kind == .module&&X.env.locals != X.env.globals))=false:=by rw [C.ok.kind];rfl
 have hiσ:i < σ.length:=by rw [C.len];exact (cL.mp aq).1
 have se:=C.se;have tracked : ∀ {a:Addr} {h':Heap},(∃ o,s.heap.get? a=some o/\H a=none)->Heap.SameBut a s.heap h'->fC X.prog X.w H h':=λ {a h'} au aF b da e=>by
  obtain ⟨_,_,KS⟩:=au;refine (C.bX b da e).hP (λ c gS aj q=>(aF.2 c ?_).trans q) (λ _ q=>q) λ _ _ q=>q
  rintro rfl;rcases aj with rfl | aj
  ·rw [KS] at e;cases e
  ·rw [KS] at aj;cases aj
 rcases ae with aE | aE
 ·refine wpAny_storeName_local aE az (λ h' Dn aF=>?_) U1;obtain ⟨QT,_,_,S7,_⟩:=id az;refine h _ ⟨C.ok,C.os,C.bare,⟨λ b o e n af ae=>?_,λ b o e n af ae=>?_,C.base.free,λ b o e ae=>?_,C.base.oN,C.base.nc,C.base.oM⟩,⟨_,Dn,λ j y iL aJ aN dT=>?_⟩,λ y c e=>?_,C.free,C.ni,λ p ao=>?_,tracked ⟨QT,S7,C.free⟩ aF,by simpa using C.len⟩ ⟨_,aF,.inl rfl⟩
  ·exact (aF.2 b (d1 (g0 (cb e) C.ok.above))).trans (C.base.keep b o e n af ae)
  ·obtain ⟨cZ,aJ⟩:=C.base.slot b o e n af ae;exact ⟨cZ,(aF.2 b (d1 (g0 (cb e) C.ok.above))).trans aJ⟩
  ·obtain ⟨e0,aJ⟩:=C.base.there b o e ae;exact ⟨e0,(aF.2 b (d1 (g0 (cb e) C.ok.above))).trans aJ⟩
  ·by_cases aY:j=i
   ·subst aY;rw [aq] at aJ;cases aJ;rw [nu hiσ] at aN;cases aN;exact ⟨u,r,.inl ⟨aE,.zs⟩⟩
   ·rw [mu (nt aY)] at aN;obtain ⟨i_,bU,q⟩:=ar j y iL aJ aN dT;refine ⟨i_,bU,?_⟩;rcases q with ⟨k,e⟩ | ⟨k,c,e,z⟩
    ·refine .inl ⟨k,?_⟩;have:y≠x:=λ e=>aY (M1 d9 aJ (e ▸ aq))
     simp [this,e]
    ·exact .inr ⟨k,c,e,z.sameBut aF (se y c e)⟩
  ·obtain ⟨gS,z⟩:=C.cell y c e;exact ⟨gS,z.sameBut aF (se y c e)⟩
  ·obtain ⟨e,n,ne,tY,d⟩:=C.pin p ao;exact ⟨(aF.2 p.1 ne).trans e,n,ne,tY,d⟩
 ·have Dd:X.fn x=true:=by
   rcases hf with z | z
   ·exact z
   ·rw [z] at aE;cases aE
  obtain ⟨c,aj⟩:=C.ok.has x (.inl aE);obtain ⟨gS,z⟩:=C.cell x c aj;refine wpAny_storeName_cell C.ok.kind aE aj z (λ h' dW aF=>?_);obtain ⟨g_,jB,Ve⟩:=id z;refine h { s with heap:=h' } ⟨C.ok,C.os,C.bare,⟨λ b o e n af ae=>?_,λ b o e n af ae=>?_,C.base.free,λ b o e ae=>?_,C.base.oN,C.base.nc,C.base.oM⟩,⟨m,az.sameBut aF (nt (se x c aj)),λ j y iL aJ aN dT=>?_⟩,λ y bG e=>?_,C.free,C.ni,λ p ao=>?_,tracked ⟨g_,jB,C.ni x c aj⟩ aF,by simpa using C.len⟩ ⟨c,aF,.inr aj⟩
  ·exact (aF.2 b (d1 (g0 (cb e) (C.ok.wt x c Dd aj)))).trans (C.base.keep b o e n af ae)
  ·obtain ⟨cZ,aJ⟩:=C.base.slot b o e n af ae;exact ⟨cZ,(aF.2 b (d1 (g0 (cb e) (C.ok.wt x c Dd aj)))).trans aJ⟩
  ·obtain ⟨e0,aJ⟩:=C.base.there b o e ae;exact ⟨e0,(aF.2 b (d1 (g0 (cb e) (C.ok.wt x c Dd aj)))).trans aJ⟩
  ·by_cases aY:j=i
   ·subst aY;rw [aq] at aJ;cases aJ;rw [nu hiσ] at aN;cases aN;exact ⟨u,r,.inr ⟨.inl aE,c,aj,dW⟩⟩
   ·rw [mu (nt aY)] at aN;obtain ⟨i_,bU,q⟩:=ar j y iL aJ aN dT;refine ⟨i_,bU,?_⟩;rcases q with q | ⟨k,bG,e,fh⟩
    ·exact .inl q
    ·refine .inr ⟨k,bG,e,fh.sameBut aF ?_⟩;rintro rfl;exact aY (M1 d9 aJ (C.ok.inj _ _ _ e aj ▸ aq))
  ·by_cases sq:bG=c
   ·subst sq;exact ⟨_,dW⟩
   ·obtain ⟨hs,eV⟩:=C.cell y bG e;exact ⟨hs,eV.sameBut aF sq⟩
  ·obtain ⟨e,n,ne,tY,d⟩:=C.pin p ao;refine ⟨(aF.2 p.1 ?_).trans e,n,ne,tY,d⟩;intro q;rw [q,jB] at e;have bh:g_=p.2:=eA e;exact d gS (by rw [<-bh];exact Ve)
theorem Nm {M:Model} {E:bY} {i:Nat} {x:Str} {v:V} {u:Value} {Q:Unit->Shared->Prop} (C:Inv X pins σ H s) (d9:X.N.Nodup) (aq:X.N[i]?=some x) (ae:Loc X.env.scope x) (r:RelV v u)
  (h : ∀ s',Inv X pins (σ.set i (some v)) H s'->Q () s') (hf:X.fn x=true\/X.env.scope.names.lookup x=some .local:=by first | exact .inl rfl | exact .inr rfl | assumption):wpAny M A (storeName X.env x u) Q E s :=
 N_ C d9 aq ae r (λ s' nT _=>h s' nT) hf
theorem Inv.KO {s':Shared} (C:Inv X pins σ H s) (a0:s'.os=s.os) (u:g8 (kI X.stack) ch H H' s.heap s'.heap) (bX:fC X.prog X.w H' s'.heap) (aR:AllBare s'.gens)
  (om : ∀ b∈ch,(b∈X.ex\/X.s₀.heap.objs.size<=b)/\b≠X.env.locals/\(∀ x c,X.env.cells.lookup x=some c->c≠b) /\ ∀ p∈X.hV++pins,p.1≠b):Inv X pins σ H' s':=by
 obtain ⟨h',g',d',t',e0⟩:=s';have e:e0=s.os:=a0;subst e;exact C.call (g':=g') (t':=t') (d':=d') u bX aR om
end
noncomputable abbrev jQ:=Value->Option Addr->aA->Prop
noncomputable abbrev St:=List (Option V)
noncomputable abbrev bN:=V->aA->Prop
noncomputable abbrev TE:=St->aA->bN->Prop
noncomputable abbrev TT:=St->aA->(Bool->aA->Prop)->Prop
noncomputable abbrev dh:=St->aA->(List V->aA->Prop)->Prop
structure Ends where
 bO:St->aA->Prop
 l1:bN
 eL:St->aA->Prop:=λ _ _=>False
 cO:St->aA->Prop:=λ _ _=>False
noncomputable abbrev eK:=Ends->St->aA->Prop
noncomputable def hl (X:a7) (pins:eo) (σ:St) (Q:bN) (u:Value) (s':Shared):Prop := ∃ v H',Inv X pins σ H' s'/\RelV v u/\Q v H'
noncomputable def BW (X:a7) (pins:eo) (σ:St) (Q:Bool->aA->Prop) (b:Bool) (s':Shared):Prop := ∃ H',Inv X pins σ H' s'/\Q b H'
noncomputable def Qf (X:a7) (pins:eo) (σ:St) (Q:List V->aA->Prop) (us:List Value) (s':Shared):Prop := ∃ ag H',Inv X pins σ H' s'/\Vals ag us/\Q ag H'
noncomputable def qy (X:a7) (pins:eo) (D:Ends) (f:Flow) (s':Shared):Prop :=
 match f with
 | .next => ∃ σ' H',Inv X pins σ' H' s'/\D.bO σ' H'
 | .brk => ∃ σ' H',Inv X pins σ' H' s'/\D.eL σ' H'
 | .cont => ∃ σ' H',Inv X pins σ' H' s'/\D.cO σ' H'
 | .ret u => ∃ v σ' H',Inv X pins σ' H' s'/\RelV v u/\D.l1 v H'
noncomputable def cG (X:a7) (e:Expr) (t:TE):Prop :=
 ∀ (pins:eo) (s:Shared) (σ:St) (H:aA) (Q:bN),Inv X pins σ H s->t σ H Q->wpAny (model X.prog X.w) X.A (eval e X.env) (hl X pins σ Q) X.dB s
noncomputable def ks (X:a7) (e:Expr) (t:TT):Prop :=
 ∀ (pins:eo) (s:Shared) (σ:St) (H:aA) (Q:Bool->aA->Prop),Inv X pins σ H s->t σ H Q->wpAny (model X.prog X.w) X.A (isTrue e X.env (eval e X.env)) (BW X pins σ Q) X.dB s
noncomputable def nW (X:a7) (e:Expr) (t:TT):Prop :=
 ∀ (whole:Sem Value) (pins:eo) (s:Shared) (σ:St) (H:aA) (Q:Bool->aA->Prop),Inv X pins σ H s->t σ H Q->wpAny (model X.prog X.w) X.A (isTrue e X.env whole) (BW X pins σ Q) X.dB s
theorem nW.pt {X:a7} {e:Expr} {t:TT} (h:nW X e t):ks X e t:=h _
noncomputable def hS (X:a7) (es:List Expr) (t:dh):Prop :=
 ∀ (pos:Pos) (pins:eo) (s:Shared) (σ:St) (H:aA) (Q:List V->aA->Prop),Inv X pins σ H s->t σ H Q->wpAny (model X.prog X.w) X.A (spliced (backTo pos (starEach es X.env))) (Qf X pins σ Q) X.dB s
noncomputable def kr (X:a7) (st:Stmt) (t:eK):Prop :=
 ∀ (pins:eo) (s:Shared) (σ:St) (H:aA) (D:Ends),Inv X pins σ H s->t D σ H->wpAny (model X.prog X.w) X.A (exec st X.env) (qy X pins D) X.dB s
noncomputable def kF (X:a7) (st:List Stmt) (t:eK):Prop :=
 ∀ (pins:eo) (s:Shared) (σ:St) (H:aA) (D:Ends),Inv X pins σ H s->t D σ H->wpAny (model X.prog X.w) X.A (execs st X.env) (qy X pins D) X.dB s
theorem bQ {α: Type} {t:Sem α} {Q qx: α -> Shared->Prop} {M:Model} {E:bY} (h:wpAny M A t Q E s) (fp : ∀ a s,Q a s->qx a s):wpAny M A t qx E s:=mv h fp λ _ _ x=>x
section
variable {X:a7}
noncomputable def El (i:Nat):TE:=λ σ H Q => ∃ v,σ[i]?=some (some v)/\Q v H
noncomputable def jU (v:V):TE:=λ _ H Q=>Q v H
theorem Xl {i:Nat} {x:Str} {pos:Pos} (d9:X.N[i]?=some x) (bl:zj X.env.scope x) (hd:(x == ("__debug__" : Str))=false:=by decide) (lu:(x == ("__classdict__" : Str))=false:=by decide):cG X (.Name x pos) (El i):=by
 intro pins s σ H Q C h;obtain ⟨v,e,h⟩:=h;obtain ⟨m,az,ar⟩:=C.loc;obtain ⟨u,r,l⟩:=ar i x v d9 e bl;have fin:hl X pins σ Q u s:=⟨v,H,C,r,h⟩
 rcases l with ⟨aE,hm⟩ | ⟨aE,c,aj,KR⟩
 ·exact wpAny_Name (wpAny_loadName_local C.ok.kind aE az hm fin) hd
 ·rcases aE with aE | aE
  ·exact wpAny_Name (wpAny_loadName_cell C.ok.kind aE aj KR fin) hd
  ·exact wpAny_Name (wpAny_loadName_free C.ok.kind aE aj KR fin lu) hd
theorem Xe {i j pos}:cG X (.Constant (.int i) j pos) (jU (.int i)):=λ _ _ _ H _ C h=>wpAny_Constant_int ⟨.int i,H,C.tok _,⟨_,rfl⟩,h⟩
theorem Wh {b j pos}:cG X (.Constant (.bool b) j pos) (jU (.aH b)):=λ _ _ _ H _ C h=>Constant_bool ⟨.aH b,H,C,rfl,h⟩
theorem Xg {j pos}:cG X (.Constant .none j pos) (jU .cV):=λ _ _ _ H _ C h=>Constant_none ⟨.cV,H,C,rfl,h⟩
theorem Xj {x j pos}:cG X (.Constant (.str x) j pos) (jU (.str x)):=λ _ _ _ H _ C h=>Calls.Constant_str ⟨.str x,H,C.tok _,⟨_,rfl⟩,h⟩
noncomputable def d6 (X:a7) (x:Str):Prop:=X.env.kindOf x=some .globalImplicit
theorem FC {E:bY} {σ:St} {H:aA} {x:Str} {u:Value} {pos:Pos} {Q:bY} (C:Inv X pins σ H s) (aR:d6 X x) (hm:X.ax x=some u) (h:Q u s)
  (hd:(x == ("__debug__" : Str))=false:=by decide):wpAny (model X.prog X.w) X.A (eval (.Name x pos) X.env) Q E s :=
 Calls.Name_function_global C.ok.kind aR (Calls.loadGlobal_global (by rw [C.ok.glob];exact C.mod.glob.keeps C.eL) hm h) hd
theorem lE {E:bY} {σ:St} {H:aA} {x:Str} {u:Value} {pos:Pos} {Q:bY} (C:Inv X pins σ H s) (aR:d6 X x) (hm:X.ax x=none) (bl:bootBuiltins x=some u) (h:Q u s)
  (az:x ≠ "__name__" := by decide) (hd:(x == ("__debug__" : Str))=false:=by decide):wpAny (model X.prog X.w) X.A (eval (.Name x pos) X.env) Q E s:=by
 obtain ⟨l0,I,ah⟩:=C.mod.blt;exact Calls.Name_function_global C.ok.kind aR (Calls.loadGlobal_builtin (by rw [C.ok.glob];exact C.mod.glob.keeps C.eL) hm (by rw [C.ok.blt];exact I.keeps C.eL) ((ah x az).trans bl) h) hd
theorem Mh {x:Str} {v:V} {u:Value} {pos:Pos} (aR:d6 X x) (hm:X.ax x=some u) (r:RelV v u) (hd:(x == ("__debug__" : Str))=false:=by decide):cG X (.Name x pos) (jU v) :=
 λ _ _ _ H _ C h=>FC C aR hm ⟨v,H,C,r,h⟩ hd
theorem Yu {x:Str} {v:V} {u:Value} {pos:Pos} (aR:d6 X x) (hm:X.ax x=none) (bl:bootBuiltins x=some u) (r:RelV v u) (az:x ≠ "__name__" := by decide) (hd:(x == ("__debug__" : Str))=false:=by decide):cG X (.Name x pos) (jU v) :=
 λ _ _ _ H _ C h=>lE C aR hm bl ⟨v,H,C,r,h⟩ az hd
variable {a b:Expr} {bq tb:TE} {pos:Pos}
noncomputable def Ih (t:TE):TT:=λ σ H Q=>t σ H λ x H1 => ∃ c,x=.aH c/\Q c H1
theorem Xv {e:Expr} {t:TE} (h:cG X e t) (he : ∀ whole,isTrue e X.env whole=(do let v ← whole;standAt e.pos;holding [v] (truthy v)):=by intro _;rfl):ks X e (Ih t):=by
 intro pins s σ H Q C hw;refine isTrue_plain (bQ (h pins s σ H _ C hw) λ v s1 ⟨x,H1,bg,bV,ba⟩=>?_) (he _);obtain ⟨d,rfl,q⟩:=ba;cases bV;exact s_ ⟨H1,bg,q⟩
variable {gQ q2:TT}
noncomputable def Ky (t u:TT):TT:=λ σ H Q=>t σ H λ c H1=>if c=true then u σ H1 Q else Q false H1
noncomputable def JV (t u:TT):TT:=λ σ H Q=>t σ H λ c H1=>if c=true then Q true H1 else u σ H1 Q
noncomputable def KD (t:TT):TT:=λ σ H Q=>t σ H λ c H1=>Q (!c) H1
theorem YN (au:ks X a gQ):nW X (.BoolOp .And [a] pos) gQ:=by
 intro v_ pins s σ H Q C h;refine isTrue_and (bQ (au pins s σ H Q C h) λ c s1 e=>?_);cases c with
 | true=>exact isTrue_and_nil e
 | false=>exact e
theorem Xx (au:ks X a gQ):nW X (.BoolOp .Or [a] pos) gQ:=by
 intro v_ pins s σ H Q C h;refine isTrue_or (bQ (au pins s σ H Q C h) λ c s1 e=>?_);cases c with
 | false=>exact isTrue_or_nil e
 | true=>exact e
theorem Xw (au:ks X a gQ) (af:nW X (.BoolOp .And (b::rest) pos) q2):nW X (.BoolOp .And (a::b::rest) pos) (Ky gQ q2):=by
 intro v_ pins s σ H Q C h;refine isTrue_and (bQ (au pins s σ H _ C h) λ c s1 ⟨H1,bg,ba⟩=>?_);cases c with
 | true=>exact af v_ pins s1 σ H1 Q bg ba
 | false=>exact ⟨H1,bg,ba⟩
theorem Wo (au:ks X a gQ) (af:nW X (.BoolOp .Or (b::rest) pos) q2):nW X (.BoolOp .Or (a::b::rest) pos) (JV gQ q2):=by
 intro v_ pins s σ H Q C h;refine isTrue_or (bQ (au pins s σ H _ C h) λ c s1 ⟨H1,bg,ba⟩=>?_);cases c with
 | true=>exact ⟨H1,bg,ba⟩
 | false=>exact af v_ pins s1 σ H1 Q bg ba
theorem Xu (au:ks X a gQ):ks X (.UnaryOp .Not a pos) (KD gQ):=by
 intro pins s σ H Q C h;exact isTrue_not (au pins s σ H (λ c H1=>Q (!c) H1) C h)
noncomputable def K6 (bq tb:TE):TE:=λ σ H Q=>bq σ H λ x H1 => ∃ c,x=.aH c/\if c=true then tb σ H1 Q else Q (.aH false) H1
noncomputable def K_ (bq:TE):TE:=λ σ H Q=>bq σ H λ x H1 => ∃ c,x=.aH c/\Q (.aH (!c)) H1
theorem Xi {op} {t:TE} (h:cG X a t):cG X (.BoolOp op [a] pos) t:=λ pins s σ H Q C hw=>BoolOp_one (h pins s σ H Q C hw)
theorem Xd (au:cG X a bq) (af:cG X (.BoolOp .And (b::rest) pos) tb):cG X (.BoolOp .And (a::b::rest) pos) (K6 bq tb):=by
 intro pins s σ H Q C h;refine BoolOp_and (bQ (au pins s σ H _ C h) λ v s1 ⟨x,H1,bg,bV,ba⟩=>?_);obtain ⟨c,rfl,ba⟩:=ba;cases bV;refine s_ ?_;cases c with
 | true=>exact af pins s1 σ H1 Q bg ba
 | false=>exact ⟨.aH false,H1,bg,rfl,ba⟩
theorem Xh (au:cG X a bq):cG X (.UnaryOp .Not a pos) (K_ bq):=by
 intro pins s σ H Q C h;refine UnaryOp_ (bQ (au pins s σ H _ C h) λ v s1 ⟨x,H1,bg,bV,ba⟩=>?_);obtain ⟨c,rfl,ba⟩:=ba;cases bV;exact not_of (s_ ⟨.aH (!c),H1,bg,rfl,ba⟩)
noncomputable def JU (t:TT) (bq tb:TE):TE:=λ σ H Q=>t σ H λ c H1=>if c=true then bq σ H1 Q else tb σ H1 Q
theorem ZY {c:Expr} (aj:ks X c gQ) (au:cG X a bq) (af:cG X b tb):cG X (.IfExp c a b pos) (JU gQ bq tb):=by
 intro pins s σ H Q C h;refine wpAny_IfExp (bQ (aj pins s σ H _ C h) λ d s1 ⟨H1,bg,ba⟩=>?_);cases d with
 | true=>exact au pins s1 σ H1 Q bg ba
 | false=>exact af pins s1 σ H1 Q bg ba
end
noncomputable def aQ (K:dc) (H:aA) (a:Addr) (xs:List V):Prop :=
 o4 H a (.lst xs) \/
  ∃ (o:Obj) (its:cn) (n:Nat),K.lookup a=some o/\o.cls=.type "list" /\ o.dict=none/\o.data=.seq its n/\its.size<=sizeLine/\Vals xs its.toList
noncomputable def aP (K:dc) (H:aA) (a:Addr) (xs:List V):Prop :=
 o4 H a (.tup xs) \/
  ∃ (o:Obj) (its:cn) (n:Nat),K.lookup a=some o/\o.cls=.type "tuple" /\ o.data=.seq its n/\its.size<=sizeLine/\Vals xs its.toList
noncomputable def UH:Value->Option V
 | .none=>some .cV
 | .bool b=>some (.aH b)
 | .int i _=>some (.int i)
 | .str x _=>some (.str x)
 | .bytes b _=>some (.l6 b)
 | .float b _=>some (.si b)
 | .ref a=>some (.ref a)
 | .type n=>some (.ty n)
 | _=>none
theorem RelV.abs {x:V} {u:Value} (r:RelV x u):UH u=some x:=by
 cases x with
 | cV=>cases r;rfl
 | aH _=>cases r;rfl
 | int _=>obtain ⟨t,rfl⟩:=r;rfl
 | str _=>obtain ⟨t,rfl⟩:=r;rfl
 | l6 _=>obtain ⟨t,rfl⟩:=r;rfl
 | si _=>obtain ⟨t,rfl⟩:=r;rfl
 | ref _=>cases r;rfl
 | ty _=>cases r;rfl
theorem RelV.inj {x y:V} {u:Value} (r:RelV x u) (q:RelV y u):x=y:=eA (r.abs.symm.trans q.abs)
theorem Vals.inj : ∀ {xs ys:List V} {us:List Value},Vals xs us->Vals ys us->xs=ys
 | _,_,_,.nil,.nil=>rfl
 | _,_,_,.cons r t,.cons bU t'=>by rw [r.inj bU,Vals.inj t t']
section
variable {X:a7} {σ:St} {H:aA} {xs ys:List V}
theorem aQ.of (h:H a=some (.lst xs)):aQ K H a xs:=.inl (.inl h)
theorem aP.of (h:H a=some (.tup xs)):aP K H a xs:=.inl (.inl h)
theorem Inv.list (C:Inv X pins σ H s) (h:aQ X.K H a xs) : ∃ its:List Value,Vals xs its/\PlainL s.heap a its.toArray/\xs.length<=sizeLine:=by
 rcases h with h | ⟨o,its,n,aE,aj,hd,aF,aS,r⟩
 ·obtain ⟨z,its,n,r,e⟩:=h.ok C.bX;exact ⟨its,r,⟨_,n,e,rfl,rfl,rfl⟩,z⟩
 ·refine ⟨its.toList,r,⟨o,n,C.iO a o aE,aj,hd,by simpa using aF⟩,?_⟩;have e:=r.length;simp only [mw] at e;omega
theorem Inv.tuple (C:Inv X pins σ H s) (h:aP X.K H a xs) : ∃ its:List Value,Vals xs its/\IsTup s.heap a its.toArray/\xs.length<=sizeLine:=by
 rcases h with h | ⟨o,its,n,aE,aj,aF,aS,r⟩
 ·obtain ⟨z,its,r,p⟩:=h.ok C.bX;exact ⟨its,r,p.up,z⟩
 ·refine ⟨its.toList,r,⟨o,C.iO a o aE,aj,n,by simpa using aF⟩,?_⟩;have e:=r.length;simp only [mw] at e;omega
theorem Inv.MW (C:Inv X pins σ H s) (h:aQ X.K H a xs) (h':aQ X.K H a ys):xs=ys:=by
 obtain ⟨its,r,⟨o,n,e,_,_,d⟩,_⟩:=C.list h;obtain ⟨its',bU,⟨e0,cD,bF,_,_,d'⟩,_⟩:=C.list h';rw [e] at bF;cases bF;rw [d] at d';injection d' with mN _;have:its=its':=by simpa using h3 Array.toList mN
 subst this;exact r.inj bU
theorem Inv.vB (C:Inv X pins σ H s) (h:aP X.K H a xs) (h':aP X.K H a ys):xs=ys:=by
 obtain ⟨its,r,⟨o,e,_,n,d⟩,_⟩:=C.tuple h;obtain ⟨its',bU,⟨e0,bF,_,cD,d'⟩,_⟩:=C.tuple h';rw [e] at bF;cases bF;rw [d] at d';injection d' with mN _;have:its=its':=by simpa using h3 Array.toList mN
 subst this;exact r.inj bU
end
noncomputable abbrev a7.oO (X:a7) (E:bY):a7:={ X with dB:=E }
noncomputable abbrev a7.xb (X:a7):a7:=X.oO λ _ _=>False
theorem a7.Ok.oO {X:a7} (ok:X.Ok) (E:bY):(X.oO E).Ok :=
 ⟨ok.mod,ok.kind,ok.glob,ok.blt,ok.above,ok.inj,ok.has,ok.wt,ok.hd,ok.frames,ok.z0,ok.IC,ok.bs,ok.oe,ok.uH,ok.Ab,ok.nd,ok.ub⟩
theorem a7.Ok.rp {X:a7} {E:bY} (ok:(X.oO E).Ok):X.Ok :=
 ⟨ok.mod,ok.kind,ok.glob,ok.blt,ok.above,ok.inj,ok.has,ok.wt,ok.hd,ok.frames,ok.z0,ok.IC,ok.bs,ok.oe,ok.uH,ok.Ab,ok.nd,ok.ub⟩
section
variable {X:a7} {σ:St} {H:aA} {E:bY}
theorem Inv.oO (C:Inv X pins σ H s) (E:bY):Inv (X.oO E) pins σ H s:=⟨C.ok.oO E,C.os,C.bare,C.base,C.loc,C.cell,C.free,C.ni,C.pin,C.bX,C.len⟩
theorem Inv.rp (C:Inv (X.oO E) pins σ H s):Inv X pins σ H s:=⟨C.ok.rp,C.os,C.bare,C.base,C.loc,C.cell,C.free,C.ni,C.pin,C.bX,C.len⟩
theorem qy.rp {D:Ends} {f:Flow} {s':Shared} (h:qy (X.oO E) pins D f s'):qy X pins D f s':=by
 cases f with
 | next=>obtain ⟨σ',H',C,q⟩:=h;exact ⟨σ',H',C.rp,q⟩
 | brk=>obtain ⟨σ',H',C,q⟩:=h;exact ⟨σ',H',C.rp,q⟩
 | cont=>obtain ⟨σ',H',C,q⟩:=h;exact ⟨σ',H',C.rp,q⟩
 | ret u=>obtain ⟨v,σ',H',C,r,q⟩:=h;exact ⟨v,σ',H',C.rp,r,q⟩
theorem kF.xb {st:List Stmt} {t:eK} (h:kF X.xb st t):kF X st t:=λ pins s σ H D C hw =>
 mv (h pins s σ H D (C.oO _) hw) (λ _ _ q=>q.rp) λ _ _ z=>False.elim z
end
section
variable {X:a7} {rest:List Stmt} {t u:eK} {e:Expr} {a4:TE} {pos:Pos}
noncomputable def K9:eK:=λ D σ H=>D.bO σ H
noncomputable def KH (t u:eK):eK:=λ D σ H=>t { D with bO:=u D } σ H
theorem YI:kF X [] K9:=λ _ _ σ H _ C h=>AF ⟨σ,H,C,h⟩
theorem Z8 (I:kr X st t) (ah:kF X rest u):kF X (st::rest) (KH t u):=by
 intro pins s σ H D C h;refine wpAny_execs_cons (bQ (I pins s σ H { D with bO:=u D } C h) λ f s1 q=>?_);cases f with
 | next =>
  obtain ⟨σ',H',nT,q⟩:=q;exact ah pins s1 σ' H' D nT q
 | ret v=>exact q
 | brk=>exact q
 | cont=>exact q
theorem YJ (I:kr X st t):kF X [st] t:=by
 intro pins s σ H D C h;refine wpAny_execs_cons (bQ (I pins s σ H D C h) λ f s1 q=>?_);cases f with
 | next=>exact AF q
 | ret v=>exact q
 | brk=>exact q
 | cont=>exact q
theorem Inv.quiet {σ:St} {H:aA} (C:Inv X pins σ H s):interactive X.env=false:=by simp [interactive,C.ok.kind]
noncomputable def K8 (a4:TE):eK:=λ D σ H=>a4 σ H λ _ H1=>D.bO σ H1
theorem YG (he:cG X e a4) (aF:swapsWith e none pos.line X.env=pure false:=by rfl):kr X (.Expr e pos) (K8 a4):=by
 intro pins s σ H D C h;exact wpAny_Expr_any (bQ (he pins s σ H _ C h) λ v s1 ⟨x,H1,bg,bV,ba⟩=>⟨σ,H1,bg,ba⟩) C.quiet aF
noncomputable def KG (a4:TE):eK:=λ D σ H=>a4 σ H D.l1
theorem Xs (he:cG X e a4):kr X (.Return (some e) pos) (KG a4):=by
 intro pins s σ H D C h;exact wpAny_Return_some (bQ (he pins s σ H _ C h) λ v s1 ⟨x,H1,bg,bV,ba⟩=>⟨x,σ,H1,bg,bV,ba⟩)
noncomputable def KA (c:TT) (t u:eK):eK:=λ D σ H=>c σ H λ b H1=>if b=true then t D σ H1 else u D σ H1
theorem Wn {c:Expr} {a b:List Stmt} {dx:TT} (aj:ks X c dx) (au:kF X a t) (af:kF X b u):kr X (.If c a b pos) (KA dx t u):=by
 intro pins s σ H D C h;refine wpAny_If (bQ (aj pins s σ H _ C h) λ d s1 ⟨H1,bg,ba⟩=>?_);cases d with
 | true=>exact au pins s1 σ H1 D bg ba
 | false=>exact af pins s1 σ H1 D bg ba
noncomputable def LG:eK:=λ _ _ _=>False
theorem Z6:kr X st LG:=λ _ _ _ _ _ _ h=>h.elim
end
noncomputable abbrev iD:=V->St->aA->(St->aA->Prop)->Prop
noncomputable abbrev mX:=List V->St->aA->(St->aA->Prop)->Prop
noncomputable def mM (X:a7) (target:Expr) (t:iD):Prop :=
 ∀ (pins:eo) (s:Shared) (σ:St) (H:aA) (v:V) (u:Value) (Q:St->aA->Prop),Inv X pins σ H s->RelV v u->t v σ H Q ->
  wpAny (model X.prog X.w) X.A (assign target X.env u) (λ _ s' => ∃ σ' H',Inv X pins σ' H' s'/\Q σ' H') X.dB s
noncomputable def wi (X:a7) (cT:List Expr) (t:mX):Prop :=
 ∀ (pins:eo) (s:Shared) (σ:St) (H:aA) (ag:List V) (us:List Value) (Q:St->aA->Prop),Inv X pins σ H s->Vals ag us->t ag σ H Q ->
  wpAny (model X.prog X.w) X.A (assignInOrder ((assignEach cT X.env).map (·.2)) us) (λ _ s' => ∃ σ' H',Inv X pins σ' H' s'/\Q σ' H') X.dB s
noncomputable abbrev uE:=V->V->V->aA->(aA->Prop)->Prop
noncomputable def Aa (X:a7) (t:uE):Prop :=
 ∀ (pins:eo) (s:Shared) (σ:St) (H:aA) (o i v:V) (eO d4 u:Value) (Q:aA->Prop),Inv X pins σ H s->RelV o eO->RelV i d4->RelV v u->t o i v H Q ->
  wpAny (model X.prog X.w) X.A (setItem eO d4 u) (λ _ s' => ∃ H',Inv X pins σ H' s'/\Q H') X.dB s
noncomputable abbrev zh:=V->V->aA->bN->Prop
noncomputable def Iv (X:a7) (op:Operator) (t:zh):Prop :=
 ∀ (pins:eo) (s:Shared) (σ:St) (H:aA) (x y:V) (v u:Value) (Q:bN),Inv X pins σ H s->RelV x v->RelV y u->t x y H Q ->
  wpAny (model X.prog X.w) X.A (inplaceOp op v u) (hl X pins σ Q) X.dB s
section
variable {X:a7} {pos:Pos}
noncomputable def e4 (i:Nat):iD:=λ v σ H Q=>Q (σ.set i (some v)) H
theorem Yy {i:Nat} {x:Str} (d9:X.N.Nodup) (aq:X.N[i]?=some x) (ae:Loc X.env.scope x) (hf:X.fn x=true\/X.env.scope.names.lookup x=some .local:=by first | exact .inl rfl | exact .inr rfl | assumption):mM X (.Name x pos) (e4 i):=by
 intro pins s σ H v u Q C r h;exact wpAny_assign_Name (Nm C d9 aq ae r (λ s' nT=>⟨_,H,nT,h⟩) hf)
noncomputable def oG:mX:=λ ag σ H Q=>ag=[]/\Q σ H
noncomputable def iV (t:iD) (u:mX):mX:=λ ag σ H Q => ∃ v r,ag=v::r/\t v σ H λ σ' H'=>u r σ' H' Q
theorem Yz:wi X [] oG:=by
 intro pins s σ H ag us Q C r h;obtain ⟨e,h⟩:=h;subst e;cases r;exact assignInOrder_nil ⟨σ,H,C,h⟩
theorem Z0 {e:Expr} {es:List Expr} {t:iD} {u:mX} (I:mM X e t) (ah:wi X es u)
  (aF:(assignEach (e::es) X.env).map (·.2)=assign e X.env::(assignEach es X.env).map (·.2):=by rfl):wi X (e::es) (iV t u):=by
 intro pins s σ H ag us Q C r h;obtain ⟨v,aeR,aJ,h⟩:=h;subst aJ;cases r with
 | cons r qI =>
  rw [aF];refine assignInOrder_cons (bQ (I pins s σ H _ _ _ C r h) λ _ s1 ⟨σ1,H1,bg,ba⟩=>?_);exact ah pins s1 σ1 H1 _ _ Q bg qI ba
noncomputable def nf (K:dc) (n:Nat) (t:mX):iD:=λ v σ H Q => ∃ a xs,v=.ref a/\aP K H a xs/\xs.length=n/\t xs σ H Q
theorem Xn {es:List Expr} {k:Nat} {t:mX} (aj:X.warm=true) (h:wi X es t)
  (az:(assignEach es X.env).length=n:=by rfl) (dk:(assignEach es X.env).findIdx? (·.1)=none:=by rfl):mM X (.Tuple es k pos) (nf X.K n t):=by
 intro pins s σ H v u Q C r hw;obtain ⟨a,xs,aJ,aK,ar,hw⟩:=hw;subst aJ;cases r;obtain ⟨its,cM,aW,aS⟩:=C.tuple aK;refine gu.aat (C.j3 aj) aW (by simp [az,<-ar,cM.length]) dk λ h' ae=>?_
 have bg:Inv X pins σ H { s with heap:=h' }:=C.kept (t':=s.toks) λ b o e=>ae b o (d1 (cb e)) e
 exact h pins _ σ H xs _ Q bg (by simpa using cM) hw
noncomputable def Kd (to iJ:TE) (t:uE):iD:=λ v σ H Q=>to σ H λ o H1=>iJ σ H1 λ i ay=>t o i v ay λ aM=>Q σ aM
theorem Xm {o i:Expr} {to iJ:TE} {t:uE} (a0:cG X o to) (aq:cG X i iJ) (aF:Aa X t)
  (au : ∀ v,assign (.Subscript o i pos) X.env v=(do
   let eO ← holding [v] (eval o X.env)
   let d4 ← holding [v,eO] (eval i X.env)
   standAt pos
   holding [v,eO,d4] (setItem eO d4 v)
   release [v,eO,d4] []):=by intro _;rfl):mM X (.Subscript o i pos) (Kd to iJ t):=by
 intro pins s σ H v u Q C r h;rw [au];refine aI (kg (bQ (a0 pins s σ H _ C h) λ eO s1 ⟨x,H1,bg,bV,ba⟩=>?_));refine aI (kg (bQ (aq pins s1 σ H1 _ bg ba) λ d4 s2 ⟨y,ay,dd,cu,cm⟩=>?_));refine aI (xU (aI (kg (bQ (aF pins s2 σ ay x y v eO d4 u _ dd bV cu r cm) λ _ s3 ⟨aM,cU,gP⟩=>?_))));exact wpAny_release ⟨σ,aM,cU,gP⟩
noncomputable def p5 (a4:TE) (g:iD):eK:=λ D σ H=>a4 σ H λ x H1=>g x σ H1 D.bO
theorem Xq {a_ e:Expr} {a4:TE} {g:iD} (he:cG X e a4) (aR:mM X a_ g) (aF:swapsWithSole [a_] e pos.line X.env=pure false:=by rfl) (hw:swappedStores [a_] e X.env=pure none:=by rfl)
  (I:(assignEach [a_] X.env).map (·.2)=[assign a_ X.env]:=by rfl):kr X (.Assign [a_] e pos) (p5 a4 g):=by
 intro pins s σ H D C h;refine wpAny_Assign_stores (bQ (he pins s σ H _ C h) λ v s1 ⟨x,H1,bg,bV,ba⟩=>?_) aF hw;rw [I];exact bQ (aR pins s1 σ H1 x v _ bg bV ba) λ _ s2 q=>q
theorem Xt {i:Nat} {x:Str} {e:Expr} {a4:TE} (d9:X.N.Nodup) (aq:X.N[i]?=some x) (ae:Loc X.env.scope x) (he:cG X e a4) (aF:swapsWith e (some (.Name x pos')) pos.line X.env=pure false:=by rfl) (hf:X.fn x=true\/X.env.scope.names.lookup x=some .local:=by first | exact .inl rfl | exact .inr rfl | assumption) :
  kr X (.Assign [.Name x pos'] e pos) (p5 a4 (e4 i)):=by
 intro pins s σ H D C h;refine wpAny_Assign_Name (bQ (he pins s σ H _ C h) λ v s1 ⟨y,H1,bg,bV,ba⟩=>?_) aF;exact Nm bg d9 aq ae bV (λ s2 dd=>⟨_,H1,dd,ba⟩) hf
noncomputable def K7 (to iJ a4:TE) (Aq:V->V->aA->bN->Prop) (z2:zh) (Ar:uE):eK:=λ D σ H=>to σ H λ o H1=>iJ σ H1 λ i ay=>Aq o i ay λ x aM=>a4 σ aM λ y aO=>z2 x y aO λ z bj=>Ar o i z bj λ cY=>D.bO σ cY
noncomputable def J_ (X:a7) (t:V->V->aA->bN->Prop):Prop :=
 ∀ (pins:eo) (s:Shared) (σ:St) (H:aA) (o i:V) (eO d4:Value) (Q:bN),Inv X pins σ H s->RelV o eO->RelV i d4->t o i H Q ->
  wpAny (model X.prog X.w) X.A (getItem eO d4) (hl X pins σ Q) X.dB s
theorem YF {o i e:Expr} {to iJ a4:TE} {Aq:V->V->aA->bN->Prop} {z2:zh} {Ar:uE} {op:Operator} {Em:Pos} (a0:cG X o to) (aq:cG X i iJ) (aR:J_ X Aq) (he:cG X e a4) (ao:Iv X op z2) (aF:Aa X Ar)
  (au : ∀ eO d4 new,augStore i eO d4 new=(do holding [new,eO,d4] (setItem eO d4 new);release [new,eO,d4] [];pure .next):=by intros;rfl):kr X (.AugAssign (.Subscript o i Em) op e pos) (K7 to iJ a4 Aq z2 Ar):=by
 intro pins s σ H D C h;refine wpAny_AugAssign_SubscriptAny (bQ (a0 pins s σ H _ C h) λ eO s1 ⟨eh,H1,bg,bV,ba⟩=>?_) au;refine bQ (aq pins s1 σ H1 _ bg ba) λ d4 s2 ⟨fS,ay,dd,cu,cm⟩=>?_
 refine bQ (aR pins s2 σ ay eh fS eO d4 _ dd bV cu cm) λ old s3 ⟨Cx,aM,cU,fq,gP⟩=>?_
 refine bQ (he pins s3 σ aM _ cU gP) λ v s4 ⟨Cy,aO,mL,gn,r5⟩=>?_
 refine bQ (ao pins s4 σ aO Cx Cy old v _ mL fq gn r5) λ new s5 ⟨wa,bj,o3,kz,v5⟩=>?_
 exact bQ (aF pins s5 σ bj eh fS wa eO d4 new _ o3 bV cu kz v5) λ _ bI ⟨cY,iB,Cf⟩=>⟨σ,cY,iB,Cf⟩
noncomputable def Jy (f:Int->Int->Int):zh:=λ x y H Q => ∃ i j,x=.int i/\y=.int j/\Q (.int (f i j)) H
theorem WT:Iv X .Add (Jy λ i j=>i+j):=by
 intro pins s σ H x y v u Q C bV cu h;obtain ⟨i,j,aJ,aN,q⟩:=h;subst aJ;subst aN;obtain ⟨t,rfl⟩:=bV;obtain ⟨t',rfl⟩:=cu;exact iadd_int ⟨.int _,H,C.tok _,⟨_,rfl⟩,q⟩
noncomputable def E6 (c:TT) (tb:eK):eK:=λ D σ H => ∃ W:Nat->St->aA->Prop,(∃ m,W m σ H) /\ ∀ m σ H,W m σ H ->
 c σ H λ b H1=>if b=true then ∃ N:St->aA->Prop,(∀ σ' H',N σ' H' -> ∃ cR,cR<m/\W cR σ' H')/\tb { D with bO:=N,cO:=N,eL:=D.bO } σ H1 else D.bO σ H1
theorem Z7 {c:Expr} {dx:TT} {tb:eK} (ao:PassesOwn (model X.prog X.w) X.A X.env X.dB) (aj:ks X c dx) (af:kF X body tb):kr X (.While c body [] pos) (E6 dx tb):=by
 intro pins s σ H D C h;obtain ⟨W,⟨m0,ja⟩,turn⟩:=h;refine wpAny_While (codeAny_whileLoop (λ n s' => ∃ σ' H',Inv X pins σ' H' s'/\W n σ' H') ?_ m0 ⟨σ,H,C,ja⟩);rintro n s1 ⟨σ1,H1,bg,e2⟩;refine ta ao (bQ (aj pins s1 σ1 H1 _ bg (turn n σ1 H1 e2)) λ b s2 ⟨ay,dd,cm⟩=>?_);cases b with
 | true =>
  obtain ⟨N,d9,cm⟩:=cm;rw [if_pos rfl];refine ta ao (bQ (af pins s2 σ1 ay _ dd cm) λ f s3 gP=>?_);cases f with
  | next =>
   obtain ⟨σ3,aM,cU,e9⟩:=gP;obtain ⟨cR,hm,jW⟩:=d9 σ3 aM e9;exact ⟨cR,hm,σ3,aM,cU,jW⟩
  | cont =>
   obtain ⟨σ3,aM,cU,e9⟩:=gP;obtain ⟨cR,hm,jW⟩:=d9 σ3 aM e9;exact ⟨cR,hm,σ3,aM,cU,jW⟩
  | brk=>exact gP
  | ret v=>exact gP
 | false =>
  rw [if_neg fc];exact AF ⟨σ1,ay,dd,cm⟩
end
structure hB where
 go:Nat->aA->Prop
 iR:Nat->aA->V->aA->Prop
 stop:Nat->aA->Prop
noncomputable def m8 (X:a7) (pins:eo) (H:aA) (b:Addr):Prop :=
 H b=none/\b≠X.env.locals/\b∉X.ai/\(b∈X.ex\/X.s₀.heap.objs.size<=b)/\(∀ x c,X.env.cells.lookup x=some c->c≠b) /\ ∀ p∈X.hV++pins,p.1≠b
theorem Inv.pY {X:a7} {σ:St} {H H':aA} {b:Addr} (C:Inv X pins σ H s) (af:s.heap.objs.size<=b) (az:H' b=none):m8 X pins H' b:=by
 refine ⟨az,hz (g0 C.lt af),C.Vz af,.inr (et C.l2 af),λ x c e z=>?_,λ p ao z=>?_⟩
 ·obtain ⟨v,q⟩:=C.cell x c e;exact absurd (g0 q.lt (by rw [z];exact af)) (iW _)
 ·exact absurd (g0 (cb (C.pin p ao).1) (by rw [z];exact af)) (iW _)
structure Turn (P:Program) (w:World) (K:dc) (c:Bool) (a_:Expr) (J:hB) (a3:List Addr) (it:Addr) (gR:Nat->Heap->Prop):Prop where
 mem:it∈a3
 obj : ∀ i h,gR i h -> ∀ b∈a3,∃ o,h.get? b=some o /\ ∀ v,o.data≠.cell v
 keep : ∀ i h h',gR i h->(∀ b∈a3,∀ o,h.get? b=some o->h'.get? b=some o)->gR i h'
 item : ∀ (X:a7),X.prog=P->X.w=w->X.K=K->X.calm=c->X.warm=true -> ∀ (i:Nat) (pins:eo) (s:Shared) (σ:St) (H:aA) (E:bY),Inv X pins σ H s->(∀ b∈a3,m8 X pins H b)->gR i s.heap->J.go i H ->
  wpAny (model P w) X.A (pyNext (.ref it)) (λ r s1 => ∃ u,r=some u /\
   wpAny (model P w) X.A (letOwnedTupleGo a_ (.ref it) u) (λ _ s2 => ∃ x H',Inv X pins σ H' s2/\RelV x u/\J.iR i H x H'/\gR (i+1) s2.heap /\ ∀ b∈a3,H' b=none) E s1) E s
 done : ∀ (X:a7),X.prog=P->X.w=w->X.K=K->X.calm=c->X.warm=true -> ∀ (i:Nat) (pins:eo) (s:Shared) (σ:St) (H:aA) (E:bY),Inv X pins σ H s->(∀ b∈a3,m8 X pins H b)->gR i s.heap->J.stop i H ->
  wpAny (model P w) X.A (pyNext (.ref it)) (λ r s1=>r=none/\Inv X pins σ H s1) E s
 self : ∀ (A:Around) (i:Nat) (s:Shared) (Q:bY) (E:bY),gR i s.heap->Q (.ref it) s->wpAny (model P w) A (pyIter (.ref it)) Q E s
noncomputable abbrev TI:=St->aA->(hB->aA->Prop)->Prop
noncomputable def CI (X:a7) (pins:eo) (σ:St) (a_:Expr) (R:hB->aA->Prop) (zQ:Value) (s2:Shared):Prop :=
 ∃ (it:Addr) (a3:List Addr) (gR:Nat->Heap->Prop) (J:hB) (H':aA),zQ=.ref it/\Inv X pins σ H' s2/\Turn X.prog X.w X.K X.calm a_ J a3 it gR/\gR 0 s2.heap/\(∀ b∈a3,m8 X pins H' b)/\R J H'
noncomputable def jO (X:a7) (a_ iter:Expr) (fa:TI):Prop :=
 ∀ (pins:eo) (s:Shared) (σ:St) (H:aA) (R:hB->aA->Prop),Inv X pins σ H s->fa σ H R ->
  wpAny (model X.prog X.w) X.A (eval iter X.env) (λ v s1=>wpAny (model X.prog X.w) X.A (pyIter v) (CI X pins σ a_ R) X.dB s1) X.dB s
theorem Et {M:Model} {E:bY} {a_:Expr} {u:Value} {o:Obj} {n:String} {ag:cn} {Q:Unit->Shared->Prop} (a0:s.heap.get? it=some o) (aj:o.cls=.type n) (hd:o.data=.fields ag)
  (az:["enumerate", "zip", "dict_itemiterator", "dict_reverseitemiterator", "odict_iterator", "itertools.zip_longest", "itertools.pairwise"].contains n=false) (fp:Q () s):wpAny M A (letOwnedTupleGo a_ (.ref it) u) Q E s:=by
 unfold letOwnedTupleGo;cases a_<;>first
  | exact b2 fp
  | (cases u<;>first
    | exact b2 fp
    | (refine aI (wpAny_load a0 ?_)
       rw [aj,hd];show wpAny M A (if (["enumerate", "zip", "dict_itemiterator", "dict_reverseitemiterator", "odict_iterator", "itertools.zip_longest", "itertools.pairwise"].contains n&&ag[0]? == some (rawInt _))=true then _ else _) Q E s;rw [if_neg (by intro h;rw [az,tc] at h;cases h)];exact b2 fp))
noncomputable def oc (K:dc) (a:Addr):hB :=
 ⟨λ i H => ∃ xs x,aQ K H a xs/\xs[i]?=some x,λ i H x H'=>H'=H /\ ∀ xs,aQ K H a xs->xs[i]?=some x,λ i H => ∃ xs,aQ K H a xs/\xs.length<=i⟩
noncomputable def od (K:dc) (a:Addr):hB :=
 ⟨λ i H => ∃ xs x,aP K H a xs/\xs[i]?=some x,λ i H x H'=>H'=H /\ ∀ xs,aP K H a xs->xs[i]?=some x,λ i H => ∃ xs,aP K H a xs/\xs.length<=i⟩
noncomputable def qN (lo:Int) (n:Nat):hB:=⟨λ i _=>i<n,λ i H x H'=>H'=H/\x=.int (lo+i),λ i _=>n<=i⟩
theorem abF {c:Bool} {P:Program} {a_:Expr} (a it:Addr):Turn P w K c a_ (oc K a) [it] it (λ i h=>h.IsListIter it a i) where
 mem:=by simp
 obj:=λ i h st b af=>by
  have e:b=it:=by simpa using af
  subst e;obtain ⟨o,e,c,d⟩:=st;exact ⟨o,e,λ v z=>by rw [d] at z;cases z⟩
 keep:=λ i h h' st k=>st.at λ o e=>k it .zs o e
 item:=by
  intro X b8 hw dp aE aj i pins s σ H E C hf st aR;subst b8 hw dp;obtain ⟨xs,x,aK,ae⟩:=aR;obtain ⟨its,cM,p,aS⟩:=C.list aK;obtain ⟨u,bM,hr⟩:=cM.get ae;obtain ⟨f0,f1,f2,e8,f4,eG⟩:=hf it .zs;refine wpAny_pyNext_list_item st p.isList (x:=u) (by simpa using bM) λ h' md eg=>?_
  have bg:Inv X pins σ H { s with heap:=h' }:=C.turned (t':=s.toks) (λ b o af e=>(eg.2 b af).trans e) f0 f1 e8 f4 eG;obtain ⟨o,e,c,d⟩:=id md;exact ⟨u,rfl,Et (s:={ s with heap:=h' }) e c d .aG ⟨x,H,bg,hr,⟨rfl,λ ys a8=>by rw [C.MW a8 aK];exact ae⟩,md,λ b af=>(hf b af).1⟩⟩
 done:=by
  intro X b8 hw dp aE aj i pins s σ H E C hf st aR;subst b8 hw dp;obtain ⟨xs,aK,ae⟩:=aR;obtain ⟨its,cM,p,aS⟩:=C.list aK;obtain ⟨f0,f1,f2,e8,f4,eG⟩:=hf it .zs;have ar:=cM.length;exact gu.ZJ (C.j3 aj) st p.isList (by simp;omega) λ h' eS=>⟨rfl,C.turned (t':=s.toks) (λ b o af e=>eS b o af e) f0 f1 e8 f4 eG⟩
 self:=λ _ _ _ _ _ st h=>wpAny_pyIter_listiter st h
theorem acq {c:Bool} {P:Program} {a_:Expr} (a it:Addr):Turn P w K c a_ (od K a) [it] it (λ i h=>h.IsTupleIter it a i) where
 mem:=by simp
 obj:=λ i h st b af=>by
  have e:b=it:=by simpa using af
  subst e;obtain ⟨o,e,c,d⟩:=st;exact ⟨o,e,λ v z=>by rw [d] at z;cases z⟩
 keep:=λ i h h' st k=>st.at λ o e=>k it .zs o e
 item:=by
  intro X b8 hw dp aE aj i pins s σ H E C hf st aR;subst b8 hw dp;obtain ⟨xs,x,aK,ae⟩:=aR;obtain ⟨its,cM,p,aS⟩:=C.tuple aK;obtain ⟨u,bM,hr⟩:=cM.get ae;obtain ⟨f0,f1,f2,e8,f4,eG⟩:=hf it .zs;refine wpAny_pyNext_tuple_item st (show s.heap.IsTuple a its.toArray from p) (x:=u) (by simpa using bM) λ h' md eg=>?_
  have bg:Inv X pins σ H { s with heap:=h' }:=C.turned (t':=s.toks) (λ b o af e=>(eg.2 b af).trans e) f0 f1 e8 f4 eG;obtain ⟨o,e,c,d⟩:=id md;exact ⟨u,rfl,Et (s:={ s with heap:=h' }) e c d .aG ⟨x,H,bg,hr,⟨rfl,λ ys a8=>by rw [C.vB a8 aK];exact ae⟩,md,λ b af=>(hf b af).1⟩⟩
 done:=by
  intro X b8 hw dp aE aj i pins s σ H E C hf st aR;subst b8 hw dp;obtain ⟨xs,aK,ae⟩:=aR;obtain ⟨its,cM,p,aS⟩:=C.tuple aK;obtain ⟨f0,f1,f2,e8,f4,eG⟩:=hf it .zs;have ar:=cM.length;exact gu.FO (C.j3 aj) st (show s.heap.IsTuple a its.toArray from p) (by simp;omega) λ h' eS=>⟨rfl,C.turned (t':=s.toks) (λ b o af e=>eS b o af e) f0 f1 e8 f4 eG⟩
 self:=λ _ _ _ _ _ st h=>wpAny_pyIter_tupleiter st h
theorem acp {c:Bool} (dH:c=true) {P:Program} {a_:Expr} (it:Addr) (lo:Int) (n:Nat):Turn P w K c a_ (qN lo n) [it] it (λ i h=>IsRangeIter h it (lo+(i:Nat) * 1) ((n:Int) - (i:Nat)) 1) where
 mem:=by simp
 obj:=λ i h st b af=>by
  have e:b=it:=by simpa using af
  subst e;exact ⟨_,st,λ v z=>by
   have fh:Data.fields _=Data.cell v:=z;cases fh⟩
 keep:=λ i h h' st k=>k it .zs _ st
 item:=by
  intro X b8 hw dp aE aj i pins s σ H E C hf st aR;subst b8 hw dp;obtain ⟨f0,f1,f2,e8,f4,eG⟩:=hf it .zs;have W:=Walks.range (prog:=X.prog) (w:=X.w) (C.ok.hd.1 (aE.trans dH)) it lo 1 n;refine W.item i s _ _ aR st λ v h' bE bl md df=>?_
  obtain ⟨t,rfl⟩:=bl;have bg:Inv X pins σ H { s with heap:=h',toks:=bE }:=C.turned (λ b o af e=>df b o (by simpa using af) e) f0 f1 e8 f4 eG;refine ⟨_,rfl,Et (s:={ s with heap:=h',toks:=bE }) (n := "range_iterator") md rfl rfl .aG ⟨.int (lo+i),H,bg,⟨t,?_⟩,⟨rfl,rfl⟩,md,λ b af=>(hf b af).1⟩⟩;rw [Int.mul_one]
 done:=by
  intro X b8 hw dp aE aj i pins s σ H E C hf st aR;subst b8 hw dp;obtain ⟨f0,f1,f2,e8,f4,eG⟩:=hf it .zs;exact wpAny_pyNext_range_end (C.ok.hd.1 (aE.trans dH)) st (by have:n<=i:=aR;omega) λ h' eS=>⟨rfl,C.turned (t':=s.toks) (λ b o af e=>eS b o af e) f0 f1 e8 f4 eG⟩
 self:=λ _ _ _ _ _ st h=>wpAny_pyIter_rangeiter st h
section
variable {X:a7} {a_:Expr}
noncomputable def EA (K:dc) (en:TE):TI:=λ σ H R=>en σ H λ x H1 => ∃ a,x=.ref a/\(∃ xs,aQ K H1 a xs)/\R (oc K a) H1
noncomputable def Ec (K:dc) (en:TE):TI:=λ σ H R=>en σ H λ x H1 => ∃ a,x=.ref a/\(∃ xs,aP K H1 a xs)/\R (od K a) H1
theorem YB {l:Expr} {en:TE} (ar:cG X l en):jO X a_ l (EA X.K en):=by
 intro pins s σ H R C h;refine bQ (ar pins s σ H _ C h) λ v s1 ⟨x,H1,bg,bV,ba⟩=>?_
 obtain ⟨a,e,⟨xs,aK⟩,q⟩:=ba;subst e;cases bV;obtain ⟨its,cM,p,aS⟩:=bg.list aK;refine ri p.isList ?_;refine ⟨s1.heap.objs.size,[s1.heap.objs.size],_,_,H1,rfl,bg.kept (t':=s1.toks) λ b o e=>bW _ e,abF a _,⟨_,dI _ rfl,rfl,rfl⟩,λ b af=>?_,q⟩;have e:b=s1.heap.objs.size:=by simpa using af
 subst e;exact bg.pY (br _) (bg.bX.fresh (br _))
theorem Xo {l:Expr} {en:TE} (ar:cG X l en):jO X a_ l (Ec X.K en):=by
 intro pins s σ H R C h;refine bQ (ar pins s σ H _ C h) λ v s1 ⟨x,H1,bg,bV,ba⟩=>?_
 obtain ⟨a,e,⟨xs,aK⟩,q⟩:=ba;subst e;cases bV;obtain ⟨its,cM,p,aS⟩:=bg.tuple aK;refine nq (show s1.heap.IsTuple a its.toArray from p) ?_;refine ⟨s1.heap.objs.size,[s1.heap.objs.size],_,_,H1,rfl,bg.kept (t':=s1.toks) λ b o e=>bW _ e,acq a _,⟨_,dI _ rfl,rfl,rfl⟩,λ b af=>?_,q⟩;have e:b=s1.heap.objs.size:=by simpa using af
 subst e;exact bg.pY (br _) (bg.bX.fresh (br _))
theorem Nf (dH:X.calm=true) {σ:St} {H:aA} {R:hB->aA->Prop} {E:bY} {lo aq:Int} {t u v:Tok} {bE:Nat} (C:Inv X pins σ H s) (I : -(2 ^ 62)<=lo) (ah:lo<2 ^ 62) (aD : -(2 ^ 62)<=aq) (aL:aq<2 ^ 62)
  (q:R (qN lo (aq - lo).toNat) H):wpAny (model X.prog X.w) X.A (pyIter (.ref s.heap.objs.size)) (CI X pins σ a_ R) E { s with heap:=s.heap.push { cls:=.type "range", data:=.fields #[.int lo t,.int aq u,.int 1 v] },toks:=bE }:=by
 refine wpAny_pyIter_range (IsRange.new ..) (small_one I ah aD aL) ?_;have bg:Inv X pins σ H { s with heap:=s.heap.push { cls:=.type "range", data:=.fields #[.int lo t,.int aq u,.int 1 v] },toks:=bE }:=C.kept λ b o e=>bW _ e
 refine ⟨(s.heap.push { cls:=.type "range", data:=.fields #[.int lo t,.int aq u,.int 1 v] }).objs.size,[(s.heap.push { cls:=.type "range", data:=.fields #[.int lo t,.int aq u,.int 1 v] }).objs.size],_,_,H,rfl,
  bg.kept (t':=bE) λ b o e=>bW _ e,acp dH _ lo (aq - lo).toNat,?_,λ b af=>?_,q⟩
 ·have aJ:lo+((0:Nat):Int) * 1=lo:=by simp
  have aN:(((aq - lo).toNat:Nat):Int) - ((0:Nat):Int)=Builtin.Range.rangeSize lo aq 1:=by rw [rangeSize_one];split<;>omega
  show IsRangeIter _ _ (lo+((0:Nat):Int) * 1) ((((aq - lo).toNat:Nat):Int) - ((0:Nat):Int)) 1;rw [aJ,aN];exact dI _ rfl
 ·have e:b=(s.heap.push { cls:=.type "range", data:=.fields #[.int lo t,.int aq u,.int 1 v] }).objs.size:=by simpa using af
  subst e;exact bg.pY (br _) (bg.bX.fresh (br _))
noncomputable def KY (bq:dh):TI:=λ σ H R=>bq σ H λ ag H1 => ∃ j:Int,ag=[.int j] /\ -(2 ^ 62)<=j/\j<2 ^ 62/\R (qN 0 j.toNat) H1
noncomputable def KZ (bq:dh):TI:=λ σ H R=>bq σ H λ ag H1 => ∃ i j:Int,ag=[.int i,.int j]/\(-(2 ^ 62)<=i/\i<2 ^ 62 /\ -(2 ^ 62)<=j/\j<2 ^ 62)/\R (qN i (j - i).toNat) H1
theorem abb {a:Expr} {bq:dh} {p pos:Pos} (aR:d6 X "range") (hm:X.ax "range" = none) (au:hS X [a] bq) (aF:starEach [a] X.env=[(false,eval a X.env)]:=by rfl) (dH:X.calm=true:=by rfl):jO X a_ (.Call (.Name "range" p) [a] [] pos) (KY bq):=by
 intro pins s σ H R C h;refine Call_ (lE C aR hm boot_range (oT (bQ (au pos pins s σ H _ C h) λ us s1 ⟨ag,H1,bg,bV,ba⟩=>?_) aF rfl));obtain ⟨j,e,ba,cm,q⟩:=ba;subst e;cases bV with
 | cons r qI =>
  cases qI;obtain ⟨t,rfl⟩:=r;exact call_range_1 (Nf dH bg .ab .ab ba cm (by simpa using q))
theorem abc {a b:Expr} {bq:dh} {p pos:Pos} (aR:d6 X "range") (hm:X.ax "range" = none) (au:hS X [a,b] bq) (aF:starEach [a,b] X.env=[(false,eval a X.env),(false,eval b X.env)]:=by rfl) (hI:starEach [b] X.env=[(false,eval b X.env)]:=by rfl) (dH:X.calm=true:=by rfl) :
  jO X a_ (.Call (.Name "range" p) [a,b] [] pos) (KZ bq):=by
 intro pins s σ H R C h;refine Call_ (lE C aR hm boot_range (oT (bQ (au pos pins s σ H _ C h) λ us s1 ⟨ag,H1,bg,bV,ba⟩=>?_) (by rw [aF,hI]) (by rw [hI];rfl)));obtain ⟨i,j,e,⟨ba,cm,gP,r5⟩,q⟩:=ba;subst e;cases bV with
 | cons r qI =>
  cases qI with
  | cons bU qI =>
   cases qI;obtain ⟨t,rfl⟩:=r;obtain ⟨t',rfl⟩:=bU;exact call_range_2 (Nf dH bg ba cm gP r5 q)
noncomputable def Kz (fa:TI) (g:iD) (tb:eK):eK:=λ D σ H=>fa σ H λ J H1 => ∃ W:Nat->Nat->St->aA->Prop,(∃ m,W 0 m σ H1) /\ ∀ i m σ H,W i m σ H ->
 (J.stop i H/\D.bO σ H)\/(J.go i H /\ ∃ N:St->aA->Prop,(∀ σ' H',N σ' H' -> ∃ cR,cR<m/\W (i+1) cR σ' H') /\ ∀ x H',J.iR i H x H'->g x σ H' λ σ2 ay=>tb { D with bO:=N,cO:=N,eL:=D.bO } σ2 ay)
noncomputable def uX (a3:List Addr) (h:Heap):eo:=a3.filterMap λ b=>(h.get? b).map λ o=>(b,o)
theorem vC {h:Heap} {b:Addr} {o:Obj} (af:b∈a3) (e:h.get? b=some o):(b,o)∈uX a3 h:=AG.mpr ⟨b,af,by rw [e];rfl⟩
theorem aa6 {h:Heap} {p:Addr×Obj} (ao:p∈uX a3 h):p.1∈a3/\h.get? p.1=some p.2:=by
 obtain ⟨b,af,e⟩:=AG.mp ao;cases q:h.get? b with
 | none=>rw [q] at e;cases e
 | some o =>
  rw [q] at e;have bF:(b,o)=p:=eA e;subst bF;exact ⟨af,q⟩
theorem Inv.pinned {σ:St} {H:aA} (C:Inv X pins σ H s) (hf : ∀ b∈a3,m8 X pins H b) (a0 : ∀ b∈a3,∃ o,s.heap.get? b=some o /\ ∀ v,o.data≠.cell v):Inv X (pins++uX a3 s.heap) σ H s :=
 C.Mj λ p ao=>(iX.mp ao).elim (λ z=>C.pin p (jH _ z)) λ z=>by
  obtain ⟨af,e⟩:=aa6 z;obtain ⟨f0,f1,f2,_⟩:=hf p.1 af;obtain ⟨o,bF,d⟩:=a0 p.1 af;rw [e] at bF;cases bF;exact ⟨e,f0,f1,f2,d⟩
theorem Inv.yy {b5:eo} {σ:St} {H:aA} (C:Inv X (pins++b5) σ H s):Inv X pins σ H s:=C.Mj λ p ao=>C.pin p (jH _ (EM _ ao))
theorem Xr {fa:TI} {g:iD} {tb:eK} {pos:Pos} (ao:PassesOwn (model X.prog X.w) X.A X.env X.dB) (aj:X.warm=true) (aq:jO X a_ iter fa) (aR:mM X a_ g) (af:kF X body tb)
  (aF : ∀ x,foldedSetIterable iter X.env x=pure x:=by intro _;rfl):kr X (.For a_ iter body [] pos) (Kz fa g tb):=by
 intro pins s σ H D C h;refine wpAny_For (bQ (aq pins s σ H _ C h) λ v s1 I=>bQ I λ zQ s2 ah=>?_) aF;obtain ⟨it,a3,gR,J,ay,e,dd,T,pR,f2,W,⟨m0,ja⟩,turn⟩:=ah;subst e;have stat : ∀ {H':aA},(∀ b∈a3,H' b=none) -> ∀ b∈a3,m8 X pins H' b:=λ az b af=>⟨az b af,(f2 b af).2⟩
 refine codeAny_forLoop_any (λ n s' => ∃ i σ' H',Inv X pins σ' H' s'/\gR i s'.heap/\(∀ b∈a3,H' b=none)/\W i n σ' H') ?_ m0 ⟨0,σ,ay,dd,pR,λ b af=>(f2 b af).1,ja⟩;rintro n s3 ⟨i,σ3,aM,cU,JS,IF,jW⟩;rcases turn i n σ3 aM jW with ⟨stop,n5⟩ | ⟨go,N,d9,step⟩
 ·refine ta ao (bQ (T.done X rfl rfl rfl rfl aj i pins s3 σ3 aM X.dB cU (stat IF) JS stop) λ r s4 ⟨av,mL⟩=>?_);subst av;exact AF ⟨σ3,aM,mL,n5⟩
 ·refine ta ao (bQ (T.item X rfl rfl rfl rfl aj i pins s3 σ3 aM X.dB cU (stat IF) JS go) λ r s4 ⟨u,av,aL⟩=>?_);subst av;refine ta ao (bQ aL λ _ s5 ⟨x,bj,o3,kz,Q3,pS,sj⟩=>?_);have Q7:=o3.pinned (stat sj) (T.obj _ _ pS);refine ta ao (bQ (aR _ s5 σ3 bj x u _ Q7 kz (step x bj Q3)) λ _ bI ⟨σ6,cY,iB,Cf⟩=>?_);refine ta ao (bQ (af _ bI σ6 cY _ iB Cf) λ f dA qG=>?_);have again : ∀ {σ7:St} {ek:aA},Inv X (pins++uX a3 s5.heap) σ7 ek dA->N σ7 ek -> ∃ m,m<n /\ ∃ i σ' H',Inv X pins σ' H' dA/\gR i dA.heap/\(∀ b∈a3,H' b=none)/\W i m σ' H':=λ {σ7 ek} i2 mR=>by
   obtain ⟨cR,hm,QZ⟩:=d9 σ7 ek mR;refine ⟨cR,hm,i+1,σ7,ek,i2.yy,T.keep _ _ _ pS λ b af o e=>(i2.pin (b,o) (jH _ (jH _ (vC af e)))).1,λ b af=>?_,QZ⟩;obtain ⟨o,e,d⟩:=T.obj _ _ pS b af;exact (i2.pin (b,o) (jH _ (jH _ (vC af e)))).2.1
  cases f with
  | next=>obtain ⟨σ7,ek,i2,mR⟩:=qG;exact again i2 mR
  | cont=>obtain ⟨σ7,ek,i2,mR⟩:=qG;exact again i2 mR
  | brk=>obtain ⟨σ7,ek,i2,qG⟩:=qG;exact ⟨σ7,ek,i2.yy,qG⟩
  | ret v=>obtain ⟨zd,σ7,ek,i2,ll,qG⟩:=qG;exact ⟨zd,σ7,ek,i2.yy,ll,qG⟩
end
theorem rH {xs:List V} {g:iD} {tb:eK} {D:Ends} {σ:St} {H:aA} (Pv:Nat->St->aA->Prop) (h0:Pv 0 σ H) (ar : ∀ i σ H,i<=xs.length->Pv i σ H->aQ K H a xs)
  (aF : ∀ i x σ H,xs[i]?=some x->Pv i σ H->g x σ H λ σ2 ay=>tb { D with bO:=Pv (i+1),cO:=Pv (i+1),eL:=D.bO } σ2 ay) (hd : ∀ σ H,Pv xs.length σ H->D.bO σ H) :
  ∃ W:Nat->Nat->St->aA->Prop,(∃ m,W 0 m σ H) /\ ∀ i m σ H,W i m σ H ->
   ((oc K a).stop i H/\D.bO σ H)\/((oc K a).go i H /\ ∃ N:St->aA->Prop,(∀ σ' H',N σ' H' -> ∃ cR,cR<m/\W (i+1) cR σ' H') /\ ∀ x H',(oc K a).iR i H x H'->g x σ H' λ σ2 ay=>tb { D with bO:=N,cO:=N,eL:=D.bO } σ2 ay):=by
 refine ⟨λ i m σ H=>m=xs.length - i/\i<=xs.length/\Pv i σ H,⟨xs.length,.zs,fk _,h0⟩,?_⟩;rintro i m σ H ⟨rfl,aq,p⟩;have q:=ar i σ H aq p;by_cases dg:i<xs.length
 ·refine .inr ⟨⟨xs,xs[i],q,by simp [dg]⟩,Pv (i+1),λ σ' H' dV=>⟨xs.length - (i+1),.ab,rfl,dg,dV⟩,λ x H' y=>?_⟩;obtain ⟨e,y⟩:=y;subst e;exact aF i x σ _ (y xs q) p
 ·have e:i=xs.length:=by omega
  subst e;exact .inl ⟨⟨xs,q,br _⟩,hd σ H p⟩
theorem Fw {xs:List V} {g:iD} {tb:eK} {D:Ends} {σ:St} {H:aA} (Pv:Nat->St->aA->Prop) (h0:Pv 0 σ H) (ar : ∀ i σ H,i<=xs.length->Pv i σ H->aP K H a xs)
  (aF : ∀ i x σ H,xs[i]?=some x->Pv i σ H->g x σ H λ σ2 ay=>tb { D with bO:=Pv (i+1),cO:=Pv (i+1),eL:=D.bO } σ2 ay) (hd : ∀ σ H,Pv xs.length σ H->D.bO σ H) :
  ∃ W:Nat->Nat->St->aA->Prop,(∃ m,W 0 m σ H) /\ ∀ i m σ H,W i m σ H ->
   ((od K a).stop i H/\D.bO σ H)\/((od K a).go i H /\ ∃ N:St->aA->Prop,(∀ σ' H',N σ' H' -> ∃ cR,cR<m/\W (i+1) cR σ' H') /\ ∀ x H',(od K a).iR i H x H'->g x σ H' λ σ2 ay=>tb { D with bO:=N,cO:=N,eL:=D.bO } σ2 ay):=by
 refine ⟨λ i m σ H=>m=xs.length - i/\i<=xs.length/\Pv i σ H,⟨xs.length,.zs,fk _,h0⟩,?_⟩;rintro i m σ H ⟨rfl,aq,p⟩;have q:=ar i σ H aq p;by_cases dg:i<xs.length
 ·refine .inr ⟨⟨xs,xs[i],q,by simp [dg]⟩,Pv (i+1),λ σ' H' dV=>⟨xs.length - (i+1),.ab,rfl,dg,dV⟩,λ x H' y=>?_⟩;obtain ⟨e,y⟩:=y;subst e;exact aF i x σ _ (y xs q) p
 ·have e:i=xs.length:=by omega
  subst e;exact .inl ⟨⟨xs,q,br _⟩,hd σ H p⟩
theorem jv {lo:Int} {g:iD} {tb:eK} {D:Ends} {σ:St} {H:aA} (Pv:Nat->St->aA->Prop) (h0:Pv 0 σ H)
  (aF : ∀ i σ H,i<n->Pv i σ H->g (.int (lo+i)) σ H λ σ2 ay=>tb { D with bO:=Pv (i+1),cO:=Pv (i+1),eL:=D.bO } σ2 ay) (hd : ∀ σ H,Pv n σ H->D.bO σ H) :
  ∃ W:Nat->Nat->St->aA->Prop,(∃ m,W 0 m σ H) /\ ∀ i m σ H,W i m σ H ->
   ((qN lo n).stop i H/\D.bO σ H)\/((qN lo n).go i H /\ ∃ N:St->aA->Prop,(∀ σ' H',N σ' H' -> ∃ cR,cR<m/\W (i+1) cR σ' H') /\ ∀ x H',(qN lo n).iR i H x H'->g x σ H' λ σ2 ay=>tb { D with bO:=N,cO:=N,eL:=D.bO } σ2 ay):=by
 refine ⟨λ i m σ H=>m=n - i/\i<=n/\Pv i σ H,⟨n,.zs,fk _,h0⟩,?_⟩;rintro i m σ H ⟨rfl,aq,p⟩;by_cases dg:i<n
 ·refine .inr ⟨dg,Pv (i+1),λ σ' H' dV=>⟨n - (i+1),.ab,rfl,dg,dV⟩,λ x H' y=>?_⟩;obtain ⟨e,y⟩:=y;subst e y;exact aF i σ _ dg p
 ·have e:i=n:=by omega
  subst e;exact .inl ⟨br _,hd σ H p⟩
noncomputable abbrev fo:=V->V->aA->bN->Prop
noncomputable def dt (X:a7) (f:Value->Value->Sem Value) (r:fo):Prop :=
 ∀ (pins:eo) (s:Shared) (σ:St) (H:aA) (x y:V) (v u:Value) (Q:bN),Inv X pins σ H s->RelV x v->RelV y u->r x y H Q ->
  wpAny (model X.prog X.w) X.A (f v u) (hl X pins σ Q) X.dB s
noncomputable def zi (X:a7) (f:Value->Sem Value) (r:V->aA->bN->Prop):Prop :=
 ∀ (pins:eo) (s:Shared) (σ:St) (H:aA) (x:V) (v:Value) (Q:bN),Inv X pins σ H s->RelV x v->r x H Q ->
  wpAny (model X.prog X.w) X.A (f v) (hl X pins σ Q) X.dB s
noncomputable def fO (X:a7) (f:Value) (r:List V->aA->bN->Prop):Prop :=
 ∀ (pins:eo) (s:Shared) (σ:St) (H:aA) (xs:List V) (us:List Value) (Q:bN),Inv X pins σ H s->Vals xs us->r xs H Q ->
  wpAny (model X.prog X.w) X.A (call f us) (hl X pins σ Q) X.dB s
noncomputable def q3 (r:fo) (bq tb:TE):TE:=λ σ H Q=>bq σ H λ x H1=>tb σ H1 λ y ay=>r x y ay Q
noncomputable def JX (r:V->aA->bN->Prop) (bq:TE):TE:=λ σ H Q=>bq σ H λ x H1=>r x H1 Q
noncomputable def qH (a9:Int->Int->Prop) (g:Int->Int->V):fo:=λ x y H Q => ∃ i j,x=.int i/\y=.int j/\a9 i j/\Q (g i j) H
noncomputable def q0 (g:Int->Int->V):fo:=λ x y H Q => ∃ i j,x=.int i/\y=.int j/\Q (g i j) H
noncomputable def Ie (g:Int->V):V->aA->bN->Prop:=λ x H Q => ∃ i,x=.int i/\Q (g i) H
section
variable {X:a7} {a b c:Expr} {bq tb dx:TE} {pos:Pos}
theorem D1 (au:cG X a bq) (af:cG X b tb) {σ:St} {H:aA} {R:V->V->aA->Prop} (C:Inv X pins σ H s)
  (h:bq σ H λ x H1=>tb σ H1 λ y ay=>R x y ay) {Q:bY} {f:Value->Value->Sem Value}
  (hf : ∀ v u s2 x y ay,Inv X pins σ ay s2->RelV x v->RelV y u->R x y ay->wpAny (model X.prog X.w) X.A (f v u) Q X.dB s2) :
  wpAny (model X.prog X.w) X.A (eval a X.env) (λ v s₁=>wpAny (model X.prog X.w) X.A (eval b X.env) (λ u s₂=>wpAny (model X.prog X.w) X.A (f v u) Q X.dB s₂) X.dB s₁) X.dB s:=by
 refine bQ (au pins s σ H _ C h) λ v s1 ⟨x,H1,bg,bV,ba⟩=>?_
 refine bQ (af pins s1 σ H1 _ bg ba) λ u s2 ⟨y,ay,dd,cu,cm⟩=>?_
 exact hf v u s2 x y ay dd bV cu cm
theorem Wk {op:Operator} {r:fo} (a0:dt X (binaryOp op) r) (au:cG X a bq) (af:cG X b tb):cG X (.BinOp a op b pos) (q3 r bq tb):=by
 intro pins s σ H Q C h;exact wpAny_BinOp (D1 au af C h λ v u s2 x y ay dd bA bL q=>a0 pins s2 σ ay x y v u Q dd bA bL q)
theorem Wm {op:UnaryOp} {r:V->aA->bN->Prop} (a0:zi X (unaryOp op) r) (au:cG X a bq):cG X (.UnaryOp op a pos) (JX r bq):=by
 intro pins s σ H Q C h;exact UnaryOp_ (bQ (au pins s σ H _ C h) λ v s1 ⟨x,H1,bg,bV,ba⟩=>a0 pins s1 σ H1 x v Q bg bV ba)
theorem sM {f:Value->Value->Sem Value} {a9:Int->Int->Prop} {g:Int->Int->Int}
  (rule : ∀ (i j:Int) (t u:Tok) (s:Shared) (Q:bY) (E:bY),a9 i j->Q (.int (g i j) s.toks) { s with toks:=s.toks+1 }->wpAny (model X.prog X.w) X.A (f (.int i t) (.int j u)) Q E s) :
  dt X f (qH a9 λ i j=>.int (g i j)):=by
 intro pins s σ H x y v u Q C bA bL h;obtain ⟨i,j,rfl,rfl,aj,q⟩:=h;obtain ⟨t,rfl⟩:=bA;obtain ⟨t',rfl⟩:=bL;exact rule i j t t' s _ _ aj ⟨.int (g i j),H,C.tok _,⟨_,rfl⟩,q⟩
theorem Kt {f:Value->Value->Sem Value} {g:Int->Int->Int}
  (rule : ∀ (i j:Int) (t u:Tok) (s:Shared) (Q:bY) (E:bY),Q (.int (g i j) s.toks) { s with toks:=s.toks+1 }->wpAny (model X.prog X.w) X.A (f (.int i t) (.int j u)) Q E s) :
  dt X f (q0 λ i j=>.int (g i j)):=by
 intro pins s σ H x y v u Q C bA bL h;obtain ⟨i,j,rfl,rfl,q⟩:=h;obtain ⟨t,rfl⟩:=bA;obtain ⟨t',rfl⟩:=bL;exact rule i j t t' s _ _ ⟨.int (g i j),H,C.tok _,⟨_,rfl⟩,q⟩
theorem An {f:Value->Value->Sem Value} {g:Int->Int->Bool}
  (rule : ∀ (i j:Int) (t u:Tok) (s:Shared) (Q:bY) (E:bY),Q (.bool (g i j)) s->wpAny (model X.prog X.w) X.A (f (.int i t) (.int j u)) Q E s) :
  dt X f (q0 λ i j=>.aH (g i j)):=by
 intro pins s σ H x y v u Q C bA bL h;obtain ⟨i,j,rfl,rfl,q⟩:=h;obtain ⟨t,rfl⟩:=bA;obtain ⟨t',rfl⟩:=bL;exact rule i j t t' s _ _ ⟨.aH (g i j),H,C,rfl,q⟩
noncomputable def UB (i j:Int):Prop:=0<j/\j<1073741824
noncomputable def UC (i j:Int):Prop:=0<=j/\j<=1000000/\i.natAbs<2 ^ 64
noncomputable def DV (i j:Int):Prop:=(-(2 ^ 64)<i/\i<2 ^ 64)\/(-(2 ^ 64)<j/\j<2 ^ 64)
theorem DV.ok {i j:Int} (h:DV i j):IntMulOk i j:=by
 rcases h with ⟨I,ah⟩ | ⟨I,ah⟩
 ·exact .of_left (intBits_le_64 I ah)
 ·exact .of_right (intBits_le_64 I ah)
theorem eR:dt X (binaryOp .Add) (q0 λ i j=>.int (i+j)):=Kt λ _ _ _ _ _ _ _ q=>add_int q
theorem nz:dt X (binaryOp .Sub) (q0 λ i j=>.int (i - j)):=Kt λ _ _ _ _ _ _ _ q=>sub_int q
theorem rn:dt X (binaryOp .Mult) (qH DV λ i j=>.int (i * j)):=sM λ _ _ _ _ _ _ _ aj q=>mul_int q aj.ok
theorem Ba:dt X (binaryOp .FloorDiv) (qH UB λ i j=>.int (i / j)):=sM λ i j _ _ _ _ _ aj q=>by
 have I:(0:Int)<j:=aj.1;have ah:j<1073741824:=aj.2;exact floordiv_int .ab (by rw [Int.fdiv_eq_ediv_of_nonneg i .ab];exact q) (.inl (PyProof.noPylong_small .ab))
theorem qe:dt X (binaryOp .Mod) (qH (λ _ j=>0<j) λ i j=>.int (i % j)):=sM λ i j _ _ _ _ _ aj q=>by
 have I:(0:Int)<j:=aj;exact mod_int' .ab (by rw [Int.fmod_eq_emod_of_nonneg i .ab];exact q)
theorem Lx:dt X (binaryOp .Pow) (qH UC λ i j=>.int (i ^ j.toNat)):=sM λ _ _ _ _ _ _ _ aj q=>pow_int_small aj.1 aj.2.1 aj.2.2 q
theorem Uq {f:Value->Sem Value} {g:Int->Int}
  (rule : ∀ (i:Int) (t:Tok) (s:Shared) (Q:bY) (E:bY),Q (.int (g i) s.toks) { s with toks:=s.toks+1 }->wpAny (model X.prog X.w) X.A (f (.int i t)) Q E s) :
  zi X f (Ie λ i=>.int (g i)):=by
 intro pins s σ H x v Q C bA h;obtain ⟨i,rfl,q⟩:=h;obtain ⟨t,rfl⟩:=bA;exact rule i t s _ _ ⟨.int (g i),H,C.tok _,⟨_,rfl⟩,q⟩
theorem k2:zi X (unaryOp .USub) (Ie λ i=>.int (-i)):=Uq λ _ _ _ _ _ q=>neg_int q
end
noncomputable def Kw:V->V->Bool
 | .cV,.cV=>true | .cV,.int _=>true | .int _,.cV=>true | .cV,.aH _=>true | .aH _,.cV=>true | .cV,.str _=>true | .str _,.cV=>true
 | .int _,.int _=>true | .aH _,.aH _=>true | .str _,.str _=>true | .l6 _,.l6 _=>true
 | .int _,.str _=>true | .str _,.int _=>true | .aH _,.str _=>true | .str _,.aH _=>true
 | _,_=>false
noncomputable def Ub:fo:=λ x y H Q=>Kw x y=true/\Q (.aH (decide (x=y))) H
noncomputable def Uc:fo:=λ x y H Q=>Kw x y=true/\Q (.aH (!decide (x=y))) H
theorem Fp {i j:Int}:decide (V.int i=V.int j)=(i == j):=by
 rw [rj];simp
theorem Lj {i j:Bool}:decide (V.aH i=V.aH j)=(i == j):=by
 rw [rj];simp
theorem LZ {i j:Str}:decide (V.str i=V.str j)=(i == j):=by
 rw [rj];simp
theorem LY {i j:Array UInt8}:decide (V.l6 i=V.l6 j)=(i.toList == j.toList):=by
 rw [rj];cases i;cases j;simp
section
variable {X:a7} {a b c:Expr} {bq tb dx:TE} {pos:Pos}
theorem fl {σ:St} {H:aA} {Q:bN} {k di:Bool} (C:Inv X pins σ H s) (q:Q (.aH k) H) (e:k=di):hl X pins σ Q (.bool di) s:=by
 subst e;exact ⟨.aH k,H,C,rfl,q⟩
theorem h1:dt X (compareOp .Eq) Ub:=by
 intro pins s σ H x y v u Q C bA bL h;obtain ⟨aF,q⟩:=h;cases x with
 | cV =>
  cases bA;cases y with
  | cV=>cases bL;exact PySem.EqNone.eq_none_none (fl C q .zs)
  | aH j=>cases bL;exact PySem.EqNone.eq_none_bool (fl C q .zs)
  | int j=>obtain ⟨t',rfl⟩:=bL;exact PySem.EqNone.eq_none_int (fl C q .zs)
  | str j=>obtain ⟨t',rfl⟩:=bL;exact PySem.EqNone.eq_none_str (fl C q .zs)
  | _=>exact absurd (show false=true from aF) fc
 | aH i =>
  cases bA;cases y with
  | cV=>cases bL;exact PySem.EqNone.eq_bool_none (fl C q .zs)
  | aH j=>cases bL;exact eq_bool (fl C q Lj)
  | str j=>obtain ⟨t',rfl⟩:=bL;exact PySem.EqMixed.eq_bool_str (fl C q .zs)
  | _=>exact absurd (show false=true from aF) fc
 | int i =>
  obtain ⟨t,rfl⟩:=bA;cases y with
  | cV=>cases bL;exact PySem.EqNone.eq_int_none (fl C q .zs)
  | int j=>obtain ⟨t',rfl⟩:=bL;exact eq_int (fl C q Fp)
  | str j=>obtain ⟨t',rfl⟩:=bL;exact PySem.EqMixed.eq_int_str (fl C q .zs)
  | _=>exact absurd (show false=true from aF) fc
 | str i =>
  obtain ⟨t,rfl⟩:=bA;cases y with
  | cV=>cases bL;exact PySem.EqNone.eq_str_none (fl C q .zs)
  | aH j=>cases bL;exact PySem.EqMixed.eq_str_bool (fl C q .zs)
  | int j=>obtain ⟨t',rfl⟩:=bL;exact PySem.EqMixed.eq_str_int (fl C q .zs)
  | str j=>obtain ⟨t',rfl⟩:=bL;exact eq_str (fl C q LZ)
  | _=>exact absurd (show false=true from aF) fc
 | l6 i =>
  obtain ⟨t,rfl⟩:=bA;cases y with
  | l6 j=>obtain ⟨t',rfl⟩:=bL;exact PySem.W.eq_bytes (fl C q LY)
  | _=>exact absurd (show false=true from aF) fc
 | _=>cases y<;>exact absurd (show false=true from aF) fc
theorem rd:dt X (compareOp .NotEq) Uc:=by
 intro pins s σ H x y v u Q C bA bL h;obtain ⟨aF,q⟩:=h;cases x with
 | cV =>
  cases bA;cases y with
  | cV=>cases bL;exact PySem.EqNone.ne_none_none (fl C q .zs)
  | aH j=>cases bL;exact PySem.EqNone.ne_none_bool (fl C q .zs)
  | int j=>obtain ⟨t',rfl⟩:=bL;exact PySem.EqNone.ne_none_int (fl C q .zs)
  | str j=>obtain ⟨t',rfl⟩:=bL;exact PySem.EqNone.ne_none_str (fl C q .zs)
  | _=>exact absurd (show false=true from aF) fc
 | aH i =>
  cases bA;cases y with
  | cV=>cases bL;exact PySem.EqNone.ne_bool_none (fl C q .zs)
  | aH j=>cases bL;exact ne_bool (fl C q (h3 not Lj))
  | str j=>obtain ⟨t',rfl⟩:=bL;exact PySem.EqMixed.ne_bool_str (fl C q .zs)
  | _=>exact absurd (show false=true from aF) fc
 | int i =>
  obtain ⟨t,rfl⟩:=bA;cases y with
  | cV=>cases bL;exact PySem.EqNone.ne_int_none (fl C q .zs)
  | int j=>obtain ⟨t',rfl⟩:=bL;exact ne_int (fl C q (h3 not Fp))
  | str j=>obtain ⟨t',rfl⟩:=bL;exact PySem.EqMixed.ne_int_str (fl C q .zs)
  | _=>exact absurd (show false=true from aF) fc
 | str i =>
  obtain ⟨t,rfl⟩:=bA;cases y with
  | cV=>cases bL;exact PySem.EqNone.ne_str_none (fl C q .zs)
  | aH j=>cases bL;exact PySem.EqMixed.ne_str_bool (fl C q .zs)
  | int j=>obtain ⟨t',rfl⟩:=bL;exact PySem.EqMixed.ne_str_int (fl C q .zs)
  | str j=>obtain ⟨t',rfl⟩:=bL;exact ne_str (fl C q (h3 not LZ))
  | _=>exact absurd (show false=true from aF) fc
 | l6 i =>
  obtain ⟨t,rfl⟩:=bA;cases y with
  | l6 j=>obtain ⟨t',rfl⟩:=bL;exact PySem.W.ne_bytes (fl C q (h3 not LY))
  | _=>exact absurd (show false=true from aF) fc
 | _=>cases y<;>exact absurd (show false=true from aF) fc
theorem nj:dt X (compareOp .Lt) (q0 λ i j=>.aH (decide (i<j))):=An λ _ _ _ _ _ _ _ q=>lt_int q
theorem Wd:dt X (compareOp .LtE) (q0 λ i j=>.aH (decide (i<=j))):=An λ _ _ _ _ _ _ _ q=>le_int q
theorem xO:dt X (compareOp .Gt) (q0 λ i j=>.aH (decide (j<i))):=An λ _ _ _ _ _ _ _ q=>gt_int q
theorem xN:dt X (compareOp .GtE) (q0 λ i j=>.aH (decide (j<=i))):=An λ _ _ _ _ _ _ _ q=>ge_int q
theorem rm:dt X (compareOp .Is) (λ x y H Q=>y=.cV/\Q (.aH (decide (x=.cV))) H):=by
 intro pins s σ H x y v u Q C bA bL h;obtain ⟨rfl,q⟩:=h;cases bL;refine is_none_gen (fl C q ?_);cases x<;>first
  | (cases bA;rfl)
  | (obtain ⟨t,rfl⟩:=bA;rfl)
theorem yh:dt X (compareOp .IsNot) (λ x y H Q=>y=.cV/\Q (.aH (!decide (x=.cV))) H):=by
 intro pins s σ H x y v u Q C bA bL h;obtain ⟨rfl,q⟩:=h;cases bL;refine isnot_none_gen (fl C q ?_);cases x<;>first
  | (cases bA;rfl)
  | (obtain ⟨t,rfl⟩:=bA;rfl)
theorem dt.or {f:Value->Value->Sem Value} {r bU:fo} (h:dt X f r) (h':dt X f bU):dt X f (λ x y H Q=>r x y H Q\/bU x y H Q):=by
 intro pins s σ H x y v u Q C bA bL q;rcases q with q | q
 ·exact h pins s σ H x y v u Q C bA bL q
 ·exact h' pins s σ H x y v u Q C bA bL q
theorem cB (b:Expr) {op:CmpOp} (h:op≠.In:=by decide) (ah:op≠.NotIn:=by decide):behindInMarks op b=false:=by
 have aJ:(op == CmpOp.In)=false:=by cases op<;>first | rfl | exact absurd rfl h
 have aN:(op == CmpOp.NotIn)=false:=by cases op<;>first | rfl | exact absurd rfl ah
 cases b<;>simp [behindInMarks,aJ,aN]
theorem Yw {op:CmpOp} {r:fo} (a0:dt X (compareOp op) r) (au:cG X a bq) (af:cG X b tb) (hm:behindInMarks op b=false):cG X (.Compare a [op] [b] pos) (q3 r bq tb):=by
 intro pins s σ H Q C h;exact wpAny_Compare1 (D1 au af C h λ v u s2 x y ay dd bA bL q=>a0 pins s2 σ ay x y v u Q dd bA bL q) hm
noncomputable def Lb (t:TE):TT:=λ σ H Q=>t σ H λ x H' => ∃ k,x=.aH k/\Q k H'
theorem YK {op:CmpOp} {r:fo} (a0:dt X (compareOp op) r) (au:cG X a bq) (af:cG X b tb) (hm:behindInMarks op b=false):ks X (.Compare a [op] [b] pos) (Lb (q3 r bq tb)):=by
 intro pins s σ H Q C h;refine wpAny_isTrue_Compare1 (bQ (au pins s σ H _ C h) λ v s1 ⟨x,H1,bg,bV,ba⟩=>bQ (af pins s1 σ H1 _ bg ba) λ u s2 ⟨y,ay,dd,cu,cm⟩ =>
  bQ (a0 pins s2 σ ay x y v u _ dd bV cu cm) λ c s3 ⟨z,aM,cU,fq,k,e,gP⟩=>?_) hm
 subst e;cases fq;exact s_ ⟨aM,cU,gP⟩
theorem x2:(sizeLine:Nat)<2 ^ 63:=by rw [cW];decide
theorem vals1 {x:V} (r:Vals [x] us) : ∃ u,us=[u]/\RelV x u:=by
 cases r with
 | cons bV cu=>cases cu;exact ⟨_,rfl,bV⟩
theorem vals2 {x y:V} (r:Vals [x,y] us) : ∃ u gS,us=[u,gS]/\RelV x u/\RelV y gS:=by
 cases r with
 | cons bV cu =>
  cases cu with
  | cons fq gn=>cases gn;exact ⟨_,_,rfl,bV,fq⟩
theorem Zh:fO X (.builtin "abs") (λ xs H Q => ∃ i,xs=[.int i]/\Q (.int (if i<0 then -i else i)) H):=by
 intro pins s σ H xs us Q C r h;obtain ⟨i,rfl,q⟩:=h;obtain ⟨u,rfl,t,rfl⟩:=vals1 r;exact call_abs_int λ u bE=>⟨.int (if i<0 then -i else i),H,C.tok _,⟨_,rfl⟩,q⟩
theorem Bm (aj:X.warm=true):fO X (.builtin "max") (λ xs H Q => ∃ i j,xs=[.int i,.int j]/\Q (.int (if j > i then j else i)) H):=by
 intro pins s σ H xs us Q C r h;obtain ⟨i,j,rfl,q⟩:=h;obtain ⟨u,gS,rfl,⟨t,rfl⟩,⟨t',rfl⟩⟩:=vals2 r;refine gu.max2 (C.j3 aj) λ h' bE k=>⟨_,H,C.kept k,?_,q⟩
 by_cases aY:j > i
 ·rw [if_pos aY,if_pos aY];exact ⟨_,rfl⟩
 ·rw [if_neg aY,if_neg aY];exact ⟨_,rfl⟩
theorem Gj (aj:X.calm=true):fO X (.builtin "min") (λ xs H Q => ∃ i j,xs=[.int i,.int j]/\Q (.int (if j<i then j else i)) H):=by
 intro pins s σ H xs us Q C r h;obtain ⟨i,j,rfl,q⟩:=h;obtain ⟨u,gS,rfl,⟨t,rfl⟩,⟨t',rfl⟩⟩:=vals2 r;refine min_two_ints (C.ok.hd.1 aj) λ h' bE k=>⟨_,H,C.kept k,?_,q⟩
 by_cases aY:j<i
 ·rw [if_pos aY,if_pos aY];exact ⟨_,rfl⟩
 ·rw [if_neg aY,if_neg aY];exact ⟨_,rfl⟩
end
structure DX (h:Heap) (x gw a9:Addr) (gz:Str->dP):Prop where
 obj:h.get? x=some (PySem.W.instObj a9 gw)
 ns:h.Ns1 gw gz
 ne:gw≠x
theorem aa3 {h:Heap} {gw:Addr} {gz:Str->dP} (n:h.Ns1 gw gz) : ∃ gO,h.get? gw=some gO /\ ∀ name,PySem.W.lookIn name gO=some (gz name):=by
 obtain ⟨o,es,e7,a0,hd,aE,_,hm⟩:=n;refine ⟨o,a0,λ name=>?_⟩;have e:=hm name;unfold nsFind findBy at e;rw [<-Array.find?_toList] at e;unfold PySem.W.lookIn;rw [hd];dsimp only;split
 ·rename_i y q;rw [q] at e;exact h3 some e
 ·rename_i q;rw [q] at e;have a:es.toList.any (·.refKey)=false:=by
   rw [List.any_eq_false];intro y a8;obtain ⟨z,t,U7⟩:=aE y (Array.mem_toList_iff.mp a8);simp [DictEntry.refKey,U7]
  have hn : ¬ es.toList.any (·.refKey)=true:=by rw [a];exact fc
  rw [if_neg hn];exact h3 some e
theorem DX.look {h:Heap} {x gw a9:Addr} {gz:Str->dP} (C:DX h x gw a9 gz) : ∃ gO,PySem.W.InstAt h x (PySem.W.instObj a9 gw) a9 (some gO) /\ ∀ name,PySem.W.lookIn name gO=some (gz name) :=
 let ⟨gO,a0,ar⟩:=aa3 C.ns
 ⟨gO,⟨C.obj,rfl,rfl,a0⟩,ar⟩
theorem m_.some_of {v:V} {o:dP} (r:m_ (some v) o) : ∃ u,o=some u/\RelV v u:=by
 cases o with
 | none=>exact (show False from r).elim
 | some u=>exact ⟨u,rfl,r⟩
section
variable {P:Program} {H H':aA} {h:Heap} {a9 gw:Addr} {ai Rk:List (Str×V)}
theorem X5 (bX:fC P w H h) (e:H a=some (.ins a9 gw ai)) : ∃ gz,DX h a gw a9 gz/\(∀ f,m_ (ai.lookup f) (gz f))/\PySem.Within gz (ai.map (·.1))/\ai.length<=1000/\H gw=some (.own a):=by
 obtain ⟨d,z,ne,da,gz,n,r,q⟩:=(show fw P w H h a (.ins a9 gw ai) from bX a _ e)
 exact ⟨gz,⟨da,n,ne⟩,r,q,z,d⟩
end
structure CF (K:dc) (a9:Addr):Prop where
 QV:PySem.W.plainGet K a9 Str.empty=true
 hd:PySem.W.hasDictIn K a9=true
 po:PySem.W.plainOver K a9=true
 aeN:PySem.W.findIn K (.ref a9) "__setattr__" = some (some (.builtin "object.__setattr__"))
theorem CF.get {a9:Addr} (c:CF K a9) (f:Str):PySem.W.plainGet K a9 f=true:=c.QV
section
variable {X:a7} {σ:St} {H:aA} {E:bY} {Q:bY} {c:Value} {b:Bool}
inductive jF (K:dc) (H:aA):V->Value->Prop where
 | cV:jF K H .cV (.type "NoneType")
 | aH (x:Bool):jF K H (.aH x) (.type "bool")
 | int (i:Int):jF K H (.int i) (.type "int")
 | str (x:Str):jF K H (.str x) (.type "str")
 | si (x:UInt64):jF K H (.si x) (.type "float")
 | lst {a:Addr} {xs:List V} (e:H a=some (.lst xs)):jF K H (.ref a) (.type "list")
 | kJ {a:Addr} {o:Obj} {xs:List V} (e:H a=some (.kJ o (.lst xs))):jF K H (.ref a) (.type "list")
 | tup {a:Addr} {xs:List V} (e:H a=some (.tup xs)):jF K H (.ref a) (.type "tuple")
 | gM {a:Addr} {aU:List (Key×V)} (e:H a=some (.gM aU)):jF K H (.ref a) (.type "dict")
 | f5 {a:Addr} {aU:List (List Key×V)} (e:H a=some (.f5 aU)):jF K H (.ref a) (.type "dict")
 | ins {a a9 gw:Addr} {ai:List (Str×V)} (e:H a=some (.ins a9 gw ai)) (cl:CF K a9) (au:PySem.W.findIn K (.ref a9) "__class__" = some (some (.builtin "object.__class__")))
   (az:PySem.W.specialIn K (.builtin "object.__class__") "__get__" = some (some (.builtin "getset_descriptor.__get__"))) (Jr:PySem.W.takesIn K (.builtin "object.__class__")=some true)
   (hm:PySem.W.mroIn K a9 (.type "object")=some true):jF K H (.ref a) (.ref a9)
theorem aaX {x:V} {u t:Value} (C:Inv X pins σ H s) (bA:RelV x u) (ty:jF X.K H x t) (e:PySem.W.kitOne X.K t c=some b) (h : ∀ bE,Q (.bool b) { s with toks:=bE }) :
  wpAny (model X.prog X.w) A (call (.builtin "isinstance") [u,c]) Q E s:=by
 cases ty with
 | cV=>cases (show u=Value.none from bA);exact nv PySem.W.kitx_none C.iO True.intro e (λ z=>nomatch z) h
 | aH y=>cases (show u=Value.bool y from bA);exact nv PySem.W.kitx_bool C.iO True.intro e (λ z=>nomatch z) h
 | int i=>obtain ⟨t,q⟩:=(show ∃ t,u=Value.int i t from bA);cases q;exact nv PySem.W.kitx_int C.iO True.intro e (λ z=>nomatch z) h
 | str y=>obtain ⟨t,q⟩:=(show ∃ t,u=Value.str y t from bA);cases q;exact nv PySem.W.kitx_str C.iO True.intro e (λ z=>nomatch z) h
 | si y=>obtain ⟨t,q⟩:=(show ∃ t,u=Value.float y t from bA);cases q;exact nv PySem.W.kitx_float C.iO True.intro e (λ z=>nomatch z) h
 | @lst a xs h_ =>
  cases (show u=Value.ref a from bA);obtain ⟨_,_,n,_,I⟩:=(show fw X.prog X.w H s.heap a (.lst xs) from C.bX a _ h_)
  exact nv PySem.W.kitx_list C.iO ⟨_,I,rfl⟩ e (λ z=>nomatch z) h
 | @kJ a da xs h_ =>
  cases (show u=Value.ref a from bA);obtain ⟨_,_,_,n,_,I⟩:=(show fw X.prog X.w H s.heap a (.kJ da (.lst xs)) from C.bX a _ h_)
  exact nv PySem.W.kitx_list C.iO ⟨_,I,rfl⟩ e (λ z=>nomatch z) h
 | @tup a xs h_ =>
  cases (show u=Value.ref a from bA);obtain ⟨_,_,_,hE⟩:=(show fw X.prog X.w H s.heap a (.tup xs) from C.bX a _ h_)
  have p:=hE.up;obtain ⟨o,I,ah,_⟩:=p;exact nv PySem.W.kitx_tuple C.iO ⟨o,I,ah⟩ e (λ z=>nomatch z) h
 | @gM a aU h_ =>
  cases (show u=Value.ref a from bA);obtain ⟨_,_,ag,_,p⟩:=(show fw X.prog X.w H s.heap a (.gM aU) from C.bX a _ h_)
  obtain ⟨o,es,e7,I,ah,_⟩:=p;exact nv PySem.W.kitx_dict C.iO ⟨o,I,ah.1⟩ e (λ z=>nomatch z) h
 | @f5 a aU h_ =>
  cases (show u=Value.ref a from bA);obtain ⟨_,_,xs,_,o,es,e7,I,ah,_⟩:=(show fw X.prog X.w H s.heap a (.f5 aU) from C.bX a _ h_)
  exact nv PySem.W.kitx_dict C.iO ⟨o,I,ah.1⟩ e (λ z=>nomatch z) h
 | @ins a a9 gw ai h_ cl au az Jr hm =>
  cases (show u=Value.ref a from bA);obtain ⟨gz,O,_⟩:=X5 C.bX h_;obtain ⟨gO,J,_⟩:=O.look;exact nv (PySem.W.kitx_own (cl.get _) cl.hd au az Jr hm) C.iO J e (λ z=>nomatch z) h
end
structure gW (k:Nat) (A:Around):Prop where
 hd:A.handled=none
 vQ:A.depth+3 * k+5<recursionLimit
 un:A.units+16 * k+200<cLine
 H2:A.guards=some []
theorem gW.mono {j k:Nat} (r:gW k A) (h:j<=k):gW j A:=⟨r.hd,by have:=r.vQ;omega,by have:=r.un;omega,r.H2⟩
theorem gW.deeper {k:Nat} (r:gW (k+1) A) (env:Env):gW k (A.deeper env) :=
 ⟨r.hd,by have:=r.vQ;show A.depth+1+3 * k+5<_;omega,by have:=r.un;show A.units+3+16 * k+200<_;omega,r.H2⟩
theorem gW.depth {k:Nat} (r:gW k A):A.depth<recursionLimit:=by have:=r.vQ;omega
theorem gW.units {k:Nat} (r:gW k A):A.units+64<cLine:=by have:=r.un;omega
noncomputable def xE:dh:=λ _ H Q=>Q [] H
noncomputable def EH (bq:TE) (QY:dh):dh:=λ σ H Q=>bq σ H λ x H1=>QY σ H1 λ xs ay=>Q (x::xs) ay
section
variable {X:a7} {e:Expr} {es:List Expr} {a4:TE} {t:dh} {pos:Pos}
theorem Xc:hS X [] xE:=λ _ _ _ _ H Q C h=>Calls.spliced_nil ⟨[],H,C,.nil,h⟩
theorem Yt (au:cG X e a4) (av:hS X es t) (aF:starEach (e::es) X.env=(false,eval e X.env)::starEach es X.env:=by rfl):hS X (e::es) (EH a4 t):=by
 intro pos pins s σ H Q C h;rw [aF];show wpAny _ _ (spliced ((false,eval e X.env)::backTo pos (starEach es X.env))) _ _ s;refine Calls.spliced_cons (bQ (au pins s σ H _ C h) λ u s1 ⟨x,H1,bg,bV,ba⟩=>?_);exact bQ (av pos pins s1 σ H1 _ bg ba) λ us s2 ⟨xs,ay,dd,cu,cm⟩=>⟨x::xs,ay,dd,.cons bV cu,cm⟩
noncomputable def KI (t:dh):TE:=λ σ H Q=>t σ H λ xs H1=>xs.length<=sizeLine /\ ∀ p,H1 p=none->Q (.ref p) (upd H1 p (.tup xs))
noncomputable def KC (t:dh):TE:=λ σ H Q=>t σ H λ xs H1=>xs.length<=sizeLine /\ ∀ p,H1 p=none->Q (.ref p) (upd H1 p (.lst xs))
theorem Xk {eh} (h:hS X es t):cG X (.Tuple es eh pos) (KI t):=by
 intro pins s σ H Q C aK;refine wpAny_Tuple_spliced (bQ (h pos pins s σ H _ C aK) λ us s1 ⟨xs,H1,bg,r,z,q⟩=>⟨by rw [<-r.length];exact z,?_⟩);have hf:H1 s1.heap.objs.size=none:=bg.bX.fresh (br _);refine ⟨.ref s1.heap.objs.size,upd H1 s1.heap.objs.size (.tup xs),bg.laid (t':=s1.toks) (λ b u e=>bW _ e) (br _) ?_,rfl,q _ hf⟩;exact ⟨z,us,r,⟨_,dI _ rfl,rfl,⟨_,rfl⟩,rfl⟩⟩
theorem Xf (h:hS X es t):cG X (.List es pos) (KC t):=by
 intro pins s σ H Q C aK;refine wpAny_List_spliced (bQ (h pos pins s σ H _ C aK) λ us s1 ⟨xs,H1,bg,r,z,q⟩=>⟨by rw [<-r.length];exact z,?_⟩);have hf:H1 s1.heap.objs.size=none:=bg.bX.fresh (br _);refine ⟨.ref s1.heap.objs.size,upd H1 s1.heap.objs.size (.lst xs),bg.laid (t':=s1.toks) (λ b u e=>bW _ e) (br _) ?_,rfl,q _ hf⟩;exact ⟨z,us,0,r,dI _ rfl⟩
end
noncomputable abbrev b9:=List V->aA->bN->jQ->Prop
noncomputable abbrev kE:=List Env->aA->Shared->jQ->Value->Shared->Prop
structure z_ (P:Program) (w:World) (K:dc) (ax:Str->dP) (base:Heap) (A:Around) (outer:List Env) (s:Shared) (H:aA):Prop where
 frames:A.frames=some outer
 mod:Mod K ax base
 bs : ∀ b o,base.get? b=some o->s.heap.get? b=some o/\H b=none
 oe:base.objs.size<=s.heap.objs.size
 nd:s.heap.FunFrames base outer
 ub : ∀ b∈kI outer,H b=none
 bX:fC P w H s.heap
 bare:AllBare s.gens
noncomputable def BN (outer:List Env) (P:Program) (w:World) (H:aA) (s:Shared) (Q:bN) (u:Value) (s':Shared):Prop :=
 ∃ v H',s'.os=s.os/\AllBare s'.gens/\g8 (kI outer) [] H H' s.heap s'.heap/\fC P w H' s'.heap/\RelV v u/\Q v H'
noncomputable def Qg (dN:kE) (outer:List Env) (P:Program) (w:World) (H:aA) (s:Shared) (Q:bN) (E:jQ) (r:Result) (s':Shared):Prop :=
 match r with
 | .ok (.ret u)=>BN outer P w H s Q u s'
 | .ok _=>False
 | .error e=>dN outer H s E e s'
structure ip (P:Program) (w:World) (K:dc) (ax:Str->dP) (base:Heap) (dN:kE) (k:Nat) (f:Addr) (fd:FuncData) (ps:cE) (sp:b9):Prop where
 len : ∀ ag H Q E,sp ag H Q E->ag.length=ps.length
 run : ∀ (A:Around) (outer:List Env) (s:Shared) (H:aA) (args:Args) (us:List Value) (ag:List V) (Q:bN) (E:jQ),gW k A->z_ P w K ax base A outer s H->BindsTo s fd args (ps.zip us)->Vals ag us->sp ag H Q E ->
  codeAny (model P w) A (.call (.ref f) args) (Qg dN outer P w H s Q E) s
theorem ip.imp {P:Program} {dN:kE} {k:Nat} {f:Addr} {fd:FuncData} {ps:cE} {sp JQ:b9} (F:ip P w K ax base dN k f fd ps sp)
  (h : ∀ ag H Q E,JQ ag H Q E->sp ag H Q E):ip P w K ax base dN k f fd ps JQ :=
 ⟨λ ag H Q E q=>F.len ag H Q E (h _ _ _ _ q),λ A outer s H args us ag Q E av he af bl aF=>F.run A outer s H args us ag Q E av he af bl (h _ _ _ _ aF)⟩
section
variable {X:a7} {σ:St} {H:aA} {s':Shared}
theorem Inv.UP (C:Inv X pins σ H s):z_ X.prog X.w X.K X.ax X.base X.A X.stack s H :=
 ⟨C.ok.frames,C.ok.mod,C.bs,et C.ok.oe C.l2,C.stack,C.FL,C.bX,C.bare⟩
theorem Inv.after {Q:bN} {u:Value} (C:Inv X pins σ H s) (h:BN X.stack X.prog X.w H s Q u s'):hl X pins σ Q u s':=by
 obtain ⟨v,H',os,bare,un,bX,r,q⟩:=h;obtain ⟨de,g,d,t,T7⟩:=s';obtain rfl:T7=s.os:=os;exact ⟨v,H',C.call (h':=de) (g':=g) (d':=d) (t':=t) (ch:=[]) un bX bare (λ b z=>absurd z .zs),r,q⟩
end
noncomputable def uP (sp:b9) (kH:List V) (E:jQ) (t:dh):TE:=λ σ H Q=>t σ H λ ag H1=>sp (ag++kH) H1 Q E
noncomputable def Binds (K:dc) (fd:FuncData) (ps:cE) (ds:List Value):Prop :=
 ∀ (s:Shared) (us:List Value),K.In s.heap->(us++ds).length=ps.length->BindsTo s fd ⟨us,[]⟩ (ps.zip (us++ds))
theorem Binds.all {fd:FuncData} {ps:cE} (h : ∀ us:List Value,us.length=ps.length->bindArgs fd ⟨us,[]⟩=pure (ps.zip us)):Binds K fd ps []:=λ s us _ ar=>by
 rw [mx] at ar ⊢;exact .of_eq (h us ar)
noncomputable def Passes (dN:kE) (X:a7) (E:jQ):Prop := ∀ (pins:eo) (σ:St) (H:aA) (s:Shared) (e:Value) (s':Shared),Inv X pins σ H s->dN X.stack H s E e s'->X.dB e s'
section
variable {X:a7} {dN:kE} {k:Nat} {f a9:Addr} {fd:FuncData} {ps:cE} {sp:b9} {kH:List V} {ds:List Value} {E:jQ} {x m:Str} {p pos apos:Pos} {e o:Expr} {es:List Expr} {bq:TE} {t:dh}
theorem LD {σ:St} {H:aA} {Q:bN} {ag:List V} (F:ip X.prog X.w X.K X.ax X.base dN k f fd ps sp) (av:gW k X.A) (af:Binds X.K fd ps ds) (hd:Vals kH ds) (ae:Passes dN X E)
  (C:Inv X pins σ H s) (r:Vals ag us) (h:sp (ag++kH) H Q E):wpAny (model X.prog X.w) X.A (call (.ref f) us) (hl X pins σ Q) X.dB s:=by
 have cu:Vals (ag++kH) (us++ds):=r.append hd;have ar:(us++ds).length=ps.length:=by rw [<-cu.length];exact F.len _ _ _ _ h
 refine wpAny_call (uT (F.run X.A X.stack s H ⟨us,[]⟩ (us++ds) (ag++kH) Q E av C.UP (af s us C.iO ar) cu h) λ r s' aK=>?_);cases r with
 | error e=>exact ae pins σ H s e s' C aK
 | ok gN =>
  cases gN with
  | ret u=>exact C.after aK
  | next=>exact False.elim aK
  | brk=>exact False.elim aK
  | cont=>exact False.elim aK
theorem Yv (F:ip X.prog X.w X.K X.ax X.base dN k f fd ps sp) (av:gW k X.A) (aR:d6 X x) (hm:X.ax x=some (.ref f)) (aE:PySem.W.keepIn X.K (.ref f)=true) (af:Binds X.K fd ps ds) (hd:Vals kH ds) (ae:Passes dN X E)
  (au:hS X (e::es) t) (hg:(x == ("__debug__" : Str))=false:=by decide) (he:starEach (e::es) X.env=(false,eval e X.env)::starEach es X.env:=by rfl) (fu:(backTo pos (starEach es X.env)).any (·.1)=false:=by rfl) :
  cG X (.Call (.Name x p) (e::es) [] pos) (uP sp kH E t):=by
 intro pins s σ H Q C h;refine xW (FC C aR hm ?_ hg);refine PySem.W.callWith_K (h₀:=X.base) C.ok.mod.DD aE (bQ (au pos pins s σ H _ C h) λ us s1 ⟨ag,H1,bg,r,q⟩=>⟨bg.iO,?_⟩) he fu;exact LD F av af hd ae bg r q
theorem ZU (F:ip X.prog X.w X.K X.ax X.base dN k f fd ps sp) (av:gW k X.A) (aR:d6 X x) (hm:X.ax x=some (.ref f)) (aE:PySem.W.keepIn X.K (.ref f)=true) (af:Binds X.K fd ps ds) (hd:Vals kH ds) (ae:Passes dN X E)
  (hg:(x == ("__debug__" : Str))=false:=by decide):cG X (.Call (.Name x p) [] [] pos) (uP sp kH E xE):=by
 intro pins s σ H Q C h;refine xW (FC C aR hm ?_ hg);exact PySem.W.callWith_K0 C.iO aE (LD (us:=[]) F av af hd ae C .nil h)
end
structure cg (N P:cE) (sc:Scope):Prop where
 kind:sc.kind=.function
 co:sc.isCoroutine=false
 gen:sc.isGenerator=false
 eM:N.Nodup
 pre:N.take P.length=P
 par : ∀ x∈P,sc.names.lookup x=some .local\/sc.names.lookup x=some .cell
 W7 : ∀ y∈sc.names,y.2≠.free
theorem NL {kindOf:Str->Option NameKind} {x:Str} : ∀ {binds:List (Str×Value)} {m:Str->dP},(∀ v,(x,v)∉binds)->bindL kindOf binds m x=m x
 | [],_,_=>rfl
 | (n,v)::r,m,h=>by
  unfold bindL;rw [NL λ w hw=>h w (eQ _ hw)];split
  ·have:x≠n:=by rintro rfl;exact h v d2
   simp [this]
  ·rfl
theorem NJ {kindOf:Str->Option NameKind} {x:Str} : ∀ {binds:List (Str×Value)} {m:Str->dP},(∀ v,(x,v)∉binds)->bindC kindOf binds m x=m x
 | [],_,_=>rfl
 | (n,v)::r,m,h=>by
  unfold bindC;rw [NJ λ w hw=>h w (eQ _ hw)];split
  ·rfl
  ·have:x≠n:=by rintro rfl;exact h v d2
   simp [this]
theorem NK {kindOf:Str->Option NameKind} {x:Str} {v:Value} : ∀ {P:cE} {ag:List Value} {i:Nat} {m:Str->dP},P.Nodup->P[i]?=some x->ag[i]?=some v->kindOf x=some .local ->
  bindL kindOf (P.zip ag) m x=some v
 | [],_,_,_,_,h,_,_=>by simp at h
 | _::_,[],_,_,_,_,h,_=>by simp at h
 | p::P,w::ag,0,m,eM,I,ah,aE=>by
  simp at I ah;subst I;subst ah;show bindL kindOf ((p,w)::P.zip ag) m p=_;unfold bindL;rw [NL λ v bl=>(List.nodup_cons.mp eM).1 (List.of_mem_zip bl).1,if_pos aE];simp
 | p::P,w::ag,i+1,m,eM,I,ah,aE=>by
  show bindL kindOf ((p,w)::P.zip ag) m x=_;unfold bindL;exact NK (i:=i) (List.nodup_cons.mp eM).2 (by simpa using I) (by simpa using ah) aE
theorem NI {kindOf:Str->Option NameKind} {x:Str} {v:Value} : ∀ {P:cE} {ag:List Value} {i:Nat} {m:Str->dP},P.Nodup->P[i]?=some x->ag[i]?=some v->kindOf x≠some .local ->
  bindC kindOf (P.zip ag) m x=some v
 | [],_,_,_,_,h,_,_=>by simp at h
 | _::_,[],_,_,_,_,h,_=>by simp at h
 | p::P,w::ag,0,m,eM,I,ah,aE=>by
  simp at I ah;subst I;subst ah;show bindC kindOf ((p,w)::P.zip ag) m p=_;unfold bindC;rw [NJ λ v bl=>(List.nodup_cons.mp eM).1 (List.of_mem_zip bl).1,if_neg aE];simp
 | p::P,w::ag,i+1,m,eM,I,ah,aE=>by
  show bindC kindOf ((p,w)::P.zip ag) m x=_;unfold bindC;exact NI (i:=i) (List.nodup_cons.mp eM).2 (by simpa using I) (by simpa using ah) aE
noncomputable def start (N:cE) (ag:List V):St:=ag.map some++List.replicate (N.length - ag.length) none
noncomputable def sS (dN:kE) (P:Program) (w:World) (K:dc) (ax:Str->dP) (base:Heap) (N:cE) (qual:Str) (scope:Scope) (f:Addr) (cd:Value) (A:Around) (outer:List Env) (s:Shared) (H:aA) (E:jQ):a7 where
 prog:=P
 w:=w
 K:=K
 ax:=ax
 base:=base
 A:=A.deeper (envOfC qual scope s.heap.objs.size f cd)
 N:=N
 s₀:=s
 H₀:=H
 env:=envOfC qual scope s.heap.objs.size f cd
 outer:=outer
 stack:=envOfC qual scope s.heap.objs.size f cd::outer
 ex:=[]
 calm:=true
 warm:=true
 fn:=λ _=>true
 hV:=[]
 dB:=λ e s'=>wpAny (model P w) (A.deeper (envOfC qual scope s.heap.objs.size f cd)) (leaving (envOfC qual scope s.heap.objs.size f cd) e) (λ _ ji=>dN outer H s E e ji) (λ bF ji=>dN outer H s E bF ji) s'
theorem MH {x:Str} (h:sc.names.lookup x=some .cell) : ∃ c,(cellsFrom n sc.names []).lookup x=some c:=by
 have q:=PySem.W.cellsFrom_some sc.names n [] (.inl h);exact Option.isSome_iff_exists.mp q
theorem aaW {dN:kE} {P:Program} {N ps:cE} {f:Addr} {outer:List Env} {s1:Shared} {H:aA} {E:jQ} {ag:List V}
  (S:cg N ps scope) (hd:A.handled=none) (cH:z_ P w K ax base A outer s H) (ar:ag.length=ps.length) (r:Vals ag us)
  (x:InCallC s s.heap.objs.size (bindL (envOfC qual scope s.heap.objs.size f cd).kindOf (ps.zip us) λ _=>none) (cellsFrom (s.heap.objs.size+1) scope.names []) (bindC (envOfC qual scope s.heap.objs.size f cd).kindOf (ps.zip us) λ _=>none) s1) :
  Inv (sS dN P w K ax base N qual scope f cd A outer s H E) [] (start N ag) H s1:=by
 have fu:ps.length<=N.length:=by have:=h3 List.length S.pre;rw [ff] at this;omega
 obtain ⟨I,bE,rfl,aE⟩:=x.done;have w_ : ∀ b:Addr,b∉(sS dN P w K ax base N qual scope f cd A outer s H E).ex:=λ b z=>absurd (show b∈([]:List Addr) from z) .zs
 refine ⟨⟨cH.mod,S.kind,rfl,rfl,br _,λ y z c I ah=>?_,λ y a8=>?_,λ y c _ h=>?_,⟨λ _=>hd,λ _=>.inl hd⟩,Around.frames_deeper cH.frames,.inr ⟨rfl,rfl⟩,λ b z=>absurd z (w_ b),cH.bs,cH.oe,λ b _ _=>w_ b,λ b z=>absurd z (w_ b),cH.nd,cH.ub⟩,
  rfl,cH.bare,g8.kept aE,⟨_,x.toInCall.ns,λ i y v I ah aD=>?_⟩,λ y c h=>⟨_,x.cell y c h⟩,cH.bX.fresh (br _),λ y c h=>?_,λ p ao=>absurd (show p∈([]:eo) from ao) .zs,cH.bX.kept aE,?_⟩
 ·exact name_of_addr x.apart (xX I) (xX ah)
 ·have a8:scope.names.lookup y=some .cell\/scope.names.lookup y=some .free:=a8;rcases a8 with a8 | a8
  ·exact MH a8
  ·exact absurd rfl (S.W7 _ (xX a8))
 ·exact Nat.le_of_lt (x.above y c (xX h))
 ·have aq:i<ag.length:=by
   unfold start at ah;by_cases aq:i<ag.length
   ·exact aq
   ·rw [g4 (by simpa using aq)] at ah;rw [xY] at ah;split at ah<;>cases ah
  have au:ag[i]?=some v:=by
   unfold start at ah;rw [gi (by simpa using aq),c9] at ah;cases e:ag[i]? with
   | none=>rw [e] at ah;cases ah
   | some a=>rw [e] at ah;cases ah;rfl
  obtain ⟨u,bM,cM⟩:=r.get au;have ao:ps[i]?=some y:=by
   rw [<-S.pre,qa .ab];exact I
  have JB:ps.Nodup:=by rw [<-S.pre];exact S.eM.sublist (List.take_sublist _ _)
  refine ⟨u,cM,?_⟩;rcases S.par y (cf ao) with k | k
  ·exact .inl ⟨k,NK JB ao bM k⟩
  ·obtain ⟨c,e⟩:=MH (n:=s.heap.objs.size+1) k;refine .inr ⟨.inl k,c,e,?_⟩;have q:=x.cell y c e;rw [NI JB ao bM (by show scope.names.lookup y≠_;rw [k];decide)] at q;exact q
 ·exact cH.bX.fresh (Nat.le_of_lt (x.above y c (xX h)))
 ·unfold start;show _=N.length;rw [cJ,a6,kk];omega
theorem VY {dN:kE} {P:Program} {k:Nat} {f:Addr} {name:Str} {params:Arguments} {y3 c2 bt cO:Value}
  {qY:Array dP} {N ps:cE} {sp:b9} (lk:K.lookup f=some ⟨g_,gO,.func (PySem.W.fnOf name qual params body scope y3 c2 doc pm an bt cO),qY⟩) (lu:PySem.W.codeIn K bt qual=true) (S:cg N ps scope)
  (len : ∀ ag H Q E,sp ag H Q E->ag.length=ps.length)
  (xJ : ∀ (A:Around) (outer:List Env) (s:Shared) (H:aA) (ag:List V) (Q:bN) (E:jQ),gW k (A.deeper (envOfC qual scope s.heap.objs.size f bt))->sp ag H Q E ->
   ∃ t,kF (sS dN P w K ax base N qual scope f bt A outer s H E) body t/\t { bO:=λ _ H'=>Q .cV H',l1:=Q } (start N ag) H) :
  ip P w K ax base dN (k+1) f (PySem.W.fnOf name qual params body scope y3 c2 doc pm an bt cO) ps sp:=by
 refine ⟨len,λ A outer s H args us ag Q E av cH af r qU=>?_⟩;have ar:=len _ _ _ _ qU;have nU:K.In s.heap:=cH.mod.DD.keeps λ b o e=>(cH.bs b o e).1
 have lim:s.heap.NoLimit:=cH.mod.nolimit.keeps λ b o e=>(cH.bs b o e).1
 have V1 : ∀ y∈ps.zip us,scope.names.lookup y.1=some .local\/(scope.names.lookup y.1=some .cell/\((cellsFrom (s.heap.objs.size+1) scope.names []).lookup y.1).isSome=true):=λ ⟨n,v⟩ a8=>by
  rcases S.par n (List.of_mem_zip a8).1 with q | q
  ·exact .inl q
  ·exact .inr ⟨q,PySem.W.cellsFrom_some _ _ _ (.inl q)⟩
 refine codeAny_call_function av.depth (nU _ _ lk) rfl S.co S.gen rfl (PySem.W.codeRec_of nU lu) (af _ _ _ _ ?_);refine wpAny_newFunctionEnv_cells S.kind V1 λ env he s1 x=>?_
 subst he;refine ⟨lim.keeps x.toInCall.keep,codeAny_func ?_⟩;obtain ⟨t,aW,aK⟩:=xJ A outer s H ag Q E (av.deeper _) qU;have C:Inv (sS dN P w K ax base N qual scope f bt A outer s H E) [] (start N ag) H s1:=aaW S av.hd cH ar r x;refine mv (aW [] s1 (start N ag) H _ C aK) (λ gN s' aF=>?_) λ e s' aF=>aF
 have fin : ∀ {σ':St} {H':aA} {v:V} {u:Value},Inv (sS dN P w K ax base N qual scope f bt A outer s H E) [] σ' H' s'->RelV v u->Q v H'->BN outer P w H s Q u s' :=
  λ {σ' H' v u} J cM q=>⟨v,H',J.os,J.bare,J.base,J.bX,cM,q⟩
 cases gN with
 | ret u =>
  obtain ⟨v,σ',H',J,cM,q⟩:=aF;exact fin J cM q
 | next =>
  obtain ⟨σ',H',J,q⟩:=aF;exact fin (v:=V.cV) (u:=Value.none) J rfl q
 | brk =>
  obtain ⟨_,_,_,q⟩:=aF;exact False.elim q
 | cont =>
  obtain ⟨_,_,_,q⟩:=aF;exact False.elim q
section
variable {X:a7} {x:Str} {p pos:Pos} {e:Expr} {es:List Expr} {t:dh} {id T:String} {r:List V->aA->bN->Prop}
noncomputable def ux (r:List V->aA->bN->Prop) (t:dh):TE:=λ σ H Q=>t σ H λ ag H1=>r ag H1 Q
theorem ZV (aj:fO X (.builtin id) r) (aR:d6 X x) (hm:X.ax x=none) (bl:bootBuiltins x=some (.builtin id)) (au:hS X (e::es) t) (az:x ≠ "__name__" := by decide) (hg:(x == ("__debug__" : Str))=false:=by decide)
  (he:starEach (e::es) X.env=(false,eval e X.env)::starEach es X.env:=by rfl) (fu:(backTo pos (starEach es X.env)).any (·.1)=false:=by rfl):cG X (.Call (.Name x p) (e::es) [] pos) (ux r t):=by
 intro pins s σ H Q C h;refine xW (lE C aR hm bl ?_ az hg);exact PyProof.Rows.callWith_builtin1 (bQ (au pos pins s σ H _ C h) λ us s1 ⟨ag,H1,bg,bV,ba⟩=>aj pins s1 σ H1 ag us Q bg bV ba) he fu
theorem aba (aj:fO X (.type T) r) (aR:d6 X x) (hm:X.ax x=none) (bl:bootBuiltins x=some (.type T)) (au:hS X (e::es) t) (az:x ≠ "__name__" := by decide) (hg:(x == ("__debug__" : Str))=false:=by decide)
  (he:starEach (e::es) X.env=(false,eval e X.env)::starEach es X.env:=by rfl) (fu:(backTo pos (starEach es X.env)).any (·.1)=false:=by rfl):cG X (.Call (.Name x p) (e::es) [] pos) (ux r t):=by
 intro pins s σ H Q C h;refine xW (lE C aR hm bl ?_ az hg);exact oT (bQ (au pos pins s σ H _ C h) λ us s1 ⟨ag,H1,bg,bV,ba⟩=>aj pins s1 σ H1 ag us Q bg bV ba) he fu
end
end bC
noncomputable abbrev bB:=List bC.V
noncomputable abbrev cq:=Option bC.V
variable {g:bC.iD} {o:bC.fy} {cT xs ys zs:bB} {σ σ0:bC.St} {H H' H1 ay:bC.aA} {J:bC.hB} {dx:bC.TT} {fa:bC.TI} {y:bC.V}
namespace el
open PySem PyProof.Rows
theorem MP (A:Around) (s:Shared) (a:Int) (t:Tok) (c:Int) (u:Tok) : ∃ e,SeqAt.EqAt A s (.int a t) (.int c u) e/\(e=true ↔ a=c) :=
 ⟨(a == c),EN a t c u,.zs⟩
theorem Ng (A:Around) (s:Shared) (a:Int) (t:Tok) (c:Int) (u:Tok) (prog:Program) (w:World) (E:bY) (Q:bY) (h:Q (.bool (decide (a<c))) s) :
  wpAny (model prog w) A (richCompare .Lt (.int a t) (.int c u)) Q E s :=
 (PyProof.Rows.lt_int h:wpAny (model prog w) A (compareOp .Lt (.int a t) (.int c u)) Q E s)
section
variable {E:bY}
theorem XX {t b:Addr} {ag ws:List Value} {Q:bY} (aW:IsTup s.heap t ag.toArray) (af:IsTup s.heap b ws.toArray) (bl:ag≠[])
  (I:ws=[]->Q (.ref t) s) (ah:ws≠[]->Q (.ref s.heap.objs.size) { s with heap:=s.heap.push { cls:=.type "tuple", data:=.seq (ag++ws).toArray } })
  (hsz:ag.length+ws.length<=sizeLine):wpAny (model prog w) A (binaryOp .Add (.ref t) (.ref b)) Q E s:=by
 obtain ⟨⟨cls,bD,data,cZ⟩,a0,aj,n,hd⟩:=id aW;obtain ⟨⟨UL,ua,data2,uw⟩,sE,pE,d0,hd2⟩:=id af;simp only at aj hd pE hd2;subst aj hd pE hd2;have e:ag.toArray++ws.toArray=(ag++ws).toArray:=by simp
 by_cases hw:ws=[]
 ·exact concat_meets ⟨_,a0,rfl⟩ ⟨_,sE,rfl⟩ noFill_tuple_add seq_tuple_add EO EP (ER _ _)
   (tuple_addW1 t b ag.toArray ws.toArray n d0 bD ua cZ uw (by simpa using bl) (by simp [hw])) ⟨a0,sE,I hw⟩
 ·refine concat_meets ⟨_,a0,rfl⟩ ⟨_,sE,rfl⟩ noFill_tuple_add seq_tuple_add EO EP (ER _ _)
   (tuple_addW2 t b ag.toArray ws.toArray n d0 bD ua cZ uw (by simpa using bl) (by simpa using hw) (by rw [eu,eu];exact hsz)) ⟨a0,sE,?_⟩
  rw [e];exact ah hw
noncomputable def cN (n d:Nat):Option Int->Nat
 | none=>d
 | some v=>if v<0 then (v+(n:Int)).toNat else min v.toNat n
theorem XF (n d:Nat) (hd:d<=n) (o:Option Int):cN n d o<=n:=by
 cases o with
 | none=>exact hd
 | some v =>
  show (if v<0 then (v+(n:Int)).toNat else min v.toNat n)<=n;by_cases bl:v<0
  ·rw [if_pos bl];omega
  ·rw [if_neg bl];exact Nat.min_le_right _ _
theorem Fl (v:Int) (n d:Nat):(if v<0 then max (v+(n:Int)) 0 else min v (n:Int))=((cN n d (some v):Nat):Int):=by
 show (if v<0 then max (v+(n:Int)) 0 else min v (n:Int))=(((if v<0 then (v+(n:Int)).toNat else min v.toNat n):Nat):Int);by_cases bl:v<0
 ·simp only [if_pos bl];omega
 ·simp only [if_neg bl];omega
theorem abL (lo aq:Option Int) (n:Nat):Builtin.Slice.sliceAdjust lo aq 1 (n:Int)=(((cN n 0 lo:Nat):Int),((cN n n aq:Nat):Int)):=by
 have I : ¬ ((1:Int)<0):=by omega
 unfold Builtin.Slice.sliceAdjust;simp only [I,if_false];refine Prod.ext ?_ ?_
 ·cases lo with
  | none=>rfl
  | some v=>exact Fl v n 0
 ·cases aq with
  | none=>rfl
  | some v=>exact Fl v n n
theorem ab7 (i j:Nat):Builtin.Slice.slicePlaces (i:Int) (j:Int) 1=j - i:=by
 unfold Builtin.Slice.slicePlaces;have I:(1:Int) > 0:=by omega
 simp only [I,kY,Int.ediv_one];split<;>omega
theorem OE {v:Value} {o:Option Int} {Q:Option Int->Shared->Prop} (p:IsPart v o) (h:Q o s):wpAny (model prog w) A (Builtin.Slice.slicePartIndex v) Q E s:=by
 cases p with
 | none=>exact slicePart_none h
 | int i t=>exact slicePart_int h
theorem Qb {aq:Option Int} {Q:Int×Int×Nat->Shared->Prop} (aF:s.heap.IsSliceOf cZ fK ha .none) (b5:IsPart fK lo) (pu:IsPart ha aq)
  (h:Q (((cN n 0 lo:Nat):Int),1,cN n n aq - cN n 0 lo) s):wpAny (model prog w) A (Builtin.Slice.sliceApplied (.ref cZ) (pure (n:Int))) Q E s:=by
 obtain ⟨os,sF,wM,wO⟩:=id aF;unfold Builtin.Slice.sliceApplied Builtin.Slice.sliceFields;refine aI (aI (fN sF wO (x:=fK) rfl (aI (fN sF wO (x:=ha) rfl (aI (fN sF wO (x:=.none) rfl (b2 ?_)))))));refine aI (slicePart_none ?_);show wpAny _ _ (if ((1:Int) == 0)=true then _ else _) _ _ s;rw [if_neg .aG];refine aI (OE b5 (aI (OE pu (aI (b2 ?_)))));show wpAny _ _ (match Builtin.Slice.sliceAdjust lo aq 1 (n:Int) with | (lo,aq)=>pure (lo,(1:Int),Builtin.Slice.slicePlaces lo aq 1)) _ _ s;rw [abL lo aq n];show wpAny _ _ (pure (((cN n 0 lo:Nat):Int),(1:Int),Builtin.Slice.slicePlaces ((cN n 0 lo:Nat):Int) ((cN n n aq:Nat):Int) 1)) _ _ s;rw [ab7];exact b2 h
theorem Z3 (xs:cn) (i k:Nat):((List.range k).filterMap λ (m:Nat)=>xs[((i:Int)+(m:Int) * 1).toNat]?).toArray=((xs.toList.drop i).take k).toArray:=by
 have e:(λ (m:Nat)=>xs[((i:Int)+(m:Int) * 1).toNat]?)=λ m=>xs[i+m]?:=by
  funext m;have:((i:Int)+(m:Int) * 1).toNat=i+m:=by omega
  rw [this]
 rw [e];have:=pick_run xs i k;rw [List.filterMap_map] at this;have aN:((λ x=>xs[x]?) ∘ λ x=>i+x)=λ m=>xs[i+m]?:=rfl
 rw [aN] at this;rw [this]
theorem aeq {t:Addr} {items:cn} {aq:Option Int} {Q:bY} (aW:IsTup s.heap t items) (aF:s.heap.IsSliceOf cZ fK ha .none) (b5:IsPart fK lo) (pu:IsPart ha aq)
  (hw : ¬ (cN items.size 0 lo=0/\cN items.size items.size aq=items.size))
  (h:Q (.ref s.heap.objs.size) { s with heap:=s.heap.push { cls:=.type "tuple", data:=.seq ((items.toList.drop (cN items.size 0 lo)).take (cN items.size items.size aq - cN items.size 0 lo)).toArray } })
  (hsz:items.size<=sizeLine):wpAny (model prog w) A (getItem (.ref t) (.ref cZ)) Q E s:=by
 have Ax:sizeOk (.seq ((items.toList.drop (cN items.size 0 lo)).take (cN items.size items.size aq - cN items.size 0 lo)).toArray):=by
  show ((items.toList.drop (cN items.size 0 lo)).take (cN items.size items.size aq - cN items.size 0 lo)).toArray.size<=sizeLine;rw [eu,ff,qb,mw];omega
 have aY:cN items.size items.size aq<=items.size:=XF _ _ (br _) aq;obtain ⟨os,sF,wM,wO⟩:=id aF;have CZ:s.TypeIs (.ref cZ) "slice" := ⟨os,sF,wM⟩
 unfold getItem
 try with_reducible refine kg ?_
 first | refine aI (b2 ?_) | skip
 refine aI (wpAny_sequenceKey aW.typeIs .aG ?_);refine aI (kW (name:=Str.ofString "__getitem__") aW.typeIs uU
  (kX uU aW.typeIs entry_tuple_getitem ?_ (args_tuple_getitem _ _)))
 show wpAny _ _ (Builtin.Tuple.tupleItemsOf (.ref t)>>=_) _ _ s;refine aI (tupleItemsOf_ aW ?_);refine aI (xZ CZ ?_);rw [if_pos .aG];refine aI (Qb aF b5 pu ?_);have ox : ¬ ((((cN items.size 0 lo:Nat):Int) == 0&&(1:Int) == 1&&(cN items.size items.size aq - cN items.size 0 lo) == items.size)=true):=by
  intro q;rw [h4,h4] at q;have ba:((cN items.size 0 lo:Nat):Int)=0:=kl q.1.1;have cm:cN items.size items.size aq - cN items.size 0 lo=items.size:=kl q.2;exact hw ⟨.ab,.ab⟩
 show wpAny _ _ (if (((cN items.size 0 lo:Nat):Int) == 0&&(1:Int) == 1&&(cN items.size items.size aq - cN items.size 0 lo) == items.size)=true then _ else _) _ _ s;rw [if_neg ox,Z3]
 first
  | exact aI (m:=Builtin.Tuple.tupleExact _) (mj (b2 ⟨_,rfl,b2 h⟩) Ax)
  | exact aI (m:=Builtin.Tuple.tupleExact _) (mj (aI (b2 (b2 ⟨_,rfl,b2 h⟩))) Ax)
  | exact aI (aI (m:=Builtin.Tuple.tupleExact _) (mj (b2 (b2 ⟨_,rfl,b2 h⟩)) Ax))
  | exact aI (aI (m:=Builtin.Tuple.tupleExact _) (mj (b2 ⟨_,rfl,b2 h⟩) Ax))
end
end el
namespace bC
open PySem PySem.Spec PyProof.Rows
noncomputable abbrev c4:=St->aA->(Option Int->aA->Prop)->Prop
noncomputable def vL (X:a7) (e:Option Expr) (t:c4):Prop :=
 ∀ (pins:eo) (s:Shared) (σ:St) (H:aA) (Q:Option Int->aA->Prop),Inv X pins σ H s->t σ H Q ->
  wpAny (model X.prog X.w) X.A (evalPart e X.env) (λ u s' => ∃ o H',Inv X pins σ H' s'/\IsPart u o/\Q o H') X.dB s
noncomputable def Ms:c4:=λ _ H Q=>Q none H
noncomputable def La (t:TE):c4:=λ σ H Q=>t σ H λ x H1 => ∃ i,x=.int i/\Q (some i) H1
theorem intsAre_of : ∀ {us:List Value},Vals (ns.map V.int) us->IntsAre us ns:=by
 induction ns with
 | nil=>intro us r;rw [List.map_nil] at r;cases r;exact .nil
 | cons n ns b0 =>
  intro us r;rw [jo] at r;cases r with
  | cons bV cu =>
   obtain ⟨t,e⟩:=bV;subst e;exact .cons n t (b0 cu)
section
variable {X:a7} {e:Expr} {a4:TE} {lo aq:Option Expr} {en t4:c4} {pos cS:Pos}
theorem YC:vL X none Ms:=by
 intro pins s σ H Q C h;rw [evalPart_none];exact b2 ⟨none,H,C,.none,h⟩
theorem YD (h:cG X e a4):vL X (some e) (La a4):=by
 intro pins s σ H Q C hw;rw [evalPart_some];refine bQ (h pins s σ H _ C hw) λ u s1 ⟨x,H1,bg,bV,ba⟩=>?_
 obtain ⟨i,rfl,q⟩:=ba;obtain ⟨t,rfl⟩:=bV;exact ⟨some i,H1,bg,.int i t,q⟩
noncomputable def kG (X:a7) (r:V->Option Int->Option Int->aA->bN->Prop):Prop :=
 ∀ (pins:eo) (s:Shared) (σ:St) (H:aA) (x:V) (v fK ha:Value) (lo aq:Option Int) (cZ:Addr) (Q:bN),Inv X pins σ H s->RelV x v->s.heap.IsSliceOf cZ fK ha .none->IsPart fK lo->IsPart ha aq->r x lo aq H Q ->
  ∃ T id,typeLookup (.type T) "__getitem__" = pure (some (.builtin id))/\s.TypeIs v T/\wpAny (model X.prog X.w) X.A (getItem v (.ref cZ)) (hl X pins σ Q) X.dB s
theorem kG.or {r bU:V->Option Int->Option Int->aA->bN->Prop} (h:kG X r) (h':kG X bU):kG X (λ x lo aq H Q=>r x lo aq H Q\/bU x lo aq H Q):=by
 intro pins s σ H x v fK ha lo aq cZ Q C bA aF b5 pu q;rcases q with q | q
 ·exact h pins s σ H x v fK ha lo aq cZ Q C bA aF b5 pu q
 ·exact h' pins s σ H x v fK ha lo aq cZ Q C bA aF b5 pu q
noncomputable def JW (r:V->Option Int->Option Int->aA->bN->Prop) (a4:TE) (en t4:c4):TE:=λ σ H Q=>a4 σ H λ x H1=>en σ H1 λ l ay=>t4 σ ay λ u aM=>r x l u aM Q
theorem ZZ {r:V->Option Int->Option Int->aA->bN->Prop} (av:kG X r) (he:cG X e a4) (ar:vL X lo en) (bM:vL X aq t4):cG X (.Subscript e (.Slice lo aq none cS) pos) (JW r a4 en t4):=by
 intro pins s σ H Q C h;refine Subscript_ (bQ (he pins s σ H _ C h) λ v s1 ⟨x,H1,bg,bV,ba⟩=>?_);refine wpAny_Slice (bQ (ar pins s1 σ H1 _ bg ba) λ fK s2 ⟨l,ay,dd,b5,cm⟩=>bQ (bM pins s2 σ ay _ dd cm) λ ha s3 ⟨u,aM,cU,pu,gP⟩=>?_);rw [evalPart_none];refine b2 ?_;have mL:Inv X pins σ aM { s3 with heap:=s3.heap.push { cls:=.type "slice", data:=.fields #[fK,ha,.none] } }:=cU.kept (t':=s3.toks) λ b da q=>bW _ q
 obtain ⟨T,id,ck,aW,aR⟩:=av pins { s3 with heap:=s3.heap.push { cls:=.type "slice", data:=.fields #[fK,ha,.none] } } σ aM x v fK ha l u s3.heap.objs.size Q mL bV (Heap.IsSliceOf.new ..) b5 pu gP;show wpAny (model X.prog X.w) X.A (subscriptTail e (.Slice lo aq none cS) v (.ref s3.heap.objs.size)) (hl X pins σ Q) X.dB { s3 with heap:=s3.heap.push { cls:=.type "slice", data:=.fields #[fK,ha,.none] } };exact tail_any (ops:=[.ref s3.heap.objs.size,v]) aW ck aR (by with_unfolding_all rfl)
noncomputable def hM (xs:bB) (lo aq:Option Int):bB:=(xs.drop (el.cN xs.length 0 lo)).take (el.cN xs.length xs.length aq - el.cN xs.length 0 lo)
theorem OW (xs:bB) (lo aq:Option Int):(hM xs lo aq).length<=xs.length:=by
 unfold hM;rw [ff,qb];omega
noncomputable def Ei (K:dc):V->Option Int->Option Int->aA->bN->Prop:=λ x lo aq H Q => ∃ a xs,x=.ref a/\aP K H a xs /\
 ¬ (el.cN xs.length 0 lo=0/\el.cN xs.length xs.length aq=xs.length) /\ ∀ p,H p=none->Q (.ref p) (upd H p (.tup (hM xs lo aq)))
theorem XG:kG X (Ei X.K):=by
 intro pins s σ H x v fK ha lo aq cZ Q C bA aF b5 pu h;obtain ⟨a,xs,rfl,ae,hw,q⟩:=h;cases bA;obtain ⟨its,r,aW,aS⟩:=C.tuple ae;have hlen:its.toArray.size=xs.length:=by rw [eu];exact r.length.symm
 refine ⟨"tuple", _,uU.lookup,aW.typeIs,?_⟩;refine el.aeq aW aF b5 pu (by rw [hlen];exact hw) ?_ (by rw [hlen];exact aS);rw [hlen];refine ⟨.ref s.heap.objs.size,_,C.laid (t':=s.toks) (o:=.tup (hM xs lo aq)) (λ b da q=>bW _ q) (br _) ?_,rfl,q _ (C.bX.fresh (br _))⟩;exact ⟨et (OW xs lo aq) aS,_,(r.drop (el.cN xs.length 0 lo)).take (el.cN xs.length xs.length aq - el.cN xs.length 0 lo),nx.new _ _⟩
noncomputable def EF (K:dc):fo:=λ x y H Q => ∃ a b xs ys,x=.ref a/\y=.ref b/\aP K H a xs/\aP K H b ys/\xs≠[]/\xs.length+ys.length<=sizeLine /\
 (ys=[]->Q (.ref a) H)/\(ys≠[] -> ∀ p,H p=none->Q (.ref p) (upd H p (.tup (xs++ys))))
theorem Vals.A9 (r:Vals xs us):us=[] ↔ xs=[]:=by
 cases r with
 | nil=>simp
 | cons _ _=>simp
theorem Yp:dt X (binaryOp .Add) (EF X.K):=by
 intro pins s σ H x y v u Q C bA bL h;obtain ⟨a,b,xs,ys,rfl,rfl,au,af,ae,aS,ba,cm⟩:=h;cases bA;cases bL;obtain ⟨its,bV,p1,_⟩:=C.tuple au;obtain ⟨lA,cu,cS,_⟩:=C.tuple af;refine el.XX p1 cS (λ z=>ae (bV.A9.mp z)) (λ z=>⟨.ref a,H,C,rfl,ba (cu.A9.mp z)⟩) (λ z=>?_) (by rw [<-bV.length,<-cu.length];exact aS);refine ⟨.ref s.heap.objs.size,_,C.laid (t':=s.toks) (o:=.tup (xs++ys)) (λ b da q=>bW _ q) (br _) ?_,rfl,cm (λ w=>z (cu.A9.mpr w)) _ (C.bX.fresh (br _))⟩;exact ⟨by rw [cJ];exact aS,_,bV.append cu,nx.new _ _⟩
end
noncomputable def m3 (n:Nat) (i:Int):Option Nat:=if 0<=i then (if i<n then some i.toNat else none) else if -(n:Int)<=i then some (i+n).toNat else none
noncomputable def lq {α : Type} (xs:List α) (i:Int):Option α := (m3 xs.length i).bind λ j=>xs[j]?
theorem L8 {i:Int} {j:Nat} (h:m3 n i=some j):seqIndex? i n=some j/\j<n /\ -(n:Int)<=i/\i<n:=by
 unfold m3 at h;by_cases h0:0<=i
 ·rw [if_pos h0] at h;by_cases I:i<n
  ·rw [if_pos I] at h;have e:i.toNat=j:=eA h;exact ⟨by rw [seqIndex_of h0 I,e],.ab,.ab,I⟩
  ·rw [if_neg I] at h;cases h
 ·rw [if_neg h0] at h;by_cases I : -(n:Int)<=i
  ·rw [if_pos I] at h;have e:(i+n).toNat=j:=eA h;exact ⟨by rw [seqIndex_neg .ab I,e],.ab,I,.ab⟩
  ·rw [if_neg I] at h;cases h
theorem LP {α: Type} {xs:List α} {i:Int} {v: α} (h:lq xs i=some v) : ∃ j,seqIndex? i xs.length=some j/\xs[j]?=some v/\j<xs.length /\ -(xs.length:Int)<=i/\i<xs.length:=by
 unfold lq at h;cases e:m3 xs.length i with
 | none=>rw [e] at h;cases h
 | some j =>
  rw [e] at h;obtain ⟨I,ah,aD,aL⟩:=L8 e;exact ⟨j,I,h,ah,aD,aL⟩
theorem qp {α: Type} {xs:List α} {j:Nat} {v: α} (h:xs[j]?=some v):lq xs (j:Int)=some v:=by
 have aY:j<xs.length:=(cL.mp h).1;have e:m3 xs.length (j:Int)=some j:=by
  unfold m3;rw [if_pos .ab,if_pos .ab];simp
 unfold lq;rw [e];exact h
theorem Zf {α: Type} (xs:List α) (v : α):lq (xs++[v]) (-1)=some v:=by
 have ar:(xs++[v]).length=xs.length+1:=by simp
 have e:m3 (xs++[v]).length (-1)=some xs.length:=by
  unfold m3;rw [ar,if_neg .aG,if_pos .ab];congr 1;omega
 unfold lq;rw [e];show (xs++[v])[xs.length]?=some v;simp
noncomputable def LO (b:Expr):Prop := ∀ o i,subscripted b false o i=operate [o,i] (getItem o i)
noncomputable def t9 (X:a7) (r:fo):Prop :=
 ∀ (value slice:Expr) (pins:eo) (s:Shared) (σ:St) (H:aA) (x y:V) (v u:Value) (Q:bN),Inv X pins σ H s->RelV x v->RelV y u->r x y H Q ->
  subscripted slice false v u=operate [v,u] (getItem v u)->wpAny (model X.prog X.w) X.A (subscriptTail value slice v u) (hl X pins σ Q) X.dB s
noncomputable def Iu (X:a7) (id:String) (r:V->bB->aA->bN->Prop):Prop :=
 ∀ (pins:eo) (s:Shared) (σ:St) (H:aA) (x:V) (xs:bB) (v:Value) (us:List Value) (Q:bN),Inv X pins σ H s->RelV x v->Vals xs us->r x xs H Q ->
  wpAny (model X.prog X.w) X.A (call (.builtin id) (v::us)) (hl X pins σ Q) X.dB s
section
variable {X:a7} {a b:Expr} {bq tb:TE} {pos:Pos}
theorem Wj {r:fo} (av:t9 X r) (au:cG X a bq) (af:cG X b tb) (aF:LO b):cG X (.Subscript a b pos) (q3 r bq tb):=by
 intro pins s σ H Q C h;exact Subscript_ (D1 au af C h λ v u s2 x y ay dd bA bL q=>av a b pins s2 σ ay x y v u Q dd bA bL q (aF _ _))
noncomputable def Ku (K:dc):fo:=λ x y H Q => ∃ p xs i v,x=.ref p/\y=.int i/\aQ K H p xs/\lq xs i=some v/\Q v H
noncomputable def Kv (K:dc):fo:=λ x y H Q => ∃ p xs i v,x=.ref p/\y=.int i/\aP K H p xs/\lq xs i=some v/\Q v H
theorem f3:t9 X (Ku X.K):=by
 intro value slice pins s σ H x y v u Q C bA bL h aF;obtain ⟨p,xs,i,z,rfl,rfl,aK,he,q⟩:=h;cases bA;obtain ⟨t,rfl⟩:=bL;obtain ⟨its,r,b5,aS⟩:=C.list aK;obtain ⟨j,I,ah,aD,aL,cp⟩:=LP he;obtain ⟨w,lh,ik⟩:=r.get ah;have ar:=r.length;have az:=x2;have fin:hl X pins σ Q w s:=⟨z,H,C,ik,q⟩
 by_cases h0:0<=i
 ·have aY:i.toNat=j:=by
   rw [seqIndex_of h0 cp] at I;exact eA I
  exact item_listR b5.isList h0 .ab (by rw [aY];simpa using lh) fin aF
 ·have aY:(i+(its.toArray.size:Int)).toNat=j:=by
   rw [seqIndex_neg .ab aL] at I;rw [eu,<-ar];exact eA I
  exact subscriptTail_builtinR (x:=w) b5.isList.typeIs slot_list_getitem.lookup
   (wpAny_getItem_list_neg (Q:=λ r s'=>r=w/\hl X pins σ Q r s') b5.isList .ab (by rw [eu]<;>omega) .ab (by rw [aY];simpa using lh) ⟨rfl,fin⟩) aF
theorem fP:t9 X (Kv X.K):=by
 intro value slice pins s σ H x y v u Q C bA bL h aF;obtain ⟨p,xs,i,z,rfl,rfl,aK,he,q⟩:=h;cases bA;obtain ⟨t,rfl⟩:=bL;obtain ⟨its,r,b5,aS⟩:=C.tuple aK;obtain ⟨j,I,ah,aD,aL,cp⟩:=LP he;obtain ⟨w,lh,ik⟩:=r.get ah;have ar:=r.length;have az:=x2;have fin:hl X pins σ Q w s:=⟨z,H,C,ik,q⟩
 exact subscriptTail_builtinR (x:=w) b5.typeIs slot_tuple_getitem.lookup
  (getItem_tuple (j:=j) (Q:=λ r s'=>r=w/\hl X pins σ Q r s') b5 .ab .ab (by rw [eu,<-ar];exact I) (by simpa using lh) ⟨rfl,fin⟩) aF
theorem abV (its:List Value) (n j:Nat) (u:Value):Obj.mapSeq (·.setIfInBounds j u) { cls:=.type "list", data:=.seq its.toArray n }={ cls:=.type "list", data:=.seq (its.set j u).toArray n }:=by
 simp [Obj.mapSeq]
theorem Inv.lst {p:Addr} (C:Inv X pins σ H s) (h:H p=some (.lst xs)) :
  ∃ (its:List Value) (n:Nat),Vals xs its/\s.heap.get? p=some { cls:=.type "list", data:=.seq its.toArray n }/\xs.length<=sizeLine:=by
 obtain ⟨z,its,n,r,e⟩:=C.bX p _ h;exact ⟨its,n,r,e,z⟩
theorem Inv.W0 {p:Addr} {its':List Value} {cD:Nat} {f:Obj->Obj} (C:Inv X pins σ H s) (h:H p=some (.lst xs))
  (a0:s.heap.get? p=some { cls:=.type "list", data:=.seq its.toArray n }) (hf:f { cls:=.type "list", data:=.seq its.toArray n }={ cls:=.type "list", data:=.seq its'.toArray cD }) (r:Vals ys its') (aS:ys.length<=sizeLine) (t:Nat) :
  Inv X pins σ (upd H p (.lst ys)) { s with heap:=s.heap.update p f,toks:=t }:=by
 have e:(s.heap.update p f).get? p=some { cls:=.type "list", data:=.seq its'.toArray cD }:=by
  rw [s7 f a0 (by rw [hf]<;>rfl),hf]
 refine C.write (x:=p) (e:=p) (by rw [h];trivial) (.inl rfl) (λ b u af q=>(p9 _ _ (nt af)).trans q) ⟨_,e⟩ ?_;exact ⟨aS,its',cD,r,e⟩
noncomputable def K4:V->V->V->aA->(aA->Prop)->Prop:=λ o i v H Q => ∃ p xs k j,o=.ref p/\i=.int k/\H p=some (.lst xs)/\m3 xs.length k=some j/\Q (upd H p (.lst (xs.set j v)))
theorem set_list:Aa X K4:=by
 intro pins s σ H o i v eO d4 u Q C f7 hW cM h;obtain ⟨p,xs,k,j,rfl,rfl,ao,aY,q⟩:=h;cases f7;obtain ⟨t,rfl⟩:=hW;obtain ⟨its,n,r,a0,aS⟩:=C.lst ao;obtain ⟨I,ah,aD,aL⟩:=L8 aY;have ar:=r.length;have az:=x2;have nT:Inv X pins σ (upd H p (.lst (xs.set j v))) { s with heap:=s.heap.update p (Obj.mapSeq (·.setIfInBounds j u)) } :=
  C.W0 ao a0 (abV its n j u) (r.set cM j) (by rw [jI];exact aS) s.toks
 by_cases h0:0<=k
 ·have aE:k.toNat=j:=by
   rw [seqIndex_of h0 aL] at I;exact eA I
  exact PySem.W.ki_setAt a0 h0 .ab (by rw [eu,<-ar];exact aL) (by rw [aE];exact ⟨_,nT,q⟩)
 ·have aE:(k+(its.toArray.size:Int)).toNat=j:=by
   rw [seqIndex_neg .ab aD] at I;rw [eu,<-ar];exact eA I
  exact PySem.W.ki_setBack a0 .ab (by rw [eu,<-ar];exact aD) .ab (by rw [aE];exact ⟨_,nT,q⟩)
theorem adm (lo aq:Option Int) (n:Nat):(sliceBounds lo aq none n).1=((el.cN n 0 lo:Nat):Int)/\(sliceBounds lo aq none n).2.1=((el.cN n n aq:Nat):Int)/\(sliceBounds lo aq none n).2.2=1:=by
 refine ⟨?_,?_,rfl⟩
 ·cases lo with
  | none=>simp [sliceBounds,el.cN]
  | some i =>
   simp only [sliceBounds,el.cN,Option.getD_none,show (1:Int) > 0 by decide,kY];by_cases h:i<0
   ·simp only [h,kY]<;>omega
   ·simp only [h,if_false]<;>omega
 ·cases aq with
  | none=>simp [sliceBounds,el.cN]
  | some i =>
   simp only [sliceBounds,el.cN,Option.getD_none,show (1:Int) > 0 by decide,kY];by_cases h:i<0
   ·simp only [h,kY]<;>omega
   ·simp only [h,if_false]<;>omega
theorem adR (its:List Value) (lo aq:Option Int):slicePick its.toArray lo aq none=((its.drop (el.cN its.length 0 lo)).take (el.cN its.length its.length aq - el.cN its.length 0 lo)).toArray:=by
 obtain ⟨I,ah,aD⟩:=adm lo aq its.toArray.size;unfold slicePick;rw [I,ah,aD];simp only [sliceRange_one,pick_run,eu]<;>rfl
noncomputable def VJ (K:dc):V->Option Int->Option Int->aA->bN->Prop:=λ x lo aq H Q => ∃ a xs,x=.ref a/\aQ K H a xs /\ ∀ p,H p=none->Q (.ref p) (upd H p (.lst (hM xs lo aq)))
theorem tw:kG X (VJ X.K):=by
 intro pins s σ H x v fK ha lo aq cZ Q C bA aF b5 pu h;obtain ⟨a,xs,rfl,ae,q⟩:=h;cases bA;obtain ⟨its,r,aW,aS⟩:=C.list ae;have hlen:=r.length;refine ⟨"list", _,slot_list_getitem.lookup,aW.isList.typeIs,?_⟩;refine wpAny_getItem_list_slice aW.isList aF b5 pu .none .zs ?_ (by rw [eu]<;>omega);rw [adR,<-hlen];refine ⟨.ref s.heap.objs.size,_,C.laid (t':=s.toks) (o:=.lst (hM xs lo aq)) (λ b da q=>bW _ q) (br _) ?_,rfl,q _ (C.bX.fresh (br _))⟩;exact ⟨et (OW xs lo aq) aS,_,0,(r.drop (el.cN xs.length 0 lo)).take (el.cN xs.length xs.length aq - el.cN xs.length 0 lo),dI _ rfl⟩
theorem ew:fO X (.builtin "len") (λ xs H Q => ∃ p ys,xs=[.ref p]/\(aQ X.K H p ys\/aP X.K H p ys)/\Q (.int ys.length) H):=by
 intro pins s σ H xs us Q C r h;obtain ⟨p,ys,rfl,aK,q⟩:=h;obtain ⟨u,rfl,bA⟩:=vals1 r;cases bA;have az:=x2;rcases aK with aK | aK
 ·obtain ⟨its,bU,b5,aS⟩:=C.list aK;have hlen:=bU.length;exact Calls.call_len_list b5.isList (by simp only [eu]<;>omega) ⟨.int ys.length,H,C.tok _,⟨s.toks+1,by rw [eu,hlen]⟩,q⟩
 ·obtain ⟨its,bU,b5,aS⟩:=C.tuple aK;have hlen:=bU.length;exact len_tuple b5 (by simp only [eu]<;>omega) ⟨.int ys.length,H,C.tok _,⟨s.toks+1,by rw [eu,hlen]⟩,q⟩
theorem acX:fO X (.type "list") (λ xs H Q => ∃ p ys,xs=[.ref p]/\(aQ X.K H p ys\/aP X.K H p ys) /\ ∀ l,H l=none->Q (.ref l) (upd H l (.lst ys))):=by
 intro pins s σ H xs us Q C r h;obtain ⟨p,ys,rfl,aK,q⟩:=h;obtain ⟨u,rfl,bA⟩:=vals1 r;cases bA;have fin : ∀ (its:List Value),Vals ys its->ys.length<=sizeLine -> ∀ (h':Heap) (bG:Nat),(∀ b e0,s.heap.get? b=some e0->h'.get? b=some e0) ->
   h'.get? s.heap.objs.size=some { cls:=.type "list", dict:=none,data:=.seq its.toArray bG,slots:=#[] }->hl X pins σ Q (.ref s.heap.objs.size) { s with heap:=h' }:=λ its bU aS h' bG d5 e =>
  ⟨.ref s.heap.objs.size,_,C.laid (t':=s.toks) d5 (br _) (show fw X.prog X.w _ h' _ (.lst ys) from ⟨aS,its,bG,bU,e⟩),rfl,q _ (C.bX.fresh (br _))⟩
 rcases aK with aK | aK
 ·obtain ⟨its,bU,b5,aS⟩:=C.list aK;have hlen:=bU.length;obtain ⟨o,a0,aj,n,hd⟩:=b5.isList;exact call_list_seq p (.inl rfl) a0 aj hd (λ h' bG d5 e=>fin its bU aS h' bG d5 e) (by simp only [eu]<;>omega)
 ·obtain ⟨its,bU,b5,aS⟩:=C.tuple aK;have hlen:=bU.length;obtain ⟨o,a0,aj,n,hd⟩:=b5;exact call_list_seq p (.inr rfl) a0 aj hd (λ h' bG d5 e=>fin its bU aS h' bG d5 e) (by simp only [eu]<;>omega)
theorem yL:fO X (.type "tuple") (λ xs H Q => ∃ p ys,xs=[.ref p]/\((aQ X.K H p ys /\ ∀ l,H l=none->Q (.ref l) (upd H l (.tup ys)))\/(aP X.K H p ys/\Q (.ref p) H))):=by
 intro pins s σ H xs us Q C r h;obtain ⟨p,ys,rfl,h⟩:=h;obtain ⟨u,rfl,bA⟩:=vals1 r;cases bA;rcases h with ⟨aK,q⟩ | ⟨aK,q⟩
 ·obtain ⟨its,bU,b5,aS⟩:=C.list aK;have hlen:=bU.length;refine call_tuple_list b5.isList (λ h' d5=>?_) (by simp only [eu]<;>omega);have bg:Inv X pins σ H { s with heap:=h' }:=C.kept (t':=s.toks) d5;have dd:Inv X pins σ (upd H h'.objs.size (.tup ys)) { s with heap:=h'.push { cls:=.type "tuple", data:=.seq its.toArray } } :=
   bg.laid (t':=s.toks) (λ b o e=>bW _ e) (br _) (show fw X.prog X.w _ _ _ (.tup ys) from ⟨aS,its,bU,nx.new _ _⟩)
  exact ⟨.ref h'.objs.size,_,dd,rfl,q _ (bg.bX.fresh (br _))⟩
 ·obtain ⟨its,bU,b5,aS⟩:=C.tuple aK;exact call_tuple_same b5 ⟨.ref p,H,C,rfl,q⟩
noncomputable def J0 (K:dc) (T:String) (x:V) (H:aA):Prop:=match x with
 | .str _=>T = "str"
 | .int _=>T = "int"
 | .ref p=>(T = "list" /\ ∃ xs,aQ K H p xs)\/(T = "tuple" /\ ∃ o,K.lookup p=some o/\o.cls=.type "tuple" /\ o.dict=none) \/
   (T = "dict" /\ ((∃ aU,H p=some (.gM aU)) \/ ∃ aU,H p=some (.f5 aU)))\/(T = "set" /\ ∃ S n,H p=some (.set S n))
 | _=>False
theorem XN {T:String} {x:V} {v:Value} (C:Inv X pins σ H s) (r:RelV x v) (ty:J0 X.K T x H) :
  s.TypeIs v T /\ ∀ a,v=.ref a -> ∃ da,s.heap.get? a=some da/\da.dict=none:=by
 cases x with
 | str z =>
  obtain ⟨t,rfl⟩:=r;cases (show T = "str" from ty);exact ⟨typeIs_str s z t,λ _ e=>nomatch e⟩
 | int i =>
  obtain ⟨t,rfl⟩:=r;cases (show T = "int" from ty);exact ⟨x4 s i t,λ _ e=>nomatch e⟩
 | ref p =>
  cases r;rcases ty with ⟨rfl,xs,aK⟩ | ⟨rfl,o,aE,aj,hd⟩ | ⟨rfl,aE⟩ | ⟨rfl,S,n,aE⟩
  ·obtain ⟨its,_,b5,_⟩:=C.list aK;refine ⟨b5.isList.typeIs,λ a e=>?_⟩;cases e;obtain ⟨o,n,e,c,hd,_⟩:=b5;exact ⟨o,e,hd⟩
  ·refine ⟨⟨o,C.iO p o aE,aj⟩,λ a e=>?_⟩;cases e;exact ⟨o,C.iO _ o aE,hd⟩
  ·have z : ∃ o,s.heap.get? p=some o/\o.ExactDict:=by
    rcases aE with ⟨aU,aE⟩ | ⟨aU,aE⟩
    ·obtain ⟨_,_,_,_,o,_,_,e,ex,_⟩:=C.bX p _ aE;exact ⟨o,e,ex⟩
    ·obtain ⟨_,_,_,_,o,_,_,e,ex,_⟩:=C.bX p _ aE;exact ⟨o,e,ex⟩
   obtain ⟨o,e,ex⟩:=z;refine ⟨⟨o,e,ex.1⟩,λ a aN=>?_⟩;cases aN;exact ⟨o,e,ex.2.1⟩
  ·obtain ⟨o,_,_,_,e,ex,_⟩:=C.bX p _ aE;refine ⟨⟨o,e,ex.1⟩,λ a aN=>?_⟩;cases aN;exact ⟨o,e,ex.2.1⟩
 | _=>exact False.elim ty
noncomputable def JT (K:dc) (T:String) (r:V->bB->aA->bN->Prop) (to:TE) (t:dh):TE:=λ σ H Q=>to σ H λ x H1=>J0 K T x H1/\t σ H1 λ xs ay=>r x xs ay Q
variable {o e:Expr} {es:List Expr} {to:TE} {t:dh} {name:Str} {apos gd:Pos} {T id:String} {r:V->bB->aA->bN->Prop}
theorem Wi (i8:PlainAttrs T) (slot:Slot T name id) (Dt:typeOf (.builtin id)=pure (.type "method_descriptor")) (hm:Iu X id r) (a0:cG X o to) (au:hS X (e::es) t)
  (Eu:attributeBase o name X.env (eval o X.env)=eval o X.env:=by rfl)
  (Ad:((backTo gd (starEach (e::es) X.env)).all (λ x => !x.1)&&(backToKw gd (keywordEach [] X.env)).all (λ x=>x.1.isSome)
   && decide ((e::es).length+([]:List Keyword).length+(if ([]:List Keyword).isEmpty then 0 else 1)<30))=true:=by rfl)
  (Ew:(apos.endLine == gd.line)=true:=by rfl) (aF:starEach (e::es) X.env=(false,eval e X.env)::starEach es X.env:=by rfl) (x1:(backTo gd (starEach es X.env)).any (·.1)=false:=by rfl) :
  cG X (.Call (.Attribute o name apos) (e::es) [] gd) (JT X.K T r to t):=by
 intro pins s σ H Q C h;refine wpAny_Call_method_late Eu Ad Ew rfl (bQ (a0 pins s σ H _ C h) λ v s1 ⟨x,H1,bg,bV,ty,ba⟩=>?_);obtain ⟨I,ah⟩:=XN bg bV ty;refine ⟨T,id,i8,slot,Dt,I,ah,?_⟩;have lY:=au gd pins s1 σ H1 _ bg ba;rw [aF] at lY ⊢;refine Calls.callWith_builtin (by show (false||(backTo gd (starEach es X.env)).any (·.1))=false;rw [x1]<;>rfl) (Calls.evalArgs_plain ?_);exact bQ lY λ us s2 ⟨ag,ay,dd,cu,cm⟩=>hm pins s2 σ ay x ag v us Q dd bV cu cm
end
noncomputable def r_ (X:a7) (id:String) (r:V->bB->aA->bN->Prop):Prop :=
 ∀ (pins:eo) (s:Shared) (σ:St) (H:aA) (x:V) (xs:bB) (v:Value) (us:List Value) (Q:bN),Inv X pins σ H s->RelV x v->Vals xs us->r x xs H Q ->
  wpAny (model X.prog X.w) X.A (call (.builtin id) (v::us)) (hl X pins σ Q) X.dB s
theorem Vals.one : ∀ {x:V} {us:List Value},Vals [x] us -> ∃ u,us=[u]/\RelV x u
 | _,_,.cons r .nil=>⟨_,rfl,r⟩
theorem Vals.reverse (h:Vals xs us):Vals xs.reverse us.reverse:=by
 induction h with
 | nil=>exact .nil
 | cons r t b0=>rw [List.reverse_cons,List.reverse_cons];exact Vals.append b0 (.cons r .nil)
theorem Vals.rep (h:Vals xs us) : ∀ k:Nat,Vals (List.replicate k xs).flatten (List.replicate k us).flatten
 | 0=>.nil
 | k+1=>by
  rw [rq,rq,x5,x5];exact Vals.append h (Vals.rep h k)
theorem foldl_rep (its:List Value) : ∀ (k:Nat) (acc:List Value),
  List.foldl (λ eh fS=>eh++fS) acc.toArray (List.replicate k its.toArray)=(acc++(List.replicate k its).flatten).toArray
 | 0,acc=>by simp
 | k+1,acc=>by
  have e:acc.toArray++its.toArray=(acc++its).toArray:=by simp
  have aN:(acc++its)++(List.replicate k its).flatten=acc++(List.replicate (k+1) its).flatten:=by
   rw [rq,x5,lI]
  rw [<-aN,<-foldl_rep its k (acc++its),<-e,rq,List.foldl_cons]
section
variable {X:a7} {b:Addr}
theorem Inv.Ee {its':List Value} {f:cn->cn} {t':Nat} (C:Inv X pins σ H s) (iE:H l=some (.lst xs))
  (e:s.heap.get? l=some { cls:=.type "list", data:=.seq its.toArray n }) (hf:f its.toArray=its'.toArray) (bl:Vals ys its') (aS:ys.length<=sizeLine) :
  Inv X pins σ (upd H l (.lst ys)) { s with heap:=s.heap.update l (Obj.mapSeq f),toks:=t' }:=by
 have q:=PySem.IsL.update e f;rw [hf] at q;refine C.write (x:=l) (e:=l) (by rw [iE];exact trivial) (.inl rfl) (λ gv u af bM=>(p9 s.heap (Obj.mapSeq f) (nt af)).trans bM) ⟨_,q⟩ ?_;exact ⟨aS,its',_,bl,q⟩
theorem Inv.Al (C:Inv X pins σ H s) (bl:Vals ys its) (aS:ys.length<=sizeLine) :
  Inv X pins σ (upd H s.heap.objs.size (.lst ys)) { s with heap:=s.heap.push { cls:=.type "list", data:=.seq its.toArray },toks:=t' } :=
 C.laid (λ _ _ q=>bW _ q) (br _) ⟨aS,its,0,bl,dI _ rfl⟩
theorem Inv.fresh (C:Inv X pins σ H s):H s.heap.objs.size=none:=C.bX.fresh (br _)
theorem Inv.ke (C:Inv X pins σ H s) (iE:H l=some (.lst xs)):xs.length<=sizeLine /\ ∃ (its:List Value) (n:Nat),Vals xs its/\xs.length=its.length/\s.heap.get? l=some { cls:=.type "list", data:=.seq its.toArray n }:=by
 obtain ⟨z,its,n,r,e⟩:=C.bX l _ iE;exact ⟨z,its,n,r,r.length,e⟩
theorem M3 (h:n<=sizeLine):Builtin.List.listTooLong n=false:=by
 unfold Builtin.List.listTooLong;exact ee .ab
end
section
variable {X:a7}
noncomputable def YU:V->bB->aA->bN->Prop:=λ x ag H Q => ∃ l xs y,x=.ref l/\ag=[y]/\H l=some (.lst xs)/\xs.length<sizeLine/\Q .cV (upd H l (.lst (xs++[y])))
theorem Gs:r_ X "list.append" YU:=by
 intro pins s σ H x ag v us Q C bA cM h;obtain ⟨l,xs,y,rfl,rfl,iE,aS,q⟩:=h;cases bA;obtain ⟨u,rfl,hr⟩:=cM.one;obtain ⟨z,its,n,r,ar,e⟩:=C.ke iE;refine th F.slot_list_append ⟨_,e,rfl⟩ F.entry_list_append (F.args_list_append_2 _ _) (PySem.list_append l its.toArray n u (by rw [eu];omega)) ⟨e,?_⟩;refine ⟨.cV,_,C.Ee (its':=its++[u]) iE e .zs (r.append (.cons hr .nil)) ?_,rfl,q⟩;rw [cJ,List.length_singleton];omega
noncomputable def YV:V->bB->aA->bN->Prop:=λ x ag H Q => ∃ l b xs zs,x=.ref l/\ag=[.ref b]/\H l=some (.lst xs)/\H b=some (.lst zs)/\xs.length+zs.length<=sizeLine/\Q .cV (upd H l (.lst (xs++zs)))
theorem N1:r_ X "list.extend" YV:=by
 intro pins s σ H x ag v us Q C bA cM h;obtain ⟨l,b,xs,zs,rfl,rfl,iE,cC,aS,q⟩:=h;cases bA;obtain ⟨u,rfl,hr⟩:=cM.one;cases hr;obtain ⟨z,its,n,r,ar,e⟩:=C.ke iE;obtain ⟨eV,lA,d0,cu,dQ,aN⟩:=C.ke cC;have hsz:its.toArray.size+lA.toArray.size<=sizeLine:=by rw [eu,eu];omega
 have Ez : ¬ (!its.toArray.isEmpty&&Builtin.List.listTooLong (its.toArray.size+lA.toArray.size))=true:=by
  rw [M3 hsz,Bool.and_false];exact fc
 refine th F.slot_list_extend ⟨_,e,rfl⟩ F.entry_list_extend (F.args_list_extend_2 _ _)
  (AutoSeq1.list_extend_list_list_0 l its.toArray n b lA.toArray d0 Ez (by rw [eu];omega) .ab) ⟨e,aN,?_⟩
 refine ⟨.cV,_,C.Ee (its':=its++lA) iE e .zs (r.append cu) ?_,rfl,q⟩;rw [cJ];omega
noncomputable def VF:fo:=λ x y H Q => ∃ l b xs zs,x=.ref l/\y=.ref b/\H l=some (.lst xs)/\H b=some (.lst zs)/\xs.length+zs.length<=sizeLine /\ ∀ p,H p=none->Q (.ref p) (upd H p (.lst (xs++zs)))
theorem W9:dt X (binaryOp .Add) VF:=by
 intro pins s σ H x y v u Q C bA bL h;obtain ⟨l,b,xs,zs,rfl,rfl,iE,cC,aS,q⟩:=h;cases bA;cases bL;obtain ⟨z,its,n,r,ar,e⟩:=C.ke iE;obtain ⟨eV,lA,d0,cu,dQ,aN⟩:=C.ke cC;refine PySem.P.add_list e aN ?_ (by rw [eu,eu];omega);have h_:its.toArray++lA.toArray=(its++lA).toArray:=by simp
 rw [h_];exact ⟨.ref _,_,C.Al (t':=s.toks) (r.append cu) (by rw [cJ];omega),rfl,q _ C.fresh⟩
noncomputable def VH:fo:=λ x y H Q => ∃ l k xs,x=.ref l/\y=.int k/\H l=some (.lst xs) /\ -(2 ^ 63)<=k/\k<2 ^ 63/\xs.length * k.toNat<=sizeLine /\
 ∀ p,H p=none->Q (.ref p) (upd H p (.lst (List.replicate k.toNat xs).flatten))
theorem len_rep {α: Type} (xs:List α) (k:Nat):(List.replicate k xs).flatten.length=k * xs.length:=by
 induction k with
 | zero=>simp
 | succ k b0=>rw [rq,x5,cJ,b0,Nat.succ_mul,Nat.add_comm]
theorem Ly:dt X (binaryOp .Mult) VH:=by
 intro pins s σ H x y v u Q C bA bL h;obtain ⟨l,k,xs,rfl,rfl,iE,I,ah,aS,q⟩:=h;cases bA;obtain ⟨t,rfl⟩:=bL;obtain ⟨z,its,n,r,ar,e⟩:=C.ke iE;have hlen:its.toArray.size * k.toNat<=sizeLine:=by rw [eu,<-ar];exact aS
 have U0 : ¬ its.toArray.size * k.toNat > (2 ^ 63 - 1) / 8:=by
  have:(sizeLine:Nat)<=(2 ^ 63 - 1) / 8:=by decide
  omega
 have jG : ¬ (!Builtin.List.listFitsIndex k)=true:=by
  rw [fitsIndex_both I ah];exact fc
 have Ez : ¬ Builtin.List.listTooLong (its.toArray.size * k.toNat)=true:=by
  rw [M3 hlen];exact fc
 have D6:List.foldl (λ eh fS=>eh++fS) #[] (List.replicate (if its.toArray.isEmpty=true then 0 else k.toNat) its.toArray)=(List.replicate k.toNat its).flatten.toArray:=by
  have f0 : ∀ m:Nat,List.foldl (λ eh fS=>eh++fS) #[] (List.replicate m its.toArray)=(List.replicate m its).flatten.toArray:=λ m=>by
   have:=foldl_rep its m [];rw [List.nil_append] at this;exact this
  rw [f0];cases its with
  | nil=>simp
  | cons a bU=>rw [if_neg .zs]
 refine wpAny_binaryOp_repeat_ref (T := "list") (U := "int") .aG ⟨_,e,rfl⟩ (λ s'=>x4 s' k t) noFill_list_mul F.fills_int_mul AQ repeat_list F.slot_int_index.lookup
  (th AQ (x4 s k t) F.entry_int_rmul (F.args_int_rmul_2 _ _) (int___rmul___int_list k t l its.toArray n)
   ⟨e,rfl,⟨_,e,rfl⟩,th F.slot_list_mul ⟨_,e,rfl⟩ F.entry_list_mul (F.args_list_mul_2 _ _) (AutoListH.list___mul___list_int_3 l its.toArray n k t jG U0 Ez) ⟨e,?_⟩⟩)
 rw [D6];exact ⟨.ref _,_,C.Al (t':=s.toks) (r.rep k.toNat) (by rw [len_rep,mA];exact aS),rfl,q _ C.fresh⟩
end
end bC
namespace Ip
open PySem PySem.W PySem.Calls PyProof.Rows
theorem aec {P:Params} {h:Heap} : ∀ (ns:aw) (ag:List Value),WellAll P h ag (ns.map WData.int)->IntsAre ag ns:=by
 intro ns
 induction ns with
 | nil =>
  intro ag w;rw [List.map_nil] at w;cases w;exact .nil
 | cons n ns b0 =>
  intro ag w;rw [jo] at w;cases w with
  | cons a b =>
   cases a;exact .cons _ _ (b0 _ b)
theorem abh {l:OpenLaw} (az:l.most=some n) {P:Params} {h:Heap} {args:List WData} {vals:List Value}
  (Ah:l.row.toRowW.claim.pre args=true) (mb:WellAll P h vals args) :
  ∃ a ag ns,vals=[Value.ref a]/\args=[WData.list (ns.map WData.int)]/\h.get? a=some { cls:=.type "list", data:=.seq ag.toArray }/\IntsAre ag ns/\ns.length<=n:=by
 have Tf:WShape.hasAll [] args [.list .int]=true:=(pre_splitW Ah).1;have aj:l.pre.holds [] { args:=args }=true:=(pre_splitW Ah).2;obtain ⟨d,r,rfl,I,ah⟩:=hasAllW_cons Tf;obtain rfl:=hasAllW_nil ah;obtain ⟨xs,rfl,aD⟩:=hasW_list I;obtain ⟨ns,rfl⟩:=items_int aD;have hlen:ns.length<=n:=by
  unfold OpenLaw.pre at aj;have aL:(WTm.not (.lt (.lit (.int (n:Int))) (.len (.arg 0)))).holds [] { args:=[.list (ns.map .int)] }=true:=by
   have aL:=(holds_andW aj).1;rw [az] at aL;exact aL
  have cp:=condW_of aL (w_not (w_lt w_lit (w_len_list (w_arg rfl))));rw [a6] at cp;refine E8 λ q=>?_
  have bh:(n:Int)<((ns.length:Nat):Int):=by omega
  first
   | (rw [cX bh] at cp;exact absurd cp .aG)
   | (simp at cp;omega)
 cases mb with
 | cons e2 hs =>
  cases hs;cases e2 with
  | list a0 gf=>exact ⟨_,_,ns,rfl,rfl,a0,aec ns _ gf,hlen⟩
theorem abd (l:OpenLaw) (args:List WData):l.row.toRowW.claim.post args (.bool true) args=true :=
 postW_of (r:=l.row.toRowW) (X:=(true == true))
  (show WShape.has [] (.bool true) .bool=true by first | rfl | decide | simp [WShape.has,WShape.arms,WShape.armsAll])
  (show (WTm.eq .res (.lit (.bool true))).value [] { args:=args,res:=some (.bool true),after:=args }=some (.bool (true == true)) from w_eq_bool (w_res rfl) w_lit) rfl
theorem acx {l:OpenLaw} {q:Program} {d:DefRec}
  (az:l.most=some n) (wN:d.params.defaults=[])
  (call : ∀ (w:World) (s₀ s₁:Shared) (ax l0:Str->dP) (fB:Addr) (o:Obj) (pm cd doc:Value) (a:Addr) (ag:List Value) (ns:aw),
   Ground q loose [] yZ w s₀ ax l0 s₁.heap->tS w s₁.heap ->
   s₁.heap.get? fB=some o->o.data=.func (docDef d.name d.params d.body d.scope pm cd doc)->s₁.heap.CodeRec cd d.name->ax d.name=some (.ref fB) ->
   s₁.heap.get? a=some { cls:=.type "list", data:=.seq ag.toArray }->IntsAre ag ns->ns.length<=n->s₁.gens=#[] ->
   codeAny (model l.prog w) callerA (.call (.ref fB) ⟨[.ref a],[]⟩) (λ r s'=>r=.ok (.ret (.bool true))/\OldK s₁.heap s'.heap/\s'.os=s₁.os/\AllBare s'.gens) s₁) :
  WalkO q loose yZ tS l.row.toRowW d [] (λ f ag=>PySem.call f ag):=by
 intro w s₀ s₁ ax l0 G Y fB o pm cd doc y3 c2 a0 hd lu aT wZ aR args vals as Ah afJ afc mb ae_;obtain rfl:y3=.none:=Dflts.none aT wN;obtain rfl:c2=.none:=Dflts.noKw aT;obtain ⟨a,ag,ns,rfl,rfl,D7,hints,hlen⟩:=abh az Ah mb;refine enter_call (uT (call w s₀ s₁ ax l0 fB o pm cd doc a ag ns G Y a0 (fd_plain hd) lu wZ D7 hints hlen aR) λ r s' aK=>?_);obtain ⟨rfl,ah,aD,aL⟩:=aK;exact ⟨.inl ⟨.bool true,.bool true,[],rfl,λ _=>rfl,.bool true,abd l _,λ _=>⟨List.Pairwise.nil,λ _ hm=>(nomatch hm)⟩⟩,ah,aD,aL⟩
end Ip
namespace bC
open PySem PySem.Spec PyProof.Rows
theorem Og : ∀ {ag:List Value} {ns:aw},IntsAre ag ns->Vals (ns.map V.int) ag
 | _,_,.nil=>.nil
 | _,_,.cons n t h=>.cons ⟨t,rfl⟩ (Og h)
noncomputable def DY (H:aA):Prop := ∀ b,H b=none \/ ∃ o xs,H b=some (.kJ o (.lst xs))
theorem ZG {P:Program} {w:World} {l0:Str->dP} {dN:kE} {k:Nat} {fB:Addr} {fd:FuncData} {x:Str} {sp:b9} {s₁:Shared} {ag:List Value}
  (nU:K.In s₁.heap) (l_:s₁.heap.Ns mainGlobals ax) (af:s₁.heap.Ns builtinsNs l0) (IW : ∀ x:Str,x ≠ "__name__" -> l0 x=bootBuiltins x) (U9:s₁.heap.NoLimit) (aR:s₁.gens=#[])
  (au:s₁.heap.get? a=some { cls:=.type "list", data:=.seq ag.toArray }) (aq:IntsAre ag ns) (ar:ns.length<=sizeLine) (av:gW k callerA)
  (F : ∀ base:Heap,K.In base->base.Ns mainGlobals ax->ip P w K ax base dN k fB fd [x] sp) (V0 : ∀ (s:Shared) (u:Value),BindsTo s fd ⟨[u],[]⟩ [(x,u)])
  (qU : ∀ H:aA,DY H->aQ K H a (ns.map V.int)->sp [.ref a] H (λ v _=>v=.aH true) λ _ _ _=>False)
  (CU : ∀ H e s',dN [] H s₁ (λ _ _ _=>False) e s'->False) :
  codeAny (model P w) callerA (.call (.ref fB) ⟨[.ref a],[]⟩) (λ r s'=>r=.ok (.ret (.bool true))/\OldK s₁.heap s'.heap/\s'.os=s₁.os/\AllBare s'.gens) s₁:=by
 have cM:=Og aq;have Vu:=aq.length;have core : ∀ H:aA,DY H->aQ K H a (ns.map V.int)->fC P w H s₁.heap->(∀ b,H b≠none->b=a)->(H a≠none->K.lookup a=none) ->
   codeAny (model P w) callerA (.call (.ref fB) ⟨[.ref a],[]⟩) (λ r s'=>r=.ok (.ret (.bool true))/\OldK s₁.heap s'.heap/\s'.os=s₁.os/\AllBare s'.gens) s₁:=by
  intro H y_ c1 bX lY dp;have LR : ∀ {b:Addr} {o:Obj},s₁.heap.get? b=some o->H b=none->(p0 s₁.heap H).get? b=some o:=λ e n=>ZD e n
  have w_ : ∀ {b:Addr} {o:Obj} {es:Array DictEntry} {e7:Nat},s₁.heap.get? b=some o->o.data=.dict es e7->H b=none:=λ {b o es e7} e d=>by
   cases q:H b with
   | none=>rfl
   | some u =>
    have bF:b=a:=lY b (by rw [q];simp);subst bF;rw [au] at e;cases e;have d':Data.seq ag.toArray _=Data.dict es e7:=d;cases d'
  have zV : ∀ {b:Addr} {m:Str->dP},s₁.heap.Ns b m->(p0 s₁.heap H).Ns b m:=λ {b m} ⟨o,es,e7,e,d,r⟩=>⟨o,es,e7,LR e (w_ e d),d,r⟩
  have IJ:K.In (p0 s₁.heap H):=λ b o e=>LR (nU b o e) (by
   cases q:H b with
   | none=>rfl
   | some u =>
    have bF:b=a:=lY b (by rw [q];simp);subst bF;rw [dp (by rw [q];simp)] at e;cases e)
  have jS:Mod K ax (p0 s₁.heap H):=⟨IJ,zV l_,⟨l0,zV af,IW⟩,let ⟨r2,I,ah⟩:=U9;⟨r2,zV I,ah⟩⟩
  have cH:z_ P w K ax (p0 s₁.heap H) callerA [] s₁ H:=⟨rfl,jS,λ b o e=>Yj e,Nat.le_of_eq (aaT _ _),trivial,λ b af=>absurd (show b∈([]:List Addr) from af) .zs,bX,.of_eq aR⟩
  refine uT ((F _ IJ (zV l_)).run callerA [] s₁ H ⟨[.ref a],[]⟩ [.ref a] [.ref a] _ _ av cH (V0 s₁ (.ref a)) (.cons rfl .nil) (qU H y_ c1)) λ r s' h=>?_
  cases r with
  | error e=>exact (CU H e s' h).elim
  | ok gN =>
   cases gN with
   | next=>exact False.elim h
   | brk=>exact False.elim h
   | cont=>exact False.elim h
   | ret u =>
    obtain ⟨v,H',os,bare,un,Vf,bU,q⟩:=h;have bh:v=.aH true:=q;subst bh;obtain rfl:u=Value.bool true:=bU;refine ⟨rfl,OldK.of_keep λ b o e=>?_,os,bare⟩;cases q:H b with
    | none=>exact un.keep b o e q (by intro z;exact absurd (show b∈([]:List Addr) from z) .zs) .zs
    | some u =>
     rcases y_ b with z | ⟨da,xs,z⟩
     ·rw [q] at z;cases z
     ·have eV:=un.nc b da _ z;obtain ⟨aJ,_⟩:=bX b _ z;obtain ⟨aN,_⟩:=Vf b _ eV;rw [e] at aJ;cases aJ;exact aN
 cases aE:K.lookup a with
 | some o =>
  have e:=nU a o aE;rw [au] at e;cases e;refine core (λ _=>none) (λ _=>.inl rfl) (.inr ⟨_,ag.toArray,_,aE,rfl,rfl,rfl,by rw [eu,Vu];exact ar,by simpa using cM⟩) (λ b u z=>by have fh:(none:Option fy)=some u:=z;cases fh) (λ b z=>absurd rfl z) λ z=>absurd rfl z
 | none =>
  refine core (λ b=>if b=a then some (.kJ { cls:=.type "list", data:=.seq ag.toArray } (.lst (ns.map V.int))) else none) (λ b=>?_) (.inl (.inr ⟨{ cls:=.type "list", data:=.seq ag.toArray },if_pos rfl⟩)) (λ b u z=>?_) (λ b z=>?_) λ _=>aE
  ·by_cases af:b=a
   ·exact .inr ⟨_,_,if_pos af⟩
   ·exact .inl (if_neg af)
  ·by_cases af:b=a
   ·have fh:=(if_pos af).symm.trans z;cases fh;subst af;exact ⟨au,by rw [a6];exact ar,ag,_,cM,au⟩
   ·have fh:=(if_neg af).symm.trans z;cases fh
  ·by_cases af:b=a
   ·exact af
   ·exact absurd (if_neg af) z
theorem Y7 {l:PySem.W.OpenLaw} {k:Nat} {q:Program} {d:DefRec} {K:Params->dc} {dN:World->kE} {sp:World->b9} {x:Str}
  (az:l.most=some n) (uk:n<=sizeLine) (wN:d.params.defaults=[]) (av:gW k callerA)
  (B8 : ∀ (w:World) (h:Heap),tS w h->(K w.params).In h)
  (F : ∀ (w:World) (ax:Str->dP) (fB:Addr) (h:Heap),(K w.params).In h->h.Ns mainGlobals ax->ax d.name=some (.ref fB) ->
   ∃ fd:FuncData,(∀ (s:Shared) (u:Value),BindsTo s fd ⟨[u],[]⟩ [(x,u)]) /\
    ∀ base:Heap,(K w.params).In base->base.Ns mainGlobals ax->ip l.prog w (K w.params) ax base (dN w) k fB fd [x] (sp w))
  (qU : ∀ (w:World) (H:aA) (a:Addr) (ns:aw),ns.length<=n->DY H->aQ (K w.params) H a (ns.map V.int)->sp w [.ref a] H (λ v _=>v=.aH true) λ _ _ _=>False)
  (CU : ∀ (w:World) (H:aA) (s:Shared) (e:Value) (s':Shared),dN w [] H s (λ _ _ _=>False) e s'->False) :
  PySem.W.WalkO q loose yZ tS l.row.toRowW d [] (λ f ag=>PySem.call f ag):=by
 refine Ip.acx az wN λ w s₀ s₁ ax l0 fB o pm cd doc a ag ns G Y a0 hd lu wZ D7 hints hlen aR=>?_
 have nU:=B8 w _ Y;obtain ⟨fd,af,mO⟩:=F w ax fB _ nU G.T.g wZ;exact ZG nU G.T.g G.T.b G.T.builtins G.T.nolimit aR D7 hints (et hlen uk) av mO af (λ H y_ c1=>qU w H a ns hlen y_ c1) λ H e s'=>CU w H s₁ e s'
end bC
namespace bC
open PySem PySem.Spec PyProof.Rows
noncomputable def lM (s:Stmt):Arguments:=match s with
 | .FunctionDef _ a _ _ _ _ _ _ _ _=>a
 | _=>{ posonlyargs:=[],args:=[],vararg:=none,kwonlyargs:=[],kw_defaults:=[],kwarg:=none,defaults:=[] }
noncomputable def kp (s:Stmt):List Stmt:=match s with
 | .FunctionDef _ _ b _ _ _ _ _ _ _=>b
 | _=>[]
noncomputable def bS (s:Stmt):Scope:=match s with
 | .FunctionDef _ _ _ _ _ _ sc _ _ _=>sc
 | _=>{ kind:=.function,names:=[],isGenerator:=false,isCoroutine:=false }
noncomputable abbrev b_:kE:=λ _ _ _ _ _ _=>False
noncomputable abbrev Qh:jQ:=λ _ _ _=>False
theorem bb {X:a7}:Passes b_ X Qh:=λ _ _ _ _ _ _ _ h=>h.elim
structure l4 (K:dc) (x qual:Str) (st:Stmt) (f:Addr) (fd:FuncData):Prop where
 ex : ∃ (g_:Value) (gO:Option Addr) (c2 doc pm:Value) (an:Option Addr) (bt cO:Value) (qY:Array dP),
  fd=PySem.W.fnOf x qual (lM st) (kp st) (bS st) .none c2 doc pm an bt cO/\K.lookup f=some ⟨g_,gO,.func fd,qY⟩/\PySem.W.codeIn K bt qual=true
 d5:PySem.W.keepIn K (.ref f)=true
section
variable {P:Program}
theorem l4.ok {x:Str} {f:Addr} {fd:FuncData} {N ps:cE} {k:Nat} {sp:b9} (F:l4 K x qual st f fd) (S:cg N ps (bS st)) (len : ∀ ag H Q E,sp ag H Q E->ag.length=ps.length)
  (xJ : ∀ (bt:Value) (A:Around) (outer:List Env) (s:Shared) (H:aA) (ag:bB) (Q:bN) (E:jQ),gW k (A.deeper (envOfC qual (bS st) s.heap.objs.size f bt))->sp ag H Q E ->
   ∃ t,kF (sS b_ P w K ax base N qual (bS st) f bt A outer s H E).xb (kp st) t/\t { bO:=λ _ H'=>Q .cV H',l1:=Q } (start N ag) H):ip P w K ax base b_ (k+1) f fd ps sp:=by
 obtain ⟨g_,gO,c2,doc,pm,an,bt,cO,qY,rfl,lk,lu⟩:=F.ex;refine VY lk lu S len λ A outer s H ag Q E av qU=>?_
 obtain ⟨t,h,q⟩:=xJ bt A outer s H ag Q E av qU;exact ⟨t,h.xb,q⟩
theorem l4.binds {x:Str} {f:Addr} {fd:FuncData} {ps:cE} (F:l4 K x qual st f fd)
  (h : ∀ (c2 doc pm:Value) (an:Option Addr) (bt cO:Value) (us:List Value),us.length=ps.length->bindArgs (PySem.W.fnOf x qual (lM st) (kp st) (bS st) .none c2 doc pm an bt cO) ⟨us,[]⟩=pure (ps.zip us)):Binds K fd ps []:=by
 obtain ⟨g_,gO,c2,doc,pm,an,bt,cO,qY,rfl,lk,lu⟩:=F.ex;exact .all (h c2 doc pm an bt cO)
theorem EX {x:Str} {f:Addr} {qY:Array dP} {c2 bt cO:Value} (l:K.lookup f=some ⟨g_,gO,.func (PySem.W.fnOf x qual (lM st) (kp st) (bS st) .none c2 doc pm an bt cO),qY⟩)
  (c:PySem.W.codeIn K bt qual=true) (k:PySem.W.keepIn K (.ref f)=true):l4 K x qual st f (PySem.W.fnOf x qual (lM st) (kp st) (bS st) .none c2 doc pm an bt cO):=⟨⟨g_,gO,c2,doc,pm,an,bt,cO,qY,rfl,l,c⟩,k⟩
end
theorem mn {k:Nat} (av:gW k A):A.units+1<cLine:=Nat.lt_of_le_of_lt (Nat.add_le_add_left (by decide:1<=64) _) av.units
section
variable {X:a7}
theorem qF (i:Nat) {x:Str} {pos:Pos} (d9:X.N[i]?=some x:=by rfl) (bl:zj X.env.scope x:=by first | exact Or.inl rfl | exact Or.inr (Or.inl rfl) | exact Or.inr (Or.inr rfl)) (hd:(x == ("__debug__" : Str))=false:=by decide)
  (lu:(x == ("__classdict__" : Str))=false:=by decide):cG X (.Name x pos) (El i):=Xl d9 bl hd lu
end
theorem dn {A:Prop} (h:B):if false=true then A else B:=by
 rw [if_neg fc];exact h
theorem ea {A:Prop} (h:A):if true=true then A else B:=by
 rw [if_pos rfl];exact h
theorem hx {c A:Prop} [Decidable c] (I:c->A) (ah : ¬ c->B):if c then A else B:=by
 by_cases h:c
 ·rw [if_pos h];exact I h
 ·rw [if_neg h];exact ah h
noncomputable def aB (H H':aA):Prop := ∀ b o,H b=some o->H' b=some o
theorem aB.refl (H:aA):aB H H:=λ _ _ h=>h
theorem aB.trans (a:aB H H1) (b:aB H1 ay):aB H ay:=λ c o h=>b c o (a c o h)
theorem aB.free (e:aB H H') (h:H' l=Option.none):H l=Option.none:=by
 cases q:H l with
 | none=>rfl
 | some o =>
  rw [e l o q] at h;cases h
noncomputable def VG (K:dc):bB->aA->bN->Prop:=λ xs H Q => ∃ x T t b,xs=[x,.ty T]/\jF K H x t/\PySem.W.kitOne K t (.type T)=some b/\Q (.aH b) H
section
variable {X:a7}
theorem yn:fO X (.builtin "isinstance") (VG X.K):=by
 intro pins s σ H xs us Q C r h;obtain ⟨x,T,t,b,rfl,ty,e,q⟩:=h;obtain ⟨u,gS,rfl,bA,QW⟩:=vals2 r;cases (show gS=Value.type T from QW);exact aaX C bA ty e λ bE=>⟨.aH b,H,C.tok _,rfl,q⟩
theorem Lw:dt X (compareOp .Is) (λ x y H Q => ∃ a b,x=.aH a/\y=.aH b/\Q (.aH (a == b)) H):=by
 intro pins s σ H x y v u Q C bA bL h;obtain ⟨a,b,rfl,rfl,q⟩:=h;cases bA;cases bL;exact is_bool ⟨.aH (a == b),H,C,rfl,q⟩
theorem Yq:dt X (compareOp .IsNot) (λ x y H Q => ∃ a b,x=.aH a/\y=.aH b/\Q (.aH (a != b)) H):=by
 intro pins s σ H x y v u Q C bA bL h;obtain ⟨a,b,rfl,rfl,q⟩:=h;cases bA;cases bL;exact isnot_bool ⟨.aH (a != b),H,C,rfl,q⟩
theorem FR : ∀ {bs:List Bool} {us:List Value},Vals (bs.map V.aH) us->us=bs.map Value.bool
 | [],_,r=>by rw [List.map_nil] at r;cases r;rfl
 | b::bs,_,r=>by
  rw [jo] at r;cases r with
  | cons bV cu =>
   cases (show _=Value.bool b from bV);rw [FR cu];rfl
theorem all_range (bs:List Bool):((List.range bs.length).all λ i=>bs.getD i true)=bs.all id:=by
 rw [rj,e5,e5];constructor
 ·intro h b af;obtain ⟨i,aq,rfl⟩:=List.getElem_of_mem af;have:=h i (fH.mpr aq);rw [bk,bz aq] at this;exact this
 ·intro h i aq;have gB:=fH.mp aq;rw [bk,bz gB];exact h _ (g5 gB)
theorem tx (aj:X.calm=true):fO X (.builtin "all") (λ xs H Q => ∃ (p:Addr) (bs:List Bool),xs=[.ref p]/\aQ X.K H p (bs.map V.aH)/\Q (.aH (bs.all id)) H):=by
 intro pins s σ H xs us Q C r h;obtain ⟨p,bs,rfl,aK,q⟩:=h;obtain ⟨u,rfl,hr⟩:=vals1 r;cases hr;obtain ⟨its,cM,b5,aS⟩:=C.list aK;have B7:=FR cM;subst B7;have ao:p<s.heap.objs.size:=by obtain ⟨_,_,e,_⟩:=b5;exact cb e
 have hd:X.A.in1.handled=none:=C.ok.hd.1 aj;refine call_all_walk (ri b5.isList ?_);refine ⟨s.heap.objs.size,_,_,_,_,_,(λ i=>bs.getD i true),rfl,Walks.list hd s.heap.objs.size p (d1 ao) (bs.map Value.bool).toArray,⟨⟨_,dI _ rfl,rfl,rfl⟩,b5.isList.push _⟩,?_,?_⟩
 ·intro i v s' qx yT bl fp;have hJ:(bs.map Value.bool)[i]?=some v:=by simpa using bl
  rw [c9] at hJ;cases e:bs[i]? with
  | none=>rw [e] at hJ;cases hJ
  | some b =>
   rw [e] at hJ;cases hJ;have wH:qx (bs.getD i true) s':=fp;rw [bk,e] at wH;exact s_ wH
 ·intro h' bE aE;refine ⟨.aH (bs.all id),H,C.kept λ b o e=>aE b o ?_ (bW _ e),?_,q⟩
  ·intro z;rw [ix.mp z] at e;exact absurd (cb e) (iW _)
  ·show Value.bool _=Value.bool _;rw [<-all_range bs];simp
noncomputable def YW:V->bB->aA->bN->Prop:=λ x ag H Q => ∃ l xs i y,x=.ref l/\ag=[.int i,y]/\H l=some (.lst xs)/\0<=i/\i<2 ^ 63/\xs.length<sizeLine /\
 Q .cV (upd H l (.lst (xs.take (min i.toNat xs.length)++y::xs.drop (min i.toNat xs.length))))
theorem abR (its:List Value) (k:Nat) (u:Value):(its.toArray.extract 0 k).push u++its.toArray.extract k=(its.take k++u::its.drop k).toArray:=by
 apply Array.toList_inj.mp;simp;exact fG .zs
theorem aa5:r_ X "list.insert" YW:=by
 intro pins s σ H x ag v us Q C bA cM h;obtain ⟨l,xs,i,y,rfl,rfl,iE,h0,I,aS,q⟩:=h;cases bA;obtain ⟨aeO,mT,rfl,⟨t,rfl⟩,bL⟩:=vals2 cM;obtain ⟨z,its,n,r,ar,e⟩:=C.ke iE;have jG : ¬ (!Builtin.List.listFitsIndex i)=true:=by
  rw [fitsIndex_both .ab I];exact fc
 refine th F.slot_list_insert ⟨_,e,rfl⟩ F.entry_list_insert (F.args_list_insert_3 _ _ _) (AutoListH.list_insert_list_int_val_1 l its.toArray n i t mT jG (by rw [eu];omega)) ⟨e,?_⟩;refine ⟨.cV,_,C.Ee (its':=its.take (min i.toNat xs.length)++mT::its.drop (min i.toNat xs.length)) iE e ?_ ((r.take _).append (.cons bL (r.drop _))) ?_,rfl,q⟩
 ·have aE:(if i<0 then (i+((its.toArray.size:Nat):Int)).toNat else min i.toNat its.toArray.size)=min i.toNat xs.length:=by
   rw [if_neg .ab,eu,ar]
  show ((its.toArray.extract 0 (if i<0 then (i+((its.toArray.size:Nat):Int)).toNat else min i.toNat its.toArray.size)).push mT++its.toArray.extract (if i<0 then (i+((its.toArray.size:Nat):Int)).toNat else min i.toNat its.toArray.size))=_;rw [aE,abR]
 ·simp only [cJ,ff,mB,qb];omega
noncomputable def EE (K:dc):fo:=λ x y H Q => ∃ a b ys,x=.ref a/\y=.ref b/\aP K H a []/\aP K H b ys/\Q (.ref b) H
theorem Yo:dt X (binaryOp .Add) (EE X.K):=by
 intro pins s σ H x y v u Q C bA bL h;obtain ⟨a,b,ys,rfl,rfl,au,af,q⟩:=h;cases bA;cases bL;obtain ⟨its,bV,p1,_⟩:=C.tuple au;obtain ⟨lA,cu,cS,_⟩:=C.tuple af;cases bV;obtain ⟨⟨fg,mN,f1,c3⟩,g1,gy,dr,dq⟩:=id p1;obtain ⟨⟨lg,B2,f2,dO⟩,g2,jT,d0,dU⟩:=id cS;simp only at gy dq jT dU;subst gy dq jT dU;exact concat_meets ⟨_,g1,rfl⟩ ⟨_,g2,rfl⟩ noFill_tuple_add seq_tuple_add EO EP (ER _ _) (tuple_addW0 a b #[] lA.toArray dr d0 mN B2 c3 dO rfl) ⟨g1,g2,⟨.ref b,H,C,rfl,q⟩⟩
theorem Yn:dt X (binaryOp .Add) (λ x y H Q=>EE X.K x y H Q\/EF X.K x y H Q):=Yo.or Yp
end
noncomputable def pick (js:List (Option Nat)) (σ:St):St:=js.map λ o=>o.bind λ j=>(σ[j]?).join
theorem M7 {i:Nat} {v:V} (h:(pick js σ)[i]?=some (some v)) : ∃ j,js[i]?=some (some j)/\σ[j]?=some (some v):=by
 unfold pick at h;rw [c9] at h;cases e:js[i]? with
 | none=>rw [e] at h;cases h
 | some o =>
  rw [e] at h;have h':(o.bind λ j=>(σ[j]?).join)=some v:=eA h;cases o with
  | none=>cases h'
  | some j =>
   refine ⟨j,rfl,?_⟩;have ah:(σ[j]?).join=some v:=h';cases aN:σ[j]? with
   | none=>rw [aN] at ah;cases ah
   | some q =>
    rw [aN] at ah;have aD:q=some v:=ah;rw [aD]
structure rk (X:a7) (scope:Scope) (cl:List (Str×Addr)) (N:cE) (js:List (Option Nat)):Prop where
 me:closureFor scope X.env=pure cl
 rl : ∀ y∈scope.names,y.2≠.cell
 kind:scope.kind=.function
 names : ∀ y∈scope.names,y.2=.local->scope.names.lookup y.1=some .local
 sub : ∀ x c,cl.lookup x=some c->X.env.cells.lookup x=some c
 has : ∀ x,((relabel scope X.env).names.lookup x=some .cell\/(relabel scope X.env).names.lookup x=some .free) -> ∃ c,cl.lookup x=some c
 len:js.length=N.length
 seen : ∀ (i j:Nat) (x:Str),N[i]?=some x->js[i]?=some (some j)->X.N[j]?=some x/\X.env.scope.names.lookup x=some .cell/\((relabel scope X.env).names.lookup x=some .cell\/(relabel scope X.env).names.lookup x=some .free)
noncomputable abbrev lD (X:a7) (scope:Scope) (cl:List (Str×Addr)) (N:cE) (a3:List Addr) (pins:eo) (s:Shared) (H:aA) (E:bY):a7 :=
 { X with N:=N,s₀:=s,H₀:=H,env:=compEnvC scope cl s.heap.objs.size X.env,outer:=X.stack,ex:=a3,fn:=λ _=>false,hV:=X.hV++pins,dB:=E }
noncomputable def gF (J:hB) (D:Addr) (js:List (Option Nat)) (g:iD) (dx:TT) (a4:TE) (σ:St) (H1:aA) (Q:bN):Prop :=
 ∃ W:Nat->Nat->St->aA->bB->Prop,(∃ m,W 0 m (pick js σ) (upd H1 D (.lst [])) []) /\ ∀ i m σ' H' ys,W i m σ' H' ys->H' D=some (.lst ys) /\
  ((J.stop i H'/\Q (.ref D) H')\/(J.go i H'/\ys.length<sizeLine /\ ∃ N:St->aA->bB->Prop,(∀ σ2 ay zs,N σ2 ay zs -> ∃ cR,cR<m/\W (i+1) cR σ2 ay zs) /\ ∀ x ay,J.iR i H' x ay->g x σ' ay λ σ2 aM=>dx σ2 aM λ k bj =>
   if k=true then a4 σ2 bj λ y aO=>aO D=some (.lst ys)/\N σ2 (upd aO D (.lst (ys++[y]))) (ys++[y]) else bj D=some (.lst ys)/\N σ2 bj ys))
noncomputable def rf (js:List (Option Nat)) (fa:TI) (g:iD) (dx:TT) (a4:TE):TE:=λ σ H Q=>fa σ H λ J H1 => ∀ D,H1 D=none->gF J D js g dx a4 σ H1 Q
theorem MI {a4:TE} {Q:bN} (az:n<=sizeLine) (Pv:Nat->St->aA->bB->Prop) (h0:Pv 0 (pick js σ) (upd H1 D (.lst [])) [])
  (ao : ∀ i σ' H' ys,i<=n->Pv i σ' H' ys->H' D=some (.lst ys)/\ys.length<=i) (j2 : ∀ i σ' H' ys,i<n->Pv i σ' H' ys->J.go i H') (dk : ∀ σ' H' ys,Pv n σ' H' ys->J.stop n H'/\Q (.ref D) H')
  (aF : ∀ i σ' H' ys x ay,i<n->Pv i σ' H' ys->J.iR i H' x ay->g x σ' ay λ σ2 aM=>dx σ2 aM λ k bj =>
   if k=true then a4 σ2 bj λ y aO=>aO D=some (.lst ys)/\Pv (i+1) σ2 (upd aO D (.lst (ys++[y]))) (ys++[y]) else bj D=some (.lst ys)/\Pv (i+1) σ2 bj ys) :
  ∃ W:Nat->Nat->St->aA->bB->Prop,(∃ m,W 0 m (pick js σ) (upd H1 D (.lst [])) []) /\ ∀ i m σ' H' ys,W i m σ' H' ys->H' D=some (.lst ys) /\
   ((J.stop i H'/\Q (.ref D) H')\/(J.go i H'/\ys.length<sizeLine /\ ∃ N:St->aA->bB->Prop,(∀ σ2 ay zs,N σ2 ay zs -> ∃ cR,cR<m/\W (i+1) cR σ2 ay zs) /\ ∀ x ay,J.iR i H' x ay->g x σ' ay λ σ2 aM=>dx σ2 aM λ k bj =>
    if k=true then a4 σ2 bj λ y aO=>aO D=some (.lst ys)/\N σ2 (upd aO D (.lst (ys++[y]))) (ys++[y]) else bj D=some (.lst ys)/\N σ2 bj ys)):=by
 refine ⟨λ i m σ' H' ys=>m=n - i/\i<=n/\Pv i σ' H' ys,⟨n,rfl,fk _,h0⟩,?_⟩;rintro i m σ' H' ys ⟨rfl,aq,p⟩;obtain ⟨aT,a8⟩:=ao i σ' H' ys aq p;refine ⟨aT,?_⟩;by_cases dg:i<n
 ·exact .inr ⟨j2 i σ' H' ys dg p,.ab,Pv (i+1),λ σ2 ay zs dV=>⟨n - (i+1),.ab,rfl,dg,dV⟩,λ x ay y=>aF i σ' H' ys x ay dg p y⟩
 ·have e:i=n:=by omega
  subst e;exact .inl (dk σ' H' ys p)
noncomputable def sa (X:a7) (cs:List Expr) (t:TT):Prop :=
 ∀ (pins:eo) (s:Shared) (σ:St) (H:aA) (Q:Bool->aA->Prop),Inv X pins σ H s->t σ H Q ->
  wpAny (model X.prog X.w) X.A (forIn cs true λ c r=>if r=true then do let ok ← isTrue c X.env (eval c X.env);pure (ForInStep.yield ok) else pure (ForInStep.yield r)) (BW X pins σ Q) X.dB s
noncomputable def iy:TT:=λ _ H Q=>Q true H
theorem YL {X:a7}:sa X [] iy:=λ _ _ _ H _ C h=>wpAny_tests_nil ⟨H,C,h⟩
theorem YM {X:a7} {c:Expr} {t:TT} (aj:ks X c t):sa X [c] t:=λ pins s σ H Q C h=>wpAny_tests_one (aj pins s σ H Q C h)
section
variable {R:Result->Shared->Prop}
theorem Mc {a_:Expr} {cs:List Expr} {pos:Pos} {it acc:Value} {env:Env} (J:Nat->Shared->Prop)
  (turn : ∀ n s',J n s'->wpAny (model prog w) A (pyNext it) (λ r t1=>match r with
   | none=>R (.ok .next) t1
   | some v=>wpAny (model prog w) A (letOwnedTupleGo a_ it v) (λ _ bx=>wpAny (model prog w) A (assign a_ env v) (λ _ t3 =>
     wpAny (model prog w) A (forIn cs true λ c r=>if r=true then do let ok ← isTrue c env (eval c env);pure (ForInStep.yield ok) else pure (ForInStep.yield r)) (λ ok pf =>
      if ok=true then wpAny (model prog w) A (eval elt env) (λ x qJ=>wpAny (model prog w) A (call (.builtin "list.append") [acc,x]) (λ _ v9 => ∃ m,m<n/\J m v9)
       (notedBy (model prog w) A env λ e ji=>R (.error e) ji) qJ) (notedBy (model prog w) A env λ e ji=>R (.error e) ji) pf
      else ∃ m,m<n/\J m pf) (notedBy (model prog w) A env λ e ji=>R (.error e) ji) t3) (notedBy (model prog w) A env λ e ji=>R (.error e) ji) bx) (notedBy (model prog w) A env λ e ji=>R (.error e) ji) t1)
    (notedBy (model prog w) A env λ e ji=>R (.error e) ji) s')
  (n:Nat) (h:J n s):codeAny (model prog w) A (.compLoop (.ListComp elt [⟨a_,iter,cs,0⟩] scope pos) 0 it acc env) R s:=by
 refine codeAny_loop rfl J (λ n s' tV=>?_) n h;show wpAny _ A ((compTurn (.ListComp elt [⟨a_,iter,cs,0⟩] scope pos) 0 it acc env).onRaise (λ z=>do noteFrame z env;theTreesLotGoes z)) _ _ s';refine wpAny_noted ?_;rw [compTurn_list];refine aI (xU (aI (bQ (turn n s' tV) λ r t1 gy=>?_)));cases r with
 | none=>exact b2 gy
 | some v =>
  refine aI (bQ gy λ _ bx jT=>aI (bQ jT λ _ t3 za=>aI (bQ za λ ok pf H6=>?_)));cases ok with
  | false=>exact b2 ⟨rfl,H6⟩
  | true=>exact aI (aI (bQ H6 λ x qJ zb=>aI (bQ zb λ _ v9 o9=>b2 (b2 ⟨rfl,o9⟩))))
end
theorem kT {M:Model} {α: Type} {t:Sem α} {Q: α -> Shared->Prop} {E yT:bY} (n2 : ∀ e s',E e s'->False) (h:wpAny M A t Q E s):wpAny M A t Q yT s:=mv h (λ _ _ q=>q) λ e s' z=>(n2 e s' z).elim
theorem yN {α β: Type} [BEq α] [LawfulBEq α] : ∀ {l:List (α × β)} {x : α},x∈l.map (·.1) -> ∃ c,l.lookup x=some c
 | [],_,h=>by cases h
 | (y,d)::r,x,h=>by
  rw [List.lookup_cons];cases e:(x == y) with
  | true=>exact ⟨d,rfl⟩
  | false =>
   rcases c8.mp h with z | z
   ·rw [z] at e;simp at e
   ·exact yN z
noncomputable def kf (sc:Scope):cE:=(sc.names.filter (λ p=>p.2 == .cell)).map (·.1)
theorem lT : ∀ (names:List (Str×NameKind)) (n:Nat) (acc:List (Str×Addr)),cellsFrom n names acc=cellsFrom n names []++acc
 | [],_,_=>rfl
 | (name,kind)::r,n,acc=>by
  unfold cellsFrom;split
  ·rw [lT r (n+1) ((name,n)::acc),lT r (n+1) [(name,n)],lI];rfl
  ·exact lT r n acc
theorem tM : ∀ {names:List (Str×NameKind)} {n:Nat} {x:Str} {c:Addr},(x,c)∈cellsFrom n names []->(x,NameKind.cell)∈names
 | [],_,_,_,h=>by cases h
 | (name,kind)::r,n,x,c,h=>by
  unfold cellsFrom at h;split at h
  ·next aE =>
   rw [lT] at h;rcases iX.mp h with z | z
   ·exact eQ _ (tM z)
   ·rw [ix] at z;cases z;rw [kl aE];exact d2
  ·exact eQ _ (tM h)
theorem BA : ∀ {names:List (Str×NameKind)} {n:Nat} {x:Str},(x,NameKind.cell)∈names -> ∃ c,(x,c)∈cellsFrom n names []
 | [],_,_,h=>by cases h
 | (name,kind)::r,n,x,h=>by
  unfold cellsFrom;rcases c8.mp h with z | z
  ·cases z;rw [if_pos (show (NameKind.cell == NameKind.cell)=true from rfl),lT];exact ⟨n,jH _ (ix.mpr rfl)⟩
  ·split
   ·obtain ⟨c,aj⟩:=BA (n:=n+1) z;rw [lT];exact ⟨c,EM _ aj⟩
   ·exact BA z
theorem qq {x:Str}:x∈kf sc ↔ (x,NameKind.cell)∈sc.names:=by
 unfold kf;rw [dz];constructor
 ·rintro ⟨⟨y,k⟩,h,rfl⟩;obtain ⟨I,ah⟩:=mr.mp h;have:k=.cell:=kl ah;subst this;exact I
 ·intro h;exact ⟨(x,.cell),mr.mpr ⟨h,rfl⟩,rfl⟩
theorem tI {α β: Type} [BEq α] : ∀ (l m:List (α × β)) (x : α),(l++m).lookup x=(l.lookup x).or (m.lookup x)
 | [],_,_=>rfl
 | (y,d)::l,m,x=>by
  rw [List.cons_append,List.lookup_cons,List.lookup_cons];cases (x == y) with
  | true=>rfl
  | false=>exact tI l m x
theorem O0 {M:Model} {A:Around} {E:bY} {globals:Addr} {func:Option Addr} {code:Value} {env:Env} {builtins:Addr} {Q:Env->Shared->Prop}
  (fp:Q (newEnv scope s.heap.objs.size globals (cellsFrom (s.heap.objs.size+1) scope.names cl) qual func code (some env) builtins) { s with heap:=pushCells (s.heap.push { cls:=.type "dict", data:=.dict #[] }) scope.names }) :
  wpAny M A (newFunctionEnv scope globals cl [] qual func code (some env) builtins) Q E s:=by
 simp only [newFunctionEnv,Option.isSome_some,kY];refine aI (wpAny_alloc ?_);refine aI (wpAny_layCells _ (λ name kind cells=>by cases j4:kind == NameKind.cell<;>simp [j4]) _ _ _ _ ?_);rw [show ({ s with heap:=s.heap.push { cls:=.type "dict", data:=.dict #[] } }:Shared).heap.objs.size=s.heap.objs.size+1 from fX ..];rw [List.forIn_nil];exact aI (b2 (b2 fp))
structure tr (X:a7) (scope:Scope) (cl:List (Str×Addr)) (N:cE) (js:List (Option Nat)):Prop where
 me:closureFor scope X.env=pure cl
 zp : ∀ x∈kf scope,cl.lookup x=none
 kind:scope.kind=.function
 names : ∀ y∈scope.names,y.2=.local->scope.names.lookup y.1=some .local
 sub : ∀ x c,cl.lookup x=some c->X.env.cells.lookup x=some c
 has : ∀ x,((relabel scope X.env).names.lookup x=some .cell\/(relabel scope X.env).names.lookup x=some .free)->(∃ c,cl.lookup x=some c)\/x∈kf scope
 len:js.length=N.length
 seen : ∀ (i j:Nat) (x:Str),N[i]?=some x->js[i]?=some (some j)->X.N[j]?=some x/\x∉kf scope/\X.env.scope.names.lookup x=some .cell/\((relabel scope X.env).names.lookup x=some .cell\/(relabel scope X.env).names.lookup x=some .free)
noncomputable abbrev eY (X:a7) (scope:Scope) (cl:List (Str×Addr)) (N:cE) (a3:List Addr) (pins:eo) (s:Shared) (H:aA) (E:bY):a7 :=
 { X with N:=N,s₀:=s,H₀:=H,env:=compEnvC scope (cellsFrom (s.heap.objs.size+1) scope.names cl) s.heap.objs.size X.env,outer:=X.stack,ex:=a3,fn:=λ x=>(kf scope).contains x,hV:=X.hV++pins,dB:=E }
theorem M6 {X:a7} {a_:Expr} {cs:List Expr} {pos:Pos} {N:cE} {a4:TE}
  (a9:tr X scope cl N js) (aj:X.warm=true) (aq:jO X a_ iter fa)
  (aR : ∀ a3 pins s H,mM (eY X scope cl N a3 pins s H λ _ _=>False) a_ g)
  (aW : ∀ a3 pins s H,sa (eY X scope cl N a3 pins s H λ _ _=>False) cs dx)
  (he : ∀ a3 pins s H,cG (eY X scope cl N a3 pins s H λ _ _=>False) elt a4)
  (aF : ∀ x,foldedSetIterable iter X.env x=pure x:=by intro _;rfl):cG X (.ListComp elt [⟨a_,iter,cs,0⟩] scope pos) (rf js fa g dx a4):=by
 intro pins s σ H Q C h;rw [eval_ListComp];refine wpAny_comprehension_free (use:=none) rfl aF a9.me a9.kind a9.names (bQ (aq pins s σ H _ C h) λ Q2 s1 I=>bQ I λ zQ s2 ah=>?_);obtain ⟨it,a3,gR,J,ay,e,dd,T,pR,f2,ah⟩:=ah;subst e;obtain ⟨W,⟨m0,ja⟩,turn⟩:=ah s2.heap.objs.size dd.fresh;refine mj (O0 ?_);have cU:Inv X pins σ (upd ay s2.heap.objs.size (.lst [])) { s2 with heap:=s2.heap.push { cls:=.type "list", data:=.seq ([]:List Value).toArray } }:=dd.Al (t':=s2.toks) (its:=[]) .nil (fk _);dsimp only;generalize dT:({ s2 with heap:=s2.heap.push { cls:=.type "list", data:=.seq ([]:List Value).toArray } }:Shared)=s3 at cU;have sf:s2.heap.push { cls:=.type "list", data:=.seq ([]:List Value).toArray }=s3.heap:=by rw [<-dT]
 have Rb:s2.gens=s3.gens:=by rw [<-dT]
 have Rc:s2.os=s3.os:=by rw [<-dT]
 rw [sf];have xd:(pushCells (s3.heap.push { cls:=.type "dict", data:=.dict #[] }) scope.names).Ns s3.heap.objs.size (λ _=>none):=(Heap.Ns.new s3.heap (.type "dict")).keeps (AR _ _);have j_ : ∀ b o,s3.heap.get? b=some o->(pushCells (s3.heap.push { cls:=.type "dict", data:=.dict #[] }) scope.names).get? b=some o:=λ b o q=>AR _ _ b o (bW _ q)
 have dC:=cellsFrom_ok scope.names (s3.heap.push { cls:=.type "dict", data:=.dict #[] }) (s3.heap.objs.size+1) [] ⟨λ _ _ hm=>(nomatch hm),List.Pairwise.nil⟩ (by rw [fX];exact br _);rw [fX] at dC;generalize pushCells (s3.heap.push { cls:=.type "dict", data:=.dict #[] }) scope.names=aL at xd j_ dC ⊢;generalize rX:upd ay s2.heap.objs.size (.lst [])=aM at cU ja;have aT:s2.heap.objs.size<s3.heap.objs.size:=by rw [<-sf,fX];exact nr _
 have xn : ∀ b o,s2.heap.get? b=some o->s3.heap.get? b=some o:=λ b o q=>by rw [<-sf];exact bW _ q
 have wu : ∀ x c,cl.lookup x=some c->c<s3.heap.objs.size:=λ x c q=>by
  obtain ⟨v,g_,jB,_⟩:=cU.cell x c (a9.sub _ _ q);exact cb jB
 have jc : ∀ x c,(cellsFrom (s3.heap.objs.size+1) scope.names cl).lookup x=some c->(cl.lookup x=some c/\x∉kf scope)\/(x∈kf scope/\(x,c)∈cellsFrom (s3.heap.objs.size+1) scope.names []):=λ x c q=>by
  rw [lT,tI] at q;cases e:(cellsFrom (s3.heap.objs.size+1) scope.names []).lookup x with
  | some bG =>
   rw [e] at q;cases q;have m:=mem_of_lookup e;exact .inr ⟨qq.mpr (tM m),m⟩
  | none =>
   rw [e] at q;have bh:cl.lookup x=some c:=q;refine .inl ⟨bh,λ z=>?_⟩;rw [a9.zp x z] at bh;cases bh
 have xu : ∀ x c,cl.lookup x=some c->(cellsFrom (s3.heap.objs.size+1) scope.names cl).lookup x=some c:=λ x c q=>by
  rw [lT,tI];cases e:(cellsFrom (s3.heap.objs.size+1) scope.names []).lookup x with
  | none=>exact q
  | some bG =>
   have:=a9.zp x (qq.mpr (tM (mem_of_lookup e)));rw [q] at this;cases this
 have kb : ∀ x c,(x,c)∈cellsFrom (s3.heap.objs.size+1) scope.names []->aL.IsCell c none/\s3.heap.objs.size+1<=c:=λ x c m=>dC.empty x c m
 have px : ∀ b∈a3,b<s3.heap.objs.size:=λ b af=>by
  obtain ⟨o,b1,_⟩:=T.obj 0 _ pR b af;exact cb (xn b o b1)
 have fst : ∀ b∈a3,b∉kI X.stack:=λ b af z=>by
  rcases c8.mp (cU.tg b z) with q | q
  ·exact (f2 b af).2.1 q
  ·exact (f2 b af).2.2.1 q
 have DI:(eY X scope cl N a3 pins s3 aM λ _ _=>False).Ok:=by
  refine ⟨C.ok.mod,a9.kind,C.ok.glob,C.ok.blt,br _,λ x y c ba cm=>?_,λ x z=>?_,λ x c z q=>?_,⟨C.ok.hd.1,λ hw=>cU.I5 hw λ b af=>(f2 b af).2.2.2.1⟩,C.ok.frames,.inl rfl,λ b af=>⟨d1 (px b af),λ x c q=>?_⟩,
   cU.bs,et C.ok.oe cU.l2,λ b o q af=>?_,fst,cU.stack,cU.FL⟩
  ·rcases jc x c ba with ⟨a1,_⟩ | ⟨_,a1⟩
   ·rcases jc y c cm with ⟨a2,_⟩ | ⟨_,a2⟩
    ·exact C.ok.inj x y c (a9.sub _ _ a1) (a9.sub _ _ a2)
    ·exact absurd (wu x c a1) (Nat.not_lt.mpr (et (kj _) (kb y c a2).2))
   ·rcases jc y c cm with ⟨a2,_⟩ | ⟨_,a2⟩
    ·exact absurd (wu y c a2) (Nat.not_lt.mpr (et (kj _) (kb x c a1).2))
    ·exact name_of_addr dC.apart a1 a2
  ·rcases a9.has x z with ⟨c,h'⟩ | h'
   ·exact ⟨c,xu x c h'⟩
   ·obtain ⟨c,m⟩:=BA (n:=s3.heap.objs.size+1) (qq.mp h');obtain ⟨bG,bF⟩:=yN (dz.mpr ⟨(x,c),m,rfl⟩);refine ⟨bG,?_⟩;show (cellsFrom (s3.heap.objs.size+1) scope.names cl).lookup x=some bG;rw [lT,tI,bF];rfl
  ·rcases jc x c q with ⟨_,a1⟩ | ⟨_,a1⟩
   ·exact absurd (x6.mp z) a1
   ·exact et (kj _) (kb x c a1).2
  ·rcases jc x c q with ⟨a1,_⟩ | ⟨_,a1⟩
   ·exact (f2 b af).2.2.2.2.1 x c (a9.sub _ _ a1)
   ·exact hz (g0 (px b af) (et (kj _) (kb x c a1).2))
  rcases (f2 b af).2.2.2.1 with z | z
  ·exact C.ok.uH b o q z
  ·exact absurd (g0 (cb q) (et C.ok.oe z)) (iW _)
 have mL:Inv (eY X scope cl N a3 pins s3 aM λ _ _=>False) [] (pick js σ) aM { s3 with heap:=aL }:=by
  refine ⟨DI,rfl,cU.bare,g8.kept j_,⟨_,xd,λ i x v ba cm gP=>?_⟩,λ x c q=>?_,cU.bX.fresh (br _),λ x c q=>?_,λ p ao=>?_,cU.bX.kept j_,?_⟩
  ·obtain ⟨j,gy,jT⟩:=M7 cm;obtain ⟨fi,hb,eV,kD⟩:=a9.seen i j x ba gy;obtain ⟨m,az,ar⟩:=cU.loc;obtain ⟨u,hr,lk⟩:=ar j x v fi jT (.inr (.inl eV));refine ⟨u,hr,.inr ⟨kD,?_⟩⟩;rcases lk with ⟨k,_⟩ | ⟨_,c,lW,g_,jB,sr⟩
   ·have di:X.env.scope.names.lookup x=some .local:=k;rw [eV] at di;cases di
   ·obtain ⟨bG,wy⟩:=(a9.has x kD).resolve_right hb;have:=a9.sub _ _ wy;rw [lW] at this;cases this;exact ⟨c,xu x c wy,g_,j_ _ _ jB,sr⟩
  ·rcases jc x c q with ⟨a1,_⟩ | ⟨_,a1⟩
   ·obtain ⟨v,g_,jB,sr⟩:=cU.cell x c (a9.sub _ _ a1);exact ⟨v,g_,j_ _ _ jB,sr⟩
   ·exact ⟨none,(kb x c a1).1⟩
  ·rcases jc x c q with ⟨a1,_⟩ | ⟨_,a1⟩
   ·exact cU.ni x c (a9.sub _ _ a1)
   ·exact cU.bX.fresh (et (kj _) (kb x c a1).2)
  ·have dR:p∈X.hV++pins:=by simpa using ao
   obtain ⟨ba,cm,gP,r5,v5⟩:=cU.pin p dR;refine ⟨j_ _ _ ba,cm,d1 (cb ba),λ z=>?_,v5⟩;rcases c8.mp (cU.tg _ z) with q | q
   ·exact gP q
   ·exact r5 q
  ·show (pick js σ).length=N.length;unfold pick;rw [a6,a9.len]
 have stat : ∀ {H':aA},(∀ b∈a3,H' b=none) -> ∀ b∈a3,m8 (eY X scope cl N a3 pins s3 aM λ _ _=>False) [] H' b:=λ az b af =>
  ⟨az b af,d1 (px b af),fst b af,.inl af,λ x c q=>by
   rcases jc x c q with ⟨a1,_⟩ | ⟨_,a1⟩
   ·exact (f2 b af).2.2.2.2.1 x c (a9.sub _ _ a1)
   ·exact hz (g0 (px b af) (et (kj _) (kb x c a1).2)),λ p ao=>(f2 b af).2.2.2.2.2 p (by simpa using ao)⟩
 have xj:gR 0 aL:=T.keep 0 _ _ pR λ b af o q=>j_ b o (xn b o q)
 have bO : ∀ e s',(eY X scope cl N a3 pins s3 aM λ _ _=>False).dB e s'->False:=λ _ _ z=>z
 have loop:codeAny (model X.prog X.w) X.A (.compLoop (.ListComp elt [⟨a_,iter,cs,0⟩] scope pos) 0 (.ref it) (.ref s2.heap.objs.size) (compEnvC scope (cellsFrom (s3.heap.objs.size+1) scope.names cl) s3.heap.objs.size X.env))
   (compPost (model X.prog X.w) X.A X.dB none (hl X pins σ Q) (.ref s2.heap.objs.size) s3.heap.objs.size) { s3 with heap:=aL }:=by
  refine Mc (λ n s' => ∃ i σ' H' ys,Inv (eY X scope cl N a3 pins s3 aM λ _ _=>False) [] σ' H' s'/\gR i s'.heap/\(∀ b∈a3,H' b=none)/\W i n σ' H' ys) ?_ m0 ⟨0,_,aM,[],mL,xj,λ b af=>?_,ja⟩
  ·rintro n s5 ⟨i,σ5,bj,ys,o3,pS,sj,Cv⟩;obtain ⟨pB,way⟩:=turn i n σ5 bj ys Cv;rcases way with ⟨stop,n5⟩ | ⟨go,aS,vK,d9,step⟩
   ·refine kT bO (bQ (T.done (eY X scope cl N a3 pins s3 aM λ _ _=>False) rfl rfl rfl rfl aj i [] s5 σ5 bj _ o3 (stat sj) pS stop) λ r bI ⟨av,iB⟩=>?_);subst av;obtain ⟨m,az,_⟩:=iB.loc;refine ⟨m,az,λ h' eg=>⟨.ref s2.heap.objs.size,bj,?_,rfl,n5⟩⟩;have low : ∀ b o,s3.heap.get? b=some o->b≠s3.heap.objs.size:=λ b o q=>d1 (cb q)
    have same : ∀ b,b≠s3.heap.objs.size->h'.get? b=bI.heap.get? b:=λ b af=>eg.2 b af
    have B:=iB.base;refine cU.KO (s':={ bI with heap:=h' }) (H':=bj) (ch:=a3) iB.os ⟨λ b o q mQ I ah=>?_,λ b o q mQ I ah=>?_,B.free,λ b o q ah=>?_,B.oN,B.nc,B.oM⟩ (λ a o q=>?_) iB.bare (λ b af=>⟨(f2 b af).2.2.2.1,(f2 b af).2.1,(f2 b af).2.2.2.2.1,(f2 b af).2.2.2.2.2⟩)
    ·exact (same b (low b o q)).trans (B.keep b o q mQ I ah)
    ·obtain ⟨cZ,z⟩:=B.slot b o q mQ I ah;exact ⟨cZ,(same b (low b o q)).trans z⟩
    ·obtain ⟨e0,z⟩:=B.there b o q ah;exact ⟨e0,(same b (low b o q)).trans z⟩
    ·have r3 : ∀ c u,bj c=some u->c≠s3.heap.objs.size:=λ c u z y=>by
      have:=iB.free;rw [y] at z;rw [show bj s3.heap.objs.size=none from this] at z;cases z
     refine (iB.bX a o q).hP (λ c u dW z=>(same c ?_).trans z) (λ _ z=>z) λ _ _ z=>z
     rcases dW with fh | fh
     ·rw [fh];exact r3 a o q
     ·exact r3 c _ fh
   ·refine kT bO (bQ (T.item (eY X scope cl N a3 pins s3 aM λ _ _=>False) rfl rfl rfl rfl aj i [] s5 σ5 bj _ o3 (stat sj) pS go) λ r bI ⟨u,av,g9⟩=>?_);subst av;refine kT bO (bQ g9 λ _ dA ⟨x,ek,i2,ll,CC,sQ,CR⟩=>?_);have CG:=i2.pinned (stat CR) (T.obj _ _ sQ);refine kT bO (bQ (aR a3 pins s3 aM _ dA σ5 ek x u _ CG ll (step x ek CC)) λ _ e1 ⟨σ8,k_,vI,Cg⟩=>?_);refine kT bO (bQ (aW a3 pins s3 aM _ e1 σ8 k_ _ vI Cg) λ k iI ⟨tP,vJ,pb⟩=>?_);have fin : ∀ {s':Shared} {σ':St} {H':aA} {hL:bB},Inv (eY X scope cl N a3 pins s3 aM λ _ _=>False) ([]++uX a3 dA.heap) σ' H' s'->vK σ' H' hL ->
      ∃ cR,cR<n /\ ∃ i σ' H' ys,Inv (eY X scope cl N a3 pins s3 aM λ _ _=>False) [] σ' H' s'/\gR i s'.heap/\(∀ b∈a3,H' b=none)/\W i cR σ' H' ys:=λ {s' σ' H' hL} rS Cc=>by
     obtain ⟨cR,hm,wv⟩:=d9 σ' H' hL Cc;refine ⟨cR,hm,i+1,σ',H',hL,rS.yy,T.keep _ _ _ sQ λ b af o q=>(rS.pin (b,o) (jH _ (jH _ (vC af q)))).1,λ b af=>?_,wv⟩;obtain ⟨o,q,_⟩:=T.obj _ _ sQ b af;exact (rS.pin (b,o) (jH _ (jH _ (vC af q)))).2.1
    cases k with
    | false =>
     rw [if_neg fc] at pb ⊢;exact fin vJ pb.2
    | true =>
     rw [if_pos rfl] at pb ⊢;refine kT bO (bQ (he a3 pins s3 aM _ iI σ8 tP _ vJ pb) λ y n6 ⟨jX,yU,BQ,Cm,CW,Ci⟩=>?_);refine kT bO (bQ (Gs _ n6 σ8 yU (.ref s2.heap.objs.size) [jX] _ [y] (λ _ tQ=>vK σ8 tQ (ys++[jX])) BQ rfl (.cons Cm .nil) ⟨_,ys,jX,rfl,rfl,CW,aS,Ci⟩) λ _ sB ⟨_,tQ,BR,_,Cj⟩=>?_);exact fin BR Cj
  ·rw [<-rX,bw]
   ·exact (f2 b af).1
   ·obtain ⟨o,b1,_⟩:=T.obj 0 _ pR b af;exact d1 (cb b1)
 have goal:codeAny (model X.prog X.w) X.A (.compStart (.ListComp elt [⟨a_,iter,cs,0⟩] scope pos) 0 (.ref it) (.ref s2.heap.objs.size) (compEnvC scope (cellsFrom (s3.heap.objs.size+1) scope.names cl) s3.heap.objs.size X.env))
   (compPost (model X.prog X.w) X.A X.dB none (hl X pins σ Q) (.ref s2.heap.objs.size) s3.heap.objs.size) { s3 with heap:=aL } :=
  codeAny_compStart_list loop (T.self _ 0 _ _ _ xj loop)
 subst dT;exact goal
theorem rk.c {X:a7} {N:cE} (a9:rk X scope cl N js):tr X scope cl N js:=⟨a9.me,λ x ae=>absurd rfl (a9.rl _ (qq.mp ae)),a9.kind,a9.names,a9.sub,λ x h=>.inl (a9.has x h),a9.len,λ i j x I ah=>let ⟨a,b,c⟩:=a9.seen i j x I ah;⟨a,λ ae=>absurd rfl (a9.rl _ (qq.mp ae)),b,c⟩⟩
theorem vf {X:a7} {N:cE} {E:bY} (hD : ∀ y∈scope.names,y.2≠.cell):eY X scope cl N a3 pins s H E=lD X scope cl N a3 pins s H E:=by
 have cH:kf scope=[]:=List.eq_nil_iff_forall_not_mem.mpr λ x ae=>hD _ (qq.mp ae) rfl
 have aJ:cellsFrom (s.heap.objs.size+1) scope.names cl=cl:=by
  rw [lT,show cellsFrom (s.heap.objs.size+1) scope.names []=[] from List.eq_nil_iff_forall_not_mem.mpr λ p ao=>hD _ (tM (x:=p.1) (c:=p.2) ao) rfl];rfl
 unfold eY;rw [cH,aJ];rfl
theorem Yx {X:a7} {a_:Expr} {cs:List Expr} {pos:Pos} {N:cE} {a4:TE}
  (a9:rk X scope cl N js) (aj:X.warm=true) (aq:jO X a_ iter fa)
  (aR : ∀ a3 pins s H,mM (lD X scope cl N a3 pins s H λ _ _=>False) a_ g)
  (aW : ∀ a3 pins s H,sa (lD X scope cl N a3 pins s H λ _ _=>False) cs dx)
  (he : ∀ a3 pins s H,cG (lD X scope cl N a3 pins s H λ _ _=>False) elt a4)
  (aF : ∀ x,foldedSetIterable iter X.env x=pure x:=by intro _;rfl):cG X (.ListComp elt [⟨a_,iter,cs,0⟩] scope pos) (rf js fa g dx a4) :=
 M6 a9.c aj aq (λ a3 pins s H=>by rw [vf a9.rl];exact aR a3 pins s H) (λ a3 pins s H=>by rw [vf a9.rl];exact aW a3 pins s H) (λ a3 pins s H=>by rw [vf a9.rl];exact he a3 pins s H) aF
end bC
namespace jR
open PySem PyProof.Rows
theorem A_ (t:Addr) : ¬ ((Value.ref t == Value.none)=true):=fc
section
variable {E:bY}
theorem pull {j t:Addr} {k:Nat} {ag:cn} {x:Value} {Q:bY} (a:s.heap.IsTupleIter j t k) (b:s.heap.IsTuple t ag) (c:ag[k]?=some x)
  (q : ∀ g,g.IsTupleIter j t (k+1)->Heap.SameBut j s.heap g->Q x { s with heap:=g }):wpAny (model prog w) A (Builtin.SmallTypes.nextOf (.ref j)) Q E s:=by
 obtain ⟨aeL,y8,Qt,vP⟩:=id a;obtain ⟨QU,gt,_,aeJ,n0⟩:=b;unfold Builtin.SmallTypes.nextOf;refine aI (kW (name:=Str.ofString "__next__") a.typeIs uR (kX uR a.typeIs EI ?_ (EJ _)));show wpAny _ _ (field (.ref j) 0>>=_) _ _ s;refine aI (fN y8 vP (x:=.ref t) rfl ?_);show wpAny _ _ (ite ((Value.ref t == Value.none)=true) _ _) _ _ s;rw [if_neg (A_ t)];show wpAny _ _ (field (.ref j) 1>>=_) _ _ s;refine aI (fN y8 vP (x:=.int k 0) rfl ?_);show wpAny _ _ (seqItems? (.ref t)>>=_) _ _ s;refine aI (iw gt n0 ?_);simp only [dY,c];refine aI (wpAny_setField y8 vP .zs (b2 ⟨x,rfl,b2 (q _ ⟨_,s7 _ y8 (Obj.isFreed_of_fields (Obj.data_mapFields vP _)),(Obj.cls_mapFields ..).trans Qt,?_⟩ (AB ..))⟩));rw [Obj.data_mapFields vP];simp [rawInt]
theorem F4 {j t:Addr} {k:Nat} {ag:cn} {Q:bY} (hd:gu.In A s.heap) (a:s.heap.IsTupleIter j t k) (b:s.heap.IsTuple t ag) (c:ag[k]?=none)
  (q : ∀ g e,Heap.ExtBut j s.heap g->(∃ o,g.get? e=some o/\o.cls=.type "StopIteration")->E (.ref e) { s with heap:=g }):wpAny (model prog w) A (Builtin.SmallTypes.nextOf (.ref j)) Q E s :=
 gu.Nt hd a b c q
noncomputable def eE (p:Bool) (h:Heap) (j t:Addr) (k:Nat):Prop:=bif p then h.IsListIter j t k else h.IsTupleIter j t k
noncomputable def fJ (p:Bool) (h:Heap) (t:Addr) (xs:cn):Prop:=bif p then h.IsList t xs else h.IsTuple t xs
theorem eE.extBut {p:Bool} {h g:Heap} {j t:Addr} {k:Nat} (a:eE p h j t k) (e:Heap.ExtBut z h g) (n:j≠z):eE p g j t k:=by
 cases p
 ·exact Heap.IsTupleIter.extBut a e n
 ·exact Heap.IsListIter.extBut a e n
theorem fJ.extBut {p:Bool} {h g:Heap} {t:Addr} {xs:cn} (a:fJ p h t xs) (e:Heap.ExtBut z h g) (n:t≠z):fJ p g t xs:=by
 cases p
 ·exact Heap.IsTuple.extBut a e n
 ·exact Heap.IsList.extBut a e n
theorem eE.up {p:Bool} {h g:Heap} {j t:Addr} {k:Nat} (a:eE p h j t k) (u : ∀ o,h.get? j=some o->g.get? j=some o):eE p g j t k:=by
 cases p
 ·obtain ⟨o,e,r⟩:=a;exact ⟨o,u o e,r⟩
 ·obtain ⟨o,e,r⟩:=a;exact ⟨o,u o e,r⟩
theorem eE.hd {p:Bool} {h g:Heap} {j t:Addr} {k:Nat} (a:eE p h j t k) (hd:gu.In A h) (u:Heap.ExtBut j h g):gu.In A g:=by
 cases p
 ·obtain ⟨o,e,_,d⟩:=a;exact hd.but e (by rw [d];exact gu.AO) u
 ·obtain ⟨o,e,_,d⟩:=a;exact hd.but e (by rw [d];exact gu.AO) u
theorem ED {p:Bool} {j t:Addr} {k:Nat} {ag:cn} {x:Value} {Q:bY} (a:eE p s.heap j t k) (b:fJ p s.heap t ag) (c:ag[k]?=some x)
  (q : ∀ g,eE p g j t (k+1)->Heap.SameBut j s.heap g->Q x { s with heap:=g }):wpAny (model prog w) A (Builtin.SmallTypes.nextOf (.ref j)) Q E s:=by
 cases p
 ·exact pull a b c q
 ·exact wpAny_nextOf_list_item a b c q
theorem N6 {p:Bool} {j t:Addr} {k:Nat} {ag:cn} {Q:bY} (hd:gu.In A s.heap) (a:eE p s.heap j t k) (b:fJ p s.heap t ag) (c:ag[k]?=none)
  (q : ∀ g e,Heap.ExtBut j s.heap g->(∃ o,g.get? e=some o/\o.cls=.type "StopIteration")->E (.ref e) { s with heap:=g }):wpAny (model prog w) A (Builtin.SmallTypes.nextOf (.ref j)) Q E s:=by
 cases p
 ·exact gu.Nt hd a b c q
 ·exact gu.N0 hd a b c q
theorem Gh {cS:Bool} {TI c4:Addr} {k:Nat} {xs ys:cn} {x y a b:Value} {Q:bY} (D:ZipApart z TI c4 dq dU t1 bx)
  (eI:IsZip s.heap z TI c4 .none) (jY:IsPair s.heap TI (.ref dq) (.ref dU)) (mU:IsPair s.heap c4 a b)
  (gx:eE p1 s.heap dq t1 k) (i7:eE cS s.heap dU bx k) (c3:fJ p1 s.heap t1 xs) (dO:fJ cS s.heap bx ys) (ex:xs[k]?=some x) (eT:ys[k]?=some y)
  (q : ∀ g,IsZip g z TI c4 (rawInt s.heap.objs.size)->IsPair g c4 x y->eE p1 g dq t1 (k+1)->eE cS g dU bx (k+1)->IsPair g s.heap.objs.size x y ->
   (∀ c o,c≠z->c≠c4->c≠dq->c≠dU->s.heap.get? c=some o->g.get? c=some o)->Q (.ref s.heap.objs.size) { s with heap:=g }) :
  wpAny (model prog w) A (Builtin.«zip.__next__» ⟨[.ref z],[]⟩) (λ fin s' => ∃ v,fin=.done (.ret v)/\Q v s') E s:=by
 show wpAny _ _ (field (.ref z) 2>>=_) _ _ _;refine aI (fN eI rfl (x:=.bool false) rfl ?_);show wpAny _ _ (field (.ref z) 3>>=_) _ _ _;refine aI (fN eI rfl (x:=.ref TI) rfl (aI (iw jY rfl ?_)));show wpAny _ _ (Builtin.SmallTypes.ownedTupleIsFree (.ref z)>>=_) _ _ _;refine aI ?_;unfold Builtin.SmallTypes.ownedTupleIsFree;refine aI (fN eI rfl (x:=.none) rfl (b2 ?_));simp only [kY];refine aI (s8 (aI (fN eI rfl (x:=.ref c4) rfl (aI (nC eI .zs λ g1 jE s1=>?_)))));replace jE:IsZip g1 z TI c4 .ellipsis:=jE;refine aI ?_;simp only [List.zipIdx_cons,List.zipIdx_nil,List.forIn_cons,List.forIn_nil];refine aI (aI (rr ?_));show wpAny _ _ (Builtin.SmallTypes.nextOf (.ref dq)>>=_) _ _ _;refine aI (ED (gx.extBut s1.extBut D.i1z) (c3.extBut s1.extBut D.l1z) ex λ g2 zO s2=>b2 ?_);have pU:IsPair g2 c4 a b:=s2.extBut _ _ D.TOi1 (s1.extBut _ _ D.TOz mU);refine aI (iw pU rfl (aI (E9 pU λ g3 q5 s3=>?_)));replace q5:IsPair g3 c4 x b:=q5;refine aI (nD (b2 (aI (aI (rr ?_)))));show wpAny _ _ (Builtin.SmallTypes.nextOf (.ref dU)>>=_) _ _ _;have w4:=((i7.extBut s1.extBut D.i2z).extBut s2.extBut D.i12.symm).extBut s3.extBut D.TOi2.symm;have w5:=((dO.extBut s1.extBut D.l2z).extBut s2.extBut D.l2i1).extBut s3.extBut D.l2TO;refine aI (ED w4 w5 eT λ f6 Eb s4=>b2 ?_);have xq:IsPair f6 c4 x b:=s4.extBut _ _ D.TOi2 q5;refine aI (iw xq rfl (aI (E9 xq λ eH q6 s5=>?_)));replace q6:IsPair eH c4 x y:=q6;refine aI (nD (b2 (b2 (aI (iw q6 rfl (aI (wpAny_newTuple ?_)))))));have l2:eH.objs.size=s.heap.objs.size:=by rw [s5.1,s4.1,s3.1,s2.1,s1.1]
 have J5:IsZip eH z TI c4 .ellipsis:=s5.extBut _ _ D.TOz.symm (s4.extBut _ _ D.i2z.symm (s3.extBut _ _ D.TOz.symm (s2.extBut _ _ D.i1z.symm jE)));have Ur : ∀ c o,c≠z->c≠c4->c≠dq->c≠dU->s.heap.get? c=some o->eH.get? c=some o:=λ c o dr d0 e9 hU bh =>
  s5.extBut _ _ d0 (s4.extBut _ _ hU (s3.extBut _ _ d0 (s2.extBut _ _ e9 (s1.extBut _ _ dr bh))))
 have TG:eE p1 eH dq t1 (k+1):=((zO.extBut s3.extBut D.TOi1.symm).extBut s4.extBut D.i12).extBut s5.extBut D.TOi1.symm;have TJ:eE cS eH dU bx (k+1):=Eb.extBut s5.extBut D.TOi2.symm;have pV:z<eH.objs.size:=cb J5;show wpAny _ _ (Builtin.SmallTypes.ownedTupleHandOut (.ref z) (.ref eH.objs.size)>>=_) _ _ _;refine aI ?_;unfold Builtin.SmallTypes.ownedTupleHandOut;have Uz:IsZip (eH.push { cls:=.type "tuple", data:=.seq #[x,y] }) z TI c4 .ellipsis:=bW _ J5;refine aI (nC Uz .zs λ i6 uy dA=>?_);replace uy:IsZip i6 z TI c4 (rawInt eH.objs.size):=uy;refine nC uy .zs λ y6 uz e1=>?_
 replace uz:IsZip y6 z TI c4 (rawInt eH.objs.size):=uz;have z4 : ∀ c o,c≠z->eH.get? c=some o->y6.get? c=some o:=λ c o dr bh=>e1.extBut _ _ dr (dA.extBut _ _ dr (bW _ bh))
 have Kp:IsPair y6 eH.objs.size x y:=e1.extBut _ _ (hz pV) (dA.extBut _ _ (hz pV) (dI _ rfl));rw [l2] at uz Kp;refine b2 ⟨_,rfl,?_⟩;show Q (.ref eH.objs.size) _;rw [l2];refine q y6 uz (z4 _ _ D.TOz q6) ?_ ?_ Kp λ c o dr d0 e9 hU bh=>z4 c o dr (Ur c o dr d0 e9 hU bh)
 ·exact TG.up λ o=>z4 _ o D.i1z
 ·exact TJ.up λ o=>z4 _ o D.i2z
theorem Gi {cS:Bool} {TI c4:Addr} {k:Nat} {xs ys:cn} {a b:Value} {Q:Fin->Shared->Prop} (hd:gu.In A s.heap) (D:ZipApart z TI c4 dq dU t1 bx)
  (eI:IsZip s.heap z TI c4 .none) (jY:IsPair s.heap TI (.ref dq) (.ref dU)) (mU:IsPair s.heap c4 a b)
  (gx:eE p1 s.heap dq t1 k) (i7:eE cS s.heap dU bx k) (c3:fJ p1 s.heap t1 xs) (dO:fJ cS s.heap bx ys) (B6:xs[k]?=none\/ys[k]?=none)
  (q : ∀ g e,(∀ c o,c≠z->c≠c4->c≠dq->c≠dU->s.heap.get? c=some o->g.get? c=some o)->(∃ o,g.get? e=some o/\o.cls=.type "StopIteration")->E (.ref e) { s with heap:=g }) :
  wpAny (model prog w) A (Builtin.«zip.__next__» ⟨[.ref z],[]⟩) Q E s:=by
 show wpAny _ _ (field (.ref z) 2>>=_) _ _ _;refine aI (fN eI rfl (x:=.bool false) rfl ?_);show wpAny _ _ (field (.ref z) 3>>=_) _ _ _;refine aI (fN eI rfl (x:=.ref TI) rfl (aI (iw jY rfl ?_)));show wpAny _ _ (Builtin.SmallTypes.ownedTupleIsFree (.ref z)>>=_) _ _ _;refine aI ?_;unfold Builtin.SmallTypes.ownedTupleIsFree;refine aI (fN eI rfl (x:=.none) rfl (b2 ?_));simp only [kY];refine aI (s8 (aI (fN eI rfl (x:=.ref c4) rfl (aI (nC eI .zs λ g1 jE s1=>?_)))));replace jE:IsZip g1 z TI c4 .ellipsis:=jE;refine aI ?_;simp only [List.zipIdx_cons,List.zipIdx_nil,List.forIn_cons,List.forIn_nil];refine aI (aI (rr ?_));show wpAny _ _ (Builtin.SmallTypes.nextOf (.ref dq)>>=_) _ _ _;have uf:gu.In A g1:=hd.but eI (λ ag e=>by injection e with e;subst e;exact λ z=>nomatch z) s1.extBut;cases ex:xs[k]? with
 | none =>
  refine aI (N6 uf (gx.extBut s1.extBut D.i1z) (c3.extBut s1.extBut D.l1z) ex λ g2 e s2 ⟨eN,j1,coe⟩=>?_);have xr:IsZip g2 z TI c4 .ellipsis:=s2 _ _ D.i1z.symm jE;have w9:e≠z:=λ y=>by
   subst y;rw [xr] at j1;cases j1;simp at coe
  exact nC xr .zs λ g3 _ s3=>q g3 e (λ c o dr _ e9 _ y=>s3.extBut _ _ dr (s2 _ _ e9 (s1.extBut _ _ dr y))) ⟨eN,s3.extBut _ _ w9 j1,coe⟩
 | some x =>
  have eT:ys[k]?=none:=B6.resolve_left (by rw [ex];exact λ y=>nomatch y);refine aI (ED (gx.extBut s1.extBut D.i1z) (c3.extBut s1.extBut D.l1z) ex λ g2 zO s2=>b2 ?_);have pU:IsPair g2 c4 a b:=s2.extBut _ _ D.TOi1 (s1.extBut _ _ D.TOz mU);refine aI (iw pU rfl (aI (E9 pU λ g3 q5 s3=>?_)));refine aI (nD (b2 (aI (aI (rr ?_)))));show wpAny _ _ (Builtin.SmallTypes.nextOf (.ref dU)>>=_) _ _ _;have w4:=((i7.extBut s1.extBut D.i2z).extBut s2.extBut D.i12.symm).extBut s3.extBut D.TOi2.symm;have w5:=((dO.extBut s1.extBut D.l2z).extBut s2.extBut D.l2i1).extBut s3.extBut D.l2TO;have hd2:gu.In A g2:=(gx.extBut s1.extBut D.i1z).hd uf s2.extBut;have l8:gu.In A g3:=hd2.but pU (λ ag e=>nomatch e) s3.extBut;refine aI (N6 l8 w4 w5 eT λ f6 e s4 ⟨eN,j1,coe⟩=>?_);have J4:IsZip f6 z TI c4 .ellipsis:=s4 _ _ D.i2z.symm (s3.extBut _ _ D.TOz.symm (s2.extBut _ _ D.i1z.symm jE));have w9:e≠z:=λ y=>by
   subst y;rw [J4] at j1;cases j1;simp at coe
  exact nC J4 .zs λ eH _ s5=>q eH e (λ c o dr d0 e9 hU y=>s5.extBut _ _ dr (s4 _ _ hU (s3.extBut _ _ d0 (s2.extBut _ _ e9 (s1.extBut _ _ dr y))))) ⟨eN,s5.extBut _ _ w9 j1,coe⟩
theorem next_item {cS:Bool} {TI c4:Addr} {k:Nat} {xs ys:cn} {x y a b:Value} {Q:dP->Shared->Prop} (D:ZipApart z TI c4 dq dU t1 bx)
  (eI:IsZip s.heap z TI c4 .none) (jY:IsPair s.heap TI (.ref dq) (.ref dU)) (mU:IsPair s.heap c4 a b)
  (gx:eE p1 s.heap dq t1 k) (i7:eE cS s.heap dU bx k) (c3:fJ p1 s.heap t1 xs) (dO:fJ cS s.heap bx ys) (ex:xs[k]?=some x) (eT:ys[k]?=some y)
  (q : ∀ g,IsZip g z TI c4 (rawInt s.heap.objs.size)->IsPair g c4 x y->eE p1 g dq t1 (k+1)->eE cS g dU bx (k+1)->IsPair g s.heap.objs.size x y ->
   (∀ c o,c≠z->c≠c4->c≠dq->c≠dU->s.heap.get? c=some o->g.get? c=some o)->Q (some (.ref s.heap.objs.size)) { s with heap:=g }):wpAny (model prog w) A (pyNext (.ref z)) Q E s:=by
 have ty:s.TypeIs (.ref z) "zip" := ⟨_,eI,rfl⟩
 unfold pyNext;refine aI (p_ (kW (name:=Str.ofString "__next__") ty rt (kX rt ty AS ?_ (AU _))));exact Gh D eI jY mU gx i7 c3 dO ex eT λ g d7 ef fz gK d8 gL=>b2 (q g d7 ef fz gK d8 gL)
theorem Gu {cS:Bool} {TI c4:Addr} {k:Nat} {xs ys:cn} {a b:Value} {Q:dP->Shared->Prop} (hd:gu.In A s.heap) (D:ZipApart z TI c4 dq dU t1 bx)
  (eI:IsZip s.heap z TI c4 .none) (jY:IsPair s.heap TI (.ref dq) (.ref dU)) (mU:IsPair s.heap c4 a b)
  (gx:eE p1 s.heap dq t1 k) (i7:eE cS s.heap dU bx k) (c3:fJ p1 s.heap t1 xs) (dO:fJ cS s.heap bx ys) (B6:xs[k]?=none\/ys[k]?=none)
  (q : ∀ g,(∀ c o,c≠z->c≠c4->c≠dq->c≠dU->s.heap.get? c=some o->g.get? c=some o)->Q none { s with heap:=g }):wpAny (model prog w) A (pyNext (.ref z)) Q E s:=by
 have ty:s.TypeIs (.ref z) "zip" := ⟨_,eI,rfl⟩
 unfold pyNext;refine aI (p_ (kW (name:=Str.ofString "__next__") ty rt (kX rt ty AS ?_ (AU _))));refine Gi hd D eI jY mU gx i7 c3 dO B6 λ g e up ⟨eN,j1,coe⟩=>?_
 exact aI (rh (T := "StopIteration") (b:=true) ⟨eN,j1,coe⟩ s9 (b2 (q _ up)))
end
noncomputable abbrev DF (p:Bool) (t:Addr):Obj:={ cls:=.type (bif p then "list_iterator" else "tuple_iterator"),data:=.fields #[.ref t,.int 0 0] }
theorem fJ.push {p:Bool} {h:Heap} {t:Addr} {xs:cn} (a:fJ p h t xs) (o:Obj):fJ p (h.push o) t xs:=by
 cases p
 ·exact AV a o
 ·exact Heap.IsList.push a o
theorem Ml {E:bY} {p:Bool} {t:Addr} {xs:cn} {Q:bY} (h:fJ p s.heap t xs) (q:Q (.ref s.heap.objs.size) { s with heap:=s.heap.push (DF p t) }):wpAny (model prog w) A (pyIter (.ref t)) Q E s:=by
 cases p
 ·exact nq h q
 ·exact ri h q
noncomputable abbrev w6 (p:Bool) (h:Heap) (t1:Addr):Heap:=h.push (DF p t1)
noncomputable abbrev zR (p q:Bool) (h:Heap) (t1 bx:Addr):Heap:=(w6 p h t1).push (DF q bx)
noncomputable abbrev pL (p q:Bool) (h:Heap) (t1 bx:Addr):Heap:=(zR p q h t1 bx).push { cls:=.type "tuple", data:=.seq #[.ref h.objs.size,.ref (w6 p h t1).objs.size] }
noncomputable abbrev pM (p q:Bool) (h:Heap) (t1 bx:Addr):Heap:=(pL p q h t1 bx).push { cls:=.type "tuple", data:=.seq #[.none,.none] }
noncomputable abbrev m5 (p q:Bool) (h:Heap) (t1 bx:Addr):Heap:=(pM p q h t1 bx).push { cls:=.type "zip", data:=.fields #[.none,.bool false,.bool false,.ref (zR p q h t1 bx).objs.size,.ref (pL p q h t1 bx).objs.size] }
theorem Gr (p q:Bool) (t1 bx:Addr) (xs ys:cn):Meets (Builtin.«zip.__new__» ⟨[.type "zip", .ref t1,.ref bx],[]⟩) (λ _ R s=>fJ p s.heap t1 xs/\fJ q s.heap bx ys/\R (.ok (.ret (.ref (pM p q s.heap t1 bx).objs.size))) { s with heap:=m5 p q s.heap t1 bx }) :=
 .of_wp λ prog w A R s h=>by
  obtain ⟨de,tU,bD,tt,tZ⟩:=s;obtain ⟨a1,a2,h⟩:=h;have sub:=sub_zip;have d7:fJ p (Shared.heap ⟨de,tU,bD,tt,tZ⟩) t1 xs:=a1;have ef:fJ q (Shared.heap ⟨w6 p de t1,tU,bD,tt,tZ⟩) bx ys:=fJ.push a2 _
  wp_walk using Ml d7,Ml ef
  exact ⟨_,rfl,h⟩
section
variable {E:bY}
theorem make {p q:Bool} {xs ys:cn} {Q:bY} (a1:fJ p s.heap t1 xs) (a2:fJ q s.heap bx ys)
  (k : ∀ g,IsZip g (s.heap.objs.size+4) (s.heap.objs.size+2) (s.heap.objs.size+3) .none->IsPair g (s.heap.objs.size+2) (.ref s.heap.objs.size) (.ref (s.heap.objs.size+1))->IsPair g (s.heap.objs.size+3) .none .none ->
   eE p g s.heap.objs.size t1 0->eE q g (s.heap.objs.size+1) bx 0->(∀ c o,s.heap.get? c=some o->g.get? c=some o)->Q (.ref (s.heap.objs.size+4)) { s with heap:=g }) :
  wpAny (model prog w) A (call (.type "zip") [.ref t1,.ref bx]) Q E s:=by
 refine callType_new F.called_zip .aG (F.typeCall_zip_2 _ _) (F.newCall_zip_2 _ _) (λ obj=>F.args_object_init_3 obj _ _) F.entry_zip_new (Gr p q t1 bx xs ys) ⟨a1,a2,?_⟩;have dr:(w6 p s.heap t1).objs.size=s.heap.objs.size+1:=fX ..;have d0:(zR p q s.heap t1 bx).objs.size=s.heap.objs.size+2:=by rw [fX,dr]
 have e9:(pL p q s.heap t1 bx).objs.size=s.heap.objs.size+3:=by rw [fX,d0]
 have hU:(pM p q s.heap t1 bx).objs.size=s.heap.objs.size+4:=by rw [fX,e9]
 have pa:(m5 p q s.heap t1 bx).get? (pM p q s.heap t1 bx).objs.size=some _:=dI _ rfl;have o_:(m5 p q s.heap t1 bx).get? (pL p q s.heap t1 bx).objs.size=some _:=bW _ (dI _ rfl);have hq:(m5 p q s.heap t1 bx).get? (zR p q s.heap t1 bx).objs.size=some _:=bW _ (bW _ (dI _ rfl));have cS:(m5 p q s.heap t1 bx).get? (w6 p s.heap t1).objs.size=some _:=bW _ (bW _ (bW _ (dI _ rfl)));have p1:(m5 p q s.heap t1 bx).get? s.heap.objs.size=some _:=bW _ (bW _ (bW _ (bW _ (dI _ rfl))));show _/\_;rw [d0,e9,hU] at pa;rw [dr,d0] at hq;rw [e9] at o_;rw [dr] at cS;rw [hU];exact ⟨⟨_,pa,rfl⟩,k _ pa hq o_ (by cases p<;>exact ⟨_,p1,rfl,rfl⟩) (by cases q<;>exact ⟨_,cS,rfl,rfl⟩) λ c o y=>bW _ (bW _ (bW _ (bW _ (bW _ y))))⟩
end
end jR
namespace bC
open PySem PySem.Spec PyProof.Rows
noncomputable def ju:Expr->Bool
 | .Tuple _ _ _=>true
 | _=>false
theorem Inv.yB {X:a7} {L:List Addr} {p:Addr} (C:Inv X pins σ H s) (k : ∀ b o,b∉L->s.heap.get? b=some o->h'.get? b=some o)
  (hf : ∀ b∈L,m8 X pins H b) (ao:s.heap.objs.size<=p) (new:fw X.prog X.w (upd H p (.tup xs)) h' p (.tup xs)):Inv X pins σ (upd H p (.tup xs)) { s with heap:=h',toks:=t' }:=by
 have az:H p=none:=C.bX.fresh ao;have ne : ∀ b o,s.heap.get? b=some o->b≠p:=λ b o e=>d1 (g0 (cb e) ao)
 have qX : ∀ b u,H b=some u->b∉L:=λ b u e z=>by rw [(hf b z).1] at e;cases e
 refine C.step (g':=s.gens) (d':=s.drawn) (ch:=L) (λ b af=>?_) (λ b o _ _ aj e _=>k b o aj e) (λ b o _ _ aj e _=>⟨o.slots,k b o aj e⟩) (λ b o _ e n=>by rw [bw (ne b o e)];exact n) (λ b o aj e=>⟨o,k b o aj e⟩)
  (λ b ys e=>by rw [bw (bT e az)];exact e) (λ b o u e=>by rw [bw (bT e az)];exact e) (λ b ps e=>⟨#[],by rw [bw (bT e az),e];simp⟩) (λ m hm=>?_) (λ b u e=>?_) C.bare
 ·obtain ⟨_,f1,_,e8,f4,eG⟩:=hf b af;exact ⟨e8,f1,f4,eG⟩
 ·obtain ⟨o,es,e7,a0,r⟩:=hm;exact ⟨o,es,e7,k _ o (λ z=>(hf _ z).2.1 rfl) a0,r⟩
 ·by_cases af:b=p
  ·subst af;rw [bK] at e;cases e;exact new
  ·rw [bw af] at e;refine (C.bX b u e).hP (λ c v aj q=>k c v ?_ q) (λ c q=>by rw [bw (bT q az)];exact q) λ c ys q=>by rw [bw (bT q az)];exact q
   rcases aj with z | z
   ·rw [z];exact qX b u e
   ·exact qX c _ z
theorem Inv.ym {X:a7} {L:List Addr} (C:Inv X pins σ H s) (k : ∀ b o,b∉L->s.heap.get? b=some o->h'.get? b=some o)
  (hf : ∀ b∈L,m8 X pins H b):Inv X pins σ H { s with heap:=h',toks:=t' }:=by
 have qX : ∀ b u,H b=some u->b∉L:=λ b u e z=>by rw [(hf b z).1] at e;cases e
 refine C.step (g':=s.gens) (d':=s.drawn) (ch:=L) (λ b af=>?_) (λ b o _ _ aj e _=>k b o aj e) (λ b o _ _ aj e _=>⟨o.slots,k b o aj e⟩) (λ _ _ _ _ n=>n) (λ b o aj e=>⟨o,k b o aj e⟩) (λ _ _ e=>e) (λ _ _ _ e=>e) (λ b ps e=>⟨#[],by rw [e];simp⟩)
  (λ m hm=>?_) (λ b u e=>?_) C.bare
 ·obtain ⟨_,f1,_,e8,f4,eG⟩:=hf b af;exact ⟨e8,f1,f4,eG⟩
 ·obtain ⟨o,es,e7,a0,r⟩:=hm;exact ⟨o,es,e7,k _ o (λ z=>(hf _ z).2.1 rfl) a0,r⟩
 ·refine (C.bX b u e).hP (λ c v aj q=>k c v ?_ q) (λ _ q=>q) λ _ _ q=>q
  rcases aj with z | z
  ·rw [z];exact qX b u e
  ·exact qX c _ z
noncomputable def jZ (p:Bool) (K:dc) (H:aA) (a:Addr) (xs:bB):Prop:=bif p then aQ K H a xs else aP K H a xs
theorem Inv.uI {X:a7} {p:Bool} (C:Inv X pins σ H s) (h:jZ p X.K H a xs) : ∃ its:List Value,Vals xs its/\jR.fJ p s.heap a its.toArray:=by
 cases p
 ·obtain ⟨its,r,e,_⟩:=C.tuple h;exact ⟨its,r,e⟩
 ·obtain ⟨its,r,e,_⟩:=C.list h;exact ⟨its,r,e.isList⟩
theorem Inv.Nk {X:a7} {p:Bool} (C:Inv X pins σ H s) (h:jZ p X.K H a xs) (h':jZ p X.K H a ys):xs=ys:=by
 cases p
 ·exact C.vB h h'
 ·exact C.MW h h'
theorem fJ.lt {p:Bool} {h:Heap} {xs:cn} (e:jR.fJ p h a xs):a<h.objs.size:=by
 cases p<;>obtain ⟨o,e,_⟩:=e<;>exact cb e
theorem eE.da {p:Bool} {h:Heap} {j t:Addr} {k:Nat} (e:jR.eE p h j t k) : ∃ o,h.get? j=some o /\ ∀ v,o.data≠.cell v:=by
 cases p<;>obtain ⟨o,e,_,d⟩:=e<;>exact ⟨o,e,λ v q=>by rw [d] at q;cases q⟩
noncomputable def r7 (p q:Bool) (K:dc) (a b:Addr):hB :=
 ⟨λ i H => ∃ xs ys x y,jZ p K H a xs/\jZ q K H b ys/\xs[i]?=some x/\ys[i]?=some y,
 λ i H v H' => ∃ n,H n=none/\v=.ref n /\ ∃ x y,H'=upd H n (.tup [x,y]) /\ ∀ xs ys,jZ p K H a xs->jZ q K H b ys->xs[i]?=some x/\ys[i]?=some y,
 λ i H => ∃ xs ys,jZ p K H a xs/\jZ q K H b ys/\(xs.length<=i\/ys.length<=i)⟩
theorem Oe {p q:Bool} {P:Program} {a_:Expr} (fb:ju a_=true) {TI c4 b:Addr} (D:ZipApart z TI c4 dq dU a b) :
  Turn P w K B1 a_ (r7 p q K a b) [z,c4,dq,dU,TI] z (λ i h=>IsZip h z TI c4 .none/\IsPair h TI (.ref dq) (.ref dU)/\(∃ u v,IsPair h c4 u v)/\jR.eE p h dq a i/\jR.eE q h dU b i) where
 mem:=d2
 obj:=λ i h st c aj=>by
  obtain ⟨I,ah,⟨u,v,aD⟩,aL,cp⟩:=st;have j9 : ∀ {o:Obj} {ag:cn},o.data=.fields ag -> ∀ v,o.data≠.cell v:=λ e v q=>by rw [e] at q;cases q
  have xa : ∀ {o:Obj} {ag:cn} {n:Nat},o.data=.seq ag n -> ∀ v,o.data≠.cell v:=λ e v q=>by rw [e] at q;cases q
  simp only [c8,gg,gh] at aj;rcases aj with rfl | rfl | rfl | rfl | rfl
  ·exact ⟨_,I,j9 rfl⟩
  ·exact ⟨_,aD,xa rfl⟩
  ·exact eE.da aL
  ·exact eE.da cp
  ·exact ⟨_,ah,xa rfl⟩
 keep:=λ i h h' st k=>by
  obtain ⟨I,ah,⟨u,v,aD⟩,aL,cp⟩:=st;exact ⟨k _ .zs _ I,k _ .zs _ ah,⟨u,v,k _ .zs _ aD⟩,aL.up (k _ .zs),cp.up (k _ .zs)⟩
 item:=by
  intro X b8 hw dp j4 aj i pins s σ H E C hf st aR;subst b8 hw dp;obtain ⟨I,ah,⟨u,v,aD⟩,aL,cp⟩:=st;obtain ⟨xs,ys,x,y,b3,dv,ae,a8⟩:=aR;obtain ⟨its,cM,i8⟩:=C.uI b3;obtain ⟨ur,ik,mS⟩:=C.uI dv;obtain ⟨iK,mZ,pO⟩:=cM.get ae;obtain ⟨mT,CQ,DN⟩:=ik.get a8;refine jR.next_item D I ah aD aL cp i8 mS (x:=iK) (y:=mT) (by simpa using mZ) (by simpa using CQ) λ g d7 ef fz gK d8 gL=>?_
  refine ⟨_,rfl,?_⟩;have pV:z<s.heap.objs.size:=cb I;cases a_ with
  | Tuple es df pp =>
   refine wpAny_letOwnedTupleGo_zip d7 λ g' fg eg=>?_
   have new:IsPair g' s.heap.objs.size iK mT:=eg.extBut _ _ (hz pV) d8;have bg:Inv X pins σ (upd H s.heap.objs.size (.tup [x,y])) { s with heap:=g' }:=by
    refine C.yB (t':=s.toks) (L:=[z,c4,dq,dU,TI]) (λ c o c5 e=>?_) hf (br _) ⟨by show 2<=sizeLine;decide,[iK,mT],.cons pO (.cons DN .nil),⟨_,new,rfl,⟨0,rfl⟩,rfl⟩⟩;simp only [c8,gg,gh,not_or] at c5;exact eg.extBut c o c5.1 (gL c o c5.1 c5.2.1 c5.2.2.1 c5.2.2.2.1 e)
   have wC:IsPair g' TI (.ref dq) (.ref dU):=eg.extBut _ _ D.TIz (gL _ _ D.TIz D.TITO D.TIi1 D.TIi2 ah);refine ⟨.ref s.heap.objs.size,_,bg,rfl,⟨_,C.fresh,rfl,x,y,rfl,λ z5 hL ba cm=>⟨by rw [C.Nk ba b3];exact ae,by rw [C.Nk cm dv];exact a8⟩⟩,⟨fg,wC,⟨_,_,eg.extBut _ _ D.TOz ef⟩,fz.extBut eg.extBut D.i1z,gK.extBut eg.extBut D.i2z⟩,λ c dH=>?_⟩;obtain ⟨o,b1,_⟩ : ∃ o,s.heap.get? c=some o/\True:=by
    simp only [c8,gg,gh] at dH;rcases dH with rfl | rfl | rfl | rfl | rfl
    ·exact ⟨_,I,trivial⟩
    ·exact ⟨_,aD,trivial⟩
    ·obtain ⟨jx,f6,_⟩:=eE.da aL;exact ⟨_,f6,trivial⟩
    ·obtain ⟨zc,eH,_⟩:=eE.da cp;exact ⟨_,eH,trivial⟩
    ·exact ⟨_,ah,trivial⟩
   rw [bw (d1 (cb b1))];exact (hf c dH).1
  | _=>exact absurd (show false=true from fb) fc
 done:=by
  intro X b8 hw dp j4 aj i pins s σ H E C hf st aR;subst b8 hw dp;obtain ⟨I,ah,⟨u,v,aD⟩,aL,cp⟩:=st;obtain ⟨xs,ys,b3,dv,ar⟩:=aR;obtain ⟨its,cM,i8⟩:=C.uI b3;obtain ⟨ur,ik,mS⟩:=C.uI dv;have aJ:=cM.length;have aN:=ik.length;refine jR.Gu (C.j3 aj) D I ah aD aL cp i8 mS ?_ λ g up=>⟨rfl,?_⟩
  ·rcases ar with ar | ar
   ·exact .inl (by simp;omega)
   ·exact .inr (by simp;omega)
  ·refine C.ym (t':=s.toks) (L:=[z,c4,dq,dU,TI]) (λ c o c5 e=>?_) hf;simp only [c8,gg,gh,not_or] at c5;exact up c o c5.1 c5.2.1 c5.2.2.1 c5.2.2.2.1 e
 self:=λ _ _ _ _ _ st h=>AW st.1 h
section
variable {X:a7} {a_:Expr}
theorem apart_new {n c3 dO:Addr} (I:c3<n) (ah:dO<n):ZipApart (n+4) (n+2) (n+3) n (n+1) c3 dO:=zipApart_new I ah
noncomputable def EB (p q:Bool) (K:dc) (bq:dh):TI:=λ σ H R=>bq σ H λ ag H1 => ∃ a b,ag=[.ref a,.ref b]/\(∃ xs,jZ p K H1 a xs)/\(∃ ys,jZ q K H1 b ys)/\R (r7 p q K a b) H1
theorem LJ {ba:Bool} {b:Addr} {R:hB->aA->Prop} (C:Inv X pins σ H s) (b3:jZ p1 X.K H a xs) (dv:jZ ba X.K H b ys)
  (tV : ∀ {z TI c4 dq dU:Addr},ZipApart z TI c4 dq dU a b->Turn X.prog X.w X.K X.calm a_ J [z,c4,dq,dU,TI] z (λ i h=>IsZip h z TI c4 .none/\IsPair h TI (.ref dq) (.ref dU)/\(∃ u v,IsPair h c4 u v)/\jR.eE p1 h dq a i/\jR.eE ba h dU b i)) (q:R J H) :
  wpAny (model X.prog X.w) X.A (call (.type "zip") [.ref a,.ref b]) (λ v s1=>wpAny (model X.prog X.w) X.A (pyIter v) (CI X pins σ a_ R) X.dB s1) X.dB s:=by
 obtain ⟨its,cM,i8⟩:=C.uI b3;obtain ⟨ur,ik,mS⟩:=C.uI dv;have lj:=fJ.lt i8;have vY:=fJ.lt mS;refine jR.make i8 mS λ g fi eV kD CD CE up=>?_
 refine AW fi ?_;have dd:Inv X pins σ H { s with heap:=g }:=C.kept (t':=s.toks) up;refine ⟨_,[s.heap.objs.size+4,s.heap.objs.size+3,s.heap.objs.size,s.heap.objs.size+1,s.heap.objs.size+2],_,_,H,rfl,dd,tV (apart_new lj vY),⟨fi,eV,⟨_,_,kD⟩,CD,CE⟩,λ c aj=>?_,q⟩;have big:s.heap.objs.size<=c:=by
  simp only [c8,gg,gh] at aj;rcases aj with rfl | rfl | rfl | rfl | rfl
  ·exact mC _ _
  ·exact mC _ _
  ·exact br _
  ·exact mC _ _
  ·exact mC _ _
 exact C.pY big (C.bX.fresh big)
theorem Mi {ba:Bool} {bq:dh} {p pos:Pos} (fb:ju a_=true) (aR:d6 X "zip") (hm:X.ax "zip" = none) (au:hS X [aJ,aN] bq) (aF:starEach [aJ,aN] X.env=[(false,eval aJ X.env),(false,eval aN X.env)]:=by rfl) (hI:starEach [aN] X.env=[(false,eval aN X.env)]:=by rfl)
  (af:bootBuiltins "zip" = some (.type "zip"):=by decide +kernel):jO X a_ (.Call (.Name "zip" p) [aJ,aN] [] pos) (EB p1 ba X.K bq):=by
 intro pins s σ H R C h;refine Call_ (lE C aR hm af (oT (bQ (au pos pins s σ H _ C h) λ us s1 ⟨ag,H1,bg,bV,ba⟩=>?_) (by rw [aF,hI]) (by rw [hI];rfl)));obtain ⟨a,b,e,⟨xs,b3⟩,⟨ys,dv⟩,q⟩:=ba;subst e;obtain ⟨fR,gp,rfl,dw,pe⟩:=vals2 bV;cases dw;cases pe;exact LJ bg b3 dv (Oe fb) q
end
theorem MR {p q:Bool} {b:Addr} {tb:eK} {D:Ends} (Pv:Nat->St->aA->Prop) (h0:Pv 0 σ H) (ar : ∀ i σ H,i<=min xs.length ys.length->Pv i σ H->jZ p K H a xs/\jZ q K H b ys)
  (aF : ∀ i x y p σ H,xs[i]?=some x->ys[i]?=some y->H p=none->Pv i σ H->g (.ref p) σ (upd H p (.tup [x,y])) λ σ2 ay=>tb { D with bO:=Pv (i+1),cO:=Pv (i+1),eL:=D.bO } σ2 ay) (hd : ∀ σ H,Pv (min xs.length ys.length) σ H->D.bO σ H) :
  ∃ W:Nat->Nat->St->aA->Prop,(∃ m,W 0 m σ H) /\ ∀ i m σ H,W i m σ H ->
   ((r7 p q K a b).stop i H/\D.bO σ H)\/((r7 p q K a b).go i H /\ ∃ N:St->aA->Prop,(∀ σ' H',N σ' H' -> ∃ cR,cR<m/\W (i+1) cR σ' H') /\ ∀ x H',(r7 p q K a b).iR i H x H'->g x σ H' λ σ2 ay=>tb { D with bO:=N,cO:=N,eL:=D.bO } σ2 ay):=by
 refine ⟨λ i m σ H=>m=min xs.length ys.length - i/\i<=min xs.length ys.length/\Pv i σ H,⟨_,rfl,fk _,h0⟩,?_⟩;rintro i m σ H ⟨rfl,aq,p⟩;obtain ⟨b3,dv⟩:=ar i σ H aq p;by_cases dg:i<min xs.length ys.length
 ·have I:i<xs.length:=by omega
  have ah:i<ys.length:=by omega
  refine .inr ⟨⟨xs,ys,xs[i],ys[i],b3,dv,by simp [I],by simp [ah]⟩,Pv (i+1),λ σ' H' dV=>⟨min xs.length ys.length - (i+1),.ab,rfl,dg,dV⟩,λ v H' jX=>?_⟩;obtain ⟨q,aK,rfl,x,y,rfl,je⟩:=jX;obtain ⟨ex,eT⟩:=je xs ys b3 dv;exact aF i x y q σ H ex eT aK p
 ·have e:i=min xs.length ys.length:=by omega
  refine .inl ⟨⟨xs,ys,b3,dv,.ab⟩,hd σ H (e ▸ p)⟩
noncomputable abbrev wg (K:dc) (a b:Addr):hB:=r7 false false K a b
noncomputable abbrev Kn (K:dc) (bq:dh):TI:=EB false false K bq
section
variable {X:a7} {a_:Expr}
theorem Xp {bq:dh} {p pos:Pos} (fb:ju a_=true) (aR:d6 X "zip") (hm:X.ax "zip" = none) (au:hS X [aJ,aN] bq) (aF:starEach [aJ,aN] X.env=[(false,eval aJ X.env),(false,eval aN X.env)]:=by rfl) (hI:starEach [aN] X.env=[(false,eval aN X.env)]:=by rfl)
  (af:bootBuiltins "zip" = some (.type "zip"):=by decide +kernel):jO X a_ (.Call (.Name "zip" p) [aJ,aN] [] pos) (Kn X.K bq):=Mi fb aR hm au aF hI af
end
theorem L6 {b:Addr} {tb:eK} {D:Ends} (Pv:Nat->St->aA->Prop) (h0:Pv 0 σ H) (ar : ∀ i σ H,i<=min xs.length ys.length->Pv i σ H->aP K H a xs/\aP K H b ys)
  (aF : ∀ i x y p σ H,xs[i]?=some x->ys[i]?=some y->H p=none->Pv i σ H->g (.ref p) σ (upd H p (.tup [x,y])) λ σ2 ay=>tb { D with bO:=Pv (i+1),cO:=Pv (i+1),eL:=D.bO } σ2 ay) (hd : ∀ σ H,Pv (min xs.length ys.length) σ H->D.bO σ H) :
  ∃ W:Nat->Nat->St->aA->Prop,(∃ m,W 0 m σ H) /\ ∀ i m σ H,W i m σ H ->
   ((wg K a b).stop i H/\D.bO σ H)\/((wg K a b).go i H /\ ∃ N:St->aA->Prop,(∀ σ' H',N σ' H' -> ∃ cR,cR<m/\W (i+1) cR σ' H') /\ ∀ x H',(wg K a b).iR i H x H'->g x σ H' λ σ2 ay=>tb { D with bO:=N,cO:=N,eL:=D.bO } σ2 ay) :=
 MR (p:=false) (q:=false) Pv h0 ar aF hd
end bC
namespace qz
open PySem PyProof.Rows
open AutoSeq1 (wpAny_loadPart')
section
variable {E:bY}
theorem gather {r:Addr} {a b c:Int} {t u v:Tok} {Q:List Value->Shared->Prop} (hd:A.handled=none) (av:IsRange s.heap r a b c t u v) (f9:Builtin.Range.small a b c=true) (az:Builtin.Range.rangeSize a b c=n) (ar:n<=2 ^ 24)
  (q : ∀ (g:Heap) (bE:Nat) (acc:cn),(∀ b o,s.heap.get? b=some o->g.get? b=some o)->ItemsOf (λ i v => ∃ t,v=.int (a+i * c) t) acc n->Q acc.toList { s with heap:=g,toks:=bE }):wpAny (model prog w) A (collect (.ref r)) Q E s:=by
 unfold collect;refine aI (wpAny_runValue (u1 F.entry_proto_collect ?_));rw [Around.under_plainId F.plain_proto_collect _];show wpAny _ A.in1 (newList []>>=λ l=>again (.builtin "list.__iadd__" ⟨[l,.ref r],[]⟩)) _ _ s;refine aI (mj (b2 ⟨u2 F.plain_list_iadd _,u1 F.entry_list_iadd ?_⟩));rw [Around.under_plainId F.plain_list_iadd _];have new:(s.heap.push { cls:=.type "list", data:=.seq ([]:List Value).toArray }).get? s.heap.objs.size=some { cls:=.type "list", data:=.seq #[] 0 }:=dI _ rfl;show wpAny _ A.in1 (Builtin.List.listExtendWith (.ref s.heap.objs.size) (.ref r) (.ref s.heap.objs.size)) _ _ _;have last : ∀ (bU:Result) (s':Shared),(∃ (g:Heap) (bE:Nat) (acc:cn) (k:Nat),bU=.ok (.ret (.ref s.heap.objs.size))/\s'={ s with heap:=g,toks:=bE }/\g.get? s.heap.objs.size=some { cls:=.type "list", dict:=none,data:=.seq acc k,slots:=#[] }/\(∀ b o,s.heap.get? b=some o->g.get? b=some o)/\ItemsOf (λ i v => ∃ t,v=.int (a+i * c) t) acc n) ->
   (match bU with
    | .ok (.ret v)=>wpAny (model prog w) A (match v with
      | Value.ref a=>do
       match (← load a).data with
        | Data.seq xs _=>pure xs.toList
        | _=>unsupported "internal:collect"
      | _=>unsupported "internal:collect") Q E s'
    | .ok _=>False
    | .error e=>E e s'):=by
  rintro bU s' ⟨g,bE,acc,k,rfl,rfl,got,up,ok⟩;show wpAny _ A (load s.heap.objs.size>>=_) _ _ _;exact aI (wpAny_load got (b2 (q g bE acc up ok)))
 refine mv (wpAny_extend_range (A:=A) (R:=λ bU s' => ∃ (g:Heap) (bE:Nat) (acc:cn) (k:Nat),bU=.ok (.ret (.ref s.heap.objs.size))/\s'={ s with heap:=g,toks:=bE }/\g.get? s.heap.objs.size=some { cls:=.type "list", dict:=none,data:=.seq acc k,slots:=#[] }/\(∀ b o,s.heap.get? b=some o->g.get? b=some o)/\ItemsOf (λ i v => ∃ t,v=.int (a+i * c) t) acc n)
  (s:={ s with heap:=s.heap.push { cls:=.type "list", data:=.seq ([]:List Value).toArray } }) hd (bW _ av) f9 az ar s.heap.objs.size (.ref s.heap.objs.size) 0 new λ g bE acc k up got ok=>⟨g,bE,acc,k,rfl,rfl,got,λ b o e=>up b o (d1 (cb e)) (bW _ e),ok⟩) (λ fin s' h=>?_) (λ e s' h=>?_)
 ·cases fin with
  | done f=>exact last _ _ h
  | again bG=>exact ⟨h.1,uT h.2 λ bU ji h'=>last bU ji h'⟩
 ·exact last _ _ h
theorem acA (r:Addr) (a b c:Int) (t u v:Tok) (n:Nat) (f9:Builtin.Range.small a b c=true) (az:Builtin.Range.rangeSize a b c=n) (ar:n<=2 ^ 24) :
  Meets (Builtin.«tuple.__new__» ⟨[.type "tuple", .ref r],[]⟩) (λ A R s=>A.handled=none/\IsRange s.heap r a b c t u v /\ ∀ (g:Heap) (bE:Nat) (acc:cn),(∀ b o,s.heap.get? b=some o->g.get? b=some o)->ItemsOf (λ i v => ∃ t,v=.int (a+i * c) t) acc n ->
   R (.ok (.ret (.ref g.objs.size))) { s with heap:=g.push { cls:=.type "tuple", data:=.seq acc },toks:=bE }) :=
 .of_wp λ prog w A R s h=>by
  obtain ⟨hd,av,h⟩:=h;have sub:=sub_tuple_self;have afj:=init_tuple_lookup;have afq:=madeHere_tuple;have ty:s.TypeIs (.ref r) "range" := ⟨_,av,rfl⟩
  have uf:A.in1.handled=none:=hd
  wp_walk using xZ ty,gather uf av f9 az ar
  intro g bE acc up ok;show wpAny _ _ (Builtin.Tuple.tupleExact acc.toList.toArray>>=λ v=>ret v) _ _ _;unfold Builtin.Tuple.tupleExact;refine aI (mj (b2 ⟨_,rfl,?_⟩) (show acc.toList.toArray.size<=sizeLine by simp only [Array.toArray_toList];rw [ok.1,cW];omega));have e:acc.toList.toArray=acc:=by simp
  rw [e];exact h g bE acc up ok
theorem ZO {r:Addr} {a b c:Int} {t u v:Tok} {Q:bY} (hd:A.handled=none) (av:IsRange s.heap r a b c t u v) (f9:Builtin.Range.small a b c=true) (az:Builtin.Range.rangeSize a b c=n) (ar:n<=2 ^ 24)
  (q : ∀ (g:Heap) (bE:Nat) (acc:cn),(∀ b o,s.heap.get? b=some o->g.get? b=some o)->ItemsOf (λ i v => ∃ t,v=.int (a+i * c) t) acc n->Q (.ref g.objs.size) { s with heap:=g.push { cls:=.type "tuple", data:=.seq acc },toks:=bE }) :
  wpAny (model prog w) A (call (.type "tuple") [.ref r]) Q E s :=
 callType_new F.called_tuple .aG (F.typeCall_tuple_1 _) (F.newCall_tuple_1 _) (λ obj=>F.args_object_init_2 obj _) F.entry_tuple_new (acA r a b c t u v n f9 az ar) ⟨hd,av,λ g bE acc up ok=>⟨⟨_,dI _ rfl,rfl⟩,q g bE acc up ok⟩⟩
end
end qz
namespace bC
open PySem PySem.Spec PyProof.Rows
section
variable {X:a7}
theorem abO:fO X (.type "range") (λ xs H Q => ∃ n:Int,xs=[.int n] /\ ∀ p,H p=none->Q (.ref p) (upd H p (.sO 0 n))):=by
 intro pins s σ H xs us Q C r h;obtain ⟨n,rfl,q⟩:=h;obtain ⟨u,rfl,t,rfl⟩:=vals1 r;refine call_range_1 ⟨.ref s.heap.objs.size,_,C.laid (a:=s.heap.objs.size) (o:=.sO 0 n) (λ _ _ e=>bW _ e) (br _) ⟨_,_,_,dI _ rfl⟩,rfl,q _ C.fresh⟩
theorem OJ : ∀ (its:List Value) (k:Nat),(∀ (i:Nat) v,its[i]?=some v -> ∃ t,v=Value.int ((k:Int)+i) t)->Vals ((List.range' k its.length).map λ i=>V.int ((i:Nat):Int)) its
 | [],_,_=>.nil
 | v::its,k,h=>by
  rw [mB,List.range'_succ,jo];refine .cons ?_ (OJ its (k+1) λ i iL e=>?_)
  ·obtain ⟨t,e⟩:=h 0 v rfl;exact ⟨t,by rw [e];simp⟩
  ·obtain ⟨t,q⟩:=h (i+1) iL (by simpa using e);exact ⟨t,by rw [q];congr 1;omega⟩
theorem aej (aj:X.calm=true):fO X (.type "tuple") (λ xs H Q => ∃ p n,xs=[.ref p]/\H p=some (.sO 0 n)/\0<=n/\n<=1000 /\ ∀ l,H l=none->Q (.ref l) (upd H l (.tup ((List.range n.toNat).map λ i=>V.int ((i:Nat):Int))))):=by
 intro pins s σ H xs us Q C r h;obtain ⟨p,n,rfl,ao,h0,I,q⟩:=h;obtain ⟨u,rfl,hr⟩:=vals1 r;cases hr;obtain ⟨t,u,v,e⟩:=(show fw X.prog X.w H s.heap p (.sO 0 n) from C.bX p _ ao)
 have az:Builtin.Range.rangeSize 0 n 1=((n.toNat:Nat):Int):=by rw [rangeSize_one];split<;>omega
 refine qz.ZO (C.ok.hd.1 aj) (show IsRange s.heap p 0 n 1 t u v from e) (small_one .ab .ab .ab .ab) az .ab λ g bE acc up ok=>?_
 have bg:Inv X pins σ H { s with heap:=g,toks:=bE }:=C.kept up;have bl:Vals ((List.range n.toNat).map λ i=>V.int ((i:Nat):Int)) acc.toList:=by
  have:=OJ acc.toList 0 λ i v e=>by
   obtain ⟨t,q⟩:=ok.2 i v (by simpa using e);exact ⟨t,by rw [q];simp⟩
  rw [mw,ok.1,<-List.range_eq_range'] at this;exact this
 refine ⟨.ref g.objs.size,_,bg.laid (a:=g.objs.size) (t':=bE) (λ _ _ e=>bW _ e) (br _) (show fw X.prog X.w _ _ _ (.tup _) from ⟨?_,acc.toList,bl,?_⟩),rfl,q _ (bg.bX.fresh (br _))⟩
 ·rw [a6,i0,cW];omega
 ·refine ⟨_,dI _ rfl,rfl,⟨0,?_⟩,rfl⟩;simp
end
end bC
namespace qz
open PySem PyProof.Rows
open AutoSeq1 (wpAny_loadPart')
theorem abZ:fillsNumberSlot (.type "tuple") "mul" = pure false :=
 PySem.fillsNumberSlot_seq (id := "tuple.__mul__") (r:=some (.builtin "tuple.__rmul__")) F.slot_tuple_mul.lookup (by decide +kernel) F.slot_tuple_rmul.lookup (by decide +kernel)
theorem aad:seqRepeat? (.type "tuple")=pure (some (.builtin "tuple.__mul__")):=by
 unfold seqRepeat?;rw [PySem.seqSlot_of (T := "tuple") (name := "__mul__") (id := "tuple.__mul__") F.slot_tuple_mul.lookup (by decide +kernel),PySem.seqSlot_of (T := "tuple") (name := "__rmul__") (id := "tuple.__rmul__") F.slot_tuple_rmul.lookup (by decide +kernel)];rfl
theorem YX (a:Int) (t:Tok) (l:Addr) (items:cn) (n:Nat) (bD:Option Addr) (cZ:Array dP) :
  Meets (Builtin.«int.__rmul__» ⟨[.int a t,.ref l],[]⟩) (λ _ R s=>s.heap.get? l=some { cls:=.type "tuple", dict:=bD,data:=.seq items n,slots:=cZ }/\R (.ok (.ret Value.notImplemented)) s) :=
 .of_wp λ prog w A R s h=>by
  obtain ⟨I,ah,aD,aL,cp⟩:=s;obtain ⟨ar,h⟩:=h
  wp_walk using mD ar
  exact ⟨_,rfl,h⟩
theorem aa4 (l:Addr) (items:cn) (n:Nat) (x:Int) (u:Tok) (bD:Option Addr) (cZ:Array dP) (he:items.isEmpty=false) (I:2<=x) (ah:x<2 ^ 63) (aS:items.size * x.toNat<=sizeLine) :
  Meets (Builtin.«tuple.__mul__» ⟨[.ref l,.int x u],[]⟩) (λ _ R s=>s.heap.get? l=some { cls:=.type "tuple", dict:=bD,data:=.seq items n,slots:=cZ } /\
   R (.ok (.ret (.ref s.heap.objs.size))) { s with heap:=s.heap.push { cls:=.type "tuple", data:=.seq (List.foldl (λ eh fS=>eh++fS) #[] (List.replicate x.toNat items)) } }) :=
 .of_wp λ prog w A R s h=>by
  obtain ⟨ao,g,d,bE,os⟩:=s;obtain ⟨ar,h⟩:=h;have f1:=AutoSeq1.idx_int;have y1 : ¬ (decide (x < -(2 ^ 63))||decide (x ≥ 2 ^ 63))=true:=by simp;omega
  have fg : ¬ (items.isEmpty||x == 1)=true:=by rw [he];simp;omega
  have lg : ¬ (decide (x<=0)||items.isEmpty)=true:=by rw [he];simp;omega
  have ae:((x.toNat:Nat):Int)=x:=qh .ab;have hm:((items.size:Nat):Int) * x=((items.size * x.toNat:Nat):Int):=by rw [Int.natCast_mul,ae]
  have aF:sizeLine=16777216:=cW;have qD : ¬ ((items.size:Nat):Int) * x > (2 ^ 63 - 1) / 8:=by rw [hm];omega
  have Qr : ¬ Builtin.Tuple.tupleTooMany (((items.size:Nat):Int) * x)=true:=by
   rw [hm];unfold Builtin.Tuple.tupleTooMany;intro z;have:=fY z;omega
  have hsz:(List.foldl (λ eh fS=>eh++fS) #[] (List.replicate x.toNat items)).size<=sizeLine:=by
   have e:=bC.foldl_rep items.toList x.toNat [];rw [List.nil_append] at e;have bF:List.foldl (λ eh fS=>eh++fS) #[] (List.replicate x.toNat items)=(List.replicate x.toNat items.toList).flatten.toArray:=by simpa using e
   rw [bF,eu,bC.len_rep,mw,mA];exact aS
  wp_walk using mD ar
  rw [if_neg y1];refine aI (tupleItemsOf_ (items:=items) ⟨_,ar,rfl,n,rfl⟩ ?_);dsimp only;rw [if_neg fg,if_neg lg,if_neg qD,if_neg Qr];unfold Builtin.Tuple.tupleExact;exact aI (mj (b2 ⟨_,rfl,h⟩) hsz)
end qz
namespace el
open PySem PyProof.Rows
section
variable {E:bY}
theorem aaM {t:Addr} {items:cn} {aq:Option Int} {Q:bY} (aW:IsTup s.heap t items) (aF:s.heap.IsSliceOf cZ fK ha .none) (b5:IsPart fK lo) (pu:IsPart ha aq)
  (hw:cN items.size 0 lo=0/\cN items.size items.size aq=items.size) (h:Q (.ref t) s):wpAny (model prog w) A (getItem (.ref t) (.ref cZ)) Q E s:=by
 obtain ⟨os,sF,wM,wO⟩:=id aF;have CZ:s.TypeIs (.ref cZ) "slice" := ⟨os,sF,wM⟩
 unfold getItem
 try with_reducible refine kg ?_
 first | refine aI (b2 ?_) | skip
 refine aI (wpAny_sequenceKey aW.typeIs .aG ?_);refine aI (kW (name:=Str.ofString "__getitem__") aW.typeIs uU
  (kX uU aW.typeIs entry_tuple_getitem ?_ (args_tuple_getitem _ _)))
 show wpAny _ _ (Builtin.Tuple.tupleItemsOf (.ref t)>>=_) _ _ s;refine aI (tupleItemsOf_ aW ?_);refine aI (xZ CZ ?_);rw [if_pos .aG];refine aI (Qb aF b5 pu ?_);have Vq:(((cN items.size 0 lo:Nat):Int) == 0&&(1:Int) == 1&&(cN items.size items.size aq - cN items.size 0 lo) == items.size)=true:=by
  rw [hw.1,hw.2];simp
 show wpAny _ _ (if (((cN items.size 0 lo:Nat):Int) == 0&&(1:Int) == 1&&(cN items.size items.size aq - cN items.size 0 lo) == items.size)=true then _ else _) _ _ s;rw [if_pos Vq];obtain ⟨QU,got,aeY,_⟩:=id aW;unfold Builtin.Tuple.tupleIsExact;refine aI (aI (xZ aW.typeIs (b2 ?_)));rw [if_pos .aG];exact aI (s8 (b2 ⟨_,rfl,b2 h⟩))
end
end el
namespace bC
open PySem PySem.Spec PyProof.Rows
section
variable {X:a7}
noncomputable def Wq:fo:=λ x y H Q => ∃ l k xs,x=.ref l/\y=.int k/\H l=some (.tup xs)/\xs≠[]/\2<=k/\k<2 ^ 63/\xs.length * k.toNat<=sizeLine /\
 ∀ p,H p=none->Q (.ref p) (upd H p (.tup (List.replicate k.toNat xs).flatten))
theorem Yr:dt X (binaryOp .Mult) Wq:=by
 intro pins s σ H x y v u Q C bA bL h;obtain ⟨l,k,xs,rfl,rfl,iE,dD,I,ah,aS,q⟩:=h;cases bA;obtain ⟨t,rfl⟩:=bL;obtain ⟨its,r,pt,afh⟩:=C.tuple (aP.of iE);have ar:=r.length;obtain ⟨⟨fg,mN,f1,s1⟩,g1,gy,dr,dq⟩:=id pt;simp only at gy dq;subst gy dq;have he:its.toArray.isEmpty=false:=by
  cases its with
  | nil=>exact absurd (r.A9.mp rfl) dD
  | cons a b=>rfl
 have hlen:its.toArray.size * k.toNat<=sizeLine:=by rw [eu,<-ar];exact aS
 have D6:List.foldl (λ eh fS=>eh++fS) #[] (List.replicate k.toNat its.toArray)=(List.replicate k.toNat its).flatten.toArray:=by
  have:=foldl_rep its k.toNat [];rw [List.nil_append] at this;exact this
 refine wpAny_binaryOp_repeat_ref (T := "tuple") (U := "int") .aG ⟨_,g1,rfl⟩ (λ s'=>x4 s' k t) qz.abZ F.fills_int_mul AQ qz.aad F.slot_int_index.lookup
  (th AQ (x4 s k t) F.entry_int_rmul (F.args_int_rmul_2 _ _) (qz.YX k t l its.toArray dr mN s1)
   ⟨g1,rfl,⟨_,g1,rfl⟩,th F.slot_tuple_mul ⟨_,g1,rfl⟩ F.entry_tuple_mul (F.args_tuple_mul_2 _ _) (qz.aa4 l its.toArray dr k t mN s1 he I ah hlen) ⟨g1,?_⟩⟩)
 rw [D6];refine ⟨.ref s.heap.objs.size,_,C.laid (t':=s.toks) (o:=.tup (List.replicate k.toNat xs).flatten) (λ b da q=>bW _ q) (br _) ?_,rfl,q _ C.fresh⟩;exact ⟨by rw [len_rep,mA];exact aS,_,r.rep k.toNat,nx.new _ _⟩
noncomputable def Ej (K:dc):V->Option Int->Option Int->aA->bN->Prop:=λ x lo aq H Q => ∃ a xs,x=.ref a/\aP K H a xs/\el.cN xs.length 0 lo=0/\el.cN xs.length xs.length aq=xs.length/\Q (.ref a) H
theorem aag:kG X (Ej X.K):=by
 intro pins s σ H x v fK ha lo aq cZ Q C bA aF b5 pu h;obtain ⟨a,xs,rfl,ae,e2,hs,q⟩:=h;cases bA;obtain ⟨its,r,aW,aS⟩:=C.tuple ae;have hlen:its.toArray.size=xs.length:=by rw [eu];exact r.length.symm
 exact ⟨"tuple", _,uU.lookup,aW.typeIs,el.aaM aW aF b5 pu (by rw [hlen];exact ⟨e2,hs⟩) ⟨.ref a,H,C,rfl,q⟩⟩
theorem Mq:kG X (λ x lo aq H Q=>Ei X.K x lo aq H Q\/Ej X.K x lo aq H Q):=XG.or aag
end
theorem Wl {X:a7} {x:Str} {T:String} {pos:Pos} (aR:d6 X x) (hm:X.ax x=none) (bl:bootBuiltins x=some (.type T)) (az:x ≠ "__name__" := by decide) (hd:(x == ("__debug__" : Str))=false:=by decide):cG X (.Name x pos) (jU (.ty T)) :=
 Yu (v:=.ty T) aR hm bl rfl az hd
end bC
namespace ft
noncomputable def oU (p:Nat):Nat->Nat->Nat
 | 0,n=>n
 | f+1,n=>if 2<=p/\1<=n/\n % p=0 then oU p f (n / p) else n
theorem Pa (p:Nat) : ∀ f n:Nat,n<=f->oU p (f+1) n=oU p f n
 | 0,n,h=>by
  obtain rfl:n=0:=by omega
  exact if_neg (λ z=>by omega)
 | f+1,n,h=>by
  show (if 2<=p/\1<=n/\n % p=0 then oU p (f+1) (n / p) else n)=if 2<=p/\1<=n/\n % p=0 then oU p f (n / p) else n
  by_cases q:2<=p/\1<=n/\n % p=0
  ·rw [if_pos q,if_pos q];exact Pa p f (n / p) (by have:=qi q.2.1 q.1;omega)
  ·rw [if_neg q,if_neg q]
theorem GH (p n:Nat) : ∀ k:Nat,oU p (n+k) n=oU p n n
 | 0=>rfl
 | k+1=>by rw [show n+(k+1)=(n+k)+1 from rfl,Pa p (n+k) n .ab];exact GH p n k
noncomputable def strip (p:Nat) (n:Nat):Nat:=oU p n n
theorem Oc (p n:Nat):strip p n=if 2<=p/\1<=n/\n % p=0 then strip p (n / p) else n:=by
 have e:strip p n=oU p (n+1) n:=(GH p n 1).symm;rw [e];show (if 2<=p/\1<=n/\n % p=0 then oU p n (n / p) else n)=_;by_cases q:2<=p/\1<=n/\n % p=0
 ·rw [if_pos q,if_pos q];have lt:=qi q.2.1 q.1;have:=GH p (n / p) (n - n / p);rw [show n / p+(n - n / p)=n by omega] at this;exact this
 ·rw [if_neg q,if_neg q]
theorem yz {p:Nat} (ao:2<=p) (az:1<=n) (h:n % p=0):strip p n=strip p (n / p):=by
 rw [Oc p n,if_pos ⟨ao,az,h⟩]
theorem tG {p:Nat} (h:n % p≠0):strip p n=n:=by
 rw [Oc,if_neg (λ q=>h q.2.2)]
theorem yD {p:Nat} (az:1<=n) (h:n % p=0):1<=n / p:=by
 have e:=Nat.div_add_mod n p;rw [h] at e;rcases nE (n / p) with z | z
 ·rw [z] at e;omega
 ·exact z
theorem yA {p:Nat} (ao:2<=p) : ∀ n:Nat,1<=n->1<=strip p n:=by
 intro n
 induction n using Nat.strongRecOn with
 | ind n b0 =>
  intro az;by_cases h:n % p=0
  ·rw [yz ao az h];exact b0 _ (qi az ao) (yD az h)
  ·rw [tG h];exact az
theorem Oa {p:Nat} (ao:2<=p) : ∀ n:Nat,1<=n->strip p n % p≠0:=by
 intro n
 induction n using Nat.strongRecOn with
 | ind n b0 =>
  intro az;by_cases h:n % p=0
  ·rw [yz ao az h];exact b0 _ (qi az ao) (yD az h)
  ·rw [tG h];exact h
theorem Ob {p:Nat} (ao:2<=p) (hm:1<=m) : ∀ e:Nat,strip p (p ^ e * m)=strip p m:=by
 intro e
 induction e with
 | zero=>rw [ti,tj]
 | succ e b0 =>
  have I:p ^ (e+1) * m=p * (p ^ e * m):=by rw [nF,mA (p ^ e) p,ru]
  have xA:1<=p ^ e * m:=Nat.mul_pos (u3 .ab) hm;have ah:1<=p * (p ^ e * m):=Nat.mul_pos .ab xA;rw [I,yz ao ah (Nat.mul_mod_right _ _),Nat.mul_div_cancel_left _ .ab];exact b0
noncomputable def dK:bo:=[2,3,5,7,11,13,17,19,23,29]
noncomputable def lH (ps:bo) (n:Nat):Nat:=ps.foldl (λ m p=>strip p m) n
noncomputable def tC (n:Nat):Nat:=lH dK n
theorem OG : ∀ (ps:bo),(∀ p∈ps,2<=p) -> ∀ n,1<=n->1<=lH ps n
 | [],_,_,h=>h
 | p::ps,ao,n,h=>OG ps (λ q aK=>ao q (eQ _ aK)) _ (yA (ao p d2) n h)
theorem nB : ∀ p∈dK,2<=p:=by decide
noncomputable def nK (a b:Nat):Bool:=dK.all λ p=>a % p != 0||b % p != 0
theorem O1 {a b:Nat}:nK a b=true ↔ ∀ p∈dK,¬ (p∣a/\p∣b):=by
 unfold nK;rw [e5];constructor
 ·intro h p ao ⟨I,ah⟩;have:=h p ao;rw [Nat.mod_eq_zero_of_dvd I,Nat.mod_eq_zero_of_dvd ah] at this;exact absurd this .aG
 ·intro h p ao;by_cases I:a % p=0
  ·by_cases ah:b % p=0
   ·exact absurd ⟨tk I,tk ah⟩ (h p ao)
   ·simp [ah]
  ·simp [I]
noncomputable def hQ:bo->bo->Nat
 | p::ps,e::es=>p ^ e * hQ ps es
 | _,_=>1
theorem Br : ∀ (ps es:bo),(∀ p∈ps,2<=p)->1<=hQ ps es
 | [],_,_=>br _
 | _::_,[],_=>br _
 | p::ps,e::es,h=>Nat.mul_pos (u3 (by have:=h p d2;omega)) (Br ps es λ q aK=>h q (eQ _ aK))
theorem Bn {p:Nat} : ∀ (ps es:bo),(∀ q∈ps,Nat.Coprime p q)->Nat.Coprime p (hQ ps es)
 | [],_,_=>E_ p
 | _::_,[],_=>E_ p
 | q::ps,e::es,h=>Nat.Coprime.mul_right (Nat.Coprime.pow_right e (h q d2)) (Bn ps es λ r av=>h r (eQ _ av))
theorem PR {p:Nat} (ao:2<=p) (c:Nat.Coprime p n):n % p≠0:=λ h=>by
 have:=c.eq_one_of_dvd (tk h);omega
theorem abr {p:Nat} (ao:2<=p):strip p 1=1:=tG (by rw [Nat.mod_eq_of_lt .ab];decide)
theorem OF : ∀ (ps:bo),(∀ p∈ps,2<=p)->lH ps 1=1
 | [],_=>rfl
 | p::ps,h=>by
  show lH ps (strip p 1)=1;rw [abr (h p d2)];exact OF ps λ q aK=>h q (eQ _ aK)
theorem Pz : ∀ (ps es:bo),(∀ p∈ps,2<=p)->ps.Pairwise Nat.Coprime->lH ps (hQ ps es)=1
 | [],_,_,_=>rfl
 | p::ps,[],h,_=>OF (p::ps) h
 | p::ps,e::es,h,c=>by
  have ao:=h p d2;have aW : ∀ q∈ps,2<=q:=λ q aK=>h q (eQ _ aK)
  have bG:=x7.mp c;show lH ps (strip p (p ^ e * hQ ps es))=1;rw [Ob ao (Br ps es aW),tG (PR ao (Bn ps es bG.1))];exact Pz ps es aW bG.2
theorem yE:dK.Pairwise Nat.Coprime:=by decide
noncomputable def prod (es:bo):Nat:=hQ dK es
theorem M9 (es:bo):1<=prod es:=Br _ _ nB
theorem ad2 (es:bo):tC (prod es)=1:=Pz _ _ nB yE
theorem EV {p:Nat} : ∀ (ps es:bo) (k:Nat),ps.Pairwise Nat.Coprime->ps[k]?=some p->es.getD k 0=0->Nat.Coprime p (hQ ps es)
 | [],_,_,_,h,_=>by simp at h
 | _::_,[],_,_,_,_=>E_ p
 | q::ps,e::es,0,c,h,h0=>by
  simp at h h0;subst h;subst h0;show Nat.Coprime q (q ^ 0 * hQ ps es);rw [ti,tj];exact Bn ps es (x7.mp c).1
 | q::ps,e::es,k+1,c,h,h0=>by
  have bG:=x7.mp c;have h':ps[k]?=some p:=by simpa using h
  have hm:p∈ps:=cf h';refine Nat.Coprime.mul_right (Nat.Coprime.pow_right e (Nat.Coprime.symm (bG.1 p hm))) ?_;exact EV ps es k bG.2 h' (by simpa using h0)
theorem ac6 {es ai:bo} (h : ∀ k,es.getD k 0=0\/ai.getD k 0=0):nK (prod es) (prod ai)=true:=by
 rw [O1];intro p ao ⟨I,ah⟩;obtain ⟨k,aE⟩:=gk ao;have i9:=nB p ao;rcases h k with e | e
 ·have:=(EV dK es k yE aE e).eq_one_of_dvd I;omega
 ·have:=(EV dK ai k yE aE e).eq_one_of_dvd ah;omega
theorem M8 : ∀ (ps es:bo),(∀ p∈ps,p<=29)->hQ ps es<=29 ^ es.sum
 | [],_,_=>u3 .aG
 | _::_,[],_=>br _
 | p::ps,e::es,h=>by
  rw [lJ,tl];exact u4 (Nat.pow_le_pow_left (h p d2) e) (M8 ps es λ q aK=>h q (eQ _ aK))
theorem YE (es:bo):prod es<=29 ^ es.sum:=M8 dK es .aG
noncomputable def s6 (i:Int):Bool:=decide (1<=i)&&decide (i<=1000000000000)&&decide (tC i.toNat=1)
noncomputable def kU (i j:Int):Bool:=s6 i&&s6 j&&nK i.toNat j.toNat
theorem OI {es:bo} (h:es.sum<=3):s6 (prod es:Nat)=true:=by
 unfold s6;have I:=M9 es;have ah:=YE es;have aD:29 ^ es.sum<=29 ^ 3:=Nat.pow_le_pow_right .aG h;have aL:(29:Nat) ^ 3=24389:=by decide
 rw [h4,h4,oV,oV,oV];refine ⟨⟨.ab,.ab⟩,?_⟩;rw [dY];exact ad2 es
theorem abQ {es ai:bo} (I:es.sum<=3) (ah:ai.sum<=3) (h : ∀ k,es.getD k 0=0\/ai.getD k 0=0):kU (prod es:Nat) (prod ai:Nat)=true:=by
 unfold kU;rw [OI I,OI ah,dY,dY,ac6 h];rfl
noncomputable def ups (xs:aw):bo:=xs.map Int.toNat
noncomputable def downs (xs:aw):bo:=xs.map λ x=>(-x).toNat
theorem adB (xs:aw) (k:Nat):(ups xs).getD k 0=0\/(downs xs).getD k 0=0:=by
 unfold ups downs;rw [bk,bk,c9,c9];cases xs[k]? with
 | none=>exact .inl rfl
 | some x=>simp;omega
theorem yF : ∀ (xs:bo) (k:Nat) (v:Nat),(xs.set k v).sum+xs.getD k 0<=xs.sum+v
 | [],k,v=>by simp
 | x::xs,0,v=>by simp;omega
 | x::xs,k+1,v=>by
  have:=yF xs k v;simp only [List.set_cons_succ,lJ,List.getD_cons_succ];omega
theorem LI {xs:aw} {k:Nat} {x:Int} (h:xs[k]?=some x):(ups (xs.set k (x+1))).sum<=(ups xs).sum+1:=by
 have q:=yF (ups xs) k (x+1).toNat;have e:(ups xs).getD k 0=x.toNat:=by unfold ups;rw [bk,c9,h];rfl
 rw [e] at q;have aN:ups (xs.set k (x+1))=(ups xs).set k (x+1).toNat:=by unfold ups;rw [k3]
 rw [aN];omega
theorem aav {xs:aw} {k:Nat} {x:Int} (h:xs[k]?=some x):(ups (xs.set k (x - 1))).sum<=(ups xs).sum:=by
 have q:=yF (ups xs) k (x - 1).toNat;have e:(ups xs).getD k 0=x.toNat:=by unfold ups;rw [bk,c9,h];rfl
 rw [e] at q;have aN:ups (xs.set k (x - 1))=(ups xs).set k (x - 1).toNat:=by unfold ups;rw [k3]
 rw [aN];omega
theorem abP {xs:aw} {k:Nat} {x:Int} (h:xs[k]?=some x):(downs (xs.set k (x - 1))).sum<=(downs xs).sum+1:=by
 have q:=yF (downs xs) k (-(x - 1)).toNat;have e:(downs xs).getD k 0=(-x).toNat:=by unfold downs;rw [bk,c9,h];rfl
 rw [e] at q;have aN:downs (xs.set k (x - 1))=(downs xs).set k (-(x - 1)).toNat:=by unfold downs;rw [k3]
 rw [aN];omega
theorem Zs {xs:aw} {k:Nat} {x:Int} (h:xs[k]?=some x):(downs (xs.set k (x+1))).sum<=(downs xs).sum:=by
 have q:=yF (downs xs) k (-(x+1)).toNat;have e:(downs xs).getD k 0=(-x).toNat:=by unfold downs;rw [bk,c9,h];rfl
 rw [e] at q;have aN:downs (xs.set k (x+1))=(downs xs).set k (-(x+1)).toNat:=by unfold downs;rw [k3]
 rw [aN];omega
theorem acz {xs:aw} (I:(ups xs).sum<=3) (ah:(downs xs).sum<=3):kU (prod (ups xs):Nat) (prod (downs xs):Nat)=true:=abQ I ah (adB xs)
end ft
namespace bC
open PySem PySem.Spec PyProof.Rows
theorem ZX {X:a7} {x:Str} {i:Int} {pos:Pos} (aR:d6 X x) (hm : ∃ t,X.ax x=some (.int i t)) (hd:(x == ("__debug__" : Str))=false:=by decide):cG X (.Name x pos) (jU (.int i)):=by
 obtain ⟨t,h⟩:=hm;exact Mh aR h ⟨t,rfl⟩ hd
noncomputable def mh (sc eX:Scope):List (Str×NameKind):=sc.names.map λ (n,k)=>if (k == .free&&eX.kind == .function&&eX.names.lookup n == some .cell) then (n,.cell) else (n,k)
noncomputable def p3 (sc:Scope):cE:=((sc.names.filter (λ p=>p.2 == .free)).reverse).map (·.1)
noncomputable def Fo (sc eX:Scope) (N ku:cE) (js:List (Option Nat)):Bool :=
 sc.names.all (λ y=>y.2 != .cell)&&decide (sc.kind=.function)&&sc.names.all (λ y=>y.2 != .local||sc.names.lookup y.1 == some .local) &&
 (mh sc eX).all (λ p => !(p.2 == .cell||p.2 == .free)||(p3 sc).contains p.1)&&js.length == N.length &&
 (List.range N.length).all λ i=>match js[i]?,N[i]? with
  | some (some j),some x=>ku[j]? == some x&&eX.names.lookup x == some .cell&&((mh sc eX).lookup x == some .cell||(mh sc eX).lookup x == some .free)
  | _,_=>true
theorem mem_of_lookup {α β: Type} [BEq α] [LawfulBEq α] : ∀ {l:List (α × β)} {x : α} {c : β},l.lookup x=some c->(x,c)∈l
 | [],_,_,h=>by simp at h
 | (y,d)::r,x,c,h=>by
  rw [List.lookup_cons] at h;cases e:(x == y) with
  | true =>
   rw [e] at h;cases h;rw [kl e];exact d2
  | false =>
   rw [e] at h;exact eQ _ (mem_of_lookup h)
theorem aaH {X:a7} {N:cE} (a0:X.env.scope=eX) (me:closureFor sc X.env=pure cl) (aE:cl.map (·.1)=p3 sc)
  (oI : ∀ p∈cl,X.env.cells.lookup p.1=some p.2) (mY:Fo sc eX N ku js=true) (d9:X.N=ku):rk X sc cl N js:=by
 unfold Fo at mY;simp only [h4] at mY;obtain ⟨⟨⟨⟨⟨I,ah⟩,aD⟩,aL⟩,cp⟩,g9⟩:=mY;have o7:(relabel sc X.env).names=mh sc eX:=by
  unfold relabel mh Env.kindOf;rw [a0]
 refine ⟨me,?_,fY ah,?_,?_,?_,kl cp,?_⟩
 ·intro y a8;have:=e5.mp I y a8;simpa using this
 ·intro y a8 ar;have:=e5.mp aD y a8;rw [ar] at this;simpa using this
 ·intro x c h;exact oI (x,c) (mem_of_lookup h)
 ·intro x h;rw [o7] at h;refine yN ?_;rw [aE];rcases h with h | h
  all_goals
   have:=e5.mp aL _ (mem_of_lookup h);simpa using this
 ·intro i j x wF aY;have aq:i<N.length:=(cL.mp wF).1;have:=e5.mp g9 i (fH.mpr aq);rw [aY,wF] at this;simp only [h4,Bool.or_eq_true] at this;obtain ⟨⟨a,b⟩,c⟩:=this;refine ⟨?_,?_,?_⟩
  ·rw [d9];exact kl a
  ·rw [a0];exact kl b
  ·rw [o7];rcases c with c | c
   ·exact .inl (kl c)
   ·exact .inr (kl c)
end bC
namespace du
open PySem bC
theorem eb:bootBuiltins "len" = some (.builtin "len"):=PySem.boot_len
theorem yI:bootBuiltins "isinstance" = some (.builtin "isinstance"):=by decide +kernel
theorem VU:bootBuiltins "int" = some (.type "int"):=by decide +kernel
theorem WH:bootBuiltins "bool" = some (.type "bool"):=by decide +kernel
theorem h6:bootBuiltins "tuple" = some (.type "tuple"):=by decide +kernel
theorem WI:bootBuiltins "list" = some (.type "list"):=by decide +kernel
theorem XS:bootBuiltins "range" = some (.type "range"):=by decide +kernel
theorem xG:bootBuiltins "max" = some (.builtin "max"):=by decide +kernel
theorem xH:bootBuiltins "min" = some (.builtin "min"):=by decide +kernel
theorem sW:bootBuiltins "all" = some (.builtin "all"):=by decide +kernel
noncomputable def oP (H:aA):V->Prop
 | .cV=>True
 | .aH _=>True
 | .int _=>True
 | .str _=>True
 | .ref a=>(∃ xs,H a=some (.tup xs))\/(∃ xs,H a=some (.lst xs))\/(∃ aU,H a=some (.gM aU))
 | _=>False
noncomputable def rb:Option fy->Option bB
 | some (.tup xs)=>some xs
 | _=>none
noncomputable def kQ (H:aA):V->Option bB
 | .ref a=>rb (H a)
 | _=>none
theorem vh (h:H a=some (.tup xs)):kQ H (.ref a)=some xs:=by
 show rb (H a)=_;rw [h];rfl
theorem yv {v:V} (h:kQ H v=some xs) : ∃ a,v=.ref a/\H a=some (.tup xs):=by
 cases v with
 | ref a =>
  refine ⟨a,rfl,?_⟩;have h':rb (H a)=some xs:=h;cases e:H a with
  | none=>rw [e] at h';cases h'
  | some o =>
   rw [e] at h';cases o<;>first | (cases h';rfl) | cases h'
 | _=>cases h
noncomputable def DC:V->Bool
 | .int _=>true
 | .aH _=>true
 | _=>false
noncomputable def Jz:V->Bool
 | .aH _=>true
 | _=>false
noncomputable def mc:V->Bool
 | .int _=>true
 | _=>false
theorem WU (v:V):(DC v && !Jz v)=mc v:=by cases v<;>rfl
theorem yf {v:V} (h:mc v=true) : ∃ i,v=.int i:=by
 cases v with
 | int i=>exact ⟨i,rfl⟩
 | _=>cases h
section
variable {v:V}
theorem EC (k:oP H v) : ∃ t,jF K H v t/\PySem.W.kitOne K t (.type "tuple")=some (kQ H v).isSome:=by
 cases v with
 | cV=>exact ⟨_,.cV,by kernel_rfl⟩
 | aH b=>exact ⟨_,.aH b,by kernel_rfl⟩
 | int i=>exact ⟨_,.int i,by kernel_rfl⟩
 | str x=>exact ⟨_,.str x,by kernel_rfl⟩
 | ref a =>
  rcases (show (∃ xs,H a=some (.tup xs))\/(∃ xs,H a=some (.lst xs))\/(∃ aU,H a=some (.gM aU)) from k) with ⟨xs,e⟩ | ⟨xs,e⟩ | ⟨aU,e⟩
  ·exact ⟨_,.tup e,by rw [vh e];kernel_rfl⟩
  ·refine ⟨_,.lst e,?_⟩;show _=some (rb (H a)).isSome;rw [e];kernel_rfl
  ·refine ⟨_,.gM e,?_⟩;show _=some (rb (H a)).isSome;rw [e];kernel_rfl
 | _=>exact False.elim k
theorem V_ (k:oP H v) : ∃ t,jF K H v t/\PySem.W.kitOne K t (.type "int")=some (DC v):=by
 cases v with
 | cV=>exact ⟨_,.cV,by kernel_rfl⟩
 | aH b=>exact ⟨_,.aH b,by kernel_rfl⟩
 | int i=>exact ⟨_,.int i,by kernel_rfl⟩
 | str x=>exact ⟨_,.str x,by kernel_rfl⟩
 | ref a =>
  rcases (show (∃ xs,H a=some (.tup xs))\/(∃ xs,H a=some (.lst xs))\/(∃ aU,H a=some (.gM aU)) from k) with ⟨xs,e⟩ | ⟨xs,e⟩ | ⟨aU,e⟩
  ·exact ⟨_,.tup e,by kernel_rfl⟩
  ·exact ⟨_,.lst e,by kernel_rfl⟩
  ·exact ⟨_,.gM e,by kernel_rfl⟩
 | _=>exact False.elim k
theorem V9 (k:oP H v) : ∃ t,jF K H v t/\PySem.W.kitOne K t (.type "bool")=some (Jz v):=by
 cases v with
 | cV=>exact ⟨_,.cV,by kernel_rfl⟩
 | aH b=>exact ⟨_,.aH b,by kernel_rfl⟩
 | int i=>exact ⟨_,.int i,by kernel_rfl⟩
 | str x=>exact ⟨_,.str x,by kernel_rfl⟩
 | ref a =>
  rcases (show (∃ xs,H a=some (.tup xs))\/(∃ xs,H a=some (.lst xs))\/(∃ aU,H a=some (.gM aU)) from k) with ⟨xs,e⟩ | ⟨xs,e⟩ | ⟨aU,e⟩
  ·exact ⟨_,.tup e,by kernel_rfl⟩
  ·exact ⟨_,.lst e,by kernel_rfl⟩
  ·exact ⟨_,.gM e,by kernel_rfl⟩
 | _=>exact False.elim k
end
theorem aB.kind (s:aB H H') {v:V} (k:oP H v):oP H' v:=by
 cases v with
 | ref a =>
  rcases (show (∃ xs,H a=some (.tup xs))\/(∃ xs,H a=some (.lst xs))\/(∃ aU,H a=some (.gM aU)) from k) with ⟨xs,e⟩ | ⟨xs,e⟩ | ⟨aU,e⟩
  ·exact .inl ⟨xs,s _ _ e⟩
  ·exact .inr (.inl ⟨xs,s _ _ e⟩)
  ·exact .inr (.inr ⟨aU,s _ _ e⟩)
 | cV=>trivial
 | aH b=>trivial
 | int i=>trivial
 | str x=>trivial
 | l6 b=>exact False.elim k
 | si b=>exact False.elim k
 | ty b=>exact False.elim k
noncomputable def b6 (a:Addr) (H H':aA):Prop := ∀ b o,b≠a->H b=some o->H' b=some o
theorem b6.refl (a:Addr) (H:aA):b6 a H H:=λ _ _ _ h=>h
theorem b6.trans (x:b6 a H H1) (y:b6 a H1 ay):b6 a H ay:=λ b o n h=>y b o n (x b o n h)
theorem b6.of (x:aB H H'):b6 a H H':=λ b o _ h=>x b o h
theorem b6.free (x:b6 a H H') {p:Addr} (h:H' p=none) (ao:p≠a):H p=none:=by
 cases q:H p with
 | none=>rfl
 | some o=>rw [x p o ao q] at h;cases h
theorem b6.VZ (x:b6 a H H') (au:H' a=some o) {p:Addr} (h:H' p=none):H p=none :=
 x.free h λ z=>by rw [z,au] at h;cases h
theorem b6.upd:b6 a H (upd H a o):=λ b q n h=>by rw [bw n];exact h
theorem b6.new {p:Addr} (x:b6 a H H') (h:H' p=none):b6 a H (bC.upd H' p o):=λ b q n e=>by rw [bw (bT (x b q n e) h)];exact x b q n e
theorem b6.set (x:b6 a H H'):b6 a H (bC.upd H' a o):=λ b q n e=>by rw [bw n];exact x b q n e
theorem aB.new {p:Addr} (h:H p=none):aB H (upd H p o):=λ b q e=>by rw [bw (bT e h)];exact e
theorem aB.more {p:Addr} (s:aB H H') (h:H' p=none):aB H (upd H' p o):=s.trans (aB.new h)
theorem aB.tup (e:aB H H') (h:aP K H a xs):aP K H' a xs:=by
 rcases h with (h | ⟨o,h⟩) | h
 ·exact .inl (.inl (e _ _ h))
 ·exact .inl (.inr ⟨o,e _ _ h⟩)
 ·exact .inr h
theorem iA {i:Nat} (h:(ns.map V.int)[i]?=some y) : ∃ z,y=.int z/\ns[i]?=some z:=by
 rw [c9] at h;cases e:ns[i]? with
 | none=>rw [e] at h;cases h
 | some z=>rw [e] at h;exact ⟨z,(eA h).symm,rfl⟩
theorem h5 {α: Type} {xs:List α} {i:Int} {v: α} (h0:0<=i) (h:xs[i.toNat]?=some v):lq xs i=some v:=by
 have:=qp h
 rwa [qh h0] at this
theorem qd {i:Int} (h0:0<=i) (h:i<n):m3 n i=some i.toNat:=by
 unfold m3;rw [if_pos h0,if_pos h]
end du
namespace bC
open PySem PySem.Spec PyProof.Rows
noncomputable def noStar:Expr->Bool
 | .Starred _ _=>false
 | _=>true
theorem ad1 {e:Expr} (h:noStar e=true) (es:List Expr) (env:Env):starEach (e::es) env=(false,eval e env)::starEach es env:=by
 cases e<;>first | rfl | cases h
theorem VD {X:a7} {e:Expr} {es:List Expr} {a4:TE} {t:dh} (au:cG X e a4) (av:hS X es t) (h:noStar e=true:=by rfl):hS X (e::es) (EH a4 t):=Yt au av (ad1 h es X.env)
section
variable {a4:TE} {Q:bN}
theorem tH (az:n<=sizeLine) (Pv:Nat->St->aA->bB->Prop) (h0:Pv 0 (pick js σ) (upd H1 D (.lst [])) [])
  (j2 : ∀ i σ' H' ys,i<n->H' D=some (.lst ys)->Pv i σ' H' ys->J.go i H') (dk : ∀ σ' H' ys,H' D=some (.lst ys)->ys.length=n->Pv n σ' H' ys->J.stop n H'/\Q (.ref D) H')
  (aF : ∀ i σ' H' ys x ay (R:St->V->aA->Prop),i<n->H' D=some (.lst ys)->ys.length=i->Pv i σ' H' ys->J.iR i H' x ay ->
   (∀ σ2 y aO,aO D=some (.lst ys)->Pv (i+1) σ2 (upd aO D (.lst (ys++[y]))) (ys++[y])->R σ2 y aO)->g x σ' ay λ σ2 aM=>a4 σ2 aM λ y aO=>R σ2 y aO) :
  gF J D js g iy a4 σ H1 Q:=by
 refine ⟨λ i m σ' H' ys=>m=n - i/\i<=n/\H' D=some (.lst ys)/\ys.length=i/\Pv i σ' H' ys,⟨n,rfl,fk _,bK,rfl,h0⟩,?_⟩;rintro i m σ' H' ys ⟨rfl,aq,aT,a8,p⟩;refine ⟨aT,?_⟩;by_cases e:i=n
 ·subst e;exact .inl (dk σ' H' ys aT a8 p)
 ·have dg:i<n:=by omega
  refine .inr ⟨j2 i σ' H' ys dg aT p,.ab,λ σ2 ay zs=>ay D=some (.lst zs)/\zs.length=i+1/\Pv (i+1) σ2 ay zs,λ σ2 ay zs ⟨fi,eV,kD⟩=>⟨n - (i+1),.ab,rfl,.ab,fi,eV,kD⟩,λ x ay ae=>?_⟩;exact aF i σ' H' ys x ay (λ σ2 y aO=>aO D=some (.lst ys)/\(upd aO D (.lst (ys++[y]))) D=some (.lst (ys++[y]))/\(ys++[y]).length=i+1/\Pv (i+1) σ2 (upd aO D (.lst (ys++[y]))) (ys++[y])) dg aT a8 p ae
   λ σ2 y aO fi eV=>⟨fi,bK,by rw [cJ,a8];rfl,eV⟩
theorem GN {lo:Int} (az:n<=sizeLine) (Pv:Nat->St->aA->bB->Prop) (h0:Pv 0 (pick js σ) (upd H1 D (.lst [])) [])
  (aF : ∀ i σ' H' ys (R:St->V->aA->Prop),i<n->H' D=some (.lst ys)->ys.length=i->Pv i σ' H' ys->(∀ σ2 y aO,aO D=some (.lst ys)->Pv (i+1) σ2 (upd aO D (.lst (ys++[y]))) (ys++[y])->R σ2 y aO) ->
   g (.int (lo+i)) σ' H' λ σ2 aM=>a4 σ2 aM λ y aO=>R σ2 y aO)
  (dk : ∀ σ' H' ys,H' D=some (.lst ys)->ys.length=n->Pv n σ' H' ys->Q (.ref D) H'):gF (qN lo n) D js g iy a4 σ H1 Q :=
 tH az Pv h0 (λ i _ _ _ aq _ _=>aq) (λ σ' H' ys a b c=>⟨br _,dk σ' H' ys a b c⟩) λ i σ' H' ys x ay R aq a b c ⟨aJ,aN⟩=>by
  subst aJ;subst aN;exact aF i σ' ay ys R aq a b c
theorem tE (az:xs.length<=sizeLine) (Pv:Nat->St->aA->bB->Prop) (h0:Pv 0 (pick js σ) (upd H1 D (.lst [])) [])
  (ar : ∀ i σ' H' ys,i<=xs.length->H' D=some (.lst ys)->Pv i σ' H' ys->aQ K H' a xs)
  (aF : ∀ i x σ' H' ys (R:St->V->aA->Prop),xs[i]?=some x->H' D=some (.lst ys)->ys.length=i->Pv i σ' H' ys->(∀ σ2 y aO,aO D=some (.lst ys)->Pv (i+1) σ2 (upd aO D (.lst (ys++[y]))) (ys++[y])->R σ2 y aO) ->
   g x σ' H' λ σ2 aM=>a4 σ2 aM λ y aO=>R σ2 y aO)
  (dk : ∀ σ' H' ys,H' D=some (.lst ys)->ys.length=xs.length->Pv xs.length σ' H' ys->Q (.ref D) H'):gF (oc K a) D js g iy a4 σ H1 Q :=
 tH az Pv h0 (λ i σ' H' ys aq aT p=>⟨xs,xs[i],ar i σ' H' ys .ab aT p,bz aq⟩)
  (λ σ' H' ys aT b c=>⟨⟨xs,ar _ σ' H' ys (br _) aT c,br _⟩,dk σ' H' ys aT b c⟩) λ i σ' H' ys x ay R aq aT b c ⟨aJ,aN⟩=>by
  subst aJ;exact aF i x σ' ay ys R (aN xs (ar i σ' ay ys .ab aT c)) aT b c
theorem tA (az:xs.length<=sizeLine) (Pv:Nat->St->aA->bB->Prop) (h0:Pv 0 (pick js σ) (upd H1 D (.lst [])) [])
  (ar : ∀ i σ' H' ys,i<=xs.length->H' D=some (.lst ys)->Pv i σ' H' ys->aP K H' a xs)
  (aF : ∀ i x σ' H' ys (R:St->V->aA->Prop),xs[i]?=some x->H' D=some (.lst ys)->ys.length=i->Pv i σ' H' ys->(∀ σ2 y aO,aO D=some (.lst ys)->Pv (i+1) σ2 (upd aO D (.lst (ys++[y]))) (ys++[y])->R σ2 y aO) ->
   g x σ' H' λ σ2 aM=>a4 σ2 aM λ y aO=>R σ2 y aO)
  (dk : ∀ σ' H' ys,H' D=some (.lst ys)->ys.length=xs.length->Pv xs.length σ' H' ys->Q (.ref D) H'):gF (od K a) D js g iy a4 σ H1 Q :=
 tH az Pv h0 (λ i σ' H' ys aq aT p=>⟨xs,xs[i],ar i σ' H' ys .ab aT p,bz aq⟩)
  (λ σ' H' ys aT b c=>⟨⟨xs,ar _ σ' H' ys (br _) aT c,br _⟩,dk σ' H' ys aT b c⟩) λ i σ' H' ys x ay R aq aT b c ⟨aJ,aN⟩=>by
  subst aJ;exact aF i x σ' ay ys R (aN xs (ar i σ' ay ys .ab aT c)) aT b c
end
theorem aQ.Bc (h:aQ K H a xs) (n:H D=none):aQ K (upd H D o) a xs:=by
 rcases h with (h | ⟨u,h⟩) | h
 ·exact .inl (.inl (by rw [bw (bT h n)];exact h))
 ·exact .inl (.inr ⟨u,by rw [bw (bT h n)];exact h⟩)
 ·exact .inr h
theorem aP.Bc (h:aP K H a xs) (n:H D=none):aP K (upd H D o) a xs:=by
 rcases h with (h | ⟨u,h⟩) | h
 ·exact .inl (.inl (by rw [bw (bT h n)];exact h))
 ·exact .inl (.inr ⟨u,by rw [bw (bT h n)];exact h⟩)
 ·exact .inr h
theorem Hy {α β: Type} {f: α -> β} {xs:List α} {i:Nat} {x: α} (h:xs[i]?=some x):(xs.take (i+1)).map f=(xs.take i).map f++[f x]:=by
 rw [eC,h,ej];rfl
section
variable {a4:TE} {Q:bN}
theorem BE {o:cq} {f:V->V} (ao:pick js σ=o::σ0) (az:xs.length<=sizeLine) (aT:H1 D=none) (c1:aQ K H1 a xs)
  (aF : ∀ (x:V) (H':aA) (R:bN),x∈xs->R (f x) H'->a4 (some x::σ0) H' R) (q:Q (.ref D) (upd H1 D (.lst (xs.map f)))):gF (oc K a) D js (e4 0) iy a4 σ H1 Q:=by
 refine tE (xs:=xs) az (λ i σ' H' ys=>(∃ u,σ'=u::σ0)/\ys=(xs.take i).map f/\H'=upd H1 D (.lst ys)) ⟨⟨o,ao⟩,rfl,rfl⟩ ?_ ?_ ?_
 ·rintro i σ' H' ys _ _ ⟨_,rfl,rfl⟩;exact c1.Bc aT
 ·rintro i x σ' H' ys R ae _ _ ⟨⟨u,rfl⟩,rfl,rfl⟩ k;refine aF x _ _ (cf ae) (k _ _ _ bK ⟨⟨_,rfl⟩,(Hy ae).symm,FQ⟩)
 ·rintro σ' H' ys _ _ ⟨_,rfl,rfl⟩;rw [kn];exact q
theorem Pn {o:cq} {f:V->V} (ao:pick js σ=o::σ0) (az:xs.length<=sizeLine) (aT:H1 D=none) (c1:aP K H1 a xs)
  (aF : ∀ (x:V) (H':aA) (R:bN),x∈xs->R (f x) H'->a4 (some x::σ0) H' R) (q:Q (.ref D) (upd H1 D (.lst (xs.map f)))):gF (od K a) D js (e4 0) iy a4 σ H1 Q:=by
 refine tA (xs:=xs) az (λ i σ' H' ys=>(∃ u,σ'=u::σ0)/\ys=(xs.take i).map f/\H'=upd H1 D (.lst ys)) ⟨⟨o,ao⟩,rfl,rfl⟩ ?_ ?_ ?_
 ·rintro i σ' H' ys _ _ ⟨_,rfl,rfl⟩;exact c1.Bc aT
 ·rintro i x σ' H' ys R ae _ _ ⟨⟨u,rfl⟩,rfl,rfl⟩ k;refine aF x _ _ (cf ae) (k _ _ _ bK ⟨⟨_,rfl⟩,(Hy ae).symm,FQ⟩)
 ·rintro σ' H' ys _ _ ⟨_,rfl,rfl⟩;rw [kn];exact q
end
theorem yC {c:TT} {tb:eK} {D:Ends} (Pv:St->aA->Prop) (μ : St->aA->Nat) (h0:Pv σ H)
  (aF : ∀ σ H,Pv σ H->c σ H λ b H1=>if b=true then ∃ N:St->aA->Prop,(∀ σ' H',N σ' H' -> ∃ cR,cR < μ σ H/\cR = μ σ' H'/\Pv σ' H')/\tb { D with bO:=N,cO:=N,eL:=D.bO } σ H1 else D.bO σ H1):E6 c tb D σ H :=
 ⟨λ m σ H=>m = μ σ H/\Pv σ H,⟨_,rfl,h0⟩,λ m σ H ⟨e,p⟩=>by subst e;exact aF σ H p⟩
theorem xp {tb:eK} {D:Ends} {Pv:St->aA->Prop} {μ: St->aA->Nat} (h:tb { D with bO:=λ σ' H'=>Pv σ' H' /\ μ σ' H'<m,cO:=λ σ' H'=>Pv σ' H' /\ μ σ' H'<m,eL:=D.bO } σ H1) :
  ∃ N:St->aA->Prop,(∀ σ' H',N σ' H' -> ∃ cR,cR<m/\cR = μ σ' H'/\Pv σ' H')/\tb { D with bO:=N,cO:=N,eL:=D.bO } σ H1:=⟨_,λ _ _ ⟨a,b⟩=>⟨_,b,rfl,a⟩,h⟩
theorem x3 {i:Int} (h:0<=i):el.cN n d (some i)=min i.toNat n:=by
 show (if i<0 then _ else _)=_;rw [if_neg .ab]
theorem vm {i:Int} (h:0<=i):hM xs none (some i)=xs.take i.toNat:=by
 unfold hM;rw [x3 h];show (xs.drop 0).take (min i.toNat xs.length - 0)=_;rw [List.drop_zero,Nat.sub_zero];rcases Nat.le_total i.toNat xs.length with g | g
 ·rw [Nat.min_eq_left g]
 ·rw [Nat.min_eq_right g,fG (br _),fG g]
theorem MK {i:Int} (h:0<=i):hM xs (some i) none=xs.drop i.toNat:=by
 unfold hM;rw [x3 h];show (xs.drop (min i.toNat xs.length)).take (xs.length - min i.toNat xs.length)=_;rcases Nat.le_total i.toNat xs.length with g | g
 ·rw [Nat.min_eq_left g,fG (by rw [qb];exact br _)]
 ·rw [Nat.min_eq_right g,List.drop_of_length_le (br _),List.drop_of_length_le g,List.take_nil]
structure cj (X:a7) (e:Expr) (t:TE):Prop where
 o:cG X e t
structure lb (X:a7) (e:Expr) (t:TT):Prop where
 o:ks X e t
structure i3 (X:a7) (e:Expr) (t:TT):Prop where
 o:nW X e t
structure gJ (X:a7) (e:List Expr) (t:dh):Prop where
 o:hS X e t
structure jP (X:a7) (e:Stmt) (t:eK):Prop where
 o:kr X e t
structure pq (X:a7) (e:List Stmt) (t:eK):Prop where
 o:kF X e t
structure la (X:a7) (e:Expr) (t:iD):Prop where
 o:mM X e t
structure wk (X:a7) (e:List Expr) (t:mX):Prop where
 o:wi X e t
structure yW (X:a7) (e:Option Expr) (t:c4):Prop where
 o:vL X e t
structure t_ (X:a7) (e:List Expr) (t:TT):Prop where
 o:sa X e t
structure iC (X:a7) (a_ e:Expr) (t:TI):Prop where
 o:jO X a_ e t
theorem aa (i:Nat) {x:Str} {pos:Pos} (d9:X.N[i]?=some x:=by rfl) (bl:zj X.env.scope x:=by first | exact Or.inl rfl | exact Or.inr (Or.inl rfl) | exact Or.inr (Or.inr rfl)) (hd:(x == ("__debug__" : Str))=false:=by decide) (lu:(x == ("__classdict__" : Str))=false:=by decide):cj X (.Name x pos) (El i) :=
 ⟨qF i d9 bl hd lu⟩
theorem aX {i j pos}:cj X (.Constant (.int i) j pos) (jU (.int i)) :=
 ⟨Xe ⟩
theorem h2 {b j pos}:cj X (.Constant (.bool b) j pos) (jU (.aH b)) :=
 ⟨Wh ⟩
theorem gG {j pos}:cj X (.Constant .none j pos) (jU .cV) :=
 ⟨Xg ⟩
theorem lF {x j pos}:cj X (.Constant (.str x) j pos) (jU (.str x)) :=
 ⟨Xj ⟩
theorem nL {x:Str} {v:V} {u:Value} {pos:Pos} (aR:d6 X x) (hm:X.ax x=some u) (r:RelV v u) (hd:(x == ("__debug__" : Str))=false:=by decide):cj X (.Name x pos) (jU v) :=
 ⟨Mh aR hm r hd⟩
theorem F5 {X:a7} {x:Str} {i:Int} {pos:Pos} (aR:d6 X x) (hm : ∃ t,X.ax x=some (.int i t)) (hd:(x == ("__debug__" : Str))=false:=by decide):cj X (.Name x pos) (jU (.int i)) :=
 ⟨ZX aR hm hd⟩
theorem xQ {X:a7} {x:Str} {T:String} {pos:Pos} (aR:d6 X x) (hm:X.ax x=none) (bl:bootBuiltins x=some (.type T)) (az:x ≠ "__name__" := by decide) (hd:(x == ("__debug__" : Str))=false:=by decide):cj X (.Name x pos) (jU (.ty T)) :=
 ⟨Wl aR hm bl az hd⟩
theorem bZ {a:Expr} {b:Expr} {op:Operator} {r:fo} (a0:dt X (binaryOp op) r) (au:cj X a bq) (af:cj X b tb):cj X (.BinOp a op b pos) (q3 r bq tb) :=
 ⟨Wk a0 au.o af.o⟩
theorem kV {a:Expr} {op:UnaryOp} {r:V->aA->bN->Prop} (a0:zi X (unaryOp op) r) (au:cj X a bq):cj X (.UnaryOp op a pos) (JX r bq) :=
 ⟨Wm a0 au.o⟩
theorem te {a:Expr} {b:Expr} (au:cj X a bq) (af:cj X (.BoolOp .And (b::rest) pos) tb):cj X (.BoolOp .And (a::b::rest) pos) (K6 bq tb) :=
 ⟨Xd au.o af.o⟩
theorem uY {a:Expr} {op} {t:TE} (h:cj X a t):cj X (.BoolOp op [a] pos) t :=
 ⟨Xi h.o⟩
theorem Xy {a:Expr} (au:cj X a bq):cj X (.UnaryOp .Not a pos) (K_ bq) :=
 ⟨Xh au.o⟩
theorem F6 {a:Expr} {b:Expr} {c:Expr} (aj:lb X c gQ) (au:cj X a bq) (af:cj X b tb):cj X (.IfExp c a b pos) (JU gQ bq tb) :=
 ⟨ZY aj.o au.o af.o⟩
theorem jJ {a:Expr} {b:Expr} {op:CmpOp} {r:fo} (a0:dt X (compareOp op) r) (au:cj X a bq) (af:cj X b tb) (hm:behindInMarks op b=false):cj X (.Compare a [op] [b] pos) (q3 r bq tb) :=
 ⟨Yw a0 au.o af.o hm⟩
theorem LC {eh} (h:gJ X es t):cj X (.Tuple es eh pos) (KI t) :=
 ⟨Xk h.o⟩
theorem AM (h:gJ X es t):cj X (.List es pos) (KC t) :=
 ⟨Xf h.o⟩
theorem cP {a:Expr} {b:Expr} {r:fo} (av:t9 X r) (au:cj X a bq) (af:cj X b tb) (aF:LO b):cj X (.Subscript a b pos) (q3 r bq tb) :=
 ⟨Wj av au.o af.o aF⟩
theorem mH {lo:Option Expr} {aq:Option Expr} {e:Expr} {r:V->Option Int->Option Int->aA->bN->Prop} (av:kG X r) (he:cj X e a4) (ar:yW X lo en) (bM:yW X aq t4):cj X (.Subscript e (.Slice lo aq none cS) pos) (JW r a4 en t4) :=
 ⟨ZZ av he.o ar.o bM.o⟩
theorem YO {e:Expr} (F:ip X.prog X.w X.K X.ax X.base dN k f fd ps sp) (av:gW k X.A) (aR:d6 X x) (hm:X.ax x=some (.ref f)) (aE:PySem.W.keepIn X.K (.ref f)=true) (af:Binds X.K fd ps ds) (hd:Vals kH ds) (ae:Passes dN X E) (au:gJ X (e::es) t) (hg:(x == ("__debug__" : Str))=false:=by decide) (he:starEach (e::es) X.env=(false,eval e X.env)::starEach es X.env:=by rfl) (fu:(backTo pos (starEach es X.env)).any (·.1)=false:=by rfl):cj X (.Call (.Name x p) (e::es) [] pos) (uP sp kH E t) :=
 ⟨Yv F av aR hm aE af hd ae au.o hg he fu⟩
theorem Z9 (F:ip X.prog X.w X.K X.ax X.base dN k f fd ps sp) (av:gW k X.A) (aR:d6 X x) (hm:X.ax x=some (.ref f)) (aE:PySem.W.keepIn X.K (.ref f)=true) (af:Binds X.K fd ps ds) (hd:Vals kH ds) (ae:Passes dN X E) (hg:(x == ("__debug__" : Str))=false:=by decide):cj X (.Call (.Name x p) [] [] pos) (uP sp kH E xE) :=
 ⟨ZU F av aR hm aE af hd ae hg⟩
theorem Z_ {id:String} {e:Expr} (aj:fO X (.builtin id) r) (aR:d6 X x) (hm:X.ax x=none) (bl:bootBuiltins x=some (.builtin id)) (au:gJ X (e::es) t) (az:x ≠ "__name__" := by decide) (hg:(x == ("__debug__" : Str))=false:=by decide) (he:starEach (e::es) X.env=(false,eval e X.env)::starEach es X.env:=by rfl) (fu:(backTo pos (starEach es X.env)).any (·.1)=false:=by rfl):cj X (.Call (.Name x p) (e::es) [] pos) (ux r t) :=
 ⟨ZV aj aR hm bl au.o az hg he fu⟩
theorem abe {e:Expr} (aj:fO X (.type T) r) (aR:d6 X x) (hm:X.ax x=none) (bl:bootBuiltins x=some (.type T)) (au:gJ X (e::es) t) (az:x ≠ "__name__" := by decide) (hg:(x == ("__debug__" : Str))=false:=by decide) (he:starEach (e::es) X.env=(false,eval e X.env)::starEach es X.env:=by rfl) (fu:(backTo pos (starEach es X.env)).any (·.1)=false:=by rfl):cj X (.Call (.Name x p) (e::es) [] pos) (ux r t) :=
 ⟨aba aj aR hm bl au.o az hg he fu⟩
theorem lC {id:String} {e:Expr} {o:Expr} (i8:PlainAttrs T) (slot:Slot T name id) (Dt:typeOf (.builtin id)=pure (.type "method_descriptor")) (hm:Iu X id r) (a0:cj X o to) (au:gJ X (e::es) t) (Eu:attributeBase o name X.env (eval o X.env)=eval o X.env:=by rfl) (Ad:((backTo gd (starEach (e::es) X.env)).all (λ x => !x.1)&&(backToKw gd (keywordEach [] X.env)).all (λ x=>x.1.isSome)
   && decide ((e::es).length+([]:List Keyword).length+(if ([]:List Keyword).isEmpty then 0 else 1)<30))=true:=by rfl) (Ew:(apos.endLine == gd.line)=true:=by rfl) (aF:starEach (e::es) X.env=(false,eval e X.env)::starEach es X.env:=by rfl) (x1:(backTo gd (starEach es X.env)).any (·.1)=false:=by rfl):cj X (.Call (.Attribute o name apos) (e::es) [] gd) (JT X.K T r to t) :=
 ⟨Wi i8 slot Dt hm a0.o au.o Eu Ad Ew aF x1⟩
theorem c6 {a:Expr} {b:Expr} {op:CmpOp} {r:fo} (a0:dt X (compareOp op) r) (au:cj X a bq) (af:cj X b tb) (hm:behindInMarks op b=false):lb X (.Compare a [op] [b] pos) (Lb (q3 r bq tb)) :=
 ⟨YK a0 au.o af.o hm⟩
theorem lG {a:Expr} (au:lb X a gQ):lb X (.UnaryOp .Not a pos) (KD gQ) :=
 ⟨Xu au.o⟩
theorem k0 {e:Expr} {t:TE} (h:cj X e t) (he : ∀ whole,isTrue e X.env whole=(do let v ← whole;standAt e.pos;holding [v] (truthy v)):=by intro _;rfl):lb X e (Ih t) :=
 ⟨Xv h.o he⟩
theorem Xz {a:Expr} {b:Expr} (au:lb X a gQ) (af:i3 X (.BoolOp .And (b::rest) pos) q2):i3 X (.BoolOp .And (a::b::rest) pos) (Ky gQ q2) :=
 ⟨Xw au.o af.o⟩
theorem YT {a:Expr} (au:lb X a gQ):i3 X (.BoolOp .And [a] pos) gQ :=
 ⟨YN au.o⟩
theorem oR {a:Expr} {b:Expr} (au:lb X a gQ) (af:i3 X (.BoolOp .Or (b::rest) pos) q2):i3 X (.BoolOp .Or (a::b::rest) pos) (JV gQ q2) :=
 ⟨Wo au.o af.o⟩
theorem ro {a:Expr} (au:lb X a gQ):i3 X (.BoolOp .Or [a] pos) gQ :=
 ⟨Xx au.o⟩
theorem aC  : gJ X [] xE :=
 ⟨Xc ⟩
theorem ak {X:a7} {e:Expr} {es:List Expr} {a4:TE} {t:dh} (au:cj X e a4) (av:gJ X es t) (h:noStar e=true:=by rfl):gJ X (e::es) (EH a4 t) :=
 ⟨VD au.o av.o h⟩
theorem nM  : yW X none Ms :=
 ⟨YC ⟩
theorem lO {e:Expr} (h:cj X e a4):yW X (some e) (La a4) :=
 ⟨YD h.o⟩
theorem hA {l:Expr} {en:TE} (ar:cj X l en):iC X a_ l (EA X.K en) :=
 ⟨YB ar.o⟩
theorem kZ {l:Expr} {en:TE} (ar:cj X l en):iC X a_ l (Ec X.K en) :=
 ⟨Xo ar.o⟩
theorem iz {a:Expr} {bq:dh} {p pos:Pos} (aR:d6 X "range") (hm:X.ax "range" = none) (au:gJ X [a] bq) (aF:starEach [a] X.env=[(false,eval a X.env)]:=by rfl) (dH:X.calm=true:=by rfl):iC X a_ (.Call (.Name "range" p) [a] [] pos) (KY bq) :=
 ⟨abb aR hm au.o aF dH⟩
theorem abf {a b:Expr} {bq:dh} {p pos:Pos} (aR:d6 X "range") (hm:X.ax "range" = none) (au:gJ X [a,b] bq) (aF:starEach [a,b] X.env=[(false,eval a X.env),(false,eval b X.env)]:=by rfl) (hI:starEach [b] X.env=[(false,eval b X.env)]:=by rfl) (dH:X.calm=true:=by rfl):iC X a_ (.Call (.Name "range" p) [a,b] [] pos) (KZ bq) :=
 ⟨abc aR hm au.o aF hI dH⟩
theorem tf {bq:dh} {p pos:Pos} (fb:ju a_=true) (aR:d6 X "zip") (hm:X.ax "zip" = none) (au:gJ X [aJ,aN] bq) (aF:starEach [aJ,aN] X.env=[(false,eval aJ X.env),(false,eval aN X.env)]:=by rfl) (hI:starEach [aN] X.env=[(false,eval aN X.env)]:=by rfl) (af:bootBuiltins "zip" = some (.type "zip"):=by decide +kernel):iC X a_ (.Call (.Name "zip" p) [aJ,aN] [] pos) (Kn X.K bq) :=
 ⟨Xp fb aR hm au.o aF hI af⟩
theorem g7 {i:Nat} {x:Str} (d9:X.N.Nodup) (aq:X.N[i]?=some x) (ae:Loc X.env.scope x) (hf:X.fn x=true\/X.env.scope.names.lookup x=some .local:=by first | exact .inl rfl | exact .inr rfl | assumption):la X (.Name x pos) (e4 i) :=
 ⟨Yy d9 aq ae hf⟩
theorem km {es:List Expr} {k:Nat} {t:mX} (aj:X.warm=true) (h:wk X es t) (az:(assignEach es X.env).length=n:=by rfl) (dk:(assignEach es X.env).findIdx? (·.1)=none:=by rfl):la X (.Tuple es k pos) (nf X.K n t) :=
 ⟨Xn aj h.o az dk⟩
theorem qg {o i:Expr} {to iJ:TE} {t:uE} (a0:cj X o to) (aq:cj X i iJ) (aF:Aa X t) (au : ∀ v,assign (.Subscript o i pos) X.env v=(do
   let eO ← holding [v] (eval o X.env)
   let d4 ← holding [v,eO] (eval i X.env)
   standAt pos
   holding [v,eO,d4] (setItem eO d4 v)
   release [v,eO,d4] []):=by intro _;rfl):la X (.Subscript o i pos) (Kd to iJ t) :=
 ⟨Xm a0.o aq.o aF au⟩
theorem fm  : wk X [] oG :=
 ⟨Yz ⟩
theorem cQ {e:Expr} {es:List Expr} {t:iD} {u:mX} (I:la X e t) (ah:wk X es u) (aF:(assignEach (e::es) X.env).map (·.2)=assign e X.env::(assignEach es X.env).map (·.2):=by rfl):wk X (e::es) (iV t u) :=
 ⟨Z0 I.o ah.o aF⟩
theorem mz {i:Nat} {x:Str} {e:Expr} {a4:TE} (d9:X.N.Nodup) (aq:X.N[i]?=some x) (ae:Loc X.env.scope x) (he:cj X e a4) (aF:swapsWith e (some (.Name x pos')) pos.line X.env=pure false:=by rfl) (hf:X.fn x=true\/X.env.scope.names.lookup x=some .local:=by first | exact .inl rfl | exact .inr rfl | assumption):jP X (.Assign [.Name x pos'] e pos) (p5 a4 (e4 i)) :=
 ⟨Xt d9 aq ae he.o aF hf⟩
theorem nA {a_ e:Expr} {a4:TE} (he:cj X e a4) (aR:la X a_ g) (aF:swapsWithSole [a_] e pos.line X.env=pure false:=by rfl) (hw:swappedStores [a_] e X.env=pure none:=by rfl) (I:(assignEach [a_] X.env).map (·.2)=[assign a_ X.env]:=by rfl):jP X (.Assign [a_] e pos) (p5 a4 g) :=
 ⟨Xq he.o aR.o aF hw I⟩
theorem bJ {e:Expr} (he:cj X e a4):jP X (.Return (some e) pos) (KG a4) :=
 ⟨Xs he.o⟩
theorem lP {e:Expr} (he:cj X e a4) (aF:swapsWith e none pos.line X.env=pure false:=by rfl):jP X (.Expr e pos) (K8 a4) :=
 ⟨YG he.o aF⟩
theorem dJ {c:Expr} {a b:List Stmt} (aj:lb X c dx) (au:pq X a t) (af:pq X b u):jP X (.If c a b pos) (KA dx t u) :=
 ⟨Wn aj.o au.o af.o⟩
theorem vp {c:Expr} {tb:eK} (ao:PassesOwn (model X.prog X.w) X.A X.env X.dB) (aj:lb X c dx) (af:pq X body tb):jP X (.While c body [] pos) (E6 dx tb) :=
 ⟨Z7 ao aj.o af.o⟩
theorem eB {tb:eK} {pos:Pos} (ao:PassesOwn (model X.prog X.w) X.A X.env X.dB) (aj:X.warm=true) (aq:iC X a_ iter fa) (aR:la X a_ g) (af:pq X body tb) (aF : ∀ x,foldedSetIterable iter X.env x=pure x:=by intro _;rfl):jP X (.For a_ iter body [] pos) (Kz fa g tb) :=
 ⟨Xr ao aj aq.o aR.o af.o aF⟩
theorem dM  : pq X [] K9 :=
 ⟨YI ⟩
theorem a5 (I:jP X st t):pq X [st] t :=
 ⟨YJ I.o⟩
theorem aV {rest:List Stmt} (I:jP X st t) (ah:pq X rest u):pq X (st::rest) (KH t u) :=
 ⟨Z8 I.o ah.o⟩
theorem eD {X:a7}:t_ X [] iy :=
 ⟨YL ⟩
theorem yj {X:a7} {c:Expr} {t:TT} (aj:lb X c t):t_ X [c] t :=
 ⟨YM aj.o⟩
theorem i3.pt {X:a7} {e:Expr} {t:TT} (h:i3 X e t):lb X e t :=
 ⟨nW.pt h.o⟩
theorem fx {X:a7} {a_:Expr} {cs:List Expr} {pos:Pos} {N:cE} {a4:TE}
  (a9:rk X scope cl N js) (aj:X.warm=true) (aq:iC X a_ iter fa)
  (aR : ∀ a3 pins s H,la (lD X scope cl N a3 pins s H λ _ _=>False) a_ g)
  (aW : ∀ a3 pins s H,t_ (lD X scope cl N a3 pins s H λ _ _=>False) cs dx)
  (he : ∀ a3 pins s H,cj (lD X scope cl N a3 pins s H λ _ _=>False) elt a4)
  (aF : ∀ x,foldedSetIterable iter X.env x=pure x:=by intro _;rfl):cj X (.ListComp elt [⟨a_,iter,cs,0⟩] scope pos) (rf js fa g dx a4) :=
 ⟨Yx a9 aj aq.o (λ a b c d=>(aR a b c d).o) (λ a b c d=>(aW a b c d).o) (λ a b c d=>(he a b c d).o) aF⟩
theorem l4.cA {P:Program} {x:Str} {f:Addr} {fd:FuncData} {N ps:cE} {k:Nat} {sp:b9} (F:l4 K x qual st f fd) (S:cg N ps (bS st)) (len : ∀ ag H Q E,sp ag H Q E->ag.length=ps.length)
  (xJ : ∀ (bt:Value) (A:Around) (outer:List Env) (s:Shared) (H:aA) (ag:bB) (Q:bN) (E:jQ),gW k (A.deeper (envOfC qual (bS st) s.heap.objs.size f bt))->sp ag H Q E ->
   ∃ t,pq (sS b_ P w K ax base N qual (bS st) f bt A outer s H E).xb (kp st) t/\t { bO:=λ _ H'=>Q .cV H',l1:=Q } (start N ag) H):ip P w K ax base b_ (k+1) f fd ps sp :=
 F.ok S len λ bt A outer s H ag Q E av h=>let ⟨t,a,b⟩:=xJ bt A outer s H ag Q E av h;⟨t,a.o,b⟩
end bC
namespace du
open PySem bC
theorem ac2 {aq:Option Int} (I:el.cN xs.length 0 lo=0) (ah:el.cN xs.length xs.length aq=xs.length):hM xs lo aq=xs:=by
 unfold hM;rw [I,ah,List.drop_zero,Nat.sub_zero,kn]
theorem abj {aq:Option Int} {Q:bN} (au:H a=some (.tup xs)) (q : ∀ p H',aB H H'->H' p=some (.tup (hM xs lo aq))->Q (.ref p) H') :
  Ei K (.ref a) lo aq H Q\/Ej K (.ref a) lo aq H Q:=by
 by_cases e:el.cN xs.length 0 lo=0/\el.cN xs.length xs.length aq=xs.length
 ·exact .inr ⟨a,xs,rfl,aP.of au,e.1,e.2,q a H (aB.refl H) (by rw [ac2 e.1 e.2];exact au)⟩
 ·exact .inl ⟨a,xs,rfl,aP.of au,e,λ p ao=>q p _ (aB.new ao) bK⟩
theorem XW {b:Addr} {Q:bN} (au:H a=some (.tup xs)) (af:H b=some (.tup ys)) (ar:xs.length+ys.length<=sizeLine) (q : ∀ p H',aB H H'->H' p=some (.tup (xs++ys))->Q (.ref p) H') :
  EE K (.ref a) (.ref b) H Q\/EF K (.ref a) (.ref b) H Q:=by
 by_cases e:xs=[]
 ·subst e;exact .inl ⟨a,b,ys,rfl,rfl,aP.of au,aP.of af,q b H (aB.refl H) af⟩
 ·refine .inr ⟨a,b,xs,ys,rfl,rfl,aP.of au,aP.of af,e,ar,λ z=>?_,λ z p ao=>q p _ (aB.new ao) bK⟩;subst z;exact q a H (aB.refl H) (by rw [mx];exact au)
end du
namespace bC
open PySem PySem.Spec PyProof.Rows
theorem dt.imp {X:a7} {f:Value->Value->Sem Value} {r bU:fo} (h:dt X f r) (i : ∀ x y H Q,bU x y H Q->r x y H Q):dt X f bU:=λ pins s σ H x y v u Q C bA bL z=>h pins s σ H x y v u Q C bA bL (i x y H Q z)
theorem fO.imp {X:a7} {f:Value} {r bU:bB->aA->bN->Prop} (h:fO X f r) (i : ∀ xs H Q,bU xs H Q->r xs H Q):fO X f bU:=λ pins s σ H xs us Q C bA z=>h pins s σ H xs us Q C bA (i xs H Q z)
theorem kG.imp {X:a7} {r bU:V->Option Int->Option Int->aA->bN->Prop} (h:kG X r) (i : ∀ x lo aq H Q,bU x lo aq H Q->r x lo aq H Q):kG X bU:=λ pins s σ H x v fK ha lo aq cZ Q C bA a b c z=>h pins s σ H x v fK ha lo aq cZ Q C bA a b c (i x lo aq H Q z)
theorem r_.imp {X:a7} {id:String} {r bU:V->bB->aA->bN->Prop} (h:r_ X id r) (i : ∀ x xs H Q,bU x xs H Q->r x xs H Q):r_ X id bU:=λ pins s σ H x xs v us Q C bA rs z=>h pins s σ H x xs v us Q C bA rs (i x xs H Q z)
noncomputable def kR (o:fy) (H:aA) (Q:bN):Prop := ∀ p H',H p=none->aB H H'->H' p=some o->Q (.ref p) H'
theorem kR.at {Q:bN} (q:kR o H Q) : ∀ p,H p=none->Q (.ref p) (upd H p o):=λ p ao=>q p _ ao (du.aB.new ao) bK
noncomputable def Wt (t:dh):TE:=λ σ H Q=>t σ H λ xs H1=>xs.length<=sizeLine/\kR (.tup xs) H1 Q
noncomputable def Ws (t:dh):TE:=λ σ H Q=>t σ H λ xs H1=>xs.length<=sizeLine/\kR (.lst xs) H1 Q
section
variable {X:a7}
theorem hk {es:List Expr} {t:dh} {eh} {pos:Pos} (h:gJ X es t):cj X (.Tuple es eh pos) (Wt t):=⟨by
 intro pins s σ H Q C aK;refine wpAny_Tuple_spliced (bQ (h.o pos pins s σ H _ C aK) λ us s1 ⟨xs,H1,bg,r,z,q⟩=>⟨by rw [<-r.length];exact z,?_⟩);have hf:H1 s1.heap.objs.size=none:=bg.bX.fresh (br _);refine ⟨.ref s1.heap.objs.size,upd H1 s1.heap.objs.size (.tup xs),bg.laid (t':=s1.toks) (λ b u e=>bW _ e) (br _) ?_,rfl,q.at _ hf⟩;exact ⟨z,us,r,⟨_,dI _ rfl,rfl,⟨_,rfl⟩,rfl⟩⟩⟩
theorem jK {es:List Expr} {t:dh} {pos:Pos} (h:gJ X es t):cj X (.List es pos) (Ws t):=⟨by
 intro pins s σ H Q C aK;refine wpAny_List_spliced (bQ (h.o pos pins s σ H _ C aK) λ us s1 ⟨xs,H1,bg,r,z,q⟩=>⟨by rw [<-r.length];exact z,?_⟩);have hf:H1 s1.heap.objs.size=none:=bg.bX.fresh (br _);refine ⟨.ref s1.heap.objs.size,upd H1 s1.heap.objs.size (.lst xs),bg.laid (t':=s1.toks) (λ b u e=>bW _ e) (br _) ?_,rfl,q.at _ hf⟩;exact ⟨z,us,0,r,dI _ rfl⟩⟩
noncomputable def XA:fo:=λ x y H Q => ∃ l b xs zs,x=.ref l/\y=.ref b/\H l=some (.lst xs)/\H b=some (.lst zs)/\xs.length+zs.length<=sizeLine/\kR (.lst (xs++zs)) H Q
theorem F2:dt X (binaryOp .Add) XA:=W9.imp λ x y H Q ⟨l,b,xs,zs,aJ,aN,I,ah,aD,q⟩=>⟨l,b,xs,zs,aJ,aN,I,ah,aD,q.at⟩
noncomputable def XD:fo:=λ x y H Q => ∃ l k xs,x=.ref l/\y=.int k/\H l=some (.tup xs)/\xs≠[]/\2<=k/\k<2 ^ 63/\xs.length * k.toNat<=sizeLine/\kR (.tup (List.replicate k.toNat xs).flatten) H Q
theorem ZT:dt X (binaryOp .Mult) XD:=Yr.imp λ x y H Q ⟨l,k,xs,aJ,aN,I,ah,aD,aL,cp,q⟩=>⟨l,k,xs,aJ,aN,I,ah,aD,aL,cp,q.at⟩
noncomputable def XC:fo:=λ x y H Q => ∃ l k xs,x=.ref l/\y=.int k/\H l=some (.lst xs) /\ -(2 ^ 63)<=k/\k<2 ^ 63/\xs.length * k.toNat<=sizeLine/\kR (.lst (List.replicate k.toNat xs).flatten) H Q
theorem vo:dt X (binaryOp .Mult) XC:=Ly.imp λ x y H Q ⟨l,k,xs,aJ,aN,I,ah,aD,aL,q⟩=>⟨l,k,xs,aJ,aN,I,ah,aD,aL,q.at⟩
theorem adE:fO X (.type "list") (λ xs H Q => ∃ p ys,xs=[.ref p]/\(aQ X.K H p ys\/aP X.K H p ys)/\kR (.lst ys) H Q):=acX.imp λ xs H Q ⟨p,ys,e,h,q⟩=>⟨p,ys,e,h,q.at⟩
theorem mJ:fO X (.type "tuple") (λ xs H Q => ∃ p ys,xs=[.ref p]/\aQ X.K H p ys/\kR (.tup ys) H Q):=yL.imp λ xs H Q ⟨p,ys,e,h,q⟩=>⟨p,ys,e,.inl ⟨h,q.at⟩⟩
noncomputable def VI:V->Option Int->Option Int->aA->bN->Prop:=λ x lo aq H Q => ∃ a xs,x=.ref a/\H a=some (.tup xs) /\ ∀ p H',aB H H'->H' p=some (.tup (hM xs lo aq))->Q (.ref p) H'
theorem Ap:kG X VI:=Mq.imp λ x lo aq H Q ⟨a,xs,e,h,q⟩=>by subst e;exact du.abj h q
noncomputable def XB:fo:=λ x y H Q => ∃ a b xs ys,x=.ref a/\y=.ref b/\H a=some (.tup xs)/\H b=some (.tup ys)/\xs.length+ys.length<=sizeLine /\ ∀ p H',aB H H'->H' p=some (.tup (xs++ys))->Q (.ref p) H'
theorem M5:dt X (binaryOp .Add) XB:=Yn.imp λ x y H Q ⟨a,b,xs,ys,aJ,aN,I,ah,aD,q⟩=>by subst aJ;subst aN;exact du.XW I ah aD q
noncomputable def aac:V->bB->aA->bN->Prop:=λ x ag H Q => ∃ l xs y,x=.ref l/\ag=[y]/\H l=some (.lst xs)/\xs.length<sizeLine /\ ∀ H',du.b6 l H H'->H' l=some (.lst (xs++[y]))->Q .cV H'
theorem oZ:r_ X "list.append" aac:=Gs.imp λ x ag H Q ⟨l,xs,y,aJ,aN,I,ah,q⟩=>⟨l,xs,y,aJ,aN,I,ah,q _ du.b6.upd bK⟩
end
end bC
namespace du
open PySem bC
noncomputable def e3 (H H':aA):Prop := ∀ b o,H b=some o->H' b=some o \/ ∃ xs ys,o=.lst xs/\H' b=some (.lst ys)
theorem e3.of (s:aB H H'):e3 H H':=λ b o h=>.inl (s b o h)
theorem e3.trans (x:e3 H H1) (y:e3 H1 ay):e3 H ay:=λ b o h=>by
 rcases x b o h with z | ⟨xs,ys,rfl,z⟩
 ·exact y b o z
 ·rcases y b _ z with eV | ⟨us,ag,e,eV⟩
  ·exact .inr ⟨xs,ys,rfl,eV⟩
  ·exact .inr ⟨xs,ag,rfl,eV⟩
theorem e3.but (c0:b6 a H H') (h:H a=some (.lst xs)) (h':H' a=some (.lst ys)):e3 H H':=λ b o e=>by
 by_cases z:b=a
 ·subst z;rw [h] at e;cases e;exact .inr ⟨xs,ys,rfl,h'⟩
 ·exact .inl (c0 b o z e)
theorem e3.tup (k:e3 H H') {b:Addr} (h:H b=some (.tup xs)):H' b=some (.tup xs):=by
 rcases k b _ h with z | ⟨_,_,e,_⟩
 ·exact z
 ·cases e
noncomputable def q4 (H:aA) (v:V):Prop:=oP H v /\ ∀ xs,kQ H v=some xs->xs.length<=1000 /\ ∀ x∈xs,oP H x
section
variable {p:Addr}
theorem ZF (h:H p=some (.tup xs)):oP H (.ref p):=.inl ⟨xs,h⟩
theorem Mw (h:H p=some (.tup xs)) (l:xs.length<=1000) (m : ∀ x∈xs,oP H x):q4 H (.ref p):=⟨ZF h,λ ys e=>by rw [vh h] at e;cases e;exact ⟨l,m⟩⟩
end
end du
namespace bC
open PySem PySem.Spec PyProof.Rows
section
variable {κ: Type} [DecidableEq κ]
noncomputable def fM (aU:List (κ × V)) (k : κ):cq:=(aU.find? λ eU=>decide (eU.1=k)).map (·.2)
noncomputable def putK (aU:List (κ × V)) (k : κ) (v:V):List (κ × V) :=
 if (aU.any λ eU=>decide (eU.1=k))=true then aU.map (λ eU=>if eU.1=k then (eU.1,v) else eU) else aU++[(k,v)]
theorem nO {p: κ × V} {r:List (κ × V)} {k: κ} (e:p.1=k):fM (p::r) k=some p.2:=by simp [fM,nG,e]
theorem nN {p: κ × V} {r:List (κ × V)} {k: κ} (e : ¬ p.1=k):fM (p::r) k=fM r k:=by simp [fM,nG,e]
theorem Bl (k : κ) : ∀ aU:List (κ × V),(aU.any λ eU=>decide (eU.1=k))=(fM aU k).isSome
 | []=>rfl
 | p::r=>by
  rw [List.any_cons];by_cases e:p.1=k
  ·simp only [nO e,cX e,Bool.true_or,Option.isSome_some]
  ·rw [nN e,ee e,Bool.false_or];exact Bl k r
theorem Nw (k j : κ) (y:V) : ∀ aU:List (κ × V),fM (aU.map λ eU=>if eU.1=k then (eU.1,y) else eU) j=(fM aU j).map λ x=>if j=k then y else x
 | []=>rfl
 | p::r=>by
  have b0:=Nw k j y r;rw [jo];by_cases h:p.1=k
  ·rw [if_pos h];by_cases e:p.1=j
   ·rw [nO (p:=(p.1,y)) e,nO e,Option.map_some,if_pos (e.symm.trans h)]
   ·rw [nN (p:=(p.1,y)) e,nN e,b0]
  ·rw [if_neg h];by_cases e:p.1=j
   ·rw [nO (p:=p) e,nO e,Option.map_some,if_neg (λ z=>h (e.trans z))]
   ·rw [nN (p:=p) e,nN e,b0]
theorem Of (k j : κ) (y:V) : ∀ aU:List (κ × V),fM aU k=none->fM (aU++[(k,y)]) j=if j=k then some y else fM aU j
 | [],_=>by
  by_cases e:k=j
  ·rw [if_pos e.symm];exact nO (p:=(k,y)) e
  ·rw [if_neg (λ z=>e z.symm)];exact nN (p:=(k,y)) e
 | p::r,az=>by
  rw [List.cons_append];have aE : ¬ p.1=k:=λ z=>by rw [nO z] at az;cases az
  rw [nN aE] at az;have b0:=Of k j y r az;by_cases e:p.1=j
  ·rw [nO e,nO e,if_neg (λ z=>aE (e.trans z))]
  ·rw [nN e,nN e,b0]
theorem Nx (aU:List (κ × V)) (k j : κ) (y:V):fM (putK aU k y) j=if j=k then some y else fM aU j:=by
 unfold putK;by_cases a:(aU.any λ eU=>decide (eU.1=k))=true
 ·rw [if_pos a,Nw];rw [Bl] at a;by_cases e:j=k
  ·obtain ⟨x,ae⟩:=Option.isSome_iff_exists.mp a;rw [if_pos e,e,ae,Option.map_some,if_pos rfl]
  ·rw [if_neg e];cases fM aU j with
   | none=>rfl
   | some x=>rw [Option.map_some,if_neg e]
 ·rw [if_neg a];refine Of k j y aU ?_;rw [Bl] at a;cases q:fM aU k with
  | none=>rfl
  | some x=>rw [q] at a;exact (a rfl).elim
theorem G5 (aU:List (κ × V)) (k : κ) (v:V):(putK aU k v).length<=aU.length+1:=by
 unfold putK;split
 ·rw [a6];omega
 ·rw [cJ,mB,List.length_nil];omega
theorem m_.Gq {o:cq} {u:dP} (r:m_ o u):o.isSome=u.isSome:=by
 cases o with
 | none=>cases u with
  | none=>rfl
  | some _=>exact (show False from r).elim
 | some _=>cases u with
  | none=>exact (show False from r).elim
  | some _=>rfl
theorem h9.val {aU:List (κ × V)} {ag:List (κ × Value)} (r:h9 aU ag) (k : κ):m_ (fM aU k) (valueAt ag k):=by
 unfold h9 at r
 induction r with
 | nil=>exact True.intro
 | @cons p q ps ky h t b0 =>
  obtain ⟨I,ah⟩:=h;by_cases e:p.1=k
  ·have bF:q.1=k:=I.symm.trans e;have b:valueAt (q::ky) k=some q.2:=by simp [valueAt,nG,bF]
   rw [nO e,b];exact ah
  ·have bF : ¬ q.1=k:=λ z=>e (I.trans z)
   have b:valueAt (q::ky) k=valueAt ky k:=by simp [valueAt,nG,bF]
   rw [nN e,b];exact b0
theorem h9.any {aU:List (κ × V)} {ag:List (κ × Value)} (r:h9 aU ag) (k : κ):(aU.any λ eU=>decide (eU.1=k))=ag.any λ eU=>decide (eU.1=k):=by
 unfold h9 at r
 induction r with
 | nil=>rfl
 | cons h t b0=>rw [List.any_cons,List.any_cons,b0,h.1]
theorem h9.Ek {aU:List (κ × V)} {ag:List (κ × Value)} (r:h9 aU ag) (k : κ) {u:Value} (bL:RelV y u) :
  h9 (aU.map λ eU=>if eU.1=k then (eU.1,y) else eU) (ag.map λ eU=>if eU.1=k then (eU.1,u) else eU):=by
 unfold h9 at r ⊢
 induction r with
 | nil=>exact .nil
 | @cons p q ps ky h t b0 =>
  rw [jo,jo];refine .cons ?_ b0;obtain ⟨I,ah⟩:=h;by_cases e:p.1=k
  ·rw [if_pos e,if_pos (I.symm.trans e)];exact ⟨I,bL⟩
  ·rw [if_neg e,if_neg (λ z=>e (I.trans z))];exact ⟨I,ah⟩
theorem h9.put {aU:List (κ × V)} {ag:List (κ × Value)} (r:h9 aU ag) (k : κ) {u:Value} (bL:RelV y u):h9 (putK aU k y) (stored ag k u):=by
 unfold putK stored;rw [r.any k];by_cases e:(ag.any λ eU=>decide (eU.1=k))=true
 ·rw [if_pos e,if_pos e];exact r.Ek k bL
 ·rw [if_neg e,if_neg e];exact Paired.snoc r ⟨rfl,bL⟩
theorem h9.length {aU:List (κ × V)} {ag:List (κ × Value)} (r:h9 aU ag):aU.length=ag.length:=Paired.length r
end
theorem Ay {P:Program} {k:Key} {u:Value} (r:RelV (c2 k) u):(lN P w).is k u=true:=by
 cases k with
 | inl i=>obtain ⟨t,e⟩:=(show ∃ t,u=Value.int i t from r);subst e;exact acB P w i t
 | inr x=>obtain ⟨t,e⟩:=(show ∃ t,u=Value.str x t from r);subst e;exact acC P w x t
theorem NY {P:Program} : ∀ {eZ:List Key} {us:List Value},Vals (eZ.map c2) us->ItemsAre (lN P w) eZ us
 | [],_,r=>by rw [List.map_nil] at r;cases r;exact .nil
 | k::eZ,_,r=>by
  rw [jo] at r;cases r with
  | cons h t=>exact .cons (Ay h) (NY t)
noncomputable abbrev KT (H:aA):List (List Key×V)->List (List Key×Addr×Value)->Prop:=Paired λ p q=>p.1=q.1/\H q.2.1=some (.tup (p.1.map c2))/\RelV p.2 q.2.2
theorem KT.val {aU:List (List Key×V)} {xs:List (List Key×Addr×Value)} (r:KT H aU xs) (k:List Key):m_ (fM aU k) ((atKey xs k).map (·.2)):=by
 induction r with
 | nil=>exact True.intro
 | @cons p q ps ky h t b0 =>
  obtain ⟨I,_,ah⟩:=h;by_cases e:p.1=k
  ·have bF:q.1=k:=I.symm.trans e;have b:atKey (q::ky) k=some q.2:=by simp [atKey,nG,bF]
   rw [nO e,b];exact ah
  ·have bF : ¬ q.1=k:=λ z=>e (I.trans z)
   have b:atKey (q::ky) k=atKey ky k:=by simp [atKey,nG,bF]
   rw [nN e,b];exact b0
theorem KT.Ek {aU:List (List Key×V)} {xs:List (List Key×Addr×Value)} (r:KT H aU xs) (k:List Key) {u:Value} (bL:RelV y u) :
  KT H (aU.map λ eU=>if eU.1=k then (eU.1,y) else eU) (xs.map (putAt k u)):=by
 induction r with
 | nil=>exact .nil
 | @cons p q ps ky h t b0 =>
  rw [jo,jo];refine .cons ?_ b0;obtain ⟨I,ah,aD⟩:=h;unfold putAt;by_cases e:p.1=k
  ·rw [if_pos e,if_pos (I.symm.trans e)];exact ⟨I,ah,bL⟩
  ·rw [if_neg e,if_neg (λ z=>e (I.trans z))];exact ⟨I,ah,aD⟩
theorem KT.put {aU:List (List Key×V)} {xs:List (List Key×Addr×Value)} (r:KT H aU xs) (k:List Key) {b:Addr} {u:Value} (af:H b=some (.tup (k.map c2))) (bL:RelV y u) :
  KT H (putK aU k y) (storedH xs k b u):=by
 have e:(aU.any λ eU=>decide (eU.1=k))=(atKey xs k).isSome:=by
  rw [Bl,(r.val k).Gq,Option.isSome_map]
 unfold putK storedH;rw [e];by_cases q:(atKey xs k).isSome=true
 ·rw [if_pos q,if_pos q];exact r.Ek k bL
 ·rw [if_neg q,if_neg q];exact Paired.snoc r ⟨rfl,af,bL⟩
theorem KT.keeps {aU:List (List Key×V)} {xs:List (List Key×Addr×Value)} (r:KT H aU xs) (aW : ∀ b ys,H b=some (.tup ys)->H' b=some (.tup ys)):KT H' aU xs :=
 Paired.Ef r λ _ _ z=>⟨z.1,aW _ _ z.2.1,z.2.2⟩
section
variable {P:Program} {h:Heap}
theorem K5 {u:fy} (ok:fC P w H h) (e:o4 H a u):fw P w H h a u:=e.ok ok
theorem As {aU:List (Key×V)} (ok:fC P w H h) (e:o4 H a (.gM aU)):aU.length<=sizeLine/\(a == sysModules)=false /\ ∃ ag,h9 aU ag/\h.DictOf (lN P w) a ag :=
 show fw P w H h a (.gM aU) from K5 ok e
theorem VW {aU:List (Key×V)} (ok:fC P w H h) (e:H a=some (.gM aU)):aU.length<=sizeLine/\(a == sysModules)=false /\ ∃ ag,h9 aU ag/\h.DictOf (lN P w) a ag:=As ok (.inl e)
theorem AI {eZ:List Key} (ok:fC P w H h) (e:H a=some (.tup (eZ.map c2))):(tupleKind (lN P w)).is h eZ a:=by
 obtain ⟨_,its,r,o,I,ah,⟨n,aD⟩,_⟩:=(show fw P w H h a (.tup (eZ.map c2)) from ok a _ e)
 exact ⟨o,its.toArray,n,I,ah,aD,by simpa using NY r⟩
theorem Au {aU:List (List Key×V)} (ok:fC P w H h) (e:o4 H a (.f5 aU)):aU.length<=sizeLine/\(a == sysModules)=false /\
  ∃ xs,KT H aU xs/\h.DictOfH (tupleKind (lN P w)) a xs:=by
 obtain ⟨z,y,xs,r,o,es,e7,I,ah,aD,aL,cp⟩:=(show fw P w H h a (.f5 aU) from K5 ok e)
 refine ⟨z,y,xs,r,o,es,e7,I,ah,aD,aL,λ x ae=>?_,cp⟩;have all : ∀ {l:List (List Key×V)} {m:List (List Key×Addr×Value)},KT H l m -> ∀ x∈m,(tupleKind (lN P w)).is h x.1 x.2.1:=by
  intro l m q
  induction q with
  | nil=>intro x ae;exact nomatch ae
  | @cons p q ps ky aK t b0 =>
   intro x ae;rcases c8.mp ae with e | ae
   ·subst e;exact AI ok (by rw [<-aK.1];exact aK.2.1)
   ·exact b0 x ae
 exact all r x ae
theorem VX {aU:List (List Key×V)} (ok:fC P w H h) (e:H a=some (.f5 aU)):aU.length<=sizeLine/\(a == sysModules)=false /\
  ∃ xs,KT H aU xs/\h.DictOfH (tupleKind (lN P w)) a xs:=Au ok (.inl e)
end
noncomputable def q7 (H:aA) (a:Addr) (y:V) (r:cq):Prop :=
 (∃ aU k,o4 H a (.gM aU)/\y=c2 k/\r=fM aU k) \/ ∃ aU k b,o4 H a (.f5 aU)/\y=.ref b/\H b=some (.tup (k.map c2))/\r=fM aU k
noncomputable def z9 (H:aA) (a:Addr) (y v:V) (H':aA):Prop :=
 (∃ aU k,H a=some (.gM aU)/\y=c2 k/\aU.length<sizeLine/\H'=upd H a (.gM (putK aU k v))) \/
 ∃ aU k b,H a=some (.f5 aU)/\y=.ref b/\H b=some (.tup (k.map c2))/\aU.length<sizeLine/\H'=upd H a (.f5 (putK aU k v))
theorem q7.t {b:Addr} {aU:List (List Key×V)} {k:List Key} (e:H a=some (.f5 aU)) (eS:H b=some (.tup (k.map c2))):q7 H a (.ref b) (fM aU k):=.inr ⟨aU,k,b,.inl e,rfl,eS,rfl⟩
theorem z9.t {b:Addr} {aU:List (List Key×V)} {k:List Key} {v:V} (e:H a=some (.f5 aU)) (eS:H b=some (.tup (k.map c2))) (ar:aU.length<sizeLine) :
  z9 H a (.ref b) v (upd H a (.f5 (putK aU k v))):=.inr ⟨aU,k,b,e,rfl,eS,ar,rfl⟩
section
variable {X:a7} {v:V} {u r:Value} {o:cq} {E:bY}
theorem Inv.big (C:Inv X pins σ H s):sysModules<s.heap.objs.size:=by
 have h:mainGlobals<s.heap.objs.size:=(C.mod.glob.keeps C.eL).lt;exact Nat.lt_trans .aG h
theorem aaN {Q:bY} (bM:A.units+1<cLine) (C:Inv X pins σ H s) (g:q7 H a y (some v)) (bL:RelV y u) (h : ∀ gS s',Inv X pins σ H s'->RelV v gS->Q gS s') :
  wpAny (model X.prog X.w) A (getItem (.ref a) u) Q E s:=by
 rcases g with ⟨aU,k,e,eT,l⟩ | ⟨aU,k,b,e,eT,eS,l⟩
 ·subst eT;obtain ⟨z,hd,ag,rel,bD⟩:=As C.bX e;obtain ⟨gS,hw,ik⟩:=m_.some_of (v:=v) (o:=valueAt ag k) (by rw [l];exact rel.val k);exact wpAny_getItem_of (Ay bL) bD.mapOf hw (h gS _ (C.tok _) ik)
 ·subst eT;cases (show u=Value.ref b from bL);obtain ⟨z,hd,xs,rel,bD⟩:=Au C.bX e;obtain ⟨gS,hw,ik⟩:=m_.some_of (v:=v) (o:=(atKey xs k).map (·.2)) (by rw [l];exact rel.val k);obtain ⟨p,ao,fV⟩:=Option.map_eq_some_iff.mp hw;refine wpAny_getItem_heap (Fb bM) (AI C.bX eS) bD ao ?_;rw [fV];exact h gS _ (C.tok _) ik
theorem UO {Q:bY} (bM:A.units+1<cLine) (C:Inv X pins σ H s) (g:q7 H a y o) (bL:RelV y u) (h : ∀ s',Inv X pins σ H s'->Q (.bool o.isSome) s') :
  wpAny (model X.prog X.w) A (compareOp .In u (.ref a)) Q E s:=by
 rcases g with ⟨aU,k,e,eT,l⟩ | ⟨aU,k,b,e,eT,eS,l⟩
 ·subst eT;obtain ⟨z,hd,ag,rel,bD⟩:=As C.bX e;refine wpAny_in_of (Ay bL) hd bD.mapOf ?_;rw [<-(rel.val k).Gq,<-l];exact h _ (C.tok _)
 ·subst eT;cases (show u=Value.ref b from bL);obtain ⟨z,hd,xs,rel,bD⟩:=Au C.bX e;refine wpAny_in_heap (Fb bM) (AI C.bX eS) hd bD ?_;have q:=(rel.val k).Gq;rw [Option.isSome_map] at q;rw [<-q,<-l];exact h _ (C.tok _)
theorem LX {da:fy} (C:Inv X pins σ H s) (kx:wh (H a)) (aF:Heap.SameBut a s.heap h') (he : ∃ q,h'.get? a=some q) (new:fw X.prog X.w (upd H a da) h' a da) :
  Inv X pins σ (upd H a da) { s with heap:=h',toks:=t' } :=
 C.write (x:=a) (e:=a) kx (.inl rfl) (λ b q af z=>(aF.2 b af).trans z) he new
theorem WN {P:Program} {aU:List (Key×V)} {ag:List (Key×Value)} (z:aU.length<=sizeLine) (hd:(a == sysModules)=false) (rel:h9 aU ag) (bD:h'.DictOf (lN P w) a ag) :
  fw P w H' h' a (.gM aU):=⟨z,hd,ag,rel,bD⟩
theorem aaO {Q:Unit->Shared->Prop} (bM:A.units+1<cLine) (C:Inv X pins σ H s) (g:z9 H a y v H') (bL:RelV y u) (cM:RelV v r) (h : ∀ s',Inv X pins σ H' s'->Q () s') :
  wpAny (model X.prog X.w) A (setItem (.ref a) u r) Q E s:=by
 rcases g with ⟨aU,k,e,eT,l,rX⟩ | ⟨aU,k,b,e,eT,eS,l,rX⟩
 ·subst eT rX;obtain ⟨z,hd,ag,rel,bD⟩:=VW C.bX e;have aS:ag.length<=sizeLine:=by rw [<-rel.length];exact z
  have ar:(putK aU k v).length<=sizeLine:=by have:=G5 aU k v;omega
  refine wpAny_setItem_pairs (hsz:=aS) (Ay bL) bD λ h' zo aF=>h _ ?_
  have he : ∃ q,h'.get? a=some q:=let ⟨q,_,_,aK,_⟩:=zo;⟨q,aK⟩
  exact LX C (by rw [e];exact True.intro) aF he (WN ar hd (rel.put k cM) zo)
 ·subst eT rX;cases (show u=Value.ref b from bL);obtain ⟨z,hd,xs,rel,bD⟩:=VX C.bX e;have aS:xs.length<=sizeLine:=by rw [<-Paired.length rel];exact z
  have ar:(putK aU k v).length<=sizeLine:=by have:=G5 aU k v;omega
  refine wpAny_setItem_heap (hsz:=aS) (Fb bM) (AI C.bX eS) bD λ h' zo aF=>h _ ?_
  obtain ⟨q,es,e7,aK,ah,aD,aL,_,cp⟩:=zo;refine LX C (by rw [e];exact True.intro) aF ⟨q,aK⟩ ⟨ar,hd,_,(rel.put k eS cM).keeps λ c ys lW=>?_,q,es,e7,aK,ah,aD,aL,cp⟩;rw [bw (gY lW e (λ z=>nomatch z))];exact lW
end
noncomputable def J9 (i:Expr):Prop := ∀ eO d4,subscripted i false eO d4=operate [eO,d4] (getItem eO d4)
theorem Y4 {E:bY} {env:Env} {value slice:Expr} {pos:Pos} {T id:String} {Q:bY}
  (ar:typeLookup (.type T) "__getitem__" = pure (some (.builtin id))) (aF:J9 slice)
  (h:wpAny (model prog w) A (eval value env) (λ o s₁=>wpAny (model prog w) A (eval slice env) (λ i s₂=>s₂.TypeIs o T/\wpAny (model prog w) A (getItem o i) Q E s₂) E s₁) E s) :
  wpAny (model prog w) A (eval (.Subscript value slice pos) env) Q E s:=by
 refine Subscript_ (mv h (λ o s₁ h₁=>mv h₁ (λ i s₂ h₂=>?_) λ _ _ x=>x) λ _ _ x=>x);obtain ⟨ck,h₂⟩:=h₂;unfold subscriptTail;refine aI ?_;rw [getitemInPython_of_ne ck.not_modules];refine aI (AE ck ar ?_);have fin:wpAny (model prog w) A (subscripted slice false o i) (λ r s₃=>wpAny (model prog w) A (letTemporaryGo value o r>>=λ _=>pure r) Q E s₃) E s₂:=by
  rw [aF o i];exact wpAny_operating (mv h₂ (λ r s₃ h₃=>aI (wpAny_letTemporaryGo (b2 h₃))) λ _ _ x=>x)
 first
  | exact b2 (aI fin)
  | exact aI (b2 (aI fin))
  | exact aI fin
theorem acy {X:a7} {o:cq} (C:Inv X pins σ H s) (g:q7 H a y o):s.TypeIs (.ref a) "dict" := by
 rcases g with ⟨aU,k,e,_,_⟩ | ⟨aU,k,b,e,_,_,_⟩
 ·obtain ⟨_,_,ag,_,bD⟩:=As C.bX e;exact bD.typeIs
 ·obtain ⟨_,_,xs,_,bD⟩:=Au C.bX e;exact bD.typeIs
theorem Zt {P:Program} (h:Heap) (af:sysModules<h.objs.size):fw P w H (h.push { cls:=.type "dict", data:=.dict #[] }) h.objs.size (.f5 []) :=
 ⟨fk _,beq_eq_false_iff_ne.mpr (nt (d1 af)),[],.nil,_,#[],0,dI _ rfl,⟨rfl,rfl,rfl⟩,rfl,rfl,List.nodup_nil⟩
noncomputable def XM:TE:=λ _ H Q => ∀ p,H p=none->Q (.ref p) (upd H p (.f5 []))
section
variable {X:a7} {pos:Pos}
theorem ZW:cG X (.Dict [] [] pos) XM:=λ pins s σ H Q C h =>
 wpAny_Dict_empty ⟨.ref s.heap.objs.size,_,C.laid (a:=s.heap.objs.size) (o:=.f5 []) (t':=s.toks) (λ _ _ q=>bW _ q) (br _) (Zt s.heap C.big),rfl,h _ (C.bX.fresh (br _))⟩
end
theorem yw {X:a7}:jP X st LG:=⟨Z6⟩
noncomputable def r8 (a:Addr):hB :=
 ⟨λ i H => ∃ xs x,H a=some (.lst xs)/\xs[i]?=some x,
 λ i H v H' => ∃ p,H p=none/\v=.ref p /\ ∃ x,H'=upd H p (.tup [.int (i:Int),x]) /\ ∀ xs,H a=some (.lst xs)->xs[i]?=some x,
 λ i H => ∃ xs,H a=some (.lst xs)/\xs.length<=i⟩
theorem abE {P:Program} {a_:Expr} (fb:ju a_=true) {e:Addr} (dD:e≠it) :
  Turn P w K B1 a_ (r8 a) [e,it] e (λ i h=>(∃ old,IsEnum h e it (i:Int) old)/\h.IsListIter it a i) where
 mem:=d2
 obj:=λ i h st c aj=>by
  obtain ⟨⟨old,I⟩,⟨jx,aL,_,rW⟩⟩:=st;have j9 : ∀ {o:Obj} {ag:cn},o.data=.fields ag -> ∀ v,o.data≠.cell v:=λ e v q=>by rw [e] at q;cases q
  simp only [c8,gg,gh] at aj;rcases aj with rfl | rfl
  ·exact ⟨_,I,j9 rfl⟩
  ·exact ⟨_,aL,j9 rW⟩
 keep:=λ i h h' st k=>by
  obtain ⟨⟨old,I⟩,⟨jx,aL,gn⟩⟩:=st;exact ⟨⟨old,k _ .zs _ I⟩,⟨jx,k _ .zs _ aL,gn⟩⟩
 item:=by
  intro X b8 hw dp j4 aj i pins s σ H E C hf st aR;subst b8 hw dp;obtain ⟨⟨old,I⟩,aL⟩:=st;obtain ⟨xs,x,b3,ae⟩:=aR;obtain ⟨z,its,n,cM,hlen,cH⟩:=C.ke b3;obtain ⟨iK,mZ,pO⟩:=cM.get ae;refine wpAny_pyNext_enum_item I aL (show s.heap.IsList a its.toArray from ⟨_,cH,rfl,n,rfl⟩) (x:=iK) (by simpa using mZ) dD λ g d7 ef fz gK d8=>?_
  refine ⟨_,rfl,?_⟩;have elt:e<s.heap.objs.size:=cb I;cases a_ with
  | Tuple es df pp =>
   refine Fc d7 λ g' fg eg=>?_
   have new:g'.get? s.heap.objs.size=some { cls:=.type "tuple", data:=.seq #[.int i s.toks,iK] }:=eg.extBut _ _ (hz elt) fz;have bg:Inv X pins σ (upd H s.heap.objs.size (.tup [.int (i:Int),x])) { s with heap:=g',toks:=s.toks+1 }:=by
    refine C.yB (t':=s.toks+1) (L:=[e,it]) (λ c o c5 b1=>?_) hf (br _) ⟨by show 2<=sizeLine;decide,[.int i s.toks,iK],.cons ⟨_,rfl⟩ (.cons pO .nil),⟨_,new,rfl,⟨0,rfl⟩,rfl⟩⟩;simp only [c8,gg,gh,not_or] at c5;exact eg.extBut c o c5.1 (d8 c o c5.1 c5.2 b1)
   refine ⟨.ref s.heap.objs.size,_,bg,rfl,⟨_,C.fresh,rfl,x,rfl,λ z5 ba=>?_⟩,⟨⟨iK,?_⟩,ef.extBut eg.extBut dD.symm⟩,λ c dH=>?_⟩
   ·rw [b3] at ba;cases ba;exact ae
   ·rw [show ((i+1:Nat):Int)=(i:Int)+1 by omega];exact fg
   ·obtain ⟨o,b1⟩ : ∃ o,s.heap.get? c=some o:=by
     simp only [c8,gg,gh] at dH;rcases dH with rfl | rfl
     ·exact ⟨_,I⟩
     ·obtain ⟨jx,f6,_⟩:=aL;exact ⟨_,f6⟩
    rw [bw (d1 (cb b1))];exact (hf c dH).1
  | _=>exact absurd (show false=true from fb) fc
 done:=by
  intro X b8 hw dp j4 aj i pins s σ H E C hf st aR;subst b8 hw dp;obtain ⟨⟨old,I⟩,aL⟩:=st;obtain ⟨xs,b3,ar⟩:=aR;obtain ⟨z,its,n,cM,hlen,cH⟩:=C.ke b3;refine gu.Zu (C.j3 aj) I aL (show s.heap.IsList a its.toArray from ⟨_,cH,rfl,n,rfl⟩) (by simp;omega) λ g up=>⟨rfl,?_⟩
  refine C.ym (t':=s.toks) (L:=[e,it]) (λ c o c5 b1=>?_) hf;simp only [c8,gg,gh,not_or] at c5;exact up c o c5.2 b1
 self:=λ _ _ _ _ _ st h=>by
  obtain ⟨⟨old,I⟩,_⟩:=st;exact u5 I h
section
variable {X:a7} {a_:Expr}
noncomputable def KX (bq:dh):TI:=λ σ H R=>bq σ H λ ag H1 => ∃ a xs,ag=[.ref a]/\H1 a=some (.lst xs)/\R (r8 a) H1
theorem YA {bq:dh} {p pos:Pos} (fb:ju a_=true) (aR:d6 X "enumerate") (hm:X.ax "enumerate" = none) (au:hS X [aJ] bq) (aF:starEach [aJ] X.env=[(false,eval aJ X.env)]:=by rfl)
  (af:bootBuiltins "enumerate" = some (.type "enumerate"):=by decide +kernel):jO X a_ (.Call (.Name "enumerate" p) [aJ] [] pos) (KX bq):=by
 intro pins s σ H R C h;refine Call_ (lE C aR hm af (oT (bQ (au pos pins s σ H _ C h) λ us s1 ⟨ag,H1,bg,bV,ba⟩=>?_) aF rfl));obtain ⟨a,xs,e,b3,q⟩:=ba;subst e;obtain ⟨fR,rfl,dw⟩:=vals1 bV;cases dw;obtain ⟨z,its,n,cM,hlen,cH⟩:=bg.ke b3;refine call_enumerate_1 cH λ g fi eV kD up=>?_
 refine u5 fi ?_;have dd:Inv X pins σ H1 { s1 with heap:=g }:=bg.kept (t':=s1.toks) up;refine ⟨_,[s1.heap.objs.size+1,s1.heap.objs.size],_,_,H1,rfl,dd,abE fb (hz (nr _)),⟨⟨_,fi⟩,eV⟩,λ c aj=>?_,q⟩;have big:s1.heap.objs.size<=c:=by
  simp only [c8,gg,gh] at aj;rcases aj with rfl | rfl
  ·exact mC _ _
  ·exact br _
 exact bg.pY big (bg.bX.fresh big)
theorem vi {bq:dh} {p pos:Pos} (fb:ju a_=true) (aR:d6 X "enumerate") (hm:X.ax "enumerate" = none) (au:gJ X [aJ] bq) (aF:starEach [aJ] X.env=[(false,eval aJ X.env)]:=by rfl)
  (af:bootBuiltins "enumerate" = some (.type "enumerate"):=by decide +kernel):iC X a_ (.Call (.Name "enumerate" p) [aJ] [] pos) (KX bq):=⟨YA fb aR hm au.o aF af⟩
end
theorem Be {tb:eK} {D:Ends} (Pv:Nat->St->aA->Prop) (h0:Pv 0 σ H) (ar : ∀ i σ H,i<=xs.length->Pv i σ H->H a=some (.lst xs))
  (aF : ∀ i x p σ H,xs[i]?=some x->H p=none->Pv i σ H->g (.ref p) σ (upd H p (.tup [.int (i:Int),x])) λ σ2 ay=>tb { D with bO:=Pv (i+1),cO:=Pv (i+1),eL:=D.bO } σ2 ay) (hd : ∀ σ H,Pv xs.length σ H->D.bO σ H) :
  ∃ W:Nat->Nat->St->aA->Prop,(∃ m,W 0 m σ H) /\ ∀ i m σ H,W i m σ H ->
   ((r8 a).stop i H/\D.bO σ H)\/((r8 a).go i H /\ ∃ N:St->aA->Prop,(∀ σ' H',N σ' H' -> ∃ cR,cR<m/\W (i+1) cR σ' H') /\ ∀ x H',(r8 a).iR i H x H'->g x σ H' λ σ2 ay=>tb { D with bO:=N,cO:=N,eL:=D.bO } σ2 ay):=by
 refine ⟨λ i m σ H=>m=xs.length - i/\i<=xs.length/\Pv i σ H,⟨_,rfl,fk _,h0⟩,?_⟩;rintro i m σ H ⟨rfl,aq,p⟩;have b3:=ar i σ H aq p;by_cases dg:i<xs.length
 ·refine .inr ⟨⟨xs,xs[i],b3,by simp [dg]⟩,Pv (i+1),λ σ' H' dV=>⟨xs.length - (i+1),.ab,rfl,dg,dV⟩,λ v H' jX=>?_⟩;obtain ⟨q,aK,rfl,x,rfl,je⟩:=jX;exact aF i x q σ H (je xs b3) aK p
 ·have e:i=xs.length:=by omega
  refine .inl ⟨⟨xs,b3,.ab⟩,hd σ H (e ▸ p)⟩
section
variable {X:a7}
theorem Ye {prog:Program} {w:World} {E:bY} {ag:List Value} {Q:bY} (de:A.handled=none)
  (ar:s.heap.IsTuple l ag.toArray) (aq:IntsAre ag ns) (dD:0<ns.length)
  (h : ∀ h' M (t:Tok) bE,(∀ b o,s.heap.get? b=some o->h'.get? b=some o)->M∈ns->(∀ a,a∈ns->M<=a)->Q (.int M t) { s with heap:=h',toks:=bE }) :
  wpAny (model prog w) A (call (.builtin "min") [.ref l]) Q E s:=by
 obtain ⟨xs,e⟩:=aq.allInts.items;have l_:ns=xs.toList.map (·.1):=by rw [<-aq.numsOf,<-nums_intItems,<-e]
 have hsz:0<xs.size:=by
  have aD:=dD;rw [l_,a6,mw] at aD;exact aD
 rw [e] at ar;have dg:l<s.heap.objs.size:=by obtain ⟨_,e,_⟩:=ar;exact cb e
 refine call_min_walk (nq ar ?_);refine ⟨_,_,_,_,_,_,_,rfl,Walks.tuple (A:=A.in1) de _ l (d1 dg) (intItems xs),⟨⟨_,dI _ rfl,rfl,rfl⟩,ar.push _⟩,λ c aj=>?_,by simpa [intItems] using hsz,CmpOf.ints_lt (numAt xs) (λ _ _=>xV),λ v h' bE b8 aE=>?_⟩
 ·show c<(s.heap.push _).objs.size;rw [fX];rcases c8.mp aj with rfl | aj
  ·exact nr _
  ·rcases c8.mp aj with rfl | aj
   ·exact oS dg
   ·cases aj
 ·have bl:(intItems xs)[argBest (λ i j=>decide (numAt xs i<numAt xs j)) (xs.size - 1)]?=some v:=by simpa [intItems] using b8
  obtain ⟨t,rfl⟩:=xV bl;obtain ⟨I,ah⟩:=argBest_lt (numAt xs) (xs.size - 1);refine h _ _ t bE (λ b o eS=>aE b o (λ hm=>?_) (bW _ eS)) ?_ λ a au=>?_
  ·rcases c8.mp hm with aJ | hm
   ·exact absurd (aJ ▸ cb eS) (iW _)
   ·cases hm
  ·rw [l_,numAt_eq];exact getD_mem (by rw [a6,mw];omega)
  ·rw [l_] at au;obtain ⟨j,aY,rfl⟩:=mem_getD au;rw [a6,mw] at aY;rw [<-numAt_eq];exact ah j .ab
theorem aaD (aj:X.calm=true):fO X (.builtin "min") (λ xs H Q => ∃ (p:Addr) (ns:aw),xs=[.ref p]/\aP X.K H p (ns.map V.int)/\ns≠[] /\ ∀ M,M∈ns->(∀ a,a∈ns->M<=a)->Q (.int M) H):=by
 intro pins s σ H xs us Q C r h;obtain ⟨p,ns,rfl,aK,dD,q⟩:=h;obtain ⟨u,rfl,bA⟩:=vals1 r;cases bA;obtain ⟨its,bU,b5,aS⟩:=C.tuple aK;refine Ye (C.ok.hd.1 aj) b5 (intsAre_of bU) (by cases ns with | nil=>exact absurd rfl dD | cons=>simp) λ h' M t bE k hT lZ=>?_
 exact ⟨.int M,H,C.kept k,⟨_,rfl⟩,q M hT lZ⟩
theorem NM (aj:X.calm=true):fO X (.builtin "sum") (λ xs H Q => ∃ (p:Addr) (ns:aw),xs=[.ref p]/\aQ X.K H p (ns.map V.int)/\Q (.int ns.sum) H):=by
 intro pins s σ H xs us Q C r h;obtain ⟨p,ns,rfl,aK,q⟩:=h;obtain ⟨u,rfl,bA⟩:=vals1 r;cases bA;obtain ⟨its,bU,b5,aS⟩:=C.list aK;have ar:=b5.isList;have aq:=intsAre_of bU;obtain ⟨xs,e⟩:=aq.allInts.items;have l_:ns=xs.toList.map (·.1):=by rw [<-aq.numsOf,<-nums_intItems,<-e]
 rw [e] at ar;refine sum_intListG (C.ok.hd.1 aj) ar λ h' bE t' aE=>?_
 rw [preSum_eq,fG .zs,<-l_];exact ⟨.int ns.sum,H,C.kept aE,⟨_,rfl⟩,q⟩
end
noncomputable def uD (H:aA) (x:V) (c:aw):Prop := ∃ a,x=.ref a/\H a=some (.tup (c.map V.int))
noncomputable def dX (H:aA) (xs:bB) (cs:aZ):Prop:=xs.length=cs.length /\ ∀ (i:Nat) (x:V),xs[i]?=some x -> ∃ c,cs[i]?=some c/\uD H x c
theorem By : ∀ {ns ms:aw},ns.map V.int=ms.map V.int->ns=ms
 | [],[],_=>rfl
 | [],_::_,h=>by cases h
 | _::_,[],h=>by cases h
 | n::ns,m::ms,h=>by
  injection h with I ah;injection I with I;rw [I,By ah]
section
variable {X:a7}
theorem Pm : ∀ (ns ms:aw),((List.range (min ns.length ms.length)).all (λ j=>ns.getD j 0 == ms.getD j 0)&&ns.length == ms.length)=decide (ns=ms):=by
 intro ns ms;by_cases h:ns=ms
 ·subst h;simp
 ·rw [ee h];by_cases ar:ns.length=ms.length
  ·rw [Bool.and_eq_false_iff];refine .inl ?_;rw [Bool.eq_false_iff];intro z;rw [e5] at z;refine h (List.ext_getElem ar λ i I ah=>?_);have:=z i (fH.mpr .ab);simpa [I,ah] using this
  ·rw [Bool.and_eq_false_iff];exact .inr (by simpa using ar)
theorem Zv {b:Addr} {ag:List Value} {ms:aw} (ar:s.heap.IsTuple l us.toArray) (af:s.heap.IsTuple b ag.toArray) (aq:IntsAre us ns) (aY:IntsAre ag ms) (bM:A.units<cLine):SeqAt.RcAt A s (.ref l) (.ref b) (decide (ns=ms)):=by
 have aJ:=aq.length;have aN:=aY.length;rw [<-Pm];have:=SeqAt.RcAt.tuples (A:=A) (s:=s) (e:=λ j=>ns.getD j 0 == ms.getD j 0) ar af bM λ j I ah=>?_
 ·rw [eu,eu,aJ,aN] at this;exact this
 ·obtain ⟨t,rY⟩:=aq.int_at j us.toArray[j] .zs;obtain ⟨t',CP⟩:=aY.int_at j ag.toArray[j] .zs;rw [rY,CP];exact EN _ _ _ _
theorem E1 (bM:X.A.units+1<cLine):dt X (compareOp .Eq) (λ x y H Q => ∃ (a b:Addr) (ns ms:aw),x=.ref a/\y=.ref b/\H a=some (.tup (ns.map V.int))/\H b=some (.tup (ms.map V.int))/\Q (.aH (decide (ns=ms))) H):=by
 intro pins s σ H x y v u Q C bA bL h;obtain ⟨a,b,ns,ms,rfl,rfl,au,af,q⟩:=h;cases bA;cases bL;obtain ⟨its,bV,p1,_⟩:=C.tuple (aP.of au);obtain ⟨lA,cu,cS,_⟩:=C.tuple (aP.of af);exact Zv p1 cS (intsAre_of bV) (intsAre_of cu) (uQ bM) X.prog X.w _ _ ⟨.aH _,H,C,rfl,q⟩
end
open PySem PySem.Spec PyProof.Rows
noncomputable abbrev IA:List Value:=[.type "ValueError", .type "Exception", .type "BaseException", .type "object"]
structure Under (K:dc) (a9 F:Addr):Prop where
 is:PySem.W.excIn K a9 IA "ValueError.__new__" = true
 afi:PySem.W.mroIn K a9 (.ref F)=some true
 ne:a9≠F
end bC
namespace PySem.W
open PySem PySem.Spec PySem.Calls PyProof.Rows
section
variable {E:bY} {K:Frag} {x a9:Addr} {aeM:Obj} {gO:Option Obj}
structure UG (K:Frag) (a9:Addr):Prop where
 cls:(clsIn K a9).isSome=true
 ga:findIn K (.ref a9) "__getattribute__" = some (some (.builtin "BaseException.__getattribute__"))
 aeI:findIn K (.ref a9) "__getattr__" = some none
 at_:findIn K (.ref a9) "__class__" = some (some (.builtin "object.__class__"))
 get:specialIn K (.builtin "object.__class__") "__get__" = some (some (.builtin "getset_descriptor.__get__"))
 bE:takesIn K (.builtin "object.__class__")=some true
 da:mroIn K a9 (.type "object")=some true
 be:mroIn K a9 (.type "BaseException")=some true
end
end PySem.W
namespace bC
open PySem PySem.Spec PyProof.Rows
open PySem PySem.Spec PySem.SeqAt PyProof.Rows
section
variable {b:Addr} {a4:TE} {Q:bN}
theorem Zk (az:min xs.length ys.length<=sizeLine) (Pv:Nat->St->aA->bB->Prop) (h0:Pv 0 (pick js σ) (upd H1 D (.lst [])) [])
  (ar : ∀ i σ' H' zs,H' D=some (.lst zs)->Pv i σ' H' zs->aP K H' a xs/\aP K H' b ys)
  (aF : ∀ i x y p σ' H' zs (R:St->V->aA->Prop),xs[i]?=some x->ys[i]?=some y->H' p=none->H' D=some (.lst zs)->zs.length=i->Pv i σ' H' zs->(∀ σ2 z aO,aO D=some (.lst zs)->Pv (i+1) σ2 (upd aO D (.lst (zs++[z]))) (zs++[z])->R σ2 z aO) ->
   g (.ref p) σ' (upd H' p (.tup [x,y])) λ σ2 aM=>a4 σ2 aM λ z aO=>R σ2 z aO)
  (dk : ∀ σ' H' zs,H' D=some (.lst zs)->zs.length=min xs.length ys.length->Pv (min xs.length ys.length) σ' H' zs->Q (.ref D) H'):gF (wg K a b) D js g iy a4 σ H1 Q:=by
 refine tH az Pv h0 (λ i σ' H' zs aq aT p=>?_) (λ σ' H' zs aT gv c=>⟨?_,dk σ' H' zs aT gv c⟩) λ i σ' H' zs x ay R aq aT aS p ae k=>?_
 ·obtain ⟨b3,dv⟩:=ar i σ' H' zs aT p;have I:i<xs.length:=by omega
  have ah:i<ys.length:=by omega
  exact ⟨xs,ys,xs[i],ys[i],b3,dv,by simp [I],by simp [ah]⟩
 ·obtain ⟨b3,dv⟩:=ar _ σ' H' zs aT c;exact ⟨xs,ys,b3,dv,.ab⟩
 ·obtain ⟨b3,dv⟩:=ar i σ' H' zs aT p;obtain ⟨q,aK,rfl,kC,oa,rfl,je⟩:=ae;obtain ⟨ex,eT⟩:=je xs ys b3 dv;exact aF i kC oa q σ' H' zs R ex eT aK aT aS p k
end
theorem PG {a4:TE} {Q:bN} {o:cq} {f:V->V} (ao:pick js σ=o::σ0) (az:xs.length<=sizeLine) (aT:H1 D=none) (c1:aP K H1 a xs)
  (aF : ∀ (x:V) (H':aA) (R:bN),aB H1 H'->x∈xs->R (f x) H'->a4 (some x::σ0) H' R) (q:Q (.ref D) (upd H1 D (.lst (xs.map f)))):gF (od K a) D js (e4 0) iy a4 σ H1 Q:=by
 refine tA (xs:=xs) az (λ i σ' H' ys=>(∃ u,σ'=u::σ0)/\ys=(xs.take i).map f/\H'=upd H1 D (.lst ys)) ⟨⟨o,ao⟩,rfl,rfl⟩ ?_ ?_ ?_
 ·rintro i σ' H' ys _ _ ⟨_,rfl,rfl⟩;exact c1.Bc aT
 ·rintro i x σ' H' ys R ae _ _ ⟨⟨u,rfl⟩,rfl,rfl⟩ k;refine aF x _ _ (du.aB.new aT) (cf ae) (k _ _ _ bK ⟨⟨_,rfl⟩,(Hy ae).symm,FQ⟩)
 ·rintro σ' H' ys _ _ ⟨_,rfl,rfl⟩;rw [kn];exact q
theorem i1 {X:a7} {es:List Expr} {k:Nat} {pos:Pos} {t:mX} (dp:X.K=K) (aj:X.warm=true) (h:wk X es t) (az:(assignEach es X.env).length=n:=by rfl) (dk:(assignEach es X.env).findIdx? (·.1)=none:=by rfl):la X (.Tuple es k pos) (nf K n t):=by
 subst dp;exact km aj h az dk
end bC
namespace PySem.W
theorem Ox {K:Frag} {a9:Addr} {b:Value} {r:Bool} (h:mroIn K a9 b=some r):(clsIn K a9).isSome=true:=by
 unfold mroIn at h;obtain ⟨cd,a,_⟩:=u6.mp h;rw [a];rfl
theorem aa0 {K:Frag} {a9:Addr} (ty:typeIn K (.ref D)=some (.type "type")) (mo:mroIn K D (.type "object")=some true) (m:mroIn K a9 (.ref D)=some false) (n:a9≠D):kitOne K (.ref a9) (.ref D)=some false:=by
 unfold kitOne;rw [if_neg (λ z=>n (by have:=beq_iff_eq.mp z;injection this))];unfold kitCls;show (if ((clsIn K D).isSome&&typeIn K (.ref D) == some (.type "type"))=true then subIn K (.ref a9) (.ref D) else none)=_;rw [Ox mo,ty];exact m
theorem X6 {K:Frag} {a9:Addr} (m:mroIn K a9 (.type "ValueError")=some true):kitOne K (.ref a9) (.type "ValueError")=some true:=by
 unfold kitOne;rw [if_neg (λ z=>by cases beq_iff_eq.mp z)];unfold kitCls;show (if kitMeta "ValueError" = true then subIn K (.ref a9) (.type "ValueError") else none)=_;rw [if_pos (by decide +kernel)];exact m
end PySem.W
namespace ft
noncomputable def oF (p:Nat):Nat->Nat->Nat
 | 0,_=>0
 | f+1,n=>if 2<=p/\1<=n/\n % p=0 then oF p f (n / p)+1 else 0
theorem NN (p:Nat) : ∀ f n:Nat,n<=f->oF p (f+1) n=oF p f n
 | 0,n,h=>by
  obtain rfl:n=0:=by omega
  exact if_neg (λ z=>by omega)
 | f+1,n,h=>by
  show (if 2<=p/\1<=n/\n % p=0 then oF p (f+1) (n / p)+1 else 0)=if 2<=p/\1<=n/\n % p=0 then oF p f (n / p)+1 else 0
  by_cases q:2<=p/\1<=n/\n % p=0
  ·rw [if_pos q,if_pos q,NN p f (n / p) (by have:=qi q.2.1 q.1;omega)]
  ·rw [if_neg q,if_neg q]
theorem Fm (p n:Nat) : ∀ k:Nat,oF p (n+k) n=oF p n n
 | 0=>rfl
 | k+1=>by rw [show n+(k+1)=(n+k)+1 from rfl,NN p (n+k) n .ab];exact Fm p n k
noncomputable def cnt (p:Nat) (n:Nat):Nat:=oF p n n
theorem LV (p n:Nat):cnt p n=if 2<=p/\1<=n/\n % p=0 then cnt p (n / p)+1 else 0:=by
 have e:cnt p n=oF p (n+1) n:=(Fm p n 1).symm;rw [e];show (if 2<=p/\1<=n/\n % p=0 then oF p n (n / p)+1 else 0)=_;by_cases q:2<=p/\1<=n/\n % p=0
 ·rw [if_pos q,if_pos q];have lt:=qi q.2.1 q.1;have:=Fm p (n / p) (n - n / p);rw [show n / p+(n - n / p)=n by omega] at this;rw [this];rfl
 ·rw [if_neg q,if_neg q]
theorem Fn {p:Nat} (ao:2<=p) (az:1<=n) (h:n % p=0):cnt p n=cnt p (n / p)+1:=by
 rw [LV p n,if_pos ⟨ao,az,h⟩]
theorem ye {p:Nat} (h:n % p≠0):cnt p n=0:=by
 rw [LV,if_neg λ z=>h z.2.2]
noncomputable def uL:bo->Nat->bo
 | [],_=>[]
 | p::ps,n=>cnt p n::uL ps (strip p n)
theorem yp {p:Nat} (ao:2<=p) : ∀ n:Nat,1<=n->n=p ^ cnt p n * strip p n:=by
 intro n
 induction n using Nat.strongRecOn with
 | _ n b0 =>
  intro az;by_cases h:n % p=0
  ·have I:=yD az h;have e:=b0 (n / p) (qi az ao) I;rw [Fn ao az h,yz ao az h,nF];have aN:n=p * (n / p):=(Nat.mul_div_cancel' (tk h)).symm
   calc n=p * (n / p):=aN
    _=p * (p ^ cnt p (n / p) * strip p (n / p)):=by rw [<-e]
    _=p ^ cnt p (n / p) * p * strip p (n / p):=by rw [<-ru,mA p]
  ·rw [ye h,tG h,ti,tj]
theorem EU {p:Nat} (ao:2<=p) : ∀ (e r:Nat),1<=r->r % p≠0->cnt p (p ^ e * r)=e
 | 0,r,_,h=>by rw [ti,tj,ye h]
 | e+1,r,av,h=>by
  have aJ:p ^ (e+1) * r=p * (p ^ e * r):=by rw [nF,mA (p ^ e) p,ru]
  have xA:1<=p ^ e * r:=Nat.mul_pos (u3 .ab) av;rw [aJ,Fn ao (Nat.mul_pos .ab xA) (Nat.mul_mod_right p _),Nat.mul_div_cancel_left _ .ab,EU ao e r av h]
theorem aaF {p q:Nat} (ao:2<=p) (aK:2<=q) (c:Nat.Coprime p q) (az:1<=n):cnt p (strip q n)=cnt p n:=by
 have aJ:=yp ao n az;have aN:=yp aK n az;have aF:=yA aK n az;have av:=yA ao n az;have qT:=Oa ao n az;have Qv:Nat.Coprime (p ^ cnt p n) (q ^ cnt q n):=Nat.Coprime.pow _ _ c;have hd:p ^ cnt p n∣strip q n:=by
  have:p ^ cnt p n∣q ^ cnt q n * strip q n:=by rw [<-aN];exact ⟨strip p n,aJ⟩
  exact Qv.dvd_of_dvd_mul_left this
 obtain ⟨r,dE⟩:=hd;have gc:1<=r:=by
  rcases nE r with z | z
  ·rw [z,Nat.mul_zero] at dE;omega
  ·exact z
 have Tc:r % p≠0:=λ z=>by
  obtain ⟨t,aW⟩:=tk z;have dT:n=p ^ cnt p n * (p * (t * q ^ cnt q n)):=by
   calc n=q ^ cnt q n * strip q n:=aN
    _=q ^ cnt q n * (p ^ cnt p n * (p * t)):=by rw [dE,aW]
    _=p ^ cnt p n * (p * (t * q ^ cnt q n)):=by
     rw [mA (q ^ cnt q n),ru,ru,mA t]
  have i4:p ^ cnt p n * strip p n=p ^ cnt p n * (p * (t * q ^ cnt q n)):=by rw [<-aJ];exact dT
  have qE:=Nat.eq_of_mul_eq_mul_left (u3 .ab) i4;rw [qE,Nat.mul_mod_right] at qT;exact qT rfl
 rw [dE,EU ao _ r gc Tc]
theorem NU : ∀ (ps:bo),(∀ p∈ps,2<=p)->ps.Pairwise Nat.Coprime -> ∀ n,1<=n->uL ps n=ps.map λ p=>cnt p n
 | [],_,_,_,_=>rfl
 | p::ps,h,aj,n,az=>by
  have ao:=h p d2;rw [x7] at aj;show cnt p n::uL ps (strip p n)=cnt p n::ps.map λ q=>cnt q n
  rw [NU ps (λ q aK=>h q (eQ _ aK)) aj.2 (strip p n) (yA ao n az)];congr 1;refine qj λ q aK=>?_
  exact aaF (h q (eQ _ aK)) ao (aj.1 q aK).symm az
theorem OX : ∀ (ps es:bo),(∀ p∈ps,2<=p)->ps.Pairwise Nat.Coprime->es.length=ps.length->uL ps (hQ ps es)=es
 | [],[],_,_,_=>rfl
 | [],_::_,_,_,h=>by cases h
 | _::_,[],_,_,h=>by cases h
 | p::ps,e::es,h,aj,ar=>by
  have ao:=h p d2;rw [x7] at aj;have aK : ∀ q∈ps,2<=q:=λ q aK=>h q (eQ _ aK)
  have av:=Br ps es aK;have Qu:Nat.Coprime p (hQ ps es):=Bn ps es aj.1;have nm:=PR ao Qu;show cnt p (p ^ e * hQ ps es)::uL ps (strip p (p ^ e * hQ ps es))=e::es;rw [EU ao e _ av nm,Ob ao av e,tG nm,OX ps es aK aj.2 (by simpa using ar)]
noncomputable def bH (n:Nat):bo:=dK.map λ p=>cnt p n
theorem acG (az:1<=n):bH n=uL dK n:=(NU dK nB yE n az).symm
theorem O6 {es:bo} (h:es.length=10):bH (prod es)=es:=by
 rw [acG (M9 es)];exact OX dK es nB yE h
noncomputable def chg (n d:Nat):aw:=List.zipWith (λ a b:Nat=>(a:Int) - (b:Int)) (bH n) (bH d)
theorem GJ (n d:Nat):(chg n d).length=10:=by simp [chg,bH,dK]
noncomputable def fe (c p:aw):Bool:=(c.zip p).all λ x=>decide (0<=x.2+x.1)
noncomputable def dm:aZ->aw->Option Nat
 | [],_=>none
 | c::r,p=>if fe c p=true then some 0 else (dm r p).map (· + 1)
noncomputable def c7 (p c:aw) (m:Int):aw:=List.zipWith (λ a b=>a+m * b) p c
noncomputable def nn (p:aw):Bool:=p.all λ x=>decide (0<=x)
theorem jM {p c:aw} {m:Int} (ao:p.length=10) (aj:c.length=10):(c7 p c m).length=10:=by simp [c7,ao,aj]
noncomputable def l5 (rows:aZ):Prop := ∀ c∈rows,c.length=10
theorem mG : ∀ {rows:aZ} {p:aw} {i:Nat},dm rows p=some i -> ∃ c,rows[i]?=some c/\fe c p=true/\i<rows.length
 | [],_,_,h=>by cases h
 | c::r,p,i,h=>by
  unfold dm at h;by_cases aj:fe c p=true
  ·rw [if_pos aj] at h;cases h;exact ⟨c,rfl,aj,.zs⟩
  ·rw [if_neg aj] at h;cases e:dm r p with
   | none=>rw [e] at h;cases h
   | some j =>
    rw [e] at h;have aY:j+1=i:=eA h;subst aY;obtain ⟨bG,I,ah,aD⟩:=mG e;exact ⟨bG,by simpa using I,ah,by simp;omega⟩
theorem A7 : ∀ (rows:aZ) (p:aw) (i:Nat),(∀ j,j<i -> ∀ c,rows[j]?=some c->fe c p=false)->(∀ c,rows[i]?=some c->fe c p=true)->i<rows.length->dm rows p=some i
 | [],_,_,_,_,h=>by simp at h
 | c::r,p,0,_,h,_=>by
  unfold dm;rw [if_pos (h c rfl)]
 | c::r,p,i+1,h,h',ar=>by
  have h0:=h 0 .ab c rfl;unfold dm;rw [h0,if_neg .aG,A7 r p i (λ j aY bG e=>h (j+1) .ab bG (by simpa using e)) (λ bG e=>h' bG (by simpa using e)) (by simpa using ar)];rfl
theorem Gp : ∀ (rows:aZ) (p:aw),(∀ (j:Nat) c,rows[j]?=some c->fe c p=false)->dm rows p=none
 | [],_,_=>rfl
 | c::r,p,h=>by
  unfold dm;rw [h 0 c rfl,if_neg .aG,Gp r p λ j bG e=>h (j+1) bG (by simpa using e)];rfl
noncomputable def ey (rows:aZ) (p:aw):Option aw:=(dm rows p).map λ i=>c7 p (rows.getD i []) 1
noncomputable def goN (rows:aZ):Nat->aw->Option aw
 | 0,p=>some p
 | k+1,p=>(goN rows k p).bind (ey rows)
theorem iZ {p:aw}:nn p=true ↔ ∀ x∈p,0<=x:=by simp [nn]
theorem vz {c p:aw}:fe c p=true ↔ ∀ (i:Nat) (a b:Int),c[i]?=some a->p[i]?=some b->0<=b+a:=by
 unfold fe;rw [e5];constructor
 ·intro h i a b I ah;have aS:(c.zip p)[i]?=some (a,b):=by rw [List.getElem?_zip_eq_some];exact ⟨I,ah⟩
  exact fY (h _ (cf aS))
 ·intro h x ae;obtain ⟨i,aq⟩:=gk ae;obtain ⟨a,b⟩:=x;rw [List.getElem?_zip_eq_some] at aq;exact cX (h i a b aq.1 aq.2)
theorem Yi {c p:aw} (h:fe c p=true):nn (c7 p c 1)=true:=by
 rw [iZ];intro x ae;obtain ⟨i,aq⟩:=gk ae;unfold c7 at aq;rw [gH] at aq;obtain ⟨b,a,I,ah,rfl⟩:=aq;have:=vz.mp h i a b ah I;omega
theorem vg {rows:aZ} {i:Nat} {c:aw} (h:rows[i]?=some c):rows.getD i []=c:=by
 rw [bk,h];rfl
theorem u0 {rows:aZ} {p:aw} {i:Nat} {c:aw} (h:dm rows p=some i) (aj:rows[i]?=some c):ey rows p=some (c7 p c 1):=by
 unfold ey;rw [h,<-vg aj];rfl
theorem aam {rows:aZ} {p:aw} (h:dm rows p=none):ey rows p=none:=by
 unfold ey;rw [h];rfl
theorem vt {rows:aZ} {p q:aw} (h:ey rows p=some q) : ∃ i c,dm rows p=some i/\rows[i]?=some c/\fe c p=true/\q=c7 p c 1:=by
 unfold ey at h;cases e:dm rows p with
 | none=>rw [e] at h;cases h
 | some i =>
  rw [e] at h;obtain ⟨c,I,ah,_⟩:=mG e;have aD:c7 p (rows.getD i []) 1=q:=eA h;rw [vg I] at aD;exact ⟨i,c,rfl,I,ah,aD.symm⟩
theorem XI {rows:aZ} {p q:aw} (av:l5 rows) (ao:p.length=10) (h:ey rows p=some q):q.length=10/\nn q=true:=by
 obtain ⟨i,c,_,ah,aD,rfl⟩:=vt h;exact ⟨jM ao (av c (cf ah)),Yi aD⟩
theorem ny {rows:aZ} (av:l5 rows) {p:aw} (ao:p.length=10) (az:nn p=true) : ∀ {k:Nat} {q:aw},goN rows k p=some q->q.length=10/\nn q=true
 | 0,q,h=>by cases h;exact ⟨ao,az⟩
 | k+1,q,h=>by
  obtain ⟨r,I,ah⟩:=u6.mp h;exact XI av (ny av ao az I).1 ah
noncomputable def ep (rows:aZ):Nat->aw->bo
 | 0,_=>[]
 | k+1,p=>match dm rows p with
  | none=>[]
  | some i=>i::ep rows k (c7 p (rows.getD i []) 1)
theorem vu {rows:aZ} {p:aw} (h:dm rows p=none) : ∀ k,ep rows k p=[]
 | 0=>rfl
 | k+1=>by simp only [ep,h]
theorem vv {rows:aZ} {p c:aw} {i:Nat} (h:dm rows p=some i) (aj:rows[i]?=some c) (k:Nat):ep rows (k+1) p=i::ep rows k (c7 p c 1):=by
 simp only [ep,h];rw [vg aj]
theorem vk (rows:aZ) : ∀ (k:Nat) (p:aw),(ep rows k p).length<=k
 | 0,_=>br _
 | k+1,p=>by
  cases h:dm rows p with
  | none=>rw [vu h];simp
  | some i =>
   obtain ⟨c,aj,_,_⟩:=mG h;rw [vv h aj];have:=vk rows k (c7 p c 1);simp;omega
theorem Bq (rows:aZ) : ∀ (k:Nat) (p:aw),goN rows (k+1) p=(ey rows p).bind (goN rows k)
 | 0,p=>by
  show ey rows p=(ey rows p).bind λ q=>some q
  cases ey rows p<;>rfl
 | k+1,p=>by
  show (goN rows (k+1) p).bind (ey rows)=(ey rows p).bind λ q=>(goN rows k q).bind (ey rows)
  rw [Bq rows k p];cases ey rows p<;>rfl
theorem E7 (rows:aZ) : ∀ (k:Nat) (p:aw),∃ q,goN rows (ep rows k p).length p=some q
 | 0,p=>⟨p,rfl⟩
 | k+1,p=>by
  cases h:dm rows p with
  | none=>exact ⟨p,by rw [vu h];rfl⟩
  | some i =>
   obtain ⟨c,aj,_,_⟩:=mG h;obtain ⟨q,aK⟩:=E7 rows k (c7 p c 1);refine ⟨q,?_⟩;rw [vv h aj,mB,Bq,u0 h aj];exact aK
theorem Zj {i j p:Nat} (h:nK i j=true) (ao:p∈dK):cnt p i=0\/cnt p j=0:=by
 have:=O1.mp h p ao;by_cases I:p∣i
 ·refine .inr (ye λ z=>this ⟨I,tk z⟩)
 ·exact .inl (ye λ z=>I (tk z))
noncomputable def bu (l:bo):aw:=l.map λ n:Nat=>(n:Int)
theorem Oi {i j:Nat} {p:aw} (h:nK i j=true) (az:nn p=true):nn (List.zipWith (λ x y:Int=>x - y) p (bu (bH j)))=fe (chg i j) p:=by
 have e : ∀ (k:Nat) (a b:Int),(chg i j)[k]?=some a->p[k]?=some b -> ∃ c:Int,(bu (bH j))[k]?=some c/\(0<=b - c ↔ 0<=b+a):=by
  intro k a b I ah;unfold chg at I;rw [gH] at I;obtain ⟨x,y,ae,a8,rfl⟩:=I;refine ⟨(y:Int),by unfold bu;rw [c9,a8];rfl,?_⟩;unfold bH at ae a8;rw [c9] at ae a8;cases ao:dK[k]? with
  | none=>rw [ao] at ae;cases ae
  | some q =>
   rw [ao] at ae a8;have ex:cnt q i=x:=eA ae;have eT:cnt q j=y:=eA a8;have aeG:=iZ.mp az b (cf ah);rcases Zj h (cf ao) with z | z
   ·rw [z] at ex;omega
   ·rw [z] at eT;omega
 rw [rj,iZ,vz];constructor
 ·intro h k a b I ah;obtain ⟨c,aj,iff⟩:=e k a b I ah;refine iff.mp (h _ ?_);have:(List.zipWith (λ x y:Int=>x - y) p (bu (bH j)))[k]?=some (b - c):=by rw [gH];exact ⟨b,c,ah,aj,rfl⟩
  exact cf this
 ·intro h x ae;obtain ⟨k,aE⟩:=gk ae;rw [gH] at aE;obtain ⟨b,c,af,aj,rfl⟩:=aE;have Kg:k<(bu (bH j)).length:=(cL.mp aj).1;have gC:k<(chg i j).length:=by rw [GJ];simpa [bu,bH,dK] using Kg
  obtain ⟨bG,dW,iff⟩:=e k _ b (bz gC) af;rw [aj] at dW;cases dW;exact iff.mpr (h k _ b (bz gC) af)
end ft
namespace bC
open PySem PyProof.Rows
theorem KL:bootBuiltins "sum" = some (.builtin "sum"):=by decide +kernel
theorem VT:bootBuiltins "abs" = some (.builtin "abs"):=by decide +kernel
end bC
namespace du
open PySem bC ft
noncomputable abbrev tupI (c:aw):fy:=.tup (c.map V.int)
theorem _root_.bC.uD.same {x:V} {c:aw} (h:uD H x c) (s:aB H H'):uD H' x c:=by
 obtain ⟨a,e,au⟩:=h;exact ⟨a,e,s _ _ au⟩
theorem _root_.bC.dX.same (h:dX H xs cs) (s:aB H H'):dX H' xs cs:=⟨h.1,λ i x e=>by
 obtain ⟨c,aj,r⟩:=h.2 i x e;exact ⟨c,aj,r.same s⟩⟩
theorem _root_.bC.dX.but (h:dX H xs cs) (ar:H l=some (.lst ys)) (s:b6 l H H'):dX H' xs cs:=⟨h.1,λ i x e=>by
 obtain ⟨c,aj,a,h_,au⟩:=h.2 i x e;exact ⟨c,aj,a,h_,s _ _ (gY au ar (by intro z;cases z)) au⟩⟩
theorem _root_.bC.dX.nil:dX H [] []:=⟨rfl,λ i x e=>by cases e⟩
theorem _root_.bC.dX.app {ds:aZ} (h:dX H xs cs) (g:dX H ys ds):dX H (xs++ys) (cs++ds):=by
 refine ⟨by rw [cJ,cJ,h.1,g.1],λ i x e=>?_⟩;by_cases aq:i<xs.length
 ·rw [gi aq] at e;obtain ⟨c,aj,r⟩:=h.2 i x e;exact ⟨c,by rw [gi (by rw [<-h.1];exact aq)];exact aj,r⟩
 ·rw [g4 .ab] at e;obtain ⟨c,aj,r⟩:=g.2 _ x e;exact ⟨c,by rw [g4 (by rw [<-h.1];omega),<-h.1];exact aj,r⟩
theorem _root_.bC.dX.one {x:V} {c:aw} (h:uD H x c):dX H [x] [c]:=by
 refine ⟨rfl,λ i y e=>?_⟩;cases i with
 | zero=>cases e;exact ⟨c,rfl,h⟩
 | succ i=>cases e
theorem _root_.bC.dX.at {i:Nat} {x:V} (h:dX H xs cs) (e:xs[i]?=some x) : ∃ c a,cs[i]?=some c/\x=.ref a/\H a=some (tupI c):=by
 obtain ⟨c,aj,a,h_,au⟩:=h.2 i x e;exact ⟨c,a,aj,h_,au⟩
theorem _root_.bC.dX.of {i:Nat} {c:aw} (h:dX H xs cs) (e:cs[i]?=some c) : ∃ x a,xs[i]?=some x/\x=.ref a/\H a=some (tupI c):=by
 have aq:i<cs.length:=(cL.mp e).1;have ae:xs[i]?=some (xs[i]'(by rw [h.1];exact aq)):=bz _;obtain ⟨bG,a,aj,h_,au⟩:=h.at ae;rw [e] at aj;cases aj;exact ⟨_,a,ae,h_,au⟩
noncomputable def ra:Option Nat->V
 | none=>.cV
 | some i=>.int (i:Int)
noncomputable def ei (H:aA) (xs:bB) (ai:cx):Prop:=xs.length=ai.length /\ ∀ (k:Nat) (x:V),xs[k]?=some x -> ∃ i j c,ai[k]?=some (i,j)/\x=.ref c/\H c=some (.tup [.int i,.int j])/\kU i j=true
theorem ei.same {ai:cx} (h:ei H xs ai) (s:aB H H'):ei H' xs ai:=⟨h.1,λ k x e=>by
 obtain ⟨i,j,c,I,ah,aD,aL⟩:=h.2 k x e;exact ⟨i,j,c,I,ah,s _ _ aD,aL⟩⟩
theorem ei.but {ai:cx} (h:ei H xs ai) (ar:H l=some (.lst ys)) (s:b6 l H H'):ei H' xs ai:=⟨h.1,λ k x e=>by
 obtain ⟨i,j,c,I,ah,aD,aL⟩:=h.2 k x e;exact ⟨i,j,c,I,ah,s _ _ (gY aD ar (by intro z;cases z)) aD,aL⟩⟩
noncomputable def rowsOf (ai:cx):aZ:=ai.map λ f=>chg f.1.toNat f.2.toNat
theorem nQ (ai:cx):l5 (rowsOf ai):=λ c aj=>by
 obtain ⟨f,_,rfl⟩:=dz.mp aj;exact GJ _ _
theorem k7 (ai:cx):(rowsOf ai).length=ai.length:=a6 _
theorem vD {i j:Int} (h:kU i j=true):(1<=i/\tC i.toNat=1)/\(1<=j/\tC j.toNat=1):=by
 unfold kU s6 at h;simp only [h4,decide_eq_true_eq] at h;exact ⟨⟨h.1.1.1.1,h.1.1.2⟩,⟨h.1.2.1.1,h.1.2.2⟩⟩
theorem PA {f:Int->Int->Int} {xs ys:aw} {i:Nat} {x y:Int} (ae:xs[i]?=some x) (a8:ys[i]?=some y):(List.zipWith f xs ys).take (i+1)=(List.zipWith f xs ys).take i++[f x y]:=by
 have aS:(List.zipWith f xs ys)[i]?=some (f x y):=by rw [gH];exact ⟨x,y,ae,a8,rfl⟩
 rw [eC,aS];rfl
theorem yM {b:Addr} {a4:TE} {Q:bN} {xs ys:aw} {f:Int->Int->Int} (az:min xs.length ys.length<=sizeLine) (ao : ∃ u v,pick js σ=u::v::σ0) (aT:H1 D=none)
  (au:H1 a=some (tupI xs)) (af:H1 b=some (tupI ys))
  (aF : ∀ (x y:Int) (H':aA) (R:bN),x∈xs->y∈ys->R (.int (f x y)) H'->a4 (some (.int x)::some (.int y)::σ0) H' R)
  (q : ∀ H',aB H1 H'->H' D=some (.lst ((List.zipWith f xs ys).map V.int))->Q (.ref D) H'):gF (wg K a b) D js (nf K 2 (iV (e4 0) (iV (e4 1) oG))) iy a4 σ H1 Q:=by
 obtain ⟨e_,v0,ao⟩:=ao;refine Zk (K:=K) (a:=a) (b:=b) (xs:=xs.map V.int) (ys:=ys.map V.int) (by rw [a6,a6];exact az) (λ i σ' H' zs=>(∃ u v:cq,σ'=u::v::σ0)/\aB H1 H'/\zs=((List.zipWith f xs ys).take i).map V.int) ⟨⟨e_,v0,ao⟩,aB.new aT,rfl⟩ (λ i σ' H' zs _ ⟨_,s',_⟩=>⟨aP.of (s' _ _ au),aP.of (s' _ _ af)⟩) ?_ ?_
 ·rintro i x y p σ' H' zs R ae a8 ao b7 gU ⟨⟨u,v,rfl⟩,s',rfl⟩ df;obtain ⟨x,rfl,dF⟩:=iA ae;obtain ⟨y,rfl,ih⟩:=iA a8;refine ⟨p,_,rfl,aP.of bK,rfl,_,_,rfl,_,_,rfl,rfl,?_⟩;refine aF x y _ _ (cf dF) (cf ih) (df _ _ _ ?_ ⟨⟨_,_,rfl⟩,?_,?_⟩)
  ·rw [bw (bT b7 ao)];exact b7
  ·intro c o e;rw [bw (bT e aT),bw (bT (s' c o e) ao)];exact s' c o e
  ·rw [PA dF ih,ej];rfl
 ·rintro σ' H' zs b7 gU ⟨_,s',rfl⟩;refine q H' s' ?_;rw [b7,a6,a6,fG (by rw [k4];exact br _)]
end du
namespace bC
open PySem PySem.Spec PyProof.Rows
noncomputable def uB (a b:Addr):hB :=
 ⟨λ i H => ∃ xs ys x y,H a=some (.lst xs)/\H b=some (.lst ys)/\xs[i]?=some x/\ys[i]?=some y,
 λ i H v H' => ∃ p,H p=none/\v=.ref p /\ ∃ x y,H'=upd H p (.tup [x,y]) /\ ∀ xs ys,H a=some (.lst xs)->H b=some (.lst ys)->xs[i]?=some x/\ys[i]?=some y,
 λ i H => ∃ xs ys,H a=some (.lst xs)/\H b=some (.lst ys)/\(xs.length<=i\/ys.length<=i)⟩
section
variable {X:a7} {a_:Expr}
theorem Turn.imp {P:Program} {c:Bool} {yV:hB} {gR:Nat->Heap->Prop} (T:Turn P w K c a_ J a3 it gR) (I : ∀ i H,yV.go i H->J.go i H) (ah : ∀ i H x H',J.iR i H x H'->yV.iR i H x H') (aD : ∀ i H,yV.stop i H->J.stop i H):Turn P w K c a_ yV a3 it gR :=
 ⟨T.mem,T.obj,T.keep,λ X a b c d e i pins s σ H E C hf st aR=>bQ (T.item X a b c d e i pins s σ H E C hf st (I _ _ aR)) λ r s1 ⟨u,aJ,k⟩=>⟨u,aJ,bQ k λ _ s2 ⟨x,H',gx,i7,vX,B9⟩=>⟨x,H',gx,i7,ah _ _ _ _ vX,B9⟩⟩,
  λ X a b c d e i pins s σ H E C hf st aR=>T.done X a b c d e i pins s σ H E C hf st (aD _ _ aR),T.self⟩
noncomputable def V6 (bq:dh):TI:=λ σ H R=>bq σ H λ ag H1 => ∃ a b xs ys,ag=[.ref a,.ref b]/\H1 a=some (.lst xs)/\H1 b=some (.lst ys)/\R (uB a b) H1
theorem yi {bq:dh} {p pos:Pos} (fb:ju a_=true) (aR:d6 X "zip") (hm:X.ax "zip" = none) (au:gJ X [aJ,aN] bq) (aF:starEach [aJ,aN] X.env=[(false,eval aJ X.env),(false,eval aN X.env)]:=by rfl) (hI:starEach [aN] X.env=[(false,eval aN X.env)]:=by rfl)
  (af:bootBuiltins "zip" = some (.type "zip"):=by decide +kernel):iC X a_ (.Call (.Name "zip" p) [aJ,aN] [] pos) (V6 bq):=⟨by
 intro pins s σ H R C h;refine Call_ (lE C aR hm af (oT (bQ (au.o pos pins s σ H _ C h) λ us s1 ⟨ag,H1,bg,bV,ba⟩=>?_) (by rw [aF,hI]) (by rw [hI];rfl)));obtain ⟨a,b,xs,ys,e,b3,dv,q⟩:=ba;subst e;obtain ⟨fR,gp,rfl,dw,pe⟩:=vals2 bV;cases dw;cases pe;exact LJ (p1:=true) (ba:=true) (J:=uB a b) bg (aQ.of b3) (aQ.of dv) (λ d=>(Oe fb d).imp (λ i H ⟨xs,ys,x,y,b3,dv,r⟩=>⟨xs,ys,x,y,aQ.of b3,aQ.of dv,r⟩) (λ i H x H' ⟨n,a1,a2,x,y,qA,Qo⟩=>⟨n,a1,a2,x,y,qA,λ xs ys b3 dv=>Qo xs ys (aQ.of b3) (aQ.of dv)⟩) (λ i H ⟨xs,ys,b3,dv,r⟩=>⟨xs,ys,aQ.of b3,aQ.of dv,r⟩)) q⟩
end
theorem NP {b:Addr} {a4:TE} {Q:bN} (az:min xs.length ys.length<=sizeLine) (Pv:Nat->St->aA->bB->Prop) (h0:Pv 0 (pick js σ) (upd H1 D (.lst [])) [])
  (ar : ∀ i σ' H' zs,H' D=some (.lst zs)->Pv i σ' H' zs->H' a=some (.lst xs)/\H' b=some (.lst ys))
  (aF : ∀ i x y p σ' H' zs (R:St->V->aA->Prop),xs[i]?=some x->ys[i]?=some y->H' p=none->H' D=some (.lst zs)->zs.length=i->Pv i σ' H' zs->(∀ σ2 z aO,aO D=some (.lst zs)->Pv (i+1) σ2 (upd aO D (.lst (zs++[z]))) (zs++[z])->R σ2 z aO) ->
   g (.ref p) σ' (upd H' p (.tup [x,y])) λ σ2 aM=>a4 σ2 aM λ z aO=>R σ2 z aO)
  (dk : ∀ σ' H' zs,H' D=some (.lst zs)->zs.length=min xs.length ys.length->Pv (min xs.length ys.length) σ' H' zs->Q (.ref D) H'):gF (uB a b) D js g iy a4 σ H1 Q:=by
 refine tH az Pv h0 (λ i σ' H' zs aq aT p=>?_) (λ σ' H' zs aT gv c=>⟨?_,dk σ' H' zs aT gv c⟩) λ i σ' H' zs x ay R aq aT aS p ae k=>?_
 ·obtain ⟨b3,dv⟩:=ar i σ' H' zs aT p;have I:i<xs.length:=by omega
  have ah:i<ys.length:=by omega
  exact ⟨xs,ys,xs[i],ys[i],b3,dv,by simp [I],by simp [ah]⟩
 ·obtain ⟨b3,dv⟩:=ar _ σ' H' zs aT c;exact ⟨xs,ys,b3,dv,.ab⟩
 ·obtain ⟨b3,dv⟩:=ar i σ' H' zs aT p;obtain ⟨q,aK,rfl,kC,oa,rfl,je⟩:=ae;obtain ⟨ex,eT⟩:=je xs ys b3 dv;exact aF i kC oa q σ' H' zs R ex eT aK aT aS p k
open PySem PySem.Spec PySem.Calls PyProof.Rows
theorem Fi {α: Type} {xs:List α} {x: α} (az:xs.length=n+1) (h:xs[n]?=some x):lq xs (-1)=some x:=by
 have e:xs=xs.take n++[x]:=by
  have I:xs.take (n+1)=xs:=fG .ab;rw [eC,h] at I;exact I.symm
 rw [e];exact Zf _ _
end bC
namespace ft
theorem rJ (l:bo):(bu l).length=l.length:=by unfold bu;rw [a6]
end ft
namespace bC
open PySem PySem.Spec PyProof.Rows
noncomputable abbrev Itm (K:dc) (a b:Addr):hB:=r7 false true K a b
noncomputable abbrev V7 (K:dc) (bq:dh):TI:=EB false true K bq
theorem Mn {X:a7} {a_:Expr} {bq:dh} {p pos:Pos} (fb:ju a_=true) (aR:d6 X "zip") (hm:X.ax "zip" = none) (au:gJ X [aJ,aN] bq) (aF:starEach [aJ,aN] X.env=[(false,eval aJ X.env),(false,eval aN X.env)]:=by rfl) (hI:starEach [aN] X.env=[(false,eval aN X.env)]:=by rfl)
  (af:bootBuiltins "zip" = some (.type "zip"):=by decide +kernel):iC X a_ (.Call (.Name "zip" p) [aJ,aN] [] pos) (V7 X.K bq):=⟨Mi fb aR hm au.o aF hI af⟩
theorem Zw {b:Addr} {tb:eK} {D:Ends} (Pv:Nat->St->aA->Prop) (h0:Pv 0 σ H) (ar : ∀ i σ H,i<=min xs.length ys.length->Pv i σ H->aP K H a xs/\aQ K H b ys)
  (aF : ∀ i x y p σ H,xs[i]?=some x->ys[i]?=some y->H p=none->Pv i σ H->g (.ref p) σ (upd H p (.tup [x,y])) λ σ2 ay=>tb { D with bO:=Pv (i+1),cO:=Pv (i+1),eL:=D.bO } σ2 ay) (hd : ∀ σ H,Pv (min xs.length ys.length) σ H->D.bO σ H) :
  ∃ W:Nat->Nat->St->aA->Prop,(∃ m,W 0 m σ H) /\ ∀ i m σ H,W i m σ H ->
   ((Itm K a b).stop i H/\D.bO σ H)\/((Itm K a b).go i H /\ ∃ N:St->aA->Prop,(∀ σ' H',N σ' H' -> ∃ cR,cR<m/\W (i+1) cR σ' H') /\ ∀ x H',(Itm K a b).iR i H x H'->g x σ H' λ σ2 ay=>tb { D with bO:=N,cO:=N,eL:=D.bO } σ2 ay) :=
 MR (p:=false) (q:=true) Pv h0 ar aF hd
open PySem PySem.Spec PyProof.Rows du
noncomputable def ia (c:aw):List Key:=c.map λ i=>(Sum.inl i:Key)
theorem EZ (c:aw):(ia c).map c2=c.map V.int:=by
 unfold ia;rw [fZ];rfl
theorem WV {a b:aw} (h:ia a=ia b):a=b:=by
 have:=EZ a;rw [h,EZ] at this;exact (List.map_inj_right (λ x y e=>by injection e)).mp this.symm
theorem FA {b:Addr} {c:aw} (h:H b=some (tupI c)):H b=some (.tup ((ia c).map c2)):=by rw [EZ];exact h
section
variable {X:a7}
theorem W_ (bM:X.A.units+1<cLine):dt X (compareOp .In) (λ y x H Q => ∃ b d c aU,y=.ref b/\x=.ref d/\H b=some (tupI c)/\H d=some (.f5 aU)/\Q (.aH (fM aU (ia c)).isSome) H):=by
 intro pins s σ H y x u v Q C bL bA h;obtain ⟨b,d,c,aU,rfl,rfl,af,hd,q⟩:=h;cases bA;exact UO bM C (q7.t hd (FA af)) bL λ s3 cU=>⟨.aH _,H,cU,rfl,q⟩
noncomputable def XK (pg ty:TE):TE:=λ σ H Q=>pg σ H λ x H1=>ty σ H1 λ y ay => ∃ d b c aU v,x=.ref d/\y=.ref b/\ay d=some (.f5 aU)/\ay b=some (tupI c)/\fM aU (ia c)=some v/\Q v ay
theorem Mm {o i:Expr} {pg ty:TE} {pos:Pos} (bM:X.A.units+1<cLine) (a0:cj X o pg) (aq:cj X i ty) (aF:J9 i):cj X (.Subscript o i pos) (XK pg ty):=⟨by
 intro pins s σ H Q C h;refine Y4 PySem.F.slot_dict_getitem.lookup aF (bQ (a0.o pins s σ H _ C h) λ u s1 ⟨x,H1,bg,bA,ba⟩=>bQ (aq.o pins s1 σ H1 _ bg ba) λ d4 s2 ⟨y,ay,dd,bL,cm⟩=>?_);obtain ⟨d,b,c,aU,v,rfl,rfl,hd,af,bl,q⟩:=cm;obtain rfl:u=Value.ref d:=bA;have g:q7 ay d (.ref b) (some v):=by rw [<-bl];exact q7.t hd (FA af)
 exact ⟨acy dd g,aaN bM dd g bL λ gS s3 cU ik=>⟨v,ay,cU,ik,q⟩⟩⟩
noncomputable def XE (pg ty tv:TE):eK:=λ D σ H=>tv σ H λ v H1=>pg σ H1 λ x ay=>ty σ ay λ y aM => ∃ d b c aU,x=.ref d/\y=.ref b/\aM d=some (.f5 aU)/\aM b=some (tupI c)/\aU.length<sizeLine /\ ∀ aO,du.b6 d aM aO->aO d=some (.f5 (putK aU (ia c) v))->D.bO σ aO
theorem YS {o i value:Expr} {pg ty tv:TE} {pos:Pos} (bM:X.A.units+1<cLine) (a0:cj X o pg) (aq:cj X i ty) (bl:cj X value tv) (aF:swapsWith value (some (.Subscript o i pos')) pos.line X.env=pure false) :
  jP X (.Assign [.Subscript o i pos'] value pos) (XE pg ty tv):=⟨by
 intro pins s σ H D C h;refine wpAny_Assign_Subscript (bQ (bl.o pins s σ H _ C h) λ r s1 ⟨v,H1,bg,cM,ba⟩=>bQ (a0.o pins s1 σ H1 _ bg ba) λ u s2 ⟨x,ay,dd,bA,cm⟩=>bQ (aq.o pins s2 σ ay _ dd cm) λ d4 s3 ⟨y,aM,cU,bL,gP⟩=>?_) aF;obtain ⟨d,b,c,aU,rfl,rfl,hd,af,ar,q⟩:=gP;obtain rfl:u=Value.ref d:=bA;exact aaO bM cU (z9.t hd (FA af) ar) bL cM λ s4 mL=>⟨σ,_,mL,q _ du.b6.upd bK⟩⟩
noncomputable def Y5:TE:=λ _ H Q=>kR (.f5 []) H Q
theorem aaa {pos:Pos}:cj X (.Dict [] [] pos) Y5:=⟨λ pins s σ H Q C h=>ZW pins s σ H Q C (kR.at h)⟩
end
theorem Pc {aU:List (List Key×V)} {c d:aw} (h:d≠c):fM (putK aU (ia c) y) (ia d)=fM aU (ia d):=by
 rw [Nx,if_neg λ e=>h (WV e)]
theorem PL {aU:List (List Key×V)} {c:aw}:fM (putK aU (ia c) y) (ia c)=some y:=by
 rw [Nx,if_pos rfl]
section
variable {X:a7}
noncomputable def K3:V->V->aA->bN->Prop:=λ x y H Q => ∃ p xs i v,x=.ref p/\y=.int i/\H p=some (.lst xs)/\0<=i/\xs[i.toNat]?=some v/\Q v H
theorem ZA:J_ X K3:=by
 intro pins s σ H x y eO d4 Q C bA bL h;obtain ⟨p,xs,i,z,rfl,rfl,aK,h0,he,q⟩:=h;cases bA;obtain ⟨t,rfl⟩:=bL;obtain ⟨its,r,b5,aS⟩:=C.list (aQ.of aK);obtain ⟨w,lh,ik⟩:=r.get he;have ar:=r.length;have az:=x2;have aq:i.toNat<xs.length:=(cL.mp he).1;exact wpAny_getItem_list b5.isList h0 .ab (by simpa using lh) ⟨z,H,C,ik,q⟩
theorem YR {o i e:Expr} {to iJ a4:TE} {Em pos:Pos} (a0:cj X o to) (aq:cj X i iJ) (he:cj X e a4)
  (au : ∀ eO d4 new,augStore i eO d4 new=(do holding [new,eO,d4] (setItem eO d4 new);release [new,eO,d4] [];pure .next):=by intros;rfl):jP X (.AugAssign (.Subscript o i Em) .Add e pos) (K7 to iJ a4 K3 (Jy λ i j=>i+j) K4):=⟨YF a0.o aq.o ZA he.o WT set_list au⟩
end
end bC
namespace ft
inductive HS where
 | round (b l:Nat)
 | rests (n:Nat) (c:aw)
 | AA
noncomputable def wd (rows:aZ) (p:aw) (k:Nat):Prop := ∀ i j,i<j->j<k->goN rows i p≠goN rows j p
noncomputable def VP (rows:aZ) (m:Nat) (p:aw):HS->Prop
 | .round b l=>1<=l/\b+l<=m/\(∃ c,goN rows b p=some c/\goN rows (b+l) p=some c)/\wd rows p (b+l)
 | .rests n c=>n<=m/\goN rows n p=some c/\dm rows c=none
 | .AA=>(∃ c,goN rows (m+1) p=some c)/\wd rows p (m+1)
noncomputable abbrev jj (x y:Int):Int:=x - y
noncomputable abbrev iQ (x y:Int):Int:=if y<x then y else x
theorem Ep : ∀ (s t:aw),(List.zipWith jj s (List.zipWith iQ s t)).map Int.toNat=ups (List.zipWith jj s t)
 | [],_=>rfl
 | _::_,[]=>rfl
 | x::s,y::t=>by
  show (x - iQ x y).toNat::(List.zipWith jj s (List.zipWith iQ s t)).map Int.toNat=(x - y).toNat::ups (List.zipWith jj s t);rw [Ep s t];congr 1;unfold iQ;split<;>omega
theorem Er : ∀ (s t:aw),(List.zipWith jj t (List.zipWith iQ s t)).map Int.toNat=downs (List.zipWith jj s t)
 | [],[]=>rfl
 | [],_::_=>rfl
 | _::_,[]=>rfl
 | x::s,y::t=>by
  show (y - iQ x y).toNat::(List.zipWith jj t (List.zipWith iQ s t)).map Int.toNat=(-(x - y)).toNat::downs (List.zipWith jj s t);rw [Er s t];congr 1;unfold iQ;split<;>omega
theorem Mu : ∀ (s t:aw),(∀ e∈t,0<=e)->(ups (List.zipWith jj s t)).sum<=(ups s).sum
 | [],_,_=>by simp [ups]
 | _::_,[],_=>by simp [ups]
 | x::s,y::t,h=>by
  have I:=h y d2;have ah:=Mu s t λ e he=>h e (eQ _ he)
  show ((x - y).toNat::ups (List.zipWith jj s t)).sum<=(x.toNat::ups s).sum;rw [lJ,lJ];omega
theorem NT : ∀ (s t:aw),(∀ e∈s,0<=e)->(downs (List.zipWith jj s t)).sum<=(ups t).sum
 | [],_,_=>by simp [downs]
 | _::_,[],_=>by simp [downs]
 | x::s,y::t,h=>by
  have I:=h x d2;have ah:=NT s t λ e he=>h e (eQ _ he)
  show ((-(x - y)).toNat::downs (List.zipWith jj s t)).sum<=(y.toNat::ups t).sum;rw [lJ,lJ];omega
theorem Md : ∀ {l:bo} {x:Nat},x∈l->x<=l.sum
 | [],_,h=>by cases h
 | y::r,x,h=>by
  rw [lJ];rcases c8.mp h with z | z
  ·omega
  ·have:=Md z;omega
theorem WL {s t:aw} {e:Int} (h:e∈List.zipWith jj s (List.zipWith iQ s t)):0<=e:=by
 obtain ⟨k,aE⟩:=gk h;rw [gH] at aE;obtain ⟨x,m,ae,hm,rfl⟩:=aE;rw [gH] at hm;obtain ⟨kC,y,dF,a8,rfl⟩:=hm;rw [ae] at dF;cases dF;show 0<=x - iQ x y;unfold iQ;split<;>omega
theorem WM {s t:aw} {e:Int} (h:e∈List.zipWith jj t (List.zipWith iQ s t)):0<=e:=by
 obtain ⟨k,aE⟩:=gk h;rw [gH] at aE;obtain ⟨y,m,a8,hm,rfl⟩:=aE;rw [gH] at hm;obtain ⟨x,oa,ae,ih,rfl⟩:=hm;rw [a8] at ih;cases ih;show 0<=y - iQ x y;unfold iQ;split<;>omega
theorem Lg {l:aw} (h0 : ∀ e∈l,0<=e) (h:(l.map Int.toNat).sum<=n) (az:n<=1000) : ∀ e∈l,0<=e/\e<2 ^ 62:=λ e he=>by
 have:=Md (Fd (f:=Int.toNat) he);have:=h0 e he;omega
end ft
namespace du
open PySem bC ft
theorem Hz {b:Addr} {a4:TE} {Q:bN} {xs ys:aw} {f:Int->Int->Int} (az:min xs.length ys.length<=sizeLine) (ao : ∃ u v,pick js σ=u::v::σ0) (aT:H1 D=none)
  (au:H1 a=some (.lst (xs.map V.int))) (af:H1 b=some (.lst (ys.map V.int)))
  (aF : ∀ (x y:Int) (H':aA) (R:bN),x∈xs->y∈ys->R (.int (f x y)) H'->a4 (some (.int x)::some (.int y)::σ0) H' R)
  (q : ∀ H',aB H1 H'->H' D=some (.lst ((List.zipWith f xs ys).map V.int))->Q (.ref D) H'):gF (uB a b) D js (nf K 2 (iV (e4 0) (iV (e4 1) oG))) iy a4 σ H1 Q:=by
 obtain ⟨e_,v0,ao⟩:=ao;refine NP (a:=a) (b:=b) (xs:=xs.map V.int) (ys:=ys.map V.int) (by rw [a6,a6];exact az) (λ i σ' H' zs=>(∃ u v:cq,σ'=u::v::σ0)/\aB H1 H'/\zs=((List.zipWith f xs ys).take i).map V.int) ⟨⟨e_,v0,ao⟩,aB.new aT,rfl⟩ (λ i σ' H' zs _ ⟨_,s',_⟩=>⟨s' _ _ au,s' _ _ af⟩) ?_ ?_
 ·rintro i x y p σ' H' zs R ae a8 ao b7 gU ⟨⟨u,v,rfl⟩,s',rfl⟩ df;obtain ⟨x,rfl,dF⟩:=iA ae;obtain ⟨y,rfl,ih⟩:=iA a8;refine ⟨p,_,rfl,aP.of bK,rfl,_,_,rfl,_,_,rfl,rfl,?_⟩;refine aF x y _ _ (cf dF) (cf ih) (df _ _ _ ?_ ⟨⟨_,_,rfl⟩,?_,?_⟩)
  ·rw [bw (bT b7 ao)];exact b7
  ·intro c o e;rw [bw (bT e aT),bw (bT (s' c o e) ao)];exact s' c o e
  ·rw [PA dF ih,ej];rfl
 ·rintro σ' H' zs b7 gU ⟨_,s',rfl⟩;refine q H' s' ?_;rw [b7,a6,a6,fG (by rw [k4];exact br _)]
noncomputable def DU (a l:Addr) (H H':aA):Prop := ∀ c o,c≠a->c≠l->H c=some o->H' c=some o
end du
namespace bC
open PySem PySem.Spec PyProof.Rows
theorem Na {X:a7} {a_:Expr} {cs:List Expr} {gd pos:Pos} {N:cE} {a4:TE} {d4:Nat}
  (sk:X.N.Nodup) (sz:X.N[d4]?=some x0) (pK:Loc X.env.scope x0)
  (a9:tr X scope cl N js) (aj:X.warm=true) (aq:jO X a_ iter fa)
  (aR : ∀ a3 pins s H,mM (eY X scope cl N a3 pins s H λ _ _=>False) a_ g)
  (aW : ∀ a3 pins s H,sa (eY X scope cl N a3 pins s H λ _ _=>False) cs dx)
  (he : ∀ a3 pins s H,cG (eY X scope cl N a3 pins s H λ _ _=>False) elt a4)
  (sH:swapsWith (.ListComp elt [⟨a_,iter,cs,0⟩] scope gd) (some (.Name x0 pos')) pos.line X.env=pure true)
  (aF : ∀ x,foldedSetIterable iter X.env x=pure x:=by intro _;rfl) (sv:X.fn x0=true\/X.env.scope.names.lookup x0=some .local:=by first | exact .inl rfl | exact .inr rfl | assumption):kr X (.Assign [.Name x0 pos'] (.ListComp elt [⟨a_,iter,cs,0⟩] scope gd) pos) (p5 (rf js fa g dx a4) (e4 d4)):=by
 intro pins s σ H mK C h;rw [exec_Assign_Name_used _ _ _ _ sH];refine aI (xU (aI ?_));show wpAny _ X.A (do let _ ← comprehension (.ListComp elt [⟨a_,iter,cs,0⟩] scope gd) scope X.env _ (newList []) false (eval iter X.env) (some (assign (.Name x0 pos') X.env))) _ _ s;refine aI (mv (wpAny_comprehension_free (use:=some (assign (.Name x0 pos') X.env)) (Q:=λ _ s'=>qy X pins mK .next s') rfl aF a9.me a9.kind a9.names (bQ (aq pins s σ H _ C h) λ Q2 s1 I=>bQ I λ zQ s2 ah=>?_)) (λ _ s' aK=>b2 (b2 aK)) λ _ _ e=>e);obtain ⟨it,a3,gR,J,ay,e,dd,T,pR,f2,ah⟩:=ah;subst e;obtain ⟨W,⟨m0,ja⟩,turn⟩:=ah s2.heap.objs.size dd.fresh;refine mj (O0 ?_);have cU:Inv X pins σ (upd ay s2.heap.objs.size (.lst [])) { s2 with heap:=s2.heap.push { cls:=.type "list", data:=.seq ([]:List Value).toArray } }:=dd.Al (t':=s2.toks) (its:=[]) .nil (fk _);dsimp only;generalize dT:({ s2 with heap:=s2.heap.push { cls:=.type "list", data:=.seq ([]:List Value).toArray } }:Shared)=s3 at cU;have sf:s2.heap.push { cls:=.type "list", data:=.seq ([]:List Value).toArray }=s3.heap:=by rw [<-dT]
 have Rb:s2.gens=s3.gens:=by rw [<-dT]
 have Rc:s2.os=s3.os:=by rw [<-dT]
 rw [sf];have xd:(pushCells (s3.heap.push { cls:=.type "dict", data:=.dict #[] }) scope.names).Ns s3.heap.objs.size (λ _=>none):=(Heap.Ns.new s3.heap (.type "dict")).keeps (AR _ _);have j_ : ∀ b o,s3.heap.get? b=some o->(pushCells (s3.heap.push { cls:=.type "dict", data:=.dict #[] }) scope.names).get? b=some o:=λ b o q=>AR _ _ b o (bW _ q)
 have dC:=cellsFrom_ok scope.names (s3.heap.push { cls:=.type "dict", data:=.dict #[] }) (s3.heap.objs.size+1) [] ⟨λ _ _ hm=>(nomatch hm),List.Pairwise.nil⟩ (by rw [fX];exact br _);rw [fX] at dC;generalize pushCells (s3.heap.push { cls:=.type "dict", data:=.dict #[] }) scope.names=aL at xd j_ dC ⊢;generalize rX:upd ay s2.heap.objs.size (.lst [])=aM at cU ja;have aT:s2.heap.objs.size<s3.heap.objs.size:=by rw [<-sf,fX];exact nr _
 have xn : ∀ b o,s2.heap.get? b=some o->s3.heap.get? b=some o:=λ b o q=>by rw [<-sf];exact bW _ q
 have wu : ∀ x c,cl.lookup x=some c->c<s3.heap.objs.size:=λ x c q=>by
  obtain ⟨v,g_,jB,_⟩:=cU.cell x c (a9.sub _ _ q);exact cb jB
 have jc : ∀ x c,(cellsFrom (s3.heap.objs.size+1) scope.names cl).lookup x=some c->(cl.lookup x=some c/\x∉kf scope)\/(x∈kf scope/\(x,c)∈cellsFrom (s3.heap.objs.size+1) scope.names []):=λ x c q=>by
  rw [lT,tI] at q;cases e:(cellsFrom (s3.heap.objs.size+1) scope.names []).lookup x with
  | some bG =>
   rw [e] at q;cases q;have m:=mem_of_lookup e;exact .inr ⟨qq.mpr (tM m),m⟩
  | none =>
   rw [e] at q;have bh:cl.lookup x=some c:=q;refine .inl ⟨bh,λ z=>?_⟩;rw [a9.zp x z] at bh;cases bh
 have xu : ∀ x c,cl.lookup x=some c->(cellsFrom (s3.heap.objs.size+1) scope.names cl).lookup x=some c:=λ x c q=>by
  rw [lT,tI];cases e:(cellsFrom (s3.heap.objs.size+1) scope.names []).lookup x with
  | none=>exact q
  | some bG =>
   have:=a9.zp x (qq.mpr (tM (mem_of_lookup e)));rw [q] at this;cases this
 have kb : ∀ x c,(x,c)∈cellsFrom (s3.heap.objs.size+1) scope.names []->aL.IsCell c none/\s3.heap.objs.size+1<=c:=λ x c m=>dC.empty x c m
 have px : ∀ b∈a3,b<s3.heap.objs.size:=λ b af=>by
  obtain ⟨o,b1,_⟩:=T.obj 0 _ pR b af;exact cb (xn b o b1)
 have fst : ∀ b∈a3,b∉kI X.stack:=λ b af z=>by
  rcases c8.mp (cU.tg b z) with q | q
  ·exact (f2 b af).2.1 q
  ·exact (f2 b af).2.2.1 q
 have DI:(eY X scope cl N a3 pins s3 aM λ _ _=>False).Ok:=by
  refine ⟨C.ok.mod,a9.kind,C.ok.glob,C.ok.blt,br _,λ x y c ba cm=>?_,λ x z=>?_,λ x c z q=>?_,⟨C.ok.hd.1,λ hw=>cU.I5 hw λ b af=>(f2 b af).2.2.2.1⟩,C.ok.frames,.inl rfl,λ b af=>⟨d1 (px b af),λ x c q=>?_⟩,
   cU.bs,et C.ok.oe cU.l2,λ b o q af=>?_,fst,cU.stack,cU.FL⟩
  ·rcases jc x c ba with ⟨a1,_⟩ | ⟨_,a1⟩
   ·rcases jc y c cm with ⟨a2,_⟩ | ⟨_,a2⟩
    ·exact C.ok.inj x y c (a9.sub _ _ a1) (a9.sub _ _ a2)
    ·exact absurd (wu x c a1) (Nat.not_lt.mpr (et (kj _) (kb y c a2).2))
   ·rcases jc y c cm with ⟨a2,_⟩ | ⟨_,a2⟩
    ·exact absurd (wu y c a2) (Nat.not_lt.mpr (et (kj _) (kb x c a1).2))
    ·exact name_of_addr dC.apart a1 a2
  ·rcases a9.has x z with ⟨c,h'⟩ | h'
   ·exact ⟨c,xu x c h'⟩
   ·obtain ⟨c,m⟩:=BA (n:=s3.heap.objs.size+1) (qq.mp h');obtain ⟨bG,bF⟩:=yN (dz.mpr ⟨(x,c),m,rfl⟩);refine ⟨bG,?_⟩;show (cellsFrom (s3.heap.objs.size+1) scope.names cl).lookup x=some bG;rw [lT,tI,bF];rfl
  ·rcases jc x c q with ⟨_,a1⟩ | ⟨_,a1⟩
   ·exact absurd (x6.mp z) a1
   ·exact et (kj _) (kb x c a1).2
  ·rcases jc x c q with ⟨a1,_⟩ | ⟨_,a1⟩
   ·exact (f2 b af).2.2.2.2.1 x c (a9.sub _ _ a1)
   ·exact hz (g0 (px b af) (et (kj _) (kb x c a1).2))
  rcases (f2 b af).2.2.2.1 with z | z
  ·exact C.ok.uH b o q z
  ·exact absurd (g0 (cb q) (et C.ok.oe z)) (iW _)
 have mL:Inv (eY X scope cl N a3 pins s3 aM λ _ _=>False) [] (pick js σ) aM { s3 with heap:=aL }:=by
  refine ⟨DI,rfl,cU.bare,g8.kept j_,⟨_,xd,λ i x v ba cm gP=>?_⟩,λ x c q=>?_,cU.bX.fresh (br _),λ x c q=>?_,λ p ao=>?_,cU.bX.kept j_,?_⟩
  ·obtain ⟨j,gy,jT⟩:=M7 cm;obtain ⟨fi,hb,eV,kD⟩:=a9.seen i j x ba gy;obtain ⟨m,az,ar⟩:=cU.loc;obtain ⟨u,hr,lk⟩:=ar j x v fi jT (.inr (.inl eV));refine ⟨u,hr,.inr ⟨kD,?_⟩⟩;rcases lk with ⟨k,_⟩ | ⟨_,c,lW,g_,jB,sr⟩
   ·have di:X.env.scope.names.lookup x=some .local:=k;rw [eV] at di;cases di
   ·obtain ⟨bG,wy⟩:=(a9.has x kD).resolve_right hb;have:=a9.sub _ _ wy;rw [lW] at this;cases this;exact ⟨c,xu x c wy,g_,j_ _ _ jB,sr⟩
  ·rcases jc x c q with ⟨a1,_⟩ | ⟨_,a1⟩
   ·obtain ⟨v,g_,jB,sr⟩:=cU.cell x c (a9.sub _ _ a1);exact ⟨v,g_,j_ _ _ jB,sr⟩
   ·exact ⟨none,(kb x c a1).1⟩
  ·rcases jc x c q with ⟨a1,_⟩ | ⟨_,a1⟩
   ·exact cU.ni x c (a9.sub _ _ a1)
   ·exact cU.bX.fresh (et (kj _) (kb x c a1).2)
  ·have dR:p∈X.hV++pins:=by simpa using ao
   obtain ⟨ba,cm,gP,r5,v5⟩:=cU.pin p dR;refine ⟨j_ _ _ ba,cm,d1 (cb ba),λ z=>?_,v5⟩;rcases c8.mp (cU.tg _ z) with q | q
   ·exact gP q
   ·exact r5 q
  ·show (pick js σ).length=N.length;unfold pick;rw [a6,a9.len]
 have stat : ∀ {H':aA},(∀ b∈a3,H' b=none) -> ∀ b∈a3,m8 (eY X scope cl N a3 pins s3 aM λ _ _=>False) [] H' b:=λ az b af =>
  ⟨az b af,d1 (px b af),fst b af,.inl af,λ x c q=>by
   rcases jc x c q with ⟨a1,_⟩ | ⟨_,a1⟩
   ·exact (f2 b af).2.2.2.2.1 x c (a9.sub _ _ a1)
   ·exact hz (g0 (px b af) (et (kj _) (kb x c a1).2)),λ p ao=>(f2 b af).2.2.2.2.2 p (by simpa using ao)⟩
 have xj:gR 0 aL:=T.keep 0 _ _ pR λ b af o q=>j_ b o (xn b o q)
 have bO : ∀ e s',(eY X scope cl N a3 pins s3 aM λ _ _=>False).dB e s'->False:=λ _ _ z=>z
 have loop:codeAny (model X.prog X.w) X.A (.compLoop (.ListComp elt [⟨a_,iter,cs,0⟩] scope gd) 0 (.ref it) (.ref s2.heap.objs.size) (compEnvC scope (cellsFrom (s3.heap.objs.size+1) scope.names cl) s3.heap.objs.size X.env))
   (compPost (model X.prog X.w) X.A X.dB (some (assign (.Name x0 pos') X.env)) (λ _ s'=>qy X pins mK .next s') (.ref s2.heap.objs.size) s3.heap.objs.size) { s3 with heap:=aL }:=by
  refine Mc (λ n s' => ∃ i σ' H' ys,Inv (eY X scope cl N a3 pins s3 aM λ _ _=>False) [] σ' H' s'/\gR i s'.heap/\(∀ b∈a3,H' b=none)/\W i n σ' H' ys) ?_ m0 ⟨0,_,aM,[],mL,xj,λ b af=>?_,ja⟩
  ·rintro n s5 ⟨i,σ5,bj,ys,o3,pS,sj,Cv⟩;obtain ⟨pB,way⟩:=turn i n σ5 bj ys Cv;rcases way with ⟨stop,n5⟩ | ⟨go,aS,vK,d9,step⟩
   ·refine kT bO (bQ (T.done (eY X scope cl N a3 pins s3 aM λ _ _=>False) rfl rfl rfl rfl aj i [] s5 σ5 bj _ o3 (stat sj) pS stop) λ r bI ⟨av,iB⟩=>?_);subst av;obtain ⟨m,az,_⟩:=iB.loc;have QH:m8 X pins bj s3.heap.objs.size:=cU.pY (br _) iB.free;have i2:Inv X pins σ bj bI:=?_
    ·refine wpAny_assign_Name (N_ (v:=.ref s2.heap.objs.size) i2 sk sz pK rfl (λ e1 vI Td=>?_) sv);obtain ⟨Qp,Uh,n1⟩:=Td;obtain ⟨f0,f1,zq,e8,f4,eG⟩:=QH;have r3:s3.heap.objs.size≠Qp:=by
      rcases n1 with z | z
      ·rw [z];exact f1
      ·exact (f4 _ _ z).symm
     refine ⟨m,az.sameBut Uh r3,λ h' eg=>⟨_,bj,?_,n5⟩⟩;exact vI.turned (t':=e1.toks) (λ b o af e=>(eg.2 b af).trans e) f0 f1 e8 f4 eG
    have low : ∀ b o,s3.heap.get? b=some o->b≠s3.heap.objs.size:=λ b o q=>d1 (cb q)
    have same : ∀ b,b≠s3.heap.objs.size->bI.heap.get? b=bI.heap.get? b:=λ b af=>rfl
    have B:=iB.base;refine cU.KO (s':=bI) (H':=bj) (ch:=a3) iB.os ⟨λ b o q mQ I ah=>?_,λ b o q mQ I ah=>?_,B.free,λ b o q ah=>?_,B.oN,B.nc,B.oM⟩ (λ a o q=>?_) iB.bare (λ b af=>⟨(f2 b af).2.2.2.1,(f2 b af).2.1,(f2 b af).2.2.2.2.1,(f2 b af).2.2.2.2.2⟩)
    ·exact (same b (low b o q)).trans (B.keep b o q mQ I ah)
    ·obtain ⟨cZ,z⟩:=B.slot b o q mQ I ah;exact ⟨cZ,(same b (low b o q)).trans z⟩
    ·obtain ⟨e0,z⟩:=B.there b o q ah;exact ⟨e0,(same b (low b o q)).trans z⟩
    ·have r3 : ∀ c u,bj c=some u->c≠s3.heap.objs.size:=λ c u z y=>by
      have:=iB.free;rw [y] at z;rw [show bj s3.heap.objs.size=none from this] at z;cases z
     refine (iB.bX a o q).hP (λ c u dW z=>(same c ?_).trans z) (λ _ z=>z) λ _ _ z=>z
     rcases dW with fh | fh
     ·rw [fh];exact r3 a o q
     ·exact r3 c _ fh
   ·refine kT bO (bQ (T.item (eY X scope cl N a3 pins s3 aM λ _ _=>False) rfl rfl rfl rfl aj i [] s5 σ5 bj _ o3 (stat sj) pS go) λ r bI ⟨u,av,g9⟩=>?_);subst av;refine kT bO (bQ g9 λ _ dA ⟨x,ek,i2,ll,CC,sQ,CR⟩=>?_);have CG:=i2.pinned (stat CR) (T.obj _ _ sQ);refine kT bO (bQ (aR a3 pins s3 aM _ dA σ5 ek x u _ CG ll (step x ek CC)) λ _ e1 ⟨σ8,k_,vI,Cg⟩=>?_);refine kT bO (bQ (aW a3 pins s3 aM _ e1 σ8 k_ _ vI Cg) λ k iI ⟨tP,vJ,pb⟩=>?_);have fin : ∀ {s':Shared} {σ':St} {H':aA} {hL:bB},Inv (eY X scope cl N a3 pins s3 aM λ _ _=>False) ([]++uX a3 dA.heap) σ' H' s'->vK σ' H' hL ->
      ∃ cR,cR<n /\ ∃ i σ' H' ys,Inv (eY X scope cl N a3 pins s3 aM λ _ _=>False) [] σ' H' s'/\gR i s'.heap/\(∀ b∈a3,H' b=none)/\W i cR σ' H' ys:=λ {s' σ' H' hL} rS Cc=>by
     obtain ⟨cR,hm,wv⟩:=d9 σ' H' hL Cc;refine ⟨cR,hm,i+1,σ',H',hL,rS.yy,T.keep _ _ _ sQ λ b af o q=>(rS.pin (b,o) (jH _ (jH _ (vC af q)))).1,λ b af=>?_,wv⟩;obtain ⟨o,q,_⟩:=T.obj _ _ sQ b af;exact (rS.pin (b,o) (jH _ (jH _ (vC af q)))).2.1
    cases k with
    | false =>
     rw [if_neg fc] at pb ⊢;exact fin vJ pb.2
    | true =>
     rw [if_pos rfl] at pb ⊢;refine kT bO (bQ (he a3 pins s3 aM _ iI σ8 tP _ vJ pb) λ y n6 ⟨jX,yU,BQ,Cm,CW,Ci⟩=>?_);refine kT bO (bQ (Gs _ n6 σ8 yU (.ref s2.heap.objs.size) [jX] _ [y] (λ _ tQ=>vK σ8 tQ (ys++[jX])) BQ rfl (.cons Cm .nil) ⟨_,ys,jX,rfl,rfl,CW,aS,Ci⟩) λ _ sB ⟨_,tQ,BR,_,Cj⟩=>?_);exact fin BR Cj
  ·rw [<-rX,bw]
   ·exact (f2 b af).1
   ·obtain ⟨o,b1,_⟩:=T.obj 0 _ pR b af;exact d1 (cb b1)
 have goal:codeAny (model X.prog X.w) X.A (.compStart (.ListComp elt [⟨a_,iter,cs,0⟩] scope gd) 0 (.ref it) (.ref s2.heap.objs.size) (compEnvC scope (cellsFrom (s3.heap.objs.size+1) scope.names cl) s3.heap.objs.size X.env))
   (compPost (model X.prog X.w) X.A X.dB (some (assign (.Name x0 pos') X.env)) (λ _ s'=>qy X pins mK .next s') (.ref s2.heap.objs.size) s3.heap.objs.size) { s3 with heap:=aL } :=
  codeAny_compStart_list loop (T.self _ 0 _ _ _ xj loop)
 subst dT;exact goal
theorem YH {X:a7} {a_:Expr} {cs:List Expr} {gd pos:Pos} {N:cE} {a4:TE} {d4:Nat}
  (sk:X.N.Nodup) (sz:X.N[d4]?=some x0) (pK:Loc X.env.scope x0)
  (a9:rk X scope cl N js) (aj:X.warm=true) (aq:jO X a_ iter fa)
  (aR : ∀ a3 pins s H,mM (lD X scope cl N a3 pins s H λ _ _=>False) a_ g)
  (aW : ∀ a3 pins s H,sa (lD X scope cl N a3 pins s H λ _ _=>False) cs dx)
  (he : ∀ a3 pins s H,cG (lD X scope cl N a3 pins s H λ _ _=>False) elt a4)
  (sH:swapsWith (.ListComp elt [⟨a_,iter,cs,0⟩] scope gd) (some (.Name x0 pos')) pos.line X.env=pure true)
  (aF : ∀ x,foldedSetIterable iter X.env x=pure x:=by intro _;rfl) (sv:X.fn x0=true\/X.env.scope.names.lookup x0=some .local:=by first | exact .inl rfl | exact .inr rfl | assumption):kr X (.Assign [.Name x0 pos'] (.ListComp elt [⟨a_,iter,cs,0⟩] scope gd) pos) (p5 (rf js fa g dx a4) (e4 d4)) :=
 Na sk sz pK a9.c aj aq (λ a3 pins s H=>by rw [vf a9.rl];exact aR a3 pins s H) (λ a3 pins s H=>by rw [vf a9.rl];exact aW a3 pins s H) (λ a3 pins s H=>by rw [vf a9.rl];exact he a3 pins s H) sH aF sv
theorem vj {X:a7} {a_:Expr} {cs:List Expr} {gd pos:Pos} {N:cE} {a4:TE} {i:Nat}
  (sk:X.N.Nodup) (sz:X.N[i]?=some x0) (pK:Loc X.env.scope x0)
  (a9:rk X scope cl N js) (aj:X.warm=true) (aq:iC X a_ iter fa)
  (aR : ∀ a3 pins s H,la (lD X scope cl N a3 pins s H λ _ _=>False) a_ g)
  (aW : ∀ a3 pins s H,t_ (lD X scope cl N a3 pins s H λ _ _=>False) cs dx)
  (he : ∀ a3 pins s H,cj (lD X scope cl N a3 pins s H λ _ _=>False) elt a4)
  (sH:swapsWith (.ListComp elt [⟨a_,iter,cs,0⟩] scope gd) (some (.Name x0 pos')) pos.line X.env=pure true:=by rfl)
  (aF : ∀ x,foldedSetIterable iter X.env x=pure x:=by intro _;rfl) (sv:X.fn x0=true\/X.env.scope.names.lookup x0=some .local:=by first | exact .inl rfl | exact .inr rfl | assumption):jP X (.Assign [.Name x0 pos'] (.ListComp elt [⟨a_,iter,cs,0⟩] scope gd) pos) (p5 (rf js fa g dx a4) (e4 i)) :=
 ⟨YH sk sz pK a9 aj aq.o (λ a b c d=>(aR a b c d).o) (λ a b c d=>(aW a b c d).o) (λ a b c d=>(he a b c d).o) sH aF sv⟩
end bC
namespace vM
open PySem PyProof.Rows jR
noncomputable abbrev gX (h:Heap) (T:Addr) (a b c:Value):Prop:=h.get? T=some { cls:=.type "tuple", data:=.seq #[a,b,c] }
theorem fL {k:Nat} (h:k≠m):n+k≠n+m:=by omega
theorem n4 {k:Nat} (h:0<k):n≠n+k:=by omega
theorem tW {k:Nat} (h:0<k):n+k≠n:=by omega
theorem en {t k:Nat} (h:t<n):t≠n+k:=by omega
section
variable {E:bY}
theorem En {T:Addr} {a b c x:Value} {k:Nat} {Q:Unit->Shared->Prop} (ck:gX s.heap T a b c)
  (h : ∀ h',h'.get? T=some { cls:=.type "tuple", data:=.seq ((#[a,b,c]:cn).setIfInBounds k x) }->Heap.SameBut T s.heap h'->Q () { s with heap:=h' }) :
  wpAny (model prog w) A (updateSeq T (·.setIfInBounds k x)) Q E s:=by
 refine x8 ck rfl (h _ ?_ (AB ..));rw [s7 _ ck rfl];simp [Obj.mapSeq]
theorem Gh {n:Addr} {k:Nat} {xs ys zs:cn} {x y v a b c:Value} {Q:bY} (kq:t1<n) (bC:bx<n) (nV:t3<n)
  (eI:IsZip s.heap (n+5) (n+3) (n+4) .none) (jY:gX s.heap (n+3) (.ref n) (.ref (n+1)) (.ref (n+2))) (mU:gX s.heap (n+4) a b c)
  (gx:s.heap.IsTupleIter n t1 k) (i7:s.heap.IsTupleIter (n+1) bx k) (vX:s.heap.IsTupleIter (n+2) t3 k) (c3:s.heap.IsTuple t1 xs) (dO:s.heap.IsTuple bx ys) (iG:s.heap.IsTuple t3 zs) (ex:xs[k]?=some x) (eT:ys[k]?=some y) (vT:zs[k]?=some v)
  (q : ∀ g,IsZip g (n+5) (n+3) (n+4) (rawInt s.heap.objs.size)->gX g (n+4) x y v->g.IsTupleIter n t1 (k+1)->g.IsTupleIter (n+1) bx (k+1)->g.IsTupleIter (n+2) t3 (k+1)->gX g s.heap.objs.size x y v ->
   (∀ c o,c≠n+5->c≠n+4->c≠n->c≠n+1->c≠n+2->s.heap.get? c=some o->g.get? c=some o)->Q (.ref s.heap.objs.size) { s with heap:=g }) :
  wpAny (model prog w) A (Builtin.«zip.__next__» ⟨[.ref (n+5)],[]⟩) (λ fin s' => ∃ v,fin=.done (.ret v)/\Q v s') E s:=by
 show wpAny _ _ (field (.ref (n+5)) 2>>=_) _ _ _;refine aI (fN eI rfl (x:=.bool false) rfl ?_);show wpAny _ _ (field (.ref (n+5)) 3>>=_) _ _ _;refine aI (fN eI rfl (x:=.ref (n+3)) rfl (aI (iw jY rfl ?_)));show wpAny _ _ (Builtin.SmallTypes.ownedTupleIsFree (.ref (n+5))>>=_) _ _ _;refine aI ?_;unfold Builtin.SmallTypes.ownedTupleIsFree;refine aI (fN eI rfl (x:=.none) rfl (b2 ?_));simp only [kY];refine aI (s8 (aI (fN eI rfl (x:=.ref (n+4)) rfl (aI (nC eI .zs λ g1 jE s1=>?_)))));replace jE:IsZip g1 (n+5) (n+3) (n+4) .ellipsis:=jE;refine aI ?_;simp only [List.zipIdx_cons,List.zipIdx_nil,List.forIn_cons,List.forIn_nil];refine aI (aI (rr ?_));show wpAny _ _ (Builtin.SmallTypes.nextOf (.ref n)>>=_) _ _ _;refine aI (pull (gx.extBut s1.extBut (n4 .aG)) (c3.extBut s1.extBut (en kq)) ex λ g2 zO s2=>b2 ?_);have pU:gX g2 (n+4) a b c:=s2.extBut _ _ (tW .aG) (s1.extBut _ _ (fL .aG) mU);refine aI (iw pU rfl (aI (En pU λ g3 q5 s3=>?_)));replace q5:gX g3 (n+4) x b c:=q5;refine aI (nD (b2 (aI (aI (rr ?_)))));show wpAny _ _ (Builtin.SmallTypes.nextOf (.ref (n+1))>>=_) _ _ _;have w4:=((i7.extBut s1.extBut (fL .aG)).extBut s2.extBut (tW .aG)).extBut s3.extBut (fL .aG);have w5:=((dO.extBut s1.extBut (en bC)).extBut s2.extBut (d1 bC)).extBut s3.extBut (en bC);refine aI (pull w4 w5 eT λ f6 Eb s4=>b2 ?_);have xq:gX f6 (n+4) x b c:=s4.extBut _ _ (fL .aG) q5;refine aI (iw xq rfl (aI (En xq λ eH q6 s5=>?_)));replace q6:gX eH (n+4) x y c:=q6;refine aI (nD (b2 (aI (aI (rr ?_)))));show wpAny _ _ (Builtin.SmallTypes.nextOf (.ref (n+2))>>=_) _ _ _;have TB:=((((vX.extBut s1.extBut (fL .aG)).extBut s2.extBut (tW .aG)).extBut s3.extBut (fL .aG)).extBut s4.extBut (fL .aG)).extBut s5.extBut (fL .aG);have TN:=((((iG.extBut s1.extBut (en nV)).extBut s2.extBut (d1 nV)).extBut s3.extBut (en nV)).extBut s4.extBut (en nV)).extBut s5.extBut (en nV);refine aI (pull TB TN vT λ tT Vs bI=>b2 ?_);have J3:gX tT (n+4) x y c:=bI.extBut _ _ (fL .aG) q6;refine aI (iw J3 rfl (aI (En J3 λ i6 z7 dA=>?_)));replace z7:gX i6 (n+4) x y v:=z7;refine aI (nD (b2 (b2 (aI (iw z7 rfl (aI (wpAny_newTuple ?_)))))));have l2:i6.objs.size=s.heap.objs.size:=by rw [dA.1,bI.1,s5.1,s4.1,s3.1,s2.1,s1.1]
 have uy:IsZip i6 (n+5) (n+3) (n+4) .ellipsis:=dA.extBut _ _ (fL .aG) (bI.extBut _ _ (fL .aG) (s5.extBut _ _ (fL .aG) (s4.extBut _ _ (fL .aG) (s3.extBut _ _ (fL .aG) (s2.extBut _ _ (tW .aG) jE)))));have Us : ∀ c o,c≠n+5->c≠n+4->c≠n->c≠n+1->c≠n+2->s.heap.get? c=some o->i6.get? c=some o:=λ c o qE i4 cH aJ aN bh =>
  dA.extBut _ _ i4 (bI.extBut _ _ aN (s5.extBut _ _ i4 (s4.extBut _ _ aJ (s3.extBut _ _ i4 (s2.extBut _ _ cH (s1.extBut _ _ qE bh))))))
 have TH:i6.IsTupleIter n t1 (k+1):=((((zO.extBut s3.extBut (n4 .aG)).extBut s4.extBut (n4 .aG)).extBut s5.extBut (n4 .aG)).extBut bI.extBut (n4 .aG)).extBut dA.extBut (n4 .aG);have TK:i6.IsTupleIter (n+1) bx (k+1):=((Eb.extBut s5.extBut (fL .aG)).extBut bI.extBut (fL .aG)).extBut dA.extBut (fL .aG);have TL:i6.IsTupleIter (n+2) t3 (k+1):=Vs.extBut dA.extBut (fL .aG);have pV:n+5<i6.objs.size:=cb uy;show wpAny _ _ (Builtin.SmallTypes.ownedTupleHandOut (.ref (n+5)) (.ref i6.objs.size)>>=_) _ _ _;refine aI ?_;unfold Builtin.SmallTypes.ownedTupleHandOut;have uz:IsZip (i6.push { cls:=.type "tuple", data:=.seq #[x,y,v] }) (n+5) (n+3) (n+4) .ellipsis:=bW _ uy;refine aI (nC uz .zs λ QJ DT iI=>?_);replace DT:IsZip QJ (n+5) (n+3) (n+4) (rawInt i6.objs.size):=DT;refine nC DT .zs λ y7 z8 n6=>?_
 replace z8:IsZip y7 (n+5) (n+3) (n+4) (rawInt i6.objs.size):=z8;have xo : ∀ c o,c≠n+5->i6.get? c=some o->y7.get? c=some o:=λ c o dr bh=>n6.extBut _ _ dr (iI.extBut _ _ dr (bW _ bh))
 have Kq:gX y7 i6.objs.size x y v:=n6.extBut _ _ (hz pV) (iI.extBut _ _ (hz pV) (dI _ rfl));rw [l2] at z8 Kq;refine b2 ⟨_,rfl,?_⟩;show Q (.ref i6.objs.size) _;rw [l2];refine q y7 z8 (xo _ _ (fL .aG) z7) ?_ ?_ ?_ Kq λ c o qE i4 cH aJ aN bh=>xo c o qE (Us c o qE i4 cH aJ aN bh)
 ·obtain ⟨o,e,r⟩:=TH;exact ⟨o,xo _ _ (n4 .aG) e,r⟩
 ·obtain ⟨o,e,r⟩:=TK;exact ⟨o,xo _ _ (fL .aG) e,r⟩
 ·obtain ⟨o,e,r⟩:=TL;exact ⟨o,xo _ _ (fL .aG) e,r⟩
theorem Gi {n:Addr} {k:Nat} {xs:cn} {a b c:Value} {Q:Fin->Shared->Prop} (hd:gu.In A s.heap) (kq:t1<n)
  (eI:IsZip s.heap (n+5) (n+3) (n+4) .none) (jY:gX s.heap (n+3) (.ref n) (.ref (n+1)) (.ref (n+2)))
  (gx:s.heap.IsTupleIter n t1 k) (c3:s.heap.IsTuple t1 xs) (ex:xs[k]?=none)
  (q : ∀ g e,(∀ c o,c≠n+5->c≠n+4->c≠n->c≠n+1->c≠n+2->s.heap.get? c=some o->g.get? c=some o)->(∃ o,g.get? e=some o/\o.cls=.type "StopIteration")->E (.ref e) { s with heap:=g }) :
  wpAny (model prog w) A (Builtin.«zip.__next__» ⟨[.ref (n+5)],[]⟩) Q E s:=by
 show wpAny _ _ (field (.ref (n+5)) 2>>=_) _ _ _;refine aI (fN eI rfl (x:=.bool false) rfl ?_);show wpAny _ _ (field (.ref (n+5)) 3>>=_) _ _ _;refine aI (fN eI rfl (x:=.ref (n+3)) rfl (aI (iw jY rfl ?_)));show wpAny _ _ (Builtin.SmallTypes.ownedTupleIsFree (.ref (n+5))>>=_) _ _ _;refine aI ?_;unfold Builtin.SmallTypes.ownedTupleIsFree;refine aI (fN eI rfl (x:=.none) rfl (b2 ?_));simp only [kY];refine aI (s8 (aI (fN eI rfl (x:=.ref (n+4)) rfl (aI (nC eI .zs λ g1 jE s1=>?_)))));replace jE:IsZip g1 (n+5) (n+3) (n+4) .ellipsis:=jE;refine aI ?_;simp only [List.zipIdx_cons,List.zipIdx_nil,List.forIn_cons,List.forIn_nil];refine aI (aI (rr ?_));show wpAny _ _ (Builtin.SmallTypes.nextOf (.ref n)>>=_) _ _ _;have uf:gu.In A g1:=hd.but eI (λ ag e=>by injection e with e;subst e;exact λ z=>nomatch z) s1.extBut;refine aI (F4 uf (gx.extBut s1.extBut (n4 .aG)) (c3.extBut s1.extBut (en kq)) ex λ g2 e s2 ⟨eN,j1,coe⟩=>?_);have xr:IsZip g2 (n+5) (n+3) (n+4) .ellipsis:=s2 _ _ (tW .aG) jE;have w9:e≠n+5:=λ y=>by
  subst y;rw [xr] at j1;cases j1;simp at coe
 exact nC xr .zs λ g3 _ s3=>q g3 e (λ c o dr _ e9 _ _ y=>s3.extBut _ _ dr (s2 _ _ e9 (s1.extBut _ _ dr y))) ⟨eN,s3.extBut _ _ w9 j1,coe⟩
theorem next_item {n:Addr} {k:Nat} {xs ys zs:cn} {x y v a b c:Value} {Q:dP->Shared->Prop} (kq:t1<n) (bC:bx<n) (nV:t3<n)
  (eI:IsZip s.heap (n+5) (n+3) (n+4) .none) (jY:gX s.heap (n+3) (.ref n) (.ref (n+1)) (.ref (n+2))) (mU:gX s.heap (n+4) a b c)
  (gx:s.heap.IsTupleIter n t1 k) (i7:s.heap.IsTupleIter (n+1) bx k) (vX:s.heap.IsTupleIter (n+2) t3 k) (c3:s.heap.IsTuple t1 xs) (dO:s.heap.IsTuple bx ys) (iG:s.heap.IsTuple t3 zs) (ex:xs[k]?=some x) (eT:ys[k]?=some y) (vT:zs[k]?=some v)
  (q : ∀ g,IsZip g (n+5) (n+3) (n+4) (rawInt s.heap.objs.size)->gX g (n+4) x y v->g.IsTupleIter n t1 (k+1)->g.IsTupleIter (n+1) bx (k+1)->g.IsTupleIter (n+2) t3 (k+1)->gX g s.heap.objs.size x y v ->
   (∀ c o,c≠n+5->c≠n+4->c≠n->c≠n+1->c≠n+2->s.heap.get? c=some o->g.get? c=some o)->Q (some (.ref s.heap.objs.size)) { s with heap:=g }):wpAny (model prog w) A (pyNext (.ref (n+5))) Q E s:=by
 have ty:s.TypeIs (.ref (n+5)) "zip" := ⟨_,eI,rfl⟩
 unfold pyNext;refine aI (p_ (kW (name:=Str.ofString "__next__") ty rt (kX rt ty AS ?_ (AU _))));exact Gh kq bC nV eI jY mU gx i7 vX c3 dO iG ex eT vT λ g d7 ef fz gK d8 gL ho=>b2 (q g d7 ef fz gK d8 gL ho)
theorem Gu {n:Addr} {k:Nat} {xs:cn} {a b c:Value} {Q:dP->Shared->Prop} (hd:gu.In A s.heap) (kq:t1<n)
  (eI:IsZip s.heap (n+5) (n+3) (n+4) .none) (jY:gX s.heap (n+3) (.ref n) (.ref (n+1)) (.ref (n+2)))
  (gx:s.heap.IsTupleIter n t1 k) (c3:s.heap.IsTuple t1 xs) (ex:xs[k]?=none)
  (q : ∀ g,(∀ c o,c≠n+5->c≠n+4->c≠n->c≠n+1->c≠n+2->s.heap.get? c=some o->g.get? c=some o)->Q none { s with heap:=g }):wpAny (model prog w) A (pyNext (.ref (n+5))) Q E s:=by
 have ty:s.TypeIs (.ref (n+5)) "zip" := ⟨_,eI,rfl⟩
 unfold pyNext;refine aI (p_ (kW (name:=Str.ofString "__next__") ty rt (kX rt ty AS ?_ (AU _))));refine Gi (a:=a) (b:=b) (c:=c) hd kq eI jY gx c3 ex λ g e up ⟨eN,j1,coe⟩=>?_
 exact aI (rh (T := "StopIteration") (b:=true) ⟨eN,j1,coe⟩ s9 (b2 (q _ up)))
end
theorem aeb (a b c:Value):checkTypeCall "zip" ⟨[a,b,c],[]⟩=pure ():=by kernel_rfl
theorem adI (a b c:Value):checkBuiltinCall "zip.__new__" ⟨[.type "zip", a,b,c],[]⟩=pure ():=by kernel_rfl
theorem aew (a b c d:Value):argsOk "object.__init__" ⟨[a,b,c,d],[]⟩:=by
 unfold argsOk;rw [signature?_of (id := "object.__init__") (n:=['_','_','t','i','n','i','_','_']) (o:=['t','c','e','j','b','o']) (by kernel_rfl) F.owner_object];kernel_rfl
noncomputable abbrev jf (h:Heap) (t:Addr):Heap:=h.push { cls:=.type "tuple_iterator", data:=.fields #[.ref t,.int 0 0] }
noncomputable abbrev pL (h:Heap) (t1 bx t3:Addr):Heap:=jf (jf (jf h t1) bx) t3
noncomputable abbrev pM (h:Heap) (t1 bx t3:Addr):Heap:=(pL h t1 bx t3).push { cls:=.type "tuple", data:=.seq #[.ref h.objs.size,.ref (jf h t1).objs.size,.ref (jf (jf h t1) bx).objs.size] }
noncomputable abbrev m5 (h:Heap) (t1 bx t3:Addr):Heap:=(pM h t1 bx t3).push { cls:=.type "tuple", data:=.seq #[.none,.none,.none] }
noncomputable abbrev sL (h:Heap) (t1 bx t3:Addr):Heap:=(m5 h t1 bx t3).push { cls:=.type "zip", data:=.fields #[.none,.bool false,.bool false,.ref (pL h t1 bx t3).objs.size,.ref (pM h t1 bx t3).objs.size] }
theorem Gr (t1 bx t3:Addr) (xs ys zs:cn):Meets (Builtin.«zip.__new__» ⟨[.type "zip", .ref t1,.ref bx,.ref t3],[]⟩) (λ _ R s=>s.heap.IsTuple t1 xs/\s.heap.IsTuple bx ys/\s.heap.IsTuple t3 zs/\R (.ok (.ret (.ref (m5 s.heap t1 bx t3).objs.size))) { s with heap:=sL s.heap t1 bx t3 }) :=
 .of_wp λ prog w A R s h=>by
  obtain ⟨de,tU,bD,tt,tZ⟩:=s;obtain ⟨a1,a2,qA,h⟩:=h;have sub:=sub_zip;have d7:Heap.IsTuple (Shared.heap ⟨de,tU,bD,tt,tZ⟩) t1 xs:=a1;have ef:Heap.IsTuple (Shared.heap ⟨jf de t1,tU,bD,tt,tZ⟩) bx ys:=AV a2 _;have fz:Heap.IsTuple (Shared.heap ⟨jf (jf de t1) bx,tU,bD,tt,tZ⟩) t3 zs:=AV (AV qA _) _
  wp_walk using nq d7,nq ef,nq fz
  exact ⟨_,rfl,h⟩
section
variable {E:bY}
theorem make {xs ys zs:cn} {Q:bY} (a1:s.heap.IsTuple t1 xs) (a2:s.heap.IsTuple bx ys) (qA:s.heap.IsTuple t3 zs)
  (q : ∀ g,IsZip g (s.heap.objs.size+5) (s.heap.objs.size+3) (s.heap.objs.size+4) .none->gX g (s.heap.objs.size+3) (.ref s.heap.objs.size) (.ref (s.heap.objs.size+1)) (.ref (s.heap.objs.size+2))->gX g (s.heap.objs.size+4) .none .none .none ->
   g.IsTupleIter s.heap.objs.size t1 0->g.IsTupleIter (s.heap.objs.size+1) bx 0->g.IsTupleIter (s.heap.objs.size+2) t3 0->(∀ c o,s.heap.get? c=some o->g.get? c=some o)->Q (.ref (s.heap.objs.size+5)) { s with heap:=g }) :
  wpAny (model prog w) A (call (.type "zip") [.ref t1,.ref bx,.ref t3]) Q E s:=by
 refine callType_new F.called_zip .aG (aeb _ _ _) (adI _ _ _) (λ obj=>aew obj _ _ _) F.entry_zip_new (Gr t1 bx t3 xs ys zs) ⟨a1,a2,qA,?_⟩;have dr:(jf s.heap t1).objs.size=s.heap.objs.size+1:=fX ..;have d0:(jf (jf s.heap t1) bx).objs.size=s.heap.objs.size+2:=by rw [fX,dr]
 have e9:(pL s.heap t1 bx t3).objs.size=s.heap.objs.size+3:=by rw [fX,d0]
 have hU:(pM s.heap t1 bx t3).objs.size=s.heap.objs.size+4:=by rw [fX,e9]
 have ib:(m5 s.heap t1 bx t3).objs.size=s.heap.objs.size+5:=by rw [fX,hU]
 have Ce:(sL s.heap t1 bx t3).get? (m5 s.heap t1 bx t3).objs.size=some _:=dI _ rfl;have pa:(sL s.heap t1 bx t3).get? (pM s.heap t1 bx t3).objs.size=some _:=bW _ (dI _ rfl);have o_:(sL s.heap t1 bx t3).get? (pL s.heap t1 bx t3).objs.size=some _:=bW _ (bW _ (dI _ rfl));have hq:(sL s.heap t1 bx t3).get? (jf (jf s.heap t1) bx).objs.size=some _:=bW _ (bW _ (bW _ (dI _ rfl)));have cS:(sL s.heap t1 bx t3).get? (jf s.heap t1).objs.size=some _:=bW _ (bW _ (bW _ (bW _ (dI _ rfl))));have p1:(sL s.heap t1 bx t3).get? s.heap.objs.size=some _:=bW _ (bW _ (bW _ (bW _ (bW _ (dI _ rfl)))));show _/\_;rw [e9,hU,ib] at Ce;rw [dr,d0,e9] at o_;rw [hU] at pa;rw [d0] at hq;rw [dr] at cS;rw [ib];exact ⟨⟨_,Ce,rfl⟩,q _ Ce o_ pa ⟨_,p1,rfl,rfl⟩ ⟨_,cS,rfl,rfl⟩ ⟨_,hq,rfl,rfl⟩ λ c o y=>bW _ (bW _ (bW _ (bW _ (bW _ (bW _ y)))))⟩
end
end vM
namespace bC
open PySem PySem.Spec PyProof.Rows vM
noncomputable def CH (K:dc) (a b c:Addr):hB :=
 ⟨λ i H => ∃ xs ys zs x y v,aP K H a xs/\aP K H b ys/\aP K H c zs/\xs[i]?=some x/\ys[i]?=some y/\zs[i]?=some v,
 λ i H w H' => ∃ p,H p=none/\w=.ref p /\ ∃ x y v,H'=upd H p (.tup [x,y,v]) /\ ∀ xs ys zs,aP K H a xs->aP K H b ys->aP K H c zs->xs[i]?=some x/\ys[i]?=some y/\zs[i]?=some v,
 λ i H => ∃ xs,aP K H a xs/\xs.length<=i⟩
theorem abG {P:Program} {a_:Expr} (fb:ju a_=true) {n b c:Addr} (kq:a<n) (bC:b<n) (nV:c<n) :
  Turn P w K B1 a_ (CH K a b c) [n+5,n+4,n,n+1,n+2,n+3] (n+5) (λ i h=>IsZip h (n+5) (n+3) (n+4) .none/\gX h (n+3) (.ref n) (.ref (n+1)) (.ref (n+2))/\(∃ u v w,gX h (n+4) u v w)/\h.IsTupleIter n a i/\h.IsTupleIter (n+1) b i/\h.IsTupleIter (n+2) c i) where
 mem:=d2
 obj:=λ i h st bG aj=>by
  obtain ⟨I,ah,⟨u,v,gS,aD⟩,⟨jx,aL,_,rW⟩,⟨zc,cp,_,Qy⟩,⟨Cd,g9,_,Qz⟩⟩:=st;have j9 : ∀ {o:Obj} {ag:cn},o.data=.fields ag -> ∀ v,o.data≠.cell v:=λ e v q=>by rw [e] at q;cases q
  have xa : ∀ {o:Obj} {ag:cn} {n:Nat},o.data=.seq ag n -> ∀ v,o.data≠.cell v:=λ e v q=>by rw [e] at q;cases q
  simp only [c8,gg,gh] at aj;rcases aj with rfl | rfl | rfl | rfl | rfl | rfl
  ·exact ⟨_,I,j9 rfl⟩
  ·exact ⟨_,aD,xa rfl⟩
  ·exact ⟨_,aL,j9 rW⟩
  ·exact ⟨_,cp,j9 Qy⟩
  ·exact ⟨_,g9,j9 Qz⟩
  ·exact ⟨_,ah,xa rfl⟩
 keep:=λ i h h' st k=>by
  obtain ⟨I,ah,⟨u,v,gS,aD⟩,⟨jx,aL,gn⟩,⟨zc,cp,kz⟩,⟨Cd,g9,v7⟩⟩:=st;exact ⟨k _ .zs _ I,k _ .zs _ ah,⟨u,v,gS,k _ .zs _ aD⟩,⟨jx,k _ .zs _ aL,gn⟩,⟨zc,k _ .zs _ cp,kz⟩,⟨Cd,k _ .zs _ g9,v7⟩⟩
 item:=by
  intro X b8 hw dp j4 aj i pins s σ H E C hf st aR;subst b8 hw dp;obtain ⟨I,ah,⟨u,v,gS,aD⟩,aL,cp,g9⟩:=st;obtain ⟨xs,ys,zs,x,y,z,b3,dv,pd,ae,a8,aS⟩:=aR;obtain ⟨its,cM,i8,_⟩:=C.tuple b3;obtain ⟨ur,ik,mS,_⟩:=C.tuple dv;obtain ⟨DE,JJ,pc,_⟩:=C.tuple pd;obtain ⟨iK,mZ,pO⟩:=cM.get ae;obtain ⟨mT,CQ,DN⟩:=ik.get a8;obtain ⟨Cr,Ri,Ud⟩:=JJ.get aS;refine vM.next_item kq bC nV I ah aD aL cp g9 (show s.heap.IsTuple a its.toArray from i8) (show s.heap.IsTuple b ur.toArray from mS) (show s.heap.IsTuple c DE.toArray from pc) (x:=iK) (y:=mT) (v:=Cr) (by simpa using mZ) (by simpa using CQ) (by simpa using Ri) λ g d7 ef fz gK d8 gL ho=>?_
  refine ⟨_,rfl,?_⟩;have pV:n+5<s.heap.objs.size:=cb I;cases a_ with
  | Tuple es df pp =>
   refine wpAny_letOwnedTupleGo_zip d7 λ g' fg eg=>?_
   have new:gX g' s.heap.objs.size iK mT Cr:=eg.extBut _ _ (hz pV) gL;have bg:Inv X pins σ (upd H s.heap.objs.size (.tup [x,y,z])) { s with heap:=g' }:=by
    refine C.yB (t':=s.toks) (L:=[n+5,n+4,n,n+1,n+2,n+3]) (λ c o c5 e=>?_) hf (br _) ⟨by show 3<=sizeLine;decide,[iK,mT,Cr],.cons pO (.cons DN (.cons Ud .nil)),⟨_,new,rfl,⟨0,rfl⟩,rfl⟩⟩;simp only [c8,gg,gh,not_or] at c5;exact eg.extBut c o c5.1 (ho c o c5.1 c5.2.1 c5.2.2.1 c5.2.2.2.1 c5.2.2.2.2.1 e)
   have wC:gX g' (n+3) (.ref n) (.ref (n+1)) (.ref (n+2)):=eg.extBut _ _ (fL .aG) (ho _ _ (fL .aG) (fL .aG) (tW .aG) (fL .aG) (fL .aG) ah);refine ⟨.ref s.heap.objs.size,_,bg,rfl,⟨_,C.fresh,rfl,x,y,z,rfl,λ z5 hL pW ba cm gP=>⟨by rw [C.vB ba b3];exact ae,by rw [C.vB cm dv];exact a8,by rw [C.vB gP pd];exact aS⟩⟩,⟨fg,wC,⟨_,_,_,eg.extBut _ _ (fL .aG) ef⟩,fz.extBut eg.extBut (n4 .aG),gK.extBut eg.extBut (fL .aG),d8.extBut eg.extBut (fL .aG)⟩,λ c dH=>?_⟩;obtain ⟨o,b1,_⟩ : ∃ o,s.heap.get? c=some o/\True:=by
    simp only [c8,gg,gh] at dH;rcases dH with rfl | rfl | rfl | rfl | rfl | rfl
    ·exact ⟨_,I,trivial⟩
    ·exact ⟨_,aD,trivial⟩
    ·obtain ⟨jx,f6,_⟩:=aL;exact ⟨_,f6,trivial⟩
    ·obtain ⟨zc,eH,_⟩:=cp;exact ⟨_,eH,trivial⟩
    ·obtain ⟨Cd,tT,_⟩:=g9;exact ⟨_,tT,trivial⟩
    ·exact ⟨_,ah,trivial⟩
   rw [bw (d1 (cb b1))];exact (hf c dH).1
  | _=>exact absurd (show false=true from fb) fc
 done:=by
  intro X b8 hw dp j4 aj i pins s σ H E C hf st aR;subst b8 hw dp;obtain ⟨I,ah,⟨u,v,gS,aD⟩,aL,cp,g9⟩:=st;obtain ⟨xs,b3,ar⟩:=aR;obtain ⟨its,cM,i8,_⟩:=C.tuple b3;have aJ:=cM.length;refine vM.Gu (a:=.none) (b:=.none) (c:=.none) (C.j3 aj) kq I ah aL (show s.heap.IsTuple a its.toArray from i8) (by simp;omega) λ g up=>⟨rfl,?_⟩
  refine C.ym (t':=s.toks) (L:=[n+5,n+4,n,n+1,n+2,n+3]) (λ c o c5 e=>?_) hf;simp only [c8,gg,gh,not_or] at c5;exact up c o c5.1 c5.2.1 c5.2.2.1 c5.2.2.2.1 c5.2.2.2.2.1 e
 self:=λ _ _ _ _ _ st h=>AW st.1 h
section
variable {X:a7} {a_:Expr}
theorem vals3 {x z:V} (h:Vals [x,y,z] us) : ∃ u v w,us=[u,v,w]/\RelV x u/\RelV y v/\RelV z w:=by
 cases h with
 | cons I h =>
  cases h with
  | cons ah h =>
   cases h with
   | cons aD h =>
    cases h;exact ⟨_,_,_,rfl,I,ah,aD⟩
noncomputable def V5 (K:dc) (bq:dh):TI:=λ σ H R=>bq σ H λ ag H1 => ∃ a b c,ag=[.ref a,.ref b,.ref c]/\(∃ xs,aP K H1 a xs)/\(∃ ys,aP K H1 b ys)/\(∃ zs,aP K H1 c zs)/\R (CH K a b c) H1
theorem YQ {dT:Expr} {bq:dh} {p pos:Pos} (fb:ju a_=true) (aR:d6 X "zip") (hm:X.ax "zip" = none) (au:gJ X [aJ,aN,dT] bq) (aF:starEach [aJ,aN,dT] X.env=[(false,eval aJ X.env),(false,eval aN X.env),(false,eval dT X.env)]:=by rfl) (hI:starEach [aN,dT] X.env=[(false,eval aN X.env),(false,eval dT X.env)]:=by rfl)
  (af:bootBuiltins "zip" = some (.type "zip"):=by decide +kernel):iC X a_ (.Call (.Name "zip" p) [aJ,aN,dT] [] pos) (V5 X.K bq):=⟨by
 intro pins s σ H R C h;refine Call_ (lE C aR hm af (oT (bQ (au.o pos pins s σ H _ C h) λ us s1 ⟨ag,H1,bg,bV,ba⟩=>?_) (by rw [aF,hI]) (by rw [hI];rfl)));obtain ⟨a,b,c,e,⟨xs,b3⟩,⟨ys,dv⟩,⟨zs,pd⟩,q⟩:=ba;subst e;obtain ⟨fR,gp,jV,rfl,dw,pe,rc⟩:=vals3 bV;cases dw;cases pe;cases rc;obtain ⟨its,cM,i8,_⟩:=bg.tuple b3;obtain ⟨ur,ik,mS,_⟩:=bg.tuple dv;obtain ⟨DE,JJ,pc,_⟩:=bg.tuple pd;have lj:a<s1.heap.objs.size:=by obtain ⟨o,e,_⟩:=i8;exact cb e
 have vY:b<s1.heap.objs.size:=by obtain ⟨o,e,_⟩:=mS;exact cb e
 have lc:c<s1.heap.objs.size:=by obtain ⟨o,e,_⟩:=pc;exact cb e
 refine vM.make (show s1.heap.IsTuple a its.toArray from i8) (show s1.heap.IsTuple b ur.toArray from mS) (show s1.heap.IsTuple c DE.toArray from pc) λ g fi eV kD CD CE Q4 up=>?_
 refine AW fi ?_;have dd:Inv X pins σ H1 { s1 with heap:=g }:=bg.kept (t':=s1.toks) up;refine ⟨_,[s1.heap.objs.size+5,s1.heap.objs.size+4,s1.heap.objs.size,s1.heap.objs.size+1,s1.heap.objs.size+2,s1.heap.objs.size+3],_,_,H1,rfl,dd,abG fb lj vY lc,⟨fi,eV,⟨_,_,_,kD⟩,CD,CE,Q4⟩,λ c aj=>?_,q⟩;have big:s1.heap.objs.size<=c:=by
  simp only [c8,gg,gh] at aj;rcases aj with rfl | rfl | rfl | rfl | rfl | rfl
  ·exact mC _ _
  ·exact mC _ _
  ·exact br _
  ·exact mC _ _
  ·exact mC _ _
  ·exact mC _ _
 exact bg.pY big (bg.bX.fresh big)⟩
end
end bC
namespace du
open PySem bC ft
theorem acZ {a4:TE} {Q:bN} {t:V->Bool} (az:xs.length<=sizeLine) (ao : ∃ u,pick js σ=u::σ0) (aT:H1 D=none)
  (au:H1 a=some (.lst xs))
  (aW : ∀ (x:V) (H':aA) (R:Bool->aA->Prop),aB H1 H'->x∈xs->R (t x) H'->dx (some x::σ0) H' R)
  (aF : ∀ (x:V) (H':aA) (R:bN),aB H1 H'->x∈xs->t x=true->R x H'->a4 (some x::σ0) H' R)
  (q : ∀ H',aB H1 H'->H' D=some (.lst (xs.filter t))->Q (.ref D) H'):gF (oc K a) D js (e4 0) dx a4 σ H1 Q:=by
 obtain ⟨e_,ao⟩:=ao;refine MI (n:=xs.length) az (λ i σ' H' zs=>(∃ u:cq,σ'=u::σ0)/\aB H1 H'/\H' D=some (.lst zs)/\zs.length<=i/\zs=(xs.take i).filter t) ⟨⟨e_,ao⟩,aB.new aT,bK,br _,rfl⟩ (λ i σ' H' zs _ ⟨_,_,aD,aL,_⟩=>⟨aD,aL⟩) (λ i σ' H' zs aq ⟨_,s',_⟩=>⟨_,xs[i],aQ.of (s' _ _ au),bz aq⟩) (λ σ' H' zs ⟨_,s',aD,_,e⟩=>⟨⟨_,aQ.of (s' _ _ au),br _⟩,?_⟩) ?_
 ·refine q H' s' ?_;rw [aD,e,kn]
 ·rintro i σ' H' zs x ay aq ⟨⟨u,rfl⟩,s',aD,aL,e⟩ ⟨rfl,ae⟩;have dF:=ae _ (aQ.of (s' _ _ au));have w2:(xs.take (i+1)).filter t=(xs.take i).filter t++(if t x=true then [x] else []):=by
   rw [eC,dF];simp only [Option.toList_some,u7];congr 1;by_cases z:t x=true
   ·simp [z]
   ·simp [z]
  refine aW x _ _ s' (cf dF) ?_;cases fD:t x with
  | true =>
   refine aF x _ _ s' (cf dF) fD ⟨aD,⟨_,rfl⟩,?_,bK,?_,?_⟩
   ·intro c o bF;rw [bw (bT bF aT)];exact s' c o bF
   ·rw [cJ];show zs.length+1<=i+1;omega
   ·rw [w2,e];simp [fD]
  | false =>
   refine ⟨aD,⟨_,rfl⟩,s',aD,.ab,?_⟩;rw [w2,e];simp [fD]
end du
namespace ft
theorem Lh {p:Nat} (ao:2<=p) (az:1<=n) (af:n<=1000000000000):cnt p n<40:=by
 have e:=yp ao n az;have I:p ^ cnt p n<=n:=by
  have aF:=yA ao n az
  calc p ^ cnt p n<=p ^ cnt p n * strip p n:=Nat.le_mul_of_pos_right _ aF
   _=n:=e.symm
 have ah:2 ^ cnt p n<=p ^ cnt p n:=Nat.pow_le_pow_left ao _;have aD:2 ^ cnt p n<2 ^ 40:=by
  have:(1000000000000:Nat)<2 ^ 40:=by decide
  omega
 exact (Nat.pow_lt_pow_iff_right .aG).mp aD
theorem WK {i j:Nat} (aq:1<=i) (aY:1<=j) (bi:i<=1000000000000) (Qq:j<=1000000000000) {x:Int} (h:x∈chg i j) : -40<x/\x<40:=by
 obtain ⟨k,aE⟩:=gk h;unfold chg at aE;rw [gH] at aE;obtain ⟨a,b,au,af,rfl⟩:=aE;have hm:=cf au;have l9:=cf af;unfold bH at hm l9;obtain ⟨p,ao,rfl⟩:=dz.mp hm;obtain ⟨dV,dR,rfl⟩:=dz.mp l9;have:=Lh (nB p ao) aq bi;have:=Lh (nB dV dR) aY Qq;omega
end ft
namespace bC
open PySem PySem.Spec PyProof.Rows
section
variable {X:a7} {dN:kE} {k:Nat} {f:Addr} {fd:FuncData} {ps:cE} {sp:b9} {E:jQ} {x:Str} {p pos:Pos} {e:Expr} {es:List Expr} {t:dh} {i:Nat}
theorem AL (bM:X.A.units+1<cLine):dt X (compareOp .NotEq) (λ x y H Q => ∃ (a b:Addr) (ns ms:aw),x=.ref a/\y=.ref b/\H a=some (.tup (ns.map V.int))/\H b=some (.tup (ms.map V.int))/\Q (.aH (!decide (ns=ms))) H):=by
 intro pins s σ H x y v u Q C bA bL h;obtain ⟨a,b,ns,ms,rfl,rfl,au,af,q⟩:=h;cases bA;cases bL;obtain ⟨its,bV,p1,_⟩:=C.tuple (aP.of au);obtain ⟨lA,cu,cS,_⟩:=C.tuple (aP.of af);have aq:=intsAre_of bV;have aY:=intsAre_of cu;have aJ:=aq.length;have aN:=aY.length;have:=SeqAt.RcNeAt.tuples (A:=X.A) (s:=s) (e:=λ j=>ns.getD j 0 == ms.getD j 0) p1 cS (uQ bM) λ j I ah=>by
  obtain ⟨t,rY⟩:=aq.int_at j its.toArray[j] .zs;obtain ⟨t',CP⟩:=aY.int_at j lA.toArray[j] .zs;rw [rY,CP];exact EN _ _ _ _
 rw [eu,eu,aJ,aN,Pm] at this;exact this X.prog X.w _ _ ⟨.aH _,H,C,rfl,q⟩
end
open PySem
theorem rI {X:a7} (dp:X.K=K):t9 X (Ku K):=by
 subst dp;exact f3
end bC
namespace lz
open PySem PyProof.Rows
open PySem.SeqAt
open PySem.AutoSeq1 (wpAny_loadPart')
open PySem.MeetsSeq PySem.MeetsSeq2 PySem.MeetsSeq3
noncomputable def hK (a b:Int×Int):Bool:=decide (a.1<b.1\/(a.1=b.1/\a.2<b.2))
noncomputable abbrev rb (items:cn) (n:Nat) (bD:Option Addr) (cZ:Array dP):Obj:={ cls:=.type "tuple", dict:=bD,data:=.seq items n,slots:=cZ }
theorem Y6 (l b:Addr) (items AH:cn) (n d0:Nat) (bD ua:Option Addr) (cZ uw:Array dP) {a1 a2 d7 ef:Int} {t1 bx fR gp:Tok} {bV cu:List Value} (aq:items.toList=.int a1 t1::.int a2 bx::bV) (aY:AH.toList=.int d7 fR::.int ef gp::cu) (dD : ¬ (a1=d7/\a2=ef)) :
  Meets (Builtin.«tuple.__lt__» ⟨[.ref l,.ref b],[]⟩) (λ _ R s=>s.heap.get? l=some (rb items n bD cZ)/\s.heap.get? b=some (rb AH d0 ua uw)/\R (.ok (.ret (.bool (hK (a1,a2) (d7,ef))))) s) :=
 .of_wp λ prog w A R s h=>by
  obtain ⟨ao,g,d,bE,os⟩:=s;obtain ⟨ar,af,h⟩:=h;have f2:=AutoSeq1.sub_tuple_tuple
  wp_walk using mD ar,mD af,wpAny_forIn_list _ (λ rest b s'=>b.1=none/\s'=⟨ao,g,d,bE,os⟩/\(rest=(Value.int a1 t1,Value.int d7 fR)::(Value.int a2 bx,Value.int ef gp)::bV.zip cu\/(a1=d7/\rest=(Value.int a2 bx,Value.int ef gp)::bV.zip cu))) _
  case turn =>
   rintro ⟨y,x⟩ rest b s' ⟨fD,rfl,aS⟩;rcases aS with aS | ⟨aJ,aS⟩
   ·injection aS with DB KV;injection DB with a8 ae;subst a8 ae;obtain ⟨e,he,Ae⟩:=el.MP A.in1 ⟨ao,g,d,bE,os⟩ a1 t1 d7 fR;refine aI (he prog w _ _ ?_);cases e with
    | true =>
     wp_walk
     exact ⟨rfl,rfl,.inr ⟨Ae.mp rfl,KV⟩⟩
    | false =>
     have az:a1≠d7:=λ q=>absurd (Ae.mpr q) fc
     have gD:=el.Ng A.in1 ⟨ao,g,d,bE,os⟩ a1 t1 d7 fR prog w;have fA:hK (a1,a2) (d7,ef)=decide (a1<d7):=by
      unfold hK;simp [az]
     rw [fA] at h
     wp_walk using gD
     exact ⟨_,rfl,by simpa using h⟩
   ·injection aS with DB KV;injection DB with a8 ae;subst a8 ae;obtain ⟨e,he,Ae⟩:=el.MP A.in1 ⟨ao,g,d,bE,os⟩ a2 bx ef gp;refine aI (he prog w _ _ ?_);cases e with
    | true=>exact absurd ⟨aJ,Ae.mp rfl⟩ dD
    | false =>
     have gD:=el.Ng A.in1 ⟨ao,g,d,bE,os⟩ a2 bx ef gp prog w;have fA:hK (a1,a2) (d7,ef)=decide (a2<ef):=by
      unfold hK;simp [aJ]
     rw [fA] at h
     wp_walk using gD
     exact ⟨_,rfl,by simpa using h⟩
  case fin =>
   rintro ⟨aeV,zk⟩ s' ⟨fD,rfl,aS⟩;rcases aS with aS | ⟨_,aS⟩<;>cases aS
  case h =>
   refine ⟨rfl,rfl,.inl ?_⟩;rw [aq,aY];rfl
section
variable {E:bY}
noncomputable def t6 (h:Heap) (v:Value) (p:Int×Int):Prop := ∃ a items t u r,v=.ref a/\h.IsTuple a items/\items.toList=.int p.1 t::.int p.2 u::r
theorem UM {v iL:Value} {p q:Int×Int} {Q:bY} (bl:t6 s.heap v p) (hJ:t6 s.heap iL q) (dD:p≠q) (bM:A.units<cLine) (h:Q (.bool (hK p q)) s):wpAny (model prog w) A (richCompare .Lt v iL) Q E s:=by
 obtain ⟨a,items,t,u,r,rfl,aW,aq⟩:=bl;obtain ⟨b,AH,t',i_,bU,rfl,j6,aY⟩:=hJ;obtain ⟨⟨cls,bD,data,cZ⟩,a0,aj,n,hd⟩:=id aW;obtain ⟨⟨UL,ua,data2,uw⟩,sE,pE,d0,hd2⟩:=id j6;simp only at aj hd pE hd2;subst aj hd pE hd2;exact richCompare_meets_room (op:=.Lt) ⟨_,a0,rfl⟩ ⟨_,sE,rfl⟩ PySem.F.slot_tuple_lt PySem.F.entry_tuple_lt (PySem.F.args_tuple_lt_2 _ _) (Y6 a b items AH n d0 bD ua cZ uw aq aY λ z=>dD (Prod.ext z.1 z.2)) ⟨a0,sE,show Value.bool (hK p q)≠Value.notImplemented/\Q (.bool (hK p q)) s from ⟨(λ x=>nomatch x),h⟩⟩ bM
end
theorem Fj (c0:Nat->Nat->Bool) : ∀ k,argBest c0 k<=k
 | 0=>br _
 | k+1=>by
  simp only [argBest];split
  ·exact br _
  ·exact Nat.le_succ_of_le (Fj c0 k)
section
variable {R:Result->Shared->Prop} {C:Addr} {wr:List Addr} {P:Nat->Value->Prop} {St:Nat->Heap->Prop}
theorem more (W:Walks prog w A.in1 C a3 wr n P St) (c0:Nat->Nat->Bool) (xv : ∀ i j n9 l3 (s:Shared) (k:Nat) (Q:bY) (E:bY),P i n9->P j l3->i≠j->St k s.heap->Q (.bool (c0 i j)) s->wpAny (model prog w) A.in1 (richCompare .Lt n9 l3) Q E s) (S:Addr) (oh:S∉a3) (kw:List (Str×Value)) :
  ∀ (k j:Nat) (s:Shared) (ph:Value) (c:Nat),n - (j+1)=k->j+1<=n->St (j+1) s.heap->P (argBest c0 j) ph ->
  s.heap.get? S=some { cls:=.type "list", dict:=none,data:=.seq #[ph,ph] c,slots:=#[] } ->
  (∀ v h' bE,P (argBest c0 (n - 1)) v->(∀ b o,b∉wr->b≠S->s.heap.get? b=some o->h'.get? b=some o)->R (.ok (.ret v)) { s with heap:=h',toks:=bE }) ->
  codeAny (model prog w) A (.builtin "min.loop" ⟨[.ref C,.none,.ref S],kw⟩) R s:=by
 have zw:S∉wr:=λ h=>oh (W.sub _ h)
 have uM:(toString "min" ++ toString ".loop" : String) = "min.loop" := by decide
 intro k
 induction k with
 | zero =>
  intro j s ph c aE aY dk wG c1 b4;have j3:j+1=n:=by omega
  refine u1 F.entry_min_loop ?_;rw [Around.under_plainId tm _];show wpAny _ A.in1 (seqItems? (.ref S)>>=_) _ _ s;refine aI (iw c1 rfl ?_);show wpAny _ A.in1 (tryCatch (pyNext (.ref C)) _>>=_) _ _ s;refine aI (AX (W.done s _ _ (j3 ▸ dk) λ h' bE gC=>?_));have kM:=gC S _ zw c1;show wpAny _ A.in1 (updateSeq S (λ _=>#[])>>=_) _ _ _;refine aI ?_;refine x8 kM rfl (aI (nD (b2 ?_)));refine b4 ph _ bE (by rw [<-j3];exact wG) λ b o l7 pC e=>(p9 _ _ (nt pC)).trans (gC b o l7 e)
 | succ k b0 =>
  intro j s ph c aE aY dk wG c1 b4;have dg:j+1<n:=by omega
  refine u1 F.entry_min_loop ?_;rw [Around.under_plainId tm _];show wpAny _ A.in1 (seqItems? (.ref S)>>=_) _ _ s;refine aI (iw c1 rfl ?_);show wpAny _ A.in1 (tryCatch (pyNext (.ref C)) _>>=_) _ _ s;refine aI (AX (W.item (j+1) s _ _ dg dk λ v h' bE b8 xC gC=>?_));have kM:=gC S _ zw c1;show wpAny _ A.in1 (tryCatch (holding [v,v] (richCompare .Lt v ph>>=_)) _>>=_) _ _ _;refine aI (AX (kg (aI (xv (j+1) (argBest c0 j) v ph _ _ _ _ b8 wG (hz (Nat.lt_succ_of_le (Fj c0 j))) xC ?_))));refine aI (kg (s_ ?_));refine aI (nD (b2 ?_));cases af:c0 (j+1) (argBest c0 j) with
  | true =>
   simp only [kY];refine aI ?_;refine x8 kM rfl (aI (nD ?_));rw [uM];refine b2 ⟨u2 tm _,b0 (j+1) _ v _ .ab dg (W.frame _ _ _ xC λ b C3 o e=>?_) (by simp only [argBest,af,kY];exact b8) (s7 _ kM rfl)
    λ iL wB xF kL xx=>?_⟩
   ·exact (p9 _ _ (λ h:S=b=>oh (by rw [h];exact C3))).trans e
   ·exact b4 iL wB xF kL λ b o l7 pC e=>xx b o l7 pC ((p9 _ _ (nt pC)).trans (gC b o l7 e))
  | false =>
   simp only [xT,if_false];refine aI (nD ?_);rw [uM];refine b2 ⟨u2 tm _,b0 (j+1) _ ph c .ab dg xC (by simp only [argBest,af,xT,if_false];exact wG) kM λ iL wB xF kL xx=>?_⟩;exact b4 iL wB xF kL λ b o l7 pC e=>xx b o l7 pC (gC b o l7 e)
theorem first (W:Walks prog w A.in1 C a3 wr n P St) (c0:Nat->Nat->Bool) (xv : ∀ i j n9 l3 (s:Shared) (k:Nat) (Q:bY) (E:bY),P i n9->P j l3->i≠j->St k s.heap->Q (.bool (c0 i j)) s->wpAny (model prog w) A.in1 (richCompare .Lt n9 l3) Q E s) (S:Addr) (oh:S∉a3) (kw:List (Str×Value)) (az:0<n) {c:Nat} (dk:St 0 s.heap)
  (c1:s.heap.get? S=some { cls:=.type "list", dict:=none,data:=.seq #[] c,slots:=#[] })
  (b4 : ∀ v h' bE,P (argBest c0 (n - 1)) v->(∀ b o,b∉wr->b≠S->s.heap.get? b=some o->h'.get? b=some o)->R (.ok (.ret v)) { s with heap:=h',toks:=bE }) :
  codeAny (model prog w) A (.builtin "min.loop" ⟨[.ref C,.none,.ref S],kw⟩) R s:=by
 have zw:S∉wr:=λ h=>oh (W.sub _ h)
 have uM:(toString "min" ++ toString ".loop" : String) = "min.loop" := by decide
 refine u1 F.entry_min_loop ?_;rw [Around.under_plainId tm _];show wpAny _ A.in1 (seqItems? (.ref S)>>=_) _ _ s;refine aI (iw c1 rfl ?_);show wpAny _ A.in1 (tryCatch (pyNext (.ref C)) _>>=_) _ _ s;refine aI (AX (W.item 0 s _ _ az dk λ v h' bE b8 xC gC=>?_));have kM:=gC S _ zw c1;show wpAny _ A.in1 (updateSeq S (λ _=>#[v,v])>>=_) _ _ _;refine aI ?_;refine x8 kM rfl ?_;rw [uM];refine b2 ⟨u2 tm _,more W c0 xv S oh kw _ 0 _ v _ rfl az (W.frame _ _ _ xC λ b C3 o e=>?_) b8 (s7 _ kM rfl) λ iL wB xF kL xx=>?_⟩
 ·exact (p9 _ _ (λ h:S=b=>oh (by rw [h];exact C3))).trans e
 ·exact b4 iL wB xF kL λ b o l7 pC e=>xx b o l7 pC ((p9 _ _ (nt pC)).trans (gC b o l7 e))
end
section
variable {E:bY}
theorem aaE {x:Value} {Q:bY}
  (h:wpAny (model prog w) A.in1 (pyIter x) (λ it s₂ => ∃ C a3 wr n P St c0,it=.ref C/\Walks prog w A.in1 C a3 wr n P St/\St 0 s₂.heap/\(∀ b∈a3,b<s₂.heap.objs.size)/\0<n/\(∀ i j n9 l3 (s:Shared) (k:Nat) (Q:bY) (E:bY),P i n9->P j l3->i≠j->St k s.heap->Q (.bool (c0 i j)) s->wpAny (model prog w) A.in1 (richCompare .Lt n9 l3) Q E s) /\
   ∀ v h' bE,P (argBest c0 (n - 1)) v->(∀ b o,b∉wr->s₂.heap.get? b=some o->h'.get? b=some o)->Q v { s₂ with heap:=h',toks:=bE }) E s):wpAny (model prog w) A (call (.builtin "min") [x]) Q E s:=by
 have uM:(toString "min" ++ toString ".loop" : String) = "min.loop" := by decide
 refine call_function_tree F.kind_min F.plain_min F.entry_min (F.args_min1 x) ?_;show wpAny _ A.in1 (Builtin.Builtins.bindParams "min" ["key", "default"] 0 ⟨[],[]⟩>>=_) _ _ s;refine aI (wpAny_of_eq (show Builtin.Builtins.bindParams "min" ["key", "default"] 0 ⟨[],[]⟩=pure [none,none] from rfl) (aI (b2 ?_)));refine aI (mv h (λ it s₂ h₂=>?_) λ _ _ e=>e);obtain ⟨C,a3,wr,n,P,St,c0,rfl,W,dk,zz,az,xv,fp⟩:=h₂;refine aI (mj ?_);have oh:s₂.heap.objs.size∉a3:=λ hm=>iW _ (zz _ hm)
 rw [uM];refine b2 ⟨u2 tm _,first W c0 xv s₂.heap.objs.size oh _ az (W.frame _ _ _ dk λ b _ o e=>bW _ e) (dI _ rfl) λ v h' bE b8 aE=>?_⟩;exact fp v h' bE b8 λ b o l7 e=>aE b o l7 (d1 (cb e)) (bW _ e)
theorem walk {C:Addr} {items:cn} {ps:cx} {tv:List Addr} (hd:A.handled=none) (dD:l≠C) (gm:C∉tv):Walks prog w A C (C::l::tv) [C] items.size (λ i v=>items[i]?=some v) (λ i h=>(h.IsListIter C l i/\h.IsList l items) /\ ∀ (k:Nat) v,items[k]?=some v -> ∃ a∈tv,v=.ref a /\ ∃ p,ps[k]?=some p/\t6 h v p):=by
 have W:=Walks.list (prog:=prog) (w:=w) (A:=A) hd C l dD items;have keep : ∀ {h h':Heap},(∀ b∈tv,∀ o,h.get? b=some o->h'.get? b=some o)->(∀ (k:Nat) v,items[k]?=some v -> ∃ a∈tv,v=.ref a /\ ∃ p,ps[k]?=some p/\t6 h v p) -> ∀ (k:Nat) v,items[k]?=some v -> ∃ a∈tv,v=.ref a /\ ∃ p,ps[k]?=some p/\t6 h' v p:=λ {h h'} df af k v bl=>by
  obtain ⟨a,au,e,p,ao,hn,its,t,u,r,bF,⟨o,a0,rest⟩,hit⟩:=af k v bl;refine ⟨a,au,e,p,ao,hn,its,t,u,r,bF,⟨o,df _ ?_ _ a0,rest⟩,hit⟩;rw [e] at bF;cases bF;exact au
 refine ⟨λ b af=>?_,λ i h h' st aE=>⟨W.frame i h h' st.1 λ b af o e=>aE b ?_ o e,keep (λ b af o e=>aE b (by simp [af]) o e) st.2⟩,λ i s Q E aq st fp=>?_,λ s Q E st fp=>?_,λ i s Q E st fp=>W.self i s Q E st.1 fp⟩
 ·rw [ix] at af;rw [af];exact d2
 ·simp only [c8,gg,gh] at af;rcases af with rfl | rfl<;>simp
 ·refine W.item i s Q E aq st.1 λ v h' bE bl md df=>fp v h' bE bl ⟨md,keep (λ b af o e=>df b o (λ z=>?_) e) st.2⟩ df
  rw [ix] at z;exact gm (z ▸ af)
 ·exact W.done s Q E st.1 fp
end
theorem FE {a b:Int×Int}:hK a b=true ↔ (a.1<b.1\/(a.1=b.1/\a.2<b.2)):=by
 unfold hK;rw [decide_eq_true_eq]
theorem KN (num:Nat->Int×Int) : ∀ k,∀ j,j<=k->num (PySem.argBest (λ i j=>hK (num i) (num j)) k)=num j\/hK (num (PySem.argBest (λ i j=>hK (num i) (num j)) k)) (num j)=true
 | 0,j,h=>by
  have:j=0:=by omega
  subst this;exact .inl rfl
 | k+1,j,h=>by
  have b0:=KN num k;simp only [PySem.argBest];generalize PySem.argBest (λ i j=>hK (num i) (num j)) k=m at *;by_cases aj:hK (num (k+1)) (num m)=true
  ·rw [if_pos aj];by_cases e:j=k+1
   ·exact .inl (by rw [e])
   ·refine .inr ?_;rcases b0 j .ab with z | z
    ·rw [<-z];exact aj
    ·rw [FE] at *;omega
  ·rw [if_neg aj];by_cases e:j=k+1
   ·subst e;rw [FE] at aj;by_cases z:num m=num (k+1)
    ·exact .inl z
    ·refine .inr ?_;rw [FE];have : ¬ ((num m).1=(num (k+1)).1/\(num m).2=(num (k+1)).2):=λ y=>z (Prod.ext y.1 y.2)
     omega
   ·exact b0 j .ab
end lz
namespace bC
open PySem PySem.Spec PyProof.Rows
noncomputable def UE (H:aA) (xs:bB) (ps:cx):Prop:=xs.length=ps.length /\ ∀ (k:Nat) x,xs[k]?=some x -> ∃ a i j r,x=.ref a/\ps[k]?=some (i,j)/\H a=some (.tup (.int i::.int j::r))
section
variable {X:a7}
theorem abN (bM:X.A.units+1<cLine) (aj:X.calm=true):fO X (.builtin "min") (λ ag H Q => ∃ l xs ps,ag=[.ref l]/\H l=some (.lst xs)/\0<xs.length/\UE H xs ps/\ps.Nodup /\ ∀ (k:Nat) v p,xs[k]?=some v->ps[k]?=some p->(∀ q∈ps,p=q\/lz.hK p q=true)->Q v H):=by
 intro pins s σ H xs us Q C r h;obtain ⟨l,xs,ps,rfl,ar,h0,⟨hlen,b8⟩,S6,q⟩:=h;obtain ⟨u,rfl,bA⟩:=vals1 r;cases bA;obtain ⟨z,its,n,cM,_,cH⟩:=C.ke ar;have cc:s.heap.IsList l its.toArray:=⟨_,cH,rfl,n,rfl⟩
 have H8:l<s.heap.objs.size:=cb cH;have aJ:=cM.length
 let tv:List Addr:=its.filterMap λ v=>match v with | .ref a=>some a | _=>none
 have Iz : ∀ (k:Nat) v,its.toArray[k]?=some v -> ∃ a∈tv,v=.ref a/\a<s.heap.objs.size /\ ∃ p,ps[k]?=some p/\lz.t6 s.heap v p:=λ k v bl=>by
  have hJ:its[k]?=some v:=by simpa using bl
  have aE:k<xs.length:=by rw [aJ];exact (cL.mp hJ).1
  obtain ⟨u,ma,hr⟩:=cM.get (bz aE);rw [hJ] at ma;cases ma;obtain ⟨a,i,j,r,ex,ao,au⟩:=b8 k _ (bz aE);rw [ex] at hr;cases hr;obtain ⟨cT,l1,pt,_⟩:=C.tuple (aP.of au);have JG:s.heap.IsTuple a cT.toArray:=pt;refine ⟨a,AG.mpr ⟨.ref a,cf hJ,rfl⟩,rfl,?_,(i,j),ao,?_⟩
  ·obtain ⟨o,e,_⟩:=JG;exact cb e
  ·cases l1 with
   | cons eh l1 =>
    cases l1 with
    | cons fS l1 =>
     obtain ⟨t,rfl⟩:=eh;obtain ⟨t',rfl⟩:=fS;exact ⟨a,_,t,t',_,rfl,JG,rfl⟩
 have JZ : ∀ a∈tv,a<s.heap.objs.size:=λ a au=>by
  obtain ⟨v,bl,e⟩:=AG.mp au;obtain ⟨k,aE⟩:=gk bl;obtain ⟨hn,_,rfl,lr,_⟩:=Iz k v (by simpa using aE);cases e;exact lr
 have l2:its.toArray.size=ps.length:=by rw [eu,<-aJ,hlen]
 refine lz.aaE (ri cc ?_);refine ⟨s.heap.objs.size,s.heap.objs.size::l::tv,[s.heap.objs.size],its.toArray.size,_,_,λ i j=>lz.hK (ps.getD i (0,0)) (ps.getD j (0,0)),rfl,lz.walk (ps:=ps) (tv:=tv) (A:=X.A.in1) (C.ok.hd.1 aj) (d1 H8) (λ y=>iW _ (JZ _ y)),⟨⟨⟨_,dI _ rfl,rfl,rfl⟩,cc.push _⟩,λ k v bl=>?_⟩,λ b af=>?_,by rw [eu,<-aJ];exact h0,λ i j n9 l3 s' k qx yT aq aY Di st aK=>?_,λ v h' bE bl aE=>?_⟩
 ·obtain ⟨a,au,e,_,p,ao,hn,cT,t,u,r,bF,aW,hit⟩:=Iz k v bl;exact ⟨a,au,e,p,ao,hn,cT,t,u,r,bF,aW.push _,hit⟩
 ·show b<(s.heap.push _).objs.size;rw [fX];rcases c8.mp af with rfl | af
  ·exact nr _
  ·rcases c8.mp af with rfl | af
   ·exact oS H8
   ·exact oS (JZ b af)
 ·obtain ⟨_,_,_,p,ao,qC⟩:=st.2 i n9 aq;obtain ⟨_,_,_,dV,dR,Q_⟩:=st.2 j l3 aY;have g1:ps.getD i (0,0)=p:=by rw [bk,ao];rfl
  have g2:ps.getD j (0,0)=dV:=by rw [bk,dR];rfl
  have oz:qx (.bool (lz.hK (ps.getD i (0,0)) (ps.getD j (0,0)))) s':=aK;rw [g1,g2] at oz;refine lz.UM qC Q_ (λ z=>Di ?_) bM oz;subst z;exact (List.getElem?_inj (cL.mp ao).1 S6).mp (by rw [ao,dR])
 ·have up : ∀ b o,s.heap.get? b=some o->h'.get? b=some o:=λ b o y=>aE b o (λ z=>by
   rw [ix] at z;exact iW _ (z ▸ cb y)) (bW _ y)
  have hm:PySem.argBest (λ i j=>lz.hK (ps.getD i (0,0)) (ps.getD j (0,0))) (its.toArray.size - 1)<=its.toArray.size - 1:=lz.Fj _ _;have af:=lz.KN (λ i=>ps.getD i (0,0)) (its.toArray.size - 1);generalize PySem.argBest (λ i j=>lz.hK (ps.getD i (0,0)) (ps.getD j (0,0))) (its.toArray.size - 1)=m at *;have uj:m<xs.length:=by omega
  have Jg:m<ps.length:=by omega
  have hJ:its[m]?=some v:=by simpa using bl
  obtain ⟨u,ma,hr⟩:=cM.get (bz uj);rw [hJ] at ma;cases ma;refine ⟨xs[m],H,C.kept (t':=bE) up,hr,q m _ ps[m] (bz uj) (bz Jg) λ p ao=>?_⟩;obtain ⟨j,aY⟩:=gk ao;have zB:=(cL.mp aY).1;have:=af j .ab;have g1:ps.getD m (0,0)=ps[m]:=by rw [bk,bz Jg];rfl
  have g2:ps.getD j (0,0)=p:=by rw [bk,aY];rfl
  rw [g1,g2] at this;exact this
end
theorem tD {a4:TE} {Q:bN} (az:n<=sizeLine) (Pv:Nat->St->aA->bB->Prop) (h0:Pv 0 (pick js σ) (upd H1 D (.lst [])) [])
  (ao : ∀ i σ' H' ys,i<=n->Pv i σ' H' ys->H' D=some (.lst ys)/\ys.length<=i) (j2 : ∀ i σ' H' ys,i<n->Pv i σ' H' ys->J.go i H') (dk : ∀ σ' H' ys,Pv n σ' H' ys->J.stop n H'/\Q (.ref D) H')
  (aF : ∀ i σ' H' ys x ay,i<n->Pv i σ' H' ys->J.iR i H' x ay->g x σ' ay λ σ2 aM=>dx σ2 aM λ k bj =>
   if k=true then a4 σ2 bj λ y aO=>aO D=some (.lst ys)/\Pv (i+1) σ2 (upd aO D (.lst (ys++[y]))) (ys++[y]) else bj D=some (.lst ys)/\Pv (i+1) σ2 bj ys):gF J D js g dx a4 σ H1 Q:=MI az Pv h0 ao j2 dk aF
theorem Hs {X:a7} (dp:X.K=K):fO X (.builtin "len") (λ xs H Q => ∃ p ys,xs=[.ref p]/\(aQ K H p ys\/aP K H p ys)/\Q (.int ys.length) H):=by
 subst dp;exact ew
theorem Fz {X:a7} (dp:X.K=K):t9 X (Kv K):=by
 subst dp;exact fP
section
variable {X:a7}
theorem any_range (bs:List Bool):((List.range bs.length).any λ i=>bs.getD i true)=bs.any id:=by
 rw [rj,u9,u9];constructor
 ·rintro ⟨i,aq,h⟩;have gB:=fH.mp aq;rw [bk,bz gB] at h;exact ⟨_,g5 gB,h⟩
 ·rintro ⟨b,af,h⟩;obtain ⟨i,aq,rfl⟩:=List.getElem_of_mem af;refine ⟨i,fH.mpr aq,?_⟩;rw [bk,bz aq];exact h
theorem KJ:bootBuiltins "any" = some (.builtin "any"):=by decide +kernel
theorem MG (aj:X.calm=true):fO X (.builtin "any") (λ xs H Q => ∃ (p:Addr) (bs:List Bool),xs=[.ref p]/\aQ X.K H p (bs.map V.aH)/\Q (.aH (bs.any id)) H):=by
 intro pins s σ H xs us Q C r h;obtain ⟨p,bs,rfl,aK,q⟩:=h;obtain ⟨u,rfl,hr⟩:=vals1 r;cases hr;obtain ⟨its,cM,b5,aS⟩:=C.list aK;have B7:=FR cM;subst B7;have ao:p<s.heap.objs.size:=by obtain ⟨_,_,e,_⟩:=b5;exact cb e
 have hd:X.A.in1.handled=none:=C.ok.hd.1 aj;refine call_any_walk (ri b5.isList ?_);refine ⟨s.heap.objs.size,_,_,_,_,_,(λ i=>bs.getD i true),rfl,Walks.list hd s.heap.objs.size p (d1 ao) (bs.map Value.bool).toArray,⟨⟨_,dI _ rfl,rfl,rfl⟩,b5.isList.push _⟩,?_,?_⟩
 ·intro i v s' qx yT bl fp;have hJ:(bs.map Value.bool)[i]?=some v:=by simpa using bl
  rw [c9] at hJ;cases e:bs[i]? with
  | none=>rw [e] at hJ;cases hJ
  | some b =>
   rw [e] at hJ;cases hJ;have wH:qx (bs.getD i true) s':=fp;rw [bk,e] at wH;exact s_ wH
 ·intro h' bE aE;refine ⟨.aH (bs.any id),H,C.kept λ b o e=>aE b o ?_ (bW _ e),?_,q⟩
  ·intro z;rw [ix.mp z] at e;exact absurd (cb e) (iW _)
  ·show Value.bool _=Value.bool _;rw [<-any_range bs];simp
end
theorem aaK {b:Addr} {a4:TE} {Q:bN} (az:min xs.length ys.length<=sizeLine) (Pv:Nat->St->aA->bB->Prop) (h0:Pv 0 (pick js σ) (upd H1 D (.lst [])) [])
  (ar : ∀ i σ' H' zs,H' D=some (.lst zs)->Pv i σ' H' zs->aP K H' a xs/\aQ K H' b ys)
  (aF : ∀ i x y p σ' H' zs (R:St->V->aA->Prop),xs[i]?=some x->ys[i]?=some y->H' p=none->H' D=some (.lst zs)->zs.length=i->Pv i σ' H' zs->(∀ σ2 z aO,aO D=some (.lst zs)->Pv (i+1) σ2 (upd aO D (.lst (zs++[z]))) (zs++[z])->R σ2 z aO) ->
   g (.ref p) σ' (upd H' p (.tup [x,y])) λ σ2 aM=>a4 σ2 aM λ z aO=>R σ2 z aO)
  (dk : ∀ σ' H' zs,H' D=some (.lst zs)->zs.length=min xs.length ys.length->Pv (min xs.length ys.length) σ' H' zs->Q (.ref D) H'):gF (Itm K a b) D js g iy a4 σ H1 Q:=by
 refine tH az Pv h0 (λ i σ' H' zs aq aT p=>?_) (λ σ' H' zs aT gv c=>⟨?_,dk σ' H' zs aT gv c⟩) λ i σ' H' zs x ay R aq aT aS p ae k=>?_
 ·obtain ⟨b3,dv⟩:=ar i σ' H' zs aT p;have I:i<xs.length:=by omega
  have ah:i<ys.length:=by omega
  exact ⟨xs,ys,xs[i],ys[i],b3,dv,by simp [I],by simp [ah]⟩
 ·obtain ⟨b3,dv⟩:=ar _ σ' H' zs aT c;exact ⟨xs,ys,b3,dv,.ab⟩
 ·obtain ⟨b3,dv⟩:=ar i σ' H' zs aT p;obtain ⟨q,aK,rfl,kC,oa,rfl,je⟩:=ae;obtain ⟨ex,eT⟩:=je xs ys b3 dv;exact aF i kC oa q σ' H' zs R ex eT aK aT aS p k
theorem aaJ {b c:Addr} {a4:TE} {Q:bN} {ws:bB} (je:xs.length=ys.length) (afg:xs.length=ws.length) (az:xs.length<=sizeLine) (Pv:Nat->St->aA->bB->Prop) (h0:Pv 0 (pick js σ) (upd H1 D (.lst [])) [])
  (ar : ∀ i σ' H' zs,H' D=some (.lst zs)->Pv i σ' H' zs->aP K H' a xs/\aP K H' b ys/\aP K H' c ws)
  (aF : ∀ i x y v p σ' H' zs (R:St->V->aA->Prop),xs[i]?=some x->ys[i]?=some y->ws[i]?=some v->H' p=none->H' D=some (.lst zs)->zs.length=i->Pv i σ' H' zs->(∀ σ2 z aO,aO D=some (.lst zs)->Pv (i+1) σ2 (upd aO D (.lst (zs++[z]))) (zs++[z])->R σ2 z aO) ->
   g (.ref p) σ' (upd H' p (.tup [x,y,v])) λ σ2 aM=>a4 σ2 aM λ z aO=>R σ2 z aO)
  (dk : ∀ σ' H' zs,H' D=some (.lst zs)->zs.length=xs.length->Pv xs.length σ' H' zs->Q (.ref D) H'):gF (CH K a b c) D js g iy a4 σ H1 Q:=by
 refine tH az Pv h0 (λ i σ' H' zs aq aT p=>?_) (λ σ' H' zs aT gv c=>⟨?_,dk σ' H' zs aT gv c⟩) λ i σ' H' zs x ay R aq aT aS p ae k=>?_
 ·obtain ⟨b3,dv,pd⟩:=ar i σ' H' zs aT p;have ah:i<ys.length:=by omega
  have aD:i<ws.length:=by omega
  exact ⟨xs,ys,ws,xs[i],ys[i],ws[i],b3,dv,pd,by simp [aq],by simp [ah],by simp [aD]⟩
 ·obtain ⟨b3,dv,pd⟩:=ar _ σ' H' zs aT c;exact ⟨xs,b3,.ab⟩
 ·obtain ⟨b3,dv,pd⟩:=ar i σ' H' zs aT p;obtain ⟨q,aK,rfl,kC,oa,iL,rfl,je⟩:=ae;obtain ⟨ex,eT,vT⟩:=je xs ys ws b3 dv pd;exact aF i kC oa iL q σ' H' zs R ex eT vT aK aT aS p k
open PySem PySem.Spec PySem.SeqAt PyProof.Rows
section
variable {X:a7}
theorem Yd {prog:Program} {w:World} {E:bY} {ag:List Value} {Q:bY} (de:A.handled=none)
  (ar:s.heap.IsTuple l ag.toArray) (aq:IntsAre ag ns) (dD:0<ns.length)
  (h : ∀ h' M (t:Tok) bE,(∀ b o,s.heap.get? b=some o->h'.get? b=some o)->M∈ns->(∀ a,a∈ns->a<=M)->Q (.int M t) { s with heap:=h',toks:=bE }) :
  wpAny (model prog w) A (call (.builtin "max") [.ref l]) Q E s:=by
 obtain ⟨xs,e⟩:=aq.allInts.items;have l_:ns=xs.toList.map (·.1):=by rw [<-aq.numsOf,<-nums_intItems,<-e]
 have hsz:0<xs.size:=by
  have aD:=dD;rw [l_,a6,mw] at aD;exact aD
 rw [e] at ar;have dg:l<s.heap.objs.size:=by obtain ⟨_,e,_⟩:=ar;exact cb e
 refine call_max_walk (nq ar ?_);refine ⟨_,_,_,_,_,_,_,rfl,Walks.tuple (A:=A.in1) de _ l (d1 dg) (intItems xs),⟨⟨_,dI _ rfl,rfl,rfl⟩,ar.push _⟩,λ c aj=>?_,by simpa [intItems] using hsz,CmpOf.ints_gt (numAt xs) (λ _ _=>xV),λ v h' bE b8 aE=>?_⟩
 ·show c<(s.heap.push _).objs.size;rw [fX];rcases c8.mp aj with rfl | aj
  ·exact nr _
  ·rcases c8.mp aj with rfl | aj
   ·exact oS dg
   ·cases aj
 ·have bl:(intItems xs)[argBest (λ i j=>decide (numAt xs i > numAt xs j)) (xs.size - 1)]?=some v:=by simpa [intItems] using b8
  obtain ⟨t,rfl⟩:=xV bl;obtain ⟨I,ah⟩:=argBest_gt (numAt xs) (xs.size - 1);refine h _ _ t bE (λ b o eS=>aE b o (λ hm=>?_) (bW _ eS)) ?_ λ a au=>?_
  ·rcases c8.mp hm with aJ | hm
   ·exact absurd (aJ ▸ cb eS) (iW _)
   ·cases hm
  ·rw [l_,numAt_eq];exact getD_mem (by rw [a6,mw];omega)
  ·rw [l_] at au;obtain ⟨j,aY,rfl⟩:=mem_getD au;rw [a6,mw] at aY;rw [<-numAt_eq];exact ah j .ab
theorem aaC (aj:X.calm=true):fO X (.builtin "max") (λ xs H Q => ∃ (p:Addr) (ns:aw),xs=[.ref p]/\aP X.K H p (ns.map V.int)/\ns≠[] /\ ∀ M,M∈ns->(∀ a,a∈ns->a<=M)->Q (.int M) H):=by
 intro pins s σ H xs us Q C r h;obtain ⟨p,ns,rfl,aK,dD,q⟩:=h;obtain ⟨u,rfl,bA⟩:=vals1 r;cases bA;obtain ⟨its,bU,b5,aS⟩:=C.tuple aK;refine Yd (C.ok.hd.1 aj) b5 (intsAre_of bU) (by cases ns with | nil=>exact absurd rfl dD | cons=>simp) λ h' M t bE k hT lZ=>?_
 exact ⟨.int M,H,C.kept k,⟨_,rfl⟩,q M hT lZ⟩
end
end bC
namespace ft
noncomputable def nk (c p d:aw):Bool:=(List.range 10).any λ i=>decide (p.getD i 0+c.getD i 0<0)&&decide (d.getD i 0=0)
theorem rZ {l:aw} {k:Nat} (h:k<l.length):l[k]?=some (l.getD k 0):=by
 rw [bk,bz h];rfl
noncomputable def sX (R P:aZ) (U:bo) (d:aw):Bool:=(List.range U.length).all λ k=>(R.take (U.getD k 0)).all λ c=>nk c (P.getD k []) d
noncomputable def jk (P:aZ) (n:Nat):aw:=c7 (P.getD n []) (P.getD 0 []) (-1)
noncomputable def oE (R P:aZ) (U:bo):Option aw:=if nn (jk P U.length)=true/\sX R P U (jk P U.length)=true then some (jk P U.length) else none
theorem aaz {P:aZ} (I:nn (jk P U.length)=true) (ah:sX R P U (jk P U.length)=true):oE R P U=some (jk P U.length):=if_pos ⟨I,ah⟩
theorem Zd {P:aZ} (I:nn (jk P U.length)=false):oE R P U=none:=if_neg (by rw [I];intro z;cases z.1)
theorem XR {P:aZ} {k:Nat} {u:Nat} {c p:aw} (aE:U[k]?=some u) (aj:c∈R.take u) (ao:P[k]?=some p) (aF:nk c p (jk P U.length)=false):oE R P U=none:=by
 refine if_neg λ ⟨_,h⟩=>?_
 unfold sX at h;rw [e5] at h;have I:=h k (fH.mpr (cL.mp aE).1);rw [e5] at I;rw [bk,aE,bk,ao] at I;have ah:=I c aj;rw [show (some p).getD []=p from rfl,aF] at ah;cases ah
theorem ZK {P:aZ} {d:aw} (h : ∀ (k u:Nat) (p:aw),U[k]?=some u->P[k]?=some p -> ∀ c∈R.take u,nk c p d=true) (ar:U.length<=P.length):sX R P U d=true:=by
 unfold sX;rw [e5];intro k aE;have gC:=fH.mp aE;rw [e5];intro c aj;have aJ:U[k]?=some U[k]:=bz gC;have aN:P[k]?=some (P[k]'(by omega)):=bz .ab;rw [bk,aJ] at aj;rw [bk,aN];exact h k _ _ aJ aN c aj
noncomputable def fv {α : Type} (l:List α) (s e:Nat):List α := (l.drop s).take (e - s)
theorem yq {α: Type} {l:List α} {s e i:Nat} (aq:i<e - s):(fv l s e)[i]?=l[s+i]?:=by
 unfold fv;rw [qa aq,List.getElem?_drop]
theorem Gl {α: Type} {l:List α} {s e i:Nat} (aq:e - s<=i):(fv l s e)[i]?=none:=by
 unfold fv;rw [List.getElem?_take_eq_none aq]
theorem rG {α: Type} {l:List α} {s e:Nat} (he:e<=l.length):(fv l s e).length=e - s:=by
 unfold fv;rw [ff,qb];omega
noncomputable def xP (R P:aZ) (U:bo) (s e:Nat):Option aw:=oE R (fv P s (e+1)) (fv U s e)
noncomputable def t7 (n s e:Nat):Prop:=s<e/\e<=n/\e<=s+40
noncomputable def HR (R P:aZ) (U:bo):Option (Nat×Nat×aw)->Prop
 | some (s,e,d)=>t7 U.length s e/\xP R P U s e=some d /\ ∀ s' bF,t7 U.length s' bF->(s'<s\/(s'=s/\bF<e))->xP R P U s' bF=none
 | none => ∀ s' bF,t7 U.length s' bF->xP R P U s' bF=none
theorem MD {P:aZ} {p q:aw} (ao:P[n]?=some p) (aK:P[0]?=some q) (Ca:p.length=10) (QQ:q.length=10):(jk P n).length=10:=by
 unfold jk;rw [bk,ao,bk,aK];exact jM Ca QQ
theorem Es {p q:aw} (ao:p.length=10) (aK:q.length=10) (h : ∀ i,i<10->p.getD i 0=q.getD i 0):p=q:=by
 refine rv λ i=>?_
 by_cases aq:i<10
 ·rw [rZ .ab,rZ (l:=q) .ab,h i aq]
 ·rw [g6 .ab,g6 .ab]
theorem oQ {p c:aw} {m:Int} {i:Nat} (ao:p.length=10) (aj:c.length=10) (aq:i<10):(c7 p c m).getD i 0=p.getD i 0+m * c.getD i 0:=by
 have I:=rZ (l:=p) (k:=i) .ab;have ah:=rZ (l:=c) (k:=i) .ab;have:(c7 p c m)[i]?=some (p.getD i 0+m * c.getD i 0):=by
  unfold c7;rw [gH];exact ⟨_,_,I,ah,rfl⟩
 rw [bk,this];rfl
theorem MZ {p c d:aw} {m k:Int} (ao:p.length=10) (aj:c.length=10) (hd:d.length=10):c7 (c7 p c m) d k=c7 (c7 p d k) c m:=by
 refine Es (jM (jM ao aj) hd) (jM (jM ao hd) aj) λ i aq=>?_
 rw [oQ (jM ao aj) hd aq,oQ ao aj aq,oQ (jM ao hd) aj aq,oQ ao hd aq];omega
theorem abW {p d:aw} (ao:p.length=10) (hd:d.length=10):c7 p d 0=p:=by
 refine Es (jM ao hd) ao λ i aq=>?_
 rw [oQ ao hd aq];omega
theorem Fv {c p:aw} (aj:c.length=10) (ao:p.length=10):fe c p=true ↔ ∀ i,i<10->0<=p.getD i 0+c.getD i 0:=by
 rw [vz];constructor
 ·intro h i aq;exact h i _ _ (rZ .ab) (rZ .ab)
 ·intro h i a b I ah;have aq:i<10:=by rw [<-aj];exact (cL.mp I).1
  have:=h i aq;rw [bk,ah,bk,I] at this;exact this
theorem yu (R:aZ) (a:Nat) (p:aw) : ∀ b,goN R (a+b) p=(goN R a p).bind (goN R b)
 | 0=>by
  show goN R a p=_;cases goN R a p<;>rfl
 | b+1=>by
  show (goN R (a+b) p).bind (ey R)=_;rw [yu R a p b];cases goN R a p<;>rfl
theorem Bb (R:aZ) : ∀ (m:Nat) (p:aw) (i:Nat),(ep R m p)[i]?=if i<m then (goN R i p).bind (dm R) else none
 | 0,p,i=>by rw [if_neg (jq _)];rfl
 | m+1,p,i=>by
  cases hf:dm R p with
  | none =>
   rw [vu hf];show none=_;cases i with
   | zero=>rw [if_pos (Nat.succ_pos _)];exact hf.symm
   | succ i =>
    rw [Bq,aam hf];split<;>rfl
  | some k =>
   obtain ⟨c,aj,_,_⟩:=mG hf;rw [vv hf aj];cases i with
   | zero=>rw [if_pos (Nat.succ_pos _)];exact hf.symm
   | succ i =>
    show (ep R m (c7 p c 1))[i]?=_;rw [Bb R m (c7 p c 1) i,Bq,u0 hf aj];by_cases aq:i<m
    ·rw [if_pos aq,if_pos .ab];rfl
    ·rw [if_neg aq,if_neg .ab]
noncomputable def kh (R:aZ) (m:Nat) (ps:aw) (P:aZ):Prop:=P.length=(ep R m ps).length+1 /\ ∀ i,i<P.length->P[i]?=goN R i ps
theorem kh.get {ps:aw} {P:aZ} (h:kh R m ps P) {s:Nat} (aF:s<=(ep R m ps).length) : ∃ p,P[s]?=some p/\goN R s ps=some p:=by
 have ar:s<P.length:=by rw [h.1];omega
 exact ⟨P[s],bz ar,by rw [<-h.2 s ar];exact bz ar⟩
theorem kh.cut {ps:aw} {P:aZ} (h:kh R m ps P) {s e:Nat} (aF:s<e) (he:e<=(ep R m ps).length) {b:aw} (af:goN R s ps=some b) :
  ep R (e - s) b=fv (ep R m ps) s e/\kh R (e - s) b (fv P s (e+1)):=by
 have hm:=vk R m ps;have lh:ep R (e - s) b=fv (ep R m ps) s e:=by
  refine rv λ i=>?_
  rw [Bb];by_cases aq:i<e - s
  ·rw [if_pos aq,yq aq,Bb,if_pos .ab,yu,af];rfl
  ·rw [if_neg aq,Gl .ab]
 refine ⟨lh,?_,λ i aq=>?_⟩
 ·rw [lh,rG he,rG (by rw [h.1];omega)];omega
 ·rw [rG (by rw [h.1];omega)] at aq;rw [yq aq,h.2 (s+i) (by rw [h.1];omega),yu,af];rfl
theorem kh.uniq {ps:aw} {P qw:aZ} (h:kh R m ps P) (h':kh R m ps qw):P=qw:=by
 refine rv λ i=>?_
 by_cases aq:i<P.length
 ·rw [h.2 i aq,h'.2 i (by rw [h'.1,<-h.1];exact aq)]
 ·rw [g6 .ab,g6 (by have:=h.1;have:=h'.1;omega)]
theorem kh.JY {ps:aw} {P:aZ} (h:kh R m ps P) (b4:l5 R) (ao:ps.length=10) (az:nn ps=true) : ∀ p∈P,p.length=10/\nn p=true:=by
 intro p hm;obtain ⟨i,aq⟩:=gk hm;have ar:=(cL.mp aq).1;rw [h.2 i ar] at aq;exact ny b4 ao az aq
structure ml (R P:aZ) (W:bo) (p d:aw):Prop where
 sN:l5 R
 qZ:p.length=10
 hV:nn p=true
 path:kh R W.length p P
 pj:ep R W.length p=W
 e2:1<=W.length
 add:oE R P W=some d
section
variable {P:aZ} {W:bo} {p d:aw} (h:ml R P W p d)
include h
theorem ml.at {r:Nat} (av:r<=W.length) : ∃ q,P[r]?=some q/\goN R r p=some q/\q.length=10/\nn q=true:=by
 obtain ⟨q,I,ah⟩:=h.path.get (s:=r) (by rw [h.pj];exact av);obtain ⟨aD,aL⟩:=ny h.sN h.qZ h.hV ah;exact ⟨q,I,ah,aD,aL⟩
theorem ml.bD:d=jk P W.length/\nn d=true/\sX R P W d=true:=by
 have au:=h.add;unfold oE at au;split at au
 ·rename_i aj;have e:jk P W.length=d:=eA au;rw [e] at aj;exact ⟨e.symm,aj.1,aj.2⟩
 ·cases au
theorem ml.hu:d.length=10:=by
 obtain ⟨q,I,_,aD,_⟩:=h.at (r:=W.length) (br _);obtain ⟨iH,g1,_,g3,_⟩:=h.at (r:=0) (fk _);rw [h.bD.1];exact MD I g1 aD g3
theorem ml.end_ {q:aw} (aK:P[W.length]?=some q) {i:Nat} (aq:i<10):q.getD i 0=p.getD i 0+d.getD i 0:=by
 obtain ⟨bh,I,_,aD,_⟩:=h.at (r:=W.length) (br _);obtain ⟨iH,g1,g2,g3,_⟩:=h.at (r:=0) (fk _);rw [aK] at I;cases I;have cH:iH=p:=(eA g2).symm;subst cH;rw [h.bD.1];unfold jk;rw [bk (l:=P),aK,bk (l:=P),g1];show _=_+(c7 q iH (-1)).getD i 0;rw [oQ aD g3 aq];omega
theorem ml.first {r:Nat} (av:r<W.length) (k:Nat) : ∃ q u c,P[r]?=some q/\W[r]?=some u/\R[u]?=some c/\c.length=10/\q.length=10/\P[r+1]?=some (c7 q c 1)/\dm R (c7 q d k)=some u:=by
 obtain ⟨q,I,ah,aD,aL⟩:=h.at (r:=r) .ab;obtain ⟨bh,g1,g2,g3,f6⟩:=h.at (r:=r+1) .ab;have hw:W[r]?=dm R q:=by
  have:=Bb R W.length p r;rw [h.pj,if_pos av,ah] at this;exact this
 have dk:ey R q=some bh:=by
  have e:(goN R r p).bind (ey R)=some bh:=g2;rw [ah] at e;exact e
 obtain ⟨u,c,bM,aj,jG,rfl⟩:=vt dk;have jb:=h.sN c (cf aj);have hu:=h.hu;obtain ⟨_,QA,dl⟩:=h.bD;have Jv:W[r]?=some u:=by rw [hw,bM]
 refine ⟨q,u,c,I,Jv,aj,jb,aD,g1,A7 R (c7 q d k) u (λ j aY bG dW=>?_) (λ bG dW=>?_) (cL.mp aj).1⟩
 ·have UJ:=h.sN bG (cf dW);have aF:nk bG q d=true:=by
   unfold sX at dl;rw [e5] at dl;have aJ:=dl r (fH.mpr av);rw [bk,Jv,bk,I,e5] at aJ;exact aJ bG (cf (i:=j) (by
    show (R.take u)[j]?=some bG;rw [qa aY];exact dW))
  unfold nk at aF;rw [u9] at aF;obtain ⟨i,aq,bl⟩:=aF;have gB:=fH.mp aq;rw [h4,oV,oV] at bl;rw [Bool.eq_false_iff];intro z;have:=(Fv UJ (jM aD hu)).mp z i gB;rw [oQ aD hu gB,bl.2] at this;omega
 ·rw [aj] at dW;cases dW;refine (Fv jb (jM aD hu)).mpr λ i aq=>?_
  have aJ:=(Fv jb aD).mp jG i aq;rw [oQ aD hu aq];have aN:0<=d.getD i 0:=iZ.mp QA _ (cf (rZ .ab));have dT:0<=(k:Int) * d.getD i 0:=x9 (lK k) aN;omega
theorem ml.go (k:Nat) : ∀ r,r<=W.length -> ∃ q,P[r]?=some q/\goN R (k * W.length+r) p=some (c7 q d k):=by
 have hu:=h.hu
 induction k with
 | zero =>
  intro r av;obtain ⟨q,I,ah,aD,_⟩:=h.at av;refine ⟨q,I,?_⟩;rw [Nat.zero_mul,rx,ah];congr 1;exact (abW aD hu).symm
 | succ k b0 =>
  intro r
  induction r with
  | zero =>
   intro _;obtain ⟨q,I,ah⟩:=b0 W.length (br _);obtain ⟨iH,g1,g2,g3,_⟩:=h.at (r:=0) (fk _);obtain ⟨_,IG,_,aD,_⟩:=h.at (r:=W.length) (br _);rw [I] at IG;cases IG;have cH:iH=p:=(eA g2).symm;subst cH;refine ⟨iH,g1,?_⟩;rw [Nat.add_zero,show (k+1) * W.length=k * W.length+W.length from Nat.succ_mul _ _,ah];congr 1;refine Es (jM aD hu) (jM g3 hu) λ i aq=>?_
   rw [oQ aD hu aq,oQ g3 hu aq,h.end_ I aq,Int.natCast_add,Int.add_mul];omega
  | succ r TC =>
   intro av;obtain ⟨q,I,ah⟩:=TC .ab;obtain ⟨bh,u,c,g1,_,g3,jb,DM,eH,tT⟩:=h.first (r:=r) .ab (k+1);rw [I] at g1;cases g1;refine ⟨_,eH,?_⟩;show (goN R ((k+1) * W.length+r) p).bind (ey R)=_;rw [ah];show ey R _=_;rw [u0 tT g3];congr 1;exact MZ DM hu jb
theorem ml.Kc (N:Nat) : ∃ q,P[N % W.length]?=some q/\goN R N p=some (c7 q d ((N / W.length:Nat):Int)):=by
 have hw:=h.e2;have dg:N % W.length<W.length:=Nat.mod_lt _ .ab;obtain ⟨q,I,ah⟩:=h.go (N / W.length) (N % W.length) .ab;refine ⟨q,I,?_⟩;rw [mA,Nat.div_add_mod] at ah;exact ah
theorem ml.fold (k:Int) : ∀ r,r<=W.length -> ∃ q,P[r]?=some q/\(W.take r).foldl (λ x u=>c7 x (R.getD u []) 1) (c7 p d k)=c7 q d k:=by
 have hu:=h.hu;intro r
 induction r with
 | zero =>
  intro _;obtain ⟨iH,g1,g2,g3,_⟩:=h.at (r:=0) (fk _);have cH:iH=p:=(eA g2).symm;subst cH;exact ⟨iH,g1,rfl⟩
 | succ r b0 =>
  intro av;obtain ⟨q,I,ah⟩:=b0 .ab;obtain ⟨bh,u,c,g1,QK,g3,jb,DM,eH,tT⟩:=h.first (r:=r) .ab 0;rw [I] at g1;cases g1;refine ⟨_,eH,?_⟩;rw [eC,QK,qk,ah];show c7 (c7 q d k) (R.getD u []) 1=_;rw [vg g3];exact MZ DM hu jb
end
end ft
namespace ob
open PySem PyProof.Rows
section
variable {E:bY}
noncomputable abbrev qW (k:Int) (t:Tok):List (Str×Value):=[(Str.ofString "start", .int k t)]
theorem typeCall (a:Value) (k:Int) (t:Tok):checkTypeCall "enumerate" ⟨[a],qW k t⟩=pure ():=by kernel_rfl
theorem Yh (a:Value) (k:Int) (t:Tok):checkBuiltinCall "enumerate.__new__" ⟨[.type "enumerate", a],qW k t⟩=pure ():=by kernel_rfl
theorem initArgs (a b:Value) (k:Int) (t:Tok):argsOk "object.__init__" ⟨[a,b],qW k t⟩:=by
 unfold argsOk;rw [signature?_of (id := "object.__init__") (n:=['_','_','t','i','n','i','_','_']) (o:=['t','c','e','j','b','o']) (by kernel_rfl) F.owner_object];kernel_rfl
open AutoSeq1 (wpAny_loadPart')
theorem Vw (l:Addr) (items:cn) (n:Nat) (k:Int) (t:Tok) (aE:Builtin.SmallTypes.fitsIndex k=true) :
  Meets (Builtin.«enumerate.__new__» ⟨[.type "enumerate", .ref l],qW k t⟩) (λ _ R s=>s.heap.get? l=some { cls:=.type "list", dict:=none,data:=.seq items n,slots:=#[] } /\
   R (.ok (.ret (.ref (s.heap.push { cls:=.type "list_iterator", data:=.fields #[.ref l,.int 0 0] }).objs.size)))
    { s with heap:=(s.heap.push { cls:=.type "list_iterator", data:=.fields #[.ref l,.int 0 0] }).push { cls:=.type "enumerate", data:=.fields #[.none,.bool false,.ref s.heap.objs.size,rawInt k,.none,.none] } }) :=
 .of_wp λ prog w A R s h=>by
  obtain ⟨ao,g,d,bE,os⟩:=s;obtain ⟨ar,h⟩:=h;have oI:=sub_enumerate;have n4 : ¬ (!Builtin.SmallTypes.fitsIndex k)=true:=by rw [aE];decide
  have cc:Heap.IsList (Shared.heap ⟨ao,g,d,bE,os⟩) l items:=⟨_,ar,rfl,n,rfl⟩
  wp_walk using mD ar
  refine wpAny_stack_any λ st=>b2 ?_
  split
  ·rename_i c _ _ _ _ _;cases (c == Value.type "enumerate")
   ·wp_walk using mD ar,ri cc
    exact ⟨_,rfl,h⟩
   ·wp_walk using mD ar,ri cc
    exact ⟨_,rfl,h⟩
  ·wp_walk using mD ar,ri cc
   exact ⟨_,rfl,h⟩
theorem aaV (self a:Value) (k:Int) (t:Tok) :
  Meets (Builtin.«object.__init__» ⟨[self,a],qW k t⟩) (λ _ R s=>s.TypeIs self "enumerate" /\ R (.ok (.ret .none)) s):=by
 have ar:=AY.init.lookup;have hm:=AY.made;have dD:(some "enumerate.__new__" != some "object.__new__")=true:=by decide
 refine Meets.of_wp λ prog w A R s aF=>?_
 obtain ⟨ck,aK⟩:=aF
 repeat (any_goals (first | assumption | wp_step))
 exact ⟨_,rfl,aK⟩
theorem call_K {items:cn} {k:Int} {t:Tok} {Q:bY} (aE:Builtin.SmallTypes.fitsIndex k=true)
  (ar:s.heap.get? l=some { cls:=.type "list", dict:=none,data:=.seq items n,slots:=#[] })
  (h : ∀ h',IsEnum h' (s.heap.objs.size+1) s.heap.objs.size k .none->h'.IsListIter s.heap.objs.size l 0->h'.objs.size=s.heap.objs.size+2 ->
   (∀ b o,s.heap.get? b=some o->h'.get? b=some o)->Q (.ref (s.heap.objs.size+1)) { s with heap:=h' }) :
  wpAny (model prog w) A (call (.type "enumerate") [.ref l] (qW k t)) Q E s:=by
 have lX:=AY;obtain ⟨c,en,afK⟩:=lX.mro;have afQ:=lX.made;have oI:=lX.sub;have ae7:=typeCall (.ref l) k t;refine wpAny_call (codeAny_of_tree ?_);show wpAny _ _ (callAny (.type "enumerate") _) _ _ _;refine b2 ⟨Code.quiet_builtin _ (by decide +kernel),u1 F.entry_type_call ?_⟩;rw [Around.under_plain (weight_type_call_type "enumerate" [.ref l] (qW k t)) (units_type_call_type "enumerate" [.ref l] (qW k t))];have I:=lX.notType;have ah:=lX.canCreate
 repeat (any_goals (first | assumption | wp_step))
 refine uT (codeAny_call_builtin (R:=wants (λ obj s₁=>s₁.TypeIs obj "enumerate" /\ Q obj s₁) E) lX.plain F.entry_enumerate_new (wpAny_of_eq (Yh (.ref l) k t) (Vw l items n k t aE prog w A.in1 _ s ⟨ar,?_⟩))) λ r s₁ av=>?_
 ·have aS:(s.heap.push { cls:=.type "list_iterator", data:=.fields #[.ref l,.int 0 0] }).objs.size=s.heap.objs.size+1:=fX ..;show _/\_;rw [aS];have he:IsEnum ((s.heap.push { cls:=.type "list_iterator", data:=.fields #[.ref l,.int 0 0] }).push
    { cls:=.type "enumerate", data:=.fields #[.none,.bool false,.ref s.heap.objs.size,rawInt k,.none,.none] }) (s.heap.objs.size+1) s.heap.objs.size k .none:=by
   have:=dI (s.heap.push { cls:=.type "list_iterator", data:=.fields #[.ref l,.int 0 0] })
    (o:={ cls:=.type "enumerate", data:=.fields #[.none,.bool false,.ref s.heap.objs.size,rawInt k,.none,.none] }) rfl
   rw [aS] at this;exact this
  exact ⟨⟨_,he,rfl⟩,h _ he ⟨_,bW _ (dI _ rfl),rfl,rfl⟩ (by rw [fX,aS]) λ b o x=>bW _ (bW _ x)⟩
 ·cases r with
  | error e=>exact av
  | ok gN =>
   cases gN with
   | ret obj =>
    obtain ⟨ck,aK⟩:=av;have ae9:=lX.init.lookup;have ae6:=lX.init.bind obj;have bX:=initArgs obj (.ref l) k t
    repeat (any_goals (first | assumption | wp_step))
    refine uT (codeAny_call_builtin (R:=wants (λ r s₂=>r=.none/\Q obj s₂) E) lX.init.plain F.entry_object_init (lX.init.check _ _ _ _ _ _ _ _ ck bX (aaV obj (.ref l) k t prog w A.in1 _ s₁ ⟨ck,rfl,aK⟩))) λ r₂ s₂ hr₂=>?_
    cases r₂ with
    | error e=>exact hr₂
    | ok fl₂ =>
     cases fl₂ with
     | ret r =>
      obtain ⟨rfl,aK⟩:=hr₂
      repeat (any_goals (first | assumption | wp_step))
     | _=>exact hr₂.elim
   | _=>exact av.elim
theorem shift {P:Nat->Value->Prop} {St:Nat->Heap->Prop} (D:Draws prog w A it a3 n P St) (k:Nat):Draws prog w A it a3 (k+n) (λ j x=>P (j - k) x) (λ j h=>k<=j/\St (j - k) h) where
 live:=λ j h st=>D.live _ _ st.2
 frame:=λ j h h' st aE=>⟨st.1,D.frame _ _ _ st.2 aE⟩
 item:=λ j s Q E aY st fp=>D.item (j - k) s Q E (by have:=st.1;omega) st.2 λ x h' bE p md eg=>fp x h' bE p ⟨by have:=st.1;omega,by rw [show j+1 - k=j - k+1 by have:=st.1;omega];exact md⟩ eg
 done:=λ s Q E st n2=>D.done s Q E (by have:=st.2;rwa [tn] at this) n2
theorem WO (de:A.handled=none) (it l:Addr) (dD:l≠it) (items:cn) :
  Draws prog w A it [it,l] items.size (λ i v=>items[i]?=some v) (λ i h=>h.IsTupleIter it l i/\h.IsTuple l items) where
 live:=λ _ _ st=>let ⟨o,a0,_⟩:=st.1;⟨o,a0⟩
 frame:=λ _ _ _ st aE=>⟨by obtain ⟨o,a0,r⟩:=st.1;exact ⟨o,aE it .zs o a0,r⟩,by obtain ⟨o,a0,r⟩:=st.2;exact ⟨o,aE l .zs o a0,r⟩⟩
 item:=λ i s Q E aq st fp=>by
  refine jR.pull st.1 st.2 (x:=items[i]) (by simp [aq]) λ h' U5 Jo=>?_
  refine fp _ h' s.toks (by simp [aq]) ⟨U5,?_⟩ Jo;obtain ⟨o,a0,r⟩:=st.2;exact ⟨o,Jo.extBut l o dD a0,r⟩
 done:=λ s Q E st n2=>jR.F4 (.inl de) st.1 st.2 .zs n2
end
end ob
namespace bC
open PySem PySem.Spec PyProof.Rows
noncomputable def we (a:Addr) (k:Nat):hB :=
 ⟨λ i H => ∃ xs x,H a=some (.lst xs)/\xs[i]?=some x,
 λ i H v H' => ∃ p,H p=none/\v=.ref p /\ ∃ x,H'=upd H p (.tup [.int ((k+i:Nat):Int),x]) /\ ∀ xs,H a=some (.lst xs)->xs[i]?=some x,
 λ i H => ∃ xs,H a=some (.lst xs)/\xs.length<=i⟩
theorem acn {c:Bool} (dH:c=true) {P:Program} {a_:Expr} (fb:ju a_=true) {e:Addr} (k:Nat) (dD:e≠it) (C8:e≠a) (Dh:it≠a) :
  Turn P w K c a_ (we a k) [e,it] e (λ i h=>(∃ old,IsEnum h e it ((k+i:Nat):Int) old)/\h.IsListIter it a i) where
 mem:=d2
 obj:=λ i h st c aj=>by
  obtain ⟨⟨old,I⟩,⟨jx,aL,_,rW⟩⟩:=st;have j9 : ∀ {o:Obj} {ag:cn},o.data=.fields ag -> ∀ v,o.data≠.cell v:=λ e v q=>by rw [e] at q;cases q
  simp only [c8,gg,gh] at aj;rcases aj with rfl | rfl
  ·exact ⟨_,I,j9 rfl⟩
  ·exact ⟨_,aL,j9 rW⟩
 keep:=λ i h h' st k=>by
  obtain ⟨⟨old,I⟩,⟨jx,aL,gn⟩⟩:=st;exact ⟨⟨old,k _ .zs _ I⟩,⟨jx,k _ .zs _ aL,gn⟩⟩
 item:=by
  intro X b8 hw dp j4 aj i pins s σ H E C hf st aR;subst b8 hw dp;obtain ⟨⟨old,I⟩,aL⟩:=st;obtain ⟨xs,x,b3,ae⟩:=aR;obtain ⟨z,its,n,cM,hlen,cH⟩:=C.ke b3;obtain ⟨iK,mZ,pO⟩:=cM.get ae;have cc:s.heap.IsList a its.toArray:=⟨_,cH,rfl,n,rfl⟩
  have aq:i<its.toArray.size:=by
   obtain ⟨de,_⟩:=cL.mp mZ;simpa using de
  have D:=ob.shift (prog:=X.prog) (w:=X.w) (A:=X.A.in1) (Draws.list (show X.A.in1.handled=none from C.ok.hd.1 (j4.trans dH)) it a Dh.symm its.toArray) k;refine wpAny_pyNext_enum_itemD (i:=k+i) D I ⟨.ab,by rw [tn];exact ⟨aL,cc⟩⟩ .ab dD (by simp [dD,C8]) λ pT g bE b8 d7 ef fz gK d8=>?_
  rw [tn] at b8;have bM:pT=iK:=by
   have cp:its.toArray[i]?=some iK:=by simpa using mZ
   rw [cp] at b8;exact (eA b8).symm
  subst bM;refine ⟨_,rfl,?_⟩;have elt:e<s.heap.objs.size:=cb I;cases a_ with
  | Tuple es df pp =>
   refine Fc d7 λ g' fg eg=>?_
   have new:g'.get? s.heap.objs.size=some { cls:=.type "tuple", data:=.seq #[.int ((k+i:Nat):Int) bE,pT] }:=eg.extBut _ _ (hz elt) fz;have bg:Inv X pins σ (upd H s.heap.objs.size (.tup [.int ((k+i:Nat):Int),x])) { s with heap:=g',toks:=bE+1 }:=by
    refine C.yB (t':=bE+1) (L:=[e,it]) (λ c o c5 b1=>?_) hf (br _) ⟨by show 2<=sizeLine;decide,[.int ((k+i:Nat):Int) bE,pT],.cons ⟨_,rfl⟩ (.cons pO .nil),⟨_,new,rfl,⟨0,rfl⟩,rfl⟩⟩;simp only [c8,gg,gh,not_or] at c5;exact eg.extBut c o c5.1 (d8 c o c5.1 c5.2 b1)
   have zk:g.IsListIter it a (i+1):=by
    have:=ef.2.1
    rwa [show k+i+1 - k=i+1 by omega] at this
   refine ⟨.ref s.heap.objs.size,_,bg,rfl,⟨_,C.fresh,rfl,x,rfl,λ z5 ba=>?_⟩,⟨⟨pT,?_⟩,zk.extBut eg.extBut dD.symm⟩,λ c dH=>?_⟩
   ·rw [b3] at ba;cases ba;exact ae
   ·rw [show ((k+(i+1):Nat):Int)=((k+i:Nat):Int)+1 by omega];exact fg
   ·obtain ⟨o,b1⟩ : ∃ o,s.heap.get? c=some o:=by
     simp only [c8,gg,gh] at dH;rcases dH with rfl | rfl
     ·exact ⟨_,I⟩
     ·obtain ⟨jx,f6,_⟩:=aL;exact ⟨_,f6⟩
    rw [bw (d1 (cb b1))];exact (hf c dH).1
  | _=>exact absurd (show false=true from fb) fc
 done:=by
  intro X b8 hw dp j4 aj i pins s σ H E C hf st aR;subst b8 hw dp;obtain ⟨⟨old,I⟩,aL⟩:=st;obtain ⟨xs,b3,ar⟩:=aR;obtain ⟨z,its,n,cM,hlen,cH⟩:=C.ke b3;have cc:s.heap.IsList a its.toArray:=⟨_,cH,rfl,n,rfl⟩
  have ck:s.TypeIs (.ref e) "enumerate" := ⟨_,I,rfl⟩
  unfold pyNext;refine aI (p_ (kW (name:=Str.ofString "__next__") ck uS
   (kX uS ck EK ?_ (EL _))))
  show wpAny _ _ (field (.ref e) 2>>=_) _ _ _;refine aI (fN I rfl (x:=.ref it) rfl ?_);refine aI (wpAny_nextOf_list_end (C.ok.hd.1 (j4.trans dH)) aL cc (by simp;omega) λ h' x C6 dF=>?_);obtain ⟨o,a0,dW⟩:=dF;refine aI (rh (T := "StopIteration") (b:=true) ⟨o,a0,dW⟩ s9 ?_);refine b2 ⟨rfl,?_⟩;refine C.ym (t':=s.toks) (L:=[e,it]) (λ c o c5 b1=>?_) hf;simp only [c8,gg,gh,not_or] at c5;exact C6 c o c5.2 b1
 self:=λ _ _ _ _ _ st h=>by
  obtain ⟨⟨old,I⟩,_⟩:=st;exact u5 I h
end bC
namespace Iw
open PySem PyProof.Rows
theorem W6:typeLookup (.type "list_reverseiterator") (Str.ofString "__len__")=pure none:=by rw [typeLookup_type,builtinLookup_eq_fast];kernel_rfl
theorem ZC:typeLookup (.type "list_reverseiterator") (Str.ofString "__length_hint__")=pure (some (.builtin "list_reverseiterator.__length_hint__")):=by rw [typeLookup_type,builtinLookup_eq_fast];kernel_rfl
theorem sub_self:isSubtype (.type "list_reverseiterator") (.type "list_reverseiterator")=pure true:=by rw [isSubtype_type];kernel_rfl
section
variable {E:bY}
noncomputable abbrev BU (items:cn):Nat->Value->Prop:=λ i v=>items[items.size - 1 - i]?=some v
theorem extend {R:Result->Shared->Prop} (de:A.handled=none) (C l:Addr) (dD:l≠C) (items:cn) (S:Addr) (res:Value) (c₀:Nat) (c1:s.heap.get? S=some { cls:=.type "list", data:=.seq #[] c₀ })
  (wJ:S≠C) (zv:S≠l) (gm:s.heap.IsRevIter C l ((items.size:Int) - 1)) (ar:s.heap.IsList l items)
  (b4 : ∀ h' bE kS bG,(∀ b o,b≠S->b≠C->s.heap.get? b=some o->h'.get? b=some o)->h'.get? S=some { cls:=.type "list", dict:=none,data:=.seq kS bG,slots:=#[] } ->
   ItemsOf (BU items) kS items.size->R (.ok (.ret res)) { s with heap:=h',toks:=bE }) (az:items.size<=sizeLine) :
  wpAny (model prog w) A.in1 (Builtin.List.listExtendWith (.ref S) (.ref C) res)
   (λ fin s'=>match fin with | .done f=>R (.ok f) s' | .again bG=>bG.quiet=true/\codeAny (model prog w) A bG R s') (λ e s'=>R (.error e) s') s:=by
 have oh:S∉[C,l]:=by simp [wJ,zv]
 have ck:=gm.typeIs;unfold Builtin.List.listExtendWith;refine aI (xZ ck ?_);have I:Builtin.List.listSameRef (.ref S) (.ref C)=false:=by simp [Builtin.List.listSameRef,wJ]
 have ah:(Value.type "list_reverseiterator" == Value.type "list")=false:=by decide
 have aD:(Value.type "list_reverseiterator" == Value.type "tuple")=false:=by decide
 simp only [I,ah,aD,Bool.or_false,xT,if_false];refine aI (wpAny_pyIter_revIter gm ?_);refine aI (kg ?_);unfold Builtin.List.listLengthHint;refine aI (AE ck W6 ?_);show wpAny _ A.in1 (specialOf (Value.ref C) (Str.ofString "__length_hint__")>>=_) _ _ _;refine aI (AE ck ZC ?_)
 wp_delta
 refine aI (rh (T := "list_reverseiterator") (v:=.ref C) (b:=true) ck sub_self ?_);rw [if_neg (by decide : ¬ (!true)=true)];dsimp only;rw [if_pos (by decide +kernel)];rw [if_neg (by decide +kernel)];refine b2 ?_;rw [if_neg (by decide +kernel)];have W:=(Walks.listRev (prog:=prog) (w:=w) (A:=A.in1) de C l dD items).toS;refine b2 ⟨u2 F.plain_extend_loop _,codeAny_extend_loopS W az _ oh _ items.size 0 _ _ _ rfl (fk _) ⟨fk _,by simpa using gm,ar⟩ c1 (ItemsOf.nil _) λ s' kS bG hm kM pZ=>?_⟩;rw [Moved.eq_with hm];refine b4 s'.heap s'.toks kS bG (λ b da af C2 e=>hm.heap b da (λ jl=>?_) e) kM pZ;rcases c8.mp jl with bF | jl
 ·exact af bF
 ·exact C2 (ix.mp jl)
theorem init {R:Result->Shared->Prop} (de:A.handled=none) (C l:Addr) (dD:l≠C) (items:cn) (S:Addr) (c1:s.heap.get? S=some { cls:=.type "list", data:=.seq #[] })
  (wJ:S≠C) (zv:S≠l) (gm:s.heap.IsRevIter C l ((items.size:Int) - 1)) (ar:s.heap.IsList l items)
  (b4 : ∀ h' bE kS bG,(∀ b o,b≠S->b≠C->s.heap.get? b=some o->h'.get? b=some o)->h'.get? S=some { cls:=.type "list", dict:=none,data:=.seq kS bG,slots:=#[] } ->
   ItemsOf (BU items) kS items.size->R (.ok (.ret .none)) { s with heap:=h',toks:=bE }) (az:items.size<=sizeLine) :
  wpAny (model prog w) A.in1 (Builtin.«list.__init__» ⟨[.ref S,.ref C],[]⟩)
   (λ fin s'=>match fin with | .done f=>R (.ok f) s' | .again bG=>bG.quiet=true/\codeAny (model prog w) A bG R s') (λ e s'=>R (.error e) s') s:=by
 show wpAny _ _ (do let old ← Builtin.List.listItems (.ref S);Builtin.List.listUpdate (.ref S) (λ _=>#[]);letGo old.toList.reverse;Builtin.List.listExtendWith (.ref S) (.ref C) .none) _ _ s;refine aI ?_;unfold Builtin.List.listItems;refine aI (iw c1 rfl (b2 ?_));show wpAny _ _ (updateSeq S (λ _=>#[])>>=λ _=>letGo (#[]:cn).toList.reverse>>=λ _=>Builtin.List.listExtendWith (.ref S) (.ref C) .none) _ _ s;refine aI (x8 c1 rfl ?_);have hS₂:=s7 (Obj.mapSeq (λ _=>(#[]:cn))) c1 rfl;have DJ : ∀ b o,b≠S->s.heap.get? b=some o->(s.heap.update S (Obj.mapSeq (λ _=>(#[]:cn)))).get? b=some o :=
  λ b o af e=>(p9 _ _ (nt af)).trans e
 refine aI (nD ?_);refine extend de C l dD items S .none _ hS₂ wJ zv (gm.at λ o e=>DJ _ o wJ.symm e) (ar.at λ o e=>DJ _ o zv.symm e) (λ h' bE kS bG aE kM pZ=>?_) az;exact b4 h' bE kS bG (λ b o af C2 e=>aE b o af C2 (DJ b o af e)) kM pZ
theorem XU {C:Addr} {items:cn} {Q:bY} (de:A.handled=none) (dD:l≠C) (gm:s.heap.IsRevIter C l ((items.size:Int) - 1)) (ar:s.heap.IsList l items) (az:items.size<=sizeLine)
  (fp : ∀ h' bE kS bG,(∀ b o,b≠C->s.heap.get? b=some o->h'.get? b=some o) ->
   h'.get? s.heap.objs.size=some { cls:=.type "list", dict:=none,data:=.seq kS bG,slots:=#[] }->ItemsOf (BU items) kS items.size->Q (.ref s.heap.objs.size) { s with heap:=h',toks:=bE }) :
  wpAny (model prog w) A (call (.type "list") [.ref C]) Q E s:=by
 refine callType_codes (Q₁:=λ obj s₁=>obj=.ref s.heap.objs.size/\s₁={ s with heap:=s.heap.push { cls:=.type "list", data:=.seq #[] } }) F.called_list (F.typeCall_list_1 _) F.entry_list_init
  (code_list_new _ ⟨rfl,rfl⟩) λ obj s₁ h₁=>?_
 obtain ⟨rfl,rfl⟩:=h₁;have c1:(s.heap.push { cls:=.type "list", data:=.seq #[] }).get? s.heap.objs.size=some { cls:=.type "list", data:=.seq #[] }:=dI _ rfl;have lt : ∀ {b:Addr} {o:Obj},s.heap.get? b=some o->s.heap.objs.size≠b:=λ e=>(d1 (cb e)).symm
 obtain ⟨aeK,B3,_⟩:=id gm;obtain ⟨ol,fA,_⟩:=id ar;refine ⟨⟨_,c1,rfl⟩,F.args_list_init_2 _ _,init (A:=A.in1) de C l dD items _ c1 (lt B3) (lt fA) (gm.at λ o e=>bW _ e) (ar.at λ o e=>bW _ e) (λ h' bE kS bG aE kM pZ=>?_) az⟩;exact ⟨rfl,fp h' bE kS bG (λ b o af e=>aE b o (lt e).symm af (bW _ e)) kM pZ⟩
end
end Iw
namespace bC
open PySem PySem.Spec PyProof.Rows
section
variable {X:a7}
noncomputable def Nq (bq:dh):TE:=λ σ H Q=>bq σ H λ ag H1 => ∃ a xs,ag=[.ref a]/\H1 a=some (.lst xs)/\kR (.lst xs.reverse) H1 Q
theorem ab6 {bq:dh} {p dV pos:Pos} (aj:X.calm=true) (aR:d6 X "reversed") (hm:X.ax "reversed" = none) (Dg:d6 X "list") (l9:X.ax "list" = none) (au:hS X [aJ] bq) (aF:starEach [aJ] X.env=[(false,eval aJ X.env)]:=by rfl)
  (af:bootBuiltins "reversed" = some (.type "reversed"):=by decide +kernel) (fD:bootBuiltins "list" = some (.type "list"):=by decide +kernel):cG X (.Call (.Name "list" dV) [.Call (.Name "reversed" p) [aJ] [] pos] [] pos') (Nq bq):=by
 intro pins s σ H R C h;refine Call_ (lE C Dg l9 fD (oT (Calls.spliced_cons ?_) rfl rfl));refine Call_ (lE C aR hm af (oT (bQ (au pos pins s σ H _ C h) λ us s1 ⟨ag,H1,bg,bV,ba⟩=>?_) aF rfl));obtain ⟨a,xs,e,b3,q⟩:=ba;subst e;obtain ⟨fR,rfl,dw⟩:=vals1 bV;cases dw;obtain ⟨z,its,n,cM,hlen,cH⟩:=bg.ke b3;have cc:s1.heap.IsList a its.toArray:=⟨_,cH,rfl,n,rfl⟩
 refine call_reversed_list cc ?_;refine Calls.spliced_nil ?_;have lt:a≠s1.heap.objs.size:=d1 (cb cH);have hsz:its.toArray.size=its.length:=eu;have B3:Heap.IsRevIter (s1.heap.push (revObj a ((its.toArray.size:Int) - 1))) s1.heap.objs.size a ((its.toArray.size:Int) - 1):=⟨_,dI _ rfl,rfl,rfl⟩
 have Sq:Heap.IsList (s1.heap.push (revObj a ((its.toArray.size:Int) - 1))) a its.toArray:=cc.at λ o e=>bW _ e
 refine Iw.XU (bg.ok.hd.1 aj) lt B3 Sq .ab λ h' bE acc bG d5 e pZ=>?_
 have aS:(s1.heap.push (revObj a ((its.toArray.size:Int) - 1))).objs.size=s1.heap.objs.size+1:=fX ..;have Vh:acc.toList=its.reverse:=by
  apply rv;intro j;rcases k5 j its.length with aY | aY
  ·have I_:j<acc.size:=by rw [pZ.1,hsz];exact aY
   have I:=pZ.2 j acc[j] (Array.getElem?_eq_getElem I_);rw [List.getElem?_reverse aY];have ah:its.toArray[its.length - 1 - j]?=some acc[j]:=by rw [<-hsz];exact I
   rw [show its[its.length - 1 - j]?=some acc[j] by simpa using ah];simp [I_]
  ·rw [g6 (by rw [mw,pZ.1,hsz];exact aY),g6 (by rw [x_];exact aY)]
 have bl:Vals xs.reverse acc.toList:=by rw [Vh];exact cM.reverse
 rw [aS] at e ⊢;refine ⟨.ref (s1.heap.objs.size+1),_,bg.laid (a:=s1.heap.objs.size+1) (t':=bE) (λ b o eS=>d5 b o (d1 (cb eS)) (bW _ eS)) (kj _) (show fw X.prog X.w _ h' _ (.lst xs.reverse) from ⟨by rw [x_];exact z,acc.toList,bG,bl,by rw [Array.toArray_toList];exact e⟩),rfl,q.at _ (bg.bX.fresh (kj _))⟩
theorem ab8 {bq:dh} {p dV pos:Pos} (aj:X.calm=true) (aR:d6 X "reversed") (hm:X.ax "reversed" = none) (Dg:d6 X "list") (l9:X.ax "list" = none) (au:gJ X [aJ] bq) (aF:starEach [aJ] X.env=[(false,eval aJ X.env)]:=by rfl)
  (af:bootBuiltins "reversed" = some (.type "reversed"):=by decide +kernel) (fD:bootBuiltins "list" = some (.type "list"):=by decide +kernel):cj X (.Call (.Name "list" dV) [.Call (.Name "reversed" p) [aJ] [] pos] [] pos') (Nq bq):=⟨ab6 aj aR hm Dg l9 au.o aF af fD⟩
end
end bC
namespace ob
open PySem PyProof.Rows
section
variable {M:Model} {E:bY} {env:Env}
theorem acW {pos:Pos} {T:String} {e:Expr} {uu:List Keyword} {Q:bY}
  (h:wpAny M A (spliced (backTo pos (starEach (e::rest) env))) (λ ag s₁=>wpAny M A (evalAll ((backToKw pos (keywordEach uu env)).map (·.2)))
   (λ aU s₂=>wpAny M A (call (.type T) ag (((backToKw pos (keywordEach uu env)).filterMap (·.1)).zip aU)) Q E s₂) E s₁) E s)
  (he:backTo pos (starEach (e::rest) env)=(false,eval e env)::backTo pos (starEach rest env):=by rfl)
  (x1:(backTo pos (starEach (e::rest) env)).any (·.1)=false:=by rfl)
  (gf:(backToKw pos (keywordEach uu env)).all (·.1.isSome)=true:=by rfl)
  (SY:(backToKw pos (keywordEach uu env)).any (·.1.isNone)=false:=by rfl) :
  wpAny M A (callWith pos (.type T) [] (backTo pos (starEach (e::rest) env)) (backToKw pos (keywordEach uu env))) Q E s:=by
 have h':wpAny M A (evalArgs (.type T) true (backTo pos (starEach (e::rest) env)) (backToKw pos (keywordEach uu env))) (λ a s₁=>wpAny M A (call (.type T) ([]++a.pos) a.kw) Q E s₁) E s:=by
  rw [he] at h ⊢;exact evalArgs_kwB gf h
 unfold callWith;refine aI (kg (mv h' (λ a s₁ h₁=>aI (xU ?_)) λ _ _ x=>x));simp only [x1,SY,Bool.or_false];refine aI (b2 ?_);exact aI (mv h₁ (λ r s₂ av=>aI (kg (wpAny_point (b2 av)))) λ _ _ x=>x)
end
end ob
namespace bC
open PySem PySem.Spec PyProof.Rows
section
variable {X:a7} {a_:Expr}
noncomputable def Lq (bq:dh) (bE:TE):TI:=λ σ H R=>bq σ H λ ag H1=>bE σ H1 λ v ay => ∃ a xs k,ag=[.ref a]/\v=.int ((k:Nat):Int)/\k<2 ^ 62/\ay a=some (.lst xs)/\R (we a k) ay
theorem Z1 {bq:dh} {a4:TE} {p pos Ed:Pos} (fb:ju a_=true) (aR:d6 X "enumerate") (hm:X.ax "enumerate" = none) (au:hS X [aJ] bq) (aE:cG X aN a4) (aF:starEach [aJ] X.env=[(false,eval aJ X.env)]:=by rfl)
  (af:bootBuiltins "enumerate" = some (.type "enumerate"):=by decide +kernel) (dH:X.calm=true:=by rfl):jO X a_ (.Call (.Name "enumerate" p) [aJ] [⟨some "start", aN,Ed⟩] pos) (Lq bq a4):=by
 intro pins s σ H R C h;refine xW (lE C aR hm af ?_ .aG .aG);have Ra:backTo pos (starEach [aJ] X.env)=(false,eval aJ X.env)::backTo pos (starEach [] X.env):=by rw [aF];rfl
 refine ob.acW (e:=aJ) (rest:=[]) ?_ Ra (by rw [aF];rfl) rfl rfl;refine bQ (au pos pins s σ H _ C h) λ us s1 ⟨ag,H1,bg,bV,ba⟩=>?_
 refine kws_cons (bQ (aE pins s1 σ H1 _ bg ba) λ v s2 ⟨x,ay,dd,cu,cm⟩=>kws_nil ?_);obtain ⟨a,xs,k,e,QE,afk,b3,q⟩:=cm;subst e;subst QE;obtain ⟨fR,rfl,dw⟩:=vals1 bV;cases dw;obtain ⟨tt,rfl⟩:=cu;obtain ⟨z,its,n,cM,hlen,cH⟩:=dd.ke b3;have jG:Builtin.SmallTypes.fitsIndex (k:Int)=true:=by
  unfold Builtin.SmallTypes.fitsIndex;simp only [h4,decide_eq_true_eq];omega
 refine ob.call_K jG cH λ g fi eV kD up=>?_
 refine u5 fi ?_;have cU:Inv X pins σ ay { s2 with heap:=g }:=dd.kept (t':=s2.toks) up;have lj:a<s2.heap.objs.size:=cb cH;refine ⟨_,[s2.heap.objs.size+1,s2.heap.objs.size],_,_,ay,rfl,cU,acn dH fb k (hz (nr _)) (hz (oS lj)) (hz lj),⟨⟨_,by simpa using fi⟩,eV⟩,λ c aj=>?_,q⟩;have big:s2.heap.objs.size<=c:=by
  simp only [c8,gg,gh] at aj;rcases aj with rfl | rfl
  ·exact mC _ _
  ·exact br _
 exact dd.pY big (dd.bX.fresh big)
theorem Nb {bq:dh} {a4:TE} {p pos Ed:Pos} (fb:ju a_=true) (aR:d6 X "enumerate") (hm:X.ax "enumerate" = none) (au:gJ X [aJ] bq) (aE:cj X aN a4) (aF:starEach [aJ] X.env=[(false,eval aJ X.env)]:=by rfl)
  (af:bootBuiltins "enumerate" = some (.type "enumerate"):=by decide +kernel) (dH:X.calm=true:=by rfl):iC X a_ (.Call (.Name "enumerate" p) [aJ] [⟨some "start", aN,Ed⟩] pos) (Lq bq a4):=⟨Z1 fb aR hm au.o aE.o aF af dH⟩
end
theorem NV {k:Nat} {tb:eK} {D:Ends} (Pv:Nat->St->aA->Prop) (h0:Pv 0 σ H) (ar : ∀ i σ H,i<=xs.length->Pv i σ H->H a=some (.lst xs))
  (aF : ∀ i x p σ H,xs[i]?=some x->H p=none->Pv i σ H->g (.ref p) σ (upd H p (.tup [.int ((k+i:Nat):Int),x])) λ σ2 ay=>tb { D with bO:=Pv (i+1),cO:=Pv (i+1),eL:=D.bO } σ2 ay) (hd : ∀ σ H,Pv xs.length σ H->D.bO σ H) :
  ∃ W:Nat->Nat->St->aA->Prop,(∃ m,W 0 m σ H) /\ ∀ i m σ H,W i m σ H ->
   ((we a k).stop i H/\D.bO σ H)\/((we a k).go i H /\ ∃ N:St->aA->Prop,(∀ σ' H',N σ' H' -> ∃ cR,cR<m/\W (i+1) cR σ' H') /\ ∀ x H',(we a k).iR i H x H'->g x σ H' λ σ2 ay=>tb { D with bO:=N,cO:=N,eL:=D.bO } σ2 ay):=by
 refine ⟨λ i m σ H=>m=xs.length - i/\i<=xs.length/\Pv i σ H,⟨_,rfl,fk _,h0⟩,?_⟩;rintro i m σ H ⟨rfl,aq,p⟩;have b3:=ar i σ H aq p;by_cases dg:i<xs.length
 ·refine .inr ⟨⟨xs,xs[i],b3,by simp [dg]⟩,Pv (i+1),λ σ' H' dV=>⟨xs.length - (i+1),.ab,rfl,dg,dV⟩,λ v H' jX=>?_⟩;obtain ⟨q,aK,rfl,x,rfl,je⟩:=jX;exact aF i x q σ H (je xs b3) aK p
 ·have e:i=xs.length:=by omega
  refine .inl ⟨⟨xs,b3,.ab⟩,hd σ H (e ▸ p)⟩
end bC
namespace ob
open PySem PyProof.Rows
section
variable {E:bY}
open AutoSeq1 (wpAny_loadPart')
theorem Vx (l:Addr) (items:cn) (n:Nat) (CN:Option Addr) (cZ:Array dP) :
  Meets (Builtin.«enumerate.__new__» ⟨[.type "enumerate", .ref l],[]⟩) (λ _ R s=>s.heap.get? l=some { cls:=.type "tuple", dict:=CN,data:=.seq items n,slots:=cZ } /\
   R (.ok (.ret (.ref (s.heap.push { cls:=.type "tuple_iterator", data:=.fields #[.ref l,.int 0 0] }).objs.size)))
    { s with heap:=(s.heap.push { cls:=.type "tuple_iterator", data:=.fields #[.ref l,.int 0 0] }).push { cls:=.type "enumerate", data:=.fields #[.none,.bool false,.ref s.heap.objs.size,rawInt 0,.none,.none] } }) :=
 .of_wp λ prog w A R s h=>by
  obtain ⟨ao,g,d,bE,os⟩:=s;obtain ⟨ar,h⟩:=h;have oI:=sub_enumerate;have cc:Heap.IsTuple (Shared.heap ⟨ao,g,d,bE,os⟩) l items:=⟨_,ar,rfl,n,rfl⟩
  wp_walk using mD ar
  refine wpAny_stack_any λ st=>b2 ?_
  split
  ·rename_i c _ _ _ _ _;cases (c == Value.type "enumerate")
   ·wp_walk using mD ar,nq cc
    exact ⟨_,rfl,h⟩
   ·wp_walk using mD ar,nq cc
    exact ⟨_,rfl,h⟩
  ·wp_walk using mD ar,nq cc
   exact ⟨_,rfl,h⟩
theorem WJ {items:cn} {Q:bY} (cc:s.heap.IsTuple l items)
  (h : ∀ h',IsEnum h' (s.heap.objs.size+1) s.heap.objs.size 0 .none->h'.IsTupleIter s.heap.objs.size l 0->h'.objs.size=s.heap.objs.size+2 ->
   (∀ b o,s.heap.get? b=some o->h'.get? b=some o)->Q (.ref (s.heap.objs.size+1)) { s with heap:=h' }) :
  wpAny (model prog w) A (call (.type "enumerate") [.ref l]) Q E s:=by
 obtain ⟨⟨c,CN,n0,cZ⟩,ar,aj,n,hd⟩:=cc;replace aj:c=.type "tuple" := aj;replace hd:n0=.seq items n:=hd;subst aj hd;refine callType_new AY .aG (F.typeCall_enumerate_1 _) (F.newCall_enumerate_1 _) (λ obj=>F.args_object_init_2 obj _) F.entry_enumerate_new
  (Vx l items n CN cZ) ⟨ar,?_⟩
 have aS:(s.heap.push { cls:=.type "tuple_iterator", data:=.fields #[.ref l,.int 0 0] }).objs.size=s.heap.objs.size+1:=fX ..;show _/\_;rw [aS];have he:IsEnum ((s.heap.push { cls:=.type "tuple_iterator", data:=.fields #[.ref l,.int 0 0] }).push
   { cls:=.type "enumerate", data:=.fields #[.none,.bool false,.ref s.heap.objs.size,rawInt 0,.none,.none] }) (s.heap.objs.size+1) s.heap.objs.size 0 .none:=by
  have:=dI (s.heap.push { cls:=.type "tuple_iterator", data:=.fields #[.ref l,.int 0 0] })
   (o:={ cls:=.type "enumerate", data:=.fields #[.none,.bool false,.ref s.heap.objs.size,rawInt 0,.none,.none] }) rfl
  rw [aS] at this;exact this
 exact ⟨⟨_,he,rfl⟩,h _ he ⟨_,bW _ (dI _ rfl),rfl,rfl⟩ (by rw [fX,aS]) λ b o x=>bW _ (bW _ x)⟩
end
end ob
namespace bC
open PySem PySem.Spec PyProof.Rows
noncomputable def t8 (K:dc) (a:Addr):hB :=
 ⟨λ i H => ∃ xs x,aP K H a xs/\xs[i]?=some x,
 λ i H v H' => ∃ p,H p=none/\v=.ref p /\ ∃ x,H'=upd H p (.tup [.int (i:Int),x]) /\ ∀ xs,aP K H a xs->xs[i]?=some x,
 λ i H => ∃ xs,aP K H a xs/\xs.length<=i⟩
theorem aco {c:Bool} (dH:c=true) {P:Program} {a_:Expr} (fb:ju a_=true) {e:Addr} (dD:e≠it) (C8:e≠a) (Dh:it≠a) :
  Turn P w K c a_ (t8 K a) [e,it] e (λ i h=>(∃ old,IsEnum h e it (i:Int) old)/\h.IsTupleIter it a i) where
 mem:=d2
 obj:=λ i h st c aj=>by
  obtain ⟨⟨old,I⟩,⟨jx,aL,_,rW⟩⟩:=st;have j9 : ∀ {o:Obj} {ag:cn},o.data=.fields ag -> ∀ v,o.data≠.cell v:=λ e v q=>by rw [e] at q;cases q
  simp only [c8,gg,gh] at aj;rcases aj with rfl | rfl
  ·exact ⟨_,I,j9 rfl⟩
  ·exact ⟨_,aL,j9 rW⟩
 keep:=λ i h h' st k=>by
  obtain ⟨⟨old,I⟩,⟨jx,aL,gn⟩⟩:=st;exact ⟨⟨old,k _ .zs _ I⟩,⟨jx,k _ .zs _ aL,gn⟩⟩
 item:=by
  intro X b8 hw dp j4 aj i pins s σ H E C hf st aR;subst b8 hw dp;obtain ⟨⟨old,I⟩,aL⟩:=st;obtain ⟨xs,x,b3,ae⟩:=aR;obtain ⟨its,cM,cc,aS⟩:=C.tuple b3;obtain ⟨iK,mZ,pO⟩:=cM.get ae;have aq:i<its.toArray.size:=by
   obtain ⟨de,_⟩:=cL.mp mZ;simpa using de
  have D:=ob.WO (prog:=X.prog) (w:=X.w) (A:=X.A.in1) (show X.A.in1.handled=none from C.ok.hd.1 (j4.trans dH)) it a Dh.symm its.toArray;refine wpAny_pyNext_enum_itemD (i:=i) D I ⟨aL,cc⟩ aq dD (by simp [dD,C8]) λ pT g bE b8 d7 ef fz gK d8=>?_
  have bM:pT=iK:=by
   have cp:its.toArray[i]?=some iK:=by simpa using mZ
   rw [cp] at b8;exact (eA b8).symm
  subst bM;refine ⟨_,rfl,?_⟩;have elt:e<s.heap.objs.size:=cb I;cases a_ with
  | Tuple es df pp =>
   refine Fc d7 λ g' fg eg=>?_
   have new:g'.get? s.heap.objs.size=some { cls:=.type "tuple", data:=.seq #[.int (i:Int) bE,pT] }:=eg.extBut _ _ (hz elt) fz;have bg:Inv X pins σ (upd H s.heap.objs.size (.tup [.int (i:Int),x])) { s with heap:=g',toks:=bE+1 }:=by
    refine C.yB (t':=bE+1) (L:=[e,it]) (λ c o c5 b1=>?_) hf (br _) ⟨by show 2<=sizeLine;decide,[.int (i:Int) bE,pT],.cons ⟨_,rfl⟩ (.cons pO .nil),⟨_,new,rfl,⟨0,rfl⟩,rfl⟩⟩;simp only [c8,gg,gh,not_or] at c5;exact eg.extBut c o c5.1 (d8 c o c5.1 c5.2 b1)
   have zk:g.IsTupleIter it a (i+1):=by
    exact ef.1
   refine ⟨.ref s.heap.objs.size,_,bg,rfl,⟨_,C.fresh,rfl,x,rfl,λ z5 ba=>?_⟩,⟨⟨pT,?_⟩,(by obtain ⟨o,a0,r⟩:=zk;exact ⟨o,eg.extBut it o dD.symm a0,r⟩)⟩,λ c dH=>?_⟩
   ·rw [C.vB ba b3];exact ae
   ·rw [show ((i+1:Nat):Int)=(i:Int)+1 by omega];exact fg
   ·obtain ⟨o,b1⟩ : ∃ o,s.heap.get? c=some o:=by
     simp only [c8,gg,gh] at dH;rcases dH with rfl | rfl
     ·exact ⟨_,I⟩
     ·obtain ⟨jx,f6,_⟩:=aL;exact ⟨_,f6⟩
    rw [bw (d1 (cb b1))];exact (hf c dH).1
  | _=>exact absurd (show false=true from fb) fc
 done:=by
  intro X b8 hw dp j4 aj i pins s σ H E C hf st aR;subst b8 hw dp;obtain ⟨⟨old,I⟩,aL⟩:=st;obtain ⟨xs,b3,ar⟩:=aR;obtain ⟨its,cM,cc,aS⟩:=C.tuple b3;have ck:s.TypeIs (.ref e) "enumerate" := ⟨_,I,rfl⟩
  unfold pyNext;refine aI (p_ (kW (name:=Str.ofString "__next__") ck uS
   (kX uS ck EK ?_ (EL _))))
  show wpAny _ _ (field (.ref e) 2>>=_) _ _ _;refine aI (fN I rfl (x:=.ref it) rfl ?_);refine aI (jR.F4 (.inl (C.ok.hd.1 (j4.trans dH))) aL cc (by have:=cM.length;simp;omega) λ h' x C6 dF=>?_);obtain ⟨o,a0,dW⟩:=dF;refine aI (rh (T := "StopIteration") (b:=true) ⟨o,a0,dW⟩ s9 ?_);refine b2 ⟨rfl,?_⟩;refine C.ym (t':=s.toks) (L:=[e,it]) (λ c o c5 b1=>?_) hf;simp only [c8,gg,gh,not_or] at c5;exact C6 c o c5.2 b1
 self:=λ _ _ _ _ _ st h=>by
  obtain ⟨⟨old,I⟩,_⟩:=st;exact u5 I h
section
variable {X:a7} {a_:Expr}
noncomputable def Lr (K:dc) (bq:dh):TI:=λ σ H R=>bq σ H λ ag H1 => ∃ a xs,ag=[.ref a]/\aP K H1 a xs/\R (t8 K a) H1
theorem Z2 {bq:dh} {p pos:Pos} (fb:ju a_=true) (aR:d6 X "enumerate") (hm:X.ax "enumerate" = none) (au:hS X [aJ] bq) (aF:starEach [aJ] X.env=[(false,eval aJ X.env)]:=by rfl)
  (af:bootBuiltins "enumerate" = some (.type "enumerate"):=by decide +kernel) (dH:X.calm=true:=by rfl):jO X a_ (.Call (.Name "enumerate" p) [aJ] [] pos) (Lr X.K bq):=by
 intro pins s σ H R C h;refine Call_ (lE C aR hm af (oT (bQ (au pos pins s σ H _ C h) λ us s1 ⟨ag,H1,bg,bV,ba⟩=>?_) aF rfl));obtain ⟨a,xs,e,b3,q⟩:=ba;subst e;obtain ⟨fR,rfl,dw⟩:=vals1 bV;cases dw;obtain ⟨its,cM,cc,aS⟩:=bg.tuple b3;obtain ⟨o0,cH,_⟩:=id cc;have lj:a<s1.heap.objs.size:=cb cH;refine ob.WJ cc λ g fi eV kD up=>?_
 refine u5 fi ?_;have dd:Inv X pins σ H1 { s1 with heap:=g }:=bg.kept (t':=s1.toks) up;refine ⟨_,[s1.heap.objs.size+1,s1.heap.objs.size],_,_,H1,rfl,dd,aco dH fb (hz (nr _)) (hz (oS lj)) (hz lj),⟨⟨_,fi⟩,eV⟩,λ c aj=>?_,q⟩;have big:s1.heap.objs.size<=c:=by
  simp only [c8,gg,gh] at aj;rcases aj with rfl | rfl
  ·exact mC _ _
  ·exact br _
 exact bg.pY big (bg.bX.fresh big)
theorem Nc {bq:dh} {p pos:Pos} (fb:ju a_=true) (aR:d6 X "enumerate") (hm:X.ax "enumerate" = none) (au:gJ X [aJ] bq) (aF:starEach [aJ] X.env=[(false,eval aJ X.env)]:=by rfl)
  (af:bootBuiltins "enumerate" = some (.type "enumerate"):=by decide +kernel) (dH:X.calm=true:=by rfl):iC X a_ (.Call (.Name "enumerate" p) [aJ] [] pos) (Lr X.K bq):=⟨Z2 fb aR hm au.o aF af dH⟩
end
theorem aaS {tb:eK} {D:Ends} (Pv:Nat->St->aA->Prop) (h0:Pv 0 σ H) (ar : ∀ i σ H,i<=xs.length->Pv i σ H->aP K H a xs)
  (aF : ∀ i x p σ H,xs[i]?=some x->H p=none->Pv i σ H->g (.ref p) σ (upd H p (.tup [.int (i:Int),x])) λ σ2 ay=>tb { D with bO:=Pv (i+1),cO:=Pv (i+1),eL:=D.bO } σ2 ay) (hd : ∀ σ H,Pv xs.length σ H->D.bO σ H) :
  ∃ W:Nat->Nat->St->aA->Prop,(∃ m,W 0 m σ H) /\ ∀ i m σ H,W i m σ H ->
   ((t8 K a).stop i H/\D.bO σ H)\/((t8 K a).go i H /\ ∃ N:St->aA->Prop,(∀ σ' H',N σ' H' -> ∃ cR,cR<m/\W (i+1) cR σ' H') /\ ∀ x H',(t8 K a).iR i H x H'->g x σ H' λ σ2 ay=>tb { D with bO:=N,cO:=N,eL:=D.bO } σ2 ay):=by
 refine ⟨λ i m σ H=>m=xs.length - i/\i<=xs.length/\Pv i σ H,⟨_,rfl,fk _,h0⟩,?_⟩;rintro i m σ H ⟨rfl,aq,p⟩;have b3:=ar i σ H aq p;by_cases dg:i<xs.length
 ·refine .inr ⟨⟨xs,xs[i],b3,by simp [dg]⟩,Pv (i+1),λ σ' H' dV=>⟨xs.length - (i+1),.ab,rfl,dg,dV⟩,λ v H' jX=>?_⟩;obtain ⟨q,aK,rfl,x,rfl,je⟩:=jX;exact aF i x q σ H (je xs b3) aK p
 ·have e:i=xs.length:=by omega
  refine .inl ⟨⟨xs,b3,.ab⟩,hd σ H (e ▸ p)⟩
end bC
namespace ft
noncomputable def bc (r p:aw):Int:=(List.zipWith (λ a b:Int=>a * b) r p).sum
theorem lQ (p:aw):bc [] p=0:=rfl
theorem fI (a b:Int) (r p:aw):bc (a::r) (b::p)=a * b+bc r p:=by
 show (a * b::List.zipWith _ r p).sum=_;rw [lJ];rfl
noncomputable def kd (u t:Int) (r o:aw):aw:=List.zipWith (λ a b:Int=>u * a - t * b) r o
theorem NR (u t:Int) : ∀ (r o p:aw),r.length=o.length->bc (kd u t r o) p=u * bc r p - t * bc o p
 | [],[],p,_=>by
  show bc [] p=_;rw [lQ,jr,jr];rfl
 | a::r,b::o,[],_=>by
  show (0:Int)=u * 0 - t * 0;omega
 | a::r,b::o,q::p,h=>by
  have b0:=NR u t r o p (by simpa using h);show bc ((u * a - t * b)::kd u t r o) (q::p)=_;rw [fI,fI,fI,b0,oW,oW,Int.sub_mul,mE,mE];omega
theorem GO (d:Int) : ∀ (r p:aw),bc (r.map λ x=>d * x) p=d * bc r p
 | [],p=>by rw [List.map_nil,lQ,jr]
 | a::r,[]=>by
  show (0:Int)=d * 0;omega
 | a::r,q::p=>by
  rw [jo,fI,fI,GO d r p,oW,mE]
noncomputable def fW (ns:aw):Nat:=ns.foldl (λ g n=>Nat.gcd g n.natAbs) 0
theorem MT : ∀ (ns:aw) (g:Nat),(ns.foldl (λ g n=>Nat.gcd g n.natAbs) g∣g) /\ ∀ n∈ns,((ns.foldl (λ g n=>Nat.gcd g n.natAbs) g:Nat):Int)∣n
 | [],g=>⟨Nat.dvd_refl g,λ n h=>by cases h⟩
 | a::ns,g=>by
  obtain ⟨I,ah⟩:=MT ns (Nat.gcd g a.natAbs);refine ⟨AZ I (Nat.gcd_dvd_left _ _),λ n az=>?_⟩;rcases c8.mp az with z | z
  ·rw [z];exact Int.dvd_natAbs.mp (Fe.mpr (AZ I (Nat.gcd_dvd_right _ _)))
  ·exact ah n z
theorem vn {n:Int} (h:n∈ns):((fW ns:Nat):Int)∣n:=(MT ns 0).2 n h
theorem Bf {n:Int} (h:n∈ns) (h0:n≠0):0<fW ns:=by
 rcases nE (fW ns) with z | z
 ·have:=vn h;rw [z] at this;exact absurd (Int.zero_dvd.mp this) h0
 ·exact z
noncomputable def hi (ns:aw):Int:=match ns.filter (λ n=>decide (n≠0)) with
 | []=>1
 | n::_=>if n<0 then -1 else 1
theorem yl (ns:aw):hi ns=1\/hi ns = -1:=by
 unfold hi;split
 ·exact .inl rfl
 ·split
  ·exact .inr rfl
  ·exact .inl rfl
noncomputable def er (ns:aw):aw:=ns.map λ n=>n / (hi ns * (fW ns:Int))
theorem FZ (ns:aw):(er ns).length=ns.length:=a6 _
theorem MX (h : ∃ n∈ns,n≠0):ns=(er ns).map λ x=>(hi ns * (fW ns:Int)) * x:=by
 obtain ⟨n,az,h0⟩:=h;have ao:=Bf az h0;unfold er;rw [fZ];have : ∀ m∈ns,((λ x=>(hi ns * (fW ns:Int)) * x) ∘ λ n=>n / (hi ns * (fW ns:Int))) m=m:=λ m hm=>by
  show (hi ns * (fW ns:Int)) * (m / (hi ns * (fW ns:Int)))=m;refine Int.mul_ediv_cancel' ?_;rcases yl ns with z | z
  ·rw [z,ko];exact vn hm
  ·rw [z,nH,ko];exact Int.neg_dvd.mpr (vn hm)
 rw [qj this,List.map_id']
theorem FD (h : ∃ n∈ns,n≠0):hi ns * (fW ns:Int)≠0:=by
 obtain ⟨n,az,h0⟩:=h;have ao:=Bf az h0;rcases yl ns with z | z<;>rw [z]<;>omega
theorem Ya {p:aw} (h : ∃ n∈ns,n≠0) (hd:bc ns p=0):bc (er ns) p=0:=by
 have e:=MX h;rw [e,GO] at hd;rcases Int.mul_eq_zero.mp hd with z | z
 ·exact absurd z (FD h)
 ·exact z
theorem Yb (x:Nat):(er ns).getD x 0=ns.getD x 0 / (hi ns * (fW ns:Int)):=by
 unfold er;rw [bk,c9,bk];cases ns[x]? with
 | none=>exact (Int.zero_ediv _).symm
 | some a=>rfl
theorem MY (h : ∃ n∈ns,n≠0) (x:Nat):(er ns).getD x 0=0 ↔ ns.getD x 0=0:=by
 rw [Yb];constructor
 ·intro z;have hd:hi ns * (fW ns:Int)∣ns.getD x 0:=by
   rw [bk];cases ae:ns[x]? with
   | none=>exact Int.dvd_zero _
   | some a =>
    have hm:=vn (cf ae);rcases yl ns with w | w
    ·rw [w,ko];exact hm
    ·rw [w,nH,ko];exact Int.neg_dvd.mpr hm
  have:=Int.mul_ediv_cancel' hd;rw [z,jr] at this;exact this.symm
 ·intro z;rw [z,Int.zero_ediv]
noncomputable def mV (r:aw) (l:Nat):Prop:=r.getD l 0≠0 /\ ∀ x,x<l->r.getD x 0=0
noncomputable def It (r s:aw):Prop := ∃ l,mV r l /\ ∀ x,x<=l->s.getD x 0=0
theorem mV.mem {r:aw} {l:Nat} (h:mV r l) : ∃ n∈r,n≠0:=by
 have I:=h.1;rw [bk] at I;cases ae:r[l]? with
 | none=>rw [ae] at I;exact absurd rfl I
 | some a=>rw [ae] at I;exact ⟨a,cf ae,I⟩
theorem mV.low {r:aw} {l:Nat} (h:mV r l):mV (er r) l:=⟨λ z=>h.1 ((MY h.mem l).mp z),λ x ae=>(MY h.mem x).mpr (h.2 x ae)⟩
theorem ZH {u t:Int} {r o:aw} (h:r.length=o.length) (x:Nat):(kd u t r o).getD x 0=u * r.getD x 0 - t * o.getD x 0:=by
 unfold kd;rw [bk,bk,bk];rcases k5 x r.length with z | z
 ·have e:(List.zipWith (λ a b:Int=>u * a - t * b) r o)[x]?=some (u * r[x] - t * o[x]'(by omega)):=by
   rw [gH];exact ⟨_,_,bz z,bz .ab,rfl⟩
  rw [e,bz z,bz .ab];rfl
 ·rw [g6 (by rw [k4];omega),g6 z,g6 .ab];show (0:Int)=u * 0 - t * 0;omega
noncomputable def dy (b:Nat) (r:aw):Prop := ∀ n∈r,n.natAbs<=2 ^ b
theorem dy.low {b:Nat} {r:aw} (h:dy b r) (aS : ∃ n∈r,n≠0):dy b (er r):=λ n az=>by
 unfold er at az;obtain ⟨m,hm,rfl⟩:=dz.mp az;have I:=h m hm;have ah:=FD aS;have aD:(m / (hi r * (fW r:Int))).natAbs<=m.natAbs:=Int.natAbs_ediv_le_natAbs _ _;omega
theorem Ft {b c:Nat} : ∀ {r p:aw},dy b r->dy c p->(bc r p).natAbs<=r.length * 2 ^ (b+c)
 | [],p,_,_=>by rw [lQ];exact fk _
 | a::r,[],_,_=>by
  show (0:Int).natAbs<=_;exact fk _
 | a::r,q::p,I,ah=>by
  have b0:=Ft (r:=r) (p:=p) (λ n az=>I n (eQ _ az)) (λ n az=>ah n (eQ _ az));have au:=I a d2;have aK:=ah q d2;rw [fI,mB,Nat.add_mul,tj];have aD:(a * q).natAbs<=2 ^ (b+c):=by
   rw [u_,tl];exact u4 au aK
  have aL:=Int.natAbs_add_le (a * q) (bc r p);omega
theorem L9 {b:Nat} {u t:Int} {r o:aw} (bM:u.natAbs<=2 ^ d) (aW:t.natAbs<=2 ^ d) (av:dy b r) (a0:dy b o):dy (b+d+1) (kd u t r o):=λ n az=>by
 unfold kd at az;obtain ⟨i,aq⟩:=gk az;rw [gH] at aq;obtain ⟨x,y,ae,a8,rfl⟩:=aq;have I:=av x (cf ae);have ah:=a0 y (cf a8);have aD:(u * x).natAbs<=2 ^ (b+d):=by
  rw [u_,tl,mA];exact u4 I bM
 have aL:(t * y).natAbs<=2 ^ (b+d):=by
  rw [u_,tl,mA];exact u4 ah aW
 have cp:=Int.natAbs_sub_le (u * x) (t * y);rw [nF];omega
structure gE (b:Nat) (cs rows:aZ):Prop where
 iP : ∀ r∈rows,r.length=10
 bd : ∀ r∈rows,dy b r
 r4 : ∀ r∈rows,∃ l,mV r l
 v3:rows.Pairwise It
 kept : ∀ r∈rows,∀ c∈cs,bc r c=0
theorem gE.more {b gv:Nat} {rows:aZ} (h:gE b cs rows) (af:b<=gv):gE gv cs rows:=⟨h.iP,λ r av n az=>et (h.bd r av n az) (Nat.pow_le_pow_right .aG af),h.r4,h.v3,h.kept⟩
noncomputable def sg (c o r:aw):aw:=er (kd (bc o c) (bc r c) r o)
noncomputable def ET (c o:aw) (r:aw):Prop:=It r o\/bc r c=0
theorem Ma {c o r:aw} (ar:r.length=o.length) (a0:bc o c≠0) (h:ET c o r) {l:Nat} (av:mV r l):mV (kd (bc o c) (bc r c) r o) l:=by
 have key : ∀ x,x<=l->(kd (bc o c) (bc r c) r o).getD x 0=bc o c * r.getD x 0:=λ x ae=>by
  rw [ZH ar];rcases h with ⟨jw,Jc,aS⟩ | z
  ·have e:jw=l:=by
    rcases Ff jw l with y | y | y
    ·exact absurd (av.2 jw y) Jc.1
    ·exact y
    ·exact absurd (Jc.2 l y) av.1
   rw [aS x .ab,jr,Int.sub_zero]
  ·rw [z,ry,Int.sub_zero]
 refine ⟨?_,λ x ae=>?_⟩
 ·rw [key l (br l)];exact Int.mul_ne_zero a0 av.1
 ·rw [key x .ab,av.2 x ae,jr]
theorem gE.step {b:Nat} {rows:aZ} {c o:aw} (h:gE b cs rows) (aj:dy 6 c) (a0:o∈rows) (jB:bc o c≠0) (au : ∀ r∈rows,r≠o->ET c o r):gE (b+(b+10)+1) (cs++[c]) ((rows.filter λ r=>decide (r≠o)).map (sg c o)):=by
 have lo:=h.iP o a0;have inf : ∀ r∈rows.filter (λ r=>decide (r≠o)),r∈rows/\r≠o:=λ r av=>by
  obtain ⟨I,ah⟩:=mr.mp av;exact ⟨I,fY ah⟩
 have dl : ∀ r∈rows,(bc r c).natAbs<=2 ^ (b+10):=λ r av=>by
  have:=Ft (h.bd r av) aj;rw [h.iP r av] at this;have e:2 ^ (b+10)=2 ^ (b+6) * 16:=by rw [show b+10=b+6+4 by omega,tl]
  have:=va (b+6);omega
 have lead : ∀ r∈rows,r≠o -> ∀ l,mV r l->mV (kd (bc o c) (bc r c) r o) l:=λ r av az l ar=>Ma (by rw [h.iP r av,lo]) jB (au r av az) ar
 refine ⟨?_,?_,?_,?_,?_⟩
 ·intro bU dE;obtain ⟨r,av,rfl⟩:=dz.mp dE;obtain ⟨I,ah⟩:=inf r av;unfold sg kd;rw [FZ,k4,h.iP r I,lo];rfl
 ·intro bU dE;obtain ⟨r,av,rfl⟩:=dz.mp dE;obtain ⟨I,ah⟩:=inf r av;obtain ⟨l,ar⟩:=h.r4 r I;exact (L9 (dl o a0) (dl r I) (h.bd r I) (h.bd o a0)).low (lead r I ah l ar).mem
 ·intro bU dE;obtain ⟨r,av,rfl⟩:=dz.mp dE;obtain ⟨I,ah⟩:=inf r av;obtain ⟨l,ar⟩:=h.r4 r I;exact ⟨l,(lead r I ah l ar).low⟩
 ·rw [List.pairwise_map];refine List.Pairwise.imp_of_mem ?_ (h.v3.filter _);intro r s av aF kP;obtain ⟨I,ah⟩:=inf r av;obtain ⟨aD,aL⟩:=inf s aF;obtain ⟨l,ar,aS⟩:=kP;obtain ⟨dO,dQ⟩:=h.r4 s aD;have aN:l<dO:=by
   rcases k5 l dO with y | y
   ·exact y
   ·exact absurd (aS dO y) dQ.1
  have kq:=(lead r I ah l ar).low;have bC:=(lead s aD aL dO dQ).low;exact ⟨l,kq,λ x ae=>bC.2 x .ab⟩
 ·intro bU dE bG dW;obtain ⟨r,av,rfl⟩:=dz.mp dE;obtain ⟨I,ah⟩:=inf r av;obtain ⟨l,ar⟩:=h.r4 r I;refine Ya (lead r I ah l ar).mem ?_;rw [NR _ _ _ _ _ (by rw [h.iP r I,lo])];rcases iX.mp dW with z | z
  ·rw [h.kept r I bG z,h.kept o a0 bG z,jr,jr];rfl
  ·rw [ix.mp z,nI (bc o c),Int.sub_self]
theorem gE.hP {b:Nat} {rows:aZ} {c:aw} (h:gE b cs rows) (aE : ∀ r∈rows,bc r c=0):gE b (cs++[c]) rows:=⟨h.iP,h.bd,h.r4,h.v3,λ r av bG dW=>by
 rcases iX.mp dW with z | z
 ·exact h.kept r av bG z
 ·rw [ix.mp z];exact aE r av⟩
noncomputable def iv (k:Nat):aw:=(List.range 10).map λ j=>if j=k then 1 else 0
theorem gE.start:gE 0 [] ((List.range 10).map iv):=by
 refine ⟨?_,?_,?_,?_,λ r _ c aj=>by cases aj⟩
 ·decide
 ·have : ∀ r∈(List.range 10).map iv,∀ n∈r,n.natAbs<=2 ^ 0:=by decide
  exact this
 ·intro r av;obtain ⟨k,aE,rfl⟩:=dz.mp av;have aE:k<10:=fH.mp aE;have : ∀ k,k<10->(iv k).getD k 0≠0 /\ ∀ x,x<k->(iv k).getD x 0=0:=by decide
  exact ⟨k,this k aE⟩
 ·rw [List.pairwise_map];refine List.Pairwise.imp_of_mem ?_ (List.pairwise_lt_range (n:=10));intro j k aY aE ov;have aY:j<10:=fH.mp aY;have aE:k<10:=fH.mp aE;have I : ∀ k,k<10->(iv k).getD k 0≠0 /\ ∀ x,x<k->(iv k).getD x 0=0:=by decide
  exact ⟨j,I j aY,λ x ae=>(I k aE).2 x .ab⟩
noncomputable def iq (c:aw) (rows:aZ):bo:=(List.range rows.length).filter λ i=>decide (bc (rows.getD i []) c≠0)
noncomputable def mq (c:aw) (rows:aZ):aZ:=match (iq c rows).getLast? with
 | none=>rows
 | some L=>(rows.filter λ r=>decide (r≠rows.getD L [])).map (sg c (rows.getD L []))
theorem FP {c:aw} {rows:aZ} {i:Nat}:i∈iq c rows ↔ i<rows.length/\bc (rows.getD i []) c≠0:=by
 unfold iq;rw [mr,fH,oV]
theorem Nv {c:aw} {rows:aZ} (h:(iq c rows).getLast?=none) : ∀ r∈rows,bc r c=0:=λ r av=>by
 obtain ⟨i,aq⟩:=gk av;have ar:=(cL.mp aq).1;have he:iq c rows=[]:=List.getLast?_eq_none_iff.mp h;rcases rz (bc r c=0) with z | z
 ·exact z
 ·have:i∈iq c rows:=FP.mpr ⟨ar,by rw [bk,aq];exact z⟩;rw [he] at this;cases this
theorem Bk {c:aw} {rows:aZ} {L:Nat} (h:(iq c rows).getLast?=some L):L<rows.length/\bc (rows.getD L []) c≠0 /\ ∀ i,i<rows.length->L<i->bc (rows.getD i []) c=0:=by
 obtain ⟨ys,a8⟩:=List.getLast?_eq_some_iff.mp h;have hm:L∈iq c rows:=by rw [a8];exact jH _ d2
 obtain ⟨I,ah⟩:=FP.mp hm;refine ⟨I,ah,λ i aq cc=>?_⟩;rcases rz (bc (rows.getD i []) c=0) with z | z
 ·exact z
 ·have gB:i∈iq c rows:=FP.mpr ⟨aq,z⟩;have ao:(iq c rows).Pairwise (· < ·):=(List.pairwise_lt_range (n:=rows.length)).filter _;rw [a8] at gB ao;rcases iX.mp gB with w | w
  ·have:=(List.pairwise_append.mp ao).2.2 i w L d2;omega
  ·rw [ix.mp w] at cc;omega
theorem abS {b:Nat} {rows:aZ} {c:aw} (h:gE b cs rows) {L:Nat} (cc:(iq c rows).getLast?=some L) : ∀ r∈rows,r≠rows.getD L []->ET c (rows.getD L []) r:=λ r av az=>by
 obtain ⟨I,ah,aD⟩:=Bk cc;have aR:rows.getD L []=rows[L]:=by rw [bk,bz I];rfl
 obtain ⟨i,aq⟩:=gk av;have ou:=(cL.mp aq).1;have gD:rows[i]=r:=(cL.mp aq).2;rcases Ff i L with z | z | z
 ·refine .inl ?_;rw [aR,<-gD];exact List.pairwise_iff_getElem.mp h.v3 i L ou I z
 ·subst z;exact absurd (by rw [aR,gD]) az
 ·refine .inr ?_;have:=aD i ou z;rw [bk,aq] at this;exact this
theorem Ll {b:Nat} {rows:aZ} {c:aw} (h:gE b cs rows) (aj:dy 6 c) {r:aw} (av:r∈rows):(bc r c).natAbs<=2 ^ (b+10):=by
 have:=Ft (h.bd r av) aj;rw [h.iP r av] at this;have e:2 ^ (b+10)=2 ^ (b+6) * 16:=by rw [show b+10=b+6+4 by omega,tl]
 have:=va (b+6);omega
theorem ZE {b:Nat} {rows:aZ} {c:aw} (h:gE b cs rows) (aj:dy 6 c):gE (2 * b+11) (cs++[c]) (mq c rows):=by
 unfold mq;cases cc:(iq c rows).getLast? with
 | none=>exact (h.hP (Nv cc)).more .ab
 | some L =>
  obtain ⟨I,ah,aD⟩:=Bk cc;have aR:rows.getD L []=rows[L]:=by rw [bk,bz I];rfl
  have:=h.step aj (o:=rows.getD L []) (by rw [aR];exact g5 I) ah λ r av az=>by
   obtain ⟨i,aq⟩:=gk av;have ou:=(cL.mp aq).1;have gD:rows[i]=r:=(cL.mp aq).2;rcases Ff i L with z | z | z
   ·refine .inl ?_;rw [aR,<-gD];exact List.pairwise_iff_getElem.mp h.v3 i L ou I z
   ·subst z;exact absurd (by rw [aR,gD]) az
   ·refine .inr ?_;have:=aD i ou z;rw [bk,aq] at this;exact this
  exact this.more .ab
noncomputable def units:aZ:=(List.range 10).map iv
noncomputable def mm (cs:aZ):aZ:=cs.foldl (λ rows c=>mq c rows) units
noncomputable def o6:Nat->Nat
 | 0=>0
 | n+1=>2 * o6 n+11
theorem Ow {c:aw} (h:cs[n]?=some c):mm (cs.take (n+1))=mq c (mm (cs.take n)):=by
 unfold mm;rw [eC,h,qk];rfl
theorem FW : ∀ (r p c:aw),p.length=c.length->bc r (c7 p c 1)=bc r p+bc r c
 | [],p,c,_=>by rw [lQ,lQ,lQ];rfl
 | a::r,[],[],_=>by
  show (0:Int)=0+0;rfl
 | a::r,x::p,y::c,h=>by
  have b0:=FW r p c (by simpa using h);show bc (a::r) ((x+1 * y)::c7 p c 1)=_;rw [fI,fI,fI,b0,ko,oW];omega
theorem Zp {r p q:aw} (b4:l5 R) (aE : ∀ c∈R,bc r c=0) (ao:p.length=10) (h:ey R p=some q):bc r q=bc r p:=by
 obtain ⟨i,c,_,aj,_,rfl⟩:=vt h;have hm:=cf aj;rw [FW r p c (by rw [ao,b4 c hm]),aE c hm,rA]
theorem Gm {r p:aw} (b4:l5 R) (aE : ∀ c∈R,bc r c=0) (ao:p.length=10) (az:nn p=true) : ∀ {k:Nat} {q:aw},goN R k p=some q->bc r q=bc r p
 | 0,q,h=>by cases h;rfl
 | k+1,q,h=>by
  have h':(goN R k p).bind (ey R)=some q:=h;obtain ⟨m,hm,aK⟩:=u6.mp h';rw [Zp b4 aE (ny b4 ao az hm).1 aK];exact Gm b4 aE ao az hm
end ft
namespace bC
open PySem PySem.Spec PyProof.Rows
section
variable {X:a7}
noncomputable def VM (i j:Int):Prop:=j≠0 /\ ∃ m:Nat,j.natAbs<=2 ^ m/\m<=8000
theorem ZR:dt X (binaryOp .FloorDiv) (qH VM λ i j=>.int (i.fdiv j)):=sM λ i j _ _ _ _ _ ⟨h0,m,I,ah⟩ q=>by
 refine floordiv_int h0 q (.inl (PyProof.noPylong_of_log2 ?_));have aD:j.natAbs≠0:=by omega
 have aL:j.natAbs<2 ^ (m+1):=by rw [nF];have:=va m;omega
 have cp:j.natAbs.log2<m+1:=(A0 aD).mpr aL;omega
end
end bC
namespace du
open PySem bC ft
theorem acY {a4:TE} {Q:bN} {t:Nat->Bool} {f:Nat->V} (az:xs.length<=sizeLine) (ao : ∃ u v,pick js σ=u::v::σ0) (aT:H1 D=none)
  (au:H1 a=some (.lst xs))
  (aW : ∀ (i:Nat) (x:V) (H':aA) (R:Bool->aA->Prop),aB H1 H'->xs[i]?=some x->R (t i) H'->dx (some (.int (i:Int))::some x::σ0) H' R)
  (aF : ∀ (i:Nat) (x:V) (H':aA) (R:bN),aB H1 H'->xs[i]?=some x->t i=true->R (f i) H'->a4 (some (.int (i:Int))::some x::σ0) H' R)
  (q : ∀ H',aB H1 H'->H' D=some (.lst (((List.range xs.length).filter t).map f))->Q (.ref D) H'):gF (r8 a) D js (nf K 2 (iV (e4 0) (iV (e4 1) oG))) dx a4 σ H1 Q:=by
 obtain ⟨e_,v0,ao⟩:=ao;refine tD (n:=xs.length) az (λ i σ' H' zs=>(∃ u v:cq,σ'=u::v::σ0)/\aB H1 H'/\H' D=some (.lst zs)/\zs.length<=i/\zs=((List.range i).filter t).map f) ⟨⟨e_,v0,ao⟩,aB.new aT,bK,br _,rfl⟩ (λ i σ' H' zs _ ⟨_,_,aD,aL,_⟩=>⟨aD,aL⟩) (λ i σ' H' zs aq ⟨_,s',_⟩=>⟨_,xs[i],s' _ _ au,bz aq⟩) (λ σ' H' zs ⟨_,s',aD,_,e⟩=>⟨⟨_,s' _ _ au,br _⟩,?_⟩) ?_
 ·refine q H' s' ?_;rw [aD,e]
 ·rintro i σ' H' zs v ay aq ⟨⟨u,v,rfl⟩,s',aD,aL,e⟩ ⟨p,dR,rfl,x,rfl,ae⟩;have dF:=ae _ (s' _ _ au);refine ⟨p,_,rfl,aP.of bK,rfl,_,_,rfl,_,_,rfl,rfl,?_⟩;have dj:(upd H' p (.tup [.int (i:Int),x])) D=some (.lst zs):=by rw [bw (bT aD dR)];exact aD
  have s2:aB H1 (upd H' p (.tup [.int (i:Int),x])):=aB.more s' dR;have w2:(List.range (i+1)).filter t=(List.range i).filter t++(if t i=true then [i] else []):=by
   rw [vb,u7];congr 1;by_cases z:t i=true
   ·simp [z]
   ·simp [z]
  refine aW i x _ _ s2 dF ?_;cases fD:t i with
  | true =>
   refine aF i x _ _ s2 dF fD ⟨dj,⟨_,_,rfl⟩,?_,bK,?_,?_⟩
   ·intro c o bF;rw [bw (bT bF aT)];exact s2 c o bF
   ·rw [cJ];show zs.length+1<=i+1;omega
   ·rw [w2,e];simp [fD]
  | false =>
   refine ⟨dj,⟨_,_,rfl⟩,s2,dj,.ab,?_⟩;rw [w2,e];simp [fD]
theorem ac1 {b:Addr} {a4:TE} {Q:bN} (je:xs.length=ys.length) (az:xs.length<=sizeLine) (ao : ∃ u v,pick js σ=u::v::σ0) (aT:H1 D=none)
  (au:H1 a=some (.lst xs)) (af:H1 b=some (.lst ys)) (t:Nat->Bool) (eF:Nat->aA->bB->Prop) (h0:eF 0 (upd H1 D (.lst [])) [])
  (aE : ∀ i H' ay zs,eF i H' zs->(∀ c o,c≠D->H' c=some o->ay c=some o)->eF i ay zs)
  (aW : ∀ (i:Nat) (x y:V) (H':aA) (R:Bool->aA->Prop),aB H1 H'->xs[i]?=some x->ys[i]?=some y->R (t i) H'->dx (some x::some y::σ0) H' R)
  (hf : ∀ (i:Nat) (x y:V) (H':aA) (zs:bB),aB H1 H'->xs[i]?=some x->ys[i]?=some y->t i=false->eF i H' zs->eF (i+1) H' zs)
  (aF : ∀ (i:Nat) (x y:V) (H':aA) (zs:bB) (R:bN),aB H1 H'->xs[i]?=some x->ys[i]?=some y->t i=true->H' D=some (.lst zs)->eF i H' zs->(∀ z aO,aB H' aO->eF (i+1) aO (zs++[z])->R z aO)->a4 (some x::some y::σ0) H' R)
  (q : ∀ H' zs,aB H1 H'->H' D=some (.lst zs)->eF xs.length H' zs->Q (.ref D) H'):gF (uB a b) D js (nf K 2 (iV (e4 0) (iV (e4 1) oG))) dx a4 σ H1 Q:=by
 obtain ⟨e_,v0,ao⟩:=ao;refine tD (n:=xs.length) az (λ i σ' H' zs=>(∃ u v:cq,σ'=u::v::σ0)/\aB H1 H'/\H' D=some (.lst zs)/\zs.length<=i/\eF i H' zs) ⟨⟨e_,v0,ao⟩,aB.new aT,bK,br _,h0⟩ (λ i σ' H' zs _ ⟨_,_,aD,aL,_⟩=>⟨aD,aL⟩) (λ i σ' H' zs aq ⟨_,s',_⟩=>⟨_,_,xs[i],ys[i]'(by omega),s' _ _ au,s' _ _ af,bz aq,bz .ab⟩) (λ σ' H' zs ⟨_,s',aD,_,e⟩=>⟨⟨_,_,s' _ _ au,s' _ _ af,.inl (br _)⟩,q H' zs s' aD e⟩) ?_;rintro i σ' H' zs v ay aq ⟨⟨u,v,rfl⟩,s',aD,aL,e⟩ ⟨p,dR,rfl,x,y,rfl,ae⟩;obtain ⟨Dx,Dy⟩:=ae _ _ (s' _ _ au) (s' _ _ af);refine ⟨p,_,rfl,aP.of bK,rfl,_,_,rfl,_,_,rfl,rfl,?_⟩;have dj:(upd H' p (.tup [x,y])) D=some (.lst zs):=by rw [bw (bT aD dR)];exact aD
 have s2:aB H1 (upd H' p (.tup [x,y])):=aB.more s' dR;have aN:eF i (upd H' p (.tup [x,y])) zs:=aE i _ _ zs e λ c o _ h=>aB.new dR _ _ h
 refine aW i x y _ _ s2 Dx Dy ?_;cases fD:t i with
 | true =>
  refine aF i x y _ zs _ s2 Dx Dy fD dj aN λ z aO s4 i4=>⟨s4 _ _ dj,⟨_,_,rfl⟩,?_,bK,?_,?_⟩
  ·intro c o bF;rw [bw (bT bF aT)];exact s4 _ _ (s2 c o bF)
  ·rw [cJ];show zs.length+1<=i+1;omega
  ·exact aE _ _ _ _ i4 λ c o n h=>by rw [bw n];exact h
 | false=>exact ⟨dj,⟨_,_,rfl⟩,s2,dj,.ab,hf i x y _ zs s2 Dx Dy fD aN⟩
end du
namespace ft
theorem filter_lt {rows:aZ} {o:aw} (h:o∈rows):(rows.filter λ r=>decide (r≠o)).length+1<=rows.length:=by
 have I:(rows.filter λ r=>decide (r≠o)).length<rows.length:=by
  rw [List.length_filter_lt_length_iff_exists];exact ⟨o,h,.zs⟩
 omega
theorem gE.empty (b:Nat) (cs:aZ):gE b cs []:=⟨λ r h=>(by cases h),λ r h=>(by cases h),λ r h=>(by cases h),.nil,λ r h=>(by cases h)⟩
theorem Ka : ∀ n,n<=9->o6 n<=5621:=by decide
theorem UI : ∀ n,n<=8->o6 n<=2805:=by decide
theorem Wa {j:Nat} {rows:aZ} {c:aw} (aY:j<=9) (ar:rows.length+j<=10) (h:gE (o6 j) cs rows) (aj:dy 6 c) : ∃ hp,hp<=9/\(mq c rows).length+hp<=10/\gE (o6 hp) (cs++[c]) (mq c rows):=by
 have aE:=ZE h aj;unfold mq at aE ⊢;cases cc:(iq c rows).getLast? with
 | none =>
  refine ⟨j,aY,ar,h.hP (Nv cc)⟩
 | some L =>
  rw [cc] at aE;obtain ⟨I,ah,aD⟩:=Bk cc;have hm:rows.getD L []∈rows:=by
   rw [bk,bz I];exact g5 I
  have dg:=filter_lt hm;by_cases z:j=9
  ·have he:(rows.filter λ r=>decide (r≠rows.getD L []))=[]:=A1.mp .ab;show ∃ hp,hp<=9/\((rows.filter λ r=>decide (r≠rows.getD L [])).map (sg c (rows.getD L []))).length+hp<=10/\gE (o6 hp) (cs++[c]) ((rows.filter λ r=>decide (r≠rows.getD L [])).map (sg c (rows.getD L [])));rw [he];exact ⟨9,.ab,(by show 0+9<=10;decide),gE.empty _ _⟩
  ·refine ⟨j+1,.ab,?_,aE⟩;rw [a6];omega
theorem Eo (aj : ∀ c∈cs,dy 6 c) : ∀ n,n<=cs.length -> ∃ j,j<=9/\(mm (cs.take n)).length+j<=10/\gE (o6 j) (cs.take n) (mm (cs.take n))
 | 0,_=>⟨0,.ab,by
   show ((List.range 10).map iv).length+0<=10;rw [a6,i0];exact br _,gE.start⟩
 | n+1,az=>by
  obtain ⟨j,I,ah,aD⟩:=Eo aj n .ab;obtain ⟨c,c5⟩ : ∃ c,cs[n]?=some c:=⟨_,bz .ab⟩
  rw [Ow c5,eC,c5];exact Wa I ah aD (aj c (cf c5))
end ft
namespace bC
open PySem PySem.Spec PyProof.Rows
section
variable {X:a7}
noncomputable def VO (i j:Int):Prop := ∃ m n:Nat,i.natAbs<=2 ^ m/\j.natAbs<=2 ^ n/\m<=20000/\n<=20000
theorem MF {i:Int} (h:i.natAbs<=2 ^ m) (hm:m<=20000):Builtin.Int.intBits i<=2 ^ 20:=by
 unfold Builtin.Int.intBits;split
 ·exact fk _
 ·next aS =>
  have h0:i.natAbs≠0:=λ z=>aS (by simpa using z)
  have I:i.natAbs<2 ^ (m+1):=by rw [nF];have:=va m;omega
  have ah:i.natAbs.log2<m+1:=(A0 h0).mpr I;have aD:(2:Nat) ^ 20=1048576:=by decide
  omega
theorem yg:dt X (binaryOp .Mult) (qH VO λ i j=>.int (i * j)):=sM λ _ _ _ _ _ _ _ ⟨m,n,I,ah,aD,aL⟩ q=>mul_int q (IntMulOk.of_bits (MF I aD) (MF ah aL))
end
end bC
namespace ft
theorem getD_mem {l:Nat} (h:ns.getD l 0≠0):ns.getD l 0∈ns:=by
 rw [bk] at h ⊢;cases ae:ns[l]? with
 | none=>rw [ae] at h;exact absurd rfl h
 | some a=>exact cf ae
theorem rL : ∀ (x c:aw),(∀ k,x.getD k 0=0)->bc x c=0
 | [],c,_=>rfl
 | a::x,[],_=>rfl
 | a::x,b::c,h=>by
  have h0:a=0:=h 0;rw [fI,h0,ry,ql];exact rL x c λ k=>h (k+1)
theorem Bo : ∀ (a b:aw),bc a b=bc b a
 | [],[]=>rfl
 | [],b::bs=>rfl
 | a::as,[]=>rfl
 | a::as,b::bs=>by rw [fI,fI,Bo as bs,nI]
end ft
namespace du
open PySem bC ft
theorem BI {t:Nat->Bool} (i:Nat):(List.range (i+1)).filter t=(List.range i).filter t++(if t i=true then [i] else []):=by
 rw [vb,u7];congr 1;by_cases z:t i=true
 ·simp [z]
 ·simp [z]
theorem ad5 {a4:TE} {Q:bN} {t:Nat->Bool} {f:Nat->V} (az:xs.length<=sizeLine) (ao : ∃ u v,pick js σ=u::v::σ0) (aT:H1 D=none)
  (au:H1 a=some (.tup xs))
  (aW : ∀ (i:Nat) (x:V) (H':aA) (R:Bool->aA->Prop),aB H1 H'->xs[i]?=some x->(∀ ay,aB H' ay->R (t i) ay)->dx (some (.int (i:Int))::some x::σ0) H' R)
  (aF : ∀ (i:Nat) (x:V) (H':aA) (R:bN),aB H1 H'->xs[i]?=some x->t i=true->(∀ ay,aB H' ay->R (f i) ay)->a4 (some (.int (i:Int))::some x::σ0) H' R)
  (q : ∀ H',aB H1 H'->H' D=some (.lst (((List.range xs.length).filter t).map f))->Q (.ref D) H'):gF (t8 K a) D js (nf K 2 (iV (e4 0) (iV (e4 1) oG))) dx a4 σ H1 Q:=by
 obtain ⟨e_,v0,ao⟩:=ao;refine tD (n:=xs.length) az (λ i σ' H' zs=>(∃ u v:cq,σ'=u::v::σ0)/\aB H1 H'/\H' D=some (.lst zs)/\zs.length<=i/\zs=((List.range i).filter t).map f) ⟨⟨e_,v0,ao⟩,aB.new aT,bK,br _,rfl⟩ (λ i σ' H' zs _ ⟨_,_,aD,aL,_⟩=>⟨aD,aL⟩) (λ i σ' H' zs aq ⟨_,s',_⟩=>⟨_,xs[i],aP.of (s' _ _ au),bz aq⟩) (λ σ' H' zs ⟨_,s',aD,_,e⟩=>⟨⟨_,aP.of (s' _ _ au),br _⟩,?_⟩) ?_
 ·refine q H' s' ?_;rw [aD,e]
 ·rintro i σ' H' zs v ay aq ⟨⟨u,v,rfl⟩,s',aD,aL,e⟩ ⟨p,dR,rfl,x,rfl,ae⟩;have dF:=ae _ (aP.of (s' _ _ au));refine ⟨p,_,rfl,aP.of bK,rfl,_,_,rfl,_,_,rfl,rfl,?_⟩;have dj:(upd H' p (.tup [.int (i:Int),x])) D=some (.lst zs):=by rw [bw (bT aD dR)];exact aD
  have s2:aB H1 (upd H' p (.tup [.int (i:Int),x])):=aB.more s' dR;refine aW i x _ _ s2 dF λ aM s3=>?_
  cases fD:t i with
  | true =>
   refine aF i x _ _ (s2.trans s3) dF fD λ aO s4=>⟨s4 _ _ (s3 _ _ dj),⟨_,_,rfl⟩,?_,bK,?_,?_⟩
   ·intro c o bF;rw [bw (bT bF aT)];exact s4 _ _ (s3 _ _ (s2 c o bF))
   ·rw [cJ];show zs.length+1<=i+1;omega
   ·rw [BI,e];simp [fD]
  | false =>
   refine ⟨s3 _ _ dj,⟨_,_,rfl⟩,s2.trans s3,s3 _ _ dj,.ab,?_⟩;rw [BI,e];simp [fD]
theorem ac0 {a4:TE} {Q:bN} {t:Nat->Bool} {f:Nat->V} (az:xs.length<=sizeLine) (ao : ∃ u,pick js σ=u::σ0) (aT:H1 D=none)
  (au:aP K H1 a xs)
  (aW : ∀ (i:Nat) (x:V) (H':aA) (R:Bool->aA->Prop),aB H1 H'->xs[i]?=some x->(∀ ay,aB H' ay->R (t i) ay)->dx (some x::σ0) H' R)
  (aF : ∀ (i:Nat) (x:V) (H':aA) (R:bN),aB H1 H'->xs[i]?=some x->t i=true->(∀ ay,aB H' ay->R (f i) ay)->a4 (some x::σ0) H' R)
  (q : ∀ H',aB H1 H'->H' D=some (.lst (((List.range xs.length).filter t).map f))->Q (.ref D) H'):gF (od K a) D js (e4 0) dx a4 σ H1 Q:=by
 obtain ⟨e_,ao⟩:=ao;have Cn : ∀ H',aB H1 H'->aP K H' a xs:=λ H' s'=>by
  rcases au with (h | ⟨u,h⟩) | h
  ·exact .inl (.inl (s' _ _ h))
  ·exact .inl (.inr ⟨u,s' _ _ h⟩)
  ·exact .inr h
 refine tD (n:=xs.length) az (λ i σ' H' zs=>(∃ u:cq,σ'=u::σ0)/\aB H1 H'/\H' D=some (.lst zs)/\zs.length<=i/\zs=((List.range i).filter t).map f) ⟨⟨e_,ao⟩,aB.new aT,bK,br _,rfl⟩ (λ i σ' H' zs _ ⟨_,_,aD,aL,_⟩=>⟨aD,aL⟩) (λ i σ' H' zs aq ⟨_,s',_⟩=>⟨_,xs[i],Cn _ s',bz aq⟩) (λ σ' H' zs ⟨_,s',aD,_,e⟩=>⟨⟨_,Cn _ s',br _⟩,?_⟩) ?_
 ·refine q H' s' ?_;rw [aD,e]
 ·rintro i σ' H' zs x ay aq ⟨⟨u,rfl⟩,s',aD,aL,e⟩ ⟨rfl,ae⟩;have dF:=ae _ (Cn _ s');refine aW i x _ _ s' dF λ aM s3=>?_
  cases fD:t i with
  | true =>
   refine aF i x _ _ (s'.trans s3) dF fD λ aO s4=>⟨s4 _ _ (s3 _ _ aD),⟨_,rfl⟩,?_,bK,?_,?_⟩
   ·intro c o bF;rw [bw (bT bF aT)];exact s4 _ _ (s3 _ _ (s' c o bF))
   ·rw [cJ];show zs.length+1<=i+1;omega
   ·rw [BI,e];simp [fD]
  | false =>
   refine ⟨s3 _ _ aD,⟨_,rfl⟩,s'.trans s3,s3 _ _ aD,.ab,?_⟩;rw [BI,e];simp [fD]
end du
namespace ft
open du
noncomputable def hZ (R:aZ) (p:aw):Option aw:=(dm R p).map λ k=>R.getD k []
theorem Bt : ∀ (R:aZ) (p:aw),hZ R p=R.find? λ c=>fe c p
 | [],_=>rfl
 | c::R,p=>by
  have b0:=Bt R p;unfold hZ at b0 ⊢;unfold dm;rw [nG];cases h:fe c p with
  | true=>rfl
  | false =>
   rw [if_neg .aG,Option.map_map];rw [<-b0];rfl
noncomputable def jg (q p:aw):Prop := ∀ (i:Nat) (a b:Int),q[i]?=some a->p[i]?=some b->a<=b
theorem aaR {c q p:aw} (ar:q.length=p.length) (h:jg q p) (hf:fe c q=true):fe c p=true:=by
 rw [vz] at hf ⊢;intro i a b I ah;have aq:i<q.length:=by rw [ar];exact (cL.mp ah).1
 have:=hf i a _ I (bz aq);have:=h i _ _ (bz aq) ah;omega
theorem Ny (j:Nat):(bu (bH j)).length=10:=by simp [bu,bH,dK]
theorem Bd {i j:Nat} {p:aw} (h:nK i j=true) (az:nn p=true) (ao:p.length=10):fe (chg i j) p=true ↔ jg (bu (bH j)) p:=by
 rw [<-Oi h az,iZ];constructor
 ·intro z k a b I ah;have:=z (b - a) (cf (i:=k) (by rw [List.getElem?_zipWith,ah,I]));omega
 ·intro z x ae;obtain ⟨k,aE⟩:=gk ae;rw [gH] at aE;obtain ⟨b,a,I,ah,rfl⟩:=aE;have:=z k a b ah I;omega
theorem Y8 (j:Nat):nn (bu (bH j))=true:=by
 rw [iZ];intro x ae;obtain ⟨n,_,rfl⟩:=dz.mp ae;omega
noncomputable def imax (x y:Int):Int:=if y > x then y else x
noncomputable def lB (w v:aw):aw:=List.zipWith imax w v
noncomputable def ES:aw:=List.replicate 10 0
noncomputable def gZ (ai:cx):aZ:=(ai.map λ f=>bu (bH f.2.toNat))++[ES]
noncomputable def my (W V:aZ):aZ:=W.flatMap λ w=>V.map (lB w)
theorem vw {ai:cx} {w:aw} (h:w∈gZ ai):w.length=10/\nn w=true:=by
 unfold gZ at h;rcases iX.mp h with h | h
 ·obtain ⟨f,_,rfl⟩:=dz.mp h;exact ⟨Ny _,Y8 _⟩
 ·rw [ix] at h;subst h;exact ⟨rfl,.aG⟩
theorem W2 {w v p:aw} (I:jg w p) (ah:jg v p) (ar:w.length=10) (bl:v.length=10):jg (lB w v) p:=by
 intro i a b au af;unfold lB at au;rw [gH] at au;obtain ⟨x,y,ae,a8,rfl⟩:=au;have:=I i x b ae af;have:=ah i y b a8 af;unfold imax;split<;>omega
theorem X8 {w v:aw} (ar:w.length=10) (bl:v.length=10):jg w (lB w v):=by
 intro i a b au af;unfold lB at af;rw [gH] at af;obtain ⟨x,y,ae,a8,rfl⟩:=af;rw [au] at ae;cases ae;unfold imax;split<;>omega
theorem X9 {w v:aw} (ar:w.length=10) (bl:v.length=10):jg v (lB w v):=by
 intro i a b au af;unfold lB at af;rw [gH] at af;obtain ⟨x,y,ae,a8,rfl⟩:=af;rw [au] at a8;cases a8;unfold imax;split<;>omega
theorem Ls {w v:aw} (ar:w.length=10) (bl:v.length=10) (hw:nn w=true):(lB w v).length=10/\nn (lB w v)=true:=by
 refine ⟨by unfold lB;rw [k4,ar,bl];rfl,iZ.mpr λ x ae=>?_⟩;obtain ⟨i,aq⟩:=gk ae;unfold lB at aq;rw [gH] at aq;obtain ⟨a,b,au,af,rfl⟩:=aq;have:=iZ.mp hw a (cf au);unfold imax;split<;>omega
theorem aa1 {ai bp:cx} {p:aw} (h:p∈my (gZ ai) (gZ bp)):p.length=10/\nn p=true:=by
 unfold my at h;obtain ⟨w,hw,h⟩:=List.mem_flatMap.mp h;obtain ⟨v,bl,rfl⟩:=dz.mp h;obtain ⟨e2,hs⟩:=vw hw;obtain ⟨v1,v2⟩:=vw bl;exact Ls e2 v1 hs
noncomputable def uA (ai:cx):Prop := ∀ f∈ai,nK f.1.toNat f.2.toNat=true/\1<=f.2
theorem Mv {ai:cx} (hf:uA ai) {p:aw} (ao:p.length=10) (az:nn p=true) : ∃ w∈gZ ai,jg w p /\ ∀ q:aw,q.length=10->nn q=true->jg w q->jg q p->hZ (rowsOf ai) q=hZ (rowsOf ai) p:=by
 have none_of : ∀ (c:aw) (q:aw),q.length=10->jg q p->fe c p=false->fe c q=false:=by
  intro c q aK ar h;cases z:fe c q with
  | false=>rfl
  | true=>rw [aaR (by rw [aK,ao]) ar z] at h;cases h
 cases e:dm (rowsOf ai) p with
 | none =>
  refine ⟨ES,iX.mpr (.inr (ix.mpr rfl)),?_,?_⟩
  ·intro i a b au af;have h0:a=0:=by
    have:=cf au;unfold ES at this;exact List.eq_of_mem_replicate this
   have:=iZ.mp az b (cf af);omega
  ·intro q aK Jl _ ar;have I:dm (rowsOf ai) q=none:=by
    refine Gp _ _ λ j c aj=>none_of c q aK ar ?_
    cases z:fe c p with
    | false=>rfl
    | true =>
     have:=Bt (rowsOf ai) p;unfold hZ at this;rw [e] at this;have:=ya.mp this.symm c (cf aj);exact absurd z this
   unfold hZ;rw [I,e]
 | some k =>
  obtain ⟨c,aj,I3,aE⟩:=mG e;rw [k7] at aE;have Dc:ai[k]?=some ai[k]:=bz aE;have I4:c=chg (ai[k]).1.toNat (ai[k]).2.toNat:=by
   unfold rowsOf at aj;rw [c9,Dc] at aj;exact (eA aj).symm
  have aF:=(hf _ (cf Dc)).1;refine ⟨bu (bH (ai[k]).2.toNat),iX.mpr (.inl (dz.mpr ⟨_,cf Dc,rfl⟩)),?_,?_⟩
  ·rw [I4] at I3;exact (Bd aF az ao).mp I3
  ·intro q aK Jl hw ar;have I:dm (rowsOf ai) q=some k:=by
    refine A7 _ _ _ (λ j aY bG dW=>none_of bG q aK ar (OZ e j aY bG dW)) (λ bG dW=>?_) (by rw [k7];exact aE);rw [aj] at dW;cases dW;rw [I4];exact (Bd aF Jl aK).mpr hw
   unfold hZ;rw [I,e]
where
 OZ : ∀ {rows:aZ} {p:aw} {i:Nat},dm rows p=some i -> ∀ j,j<i -> ∀ a,rows[j]?=some a->fe a p=false
 | [],_,_,h=>by cases h
 | c::r,p,i,h=>by
  unfold dm at h;by_cases aj:fe c p=true
  ·rw [if_pos aj] at h;cases h;intro j aY;omega
  ·rw [if_neg aj] at h;cases e:dm r p with
   | none=>rw [e] at h;cases h
   | some k =>
    rw [e] at h;have aE:k+1=i:=eA h;subst aE;intro j aY a au;cases j with
    | zero =>
     cases au;cases z:fe c p with
     | true=>exact absurd z aj
     | false=>rfl
    | succ j=>exact OZ e j .ab a (by simpa using au)
noncomputable def Alike (ai bp:cx):Prop := ∀ p:aw,p.length=10->nn p=true->hZ (rowsOf ai) p=hZ (rowsOf bp) p
theorem ad3 {ai bp:cx} (hf:uA ai) (aR:uA bp) (h : ∀ p∈my (gZ ai) (gZ bp),hZ (rowsOf ai) p=hZ (rowsOf bp) p):Alike ai bp:=by
 intro p ao az;obtain ⟨w,hw,e2,hs⟩:=Mv hf ao az;obtain ⟨v,bl,v1,v2⟩:=Mv aR ao az;obtain ⟨wl,wn⟩:=vw hw;obtain ⟨fK,aeQ⟩:=vw bl;obtain ⟨ba,cm⟩:=Ls wl fK wn;have hle:=W2 e2 v1 wl fK;rw [<-hs _ ba cm (X8 wl fK) hle,<-v2 _ ba cm (X9 wl fK) hle];exact h _ (List.mem_flatMap.mpr ⟨w,hw,dz.mpr ⟨v,bl,rfl⟩⟩)
noncomputable def p8 (ai:cx) (n:Nat):Bool:=(ai.take n).any λ f=>decide ((ai.getD n (1,1)).2 % f.2=0)
noncomputable def rg (ai:cx):bo:=(List.range ai.length).filter λ k => !p8 ai k
noncomputable def xS (ai:cx):cx:=(rg ai).map λ k=>ai.getD k (1,1)
theorem Zi {p:Nat} (ao:2<=p) (az:1<=n) (h:m∣n):cnt p m<=cnt p n:=by
 have hm:1<=m:=Nat.pos_of_dvd_of_pos h az;refine E8 λ lt=>?_
 have aJ:=yp ao m hm;have aN:=yp ao n az;have mN:p ^ (cnt p n+1)∣n:=by
  refine AZ (Nat.pow_dvd_pow p lt) (AZ ⟨strip p m,aJ⟩ h)
 rw [nF] at mN;have B2:p ^ cnt p n * p∣p ^ cnt p n * strip p n:=by rw [<-aN];exact mN
 have Qx:=Nat.dvd_of_mul_dvd_mul_left (u3 .ab) B2;exact Oa ao n az (Nat.mod_eq_zero_of_dvd Qx)
theorem abH (az:1<=n) (h:m∣n):jg (bu (bH m)) (bu (bH n)):=by
 intro i a b au af;unfold bu bH at au af;rw [fZ,c9] at au af;cases ao:dK[i]? with
 | none=>rw [ao] at au;cases au
 | some p =>
  rw [ao] at au af;cases au;cases af;have:=Zi (nB p (cf ao)) az h;show ((cnt p m:Nat):Int)<=((cnt p n:Nat):Int);omega
theorem jg.trans {a b c:aw} (I:jg a b) (ah:jg b c) (ar:b.length=c.length):jg a c:=by
 intro i x z ae aS;have aq:i<b.length:=by rw [ar];exact (cL.mp aS).1
 have:=I i x _ ae (bz aq);have:=ah i _ z (bz aq) aS;omega
theorem adh (ai:cx):rowsOf ai=(List.range ai.length).map λ k=>chg (ai.getD k (1,1)).1.toNat (ai.getD k (1,1)).2.toNat:=by
 apply rv;intro i;unfold rowsOf;rw [c9,c9];by_cases h:i<ai.length
 ·rw [nJ h,bz h];show _=some (chg (ai.getD i (1,1)).1.toNat (ai.getD i (1,1)).2.toNat);rw [bk,bz h];rfl
 ·rw [g6 .ab,g6 (by rw [i0];omega)];rfl
theorem aaU {ai:cx} (hf:uA ai) {p:aw} (ao:p.length=10) (az:nn p=true) (Jh:n<ai.length) (h:p8 ai n=true) (jG:fe (chg (ai.getD n (1,1)).1.toNat (ai.getD n (1,1)).2.toNat) p=true) : ∃ j,j<n/\fe (chg (ai.getD j (1,1)).1.toNat (ai.getD j (1,1)).2.toNat) p=true:=by
 unfold p8 at h;rw [u9] at h;obtain ⟨f,I6,hd⟩:=h;rw [List.mem_take_iff_getElem] at I6;obtain ⟨j,aY,rfl⟩:=I6;have oo:=fY hd;have zB:j<ai.length:=by omega
 have y4:ai.getD n (1,1)=ai[n]:=by rw [bk,bz Jh];rfl
 have QD:ai.getD j (1,1)=ai[j]:=by rw [bk,bz zB];rfl
 obtain ⟨dr,d0⟩:=hf _ (g5 Jh);obtain ⟨dq,dU⟩:=hf _ (g5 zB);refine ⟨j,.ab,?_⟩;rw [y4] at jG oo;rw [QD];rw [Bd dq az ao];rw [Bd dr az ao] at jG;refine jg.trans (abH .ab ?_) jG (by rw [Ny,ao]);have:(ai[j]).2∣(ai[n]).2:=Int.dvd_of_emod_eq_zero oo;have aJ:((ai[j]).2.toNat:Int)=(ai[j]).2:=qh .ab;have aN:((ai[n]).2.toNat:Int)=(ai[n]).2:=qh .ab;rw [<-aJ,<-aN] at this;exact Fe.mp this
theorem aep {f g:Nat->Bool} (h : ∀ k,k<n->f k=true->g k=false -> ∃ j,j<k/\f j=true):((List.range n).filter g).find? f=(List.range n).find? f:=by
 rw [List.find?_filter];cases e:(List.range n).find? f with
 | none =>
  rw [ya] at e ⊢;intro k aE z;simp at z;exact e k aE z.2
 | some k =>
  rw [List.find?_range_eq_some] at e ⊢;obtain ⟨aJ,aN,dT⟩:=e;refine ⟨?_,aN,λ j aY=>?_⟩
  ·have:g k=true:=by
    cases z:g k with
    | true=>rfl
    | false =>
     obtain ⟨j,aY,C_⟩:=h k (fH.mp aN) aJ z;have:=dT j aY;rw [C_] at this;cases this
   simp [this,aJ]
  ·have:=dT j aY;simp at this;simp [this]
theorem acs {ai:cx} (hf:uA ai):Alike ai (xS ai):=by
 intro p ao az;rw [Bt,Bt,adh ai,List.find?_map];unfold xS rowsOf rg;rw [fZ,List.find?_map];rw [aep]
 ·rfl
 ·intro k aE I ah;have wC:p8 ai k=true:=by simpa using ah
  obtain ⟨j,aY,C_⟩:=aaU hf ao az aE wC I;exact ⟨j,aY,C_⟩
theorem Ze {ai:cx} {i j:Int} (az:n<ai.length) (I:ai[n]?=some (i,j)):(((List.range n).map λ k=>decide (j % (ai.getD k (1,1)).2=0)).any id)=p8 ai n:=by
 unfold p8;rw [List.any_map,show (ai.getD n (1,1)).2=j by rw [bk,I];rfl];rw [rj,u9,u9];constructor
 ·rintro ⟨k,aE,e⟩;rw [fH] at aE;have gC:k<ai.length:=by omega
  refine ⟨ai[k],?_,?_⟩
  ·rw [List.mem_take_iff_getElem];exact ⟨k,.ab,rfl⟩
  ·have bF:decide (j % (ai.getD k (1,1)).2=0)=true:=e;rw [bk,bz gC] at bF;exact bF
 ·rintro ⟨f,wQ,e⟩;rw [List.mem_take_iff_getElem] at wQ;obtain ⟨k,aE,rfl⟩:=wQ;have gC:k<ai.length:=by omega
  refine ⟨k,fH.mpr .ab,?_⟩;show decide (j % (ai.getD k (1,1)).2=0)=true;rw [bk,bz gC];exact e
end ft
namespace bC
open PySem PySem.Spec PyProof.Rows
noncomputable def uC (H:aA) (v:V) (o:Option aw):Prop:=(v=.cV/\o=none) \/ ∃ a c,v=.ref a/\o=some c/\H a=some (.tup (c.map V.int))
theorem uC.same {v:V} {o:Option aw} (h:uC H v o) (s:aB H H'):uC H' v o:=by
 rcases h with h | ⟨a,c,I,ah,aD⟩
 ·exact .inl h
 ·exact .inr ⟨a,c,I,ah,s _ _ aD⟩
section
variable {X:a7}
theorem Xa (bM:X.A.units+1<cLine):dt X (compareOp .NotEq) (λ x y H Q => ∃ o e0,uC H x o/\uC H y e0/\Q (.aH (!decide (o=e0))) H):=by
 intro pins s σ H x y v u Q C bA bL h;obtain ⟨o,e0,I,ah,q⟩:=h;rcases I with ⟨rfl,rfl⟩ | ⟨a,c,rfl,rfl,au⟩
 ·rcases ah with ⟨rfl,rfl⟩ | ⟨b,d,rfl,rfl,af⟩
  ·exact rd pins s σ H _ _ v u Q C bA bL ⟨rfl,by simpa using q⟩
  ·cases bA;cases bL;obtain ⟨its,bV,p1,_⟩:=C.tuple (aP.of af);exact SeqAt.RcNeAt.none_tuple (A:=X.A) (s:=s) p1 (uQ bM) X.prog X.w _ _ ⟨.aH true,H,C,rfl,by simpa using q⟩
 ·rcases ah with ⟨rfl,rfl⟩ | ⟨b,d,rfl,rfl,af⟩
  ·cases bA;cases bL;obtain ⟨its,bV,p1,_⟩:=C.tuple (aP.of au);exact SeqAt.RcNeAt.tuple_none (A:=X.A) (s:=s) p1 (uQ bM) X.prog X.w _ _ ⟨.aH true,H,C,rfl,by simpa using q⟩
  ·refine AL bM pins s σ H _ _ v u Q C bA bL ⟨a,b,c,d,rfl,rfl,au,af,?_⟩;rw [show decide (some c=some d)=decide (c=d) by simp] at q;exact q
end
end bC
namespace du
open PySem bC ft
theorem aaI {a4:TE} {Q:bN} (az:xs.length<=sizeLine) (ao : ∃ u v,pick js σ=u::v::σ0) (aT:H1 D=none)
  (au:H1 a=some (.tup xs)) (P:Nat->V×V) (b8 : ∀ (i:Nat) (x:V),xs[i]?=some x -> ∃ c,x=.ref c/\H1 c=some (.tup [(P i).1,(P i).2])) (eF:Nat->aA->bB->Prop) (h0:eF 0 (upd H1 D (.lst [])) [])
  (aE : ∀ i H' ay zs ys,H' D=some (.lst ys)->eF i H' zs->b6 D H' ay->eF i ay zs)
  (aF : ∀ (i:Nat) (H':aA) (zs:bB) (R:bN),aB H1 H'->i<xs.length->H' D=some (.lst zs)->zs.length=i->eF i H' zs->(∀ z aO,aB H' aO->eF (i+1) aO (zs++[z])->R z aO)->a4 (some (P i).1::some (P i).2::σ0) H' R)
  (q : ∀ H' zs,aB H1 H'->H' D=some (.lst zs)->zs.length=xs.length->eF xs.length H' zs->Q (.ref D) H'):gF (od K a) D js (nf K 2 (iV (e4 0) (iV (e4 1) oG))) iy a4 σ H1 Q:=by
 obtain ⟨e_,v0,ao⟩:=ao;refine tD (n:=xs.length) az (λ i σ' H' zs=>(∃ u v:cq,σ'=u::v::σ0)/\aB H1 H'/\H' D=some (.lst zs)/\zs.length=i/\eF i H' zs) ⟨⟨e_,v0,ao⟩,aB.new aT,bK,rfl,h0⟩ (λ i σ' H' zs _ ⟨_,_,aD,aL,_⟩=>⟨aD,Nat.le_of_eq aL⟩) (λ i σ' H' zs aq ⟨_,s',_⟩=>⟨_,xs[i],aP.of (s' _ _ au),bz aq⟩) (λ σ' H' zs ⟨_,s',aD,aL,e⟩=>⟨⟨_,aP.of (s' _ _ au),br _⟩,q H' zs s' aD aL e⟩) ?_;rintro i σ' H' zs x ay aq ⟨⟨u,v,rfl⟩,s',aD,aL,e⟩ ⟨rfl,ae⟩;have dF:=ae _ (aP.of (s' _ _ au));obtain ⟨c,rfl,aj⟩:=b8 i x dF;refine ⟨c,_,rfl,aP.of (s' _ _ aj),rfl,_,_,rfl,_,_,rfl,rfl,?_⟩;refine aF i _ zs _ s' aq aD aL e λ z aO s4 i4=>⟨s4 _ _ aD,⟨_,_,rfl⟩,?_,bK,?_,?_⟩
 ·intro d o bF;rw [bw (bT bF aT)];exact s4 _ _ (s' d o bF)
 ·rw [cJ,aL];rfl
 ·exact aE _ _ _ _ _ (s4 _ _ aD) i4 b6.upd
end du
namespace bC
open PySem PySem.Spec PyProof.Rows
theorem Bh {X:a7} {a_:Expr} {cs:List Expr} {pos:Pos} {N:cE} {a4:TE}
  (a9:tr X scope cl N js) (aj:X.warm=true) (aq:iC X a_ iter fa)
  (aR : ∀ a3 pins s H,la (eY X scope cl N a3 pins s H λ _ _=>False) a_ g)
  (aW : ∀ a3 pins s H,t_ (eY X scope cl N a3 pins s H λ _ _=>False) cs dx)
  (he : ∀ a3 pins s H,cj (eY X scope cl N a3 pins s H λ _ _=>False) elt a4)
  (aF : ∀ x,foldedSetIterable iter X.env x=pure x:=by intro _;rfl):cj X (.ListComp elt [⟨a_,iter,cs,0⟩] scope pos) (rf js fa g dx a4) :=
 ⟨M6 a9 aj aq.o (λ a3 pins s H=>(aR a3 pins s H).o) (λ a3 pins s H=>(aW a3 pins s H).o) (λ a3 pins s H=>(he a3 pins s H).o) aF⟩
noncomputable def Ao (sc eX:Scope):Scope:={ sc with names:=mh sc eX }
noncomputable def FV (sc eX:Scope) (N ku:cE) (js:List (Option Nat)):Bool :=
 decide (sc.kind=.function)&&sc.names.all (λ y=>y.2 != .local||sc.names.lookup y.1 == some .local) &&
 (mh sc eX).all (λ p => !(p.2 == .cell||p.2 == .free)||(p3 sc).contains p.1||(kf sc).contains p.1)&&js.length == N.length&&(kf sc).all (λ x => !(p3 sc).contains x) &&
 (List.range N.length).all λ i=>match js[i]?,N[i]? with
  | some (some j),some x=>ku[j]? == some x && !(kf sc).contains x&&eX.names.lookup x == some .cell&&((mh sc eX).lookup x == some .cell||(mh sc eX).lookup x == some .free)
  | _,_=>true
theorem Bs {X:a7} {N:cE} (a0:X.env.scope=eX) (me:closureFor sc X.env=pure cl) (aE:cl.map (·.1)=p3 sc)
  (oI : ∀ p∈cl,X.env.cells.lookup p.1=some p.2) (mY:FV sc eX N ku js=true) (d9:X.N=ku):tr X sc cl N js:=by
 unfold FV at mY;simp only [h4] at mY;obtain ⟨⟨⟨⟨⟨ah,aD⟩,aL⟩,cp⟩,vU⟩,g9⟩:=mY;have o7:(relabel sc X.env).names=mh sc eX:=by
  unfold relabel mh Env.kindOf;rw [a0]
 refine ⟨me,λ x ae=>?_,fY ah,?_,?_,?_,kl cp,?_⟩
 ·have:=e5.mp vU x ae;cases e:cl.lookup x with
  | none=>rfl
  | some c =>
   have m:x∈p3 sc:=by
    rw [<-aE];exact dz.mpr ⟨(x,c),mem_of_lookup e,rfl⟩
   simp [m] at this
 ·intro y a8 ar;have:=e5.mp aD y a8;rw [ar] at this;simpa using this
 ·intro x c h;exact oI (x,c) (mem_of_lookup h)
 ·intro x h;rw [o7] at h;have:(p3 sc).contains x=true\/(kf sc).contains x=true:=by
   rcases h with h | h
   all_goals
    have:=e5.mp aL _ (mem_of_lookup h);simpa using this
  rcases this with z | z
  ·refine .inl (yN ?_);rw [aE];exact x6.mp z
  ·exact .inr (x6.mp z)
 ·intro i j x wF aY;have aq:i<N.length:=(cL.mp wF).1;have:=e5.mp g9 i (fH.mpr aq);rw [aY,wF] at this;simp only [h4,Bool.or_eq_true] at this;obtain ⟨⟨⟨a,d⟩,b⟩,c⟩:=this;refine ⟨?_,?_,?_,?_⟩
  ·rw [d9];exact kl a
  ·intro z;have:=x6.mpr z;rw [this] at d;cases d
  ·rw [a0];exact kl b
  ·rw [o7];rcases c with c | c
   ·exact .inl (kl c)
   ·exact .inr (kl c)
theorem GK {X:a7} {sP:Scope} {CM:List (Str×Addr)} {N rT:cE} {E:bY} (a0:X.env.scope=eX)
  (me:closureFor sc (eY X sP CM rT a3 pins s H E).env=pure cl) (aE:cl.map (·.1)=p3 sc)
  (oI : ∀ p∈cl,(eY X sP CM rT a3 pins s H E).env.cells.lookup p.1=some p.2) (mY:FV sc (Ao sP eX) N rT js=true):tr (eY X sP CM rT a3 pins s H E) sc cl N js:=by
 refine Bs (eX:=Ao sP eX) ?_ me aE oI mY rfl;show relabel sP X.env=Ao sP eX;unfold relabel Ao mh Env.kindOf;rw [a0]
section
variable {X:a7} {a_:Expr}
theorem YP (dp:X.K=K) {l:Expr} {en:TE} (ar:cj X l en):iC X a_ l (Ec K en):=by
 subst dp;exact kZ ar
theorem aab (dp:X.K=K) {l:Expr} {en:TE} (ar:cj X l en):iC X a_ l (EA K en):=by
 subst dp;exact hA ar
end
end bC
namespace du
open PySem bC ft
theorem GL {a4:TE} {Q:bN} (az:xs.length<=sizeLine) (ao : ∃ u,pick js σ=u::σ0) (aT:H1 D=none)
  (au:H1 a=some (.lst xs)) (eF:Nat->aA->bB->Prop) (h0:eF 0 (upd H1 D (.lst [])) [])
  (aE : ∀ i H' ay zs ys,H' D=some (.lst ys)->eF i H' zs->b6 D H' ay->eF i ay zs)
  (aF : ∀ (i:Nat) (x:V) (H':aA) (zs:bB) (R:bN),aB H1 H'->xs[i]?=some x->H' D=some (.lst zs)->zs.length=i->eF i H' zs->(∀ z aO,aB H' aO->eF (i+1) aO (zs++[z])->R z aO)->a4 (some x::σ0) H' R)
  (q : ∀ H' zs,aB H1 H'->H' D=some (.lst zs)->zs.length=xs.length->eF xs.length H' zs->Q (.ref D) H'):gF (oc K a) D js (e4 0) iy a4 σ H1 Q:=by
 obtain ⟨e_,ao⟩:=ao;refine tD (n:=xs.length) az (λ i σ' H' zs=>(∃ u:cq,σ'=u::σ0)/\aB H1 H'/\H' D=some (.lst zs)/\zs.length=i/\eF i H' zs) ⟨⟨e_,ao⟩,aB.new aT,bK,rfl,h0⟩ (λ i σ' H' zs _ ⟨_,_,aD,aL,_⟩=>⟨aD,Nat.le_of_eq aL⟩) (λ i σ' H' zs aq ⟨_,s',_⟩=>⟨_,xs[i],aQ.of (s' _ _ au),bz aq⟩) (λ σ' H' zs ⟨_,s',aD,aL,e⟩=>⟨⟨_,aQ.of (s' _ _ au),br _⟩,q H' zs s' aD aL e⟩) ?_;rintro i σ' H' zs x ay aq ⟨⟨u,rfl⟩,s',aD,aL,e⟩ ⟨rfl,ae⟩;have dF:=ae _ (aQ.of (s' _ _ au));refine aF i x _ zs _ s' dF aD aL e λ z aO s4 gn=>⟨s4 _ _ aD,⟨_,rfl⟩,?_,bK,by rw [cJ,aL];rfl,aE _ _ _ _ _ (s4 _ _ aD) gn b6.upd⟩
 intro c o bF;rw [bw (bT bF aT)];exact s4 _ _ (s' c o bF)
end du
namespace ft
open PySem PySem.NumText
instance (x:bo):Decidable (AllDigits x):=by unfold AllDigits;infer_instance
open du
theorem yt (n k:Nat):(List.replicate n (0:Int)).getD k 0=0:=by
 rw [bk,xY];split<;>rfl
theorem MU {x:aw} {k:Nat} (h:x.length<=k):x.getD k 0=0:=by
 rw [bk,g6 h];rfl
theorem L3 : ∀ (y l:aw) (i:Nat),(∀ j,j≠i->l.getD j 0=0)->bc y l=y.getD i 0 * l.getD i 0
 | [],l,i,_=>by
  rw [lQ,MU (fk _),ry]
 | a::y,[],i,_=>by
  rw [MU (x:=[]) (fk _),jr];rfl
 | a::y,b::l,0,h=>by
  rw [fI,Bo,rL l y λ k=>h (k+1) .ab,rA];rfl
 | a::y,b::l,i+1,h=>by
  have h0:b=0:=h 0 .ab;rw [fI,h0,jr,ql,L3 y l i λ j aY=>h (j+1) .ab];rfl
theorem Nu (l:Nat):(iv l).length=10:=by
 unfold iv;rw [a6,i0]
theorem FX : ∀ (a b c d:aw),a.length=c.length->bc (a++b) (c++d)=bc a c+bc b d
 | [],b,[],d,_=>by rw [lQ,ql];rfl
 | x::a,b,y::c,d,h=>by
  rw [List.cons_append,List.cons_append,fI,fI,FX a b c d (by simpa using h)];omega
theorem ME {l:aw} (h : ∀ v∈l,v=0) (k:Nat):l.getD k 0=0:=by
 rw [bk];cases aE:l[k]? with
 | none=>rfl
 | some v=>exact h v (cf aE)
theorem vE (r:aw):(∃ n∈r,n≠0) \/ ∀ n∈r,n=0:=by
 rcases rz (∃ n∈r,n≠0) with h | h
 ·exact .inl h
 ·exact .inr λ n az=>A2 λ z=>h ⟨n,az,z⟩
theorem ZL {r:aw} (h : ∀ n∈r,n=0):er r=r:=by
 unfold er
 conv=>rhs;rw [<-List.map_id r]
 refine qj λ n az=>?_
 rw [h n az,Int.zero_ediv];rfl
theorem dy.Vv {b:Nat} {r:aw} (h:dy b r):dy b (er r):=by
 rcases vE r with z | z
 ·exact h.low z
 ·rw [ZL z];exact h
theorem dy.at {b:Nat} {r:aw} (h:dy b r) (k:Nat):(r.getD k 0).natAbs<=2 ^ b:=by
 rcases rz (r.getD k 0=0) with z | z
 ·rw [z];exact fk _
 ·exact h _ (getD_mem z)
theorem LA : ∀ (M N:Nat) (f:Nat->Nat),M<N->(∀ m,m<N->f m<M) -> ∃ a b,a<b/\b<N/\f a=f b
 | 0,N,f,h,hf=>absurd (hf 0 h) (jq _)
 | M+1,N,f,h,hf=>by
  rcases rz (∃ m,m<N - 1/\f m=f (N - 1)) with ⟨m,I,ah⟩ | az
  ·exact ⟨m,N - 1,I,.ab,ah⟩
  ·have dD : ∀ m,m<N - 1->f m≠f (N - 1):=λ m hm e=>az ⟨m,hm,e⟩
   obtain ⟨a,b,I,ah,aD⟩:=LA M (N - 1) (λ m=>if f m=M then f (N - 1) else f m) .ab (λ m hm=>by
    show (if f m=M then f (N - 1) else f m)<M;have a1:=hf m .ab;have a2:=hf (N - 1) .ab;have qA:=dD m hm;split<;>omega)
   have d7:=dD a .ab;have ef:=dD b ah;refine ⟨a,b,I,.ab,?_⟩;revert aD;show (if f a=M then f (N - 1) else f a)=(if f b=M then f (N - 1) else f b)->_;intro aD;split at aD<;>split at aD<;>omega
noncomputable def codeN (b:Nat):bo->Nat
 | []=>0
 | d::l=>d+b * codeN b l
theorem LW {b:Nat} : ∀ {l:bo},(∀ d∈l,d<b)->codeN b l<b ^ l.length
 | [],_=>by show 0<b ^ 0;rw [ti];decide
 | d::l,h=>by
  have I:=h d d2;have ah:=LW (l:=l) λ x ae=>h x (eQ _ ae)
  show d+b * codeN b l<b ^ (l.length+1);have aD:b * (codeN b l+1)<=b * b ^ l.length:=Nat.mul_le_mul_left _ ah;rw [Nat.mul_add,Nat.mul_one] at aD;rw [nF,mA (b ^ l.length)];omega
theorem code_inj {b:Nat} : ∀ {l jw:bo},l.length=jw.length->(∀ d∈l,d<b)->(∀ d∈jw,d<b)->codeN b l=codeN b jw->l=jw
 | [],[],_,_,_,_=>rfl
 | d::l,d'::jw,ar,h,h',e=>by
  have I:=h d d2;have ah:=h' d' d2;have bF:d+b * codeN b l=d'+b * codeN b jw:=e;have af:0<b:=by omega
  have B5:d=d':=by
   have:=h3 (· % b) bF;simp only [Nat.add_mul_mod_self_left] at this
   rwa [Nat.mod_eq_of_lt I,Nat.mod_eq_of_lt ah] at this
  have lW:codeN b l=codeN b jw:=Nat.eq_of_mul_eq_mul_left af .ab;rw [B5,code_inj (by simpa using ar) (λ x ae=>h x (eQ _ ae)) (λ x ae=>h' x (eQ _ ae)) lW]
theorem Gf (l j:Nat):(iv l).getD j 0=if j<10 then (if j=l then 1 else 0) else 0:=by
 unfold iv;rw [bk,c9];by_cases aY:j<10
 ·rw [nJ aY,if_pos aY];rfl
 ·rw [g6 (by rw [i0];omega),if_neg aY];rfl
theorem get_set (row:aw) (i j:Nat) (v:Int):(row.set i v).getD j 0=if i=j/\i<row.length then v else row.getD j 0:=by
 rw [bk,bk,List.getElem?_set];by_cases e:i=j
 ·subst e;by_cases h:i<row.length
  ·rw [if_pos rfl,if_pos h,if_pos ⟨rfl,h⟩];rfl
  ·rw [if_pos rfl,if_neg h,if_neg (λ z=>h z.2),g6 .ab]
 ·rw [if_neg e,if_neg (λ z=>e z.1)]
noncomputable def cy (f:Nat->Int):Nat->Int
 | 0=>0
 | n+1=>cy f n+f n
theorem lS {f g:Nat->Int} : ∀ {n:Nat},(∀ i,i<n->f i=g i)->cy f n=cy g n
 | 0,_=>rfl
 | n+1,h=>by
  show cy f n+f n=cy g n+g n;rw [lS λ i aq=>h i .ab,h n .ab]
theorem Bj (f g:Nat->Int) (a b:Int) : ∀ n,cy (λ i=>a * f i+b * g i) n=a * cy f n+b * cy g n
 | 0=>by show (0:Int)=a * 0+b * 0;omega
 | n+1=>by
  show cy (λ i=>a * f i+b * g i) n+(a * f n+b * g n)=a * (cy f n+f n)+b * (cy g n+g n);rw [Bj f g a b n,oW,oW];omega
theorem GI {f:Nat->Int} : ∀ {n:Nat},(∀ i,i<n->f i=0)->cy f n=0
 | 0,_=>rfl
 | n+1,h=>by
  show cy f n+f n=0;rw [GI λ i aq=>h i .ab,h n .ab];rfl
theorem yx {f:Nat->Int} {i:Nat} : ∀ {n:Nat},i<n->(∀ j,j<n->j≠i->f j=0)->cy f n=f i
 | 0,h,_=>absurd h (jq _)
 | n+1,h,aS=>by
  show cy f n+f n=f i;by_cases e:i=n
  ·subst e;rw [GI λ j aY=>aS j .ab .ab,ql]
  ·rw [yx (show i<n by omega) λ j aY=>aS j .ab,aS n .ab λ z=>e z.symm,rA]
theorem Np {f:Nat->Int} {i:Nat} : ∀ {n:Nat},i+1<n->(∀ j,j<n->j≠i->j≠i+1->f j=0)->f i+f (i+1)=0->cy f n=0
 | 0,h,_,_=>absurd h (jq _)
 | n+1,h,aS,ah=>by
  show cy f n+f n=0;by_cases e:i+1=n
  ·subst e;show cy f i+f i+f (i+1)=0;rw [GI λ j aY=>aS j .ab .ab .ab];omega
  ·rw [Np (show i+1<n by omega) (λ j aY=>aS j .ab) ah,aS n .ab .ab λ z=>e z.symm];rfl
noncomputable abbrev fs:=Nat->Nat->Int
noncomputable def sgn (i:Nat):Int:=if i % 2=0 then 1 else -1
noncomputable def del (M:fs) (i:Nat):fs:=λ k p=>M (if k<i then k else k+1) (p+1)
noncomputable def det:Nat->fs->Int
 | 0,_=>1
 | n+1,M=>cy (λ i=>sgn i * M i 0 * det n (del M i)) (n+1)
noncomputable def put (M:fs) (i:Nat) (v:Nat->Int):fs:=λ k=>if k=i then v else M k
theorem nP : ∀ (n:Nat) {M N:fs},(∀ i p,i<n->p<n->M i p=N i p)->det n M=det n N
 | 0,_,_,_=>rfl
 | n+1,M,N,h=>by
  refine lS λ i aq=>?_
  rw [h i 0 aq .ab,nP n λ k p aE ao=>?_];unfold del;exact h _ _ (by split<;>omega) .ab
theorem rK (M:fs) (i:Nat) (v:Nat->Int):put M i v i=v:=by unfold put;rw [if_pos rfl]
theorem qf (M:fs) {i k:Nat} (v:Nat->Int) (h:k≠i):put M i v k=M k:=by unfold put;rw [if_neg h]
theorem Fq {M:fs} {i k:Nat} {v:Nat->Int} (h:k≠i):del (put M i v) k=put (del M k) (if i<k then i else i - 1) (λ p=>v (p+1)):=by
 funext j p;unfold del put;by_cases ov:j<k
 ·rw [if_pos ov];by_cases wR:i<k
  ·rw [if_pos wR];by_cases e:j=i
   ·rw [if_pos e,if_pos e]
   ·rw [if_neg e,if_neg e];simp only [if_pos ov]
  ·rw [if_neg wR,if_neg (show ¬ j=i by omega),if_neg (show ¬ j=i - 1 by omega)];simp only [if_pos ov]
 ·rw [if_neg ov];by_cases wR:i<k
  ·rw [if_pos wR,if_neg (show ¬ j+1=i by omega),if_neg (show ¬ j=i by omega)];simp only [if_neg ov]
  ·rw [if_neg wR];by_cases e:j+1=i
   ·rw [if_pos e,if_pos (show j=i - 1 by omega)]
   ·rw [if_neg e,if_neg (show ¬ j=i - 1 by omega)];simp only [if_neg ov]
theorem Hj (M:fs) (i:Nat) (v:Nat->Int):del (put M i v) i=del M i:=by
 funext j p;unfold del put;by_cases h:j<i
 ·simp only [if_pos h,if_neg (show ¬ j=i by omega)]
 ·simp only [if_neg h,if_neg (show ¬ j+1=i by omega)]
theorem ts : ∀ (n:Nat) (M:fs) (i:Nat) (a b:Int) (v w:Nat->Int),i<n->det n (put M i λ p=>a * v p+b * w p)=a * det n (put M i v)+b * det n (put M i w)
 | 0,_,_,_,_,_,_,h=>absurd h (jq _)
 | n+1,M,i,a,b,v,w,aq=>by
  show cy _ (n+1)=a * cy _ (n+1)+b * cy _ (n+1);rw [<-Bj];refine lS λ k aE=>?_
  by_cases e:k=i
  ·subst e;rw [Hj,Hj,Hj,rK,rK,rK];rw [oW,Int.add_mul];congr 1<;>ac_rfl
  ·rw [qf _ _ e,qf _ _ e,qf _ _ e,Fq e,Fq e,Fq e,ts n _ _ a b _ _ (by split<;>omega),oW];congr 1<;>ac_rfl
theorem aaf (i:Nat):sgn (i+1) = - sgn i:=by
 unfold sgn;by_cases h:i % 2=0
 ·rw [if_pos h,if_neg .ab]
 ·rw [if_neg h,if_pos .ab];rfl
theorem A5 : ∀ (n:Nat) {M:fs} {i:Nat},i+1<n->(∀ p,p<n->M i p=M (i+1) p)->det n M=0
 | 0,_,_,h,_=>absurd h (jq _)
 | n+1,M,i,aq,he=>by
  refine Np aq (λ k aE gy jT=>?_) ?_
  ·have:det n (del M k)=0:=by
    by_cases h:k<i
    ·refine A5 n (i:=i - 1) .ab λ p ao=>?_
     unfold del;rw [if_neg .ab,if_neg .ab,show i - 1+1=i by omega];exact he (p+1) .ab
    ·refine A5 n (i:=i) .ab λ p ao=>?_
     unfold del;rw [if_pos .ab,if_pos .ab];exact he (p+1) .ab
   rw [this,jr]
  ·have e:det n (del M i)=det n (del M (i+1)):=nP n λ k p aE ao=>by
    unfold del;by_cases I:k<i
    ·rw [if_pos I,if_pos .ab]
    ·by_cases ah:k=i
     ·subst ah;rw [if_neg .ab,if_pos .ab];exact (he (p+1) .ab).symm
     ·rw [if_neg I,if_neg .ab]
   rw [e,he 0 .ab,aaf,nH,nH];omega
noncomputable def z1 (M:fs) (i:Nat):fs:=put (put M i (M (i+1))) (i+1) (M i)
theorem XZ (n:Nat) {M:fs} {i:Nat} (aq:i+1<n):det n (z1 M i) = - det n M:=by
 have ne:i+1≠i:=by omega
 have key : ∀ v w:Nat->Int,det n (put (put M i v) (i+1) w)+det n (put (put M i w) (i+1) v)=0:=λ v w=>by
  have z : ∀ x:Nat->Int,det n (put (put M i x) (i+1) x)=0:=λ x=>A5 n aq λ p _=>by
   rw [qf _ _ (show i≠i+1 by omega),rK,rK]
  have I:=z λ p=>1 * v p+1 * w p
  rw [ts n _ (i+1) 1 1 v w aq] at I;have comm : ∀ (x y:Nat->Int),put (put M i x) (i+1) y=put (put M (i+1) y) i x:=λ x y=>by
   funext k;unfold put;by_cases e:k=i+1
   ·rw [if_pos e,if_neg .ab,if_pos e]
   ·by_cases aN:k=i
    ·rw [if_neg e,if_pos aN,if_pos aN]
    ·rw [if_neg e,if_neg aN,if_neg aN,if_neg e]
  have ah : ∀ y:Nat->Int,det n (put (put M i λ p=>1 * v p+1 * w p) (i+1) y)=det n (put (put M i v) (i+1) y)+det n (put (put M i w) (i+1) y):=λ y=>by
   rw [comm,ts n _ i 1 1 v w .ab,<-comm,<-comm];omega
  rw [ah,ah,z v,z w] at I;omega
 have h:=key (M i) (M (i+1));have e:det n (put (put M i (M i)) (i+1) (M (i+1)))=det n M:=nP n λ k p _ _=>by
  unfold put;by_cases e:k=i+1
  ·rw [if_pos e,e]
  ·by_cases aN:k=i
   ·rw [if_neg e,if_pos aN,aN]
   ·rw [if_neg e,if_neg aN]
 rw [e] at h;show det n (put (put M i (M (i+1))) (i+1) (M i))=_;omega
theorem Fs (n:Nat) : ∀ (d:Nat) {M:fs} {i:Nat},i+1+d<n->(∀ p,p<n->M i p=M (i+1+d) p)->det n M=0
 | 0,M,i,aq,he=>A5 n aq he
 | d+1,M,i,aq,he=>by
  have h:=XZ n (M:=M) (i:=i+1+d) .ab;have h0:det n (z1 M (i+1+d))=0:=Fs n d (M:=z1 M (i+1+d)) (i:=i) .ab λ p ao=>by
   unfold z1;rw [qf _ _ .ab,qf _ _ .ab,qf _ _ .ab,rK];exact he p ao
  omega
theorem L0 (n:Nat) {M:fs} {i j:Nat} (aq:i<n) (aY:j<n) (ne:i≠j) (he : ∀ p,p<n->M i p=M j p):det n M=0:=by
 rcases Nat.lt_or_gt_of_ne ne with h | h
 ·exact Fs n (j - i - 1) (i:=i) .ab λ p ao=>by rw [show i+1+(j - i - 1)=j by omega];exact he p ao
 ·exact Fs n (i - j - 1) (i:=j) .ab λ p ao=>by rw [show j+1+(i - j - 1)=i by omega];exact (he p ao).symm
noncomputable def D0 (A:Nat):Nat->Nat
 | 0=>1
 | n+1=>(n+1) * (A * D0 A n)
theorem Mr {f:Nat->Int} {B:Nat} : ∀ {n:Nat},(∀ i,i<n->(f i).natAbs<=B)->(cy f n).natAbs<=n * B
 | 0,_=>fk _
 | n+1,h=>by
  have I:=Mr (n:=n) λ i aq=>h i .ab
  have ah:=h n .ab;have aD:=Int.natAbs_add_le (cy f n) (f n);show (cy f n+f n).natAbs<=_;rw [Nat.add_mul,tj];omega
theorem EW {A:Nat} : ∀ (n:Nat) {M:fs},(∀ i p,i<n->p<n->(M i p).natAbs<=A)->(det n M).natAbs<=D0 A n
 | 0,_,_=>br 1
 | n+1,M,h=>Mr λ i aq=>by
  rw [u_,u_];have aF:(sgn i).natAbs=1:=by unfold sgn;split<;>rfl
  rw [aF,tj];exact u4 (h i 0 aq .ab) (EW n λ k p aE ao=>h _ _ (by split<;>omega) .ab)
theorem A6 (n:Nat) (M:fs) (i:Nat) (aq:i<n) (x:Nat->Int) (V:Nat->Nat->Int) : ∀ k,det n (put M i λ p=>cy (λ q=>x q * V q p) k)=cy (λ q=>x q * det n (put M i (V q))) k
 | 0=>by
  have h:=ts n M i 0 0 (λ _=>0) (λ _=>0) aq;have e:(λ p:Nat=>(0:Int) * (0:Int)+0 * 0)=λ p=>cy (λ q=>x q * V q p) 0:=rfl
  rw [e] at h;rw [h];show (0:Int) * _+0 * _=0;omega
 | k+1=>by
  have h:=ts n M i 1 (x k) (λ p=>cy (λ q=>x q * V q p) k) (V k) aq;have e:(λ p=>1 * cy (λ q=>x q * V q p) k+x k * V k p)=λ p=>cy (λ q=>x q * V q p) (k+1):=by
   funext p;show 1 * cy (λ q=>x q * V q p) k+x k * V k p=cy (λ q=>x q * V q p) k+x k * V k p;rw [ko]
  rw [e] at h;rw [h,A6 n M i aq x V k,ko];rfl
theorem Gw {M:fs} {i:Nat} {v w:Nat->Int} (h : ∀ p,p<n->v p=w p):det n (put M i v)=det n (put M i w):=nP n λ k p _ ao=>by
 unfold put;by_cases e:k=i
 ·rw [if_pos e,if_pos e];exact h p ao
 ·rw [if_neg e,if_neg e]
theorem Li (n:Nat) (M:fs) {α: Int} {v:Nat->Int} {x:Nat->Int} (h : ∀ p,p<n -> α * v p=cy (λ q=>x q * M q p) n) {i:Nat} (aq:i<n) : α * det n (put M i v)=x i * det n M:=by
 have I:=ts n M i α 0 v (λ _=>0) aq;have I:det n (put M i λ p => α * v p+0 * 0) = α * det n (put M i v):=by rw [I,ry,rA]
 rw [<-I,Gw (w:=λ p=>cy (λ q=>x q * M q p) n) λ p ao=>by rw [<-h p ao];omega,A6 n M i aq x M n];refine (yx aq λ j aY ne=>?_).trans ?_
 ·have:det n (put M i (M j))=0:=L0 n aq aY (λ z=>ne z.symm) λ p _=>by rw [rK,qf _ _ ne]
  rw [this,jr]
 ·have:det n (put M i (M i))=det n M:=nP n λ k p _ _=>by
   unfold put;by_cases e:k=i
   ·rw [if_pos e,e]
   ·rw [if_neg e]
  rw [this]
theorem Pb {f g:Nat->Int} {p:Nat} : ∀ {n:Nat},p<n->(∀ q,q<n->q≠p->f q=g q)->cy f n=cy g n+(f p - g p)
 | 0,h,_=>absurd h (jq _)
 | n+1,h,he=>by
  show cy f n+f n=cy g n+g n+(f p - g p);by_cases e:p=n
  ·subst e;rw [lS λ i aq=>he i .ab .ab];omega
  ·rw [Pb (show p<n by omega) λ q aK=>he q .ab,he n .ab λ z=>e z.symm];omega
theorem aan (a:Int) (f:Nat->Int) (n:Nat):cy (λ i=>a * f i) n=a * cy f n:=by
 have:=Bj f f a 0 n;rw [ry,rA] at this;rw [<-this];exact lS λ i _=>by omega
theorem Nn {f:Nat->Int} : ∀ {n:Nat},cy f n<0 -> ∃ i,i<n/\f i<0
 | 0,h=>absurd h (Int.lt_irrefl 0)
 | n+1,h=>by
  have h':cy f n+f n<0:=h;by_cases e:f n<0
  ·exact ⟨n,.ab,e⟩
  ·obtain ⟨i,I,ah⟩:=Nn (f:=f) (n:=n) .ab;exact ⟨i,.ab,ah⟩
structure gq (n:Nat) (A:fs) (T:Nat->Nat->Int) (b:Nat->Nat) (u:Int):Prop where
 pos:0<u
 gA:b 10=n
 blt : ∀ q,q<10->b q<n
 n0:det 11 (λ q=>A (b q))=u
 rel : ∀ j,j<n -> ∀ p,p<11->u * A j p=cy (λ q=>T q j * A (b q) p) 11
section
variable {A:fs} {T:Nat->Nat->Int} {b:Nat->Nat} {u:Int}
theorem gq.cr (h:gq n A T b u) {p j:Nat} (ao:p<11) (aY:j<n):T p j=det 11 (put (λ q=>A (b q)) p (A j)):=by
 have:=Li 11 (λ q=>A (b q)) (α := u) (v:=A j) (x:=λ q=>T q j) (h.rel j aY) ao;rw [h.n0,nI (T p j)] at this;exact (Fg (rB h.pos) this).symm
theorem gq.un (h:gq n A T b u) {p q:Nat} (ao:p<11) (aK:q<10):T p (b q)=if p=q then u else 0:=by
 rw [h.cr ao (h.blt q aK)];by_cases e:p=q
 ·subst e;rw [if_pos rfl,<-h.n0];refine nP 11 λ k c _ _=>?_
  unfold put;by_cases e:k=p
  ·rw [if_pos e,e]
  ·rw [if_neg e]
 ·rw [if_neg e];exact L0 11 ao (show q<11 by omega) e λ c _=>by rw [rK,qf _ _ λ z=>e z.symm]
theorem gq.inj (h:gq n A T b u) {p q:Nat} (ao:p<10) (aK:q<10) (e:b p=b q):p=q:=by
 have I:=h.un (p:=p) (q:=p) .ab ao;have ah:=h.un (p:=p) (q:=q) .ab aK;rw [if_pos rfl] at I;rw [<-e,I] at ah;by_cases z:p=q
 ·exact z
 ·rw [if_neg z] at ah;exact absurd ah (rB h.pos)
theorem gq.bd (h:gq n A T b u) (lY : ∀ j p,j<=n->p<11->(A j p).natAbs<=64) {p j:Nat} (ao:p<11) (aY:j<n):(T p j).natAbs<=2 ^ 92/\u.natAbs<=2 ^ 92:=by
 have af : ∀ q,q<11->b q<=n:=λ q aK=>by
  by_cases e:q=10
  ·rw [e,h.gA];exact br _
  ·exact Nat.le_of_lt (h.blt q .ab)
 have h0:D0 64 11<=2 ^ 92:=by decide
 constructor
 ·rw [h.cr ao aY];refine et (EW (A:=64) 11 λ i c aq aj=>?_) h0;unfold put;by_cases e:i=p
  ·rw [if_pos e];exact lY j c .ab aj
  ·rw [if_neg e];exact lY _ c (af i aq) aj
 ·rw [<-h.n0];exact et (EW (A:=64) 11 λ i c aq aj=>lY _ c (af i aq) aj) h0
noncomputable def gT (b:Nat->Nat) (p c:Nat):Nat->Nat:=λ q=>if q=p then c else b q
noncomputable def sh (T:Nat->Nat->Int) (u:Int) (p c:Nat):Nat->Nat->Int:=λ q j=>if q=p then T p j else (T q j * T p c - T q c * T p j).fdiv u
theorem gq.UQ (h:gq n A T b u) {p c:Nat} (ao:p<10) (aj:c<n) (aW:0<T p c):gq n A (sh T u p c) (gT b p c) (T p c):=by
 have cC:(λ q=>A (gT b p c q))=put (λ q=>A (b q)) p (A c):=by
  funext q;unfold gT put;by_cases e:q=p
  ·rw [if_pos e,if_pos e]
  ·rw [if_neg e,if_neg e]
 have IB:det 11 (λ q=>A (gT b p c q))=T p c:=by rw [cC,<-h.cr .ab aj]
 have n2 : ∀ j,j<n -> ∀ k,k<11->(T p c * u) * A j k=cy (λ q=>(if q=p then u * T p j else T p c * T q j - T p j * T q c) * A (gT b p c q) k) 11:=λ j aY k aE=>by
  have aJ:cy (λ q=>(if q=p then u * T p j else T p c * T q j - T p j * T q c) * A (gT b p c q) k) 11=cy (λ q=>(T p c * T q j - T p j * T q c) * A (b q) k) 11+((if p=p then u * T p j else T p c * T p j - T p j * T p c) * A (gT b p c p) k - (T p c * T p j - T p j * T p c) * A (b p) k):=Pb (show p<11 by omega) λ q _ ne=>by
   unfold gT;rw [if_neg ne,if_neg ne]
  rw [aJ,if_pos rfl];have aN:cy (λ q=>(T p c * T q j - T p j * T q c) * A (b q) k) 11=T p c * cy (λ q=>T q j * A (b q) k) 11+(-T p j) * cy (λ q=>T q c * A (b q) k) 11:=by
   rw [<-Bj];refine lS λ q _=>?_
   rw [Int.sub_mul,nH,mE,mE];omega
  rw [aN,<-h.rel j aY k aE,<-h.rel c aj k aE];have dT:gT b p c p=c:=by unfold gT;rw [if_pos rfl]
  rw [dT];have a1:T p c * (u * A j k)=T p c * u * A j k:=(mE _ _ _).symm;have a2:(-T p j) * (u * A c k) = -(u * T p j * A c k):=by rw [nH,<-mE,nI (T p j) u]
  have qA:(T p c * T p j - T p j * T p c) * A (b p) k=0:=by rw [nI (T p j),Int.sub_self,ry]
  rw [a1,a2,qA];omega
 have QL : ∀ j,j<n -> ∀ q,q<11->(if q=p then u * T p j else T p c * T q j - T p j * T q c)=u * sh T u p c q j:=λ j aY q aK=>by
  have:=Li 11 (λ q=>A (gT b p c q)) (α := T p c * u) (v:=A j) (x:=λ q=>if q=p then u * T p j else T p c * T q j - T p j * T q c) (n2 j aY) aK;rw [IB,mE,nI _ (T p c)] at this;have ah:=Fg (rB aW) this;unfold sh;by_cases e:q=p
  ·rw [if_pos e,if_pos e]
  ·rw [if_neg e,if_neg e];rw [if_neg e] at ah;have i4:T q j * T p c - T q c * T p j=T p c * T q j - T p j * T q c:=by rw [nI (T q j),nI (T q c)]
   rw [i4,<-ah,Int.mul_fdiv_cancel_left _ (rB h.pos)]
 refine ⟨aW,?_,λ q aK=>?_,IB,λ j aY k aE=>?_⟩
 ·unfold gT;rw [if_neg .ab];exact h.gA
 ·unfold gT;by_cases e:q=p
  ·rw [if_pos e];exact aj
  ·rw [if_neg e];exact h.blt q aK
 ·have I:=n2 j aY k aE;have qE:cy (λ q=>(if q=p then u * T p j else T p c * T q j - T p j * T q c) * A (gT b p c q) k) 11=u * cy (λ q=>sh T u p c q j * A (gT b p c q) k) 11:=by
   rw [<-aan];refine lS λ q aK=>?_
   rw [QL j aY q aK,mE]
  rw [qE,nI (T p c),mE] at I;exact Fg (rB h.pos) I
theorem gq.two (h:gq n A T b u) {i_:Int} (h':gq n A nY gv i_) {s:Nat} (aF:s<n):u * nY 10 s=cy (λ q=>T q s * nY 10 (b q)) 10+T 10 s * i_:=by
 have I:=ts 11 (λ q=>A (gv q)) 10 u 0 (A s) (λ _=>0) .aG;have I:det 11 (put (λ q=>A (gv q)) 10 λ p=>u * A s p+0 * 0)=u * nY 10 s:=by rw [I,ry,rA,<-h'.cr .aG aF]
 rw [<-I,Gw (w:=λ p=>cy (λ q=>T q s * A (b q) p) 11) λ p ao=>by rw [<-h.rel s aF p ao];omega,A6 11 _ 10 .aG (λ q=>T q s) (λ q=>A (b q)) 11];show cy _ 10+_=_;congr 1
 ·exact lS λ q aK=>by rw [<-h'.cr .aG (h.blt q aK)]
 ·show T 10 s * det 11 (put (λ q=>A (gv q)) 10 (A (b 10)))=T 10 s * i_;have cH:det 11 (put (λ q=>A (gv q)) 10 (A (b 10)))=i_:=by
   rw [<-h'.n0];refine nP 11 λ k c _ _=>?_
   unfold put;by_cases e:k=10
   ·rw [if_pos e,e,h.gA,h'.gA]
   ·rw [if_neg e]
  rw [cH]
end
structure zg (n:Nat) (T:Nat->Nat->Int) (b:Nat->Nat) (p s:Nat):Prop where
 ao:p<10
 aF:s<n
 up:0<T 10 s
 fst : ∀ j,j<s->T 10 j<=0
 JF:0<T p s
 low : ∀ q,q<10->0<T q s->b p<=b q
section
variable {A:fs} {T:Nat->Nat->Nat->Int} {b:Nat->Nat->Nat} {u:Nat->Int} {p s:Nat->Nat} {i j:Nat}
theorem Lv {f:Nat->Nat} : ∀ (j i:Nat),i<j -> ∃ k,i<=k/\k<j /\ ∀ di,i<=di->di<j->f di<=f k
 | 0,i,h=>absurd h (jq _)
 | j+1,i,h=>by
  by_cases e:i=j
  ·subst e;exact ⟨i,br _,.ab,λ di I ah=>by rw [show di=i by omega];exact br _⟩
  ·obtain ⟨k,I,ah,aD⟩:=Lv (f:=f) j i .ab;by_cases g:f k<=f j
   ·refine ⟨j,.ab,.ab,λ di aL cp=>?_⟩;by_cases bF:di=j
    ·rw [bF];exact br _
    ·exact et (aD di aL .ab) g
   ·refine ⟨k,I,.ab,λ di aL cp=>?_⟩;by_cases bF:di=j
    ·rw [bF];omega
    ·exact aD di aL .ab
theorem KQ {P:Nat->Prop} {i j:Nat} (h : ∀ k,i<=k->k<j->P k->P (k+1)) : ∀ d,i+d<=j->P i->P (i+d)
 | 0,_,aq=>aq
 | d+1,hd,aq=>h (i+d) .ab .ab (KQ h d .ab aq)
theorem Av {P:Nat->Prop} {i j a c:Nat} (h : ∀ k,i<=k->k<j->P k->P (k+1)) (au:i<=a) (ae5:a<=c) (aj:c<=j) (b8:P a):P c:=by
 have:=KQ (P:=P) (i:=a) (j:=j) (λ k I ah=>h k .ab ah) (c - a) .ab b8
 rwa [show a+(c - a)=c by omega] at this
theorem VV (gm : ∀ k,i<=k->k<=j->gq n A (T k) (b k) (u k)) (c1 : ∀ k,i<=k->k<j->zg n (T k) (b k) (p k) (s k)) (af : ∀ k,i<=k->k<j -> ∀ q,q<10->b (k+1) q=gT (b k) (p k) (s k) q) (Di:i<j) : ¬ ∀ q,q<10->b i q=b j q:=λ heq=>by
 obtain ⟨eZ,gy,jT,za⟩:=Lv (f:=s) j i Di;have yY:=c1 eZ gy jT;have Is:=gm eZ gy .ab
 let mem:Nat->Nat->Prop:=λ v k => ∃ q,q<10/\b k q=v
 have hP : ∀ v k,i<=k->k<j->mem v k->v≠b k (p k)->mem v (k+1):=λ v k I ah ⟨q,ba,cm⟩ ne=>⟨q,ba,by
  rw [af k I ah q ba];unfold gT;rw [if_neg λ z=>ne (by rw [<-cm,z])];exact cm⟩
 have UN : ∀ k,i<=k->k<j->mem (s k) (k+1):=λ k I ah=>⟨p k,(c1 k I ah).ao,by
  rw [af k I ah _ (c1 k I ah).ao];unfold gT;rw [if_pos rfl]⟩
 have back : ∀ v k,i<=k->k<j->mem v (k+1)->v≠s k->mem v k:=λ v k I ah ⟨q,ba,cm⟩ ne=>by
  rw [af k I ah q ba] at cm;unfold gT at cm;by_cases e:q=p k
  ·rw [if_pos e] at cm;exact absurd cm.symm ne
  ·rw [if_neg e] at cm;exact ⟨q,ba,cm⟩
 have ends : ∀ v,mem v i ↔ mem v j:=λ v=>⟨λ ⟨q,ba,cm⟩=>⟨q,ba,by rw [<-heq q ba];exact cm⟩,λ ⟨q,ba,cm⟩=>⟨q,ba,by rw [heq q ba];exact cm⟩⟩
 have out : ∀ v k,i<=k->k<=j->T k 10 v≠0 -> ¬ mem v k:=λ v k I ah aS ⟨q,ba,cm⟩=>by
  have:=(gm k I ah).un (p:=10) .aG ba;rw [cm,if_neg .ab] at this;exact aS this
 have VL : ¬ mem (s eZ) eZ:=out _ eZ gy .ab (rB yY.up);have WR : ∃ k,i<=k/\k<j/\b k (p k)=s eZ:=A2 λ az=>by
  have dk : ∀ k,i<=k->k<j->mem (s eZ) k->mem (s eZ) (k+1):=λ k I ah hm=>hP _ k I ah hm λ z=>az ⟨k,I,ah,z.symm⟩
  have aY:=Av (P:=mem (s eZ)) dk (show i<=eZ+1 by omega) (show eZ+1<=j by omega) (br _) (UN eZ gy jT);have aq:=(ends _).mpr aY;exact VL (Av (P:=mem (s eZ)) dk (br _) gy .ab aq)
 obtain ⟨k,I,ah,aW⟩:=WR;have rU:=c1 k I ah;have BS:=gm k I .ab;have zJ:mem (s eZ) k:=⟨p k,rU.ao,aW⟩
 have VK : ¬ mem (s k) k:=out _ k I .ab (rB rU.up);have dg:s k<s eZ:=by
  have aD:=za k I ah;have:s k≠s eZ:=λ e=>VK (by rw [e];exact zJ)
  omega
 have Vd:=yY.fst (s k) dg;have K:=BS.two Is rU.aF;have Vk:cy (λ q=>T k q (s k) * T eZ 10 (b k q)) 10<0:=by
  have a1:u k * T eZ 10 (s k)<=0:=Int.mul_nonpos_of_nonneg_of_nonpos (Int.le_of_lt BS.pos) Vd;have a2:0<T k 10 (s k) * u eZ:=A3 rU.up Is.pos;omega
 obtain ⟨q,ba,cm⟩:=Nn Vk;have qT:mem (b k q) k:=⟨q,ba,rfl⟩
 have Tb:T eZ 10 (b k q)≠0:=λ z=>by rw [z,jr] at cm;exact absurd cm (Int.lt_irrefl 0)
 have V4 : ¬ mem (b k q) eZ:=out _ eZ gy .ab Tb;have Jm:b k q≠s eZ:=λ e=>by
  have eq:q=p k:=BS.inj ba rU.ao (by rw [e,aW]);rw [e,eq] at cm;have:=A3 rU.JF yY.up;omega
 have U3 : ∃ di,i<=di/\di<j/\b k q=s di:=A2 λ az=>by
  have qR : ∀ di,i<=di->di<j -> ¬ mem (b k q) di -> ¬ mem (b k q) (di+1):=λ di g1 g2 hm l9=>hm (back _ di g1 g2 l9 λ z=>az ⟨di,g1,g2,z⟩)
  have aY : ¬ mem (b k q) j:=Av (P:=λ di => ¬ mem (b k q) di) qR gy .ab (br _) V4;have aq : ¬ mem (b k q) i:=λ z=>aY ((ends _).mp z)
  exact Av (P:=λ di => ¬ mem (b k q) di) qR (br _) I .ab aq qT
 obtain ⟨di,g1,g2,g3⟩:=U3;have hle:b k q<=s eZ:=by rw [g3];exact za di g1 g2
 have Va:b k q<s eZ:=by omega
 have V2:=yY.fst (b k q) Va;have SD:0<T k q (s k):=by
  rcases tp 0 (T k q (s k)) with z | z
  ·exact z
  ·have:0<=T k q (s k) * T eZ 10 (b k q):=Int.mul_nonneg_of_nonpos_of_nonpos z V2;omega
 have:=rU.low q ba SD;rw [aW] at this;omega
theorem XJ (N:Nat) (gm : ∀ k,k<=N->gq n A (T k) (b k) (u k)) (c1 : ∀ k,k<N->zg n (T k) (b k) (p k) (s k)) (af : ∀ k,k<N -> ∀ q,q<10->b (k+1) q=gT (b k) (p k) (s k) q):N<n ^ 10:=by
 rcases k5 N (n ^ 10) with z | z
 ·exact z
 ·exfalso;have hd : ∀ k,k<=N -> ∀ d∈(List.range 10).map (b k),d<n:=λ k aE d hd=>by
   obtain ⟨q,aK,rfl⟩:=dz.mp hd;exact (gm k aE).blt q (fH.mp aK)
  obtain ⟨i,j,I,ah,aD⟩:=LA (n ^ 10) (n ^ 10+1) (λ k=>codeN n ((List.range 10).map (b k))) .ab λ k aE=>by
   have:=LW (hd k .ab)
   rwa [a6,i0] at this
  have he:=code_inj (by rw [a6,a6]) (hd i .ab) (hd j .ab) aD;refine VV (i:=i) (j:=j) (λ k _ aE=>gm k .ab) (λ k _ aE=>c1 k .ab) (λ k _ aE=>af k .ab) I λ q aK=>?_
  have:=h3 (·[q]?) he;simp only [c9,nJ aK,Option.map_some] at this;exact eA this
end
noncomputable def ez (cs:aZ):fs:=λ j p=>if j<cs.length then (if p<10 then -((cs.getD j []).getD p 0) else if p=10 then 1 else 0) else if p=j - cs.length then 1 else 0
theorem vx (cs:aZ) (q p:Nat):ez cs (cs.length+q) p=if p=q then 1 else 0:=by
 unfold ez;rw [if_neg .ab,show cs.length+q - cs.length=q by omega]
theorem Lk : ∀ n,det n (λ q p=>if p=q then 1 else 0)=1
 | 0=>rfl
 | n+1=>by
  refine (yx (i:=0) .ab λ j _ ne=>?_).trans ?_
  ·show sgn j * (if 0=j then (1:Int) else 0) * _=0;rw [if_neg (show ¬ 0=j from λ z=>ne z.symm),jr,ry]
  ·have:det n (del (λ q p=>if p=q then (1:Int) else 0) 0)=1:=by
    refine Eq.trans (nP n λ k p _ _=>?_) (Lk n);show (if p+1=(if k<0 then k else k+1) then (1:Int) else 0)=if p=k then 1 else 0
    rw [if_neg (jq k)];by_cases e:p=k
    ·rw [if_pos e,if_pos .ab]
    ·rw [if_neg e,if_neg .ab]
   show sgn 0 * 1 * det n (del (λ q p=>if p=q then (1:Int) else 0) 0)=1;rw [this];rfl
theorem aao (cs:aZ):gq (cs.length+10) (ez cs) (λ p j=>ez cs j p) (λ q=>cs.length+q) 1:=by
 refine ⟨.aG,rfl,λ q aK=>by omega,?_,λ j aY p ao=>?_⟩
 ·rw [<-Lk 11];exact nP 11 λ q p _ _=>vx cs q p
 ·rw [ko];refine ((yx ao λ q _ ne=>?_).trans ?_).symm
  ·rw [vx,if_neg λ z=>ne z.symm,jr]
  ·rw [vx,if_pos rfl,Int.mul_one]
theorem XY (h : ∀ c∈cs,dy 6 c) (j p:Nat):(ez cs j p).natAbs<=64:=by
 unfold ez;by_cases aY:j<cs.length
 ·rw [if_pos aY];by_cases ao:p<10
  ·rw [if_pos ao,Int.natAbs_neg];have hm:cs.getD j []∈cs:=by rw [bk,bz aY];exact g5 aY
   exact (h _ hm).at p
  ·rw [if_neg ao];split<;>decide
 ·rw [if_neg aY];split<;>decide
theorem gq.congr {A:fs} {T:Nat->Nat->Int} {b:Nat->Nat} {u:Int} (h:gq n A T b u) (ck : ∀ q j,q<11->j<n->nY q j=T q j) (af : ∀ q,q<11->gv q=b q):gq n A nY gv u:=by
 refine ⟨h.pos,by rw [af 10 .aG];exact h.gA,λ q aK=>by rw [af q .ab];exact h.blt q aK,?_,λ j aY p ao=>?_⟩
 ·rw [<-h.n0];exact nP 11 λ q p aK _=>by rw [af q aK]
 ·rw [h.rel j aY p ao];exact lS λ q aK=>by rw [ck q j aK aY,af q aK]
noncomputable def m9 (n:Nat) (A:fs) (k:Nat) (T:Nat->Nat->Int) (b:Nat->Nat) (u:Int):Prop := ∃ (o5:Nat->Nat->Nat->Int) (bs:Nat->Nat->Nat) (us:Nat->Int) (ps ss:Nat->Nat),(∀ i,i<=k->gq n A (o5 i) (bs i) (us i))/\(∀ i,i<k->zg n (o5 i) (bs i) (ps i) (ss i))/\(∀ i,i<k -> ∀ q,q<10->bs (i+1) q=gT (bs i) (ps i) (ss i) q)/\o5 k=T/\bs k=b/\us k=u
theorem m9.start {A:fs} {T:Nat->Nat->Int} {b:Nat->Nat} {u:Int} (h:gq n A T b u):m9 n A 0 T b u:=⟨λ _=>T,λ _=>b,λ _=>u,λ _=>0,λ _=>0,λ _ _=>h,λ i aq=>absurd aq (jq _),λ i aq=>absurd aq (jq _),rfl,rfl,rfl⟩
theorem m9.at {A:fs} {k:Nat} {T:Nat->Nat->Int} {b:Nat->Nat} {u:Int} (h:m9 n A k T b u):gq n A T b u:=by
 obtain ⟨o5,bs,us,ps,ss,I,_,_,rfl,rfl,rfl⟩:=h;exact I k (br _)
theorem m9.IE {A:fs} {k:Nat} {T:Nat->Nat->Int} {b:Nat->Nat} {u:Int} (h:m9 n A k T b u):k<n ^ 10:=by
 obtain ⟨o5,bs,us,ps,ss,I,ah,aD,_⟩:=h;exact XJ k I ah aD
theorem m9.step {A:fs} {k:Nat} {T:Nat->Nat->Int} {b:Nat->Nat} {u:Int} (h:m9 n A k T b u) {p s:Nat} (c1:zg n T b p s) (ck : ∀ q j,q<11->j<n->nY q j=sh T u p s q j) (af : ∀ q,q<11->gv q=gT b p s q):m9 n A (k+1) nY gv (T p s):=by
 obtain ⟨o5,bs,us,ps,ss,I,ah,aD,rfl,rfl,rfl⟩:=h;have nT:gq n A nY gv (o5 k p s):=((I k (br _)).UQ c1.ao c1.aF c1.JF).congr ck af;refine ⟨λ i=>if i=k+1 then nY else o5 i,λ i=>if i=k+1 then gv else bs i,λ i=>if i=k+1 then o5 k p s else us i,λ i=>if i=k then p else ps i,λ i=>if i=k then s else ss i,λ i aq=>?_,λ i aq=>?_,λ i aq q aK=>?_,by simp only [if_pos],by simp only [if_pos],by simp only [if_pos]⟩
 ·by_cases e:i=k+1
  ·simp only [if_pos e];exact nT
  ·simp only [if_neg e];exact I i .ab
 ·by_cases e:i=k
  ·subst e;simp only [if_neg (show ¬ i=i+1 by omega),if_pos];exact c1
  ·simp only [if_neg e,if_neg (show ¬ i=k+1 by omega)];exact ah i .ab
 ·by_cases e:i=k
  ·subst e;simp only [if_neg (show ¬ i=i+1 by omega),if_pos];exact af q .ab
  ·simp only [if_neg e,if_neg (show ¬ i=k+1 by omega),if_neg (show ¬ i+1=k+1 by omega)];exact aD i .ab q aK
theorem ack {T:Nat->Nat->Int} {b:Nat->Nat} {u:Int} (h:gq (cs.length+10) (ez cs) T b u) (aS : ∀ j,j<cs.length+10->T 10 j<=0):(∀ p,p<10->0 <= -T 10 (cs.length+p)) /\ ∀ k,k<cs.length->cy (λ p=>(-T 10 (cs.length+p)) * (cs.getD k []).getD p 0) 10<0:=by
 refine ⟨λ p ao=>by have:=aS (cs.length+p) .ab;omega,λ k aE=>?_⟩;have I:=aS k .ab;have ah:=h.cr (p:=10) (j:=k) .aG .ab;have aJ:det 11 (put (λ q=>ez cs (b q)) 10 (ez cs k))=cy (λ q=>ez cs k q * det 11 (put (λ q=>ez cs (b q)) 10 (ez cs (cs.length+q)))) 11:=by
  rw [<-A6 11 _ 10 .aG (λ q=>ez cs k q) (λ q=>ez cs (cs.length+q)) 11];refine Gw λ p ao=>((yx ao λ q _ ne=>?_).trans ?_).symm
  ·rw [vx,if_neg λ z=>ne z.symm,jr]
  ·rw [vx,if_pos rfl,Int.mul_one]
 have aN:cy (λ q=>ez cs k q * det 11 (put (λ q=>ez cs (b q)) 10 (ez cs (cs.length+q)))) 11=cy (λ p=>(-T 10 (cs.length+p)) * (cs.getD k []).getD p 0) 10+u:=by
  show cy _ 10+_=_;congr 1
  ·refine lS λ q aK=>?_
   rw [<-h.cr .aG .ab];unfold ez;rw [if_pos aE,if_pos aK,nH,nH,nI]
  ·have dT:det 11 (put (λ q=>ez cs (b q)) 10 (ez cs (cs.length+10)))=u:=by
    rw [<-h.n0];refine nP 11 λ q p _ _=>?_
    unfold put;by_cases e:q=10
    ·rw [if_pos e,e,h.gA]
    ·rw [if_neg e]
   show ez cs k 10 * det 11 (put (λ q=>ez cs (b q)) 10 (ez cs (cs.length+10)))=u;rw [dT];unfold ez;rw [if_pos aE,if_neg .aG,if_pos rfl,ko]
 rw [ah,aJ,aN] at I;have:=h.pos;omega
theorem acj {T:Nat->Nat->Int} {b:Nat->Nat} {u:Int} (h:gq (cs.length+10) (ez cs) T b u) {c:Nat} (aj:c<cs.length+10) (p:Nat) (ao:p<11):u * ez cs c p - cy (λ q=>T q c * ez cs (b q) p) 10=if p=10 then T 10 c else 0:=by
 have I:=h.rel c aj p ao;have ah:cy (λ q=>T q c * ez cs (b q) p) 11=cy (λ q=>T q c * ez cs (b q) p) 10+T 10 c * ez cs (b 10) p:=rfl;rw [h.gA,vx] at ah;rw [I,ah];by_cases e:p=10
 ·rw [if_pos e,if_pos e];omega
 ·rw [if_neg e,if_neg e];omega
end ft
namespace bC
open PySem PySem.Spec PyProof.Rows
section
variable {X:a7}
noncomputable def VN (i j:Int):Prop:=j≠0/\((∃ m:Nat,j.natAbs<=2 ^ m/\m<=8000)\/i.natAbs<=2 ^ 4000 * j.natAbs)
theorem ab9 {x y:Int} (a8:y≠0) (h:x.natAbs<=2 ^ 4000 * y.natAbs):Builtin.divisionGoesByPylong x y=false:=by
 have Im:y.natAbs≠0:=by omega
 have Tx:(y == 0)=false:=by simpa using a8
 have key : ¬ (if (x == 0)=true then 0 else x.natAbs.log2 / 30+1) > (if (y == 0)=true then 0 else y.natAbs.log2 / 30+1)+150:=by
  rw [Tx,if_neg fc];by_cases ae:(x == 0)=true
  ·rw [if_pos ae];omega
  ·rw [if_neg ae];have x0:x.natAbs≠0:=λ z=>ae (by simpa using z)
   have I:y.natAbs<2 ^ (y.natAbs.log2+1):=Nat.lt_log2_self;have ah:x.natAbs<2 ^ (4000+(y.natAbs.log2+1)):=by
    refine Nat.lt_of_le_of_lt h ?_;rw [tl];exact Nat.mul_lt_mul_of_pos_left I (va _)
   have aD:x.natAbs.log2<4000+(y.natAbs.log2+1):=(A0 x0).mpr ah;omega
 show (_&&decide ((if (x == 0)=true then 0 else x.natAbs.log2 / 30+1) > (if (y == 0)=true then 0 else y.natAbs.log2 / 30+1)+150))=false;rw [ee key,Bool.and_false]
theorem ZS:dt X (binaryOp .FloorDiv) (qH VN λ i j=>.int (i.fdiv j)):=sM λ i j _ _ _ _ _ ⟨h0,aj⟩ q=>by
 rcases aj with ⟨m,I,ah⟩ | I
 ·refine floordiv_int h0 q (.inl (PyProof.noPylong_of_log2 ?_));have aD:j.natAbs≠0:=by omega
  have aL:j.natAbs<2 ^ (m+1):=by rw [nF];have:=va m;omega
  have cp:j.natAbs.log2<m+1:=(A0 aD).mpr aL;omega
 ·exact floordiv_int h0 q (.inl (ab9 h0 I))
theorem ad4 {X:a7} (dp:X.K=K):fO X (.type "tuple") (λ xs H Q => ∃ p ys,xs=[.ref p]/\aQ K H p ys/\kR (.tup ys) H Q):=by
 subst dp;exact mJ
end
open PySem PySem.Spec PyProof.Rows du
end bC
namespace du
open PySem bC
theorem adG {a4:TE} {Q:bN} (az:xs.length<=sizeLine) (ao : ∃ u v,pick js σ=u::v::σ0) (aT:H1 D=none)
  (au:H1 a=some (.lst xs)) (t:Nat->Bool) (eF:Nat->aA->bB->Prop) (h0:eF 0 (upd H1 D (.lst [])) [])
  (aE : ∀ i H' ay zs,eF i H' zs->(∀ c o,c≠D->H' c=some o->ay c=some o)->eF i ay zs)
  (aW : ∀ (i:Nat) (x:V) (H':aA) (R:Bool->aA->Prop),aB H1 H'->xs[i]?=some x->R (t i) H'->dx (some (.int (i:Int))::some x::σ0) H' R)
  (hf : ∀ (i:Nat) (x:V) (H':aA) (zs:bB),aB H1 H'->xs[i]?=some x->t i=false->eF i H' zs->eF (i+1) H' zs)
  (aF : ∀ (i:Nat) (x:V) (H':aA) (zs:bB) (R:bN),aB H1 H'->xs[i]?=some x->t i=true->H' D=some (.lst zs)->eF i H' zs->(∀ z aO,aB H' aO->eF (i+1) aO (zs++[z])->R z aO)->a4 (some (.int (i:Int))::some x::σ0) H' R)
  (q : ∀ H' zs,aB H1 H'->H' D=some (.lst zs)->eF xs.length H' zs->Q (.ref D) H'):gF (r8 a) D js (nf K 2 (iV (e4 0) (iV (e4 1) oG))) dx a4 σ H1 Q:=by
 obtain ⟨e_,v0,ao⟩:=ao;refine tD (n:=xs.length) az (λ i σ' H' zs=>(∃ u v:cq,σ'=u::v::σ0)/\aB H1 H'/\H' D=some (.lst zs)/\zs.length<=i/\eF i H' zs) ⟨⟨e_,v0,ao⟩,aB.new aT,bK,br _,h0⟩ (λ i σ' H' zs _ ⟨_,_,aD,aL,_⟩=>⟨aD,aL⟩) (λ i σ' H' zs aq ⟨_,s',_⟩=>⟨_,xs[i],s' _ _ au,bz aq⟩) (λ σ' H' zs ⟨_,s',aD,_,e⟩=>⟨⟨_,s' _ _ au,br _⟩,q H' zs s' aD e⟩) ?_;rintro i σ' H' zs v ay aq ⟨⟨u,v,rfl⟩,s',aD,aL,e⟩ ⟨p,dR,rfl,x,rfl,ae⟩;have dF:=ae _ (s' _ _ au);refine ⟨p,_,rfl,aP.of bK,rfl,_,_,rfl,_,_,rfl,rfl,?_⟩;have dj:(upd H' p (.tup [.int (i:Int),x])) D=some (.lst zs):=by rw [bw (bT aD dR)];exact aD
 have s2:aB H1 (upd H' p (.tup [.int (i:Int),x])):=aB.more s' dR;have aN:eF i (upd H' p (.tup [.int (i:Int),x])) zs:=aE i _ _ zs e λ c o _ h=>aB.new dR _ _ h
 refine aW i x _ _ s2 dF ?_;cases fD:t i with
 | true =>
  refine aF i x _ zs _ s2 dF fD dj aN λ z aO s4 i4=>⟨s4 _ _ dj,⟨_,_,rfl⟩,?_,bK,?_,?_⟩
  ·intro c o bF;rw [bw (bT bF aT)];exact s4 _ _ (s2 c o bF)
  ·rw [cJ];show zs.length+1<=i+1;omega
  ·exact aE _ _ _ _ i4 λ c o n h=>by rw [bw n];exact h
 | false=>exact ⟨dj,⟨_,_,rfl⟩,s2,dj,.ab,hf i x _ zs s2 dF fD aN⟩
end du
namespace bC
open PySem
theorem adF {X:a7} (dp:X.K=K):fO X (.type "list") (λ xs H Q => ∃ p ys,xs=[.ref p]/\(aQ K H p ys\/aP K H p ys)/\kR (.lst ys) H Q):=by
 subst dp;exact adE
open PySem PySem.Spec PyProof.Rows du
theorem Nd {X:a7} {a_:Expr} {cs:List Expr} {gd pos:Pos} {N:cE} {a4:TE} {i:Nat}
  (sk:X.N.Nodup) (sz:X.N[i]?=some x0) (pK:Loc X.env.scope x0)
  (a9:tr X scope cl N js) (aj:X.warm=true) (aq:iC X a_ iter fa)
  (aR : ∀ a3 pins s H,la (eY X scope cl N a3 pins s H λ _ _=>False) a_ g)
  (aW : ∀ a3 pins s H,t_ (eY X scope cl N a3 pins s H λ _ _=>False) cs dx)
  (he : ∀ a3 pins s H,cj (eY X scope cl N a3 pins s H λ _ _=>False) elt a4)
  (sH:swapsWith (.ListComp elt [⟨a_,iter,cs,0⟩] scope gd) (some (.Name x0 pos')) pos.line X.env=pure true:=by rfl)
  (aF : ∀ x,foldedSetIterable iter X.env x=pure x:=by intro _;rfl) (sv:X.fn x0=true\/X.env.scope.names.lookup x0=some .local:=by first | exact .inl rfl | exact .inr rfl | assumption):jP X (.Assign [.Name x0 pos'] (.ListComp elt [⟨a_,iter,cs,0⟩] scope gd) pos) (p5 (rf js fa g dx a4) (e4 i)) :=
 ⟨Na sk sz pK a9 aj aq.o (λ a b c d=>(aR a b c d).o) (λ a b c d=>(aW a b c d).o) (λ a b c d=>(he a b c d).o) sH aF sv⟩
open PySem PySem.Spec PyProof.Rows
end bC
namespace ft
theorem ML (w:Int) : ∀ (ys:aw) (cs:aZ) (f:aw->Int),bc ys (cs.map λ c=>w * c.getD 0 0+f c.tail)=w * bc ys (cs.map λ c=>c.getD 0 0)+bc ys ((cs.map List.tail).map f)
 | [],cs,f=>by rw [lQ,lQ,lQ];omega
 | y::ys,[],f=>by
  show (0:Int)=w * 0+0;omega
 | y::ys,c::cs,f=>by
  rw [jo,jo,jo,jo,fI,fI,fI,ML w ys cs f,oW,oW,<-mE,<-mE,nI y w];omega
theorem aar (c:aw) (p:Nat):c.tail.getD p 0=c.getD (p+1) 0:=by
 cases c with
 | nil=>rfl
 | cons a c=>rfl
theorem Zo (w:Int) (ws c:aw):bc (w::ws) c=w * c.getD 0 0+bc ws c.tail:=by
 cases c with
 | nil =>
  show (0:Int)=w * 0+bc ws [];cases ws with
  | nil=>rw [lQ];omega
  | cons a ws=>show (0:Int)=w * 0+0;omega
 | cons a c=>rw [fI];rfl
theorem Mp : ∀ (ws:aw) (cs:aZ) (ys:aw),(∀ x∈ws,0<=x)->(∀ p,p<ws.length->0<=bc ys (cs.map λ c=>c.getD p 0))->0<=bc ys (cs.map λ c=>bc ws c)
 | [],cs,ys,_,_=>by
  have:bc ys (cs.map λ c=>bc [] c)=0:=by
   rw [Bo];refine rL _ _ λ k=>?_
   rw [bk,c9];cases cs[k]? with
   | none=>rfl
   | some c=>rfl
  omega
 | w::ws,cs,ys,hw,ao=>by
  have e:(cs.map λ c=>bc (w::ws) c)=cs.map λ c=>w * c.getD 0 0+bc ws c.tail:=qj λ c _=>Zo w ws c
  rw [e,ML w ys cs (λ c=>bc ws c)];have I:=x9 (hw w (d2 ..)) (ao 0 (Nat.zero_lt_succ _));have ah:=Mp ws (cs.map List.tail) ys (λ x ae=>hw x (eQ _ ae)) λ p aK=>by
   have:=ao (p+1) (Nat.succ_lt_succ aK);rw [fZ];have aN:((λ c:aw=>c.getD p 0) ∘ List.tail)=λ c=>c.getD (p+1) 0:=funext λ c=>aar c p
   rw [aN];exact this
  omega
theorem Me : ∀ (ys ds:aw),ys.length=ds.length->(∀ y∈ys,0<=y)->(∀ d∈ds,d<0)->bc ys ds<=0/\((∃ y∈ys,y≠0)->bc ys ds<0)
 | [],[],_,_,_=>⟨vc 0,λ ⟨y,a8,_⟩=>by cases a8⟩
 | y::ys,d::ds,h,a8,hd=>by
  obtain ⟨I,ah⟩:=Me ys ds (by simpa using h) (λ x ae=>a8 x (eQ _ ae)) λ x ae=>hd x (eQ _ ae)
  have Im:=a8 y (d2 ..);have aeH:=hd d (d2 ..);rw [fI];have aD:y * d<=0:=by
   have:=x9 Im (show 0 <= -d by omega);rw [Int.mul_neg] at this;omega
  refine ⟨.ab,λ ⟨x,ae,pK⟩=>?_⟩;rcases c8.mp ae with rfl | ae
  ·have:=A3 (show 0<x by omega) (show 0 < -d by omega);rw [Int.mul_neg] at this;omega
  ·have:=ah ⟨x,ae,pK⟩;omega
theorem abY {ws ys:aw} (hw : ∀ x∈ws,0<=x) (mb:ws.length<=10) (aj : ∀ c∈cs,bc ws c<0) (a8 : ∀ x∈ys,0<=x) (ar:ys.length=cs.length) (aS : ∃ y∈ys,y≠0) (ao : ∀ p,p<10->0<=bc ys (cs.map λ c=>c.getD p 0)):False:=by
 have I:=Mp ws cs ys hw λ p aK=>ao p .ab
 have ah:=(Me ys (cs.map λ c=>bc ws c) (by rw [a6];exact ar) a8 λ d hd=>by
  obtain ⟨c,dW,rfl⟩:=dz.mp hd;exact aj c dW).2 aS
 omega
theorem LF (h : ∀ x∈ns,0<=x):hi ns=1:=by
 unfold hi;cases hf:ns.filter (λ n=>decide (n≠0)) with
 | nil=>rfl
 | cons n l =>
  have hm:n∈ns:=(mr.mp (by rw [hf];exact d2 ..)).1;have:=h n hm;show (if n<0 then (-1:Int) else 1)=1;rw [if_neg .ab]
theorem AJ (h : ∀ x∈ns,0<=x) (aS : ∃ n∈ns,n≠0) : ∃ g:Int,0<g/\(∀ c,bc ns c=g * bc (er ns) c)/\(∀ x∈er ns,0<=x) /\ ∃ n∈er ns,n≠0:=by
 have e:=MX aS;obtain ⟨n,az,h0⟩:=aS;have ao:=Bf az h0;rw [LF h,ko] at e;refine ⟨(fW ns:Int),.ab,λ c=>by conv=>lhs;rw [e,GO],λ x ae=>?_,?_⟩
 ·unfold er at ae;obtain ⟨y,a8,rfl⟩:=dz.mp ae;rw [LF h,ko];exact Int.ediv_nonneg (h y a8) .ab
 ·rcases vE (er ns) with z | z
  ·exact z
  ·exfalso;rw [e] at az;obtain ⟨x,ae,rfl⟩:=dz.mp az;rw [z x ae,jr] at h0;exact h0 rfl
theorem Yc {c:aw} (h : ∀ x∈ns,0<=x) (aS : ∃ n∈ns,n≠0) (hd:bc ns c<0):bc (er ns) c<0:=by
 obtain ⟨g,i5,e,_⟩:=AJ h aS;rw [e c] at hd;rcases tp (bc (er ns) c) 0 with z | z
 ·exact z
 ·have:=x9 (Int.le_of_lt i5) z;omega
theorem abT {c:aw} (h : ∀ x∈ns,0<=x) (aS : ∃ n∈ns,n≠0) (hd:0<=bc ns c):0<=bc (er ns) c:=by
 obtain ⟨g,i5,e,_⟩:=AJ h aS;rw [e c] at hd;rcases tp (bc (er ns) c) 0 with z | z
 ·have:=A3 i5 (show 0 < -bc (er ns) c by omega);rw [Int.mul_neg] at this;omega
 ·exact z
theorem adA (h:0<ns.sum) : ∃ n∈ns,n≠0:=by
 rcases vE ns with z | z
 ·exact z
 ·exfalso;have : ∀ l:aw,(∀ n∈l,n=0)->l.sum=0:=λ l=>by
   induction l with
   | nil=>intro _;rfl
   | cons a l b0=>intro h;rw [lJ,h a (d2 ..),b0 λ n az=>h n (eQ _ az)];rfl
  rw [this ns z] at h;exact absurd h .aG
theorem ac3 {c:aw} (h:bc ns c<0) : ∃ n∈ns,n≠0:=by
 rcases vE ns with z | z
 ·exact z
 ·exfalso;rw [rL ns c λ k=>by
   rw [bk];cases aE:ns[k]? with
   | none=>rfl
   | some x=>exact z x (cf aE)] at h
  exact absurd h .aG
open du
theorem L2 : ∀ {a b:aw},(∀ x∈a,0<=x)->(∀ x∈b,0<=x)->0<=bc a b
 | [],b,_,_=>vc 0
 | _::_,[],_,_=>vc 0
 | x::a,y::b,h,g=>by
  rw [fI];have I:=x9 (h x (d2 ..)) (g y (d2 ..));have ah:=L2 (a:=a) (b:=b) (λ z aS=>h z (eQ _ aS)) λ z aS=>g z (eQ _ aS)
  omega
theorem Zq {w p q:aw} (b4:l5 R) (hw : ∀ c∈R,bc w c<0) (ao:p.length=10) (h:ey R p=some q):bc w q<bc w p:=by
 obtain ⟨i,c,_,ah,_,rfl⟩:=vt h;have hm:=cf ah;rw [FW w p c (by rw [ao,b4 c hm])];have:=hw c hm;omega
theorem NS {w p:aw} (b4:l5 R) (hw : ∀ c∈R,bc w c<0) (ao:p.length=10) (az:nn p=true) : ∀ {k:Nat} {q:aw},goN R k p=some q->bc w q+(k:Int)<=bc w p
 | 0,q,h=>by cases h;omega
 | k+1,q,h=>by
  have h':(goN R k p).bind (ey R)=some q:=h;obtain ⟨r,I,ah⟩:=u6.mp h';have b0:=NS b4 hw ao az I;have:=Zq b4 hw (ny b4 ao az I).1 ah;omega
end ft
namespace du
open PySem bC
structure rQ (K:dc) (R:Addr->Prop) (m q:Str) (st:Stmt) (ps:cE) where
 f:Addr
 fd:FuncData
 fn:l4 K m q st f fd
 at_:R f
 bd:Binds K fd ps []
noncomputable abbrev cI (K:dc) (ax:Str->dP) (x:Str) (st:Stmt) (ps:cE):=rQ K (λ f=>ax x=some (.ref f)) x x st ps
noncomputable abbrev cz (P:Program) (w:World) (ax:Str->dP) (base:Heap) (dN:kE) (k:Nat) {K:dc} {R:Addr->Prop} {m q:Str} {st:Stmt} {ps:cE} (D:rQ K R m q st ps) (sp:b9):Prop:=ip P w K ax base dN k D.f D.fd ps sp
theorem cF {N P:cE} (h:cg N P sc:=by exact ⟨rfl,rfl,rfl,by decide +kernel,rfl,by decide +kernel,by decide +kernel⟩):cg N P sc:=h
section
variable {h:Heap} {x m q p p1 cS hq o_:Str} {ps:cE} {a9 F f:Addr}
noncomputable def rP (x q:Str) (st:Stmt) (ps:cE):Prop := ∀ (c2 doc pm:Value) (an:Option Addr) (bt cO:Value) (us:List Value),us.length=ps.length->bindArgs (PySem.W.fnOf x q (lM st) (kp st) (bS st) .none c2 doc pm an bt cO) ⟨us,[]⟩=pure (ps.zip us)
theorem len0 (h:us.length=0):us=[]:=A1.mp h
theorem oJ (h:us.length=n+1) : ∃ u ag,us=u::ag/\ag.length=n:=by
 cases us with
 | nil=>cases h
 | cons u ag=>exact ⟨u,ag,rfl,Nat.succ.inj h⟩
theorem Q8 (h : ∀ (c2 doc pm:Value) (an:Option Addr) (bt cO:Value),bindArgs (PySem.W.fnOf x q (lM st) (kp st) (bS st) .none c2 doc pm an bt cO) ⟨[],[]⟩=pure []:=by intros;rfl):rP x q st []:=λ c2 doc pm an bt cO us ar=>by
 rw [len0 ar];exact h c2 doc pm an bt cO
theorem ht (h : ∀ (c2 doc pm:Value) (an:Option Addr) (bt cO u:Value),bindArgs (PySem.W.fnOf x q (lM st) (kp st) (bS st) .none c2 doc pm an bt cO) ⟨[u],[]⟩=pure [(p,u)]:=by intros;rfl):rP x q st [p]:=λ c2 doc pm an bt cO us ar=>by
 obtain ⟨ja,v0,rfl,h0⟩:=oJ ar;rw [len0 h0];exact h c2 doc pm an bt cO ja
theorem f_ (h : ∀ (c2 doc pm:Value) (an:Option Addr) (bt cO u fR:Value),bindArgs (PySem.W.fnOf x q (lM st) (kp st) (bS st) .none c2 doc pm an bt cO) ⟨[u,fR],[]⟩=pure [(p,u),(p1,fR)]:=by intros;rfl):rP x q st [p,p1]:=λ c2 doc pm an bt cO us ar=>by
 obtain ⟨ja,v0,rfl,h0⟩:=oJ ar;obtain ⟨e2,v1,rfl,I⟩:=oJ h0;rw [len0 I];exact h c2 doc pm an bt cO ja e2
theorem jz (h : ∀ (c2 doc pm:Value) (an:Option Addr) (bt cO u fR gp:Value),bindArgs (PySem.W.fnOf x q (lM st) (kp st) (bS st) .none c2 doc pm an bt cO) ⟨[u,fR,gp],[]⟩=pure [(p,u),(p1,fR),(cS,gp)]:=by intros;rfl):rP x q st [p,p1,cS]:=λ c2 doc pm an bt cO us ar=>by
 obtain ⟨ja,v0,rfl,h0⟩:=oJ ar;obtain ⟨e2,v1,rfl,I⟩:=oJ h0;obtain ⟨hs,v2,rfl,ah⟩:=oJ I;rw [len0 ah];exact h c2 doc pm an bt cO ja e2 hs
theorem zm (h : ∀ (c2 doc pm:Value) (an:Option Addr) (bt cO u fR gp jV:Value),bindArgs (PySem.W.fnOf x q (lM st) (kp st) (bS st) .none c2 doc pm an bt cO) ⟨[u,fR,gp,jV],[]⟩=pure [(p,u),(p1,fR),(cS,gp),(hq,jV)]:=by intros;rfl):rP x q st [p,p1,cS,hq]:=λ c2 doc pm an bt cO us ar=>by
 obtain ⟨ja,v0,rfl,h0⟩:=oJ ar;obtain ⟨e2,v1,rfl,I⟩:=oJ h0;obtain ⟨hs,v2,rfl,ah⟩:=oJ I;obtain ⟨jW,aeP,rfl,aD⟩:=oJ ah;rw [len0 aD];exact h c2 doc pm an bt cO ja e2 hs jW
noncomputable def ct (K:dc) (x:Str) (st:Stmt):Prop := ∃ f fd,PySem.W.nsIn K mainGlobals x=some (some (.ref f))/\l4 K x x st f fd
theorem ct.mk {cZ:Array dP} {c2 cO:Value} (a:PySem.W.nsIn K mainGlobals x=some (some (.ref f))) (l:K.lookup f=some ⟨g_,gO,.func (PySem.W.fnOf x x (lM st) (kp st) (bS st) .none c2 doc pm an cd cO),cZ⟩)
  (c:PySem.W.codeIn K cd x=true) (k:PySem.W.keepIn K (.ref f)=true):ct K x st:=⟨f,_,a,EX l c k⟩
noncomputable def ct.bD (g:ct K x st) (X:K.In h) (G:h.Ns mainGlobals ax) (b:rP x x st ps):cI K ax x st ps :=
 Classical.choice (let ⟨f,fd,a,F⟩:=g;⟨⟨f,fd,F,PySem.W.mg_of X G a,F.binds b⟩⟩)
noncomputable def qv (K:dc) (x m:Str) (st:Stmt):Prop := ∃ f fd,PySem.W.nsIn K mainGlobals x=some (some (.ref f))/\l4 K m m st f fd
theorem qv.mk {cZ:Array dP} {c2 cO:Value} (a:PySem.W.nsIn K mainGlobals x=some (some (.ref f))) (l:K.lookup f=some ⟨g_,gO,.func (PySem.W.fnOf m m (lM st) (kp st) (bS st) .none c2 doc pm an cd cO),cZ⟩)
  (c:PySem.W.codeIn K cd m=true) (k:PySem.W.keepIn K (.ref f)=true):qv K x m st:=⟨f,_,a,EX l c k⟩
noncomputable def qv.bD (g:qv K x m st) (X:K.In h) (G:h.Ns mainGlobals ax) (b:rP m m st ps):rQ K (λ f=>ax x=some (.ref f)) m m st ps :=
 Classical.choice (let ⟨f,fd,a,F⟩:=g;⟨⟨f,fd,F,PySem.W.mg_of X G a,F.binds b⟩⟩)
noncomputable def HU (K:dc) (a9:Addr) (m q:Str) (st:Stmt):Prop := ∃ f fd,PySem.W.findIn K (.ref a9) m=some (some (.ref f))/\l4 K m q st f fd/\PySem.W.isFn K (.ref f)=true
theorem HU.mk {cZ:Array dP} {c2 cO:Value} (a:PySem.W.findIn K (.ref a9) m=some (some (.ref f))) (l:K.lookup f=some ⟨g_,gO,.func (PySem.W.fnOf m q (lM st) (kp st) (bS st) .none c2 doc pm an cd cO),cZ⟩)
  (c:PySem.W.codeIn K cd q=true) (k:PySem.W.keepIn K (.ref f)=true) (i:PySem.W.isFn K (.ref f)=true):HU K a9 m q st:=⟨f,_,a,EX l c k,i⟩
structure tR (K:dc) (a9 F:Addr):Prop where
 e:PySem.W.excIn K a9 IA "ValueError.__new__" = true
 u:PySem.W.mroIn K a9 (.ref F)=some true
 ne:a9≠F
 fS:PySem.W.findIn K (.ref a9) "__getattribute__" = some (some (.builtin "BaseException.__getattribute__"))
 Cx:PySem.W.findIn K (.ref a9) "__getattr__" = some none
 Cy:PySem.W.findIn K (.ref a9) "__class__" = some (some (.builtin "object.__class__"))
 wb:PySem.W.specialIn K (.builtin "object.__class__") "__get__" = some (some (.builtin "getset_descriptor.__get__"))
 wc:PySem.W.takesIn K (.builtin "object.__class__")=some true
 wa:PySem.W.mroIn K a9 (.type "object")=some true
 Q0:PySem.W.mroIn K a9 (.type "BaseException")=some true
 v:PySem.W.mroIn K a9 (.type "ValueError")=some true
theorem tR.un (a:tR K a9 F):Under K a9 F:=⟨a.e,a.u,a.ne⟩
theorem tR.aeT (a:tR K a9 F):PySem.W.UG K a9:=⟨PySem.W.Ox a.wa,a.fS,a.Cx,a.Cy,a.wb,a.wc,a.wa,a.Q0⟩
theorem tR.Ij (a:tR K a9 F):PySem.W.kitOne K (.ref a9) (.type "ValueError")=some true:=PySem.W.X6 a.v
structure HW (K:dc) (a9 D:Addr):Prop where
 m:PySem.W.mroIn K a9 (.ref D)=some false
 n:a9≠D
 ty:PySem.W.typeIn K (.ref D)=some (.type "type")
 mo:PySem.W.mroIn K D (.type "object")=some true
theorem HW.k (a:HW K a9 D):PySem.W.kitOne K (.ref a9) (.ref D)=some false:=PySem.W.aa0 a.ty a.mo a.m a.n
end
end du
namespace bC
open PySem PySem.Spec PyProof.Rows
section
variable {X:a7} {dN:kE} {k di:Nat} {R:Addr->Prop} {m q:Str} {ps:cE} {sp:b9} {E:jQ} {x:Str} {p pos:Pos} {e:Expr} {es:List Expr} {t:dh}
theorem bf {D:du.rQ X.K (λ f=>X.ax x=some (.ref f)) m q st ps} (F:ip X.prog X.w X.K X.ax X.base dN k D.f D.fd ps sp) (av:gW di X.A) (ae:Passes dN X E) (au:gJ X (e::es) t) (aR:d6 X x:=by rfl) (aE:k<=di:=by decide) (hg:(x == ("__debug__" : Str))=false:=by decide) (he:starEach (e::es) X.env=(false,eval e X.env)::starEach es X.env:=by rfl) (fu:(backTo pos (starEach es X.env)).any (·.1)=false:=by rfl):cj X (.Call (.Name x p) (e::es) [] pos) (uP sp [] E t) :=
 YO F (av.mono aE) aR D.at_ D.fn.d5 D.bd .nil ae au hg he fu
theorem LB {D:du.rQ X.K (λ f=>X.ax x=some (.ref f)) m q st ps} (F:ip X.prog X.w X.K X.ax X.base dN k D.f D.fd ps sp) (av:gW di X.A) (ae:Passes dN X E) (aR:d6 X x:=by rfl) (aE:k<=di:=by decide) (hg:(x == ("__debug__" : Str))=false:=by decide):cj X (.Call (.Name x p) [] [] pos) (uP sp [] E xE) :=
 Z9 F (av.mono aE) aR D.at_ D.fn.d5 D.bd .nil ae hg
theorem bP {P:cE} {x:Str} {e:Expr} {a4:TE} {pos:Pos} (i:Nat) (S:cg X.N P sc) (he:cj X e a4) (aq:X.N[i]?=some x:=by rfl) (ae:Loc X.env.scope x:=by exact Or.inl rfl) (aF:swapsWith e (some (.Name x pos')) pos.line X.env=pure false:=by rfl) (hf:X.fn x=true\/X.env.scope.names.lookup x=some .local:=by first | exact .inl rfl | exact .inr rfl | assumption):jP X (.Assign [.Name x pos'] e pos) (p5 a4 (e4 i)) :=
 mz S.eM aq ae he aF hf
theorem c_ {P:cE} {x:Str} {pos:Pos} (i:Nat) (S:cg X.N P sc) (aq:X.N[i]?=some x:=by rfl) (ae:Loc X.env.scope x:=by exact Or.inl rfl) (hf:X.fn x=true\/X.env.scope.names.lookup x=some .local:=by first | exact .inl rfl | exact .inr rfl | assumption):la X (.Name x pos) (e4 i) :=
 g7 S.eM aq ae hf
theorem cK {r:bB->aA->bN->Prop} {id:String} (aj:fO X (.builtin id) r) (hm:X.ax x=none) (bl:bootBuiltins x=some (.builtin id)) (au:gJ X (e::es) t) (aR:d6 X x:=by rfl) (az:x ≠ "__name__" := by decide) (hg:(x == ("__debug__" : Str))=false:=by decide) (he:starEach (e::es) X.env=(false,eval e X.env)::starEach es X.env:=by rfl) (fu:(backTo pos (starEach es X.env)).any (·.1)=false:=by rfl):cj X (.Call (.Name x p) (e::es) [] pos) (ux r t) :=
 Z_ aj aR hm bl au az hg he fu
theorem iu {r:bB->aA->bN->Prop} {T:String} (aj:fO X (.type T) r) (hm:X.ax x=none) (bl:bootBuiltins x=some (.type T)) (au:gJ X (e::es) t) (aR:d6 X x:=by rfl) (az:x ≠ "__name__" := by decide) (hg:(x == ("__debug__" : Str))=false:=by decide) (he:starEach (e::es) X.env=(false,eval e X.env)::starEach es X.env:=by rfl) (fu:(backTo pos (starEach es X.env)).any (·.1)=false:=by rfl):cj X (.Call (.Name x p) (e::es) [] pos) (ux r t) :=
 abe aj aR hm bl au az hg he fu
theorem ed {x:Str} {pos:Pos} (d9:decide X.N.Nodup=true:=by kernel_rfl) (aq:X.N[0]?=some x:=by rfl) (ae:Loc X.env.scope x:=by exact Or.inl rfl) (hf:X.fn x=true\/X.env.scope.names.lookup x=some .local:=by exact Or.inr rfl):la X (.Name x pos) (e4 0) :=
 g7 (fY d9) aq ae hf
theorem dC {N P:cE} (_:cg ku P eX) (oI : ∀ p∈cl,X.env.cells.lookup p.1=some p.2) (a0:X.env.scope=eX:=by exact rfl) (me:closureFor sc X.env=pure cl:=by exact rfl) (aE:cl.map (·.1)=p3 sc:=by exact rfl) (mY:Fo sc eX N ku js=true:=by decide +kernel) (d9:X.N=ku:=by exact rfl):rk X sc cl N js :=
 aaH a0 me aE oI mY d9
end
theorem dG (h:Nat.ble n 16777216=true:=by rfl):n<=sizeLine:=by rw [cW];exact Nat.le_of_ble_eq_true h
open PySem PySem.Spec PyProof.Rows PyProof.Rows.KTD du
end bC
namespace du
open PySem bC ft
noncomputable def top (i:Nat):Stmt:=PySem.Challenge.pw_wholefract_k99_whole_all_agree.main.body.getD i (.Pass ⟨0,0,0,0⟩)
noncomputable abbrev GX:Stmt:=top 8
noncomputable abbrev G9:Stmt:=top 9
noncomputable abbrev He:Stmt:=top 10
noncomputable abbrev G8:Stmt:=top 11
noncomputable abbrev HN:Stmt:=top 12
noncomputable abbrev Hk:Stmt:=top 14
noncomputable abbrev HQ:Stmt:=top 15
noncomputable abbrev E4:Stmt:=top 16
noncomputable abbrev GV:Stmt:=top 17
noncomputable abbrev FI:Stmt:=top 18
noncomputable abbrev G7:Stmt:=top 19
noncomputable abbrev E5:Stmt:=top 20
noncomputable abbrev FG:Stmt:=top 21
noncomputable abbrev FJ:Stmt:=top 22
noncomputable abbrev GA:Stmt:=top 24
noncomputable abbrev HE:Stmt:=top 25
noncomputable abbrev Hf:Stmt:=top 26
noncomputable abbrev HD:Stmt:=top 27
noncomputable abbrev G1:Stmt:=top 28
noncomputable abbrev HI:Stmt:=top 29
noncomputable abbrev E3:Stmt:=top 32
noncomputable abbrev Ge:Stmt:=top 34
noncomputable abbrev E2:Stmt:=top 35
noncomputable abbrev G0:Stmt:=top 36
noncomputable abbrev GB:Stmt:=top 37
noncomputable abbrev F8:Stmt:=top 38
noncomputable abbrev Gb:Stmt:=top 39
noncomputable abbrev HL:Stmt:=top 40
noncomputable abbrev Hc:Stmt:=top 41
noncomputable abbrev GU:Stmt:=top 44
noncomputable abbrev GW:Stmt:=top 45
noncomputable abbrev Hd:Stmt:=top 46
noncomputable abbrev HJ:Stmt:=top 47
noncomputable abbrev Ht:Stmt:=top 49
noncomputable abbrev Hq:Stmt:=top 50
noncomputable abbrev F9:Stmt:=top 51
noncomputable abbrev Hl:Stmt:=top 52
noncomputable abbrev HH:Stmt:=top 54
noncomputable abbrev Hp:Stmt:=top 55
noncomputable abbrev Gy:Stmt:=top 56
noncomputable abbrev Ho:Stmt:=top 59
noncomputable abbrev Hv:Stmt:=top 60
noncomputable abbrev HG:Stmt:=top 61
noncomputable abbrev Hr:Stmt:=top 62
noncomputable abbrev Gd:Stmt:=top 63
noncomputable abbrev Hu:Stmt:=top 65
noncomputable abbrev Hm:Stmt:=top 66
noncomputable abbrev yG:Stmt:=top 67
noncomputable abbrev Hg:Stmt:=top 68
noncomputable abbrev GF:Stmt:=top 69
noncomputable abbrev yO:Stmt:=top 70
noncomputable abbrev Hw:Stmt:=top 71
noncomputable abbrev GD:Stmt:=top 72
noncomputable abbrev yH:Stmt:=top 73
noncomputable abbrev Gz:Stmt:=top 74
noncomputable abbrev G_:Stmt:=top 76
noncomputable abbrev FH:Stmt:=top 77
noncomputable abbrev Ga:Stmt:=top 78
noncomputable abbrev GC:Stmt:=top 79
noncomputable abbrev GY:Stmt:=top 80
noncomputable abbrev GZ:Stmt:=top 81
noncomputable abbrev Ha:Stmt:=top 82
noncomputable abbrev Hn:Stmt:=top 83
noncomputable abbrev Hb:Stmt:=top 84
noncomputable abbrev HM:Stmt:=top 85
noncomputable abbrev F_:Stmt:=top 86
noncomputable abbrev HP:Stmt:=top 87
noncomputable abbrev HB:Stmt:=top 88
noncomputable abbrev HC:Stmt:=top 89
noncomputable abbrev HO:Stmt:=top 90
noncomputable abbrev EG:Stmt:=top 91
theorem acH:cg ["thing"] ["thing"] (bS GX):=cF
theorem Pt:cg ["thing"] ["thing"] (bS G9):=cF
theorem Px:cg ["number"] ["number"] (bS He):=cF
theorem yK:cg ["prime", "number", "times", "rest"] ["prime", "number"] (bS G8):=cF
theorem BK:cg ["number", "rest", "prime"] ["number"] (bS HN):=cF
theorem PJ:cg ["program"] ["program"] (bS Hk):=cF
theorem BM:cg ["fraction", "tops", "bottoms"] ["fraction"] (bS HQ):=cF
theorem FK:cg ["changes", "powers", "change", "power"] ["changes", "powers"] (bS E4):=cF
theorem Hi:cg ["rows", "powers", "number", "changes"] ["rows", "powers"] (bS GV):=cF
theorem Nj:cg ["powers", "changes", "many"] ["powers", "changes", "many"] (bS FI):=cF
theorem adj:cg ["program", "powers"] ["program", "powers"] (bS G7):=cF
theorem YY:cg ["program", "powers"] ["program", "powers"] (bS E5):=cF
theorem vq:cg ["program", "powers", "many", "rows", "reached", "done", "number"] ["program", "powers", "many"] (bS FG):=cF
theorem vs:cg ["program", "powers", "many", "rows", "reached", "used", "number"] ["program", "powers", "many"] (bS FJ):=cF
theorem G2:cg ["program", "number", "bottom"] ["program", "number"] (bS GA):=cF
theorem P2:cg ["program"] ["program"] (bS HE):=cF
theorem BD:cg ["one", "other", "one_rows", "other_rows", "powers"] ["one", "other"] (bS Hf):=cF
theorem yQ:cg ["one", "other", "places", "wanted", "other_wanted"] ["one", "other"] (bS HD):=cF
theorem O_:cg ["program"] ["program"] (bS G1):=cF
theorem P_:cg ["rows", "powers", "number"] ["rows", "powers"] (bS HI):=cF
theorem tu:cg ["program", "powers", "most", "rows", "seen", "reached", "done", "number"] ["program", "powers", "most"] (bS E3):=cF
theorem N9:cg ["row", "powers"] ["row", "powers"] (bS Ge):=cF
theorem yk:cg ["program", "rows", "changes"] ["program"] (bS E2):=cF
theorem O9:cg ["prime"] ["prime"] (bS G0):=cF
theorem tJ:cg ["rows", "changes", "sums", "unkept", "last"] ["rows", "changes"] (bS GB):=cF
theorem N7:cg ["row", "total", "other", "other_total"] ["row", "total", "other", "other_total"] (bS F8):=cF
theorem tF:cg ["numbers", "shared", "number"] ["numbers"] (bS Gb):=cF
theorem BJ:cg ["one", "other", "rest"] ["one", "other"] (bS HL):=cF
theorem Pw:cg ["program", "one", "other", "row"] ["program", "one", "other"] (bS Hc):=cF
theorem Hh:cg ["program", "powers", "trail", "rows", "places"] ["program", "powers", "trail"] (bS GU):=cF
theorem O7:cg ["program", "thing"] ["program", "thing"] (bS GW):=cF
theorem vF:cg ["rows", "powers", "many", "places", "reached", "number"] ["rows", "powers", "many"] (bS Hd):=cF
theorem Qa:cg ["places"] ["places"] (bS HJ):=cF
theorem yP:cg ["rows", "places", "added", "powers", "number"] ["rows", "places"] (bS Ht):=cF
theorem PK:cg ["changes", "powers", "added"] ["changes", "powers", "added"] (bS Hq):=cF
theorem vA:cg ["program", "powers", "trail", "steps", "added", "rows", "reached", "number"] ["program", "powers", "trail", "steps"] (bS F9):=cF
theorem rO:cg ["program", "powers", "most", "rows", "places", "many", "steps", "end", "part", "added"] ["program", "powers", "most"] (bS Hl):=cF
theorem yR:cg ["machine", "stand", "many", "rows", "reached", "done"] ["machine", "stand", "many"] (bS HH):=cF
theorem BG:cg ["rows", "stand", "row", "values", "counter"] ["rows", "stand"] (bS Hp):=cF
theorem ab_:cg ["values", "counter", "more"] ["values", "counter", "more"] (bS Gy):=cF
theorem tN:cg ["program", "parts", "rows", "wanted", "given"] ["program"] (bS Ho):=cF
theorem BH:cg ["number", "counters", "counter", "often"] ["number"] (bS Hv):=cF
theorem nR:cg ["begin", "wanted", "given", "done", "back", "behind", "rows", "taken", "counter", "number"] ["begin", "wanted", "given"] (bS HG):=cF
theorem adQ:cg ["begin"] ["begin"] (bS Hr):=cF
theorem abg:cg ["number", "done"] ["number", "done"] (bS Gd):=cF
theorem PW:cg ["program", "thing"] ["program", "thing"] (bS Hu):=cF
theorem Hx:cg ["program", "thing"] ["program", "thing"] (bS Hm):=cF
theorem adi:cg ["rows"] ["rows"] (bS yG):=cF
theorem adl:cg ["weights", "powers"] ["weights", "powers"] (bS Hg):=cF
theorem k8:cg ["program", "rows", "many", "table", "basis", "unit", "column", "place", "pivot"] ["program"] (bS GF):=cF
theorem PX:cg ["rows", "table"] ["rows"] (bS yO):=cF
theorem HF:cg ["numbers", "column", "number"] ["numbers"] (bS Hw):=cF
theorem G4:cg ["table", "basis", "column", "found"] ["table", "basis", "column"] (bS GD):=cF
theorem BC:cg ["table", "place", "column", "unit", "used", "pivot", "others"] ["table", "place", "column", "unit"] (bS yH):=cF
theorem Bv:cg ["table", "basis", "column", "unit", "numbers", "place", "taken"] ["table", "basis", "column", "unit"] (bS Gz):=cF
theorem adk:cg ["script", "k"] ["script", "k"] (bS G_):=cF
theorem vr:cg ["cell", "number", "j", "more"] ["cell"] (bS FH):=cF
theorem N8:cg ["pot", "far", "found"] ["pot", "far"] (bS Ga):=cF
theorem G3:cg ["pot", "wide", "found", "k"] ["pot", "wide"] (bS GC):=cF
theorem O8:cg ["pot", "wide"] ["pot"] (bS GY):=cF
theorem acI:cg [] [] (bS GZ):=cF
theorem mI:cg ["line", "found", "prime", "often", "turn"] ["line"] (bS Ha):=cF
theorem o2:cg ["pot", "places", "found", "turn", "place", "top", "bottom"] ["pot", "places"] (bS Hn):=cF
theorem Pu:cg ["pot", "places", "most"] ["pot", "places", "most"] (bS Hb):=cF
theorem lV:cg ["pot", "places", "most", "found", "some", "k", "sides", "turn", "line", "lap", "less", "top"] ["pot", "places", "most"] (bS HM):=cF
theorem GG:cg ["pot", "places", "most", "found", "place"] ["pot", "places", "most"] (bS F_):=cF
theorem BL:cg ["program", "line", "word", "some", "used"] ["program", "line"] (bS HP):=cF
theorem HK:cg ["program", "line", "later"] ["program", "line"] (bS HB):=cF
theorem vG:cg ["program", "line", "found", "steps", "used", "added", "begin"] ["program", "line"] (bS HC):=cF
theorem tO:cg ["program", "line", "machine", "stand", "turn"] ["program", "line"] (bS HO):=cF
theorem uZ:cg ["script", "k", "pot", "places", "program", "line"] ["script"] (bS EG):=cF
set_option genInjectivity false in
set_option genSizeOfSpec false in
structure cv (K:W.Frag) (ax:Str->dP) where
 Oo:cI K ax "is_whole" GX ["thing"]
 OO:cI K ax "is_powers" G9 ["thing"]
 OT:cI K ax "powers_of" He ["number"]
 ON:cI K ax "how_often" G8 ["prime", "number"]
 P6:cI K ax "without_primes" HN ["number"]
 Pd:cI K ax "changes_of" Hk ["program"]
 Qe:cI K ax "fraction_changes" HQ ["fraction"]
 Le:cI K ax "fits" E4 ["changes", "powers"]
 Ol:cI K ax "first_of" GV ["rows", "powers"]
 LM:cI K ax "moved" FI ["powers", "changes", "many"]
 OM:cI K ax "first_fit" G7 ["program", "powers"]
 Lf:cI K ax "step" E5 ["program", "powers"]
 LK:cI K ax "after" FG ["program", "powers", "many"]
 LN:cI K ax "trail" FJ ["program", "powers", "many"]
 NB:cI K ax "is_idle" GA ["program", "number"]
 PQ:cI K ax "without_idle" HE ["program"]
 OU:cI K ax "unlike_at" Hf ["one", "other"]
 PO:cI K ax "least_places" HD ["one", "other"]
 Ov:cI K ax "wants_of" G1 ["program"]
 P0:rQ K (λ f=>ax "used_at_alike" = some (.ref f)) "used_at" "used_at" HI ["rows", "powers"]
 Ld:cI K ax "fate" E3 ["program", "powers", "most"]
 MC:cI K ax "sum_by" Ge ["row", "powers"]
 Lc:cI K ax "base" E2 ["program"]
 Ou:cI K ax "unit_row" G0 ["prime"]
 NC:cI K ax "kept_of" GB ["rows", "changes"]
 Mx:cI K ax "evened" F8 ["row", "total", "other", "other_total"]
 MA:cI K ax "lowest" Gb ["numbers"]
 P4:cI K ax "common_divisor" HL ["one", "other"]
 OR:cI K ax "parted_by" Hc ["program", "one", "other"]
 Oj:cI K ax "added_by" GU ["program", "powers", "trail"]
 Om:cI K ax "is_trail" GW ["program", "thing"]
 OS:cI K ax "places_of" Hd ["rows", "powers", "many"]
 P1:rQ K (λ f=>ax "used_at_loops" = some (.ref f)) "used_at" "used_at" HJ ["places"]
 PB:cI K ax "added_along" Ht ["rows", "places"]
 Pk:cI K ax "stays_shut" Hq ["changes", "powers", "added"]
 My:cI K ax "far_on" F9 ["program", "powers", "trail", "steps"]
 Pe:cI K ax "first_loop" Hl ["program", "powers", "most"]
 PZ:cI K ax "machine_after" HH ["machine", "stand", "many"]
 Pj:cI K ax "next_stand" Hp ["rows", "stand"]
 Nz:cI K ax "changed" Gy ["values", "counter", "more"]
 Ph:cI K ax "machine_of" Ho ["program"]
 PD:cI K ax "counters_of" Hv ["number"]
 PY:cI K ax "fraction_rows" HG ["begin", "wanted", "given"]
 Pl:cI K ax "still_rows" Hr ["begin"]
 MB:cI K ax "onward" Gd ["number", "done"]
 PC:cI K ax "are_weights" Hu ["program", "thing"]
 Pf:cI K ax "is_balance" Hm ["program", "thing"]
 OK:cI K ax "by_primes" yG ["rows"]
 OV:cI K ax "weight_of" Hg ["weights", "powers"]
 NG:cI K ax "weighed" GF ["program"]
 PF:cI K ax "first_table" yO ["rows"]
 PE:cI K ax "first_above" Hw ["numbers"]
 NF:cI K ax "leaving" GD ["table", "basis", "column"]
 OL:cI K ax "exchanged" yH ["table", "place", "column", "unit"]
 NA:cI K ax "endless" Gz ["table", "basis", "column", "unit"]
 OP:cI K ax "_law_cell_at" G_ ["script", "k"]
 LL:cI K ax "_law_pot" FH ["cell"]
 FT:cI K ax "_law_take" Ga ["pot", "far"]
 ND:cI K ax "_law_order" GC ["pot", "wide"]
 Oq:cI K ax "_law_places" GY ["pot"]
 Ot:cI K ax "_law_primes" GZ []
 Bw:cI K ax "_law_product" Ha ["line"]
 Pg:cI K ax "_law_fraction" Hn ["pot", "places"]
 OQ:cI K ax "_law_program" Hb ["pot", "places", "most"]
 P5:cI K ax "_law_calm_program" HM ["pot", "places", "most"]
 Mz:cI K ax "_law_line" F_ ["pot", "places", "most"]
 Qd:cI K ax "_law_weights_right" HP ["program", "line"]
 PM:cI K ax "_law_kept_right" HB ["program", "line"]
 PN:cI K ax "_law_loop_right" HC ["program", "line"]
 Qc:cI K ax "_law_machine_right" HO ["program", "line"]
 acV:Addr
 afX:ax "FractError" = some (.ref acV)
 Zg:Addr
 afT:ax "AtRest" = some (.ref Zg)
 abM:Addr
 afW:ax "NoNumber" = some (.ref abM)
 aaB:Addr
 afV:ax "TooMany" = some (.ref aaB)
 aaA:Addr
 afU:ax "NoTrail" = some (.ref aaA)
 ec:ax "len" = none
 yJ:ax "isinstance" = none
 Wc:ax "int" = none
 W3:ax "bool" = none
 h7:ax "tuple" = none
 Lu:ax "list" = none
 hR:ax "range" = none
 xK:ax "max" = none
 xM:ax "min" = none
 sY:ax "all" = none
 ki:ax "zip" = none
 K0:ax "any" = none
 K1:ax "sum" = none
 o1:ax "enumerate" = none
 Wb:ax "abs" = none
 abU:ax "reversed" = none
 afY:ax "ValueError" = none
 gs:Addr
 lR:ax "PRIMES" = some (.ref gs)
 jL : ∀ H,aP K H gs [.int 2,.int 3,.int 5,.int 7,.int 11,.int 13,.int 17,.int 19,.int 23,.int 29]
 BF : ∃ t,ax "MOST_PLACES" = some (.int 40 t)
 HA : ∃ t,ax "MOST_FACTORS" = some (.int 300 t)
section
variable {P:Program}
noncomputable def abn:b9:=λ ag H Q _ => ∃ (a:Addr) (n j0:Int),ag=[.ref a,.int j0]/\H a=some (.lst [.int n])/\0<j0/\j0<1073741824/\Q (.int (n % j0)) (upd H a (.lst [.int (n / j0)]))
theorem qs (T:cv K ax):cz P w ax base b_ 1 T.FT abn:=by
 refine T.FT.fn.cA N8 (λ ag H Q E h=>?_) (λ bt A outer s H ag Q E av h=>?_)
 ·obtain ⟨a,n,j0,rfl,_⟩:=h;rfl
 ·obtain ⟨a,n,j0,rfl,au,h0,I,q⟩:=h;refine ⟨_,(aV (bP 2 N8 (bZ qe (cP f3 (aa 0) aX (λ _ _=>rfl)) (aa 1)))
   (aV (nA (bZ Ba (cP f3 (aa 0) aX (λ _ _=>rfl)) (aa 1)) (qg (aa 0) aX set_list))
   (a5 (bJ (aa 2))))),?_⟩
  refine ⟨_,rfl,a,_,_,_,rfl,rfl,aQ.of au,rfl,_,rfl,_,_,rfl,rfl,h0,?_⟩;refine ⟨_,rfl,a,_,_,_,rfl,rfl,aQ.of au,rfl,_,rfl,_,_,rfl,rfl,⟨h0,I⟩,_,rfl,a,_,_,0,rfl,rfl,au,rfl,?_⟩;exact ⟨_,rfl,q⟩
noncomputable def adt (K:dc):b9:=λ ag H Q _ => ∃ (a:Addr) (ns:aw) (k:Int),ag=[.ref a,.int k]/\aQ K H a (ns.map V.int)/\0<=k /\ ∀ c:Int,Q (.int c) H
theorem ada (T:cv K ax):cz P w ax base b_ 1 T.OP (adt K):=by
 refine T.OP.fn.cA adk (λ ag H Q E h=>?_) (λ bt A outer s H ag Q E av h=>?_)
 ·obtain ⟨a,ns,k,rfl,_⟩:=h;rfl
 ·obtain ⟨a,ns,k,rfl,c1,h0,q⟩:=h;refine ⟨_,(aV (dJ (c6 nj (aa 1) (cK ew T.ec eb (ak (aa 0) aC)) (cB _))
    (a5 (bJ (cP f3 (aa 0) (aa 1) (λ _ _=>rfl))))
    dM)
   (a5 (bJ aX))),?_⟩
  refine ⟨_,rfl,_,rfl,a,_,rfl,.inl c1,_,_,rfl,rfl,_,rfl,?_⟩;refine hx (λ dg=>?_) (λ _=>q 0);have U_:k<((ns.map V.int).length:Int):=by simpa using dg
  rw [a6] at U_;have aE:k.toNat<ns.length:=by omega
  have e:(ns.map V.int)[k.toNat]?=some (V.int ns[k.toNat]):=by rw [c9,bz aE];rfl
  exact ⟨_,rfl,_,rfl,a,_,_,_,rfl,rfl,c1,h5 h0 e,q _⟩
noncomputable def aai:b9:=λ ag H Q _ => ∃ c:Int,ag=[.int c] /\ ∀ (n:Int) (p:Addr),H p=none->Q (.ref p) (upd H p (.lst [.int n]))
theorem ZQ (T:cv K ax):cz P w ax base b_ 1 T.LL aai:=by
 refine T.LL.fn.cA vr (λ ag H Q E h=>?_) (λ bt A outer s H ag Q E av h=>?_)
 ·obtain ⟨c,rfl,_⟩:=h;rfl
 ·obtain ⟨c,rfl,q⟩:=h;refine ⟨_,(aV (dJ (c6 xN (aa 0) (bZ Lx aX aX) (cB _))
    (a5 (bJ (AM (ak (bZ nz (aa 0) (bZ Lx aX aX)) aC))))
    dM)
   (aV (bP 1 vr aX)
   (aV (eB dZ rfl (iz rfl T.hR (ak aX aC)) (c_ 2 vr)
    (aV (bP 3 vr (bZ qe (bZ rn (bZ eR (bZ eR (bZ qe (aa 0) aX) (bZ rn aX (aa 2))) aX) aX) aX))
   (aV (bP 3 vr (bZ qe (bZ eR (bZ eR (bZ rn (aa 3) (aa 3)) (bZ rn aX (aa 2))) aX) aX))
   (a5 (bP 1 vr (bZ eR (bZ rn (aa 1) aX) (aa 3)))))))
   (a5 (bJ (AM (ak (aa 1) aC))))))),?_⟩
  refine ⟨_,rfl,_,_,rfl,rfl,⟨.aG,.aG,.aG⟩,_,_,rfl,rfl,_,rfl,?_⟩;refine hx (λ _=>?_) (λ _=>?_)
  ·refine ⟨_,rfl,_,_,rfl,rfl,⟨.aG,.aG,.aG⟩,_,_,rfl,rfl,dG,λ p ao=>?_⟩;exact q _ p ao
  ·refine ⟨64,rfl,.aG,.aG,jv (n:=64) (λ i σ ay => ∃ (n:Int) (u v:cq),σ=[some (.int c),some (.int n),u,v]/\ay=H) ⟨0,none,none,rfl,rfl⟩ ?_ ?_⟩
   ·rintro i σ ay aq ⟨n,u,v,rfl,rfl⟩;refine ⟨_,rfl,_,_,rfl,rfl,(by show (0:Int)<2147483629;decide),_,rfl,_,_,rfl,rfl,.inl ⟨.aG,.aG⟩,_,_,rfl,rfl,_,_,rfl,rfl,_,_,rfl,rfl,.inr ⟨.aG,.aG⟩,_,_,rfl,rfl,(by show (0:Int)<2147483647;decide),?_⟩;refine ⟨_,rfl,_,rfl,_,_,rfl,rfl,.inl ?_,_,rfl,_,_,rfl,rfl,.inl ⟨.aG,.aG⟩,_,_,rfl,rfl,_,_,rfl,rfl,_,_,rfl,rfl,(by show (0:Int)<2147483587;decide),?_⟩
    ·have I:=rC ((c % 2147483629+7919 * (0+(i:Int))+1) * 48271) (show (2147483647:Int)≠0 by decide);have ah:=rD ((c % 2147483629+7919 * (0+(i:Int))+1) * 48271) (show (0:Int)<2147483647 by decide);exact ⟨.ab,.ab⟩
    refine ⟨_,rfl,_,_,rfl,rfl,.inr ⟨.aG,.aG⟩,_,rfl,_,_,rfl,rfl,?_⟩;exact ⟨_,_,_,rfl,rfl⟩
   ·rintro σ ay ⟨n,u,v,rfl,rfl⟩;exact ⟨_,rfl,dG,λ p ao=>q n p ao⟩
noncomputable def acf:b9:=λ ag H Q _ => ∃ (a:Addr) (n jy:Int),ag=[.ref a,.int jy]/\H a=some (.lst [.int n])/\0<=jy/\jy<=100 /\
 ∀ (p:Addr) (H':aA) (cD:Int) (ns:aw),H p=none->b6 a H H'->H' a=some (.lst [.int cD])->H' p=some (.tup (ns.map V.int))->ns.length=jy.toNat->(∀ m∈ns,0<=m/\m<jy)->Q (.ref p) H'
theorem ab3 (T:cv K ax):cz P w ax base b_ 2 T.ND acf:=by
 refine T.ND.fn.cA G3 (λ ag H Q E h=>?_) (λ bt A outer s H ag Q E av h=>?_)
 ·obtain ⟨a,n,jy,rfl,_⟩:=h;rfl
 ·obtain ⟨a,n,jy,rfl,au,h0,I,q⟩:=h;refine ⟨_,(aV (bP 2 G3 (AM aC))
   (aV (eB dZ rfl (iz rfl T.hR (ak (aa 1) aC)) (c_ 3 G3)
    (a5 (lP (lC lL PySem.F.slot_list_insert PySem.F.type_list_insert aa5 (aa 2) (ak (bf (qs T) av bb (ak (aa 0) (ak (bZ eR (aa 3) aX) aC))) (ak (aa 3) aC))))))
   (a5 (bJ (iu yL T.h7 h6 (ak (aa 2) aC)))))),?_⟩
  refine ⟨dG,λ l ar=>?_⟩;have ij:a≠l:=bT au ar;refine ⟨_,rfl,jy,rfl,.ab,.ab,jv (n:=jy.toNat) (λ i σ ay => ∃ (cD:Int) (ns:aw) (u:cq),σ=[some (.ref a),some (.int jy),some (.ref l),u]/\b6 a H ay/\ay a=some (.lst [.int cD])/\ay l=some (.lst (ns.map V.int))/\ns.length=i /\ ∀ m∈ns,0<=m/\m<jy)
   ⟨n,[],none,rfl,λ b o _ e=>by rw [bw (bT e ar)];exact e,by rw [bw ij];exact au,bK,rfl,λ m hm=>absurd hm .zs⟩ ?_ ?_⟩
  ·rintro i σ ay aq ⟨cD,ns,u,rfl,c0,hF,dQ,az,hm⟩;refine ⟨_,rfl,.inl ⟨rfl,_,aQ.of dQ⟩,_,rfl,_,rfl,_,_,rfl,rfl,a,cD,_,rfl,hF,.ab,.ab,_,rfl,l,_,_,_,rfl,rfl,by rw [bw ij.symm];exact dQ,?_,?_,?_,?_⟩
   ·exact rC _ .ab
   ·have:=rD cD (show (0:Int)<0+(i:Int)+1 by omega);omega
   ·rw [a6,az,cW];omega
   ·refine ⟨cD / (0+(i:Int)+1),ns.take (min (cD % (0+(i:Int)+1)).toNat (ns.map V.int).length)++(0+(i:Int))::ns.drop (min (cD % (0+(i:Int)+1)).toNat (ns.map V.int).length),_,rfl,?_,?_,?_,?_,?_⟩
    ·intro b o nb e;rw [bw (bT e ar),bw nb];exact c0 b o nb e
    ·rw [bw ij,bK]
    ·rw [bK,ej,jo,List.map_take,List.map_drop]
    ·rw [cJ,mB,ff,qb,a6,az];omega
    ·intro m l9;rcases iX.mp l9 with z | z
     ·exact hm m (qm z)
     ·rcases c8.mp z with z | z
      ·rw [z];omega
      ·exact hm m (A4 z)
  ·rintro σ ay ⟨cD,ns,u,rfl,c0,hF,dQ,az,hm⟩;refine ⟨_,rfl,l,_,rfl,.inl ⟨aQ.of dQ,λ p ao=>?_⟩⟩;have xc:p≠a:=λ z=>by rw [z,hF] at ao;cases ao
   refine q p _ cD ns (c0.free ao xc) (c0.new ao) ?_ bK az hm;rw [bw xc.symm];exact hF
noncomputable def acM:b9:=λ ag H Q _ => ∃ (a:Addr) (n:Int),ag=[.ref a]/\H a=some (.lst [.int n]) /\
 ∀ (p:Addr) (H':aA) (cD:Int) (ns:aw),b6 a H H'->H' a=some (.lst [.int cD])->H' p=some (.tup (ns.map V.int))->1<=ns.length->ns.length<=5->(∀ m∈ns,0<=m/\m<10)->Q (.ref p) H'
theorem acF (T:cv K ax):cz P w ax base b_ 3 T.Oq acM:=by
 refine T.Oq.fn.cA O8 (λ ag H Q E h=>?_) (λ bt A outer s H ag Q E av h=>?_)
 ·obtain ⟨a,n,rfl,_⟩:=h;rfl
 ·obtain ⟨a,n,rfl,au,q⟩:=h;refine ⟨_,(aV (bP 1 O8 (bZ eR aX (bf (qs T) av bb (ak (aa 0) (ak aX aC)))))
   (aV (dJ (c6 h1 (bf (qs T) av bb (ak (aa 0) (ak aX aC))) aX (cB _))
    (a5 (bJ (iu (aej rfl) T.h7 h6 (ak (iu abO T.hR XS (ak (aa 1) aC)) aC))))
    dM)
   (a5 (bJ (mH Mq (bf (ab3 T) av bb (ak (aa 0) (ak aX aC))) nM (lO (aa 1))))))),?_⟩
  refine ⟨_,rfl,a,n,5,rfl,au,.aG,.aG,_,_,rfl,rfl,?_⟩;refine ⟨_,rfl,a,_,2,rfl,bK,.aG,.aG,rfl,_,rfl,?_⟩;have i5:=rC n (show (5:Int)≠0 by decide);have g1:=rD n (show (0:Int)<5 by decide);refine hx (λ _=>?_) (λ _=>?_)
  ·refine ⟨_,rfl,_,rfl,λ p ao=>⟨p,_,rfl,bK,.ab,.ab,λ l ar=>?_⟩⟩;have xc:p≠a:=λ z=>by rw [z,bK] at ao;cases ao
   have DG:l≠a:=λ z=>by rw [z,bw xc.symm,bK] at ar;cases ar
   refine q l _ (n / 5 / 2) ((List.range (1+n % 5).toNat).map λ i=>((i:Nat):Int)) (((b6.upd.set).new ao).new ar) ?_ ?_ ?_ ?_ ?_
   ·rw [bw DG.symm,bw xc.symm,bK]
   ·rw [bK,fZ];rfl
   ·rw [a6,i0];omega
   ·rw [a6,i0];omega
   ·intro m hm;obtain ⟨i,aq,rfl⟩:=dz.mp hm;have:=fH.mp aq;omega
  ·refine ⟨_,rfl,a,_,10,rfl,bK,.aG,.aG,λ p H' cD ns ao c0 lr dR hlen hm=>?_⟩;have sV:ns.length=10:=hlen;refine ⟨_,rfl,_,rfl,.inl ⟨p,_,rfl,aP.of dR,?_,λ l ar=>?_⟩⟩
   ·rintro ⟨_,h⟩;rw [x3 .ab,a6] at h;omega
   have DG:l≠a:=λ z=>by rw [z,lr] at ar;cases ar
   have d7:b6 a H (upd (upd H a (.lst [.int (n / 5)])) a (.lst [.int (n / 5 / 2)])):=b6.upd.set;have ef:b6 a H H':=d7.trans c0;refine q l _ cD (ns.take (1+n % 5).toNat) (ef.new ar) ?_ ?_ ?_ ?_ ?_
   ·rw [bw DG.symm];exact lr
   ·rw [bK,vm .ab,List.map_take]
   ·rw [ff];omega
   ·rw [ff];omega
   ·intro m l9;exact hm m (qm l9)
noncomputable def hj:bB:=[.int 2,.int 3,.int 5,.int 7,.int 11,.int 13,.int 17,.int 19,.int 23,.int 29]
noncomputable def acN:b9:=λ ag H Q _=>ag=[] /\ ∀ p,H p=none->Q (.ref p) (upd H p (.tup hj))
theorem O3 (T:cv K ax):cz P w ax base b_ 1 T.Ot acN:=by
 refine T.Ot.fn.cA acI (λ ag H Q E h=>?_) (λ bt A outer s H ag Q E av h=>?_)
 ·obtain ⟨rfl,_⟩:=h;rfl
 ·obtain ⟨rfl,q⟩:=h;refine ⟨_,(a5 (bJ (LC (ak aX (ak aX (ak aX (ak aX (ak aX (ak aX (ak aX (ak aX (ak aX (ak aX aC))))))))))))),?_⟩;exact ⟨dG,λ p ao=>q p ao⟩
theorem tL {i:Nat} {x:V} (h:hj[i]?=some x) : ∃ p:Nat,x=.int (p:Int)/\dK[i]?=some p/\p<30:=by
 match i,h with
 | 0,h=>cases h;exact ⟨2,rfl,rfl,.aG⟩
 | 1,h=>cases h;exact ⟨3,rfl,rfl,.aG⟩
 | 2,h=>cases h;exact ⟨5,rfl,rfl,.aG⟩
 | 3,h=>cases h;exact ⟨7,rfl,rfl,.aG⟩
 | 4,h=>cases h;exact ⟨11,rfl,rfl,.aG⟩
 | 5,h=>cases h;exact ⟨13,rfl,rfl,.aG⟩
 | 6,h=>cases h;exact ⟨17,rfl,rfl,.aG⟩
 | 7,h=>cases h;exact ⟨19,rfl,rfl,.aG⟩
 | 8,h=>cases h;exact ⟨23,rfl,rfl,.aG⟩
 | 9,h=>cases h;exact ⟨29,rfl,rfl,.aG⟩
 | (k+10),h=>cases h
theorem GS : ∀ (ps es:bo) (i p e:Nat),ps[i]?=some p->es[i]?=some e->hQ (ps.take (i+1)) (es.take (i+1))=hQ (ps.take i) (es.take i) * p ^ e
 | [],_,_,_,_,h,_=>by cases h
 | _,[],_,_,_,_,h=>by cases h
 | hE::ps,cH::es,0,p,e,h,h'=>by
  have z:hE=p:=eA h;have fh:cH=e:=eA h';subst z;subst fh;show hE ^ cH * 1=1 * hE ^ cH;omega
 | hE::ps,cH::es,i+1,p,e,h,h'=>by
  show hE ^ cH * hQ (ps.take (i+1)) (es.take (i+1))=hE ^ cH * hQ (ps.take i) (es.take i) * p ^ e;rw [GS ps es i p e h h',ru]
noncomputable def adu (K:dc):b9:=λ ag H Q _ => ∃ (b:Addr) (es:aw),ag=[.ref b]/\aP K H b (es.map V.int)/\es.length=10/\(∀ e∈es,0<=e/\e<2 ^ 62) /\ ∀ H',aB H H'->Q (.int (prod (es.map Int.toNat):Nat)) H'
theorem Pq (T:cv K ax):cz P w ax base b_ 2 T.Bw (adu K):=by
 refine T.Bw.fn.cA mI (λ ag H Q E h=>?_) (λ bt A outer s H ag Q E av h=>?_)
 ·obtain ⟨b,es,rfl,_⟩:=h;rfl
 ·obtain ⟨b,es,rfl,af,he,hm,q⟩:=h;refine ⟨_,(aV (bP 1 mI aX)
   (aV (eB dZ rfl (tf rfl rfl T.ki (ak (LB (O3 T) av bb) (ak (aa 0) aC))) (km rfl (cQ (c_ 2 mI) (cQ (c_ 3 mI) fm)))
    (a5 (eB dZ rfl (iz rfl T.hR (ak (aa 3) aC)) (c_ 4 mI)
    (a5 (bP 1 mI (bZ rn (aa 1) (aa 2)))))))
   (a5 (bJ (aa 1))))),?_⟩
  refine ⟨rfl,λ t aW=>⟨_,rfl,t,b,rfl,⟨_,aP.of bK⟩,⟨_,aB.tup (aB.new aW) af⟩,?_⟩⟩;have fu:hj.length=10:=rfl;have C9:(es.map V.int).length=10:=by rw [a6];exact he
  refine L6 (xs:=hj) (ys:=es.map V.int) (λ i σ ay=>(∃ u v x:cq,σ=[some (.ref b),some (.int (hQ (dK.take i) ((es.map Int.toNat).take i):Nat)),u,v,x])/\aB (upd H t (.tup hj)) ay) ⟨⟨none,none,none,rfl⟩,aB.refl _⟩ ?_ ?_ ?_
  ·rintro i σ ay aq ⟨_,s2⟩;exact ⟨aP.of (s2 _ _ bK),aB.tup s2 (aB.tup (aB.new aW) af)⟩
  ·rintro i x y z σ ay ae a8 aS ⟨⟨u,v,kC,rfl⟩,s2⟩;obtain ⟨p,rfl,ao,xy⟩:=tL ae;obtain ⟨e,rfl,su⟩:=iA a8;obtain ⟨cH,aJ⟩:=hm e (cf su);refine ⟨z,_,rfl,aP.of bK,rfl,_,_,rfl,_,_,rfl,rfl,?_⟩;refine ⟨_,rfl,e,rfl,.ab,aJ,jv (n:=e.toNat) (λ j σ aM=>(∃ x:cq,σ=[some (.ref b),some (.int ((hQ (dK.take i) ((es.map Int.toNat).take i) * p ^ j:Nat):Int)),some (.int p),some (.int e),x])/\aB (upd H t (.tup hj)) aM) ⟨⟨kC,by rw [ti,Nat.mul_one];rfl⟩,aB.more s2 aS⟩ ?_ ?_⟩
   ·rintro j σ aM aY ⟨⟨fS,rfl⟩,s3⟩;refine ⟨_,rfl,_,rfl,_,_,rfl,rfl,.inr ⟨.ab,.ab⟩,⟨some (.int (0+(j:Int))),?_⟩,s3⟩;rw [nF,<-ru,Int.natCast_mul _ p];rfl
   ·rintro σ aM ⟨⟨fS,rfl⟩,s3⟩;refine ⟨⟨some (.int p),some (.int e),fS,?_⟩,s3⟩;have D5:(es.map Int.toNat)[i]?=some e.toNat:=by rw [c9,su];rfl
    rw [GS dK (es.map Int.toNat) i p e.toNat ao D5]
  ·rintro σ ay ⟨⟨u,v,x,rfl⟩,s2⟩;have aN:min hj.length (es.map V.int).length=10:=by rw [fu,C9];rfl
   refine ⟨_,rfl,?_⟩;rw [aN];have fi:dK.take 10=dK:=rfl;have eV:(es.map Int.toNat).take 10=es.map Int.toNat:=fG (by rw [a6,he];exact br _);rw [fi,eV];exact q ay ((aB.new aW).trans s2)
noncomputable def oK (ns xs:aw):Prop := ∀ k:Nat,(k:Int)∉ns->xs.getD k 0=0
theorem F1 {xs:aw} {m x:Int} (h:oK ns xs) (h0:0<=m) (hm:m∈ns):oK ns (xs.set m.toNat x):=λ k aE=>by
 have dD:m.toNat≠k:=λ z=>aE (by rw [<-z,qh h0];exact hm)
 rw [bk,mu dD,<-bk];exact h k aE
noncomputable def Iq (ns:aw) (a b l:Addr) (H:aA) (Qw cd:Nat) (σ:St) (ay:aA):Prop := ∃ (cD:Int) (xs:aw) (u v t1 bx:cq),σ=[some (.ref a),some (.ref b),some (.ref l),u,v,t1,bx]/\b6 a H ay/\ay a=some (.lst [.int cD])/\ay l=some (.lst (xs.map V.int))/\xs.length=10/\(ups xs).sum<=Qw/\(downs xs).sum<=cd/\oK ns xs
noncomputable def pN:V->V
 | .int j=>.int (if j > 0 then j else 0)
 | v=>v
noncomputable def uv:V->V
 | .int j=>.int (if 0 - j > 0 then 0 - j else 0)
 | v=>v
theorem Yf (xs:aw):(xs.map V.int).map pN=(xs.map λ x=>if x > 0 then x else 0).map V.int:=by rw [fZ,fZ];rfl
theorem Yg (xs:aw):(xs.map V.int).map uv=(xs.map λ x=>if 0 - x > 0 then 0 - x else 0).map V.int:=by rw [fZ,fZ];rfl
theorem XO (xs:aw):(xs.map λ x=>if x > 0 then x else 0).map Int.toNat=ups xs:=by
 rw [fZ];refine qj λ x _=>?_
 show (if x > 0 then x else 0).toNat=x.toNat;split<;>omega
theorem Zr (xs:aw):(xs.map λ x=>if 0 - x > 0 then 0 - x else 0).map Int.toNat=downs xs:=by
 rw [fZ];refine qj λ x _=>?_
 show (if 0 - x > 0 then 0 - x else 0).toNat=(-x).toNat;split<;>omega
theorem GR : ∀ {l:bo} {x:Nat},x∈l->x<=l.sum
 | [],_,h=>by cases h
 | y::r,x,h=>by
  rw [lJ];rcases c8.mp h with z | z
  ·omega
  ·have:=GR z;omega
noncomputable def ze (ns:aw) (i j:Int):Prop := ∃ xs:aw,xs.length=10/\(ups xs).sum<=3/\(downs xs).sum<=3/\oK ns xs/\i=(prod (ups xs):Nat)/\j=(prod (downs xs):Nat)
noncomputable def adV:b9:=λ ag H Q _ => ∃ (a b:Addr) (n:Int) (ns:aw),ag=[.ref a,.ref b]/\H a=some (.lst [.int n])/\H b=some (.tup (ns.map V.int))/\1<=ns.length/\ns.length<=10/\(∀ m∈ns,0<=m/\m<10) /\
 ∀ (p:Addr) (H':aA) (cD i j:Int),b6 a H H'->H' a=some (.lst [.int cD])->H' p=some (.tup [.int i,.int j])->ze ns i j->Q (.ref p) H'
theorem adL (T:cv K ax):cz P w ax base b_ 3 T.Pg adV:=by
 refine T.Pg.fn.cA o2 (λ ag H Q E h=>?_) (λ bt A outer s H ag Q E av h=>?_)
 ·obtain ⟨a,b,n,ns,rfl,_⟩:=h;rfl
 ·obtain ⟨a,b,n,ns,rfl,au,af,zF,uk,hm,q⟩:=h;refine ⟨_,(aV (bP 2 o2 (bZ Ly (AM (ak aX aC)) aX))
   (aV (eB dZ rfl (iz rfl T.hR (ak (bf (qs T) av bb (ak (aa 0) (ak aX aC))) aC)) (c_ 3 o2)
    (aV (bP 4 o2 (cP fP (aa 1) (bf (qs T) av bb (ak (aa 0) (ak (cK ew T.ec eb (ak (aa 1) aC)) aC))) (λ _ _=>rfl)))
   (a5 (nA (bZ eR (cP f3 (aa 2) (aa 4) (λ _ _=>rfl)) aX) (qg (aa 2) (aa 4) set_list)))))
   (aV (eB dZ rfl (iz rfl T.hR (ak (bf (qs T) av bb (ak (aa 0) (ak aX aC))) aC)) (c_ 3 o2)
    (aV (bP 4 o2 (cP fP (aa 1) (bf (qs T) av bb (ak (aa 0) (ak (cK ew T.ec eb (ak (aa 1) aC)) aC))) (λ _ _=>rfl)))
   (a5 (nA (bZ nz (cP f3 (aa 2) (aa 4) (λ _ _=>rfl)) aX) (qg (aa 2) (aa 4) set_list)))))
   (aV (bP 5 o2 (iu yL T.h7 h6 (ak (fx (dC o2 (N:=["one"]) (js:=[none]) (d3 _)) rfl (hA (aa 2)) (λ _ _ _ _=>ed) (λ _ _ _ _=>eD)
     (λ _ _ _ _=>(cK (Bm rfl) T.xK xG (ak aX (ak (aa 0) aC))))) aC)))
   (aV (bP 6 o2 (iu yL T.h7 h6 (ak (fx (dC o2 (N:=["one"]) (js:=[none]) (d3 _)) rfl (hA (aa 2)) (λ _ _ _ _=>ed) (λ _ _ _ _=>eD)
     (λ _ _ _ _=>(cK (Bm rfl) T.xK xG (ak aX (ak (bZ nz aX (aa 0)) aC))))) aC)))
   (a5 (bJ (LC (ak (bf (Pq T) av bb (ak (aa 5) aC)) (ak (bf (Pq T) av bb (ak (aa 6) aC)) aC)))))))))),?_⟩
  refine ⟨dG,λ iF m1=>⟨iF,10,_,rfl,rfl,bK,.aG,.aG,.aG,λ l ar=>?_⟩⟩;have j8:b≠a:=gY af au nofun;have JA:a≠iF:=bT au m1;have ij:a≠l:=bT (by rw [bw JA];exact au) ar;have d7:b6 a H (upd (upd H iF (.lst [.int 0])) l (.lst (List.replicate (10:Int).toNat [V.int 0]).flatten)):=((b6.refl a H).new m1).new ar;have wW:H l=none:=by
   have:=ar;unfold upd at this;split at this
   ·cases this
   ·exact this
  have turn : ∀ (ay:aA) (cD:Int),b6 a H ay->ay a=some (.lst [.int cD]) -> ∃ m:Int,m∈ns/\0<=m/\m<10/\0<=cD % ((ns.map V.int).length:Int)/\(ns.map V.int)[(cD % ((ns.map V.int).length:Int)).toNat]?=some (.int m):=by
   intro ay cD _ _;have TM:((ns.map V.int).length:Int)=(ns.length:Int):=by rw [a6]
   rw [TM];have i5:=rC cD (show (ns.length:Int)≠0 by omega);have g1:=rD cD (show (0:Int)<ns.length by omega);have aE:(cD % (ns.length:Int)).toNat<ns.length:=by omega
   obtain ⟨m0,hT⟩:=hm _ (g5 aE);exact ⟨ns[(cD % (ns.length:Int)).toNat],g5 aE,m0,hT,i5,by rw [c9,bz aE];rfl⟩
  have afN:((ns.map V.int).length:Int)=(ns.length:Int):=by rw [a6]
  have afm:=rC n (show (4:Int)≠0 by decide);have afn:=rD n (show (0:Int)<4 by decide);refine ⟨_,rfl,a,n,4,rfl,(by rw [bw ij,bw JA];exact au),.aG,.aG,_,rfl,.ab,.ab,jv (n:=(n % 4).toNat) (λ i σ ay=>Iq ns a b l H i 0 σ ay) ?_ ?_ ?_⟩
  ·exact ⟨n / 4,List.replicate 10 0,none,none,none,none,rfl,d7.set,bK,by rw [bw ij.symm,bK];rfl,rfl,.aG,.aG,λ k _=>by rw [bk,xY];split<;>rfl⟩
  ·rintro i σ ay aq ⟨cD,xs,u,v,t1,bx,rfl,c0,hF,dQ,ae,bM,hd,pH⟩;obtain ⟨m,Cb,m0,hT,i5,xw⟩:=turn ay cD c0 hF;have sl:ay b=some (.tup (ns.map V.int)):=c0 b _ j8 af;refine ⟨_,rfl,_,rfl,_,rfl,b,_,rfl,.inr (aP.of sl),a,cD,_,rfl,hF,.ab,.ab,b,_,_,_,rfl,rfl,aP.of (by rw [bw j8];exact sl),h5 i5 xw,?_⟩;have gb:(upd ay a (.lst [.int (cD / ((ns.map V.int).length:Int))])) l=some (.lst (xs.map V.int)):=by rw [bw ij.symm];exact dQ
   have uj:m.toNat<xs.length:=by omega
   have j7:xs[m.toNat]?=some xs[m.toNat]:=bz uj;have DA:(xs.map V.int)[m.toNat]?=some (.int xs[m.toNat]):=by rw [c9,j7];rfl
   refine ⟨_,rfl,_,rfl,l,_,_,_,rfl,rfl,aQ.of gb,h5 m0 DA,_,_,rfl,rfl,_,rfl,_,rfl,l,_,_,_,rfl,rfl,gb,qd m0 (by rw [a6,ae];omega),?_⟩;refine ⟨cD / ((ns.map V.int).length:Int),xs.set m.toNat (xs[m.toNat]+1),_,_,t1,bx,rfl,?_,?_,?_,?_,?_,?_,F1 pH m0 Cb⟩
   ·intro c o hD e;rw [bw (bT e wW),bw hD];exact c0 c o hD e
   ·rw [bw ij,bK]
   ·rw [bK,k3]
   ·rw [jI];exact ae
   ·exact et (LI j7) .ab
   ·exact et (Zs j7) hd
  rintro σ ay ⟨cD,xs,u,v,t1,bx,rfl,c0,hF,dQ,ae,bM,hd,pH⟩;have afo:=rC cD (show (4:Int)≠0 by decide);have afp:=rD cD (show (0:Int)<4 by decide);refine ⟨_,rfl,a,cD,4,rfl,hF,.aG,.aG,_,rfl,.ab,.ab,jv (n:=(cD % 4).toNat) (λ i σ ay=>Iq ns a b l H 3 i σ ay) ?_ ?_ ?_⟩
  ·exact ⟨cD / 4,xs,u,v,t1,bx,rfl,c0.set,bK,by rw [bw ij.symm];exact dQ,ae,.ab,hd,pH⟩
  ·clear pH bM hd ae dQ hF c0;rintro i σ ay aq ⟨cD,xs,u,v,t1,bx,rfl,c0,hF,dQ,ae,bM,hd,pH⟩;obtain ⟨m,Cb,m0,hT,i5,xw⟩:=turn ay cD c0 hF;have sl:ay b=some (.tup (ns.map V.int)):=c0 b _ j8 af;refine ⟨_,rfl,_,rfl,_,rfl,b,_,rfl,.inr (aP.of sl),a,cD,_,rfl,hF,.ab,.ab,b,_,_,_,rfl,rfl,aP.of (by rw [bw j8];exact sl),h5 i5 xw,?_⟩;have gb:(upd ay a (.lst [.int (cD / ((ns.map V.int).length:Int))])) l=some (.lst (xs.map V.int)):=by rw [bw ij.symm];exact dQ
   have uj:m.toNat<xs.length:=by omega
   have j7:xs[m.toNat]?=some xs[m.toNat]:=bz uj;have DA:(xs.map V.int)[m.toNat]?=some (.int xs[m.toNat]):=by rw [c9,j7];rfl
   refine ⟨_,rfl,_,rfl,l,_,_,_,rfl,rfl,aQ.of gb,h5 m0 DA,_,_,rfl,rfl,_,rfl,_,rfl,l,_,_,_,rfl,rfl,gb,qd m0 (by rw [a6,ae];omega),?_⟩;refine ⟨cD / ((ns.map V.int).length:Int),xs.set m.toNat (xs[m.toNat] - 1),_,_,t1,bx,rfl,?_,?_,?_,?_,?_,?_,F1 pH m0 Cb⟩
   ·intro c o hD e;rw [bw (bT e wW),bw hD];exact c0 c o hD e
   ·rw [bw ij,bK]
   ·rw [bK,k3]
   ·rw [jI];exact ae
   ·exact et (aav j7) bM
   ·exact et (abP j7) .ab
  clear pH bM hd ae dQ hF c0;rintro σ ay ⟨cD,xs,u,v,t1,bx,rfl,c0,hF,dQ,ae,bM,hd,pH⟩;have l8:(downs xs).sum<=3:=by omega
  refine ⟨_,rfl,l,rfl,⟨_,aQ.of dQ⟩,λ D aT=>BE (xs:=xs.map V.int) (f:=pN) rfl (by rw [a6,ae];decide) aT (aQ.of dQ) ?_ ⟨D,_,rfl,.inl ⟨aQ.of bK,λ t aW=>?_⟩⟩⟩
  ·intro x H' R j7 r;obtain ⟨j,_,rfl⟩:=dz.mp j7;exact ⟨_,rfl,_,_,rfl,r⟩
  have fE:(upd (upd ay D (.lst ((xs.map V.int).map pN))) t (.tup ((xs.map V.int).map pN))) l=some (.lst (xs.map V.int)):=(aB.more (aB.new aT) aW) _ _ dQ;refine ⟨_,rfl,l,rfl,⟨_,aQ.of fE⟩,λ BO b7=>BE (xs:=xs.map V.int) (f:=uv) rfl (by rw [a6,ae];decide) b7 (aQ.of fE) ?_ ⟨BO,_,rfl,.inl ⟨aQ.of bK,λ t' j6=>?_⟩⟩⟩
  ·intro x H' R j7 r;obtain ⟨j,_,rfl⟩:=dz.mp j7;exact ⟨_,rfl,_,_,rfl,rfl,_,_,rfl,r⟩
  have s4:aB ay (upd (upd (upd (upd ay D (.lst ((xs.map V.int).map pN))) t (.tup ((xs.map V.int).map pN))) BO (.lst ((xs.map V.int).map uv))) t' (.tup ((xs.map V.int).map uv))):=aB.more (aB.more (aB.more (aB.new aT) aW) b7) j6;have Th:(upd (upd (upd (upd ay D (.lst ((xs.map V.int).map pN))) t (.tup ((xs.map V.int).map pN))) BO (.lst ((xs.map V.int).map uv))) t' (.tup ((xs.map V.int).map uv))) t=some (.tup ((xs.map V.int).map pN)):=(aB.more (aB.new b7) j6) _ _ bK;refine ⟨_,rfl,t,xs.map λ x=>if x > 0 then x else 0,rfl,?_,by rw [a6];exact ae,?_,λ bj s5=>⟨_,rfl,t',xs.map λ x=>if 0 - x > 0 then 0 - x else 0,rfl,?_,by rw [a6];exact ae,?_,λ cY bI=>⟨dG,λ p ao=>?_⟩⟩⟩
  ·rw [<-Yf];exact aP.of Th
  ·intro e he;obtain ⟨x,j7,rfl⟩:=dz.mp he;have:=GR (Fd (f:=Int.toNat) j7);have aD:(xs.map Int.toNat).sum<=3:=bM;split<;>omega
  ·rw [<-Yg];exact aP.of (s5 _ _ bK)
  ·intro e he;obtain ⟨x,j7,rfl⟩:=dz.mp he;have:=GR (Fd (f:=λ x:Int=>(-x).toNat) j7);have aD:(xs.map λ x:Int=>(-x).toNat).sum<=3:=l8;split<;>omega
  ·have JO:aB ay cY:=(s4.trans s5).trans bI;refine q p _ cD _ _ ((c0.trans (b6.of JO)).new ao) ?_ bK ?_
   ·exact (aB.new ao) _ _ (JO _ _ hF)
   ·rw [XO,Zr];exact ⟨xs,ae,.ab,l8,pH,rfl,rfl⟩
noncomputable def qc (ns:aw) (H:aA) (x:V):Prop := ∃ (c:Addr) (i j:Int),x=.ref c/\H c=some (.tup [.int i,.int j])/\ze ns i j
theorem qc.hP {x:V} (a:Addr) (n:Int) (h:qc ns H x) (au:H a=some (.lst [.int n])) (c0:b6 a H H'):qc ns H' x:=by
 obtain ⟨c,i,j,rfl,aj,f⟩:=h;exact ⟨c,i,j,rfl,c0 c _ (gY aj au nofun) aj,f⟩
noncomputable def Py:b9:=λ ag H Q _ => ∃ (a b:Addr) (n most:Int) (ns:aw),ag=[.ref a,.ref b,.int most]/\H a=some (.lst [.int n])/\H b=some (.tup (ns.map V.int))/\1<=ns.length/\ns.length<=10/\(∀ m∈ns,0<=m/\m<10)/\1<=most/\most<=16 /\
 ∀ (p:Addr) (H':aA) (cD:Int) (xs:bB),b6 a H H'->H' a=some (.lst [.int cD])->H' p=some (.tup xs)->1<=xs.length->(xs.length:Int)<=most->(∀ x∈xs,qc ns H' x)->Q (.ref p) H'
theorem adb (T:cv K ax):cz P w ax base b_ 4 T.OQ Py:=by
 refine T.OQ.fn.cA Pu (λ ag H Q E h=>?_) (λ bt A outer s H ag Q E av h=>?_)
 ·obtain ⟨a,b,n,most,ns,rfl,_⟩:=h;rfl
 ·obtain ⟨a,b,n,most,ns,rfl,au,af,zF,uk,hm,gy,jT,q⟩:=h;refine ⟨_,(a5 (bJ (iu yL T.h7 h6 (ak (fx (dC Pu (N:=["k", "pot", "places"]) (js:=[none,some 0,some 1]) (e6.mpr ⟨rfl,(e6.mpr ⟨rfl,(d3 _)⟩)⟩)) rfl (iz rfl T.hR (ak (bZ eR aX (bf (qs T) av bb (ak (aa 0) (ak (aa 2) aC)))) aC)) (λ _ _ _ _=>ed) (λ _ _ _ _=>eD)
     (λ _ _ _ _=>(bf (adL T) av bb (ak (aa 1) (ak (aa 2) aC))))) aC)))),?_⟩
  have j8:b≠a:=gY af au nofun;have i5:=rC n (show most≠0 by omega);have g1:=rD n (show 0<most by omega);refine ⟨_,rfl,_,rfl,a,n,most,rfl,au,.ab,.ab,_,_,rfl,rfl,_,rfl,.ab,.ab,λ D aT=>?_⟩;have zS:D≠a:=λ z=>by rw [z,bK] at aT;cases aT
  have So:H D=none:=by rw [bw zS] at aT;exact aT
  refine GN (n:=(1+n % most).toNat) (by rw [cW];omega) (λ i σ' H' ys=>(∃ (u:cq) (cD:Int),σ'=[u,some (.ref a),some (.ref b)]/\H' a=some (.lst [.int cD]))/\b6 a H H' /\ ∀ y∈ys,qc ns H' y) ⟨⟨none,n / most,rfl,by rw [bw zS.symm,bK]⟩,(b6.upd).new aT,λ y a8=>absurd a8 .zs⟩ ?_ ?_
  ·rintro i σ' H' ys R aq b7 eW ⟨⟨u,cD,rfl,lr⟩,c0,a8⟩ k;have fD:=c0 b _ j8 af;refine ⟨_,rfl,_,rfl,a,b,cD,ns,rfl,lr,fD,zF,uk,hm,λ p aO hU B9 QN CK kN pI f4=>?_⟩;have ig:aO D=some (.lst ys):=CK D _ zS b7;have d5 : ∀ c o,c≠D->aO c=some o->(upd aO D (.lst (ys++[V.ref p]))) c=some o:=λ c o hD e=>by rw [bw hD];exact e
   have TY:p≠D:=gY pI ig nofun;refine k _ _ _ ig ⟨⟨_,hU,rfl,d5 _ _ zS.symm kN⟩,?_,?_⟩
   ·intro c o hD e;exact d5 c o (bT e So) (CK c o hD (c0 c o hD e))
   ·intro y Tz;rcases iX.mp Tz with z | z
    ·obtain ⟨c,kv,hp,rfl,aj,f⟩:=qc.hP a cD (a8 y z) lr CK;exact ⟨c,kv,hp,rfl,d5 _ _ (gY aj ig nofun) aj,f⟩
    ·rw [ix] at z;subst z;exact ⟨p,B9,QN,rfl,d5 _ _ TY pI,f4⟩
  ·rintro σ' H' ys b7 eW ⟨⟨u,cD,rfl,lr⟩,c0,a8⟩;refine ⟨D,_,rfl,.inl ⟨aQ.of b7,λ p ao=>?_⟩⟩;refine q p _ cD ys (c0.new ao) ((aB.new ao) _ _ lr) bK (by rw [eW];omega) (by rw [eW];omega) λ x ae=>?_
   obtain ⟨c,kv,hp,rfl,aj,f⟩:=a8 x ae;exact ⟨c,kv,hp,rfl,(aB.new ao) _ _ aj,f⟩
noncomputable def acg:b9:=λ ag H Q _ => ∃ (a:Addr) (n j0:Int),ag=[.ref a,.int j0]/\H a=some (.lst [.int n])/\0<j0/\j0<1073741824 /\
 ∀ (r cD:Int) (H':aA),0<=r->r<j0->b6 a H H'->H' a=some (.lst [.int cD])->Q (.int r) H'
theorem rN (T:cv K ax):cz P w ax base b_ 1 T.FT acg :=
 (qs T).imp λ ag H Q E ⟨a,n,j0,e,au,h0,I,q⟩=>⟨a,n,j0,e,au,h0,I,q _ (n / j0) _ (rC n .ab) (rD n h0) b6.upd bK⟩
noncomputable def abm:b9:=λ ag H Q _ => ∃ (a b:Addr) (n most:Int) (ns:aw),ag=[.ref a,.ref b,.int most]/\H a=some (.lst [.int n])/\H b=some (.tup (ns.map V.int))/\ns.length<=10/\(∀ m∈ns,0<=m/\m<10)/\0<=most/\most<=1000000 /\
 ∀ (p:Addr) (H':aA) (cD:Int) (es:aw),b6 a H H'->H' a=some (.lst [.int cD])->H' p=some (.tup (es.map V.int))->es.length=10->(∀ e∈es,0<=e/\e<=most)->Q (.ref p) H'
theorem mem_set {α: Type} {xs:List α} {i:Nat} {v x: α} (h:x∈xs.set i v):x=v\/x∈xs:=(rE h).elim .inr .inl
theorem aa_ (T:cv K ax):cz P w ax base b_ 2 T.Mz abm:=by
 refine T.Mz.fn.cA GG (λ ag H Q E h=>?_) (λ bt A outer s H ag Q E av h=>?_)
 ·obtain ⟨a,b,n,most,ns,rfl,_⟩:=h;rfl
 ·obtain ⟨a,b,n,most,ns,rfl,au,af,az,hm,m0,hT,q⟩:=h;refine ⟨_,(aV (bP 3 GG (bZ vo (jK (ak aX aC)) aX))
   (aV (eB dZ rfl (kZ (aa 1)) (c_ 4 GG)
    (a5 (nA (bf (rN T) av bb (ak (aa 0) (ak (bZ eR (aa 2) aX) aC))) (qg (aa 3) (aa 4) set_list))))
   (aV (dJ (c6 h1 (bf (rN T) av bb (ak (aa 0) (ak aX aC))) aX (cB _))
    (a5 (nA (bf (rN T) av bb (ak (aa 0) (ak (bZ eR (aa 2) aX) aC))) (qg (aa 3) (bf (rN T) av bb (ak (aa 0) (ak aX aC))) set_list)))
    dM)
   (a5 (bJ (iu mJ T.h7 h6 (ak (aa 3) aC))))))),?_⟩
  have j8:b≠a:=gY af au nofun;refine ⟨dG,λ iF H1 f1 s1 m1=>⟨iF,10,_,rfl,rfl,m1,.aG,.aG,.aG,λ l ay f2 s2 ar=>?_⟩⟩;have ij:a≠l:=bT (s1 _ _ au) f2;have wW:H l=none:=s1.free f2;refine ⟨_,rfl,b,rfl,⟨_,aP.of (s2 _ _ (s1 _ _ af))⟩,Fw (xs:=ns.map V.int) (λ i σ aM => ∃ (cD:Int) (es:aw) (u:cq),σ=[some (.ref a),some (.ref b),some (.int most),some (.ref l),u]/\b6 a H aM/\aM a=some (.lst [.int cD])/\aM l=some (.lst (es.map V.int))/\es.length=10 /\ ∀ e∈es,0<=e/\e<=most)
   ⟨n,List.replicate 10 0,none,rfl,b6.of (s1.trans s2),s2 _ _ (s1 _ _ au),ar,rfl,λ e he=>by rw [(yb.mp he).2];omega⟩ (λ i σ aM _ ⟨_,_,_,_,c0,_⟩=>aP.of (c0 _ _ j8 af)) ?_ ?_⟩
  ·rintro i x σ aM ae ⟨cD,es,u,rfl,c0,qQ,gb,he,ot⟩;obtain ⟨m,rfl,S4⟩:=iA ae;obtain ⟨QO,gy⟩:=hm m (cf S4);refine ⟨_,rfl,_,rfl,_,_,rfl,rfl,a,cD,_,rfl,qQ,.ab,.ab,λ r d0 aO Ib bV gK kN=>?_⟩;refine ⟨_,rfl,_,rfl,l,_,_,_,rfl,rfl,gK _ _ ij.symm gb,qd QO (by rw [a6,he];omega),⟨d0,es.set m.toNat r,_,rfl,?_,?_,?_,?_,?_⟩⟩
   ·intro c o hD e;rw [bw (bT e wW)];exact gK c o hD (c0 c o hD e)
   ·rw [bw ij];exact kN
   ·rw [bK,k3]
   ·rw [jI];exact he
   ·intro e Dl;rcases mem_set Dl with z | z
    ·rw [z];omega
    ·exact ot e z
  rintro σ aM ⟨cD,es,u,rfl,c0,qQ,gb,he,ot⟩;have fin : ∀ (bj:aA) (ib:Int) (og:aw),b6 a H bj->bj a=some (.lst [.int ib])->bj l=some (.lst (og.map V.int))->og.length=10->(∀ e∈og,0<=e/\e<=most) -> ∀ p H',bj p=none->aB bj H'->H' p=some (.tup (og.map V.int))->Q (.ref p) H' :=
   λ bj ib og CL oi ow C7 U4 p H' a3 sp ao=>q p H' ib og (CL.trans (b6.of sp)) (sp _ _ oi) ao C7 U4
  refine ⟨_,rfl,a,cD,6,rfl,qQ,.aG,.aG,λ r d0 aO Ib bV gK kN=>⟨rfl,_,rfl,hx (λ _=>?_) (λ _=>?_)⟩⟩
  ·refine ⟨_,rfl,_,rfl,_,_,rfl,rfl,a,d0,_,rfl,kN,.ab,.ab,λ fq e9 bj JH afv d8 oi=>?_⟩;refine ⟨_,rfl,_,rfl,a,e9,10,rfl,oi,.aG,.aG,λ gn hU cY Ua afw gL SE=>?_⟩;have sC:cY l=some (.lst (es.map V.int)):=gL _ _ ij.symm (d8 _ _ ij.symm (gK _ _ ij.symm gb));refine ⟨l,_,_,_,rfl,rfl,sC,qd Ua (by rw [a6,he];omega),?_⟩;refine ⟨_,rfl,l,_,rfl,aQ.of bK,?_⟩;rw [<-k3];refine fin _ hU (es.set gn.toNat fq) ?_ ?_ ?_ ?_ ?_
   ·intro c o hD e;rw [bw (bT e wW)];exact gL c o hD (d8 c o hD (gK c o hD (c0 c o hD e)))
   ·rw [bw ij];exact SE
   ·rw [bK]
   ·rw [jI];exact he
   ·intro e Dl;rcases mem_set Dl with z | z
    ·rw [z];omega
    ·exact ot e z
  ·have fE:aO l=some (.lst (es.map V.int)):=gK _ _ ij.symm gb;exact ⟨_,rfl,l,_,rfl,aQ.of fE,fin aO d0 es (c0.trans gK) kN fE he ot⟩
noncomputable def jn (es:aw):fy:=.lst (es.map V.int)
noncomputable def aal:b9:=λ ag H Q _ => ∃ v,ag=[v]/\oP H v/\Q (.aH (mc v)) H
theorem Bz (T:cv K ax):cz P w ax base b_ 1 T.Oo aal:=by
 refine T.Oo.fn.cA acH (λ ag H Q E h=>?_) (λ bt A outer s H ag Q E av h=>?_)
 ·obtain ⟨v,rfl,_⟩:=h;rfl
 ·obtain ⟨v,rfl,k,q⟩:=h;refine ⟨_,(a5 (bJ (te (cK yn T.yJ yI (ak (aa 0) (ak (xQ (by rfl) T.Wc VU) aC))) (uY (Xy (cK yn T.yJ yI (ak (aa 0) (ak (xQ (by rfl) T.W3 WH) aC)))))))),?_⟩;obtain ⟨t,ty,e⟩:=V_ (K:=K) k;obtain ⟨t',Up,bF⟩:=V9 (K:=K) k;rw [<-WU] at q;refine ⟨v,rfl,v, "int", t,_,rfl,ty,e,_,rfl,?_⟩;cases aq:DC v with
  | false =>
   rw [aq] at q;exact dn q
  | true =>
   rw [aq] at q;exact ea ⟨v,rfl,v, "bool", t',_,rfl,Up,bF,_,rfl,q⟩
noncomputable def natAt (σ:St) (i:Nat):Nat:=match σ[i]? with
 | some (some (.int r))=>r.toNat
 | _=>0
theorem A8 {i j:Int} (h:decide (V.int i=V.int j)=true):i=j:=by
 have:=fY h;injection this
theorem Fx {i j:Int} (h : ¬ decide (V.int i=V.int j)=true):i≠j:=λ z=>h (cX (by rw [z]))
theorem acQ : ∀ (ps:bo) (i p n:Nat),ps[i]?=some p->lH (ps.take (i+1)) n=strip p (lH (ps.take i) n):=by
 intro ps i p n h;unfold lH;rw [eC,h,qk];rfl
noncomputable def aev:b9:=λ ag H Q _ => ∃ m:Int,ag=[.int m]/\1<=m/\Q (.int (tC m.toNat:Nat)) H
theorem aet (T:cv K ax):cz P w ax base b_ 1 T.P6 aev:=by
 refine T.P6.fn.cA BK (λ ag H Q E h=>?_) (λ bt A outer s H ag Q E av h=>?_)
 ·obtain ⟨m,rfl,_⟩:=h;rfl
 ·obtain ⟨m,rfl,hm,q⟩:=h;refine ⟨_,(aV (bP 1 BK (aa 0))
   (aV (eB dZ rfl (kZ (nL (v:=.ref T.gs) (by rfl) T.lR rfl)) (c_ 2 BK)
    (a5 (vp dZ (c6 h1 (bZ qe (aa 1) (aa 2)) aX (cB _))
    (a5 (bP 1 BK (bZ Ba (aa 1) (aa 2)))))))
   (a5 (bJ (aa 1))))),?_⟩
  refine ⟨_,rfl,T.gs,rfl,⟨hj,T.jL H⟩,Fw (xs:=hj) (λ i σ ay=>(∃ u:cq,σ=[some (.int m),some (.int (lH (dK.take i) m.toNat:Nat)),u])/\ay=H) ⟨⟨none,?_⟩,rfl⟩ (λ i σ ay _ _=>T.jL ay) ?_ ?_⟩
  ·show [some (V.int m),some (V.int m),none]=_;rw [show lH (dK.take 0) m.toNat=m.toNat from rfl,qh .ab]
  ·rintro i x σ ay ae ⟨⟨u,rfl⟩,rfl⟩;obtain ⟨p,rfl,ao,xy⟩:=tL ae;have fV:2<=p:=nB p (cf ao);have xA:1<=lH (dK.take i) m.toNat:=OG _ (λ r av=>nB r (qm av)) _ .ab;refine yC (λ σ aM => ∃ r:Nat,σ=[some (.int m),some (.int (r:Int)),some (.int (p:Int))]/\1<=r/\strip p r=strip p (lH (dK.take i) m.toNat)/\aM=ay) (λ σ _=>natAt σ 1) ⟨_,rfl,xA,rfl,rfl⟩ ?_;rintro σ aM ⟨r,rfl,gc,kP,rfl⟩;refine ⟨_,rfl,_,rfl,_,_,rfl,rfl,(by show (0:Int)<p;omega),rfl,_,rfl,hx (λ h=>?_) (λ h=>?_)⟩
   ·have h0:(r:Int) % (p:Int)=0:=A8 h;have pz:r % p=0:=by omega
    refine xp ⟨_,rfl,_,rfl,_,_,rfl,rfl,⟨.ab,.ab⟩,?_⟩;refine ⟨⟨r / p,?_,yD gc pz,by rw [<-yz fV gc pz];exact kP,rfl⟩,?_⟩
    ·rw [Int.natCast_ediv];rfl
    ·show ((r:Int) / (p:Int)).toNat<((r:Int)).toNat;rw [<-Int.natCast_ediv,dY,dY];exact qi gc fV
   ·have h0 : ¬ (r:Int) % (p:Int)=0:=Fx h;have pz:r % p≠0:=by omega
    refine ⟨⟨some (.int (p:Int)),?_⟩,rfl⟩;rw [acQ dK i p _ ao,<-kP,tG pz]
  ·rintro σ ay ⟨⟨u,rfl⟩,rfl⟩;exact ⟨_,rfl,q⟩
noncomputable def adq:b9:=λ ag H Q _ => ∃ (p:Nat) (m:Int),ag=[.int (p:Int),.int m]/\2<=p/\p<30/\1<=m/\Q (.int (cnt p m.toNat:Nat)) H
theorem ac9 (T:cv K ax):cz P w ax base b_ 1 T.ON adq:=by
 refine T.ON.fn.cA yK (λ ag H Q E h=>?_) (λ bt A outer s H ag Q E av h=>?_)
 ·obtain ⟨p,m,rfl,_⟩:=h;rfl
 ·obtain ⟨p,m,rfl,fV,xy,hm,q⟩:=h;refine ⟨_,(aV (bP 2 yK aX)
   (aV (bP 3 yK (aa 1))
   (aV (vp dZ (c6 h1 (bZ qe (aa 3) (aa 0)) aX (cB _))
    (aV (bP 3 yK (bZ Ba (aa 3) (aa 0)))
   (a5 (bP 2 yK (bZ eR (aa 2) aX)))))
   (a5 (bJ (aa 2)))))),?_⟩
  refine ⟨_,rfl,?_⟩;refine yC (λ σ aM => ∃ o r:Nat,σ=[some (.int (p:Int)),some (.int m),some (.int (o:Int)),some (.int (r:Int))]/\1<=r/\o+cnt p r=cnt p m.toNat/\aM=H) (λ σ _=>natAt σ 3) ⟨0,m.toNat,by rw [qh .ab];rfl,.ab,rx _,rfl⟩ ?_;rintro σ aM ⟨o,r,rfl,gc,oB,rfl⟩;refine ⟨_,rfl,_,rfl,_,_,rfl,rfl,(by show (0:Int)<p;omega),rfl,_,rfl,hx (λ h=>?_) (λ h=>?_)⟩
  ·have h0:(r:Int) % (p:Int)=0:=A8 h;have pz:r % p=0:=by omega
   refine xp ⟨_,rfl,_,rfl,_,_,rfl,rfl,⟨.ab,.ab⟩,_,rfl,_,_,rfl,rfl,?_⟩;refine ⟨⟨o+1,r / p,?_,yD gc pz,by rw [Fn fV gc pz] at oB;omega,rfl⟩,?_⟩
   ·rw [Int.natCast_ediv,Int.natCast_add];rfl
   ·show ((r:Int) / (p:Int)).toNat<((r:Int)).toNat;rw [<-Int.natCast_ediv,dY,dY];exact qi gc fV
  ·have h0 : ¬ (r:Int) % (p:Int)=0:=Fx h;have pz:r % p≠0:=by omega
   rw [ye pz,Nat.add_zero] at oB;subst oB;exact ⟨_,rfl,q⟩
noncomputable def adx:b9:=λ ag H Q _ => ∃ i:Int,ag=[.int i]/\1<=i/\tC i.toNat=1 /\ ∀ p H',aB H H'->H' p=some (tupI (bu (bH i.toNat)))->Q (.ref p) H'
theorem BB (T:cv K ax):cz P w ax base b_ 2 T.OT adx:=by
 refine T.OT.fn.cA Px (λ ag H Q E h=>?_) (λ bt A outer s H ag Q E av h=>?_)
 ·obtain ⟨i,rfl,_⟩:=h;rfl
 ·obtain ⟨i,rfl,I,aS,q⟩:=h;refine ⟨_,(aV (dJ (i3.pt (oR (lG (k0 (bf (Bz T) av bb (ak (aa 0) aC)))) (oR (c6 nj (aa 0) aX (cB _)) (ro (c6 rd (bf (aet T) av bb (ak (aa 0) aC)) aX (cB _))))))
    (a5 yw)
    dM)
   (a5 (bJ (iu mJ T.h7 h6 (ak (fx (dC Px (N:=["prime", "number"]) (js:=[none,some 0]) (e6.mpr ⟨rfl,(d3 _)⟩)) rfl (kZ (nL (v:=.ref T.gs) (by rfl) T.lR rfl)) (λ _ _ _ _=>ed) (λ _ _ _ _=>eD)
     (λ _ _ _ _=>(bf (ac9 T) av bb (ak (aa 0) (ak (aa 1) aC))))) aC))))),?_⟩
  refine ⟨_,rfl,_,rfl,trivial,_,rfl,dn ?_⟩;refine ⟨_,rfl,_,_,rfl,rfl,_,rfl,?_⟩;rw [ee (show ¬ i<1 by omega)];refine dn ⟨_,rfl,i,rfl,I,rfl,_,rfl,?_⟩;rw [aS];refine dn ?_;refine ⟨T.gs,rfl,⟨hj,T.jL H⟩,λ D aT=>Pn (xs:=hj) (f:=λ v=>match v with | .int p=>V.int (cnt p.toNat i.toNat:Nat) | v=>v) rfl .aG aT (T.jL H) ?_ ?_⟩
  ·intro x H' R ae r;obtain ⟨z,aS⟩:=gk ae;obtain ⟨p,rfl,ao,xy⟩:=tL aS;have fV:2<=p:=nB p (cf ao);refine ⟨_,rfl,_,rfl,p,i,rfl,fV,xy,.ab,?_⟩;have cu:R (V.int (cnt ((p:Int).toNat) i.toNat:Nat)) H':=r;rw [dY] at cu;exact cu
  ·refine ⟨D,_,rfl,aQ.of bK,λ p H' a3 sp ao=>q p H' ((aB.new aT).trans sp) ?_⟩;rw [ao];rfl
theorem Zb (n d:Nat):List.zipWith (λ x y:Int=>x - y) (bu (bH n)) (bu (bH d))=chg n d:=by
 unfold bu chg;rw [List.zipWith_map]
noncomputable def aeA:b9:=λ ag H Q _ => ∃ (b:Addr) (i j:Int),ag=[.ref b]/\H b=some (.tup [.int i,.int j])/\kU i j=true /\ ∀ p H',aB H H'->H' p=some (tupI (chg i.toNat j.toNat))->Q (.ref p) H'
theorem aez (T:cv K ax):cz P w ax base b_ 3 T.Qe aeA:=by
 refine T.Qe.fn.cA BM (λ ag H Q E h=>?_) (λ bt A outer s H ag Q E av h=>?_)
 ·obtain ⟨b,i,j,rfl,_⟩:=h;rfl
 ·obtain ⟨b,i,j,rfl,af,hf,q⟩:=h;refine ⟨_,(aV (bP 1 BM (bf (BB T) av bb (ak (cP fP (aa 0) aX (λ _ _=>rfl)) aC)))
   (aV (bP 2 BM (bf (BB T) av bb (ak (cP fP (aa 0) aX (λ _ _=>rfl)) aC)))
   (a5 (bJ (iu mJ T.h7 h6 (ak (fx (dC BM (N:=["top", "bottom"]) (js:=[none,none]) (d3 _)) rfl (tf rfl rfl T.ki (ak (aa 1) (ak (aa 2) aC))) (λ _ _ _ _=>(i1 (K:=K) (n:=2) rfl rfl (cQ ed (cQ (g7 (i:=1) (show List.Nodup (["top", "bottom"]:cE) from by decide +kernel) rfl (Or.inl rfl) (Or.inr rfl)) fm)))) (λ _ _ _ _=>eD)
     (λ _ _ _ _=>(bZ nz (aa 0) (aa 1)))) aC)))))),?_⟩
  obtain ⟨⟨gx,i7⟩,⟨dq,dU⟩⟩:=vD hf;refine ⟨_,rfl,b,_,_,_,rfl,rfl,aP.of af,rfl,i,rfl,gx,i7,λ p1 H1 s1 jC=>?_⟩;refine ⟨_,rfl,b,_,_,_,rfl,rfl,aP.of (s1 _ _ af),rfl,j,rfl,dq,dU,λ cS ay s2 fV=>?_⟩;refine ⟨_,rfl,_,rfl,p1,cS,rfl,⟨_,aP.of (s2 _ _ jC)⟩,⟨_,aP.of fV⟩,λ D aT=>?_⟩;refine yM (f:=λ x y=>x - y) (σ0:=[]) (xs:=bu (bH i.toNat)) (ys:=bu (bH j.toNat)) (by simp [bu,bH,dK];decide) ⟨_,_,rfl⟩ aT (s2 _ _ jC) fV (λ x y H' R _ _ r=>⟨_,rfl,_,rfl,_,_,rfl,rfl,r⟩) λ aM s3 aD=>?_
  refine ⟨D,_,rfl,aQ.of aD,λ p aO a3 s4 ao=>q p aO (((s1.trans s2).trans s3).trans s4) ?_⟩;rw [ao,Zb]
noncomputable def adS:b9:=λ ag H Q _ => ∃ (b:Addr) (xs:bB) (ai:cx),ag=[.ref b]/\H b=some (.tup xs)/\ei H xs ai/\xs.length<=1000 /\
 ∀ l H' ys,H l=none->aB H H'->H' l=some (.lst ys)->dX H' ys (rowsOf ai)->Q (.ref l) H'
theorem lU (T:cv K ax):cz P w ax base b_ 4 T.Pd adS:=by
 refine T.Pd.fn.cA PJ (λ ag H Q E h=>?_) (λ bt A outer s H ag Q E av h=>?_)
 ·obtain ⟨b,xs,ai,rfl,_⟩:=h;rfl
 ·obtain ⟨b,xs,ai,rfl,af,hf,ar,q⟩:=h;refine ⟨_,(a5 (bJ (fx (dC PJ (N:=["fraction"]) (js:=[none]) (d3 _)) rfl (kZ (aa 0)) (λ _ _ _ _=>ed) (λ _ _ _ _=>eD)
     (λ _ _ _ _=>(bf (aez T) av bb (ak (aa 0) aC)))))),?_⟩
  refine ⟨_,rfl,b,rfl,⟨_,aP.of af⟩,λ D aT=>?_⟩;refine tA (xs:=xs) (by rw [cW];omega) (λ i σ' H' ys=>(∃ u:cq,σ'=[u])/\aB H H'/\dX H' ys ((rowsOf ai).take i)) ⟨⟨_,rfl⟩,aB.new aT,dX.nil⟩ (λ i σ' H' ys _ _ ⟨_,s',_⟩=>aP.of (s' _ _ af)) ?_ ?_
  ·rintro i x σ' H' ys R ae b7 eW ⟨⟨u,rfl⟩,s',dE⟩ df;obtain ⟨a,d,c,f1,rfl,aj,f4⟩:=hf.2 i x ae;refine ⟨_,rfl,c,a,d,rfl,s' _ _ aj,f4,λ p ay s2 ao=>?_⟩;refine df _ _ _ (s2 _ _ b7) ⟨⟨_,rfl⟩,?_,?_⟩
   ·intro e o b1;rw [bw (bT b1 aT)];exact s2 _ _ (s' _ _ b1)
   ·have aJ:(rowsOf ai)[i]?=some (chg a.toNat d.toNat):=by unfold rowsOf;rw [c9,f1];rfl
    rw [eC,aJ];exact dX.but ((dE.same s2).app (dX.one ⟨p,rfl,ao⟩)) (s2 _ _ b7) b6.upd
  ·rintro σ' H' ys b7 eW ⟨_,s',dE⟩;rw [fG (by rw [k7,<-hf.1];exact br _)] at dE;exact q D H' ys aT s' b7 dE
noncomputable def Y1:b9:=λ ag H Q _ => ∃ (a b:Addr) (cs ps:aw),ag=[.ref a,.ref b]/\H a=some (tupI cs)/\H b=some (tupI ps) /\ ∀ H',aB H H'->Q (.aH (fe cs ps)) H'
theorem X0 {cs ps:aw} {i:Nat} {a b:Int} (I:cs[i]?=some a) (ah:ps[i]?=some b) (h:b+a<0):fe cs ps=false:=by
 rw [Bool.eq_false_iff];intro z;have:=vz.mp z i a b I ah;omega
theorem Yl (T:cv K ax):cz P w ax base b_ 1 T.Le Y1:=by
 refine T.Le.fn.cA FK (λ ag H Q E h=>?_) (λ bt A outer s H ag Q E av h=>?_)
 ·obtain ⟨a,b,cs,ps,rfl,_⟩:=h;rfl
 ·obtain ⟨a,b,cs,ps,rfl,au,af,q⟩:=h;refine ⟨_,(aV (eB dZ rfl (tf rfl rfl T.ki (ak (aa 0) (ak (aa 1) aC))) (km rfl (cQ (c_ 2 FK) (cQ (c_ 3 FK) fm)))
    (a5 (dJ (c6 nj (bZ eR (aa 3) (aa 2)) aX (cB _))
    (a5 (bJ h2))
    dM)))
   (a5 (bJ h2))),?_⟩
  refine ⟨_,rfl,_,rfl,a,b,rfl,⟨_,aP.of au⟩,⟨_,aP.of af⟩,?_⟩;refine L6 (xs:=cs.map V.int) (ys:=ps.map V.int) (λ i σ ay=>(∃ u v:cq,σ=[some (.ref a),some (.ref b),u,v])/\aB H ay /\ ∀ j,j<i -> ∀ x y,cs[j]?=some x->ps[j]?=some y->0<=y+x) ⟨⟨none,none,rfl⟩,aB.refl H,λ j aY=>by omega⟩ (λ i σ ay _ ⟨_,s2,_⟩=>⟨aP.of (s2 _ _ au),aP.of (s2 _ _ af)⟩) ?_ ?_
  ·rintro i x y p σ ay ae a8 ao ⟨⟨u,v,rfl⟩,s2,gf⟩;obtain ⟨x,rfl,dF⟩:=iA ae;obtain ⟨y,rfl,ih⟩:=iA a8;refine ⟨p,_,rfl,aP.of bK,rfl,_,_,rfl,_,_,rfl,rfl,?_⟩;refine ⟨_,rfl,_,rfl,_,_,rfl,rfl,_,_,rfl,rfl,_,rfl,hx (λ h=>?_) (λ h=>?_)⟩
   ·have h0:y+x<0:=fY h;have bh:=q _ (aB.more (o:=.tup [.int x,.int y]) s2 ao);rw [X0 dF ih h0] at bh;exact bh
   ·have h0 : ¬ y+x<0:=λ z=>h (cX z)
    refine ⟨⟨_,_,rfl⟩,aB.more s2 ao,λ j aY kC oa aJ aN=>?_⟩;by_cases sA:j=i
    ·subst sA;rw [dF] at aJ;rw [ih] at aN;cases aJ;cases aN;omega
    ·exact gf j .ab kC oa aJ aN
  ·rintro σ ay ⟨⟨u,v,rfl⟩,s2,gf⟩;have bh:=q ay s2;rw [vz.mpr λ j x y aJ aN=>gf j ?_ x y aJ aN] at bh
   ·exact bh
   ·have I:=(cL.mp aJ).1;have ah:=(cL.mp aN).1;rw [a6,a6];omega
noncomputable def acK:b9:=λ ag H Q _ => ∃ (l b:Addr) (ys:bB) (rows:aZ) (ps:aw),ag=[.ref l,.ref b]/\H l=some (.lst ys)/\dX H ys rows/\H b=some (tupI ps) /\ ∀ H',aB H H'->Q (ra (dm rows ps)) H'
theorem tK (T:cv K ax):cz P w ax base b_ 2 T.Ol acK:=by
 refine T.Ol.fn.cA Hi (λ ag H Q E h=>?_) (λ bt A outer s H ag Q E av h=>?_)
 ·obtain ⟨l,b,ys,rows,ps,rfl,_⟩:=h;rfl
 ·obtain ⟨l,b,ys,rows,ps,rfl,ar,kP,af,q⟩:=h;refine ⟨_,(aV (eB dZ rfl (vi rfl rfl T.o1 (ak (aa 0) aC)) (km rfl (cQ (c_ 2 Hi) (cQ (c_ 3 Hi) fm)))
    (a5 (dJ (k0 (bf (Yl T) av bb (ak (aa 3) (ak (aa 1) aC))))
    (a5 (bJ (aa 2)))
    dM)))
   (a5 (bJ gG))),?_⟩
  refine ⟨_,rfl,l,ys,rfl,ar,?_⟩;refine Be (xs:=ys) (λ i σ ay=>(∃ u v:cq,σ=[some (.ref l),some (.ref b),u,v])/\aB H ay /\ ∀ j,j<i -> ∀ c,rows[j]?=some c->fe c ps=false) ⟨⟨none,none,rfl⟩,aB.refl H,λ j aY=>by omega⟩ (λ i σ ay _ ⟨_,s2,_⟩=>s2 _ _ ar) ?_ ?_
  ·rintro i x p σ ay ae ao ⟨⟨u,v,rfl⟩,s2,gf⟩;obtain ⟨c,a,aj,rfl,au⟩:=kP.at ae;have s3:=aB.more (o:=.tup [.int (i:Int),.ref a]) s2 ao;refine ⟨p,_,rfl,aP.of bK,rfl,_,_,rfl,_,_,rfl,rfl,?_⟩;refine ⟨_,rfl,_,rfl,a,b,c,ps,rfl,s3 _ _ au,s3 _ _ af,λ aO s4=>⟨_,rfl,hx (λ h=>?_) (λ h=>?_)⟩⟩
   ·have bh:=q aO (s3.trans s4);rw [A7 rows ps i gf (λ bG e=>by rw [aj] at e;cases e;exact h) (cL.mp aj).1] at bh;exact ⟨_,rfl,bh⟩
   ·refine ⟨⟨_,_,rfl⟩,s3.trans s4,λ j aY bG e=>?_⟩;by_cases sA:j=i
    ·subst sA;rw [aj] at e;cases e;cases z:fe c ps with
     | true=>exact absurd z h
     | false=>rfl
    ·exact gf j .ab bG e
  ·rintro σ ay ⟨⟨u,v,rfl⟩,s2,gf⟩;have bh:=q ay s2;rw [Gp rows ps λ j c e=>gf j (by rw [kP.1];exact (cL.mp e).1) c e] at bh;exact bh
noncomputable def aaj:b9:=λ ag H Q _ => ∃ (a b:Addr) (ps cs:aw) (m:Int),ag=[.ref a,.ref b,.int m]/\H a=some (tupI ps)/\H b=some (tupI cs)/\(-(2 ^ 64)<m/\m<2 ^ 64)/\ps.length<=1000 /\ ∀ p H',aB H H'->H' p=some (tupI (c7 ps cs m))->Q (.ref p) H'
theorem tB (T:cv K ax):cz P w ax base b_ 1 T.LM aaj:=by
 refine T.LM.fn.cA Nj (λ ag H Q E h=>?_) (λ bt A outer s H ag Q E av h=>?_)
 ·obtain ⟨a,b,ps,cs,m,rfl,_⟩:=h;rfl
 ·obtain ⟨a,b,ps,cs,m,rfl,au,af,hm,ar,q⟩:=h;refine ⟨_,(a5 (bJ (iu mJ T.h7 h6 (ak (fx (dC Nj (N:=["power", "change", "many"]) (js:=[none,none,some 2]) (e6.mpr ⟨rfl,(d3 _)⟩)) rfl (tf rfl rfl T.ki (ak (aa 0) (ak (aa 1) aC))) (λ _ _ _ _=>(i1 (K:=K) (n:=2) rfl rfl (cQ ed (cQ (g7 (i:=1) (show List.Nodup (["power", "change", "many"]:cE) from by decide +kernel) rfl (Or.inl rfl) (Or.inr rfl)) fm)))) (λ _ _ _ _=>eD)
     (λ _ _ _ _=>(bZ eR (aa 0) (bZ rn (aa 2) (aa 1))))) aC)))),?_⟩
  refine ⟨_,rfl,_,rfl,a,b,rfl,⟨_,aP.of au⟩,⟨_,aP.of af⟩,λ D aT=>?_⟩;refine yM (f:=λ x y=>x+m * y) (σ0:=[some (.int m)]) (xs:=ps) (ys:=cs) (by rw [cW];omega) ⟨_,_,rfl⟩ aT au af (λ x y H' R _ _ r=>⟨_,rfl,_,rfl,_,rfl,_,_,rfl,rfl,.inl hm,_,_,rfl,rfl,r⟩) λ aM s3 aD=>?_
  exact ⟨D,_,rfl,aQ.of aD,λ p aO a3 s4 ao=>q p aO (s3.trans s4) ao⟩
noncomputable def Az (H:aA) (a:Addr):Nat:=match H a with
 | some (.lst xs)=>xs.length
 | _=>0
noncomputable def aak:b9:=λ ag H Q _ => ∃ (b a:Addr) (xs:bB) (ai:cx) (ps:aw) (m:Int),ag=[.ref b,.ref a,.int m]/\H b=some (.tup xs)/\ei H xs ai/\xs.length<=1000/\H a=some (tupI ps)/\ps.length=10/\0<=m/\m<=1000 /\
 ∀ bh H',H bh=none->aB H H'->H' bh=some (.lst ((bu (ep (rowsOf ai) m.toNat ps)).map V.int))->Q (.ref bh) H'
theorem M4 (T:cv K ax):cz P w ax base b_ 5 T.LN aak:=by
 refine T.LN.fn.cA vs (λ ag H Q E h=>?_) (λ bt A outer s H ag Q E av h=>?_)
 ·obtain ⟨b,a,xs,ai,ps,m,rfl,_⟩:=h;rfl
 ·obtain ⟨b,a,xs,ai,ps,m,rfl,af,hf,ar,au,jm,m0,vZ,q⟩:=h;refine ⟨_,(aV (bP 3 vs (bf (lU T) av bb (ak (aa 0) aC)))
   (aV (bP 4 vs (aa 1))
   (aV (bP 5 vs (jK aC))
   (aV (vp dZ (c6 nj (cK ew T.ec eb (ak (aa 5) aC)) (aa 2) (cB _))
    (aV (bP 6 vs (bf (tK T) av bb (ak (aa 3) (ak (aa 4) aC))))
   (aV (dJ (c6 rm (aa 6) gG (cB _))
    (a5 (bJ (aa 5)))
    dM)
   (aV (lP (lC lL oX oY oZ (aa 5) (ak (aa 6) aC)))
   (a5 (bP 4 vs (bf (tB T) av bb (ak (aa 4) (ak (cP f3 (aa 3) (aa 6) (λ _ _=>rfl)) (ak aX aC))))))))))
   (a5 (bJ (aa 5))))))),?_⟩
  refine ⟨_,rfl,b,xs,ai,rfl,af,hf,ar,λ l H1 ys gN s1 fU gc=>?_⟩;refine ⟨_,rfl,dG,λ e_ ay f2 s2 Tn=>?_⟩;refine yC (λ σ aM => ∃ (r:Addr) (ws:bo) (cur:aw) (v:cq),σ=[some (.ref b),some (.ref a),some (.int m),some (.ref l),some (.ref r),some (.ref e_),v]/\aB H1 aM/\aM e_=some (.lst ((bu ws).map V.int))/\aM r=some (tupI cur)/\cur.length=10/\ws.length<=m.toNat/\ws++ep (rowsOf ai) (m.toNat - ws.length) cur=ep (rowsOf ai) m.toNat ps)
   (λ _ aM=>m.toNat - Az aM e_) ⟨a,[],ps,none,rfl,s2,Tn,s2 _ _ (s1 _ _ au),jm,fk _,rfl⟩ ?_
  rintro σ aM ⟨r,ws,cur,v,rfl,s3,qV,j5,jb,mb,ly⟩;have Je:(((bu ws).map V.int).length:Int)=(ws.length:Int):=by rw [a6];unfold bu;rw [a6]
  refine ⟨_,rfl,e_,_,rfl,.inl (aQ.of qV),_,rfl,_,_,rfl,rfl,_,rfl,hx (λ h=>?_) (λ h=>?_)⟩
  ·have h0:(((bu ws).map V.int).length:Int)<m:=fY h;rw [Je] at h0;obtain ⟨d,hd⟩ : ∃ d,m.toNat - ws.length=d+1:=⟨m.toNat - ws.length - 1,.ab⟩
   refine xp ⟨_,rfl,_,rfl,l,r,ys,rowsOf ai,cur,rfl,s3 _ _ fU,gc.same s3,j5,λ aO s4=>?_⟩;cases hN:dm (rowsOf ai) cur with
   | none =>
    refine ⟨_,rfl,rfl,_,rfl,ea ⟨_,rfl,?_⟩⟩;rw [vu hN,mx] at ly;rw [<-ly] at q;exact q e_ aO (s1.free f2) ((s1.trans s3).trans s4) (s4 _ _ qV)
   | some k =>
    obtain ⟨c,aj,_,aE⟩:=mG hN;obtain ⟨x,e,ae,rfl,he⟩:=(gc.same s3).of aj;refine ⟨_,rfl,rfl,_,rfl,dn ⟨_,rfl,.inl ⟨rfl,_,aQ.of (s4 _ _ qV)⟩,_,rfl,e_,_,_,rfl,rfl,s4 _ _ qV,?_,λ bj d8 cp=>?_⟩⟩
    ·rw [a6];unfold bu;rw [a6,cW];omega
    have d5 : ∀ c o,H1 c=some o->bj c=some o:=λ c o b1=>d8 c o (λ z=>by rw [z,f2] at b1;cases b1) (s4 _ _ (s3 _ _ b1))
    have T3:r≠e_:=gY j5 qV nofun;have TS:e≠e_:=gY he qV nofun;have C7:bj e=some (tupI c):=d8 _ _ TS (s4 _ _ he);refine ⟨_,rfl,_,rfl,_,rfl,l,_,_,_,rfl,rfl,aQ.of (d5 _ _ fU),h5 (lK k) (by rw [dY];exact ae),r,e,cur,c,1,rfl,d8 _ _ T3 (s4 _ _ j5),C7,⟨.aG,.aG⟩,.ab,λ p cY bI qS=>?_⟩;refine ⟨⟨p,ws++[k],c7 cur c 1,_,rfl,?_,?_,qS,jM jb (nQ ai c (cf aj)),by rw [cJ];show ws.length+1<=_;omega,?_⟩,?_⟩
    ·exact λ c o b1=>bI _ _ (d5 c o b1)
    ·rw [bI _ _ cp];unfold bu;rw [ej,ej];rfl
    ·rw [hd,vv hN aj] at ly;rw [cJ,show m.toNat - (ws.length + [k].length)=d by show m.toNat - (ws.length+1)=d;omega,lI];exact ly
    ·show m.toNat - Az cY e_<m.toNat - Az aM e_;unfold Az;rw [bI _ _ cp,qV];show m.toNat - ((bu ws).map V.int++[V.int (k:Int)]).length<m.toNat - ((bu ws).map V.int).length;have:((bu ws).map V.int).length=ws.length:=by rw [a6];unfold bu;rw [a6]
     rw [cJ,this];show m.toNat - (ws.length+1)<m.toNat - ws.length;omega
  ·have h0 : ¬ (((bu ws).map V.int).length:Int)<m:=λ z=>h (cX z)
   rw [Je] at h0;rw [show m.toNat - ws.length=0 by omega] at ly;have Ea:ws=ep (rowsOf ai) m.toNat ps:=by rw [<-ly];show ws=ws++[];rw [mx]
   rw [<-Ea] at q;exact ⟨_,rfl,q e_ aM (s1.free f2) (s1.trans s3) qV⟩
theorem L7 {rows:aZ} {p:aw} : ∀ {k j:Nat} {q:aw},goN rows k p=some q->j<=k -> ∃ r,goN rows j p=some r
 | 0,j,q,h,aY=>by rw [show j=0 by omega];exact ⟨q,h⟩
 | k+1,j,q,h,aY=>by
  by_cases e:j=k+1
  ·rw [e];exact ⟨q,h⟩
  ·obtain ⟨r,I,_⟩:=u6.mp h;exact L7 I .ab
noncomputable def aah:b9:=λ ag H Q _ => ∃ (b a:Addr) (xs:bB) (ai:cx) (ps r:aw) (m:Int),ag=[.ref b,.ref a,.int m]/\H b=some (.tup xs)/\ei H xs ai/\xs.length<=1000/\H a=some (tupI ps)/\ps.length=10/\nn ps=true/\0<=m/\m<2 ^ 62/\goN (rowsOf ai) m.toNat ps=some r /\
 ∀ bh H',aB H H'->H' bh=some (tupI r)->Q (.ref bh) H'
theorem Bg (T:cv K ax):cz P w ax base b_ 5 T.LK aah:=by
 refine T.LK.fn.cA vq (λ ag H Q E h=>?_) (λ bt A outer s H ag Q E av h=>?_)
 ·obtain ⟨b,a,xs,ai,ps,r,m,rfl,_⟩:=h;rfl
 ·obtain ⟨b,a,xs,ai,ps,r,m,rfl,af,hf,ar,au,jm,hv,m0,vZ,j2,q⟩:=h;refine ⟨_,(aV (bP 3 vq (bf (lU T) av bb (ak (aa 0) aC)))
   (aV (bP 4 vq (aa 1))
   (aV (eB dZ rfl (iz rfl T.hR (ak (aa 2) aC)) (c_ 5 vq)
    (aV (bP 6 vq (bf (tK T) av bb (ak (aa 3) (ak (aa 4) aC))))
   (aV (dJ (c6 rm (aa 6) gG (cB _))
    (a5 yw)
    dM)
   (a5 (bP 4 vq (bf (tB T) av bb (ak (aa 4) (ak (cP f3 (aa 3) (aa 6) (λ _ _=>rfl)) (ak aX aC)))))))))
   (a5 (bJ (aa 4)))))),?_⟩
  refine ⟨_,rfl,b,xs,ai,rfl,af,hf,ar,λ l H1 ys gN s1 fU gc=>?_⟩;refine ⟨_,rfl,_,rfl,m,rfl,.ab,vZ,jv (n:=m.toNat) (λ i σ aM => ∃ (c:Addr) (cur:aw) (u v:cq),σ=[some (.ref b),some (.ref a),some (.int m),some (.ref l),some (.ref c),u,v]/\aB H1 aM/\aM c=some (tupI cur)/\goN (rowsOf ai) i ps=some cur)
   ⟨a,ps,none,none,rfl,aB.refl H1,s1 _ _ au,rfl⟩ ?_ ?_⟩
  ·rintro i σ aM aq ⟨c,cur,u,v,rfl,s3,hG,jd⟩;obtain ⟨bO,sD⟩:=L7 (j:=i+1) j2 .ab;have dk:ey (rowsOf ai) cur=some bO:=by
    have:(goN (rowsOf ai) i ps).bind (ey (rowsOf ai))=some bO:=sD;rw [jd] at this;exact this
   obtain ⟨k,d,I,ah,_,aL⟩:=vt dk;obtain ⟨x,e,ae,rfl,he⟩:=(gc.same s3).of ah;have jb:=(ny (nQ ai) jm hv jd).1;refine ⟨_,rfl,_,rfl,l,c,ys,rowsOf ai,cur,rfl,s3 _ _ fU,gc.same s3,hG,λ aO s4=>?_⟩;rw [I];refine ⟨_,rfl,rfl,_,rfl,dn ⟨_,rfl,_,rfl,_,rfl,l,_,_,_,rfl,rfl,aQ.of (s4 _ _ (s3 _ _ fU)),h5 (lK k) (by rw [dY];exact ae),c,e,cur,d,1,rfl,s4 _ _ hG,s4 _ _ he,⟨.aG,.aG⟩,.ab,λ p cY bI qS=>?_⟩⟩;rw [<-aL] at qS;exact ⟨p,bO,_,_,rfl,(s3.trans s4).trans bI,qS,sD⟩
  ·rintro σ aM ⟨c,cur,u,v,rfl,s3,hG,jd⟩;rw [j2] at jd;cases jd;exact ⟨_,rfl,q c aM (s1.trans s3) hG⟩
noncomputable def Y2:b9:=λ ag H Q _ => ∃ (b a:Addr) (xs:bB) (ai:cx) (ps r:aw),ag=[.ref b,.ref a]/\H b=some (.tup xs)/\ei H xs ai/\xs.length<=1000/\H a=some (tupI ps)/\ps.length=10/\nn ps=true/\ey (rowsOf ai) ps=some r /\
 ∀ bh H',aB H H'->H' bh=some (tupI r)->Q (.ref bh) H'
theorem Ym (T:cv K ax):cz P w ax base b_ 6 T.Lf Y2:=by
 refine T.Lf.fn.cA YY (λ ag H Q E h=>?_) (λ bt A outer s H ag Q E av h=>?_)
 ·obtain ⟨b,a,xs,ai,ps,r,rfl,_⟩:=h;rfl
 ·obtain ⟨b,a,xs,ai,ps,r,rfl,af,hf,ar,au,jm,hv,dk,q⟩:=h;refine ⟨_,(a5 (bJ (bf (Bg T) av bb (ak (aa 0) (ak (aa 1) (ak aX aC)))))),?_⟩;exact ⟨_,rfl,_,rfl,b,a,xs,ai,ps,r,1,rfl,af,hf,ar,au,jm,hv,.aG,.aG,dk,q⟩
noncomputable def adp:b9:=λ ag H Q _ => ∃ (b a:Addr) (xs:bB) (ai:cx) (ps:aw),ag=[.ref b,.ref a]/\H b=some (.tup xs)/\ei H xs ai/\xs.length<=1000/\H a=some (tupI ps) /\ ∀ H',aB H H'->Q (ra (dm (rowsOf ai) ps)) H'
theorem ac8 (T:cv K ax):cz P w ax base b_ 5 T.OM adp:=by
 refine T.OM.fn.cA adj (λ ag H Q E h=>?_) (λ bt A outer s H ag Q E av h=>?_)
 ·obtain ⟨b,a,xs,ai,ps,rfl,_⟩:=h;rfl
 ·obtain ⟨b,a,xs,ai,ps,rfl,af,hf,ar,au,q⟩:=h;refine ⟨_,(a5 (bJ (bf (tK T) av bb (ak (bf (lU T) av bb (ak (aa 0) aC)) (ak (aa 1) aC))))),?_⟩;refine ⟨_,rfl,b,xs,ai,rfl,af,hf,ar,λ l H1 ys gN s1 fU gc=>?_⟩;exact ⟨_,rfl,l,a,ys,rowsOf ai,ps,rfl,fU,gc,s1 _ _ au,λ ay s2=>q ay (s1.trans s2)⟩
noncomputable def Q5 (H:aA) (v:V):HS->Prop
 | .round b l => ∃ a,v=.ref a/\H a=some (.tup [.str "round", .int (b:Int),.int (l:Int)])
 | .rests n c => ∃ a d,v=.ref a/\H a=some (.tup [.str "rests", .int (n:Int),.ref d])/\H d=some (tupI c)
 | .AA => ∃ a,v=.ref a/\H a=some (.tup [.str "open"])
structure p6 (rows:aZ) (ps:aw) (i:Nat) (aU:List (List Key×V)):Prop where
 len:aU.length<=i
 out : ∀ e v,fM aU (ia e)=some v -> ∃ j:Nat,j<i/\v=.int (j:Int)/\goN rows j ps=some e
 Jx : ∀ (j:Nat),j<i -> ∀ e,goN rows j ps=some e -> ∃ v,fM aU (ia e)=some v
theorem p6.nil {rows:aZ} {ps:aw}:p6 rows ps 0 []:=⟨br _,(λ e v h=>by cases h),(λ j h=>by omega)⟩
theorem p6.put {rows:aZ} {ps cur:aw} {i:Nat} {aU:List (List Key×V)} (S:p6 rows ps i aU) (aj:goN rows i ps=some cur):p6 rows ps (i+1) (putK aU (ia cur) (.int (i:Int))):=by
 refine ⟨?_,λ e v h=>?_,λ j aY e he=>?_⟩
 ·have:=G5 aU (ia cur) (.int (i:Int));have:=S.len;omega
 ·by_cases z:e=cur
  ·subst z;rw [PL] at h;exact ⟨i,.ab,(eA h).symm,aj⟩
  ·rw [Pc z] at h;obtain ⟨j,I,ah⟩:=S.out e v h;exact ⟨j,.ab,ah⟩
 ·by_cases z:e=cur
  ·subst z;exact ⟨_,PL⟩
  ·rw [Pc z];by_cases sA:j=i
   ·subst sA;rw [aj] at he;exact absurd (eA he).symm z
   ·exact S.Jx j .ab e he
theorem p6.fresh {rows:aZ} {ps cur:aw} {i:Nat} {aU:List (List Key×V)} (S:p6 rows ps i aU) (D:wd rows ps i) (aj:goN rows i ps=some cur) (az:fM aU (ia cur)=none):wd rows ps (i+1):=λ j k ov aE e=>by
 by_cases zC:k=i
 ·subst zC;rw [aj] at e;obtain ⟨v,bl⟩:=S.Jx j ov cur e;rw [az] at bl;cases bl
 ·exact D j k ov .ab e
noncomputable def Y0:b9:=λ ag H Q _ => ∃ (b a:Addr) (xs:bB) (ai:cx) (ps:aw) (m:Int),ag=[.ref b,.ref a,.int m]/\H b=some (.tup xs)/\ei H xs ai/\xs.length<=1000/\H a=some (tupI ps)/\ps.length=10/\nn ps=true/\0<=m/\m<=1000 /\
 ∀ v H' o,aB H H'->VP (rowsOf ai) m.toNat ps o->Q5 H' v o->Q v H'
theorem Yk (T:cv K ax):cz P w ax base b_ 5 T.Ld Y0:=by
 refine T.Ld.fn.cA tu (λ ag H Q E h=>?_) (λ bt A outer s H ag Q E av h=>?_)
 ·obtain ⟨b,a,xs,ai,ps,m,rfl,_⟩:=h;rfl
 ·obtain ⟨b,a,xs,ai,ps,m,rfl,af,hf,ar,au,jm,hv,m0,vZ,q⟩:=h;refine ⟨_,(aV (bP 3 tu (bf (lU T) av bb (ak (aa 0) aC)))
   (aV (bP 4 tu aaa)
   (aV (bP 5 tu (aa 1))
   (aV (eB dZ rfl (iz rfl T.hR (ak (bZ eR (aa 2) aX) aC)) (c_ 6 tu)
    (aV (dJ (c6 (W_ (mn av)) (aa 5) (aa 4) (by with_unfolding_all rfl))
    (a5 (bJ (hk (ak lF (ak (Mm (mn av) (aa 4) (aa 5) (λ _ _=>rfl)) (ak (bZ nz (aa 6) (Mm (mn av) (aa 4) (aa 5) (λ _ _=>rfl))) aC))))))
    dM)
   (aV (bP 7 tu (bf (tK T) av bb (ak (aa 3) (ak (aa 5) aC))))
   (aV (dJ (c6 rm (aa 7) gG (cB _))
    (a5 (bJ (hk (ak lF (ak (aa 6) (ak (aa 5) aC))))))
    dM)
   (aV (YS (mn av) (aa 4) (aa 5) (aa 6) rfl)
   (a5 (bP 5 tu (bf (tB T) av bb (ak (aa 5) (ak (cP f3 (aa 3) (aa 7) (λ _ _=>rfl)) (ak aX aC)))))))))))
   (a5 (bJ (hk (ak lF aC)))))))),?_⟩
  refine ⟨_,rfl,b,xs,ai,rfl,af,hf,ar,λ l H1 ys gN s1 fU gc=>?_⟩;refine λ d ay f2 s2 hd2=>?_
  have fd:H d=none:=s1.free f2;have R:=nQ ai;refine ⟨_,rfl,_,rfl,_,_,rfl,rfl,m+1,rfl,.ab,.ab,jv (n:=(m+1).toNat) (λ i σ aM => ∃ (c:Addr) (cur:aw) (aU:List (List Key×V)) (u v:cq),σ=[some (.ref b),some (.ref a),some (.int m),some (.ref l),some (.ref d),some (.ref c),u,v]/\aB H1 aM/\aM d=some (.f5 aU)/\aM c=some (tupI cur)/\goN (rowsOf ai) i ps=some cur/\wd (rowsOf ai) ps i/\p6 (rowsOf ai) ps i aU)
   ⟨a,ps,[],none,none,rfl,s2,hd2,s2 _ _ (s1 _ _ au),rfl,λ _ _ _ h=>by omega,p6.nil⟩ ?_ ?_⟩
  ·rintro i σ aM aq ⟨c,cur,aU,u,v,rfl,s3,l8,hG,jd,gr,wI⟩;have UZ:=ny R jm hv jd;refine ⟨_,rfl,_,rfl,c,d,cur,aU,rfl,rfl,hG,l8,_,rfl,?_⟩;cases bl:fM aU (ia cur) with
   | some v0 =>
    obtain ⟨j,aY,rfl,SU⟩:=wI.out cur v0 bl;refine ea ?_;refine ⟨_,rfl,_,rfl,d,c,cur,aU,_,rfl,rfl,l8,hG,bl,_,rfl,_,rfl,_,rfl,d,c,cur,aU,_,rfl,rfl,l8,hG,bl,_,_,rfl,rfl,dG,λ t aO f4 s4 aW=>?_⟩;refine q (.ref t) aO (.round j (i - j)) ((s1.trans s3).trans s4) ⟨.ab,.ab,⟨cur,SU,by rw [show j+(i - j)=i by omega];exact jd⟩,by rw [show j+(i - j)=i by omega];exact gr⟩ ⟨t,rfl,?_⟩;rw [aW];show some (fy.tup [_,_,V.int (0+(i:Int) - (j:Int))])=_;rw [show (0+(i:Int) - (j:Int))=((i - j:Nat):Int) by omega]
   | none =>
    refine dn ?_;have ig:=wI.fresh gr jd bl;refine ⟨_,rfl,_,rfl,l,c,ys,rowsOf ai,cur,rfl,s3 _ _ fU,gc.same s3,hG,λ aO s4=>?_⟩;cases hN:dm (rowsOf ai) cur with
    | none =>
     refine ⟨_,rfl,rfl,_,rfl,ea ⟨_,rfl,_,rfl,dG,λ t bj eG s5 aW=>?_⟩⟩;refine q (.ref t) bj (.rests i cur) (((s1.trans s3).trans s4).trans s5) ⟨.ab,jd,hN⟩ ⟨t,c,rfl,?_,s5 _ _ (s4 _ _ hG)⟩;rw [aW,ql]
    | some k =>
     obtain ⟨fg,I1,_,aE⟩:=mG hN;obtain ⟨x,e,ae,rfl,he⟩:=(gc.same s3).of I1;have dk:=u0 hN I1;refine ⟨_,rfl,rfl,_,rfl,dn ⟨_,rfl,_,rfl,_,rfl,d,c,cur,aU,rfl,rfl,s4 _ _ l8,s4 _ _ hG,(by have:=wI.len;rw [cW];omega),λ bj d8 cp=>?_⟩⟩;have d5:aB H1 bj:=λ c o b1=>d8 c o (λ z=>by rw [z,f2] at b1;cases b1) (s4 _ _ (s3 _ _ b1))
     have TQ:c≠d:=gY hG l8 nofun;have TR:e≠d:=gY he l8 nofun;refine ⟨_,rfl,_,rfl,_,rfl,l,_,_,_,rfl,rfl,aQ.of (d5 _ _ fU),h5 (lK k) (by rw [dY];exact ae),c,e,cur,fg,1,rfl,d8 _ _ TQ (s4 _ _ hG),d8 _ _ TR (s4 _ _ he),⟨.aG,.aG⟩,.ab,λ p cY bI qS=>?_⟩;refine ⟨p,c7 cur fg 1,_,_,_,rfl,d5.trans bI,bI _ _ cp,qS,?_,ig,?_⟩
     ·show (goN (rowsOf ai) i ps).bind _=_;rw [jd];exact dk
     ·rw [ql];exact wI.put jd
  ·rintro σ aM ⟨c,cur,aU,u,v,rfl,s3,l8,hG,jd,gr,wI⟩;have em:(m+1).toNat=m.toNat+1:=by omega
   rw [em] at jd gr;exact ⟨dG,λ t aO f4 s4 aW=>q (.ref t) aO .AA ((s1.trans s3).trans s4) ⟨⟨cur,jd⟩,gr⟩ ⟨t,rfl,aW⟩⟩
noncomputable def iM (D:Addr) (H:aA) (ys:bB) (rows:aZ):Prop:=ys.length=rows.length /\ ∀ (i:Nat) (x:V),ys[i]?=some x -> ∃ c a,rows[i]?=some c/\x=.ref a/\a≠D/\H a=some (jn c)
theorem iM.same {rows:aZ} (h:iM D H ys rows) (s:aB H H'):iM D H' ys rows:=⟨h.1,λ i x ae=>by
 obtain ⟨c,a,I,ah,aD,aL⟩:=h.2 i x ae;exact ⟨c,a,I,ah,aD,s _ _ aL⟩⟩
theorem iM.but {rows:aZ} (h:iM D H ys rows) (b:b6 D H H'):iM D H' ys rows:=⟨h.1,λ i x ae=>by
 obtain ⟨c,a,I,ah,aD,aL⟩:=h.2 i x ae;exact ⟨c,a,I,ah,aD,b _ _ aD aL⟩⟩
theorem iM.snoc {rows:aZ} (h:iM D H ys rows) {c:aw} (na:a≠D) (au:H a=some (jn c)):iM D H (ys++[.ref a]) (rows++[c]):=⟨by rw [cJ,cJ,h.1];rfl,λ i x ae=>by
 rcases k5 i ys.length with z | z
 ·rw [gi z] at ae;obtain ⟨bG,hn,I,ah⟩:=h.2 i x ae;exact ⟨bG,hn,by rw [gi (by rw [<-h.1];exact z)];exact I,ah⟩
 ·rw [g4 z] at ae;have hb:i - ys.length=0:=by
   rcases nE (i - ys.length) with z | z
   ·exact z
   ·rw [g6 (show [V.ref a].length<=_ from z)] at ae;cases ae
  rw [hb] at ae;cases ae;exact ⟨c,a,by rw [g4 (by rw [<-h.1];exact z),<-h.1,hb];rfl,rfl,na,au⟩⟩
noncomputable def xD (H:aA) (a:Addr):Nat:=match H a with
 | some (.lst xs)=>xs.length
 | _=>0
theorem Mb (h:H a=some (.lst xs)):xD H a=xs.length:=by unfold xD;rw [h]
noncomputable def Q6 (ai:cx):Prop := ∀ f∈ai,kU f.1 f.2=true
theorem ei.ok {ai:cx} (h:ei H xs ai):Q6 ai:=λ f hf=>by
 obtain ⟨k,aE⟩:=gk hf;have ar:k<xs.length:=by rw [h.1];exact (cL.mp aE).1
 obtain ⟨i,j,c,I,_,_,aL⟩:=h.2 k xs[k] (bz ar);rw [aE] at I;cases I;exact aL
noncomputable def pn (H:aA) (zs:bB) (P:aZ) (ws:bo):Prop:=zs.length=ws.length/\P.length=ws.length /\ ∀ (i:Nat) (y:V),zs[i]?=some y -> ∃ (c a:Addr) (p:aw) (u:Nat),y=.ref c/\H c=some (.tup [.ref a,.int (u:Int)])/\P[i]?=some p/\H a=some (tupI p)/\ws[i]?=some u
noncomputable def mW (H:aA) (zs:bB) (P:aZ) (U:bo):Prop:=zs.length=U.length+1/\P.length=U.length+1 /\ ∀ (i:Nat) (y:V),zs[i]?=some y -> ∃ (c a:Addr) (x:V) (p:aw),y=.ref c/\H c=some (.tup [.ref a,x])/\P[i]?=some p/\H a=some (tupI p) /\ ∀ u:Nat,U[i]?=some u->x=.int (u:Int)
theorem pn.keep {P:aZ} (h:pn H zs P ws) (k:e3 H H'):pn H' zs P ws:=⟨h.1,h.2.1,λ i y a8=>by
 obtain ⟨c,a,p,u,I,ah,aD,aL,cp⟩:=h.2.2 i y a8;exact ⟨c,a,p,u,I,k.tup ah,aD,k.tup aL,cp⟩⟩
theorem mW.keep {P:aZ} (h:mW H zs P ws) (k:e3 H H'):mW H' zs P ws:=⟨h.1,h.2.1,λ i y a8=>by
 obtain ⟨c,a,x,p,I,ah,aD,aL,cp⟩:=h.2.2 i y a8;exact ⟨c,a,x,p,I,k.tup ah,aD,k.tup aL,cp⟩⟩
theorem PH {α: Type} {l:List α} {x y: α} {i:Nat} (h:(l++[x])[i]?=some y):l[i]?=some y\/(i=l.length/\y=x):=by
 rcases k5 i l.length with z | z
 ·rw [gi z] at h;exact .inl h
 ·rw [g4 z] at h;rcases nE (i - l.length) with w | w
  ·rw [w] at h;cases h;exact .inr ⟨.ab,rfl⟩
  ·rw [g6 (show [x].length<=_ from w)] at h;cases h
theorem pn.snoc {P:aZ} (h:pn H zs P ws) {c:Addr} {p:aw} {u:Nat} (aj:H c=some (.tup [.ref a,.int (u:Int)])) (au:H a=some (tupI p)):pn H (zs++[.ref c]) (P++[p]) (ws++[u]):=by
 obtain ⟨I,ah,aD⟩:=h;refine ⟨by rw [cJ,cJ,I];rfl,by rw [cJ,cJ,ah];rfl,λ i y a8=>?_⟩;rcases PH a8 with z | ⟨rfl,rfl⟩
 ·obtain ⟨bG,hn,dV,i_,g1,g2,g3,f6,eH⟩:=aD i y z;have c3:=(cL.mp g3).1;have dO:=(cL.mp eH).1;exact ⟨bG,hn,dV,i_,g1,g2,by rw [gi c3];exact g3,f6,by rw [gi dO];exact eH⟩
 ·exact ⟨c,a,p,u,rfl,aj,by rw [I,<-ah];exact yc,au,by rw [I];exact yc⟩
theorem pn.done {P:aZ} (h:pn H zs P ws) {c:Addr} {p:aw} {x:V} (aj:H c=some (.tup [.ref a,x])) (au:H a=some (tupI p)):mW H (zs++[.ref c]) (P++[p]) ws:=by
 obtain ⟨I,ah,aD⟩:=h;refine ⟨by rw [cJ,I];rfl,by rw [cJ,ah];rfl,λ i y a8=>?_⟩;rcases PH a8 with z | ⟨rfl,rfl⟩
 ·obtain ⟨bG,hn,dV,i_,g1,g2,g3,f6,eH⟩:=aD i y z;have c3:=(cL.mp g3).1;refine ⟨bG,hn,_,dV,g1,g2,by rw [gi c3];exact g3,f6,λ u bM=>?_⟩;rw [eH] at bM;cases bM;rfl
 ·refine ⟨c,a,x,p,rfl,aj,by rw [I,<-ah];exact yc,au,λ u bM=>?_⟩;rw [g6 .ab] at bM;cases bM
noncomputable def adw:b9:=λ ag H Q _ => ∃ (l b:Addr) (ys:bB) (R:aZ) (ps:aw) (m:Int),ag=[.ref l,.ref b,.int m]/\H l=some (.lst ys)/\dX H ys R/\l5 R/\H b=some (tupI ps)/\ps.length=10/\nn ps=true/\0<=m/\m<=5000 /\
 ∀ bh H' zs P,H bh=none->aB H H'->H' bh=some (.lst zs)->mW H' zs P (ep R m.toNat ps)->(∀ i,i<P.length->P[i]?=goN R i ps)->Q (.ref bh) H'
theorem Pr (T:cv K ax):cz P w ax base b_ 3 T.OS adw:=by
 refine T.OS.fn.cA vF (λ ag H Q E h=>?_) (λ bt A outer s H ag Q E av h=>?_)
 ·obtain ⟨l,b,ys,R,ps,m,rfl,_⟩:=h;rfl
 ·obtain ⟨l,b,ys,R,ps,m,rfl,ar,kP,b4,af,jm,hv,m0,vZ,q⟩:=h;refine ⟨_,(aV (bP 3 vF (jK aC))
   (aV (bP 4 vF (aa 1))
   (aV (bP 5 vF (bf (tK T) av bb (ak (aa 0) (ak (aa 4) aC))))
   (aV (vp dZ (i3.pt (Xz (c6 nj (cK ew T.ec eb (ak (aa 3) aC)) (aa 2) (cB _)) (YT (c6 yh (aa 5) gG (cB _)))))
    (aV (lP (lC lL oX oY oZ (aa 3) (ak (hk (ak (aa 4) (ak (aa 5) aC))) aC)))
   (aV (bP 4 vF (bf (tB T) av bb (ak (aa 4) (ak (cP f3 (aa 0) (aa 5) (λ _ _=>rfl)) (ak aX aC)))))
   (a5 (bP 5 vF (bf (tK T) av bb (ak (aa 0) (ak (aa 4) aC))))))))
   (aV (lP (lC lL oX oY oZ (aa 3) (ak (hk (ak (aa 4) (ak gG aC))) aC)))
   (a5 (bJ (aa 3)))))))),?_⟩
  refine ⟨dG,λ bh H1 f1 s1 Ds=>?_⟩;refine ⟨_,rfl,_,rfl,_,rfl,l,b,ys,R,ps,rfl,s1 _ _ ar,kP.same s1,s1 _ _ af,λ aM s3=>?_⟩;refine yC (λ σ aO => ∃ (ws:bo) (zs:bB) (P:aZ) (cur:aw) (c:Addr),σ=[some (.ref l),some (.ref b),some (.int m),some (.ref bh),some (.ref c),some (ra (dm R cur))]/\aB H aO/\aO bh=some (.lst zs)/\pn aO zs P ws/\(∀ i,i<P.length->P[i]?=goN R i ps)/\aO c=some (tupI cur)/\goN R ws.length ps=some cur/\ws.length<=m.toNat/\ws++ep R (m.toNat - ws.length) cur=ep R m.toNat ps)
   (λ _ aO=>m.toNat - xD aO bh) ⟨[],[],[],ps,b,rfl,s1.trans s3,s3 _ _ Ds,⟨rfl,rfl,λ i y a8=>by cases a8⟩,(λ i aq=>by cases aq),s3 _ _ (s1 _ _ af),rfl,fk _,rfl⟩ ?_
  rintro σ aO ⟨ws,zs,P,cur,c,rfl,s4,oA,zt,j2,I2,mf,mb,ly⟩;have UZ:=ny b4 jm hv mf;have pl:=zt.1;have b5:=zt.2.1;have done:ws=ep R m.toNat ps -> ∀ t bj,aO t=none->aB aO bj->bj t=some (.tup [.ref c,.cV]) -> ∀ cY,b6 bh bj cY->cY bh=some (.lst (zs++[.ref t]))->Q (.ref bh) cY:=by
   intro lh t bj eG s5 aW cY gL pJ;have o9:e3 bj cY:=e3.but gL (s5 _ _ oA) pJ;refine q bh cY _ (P++[cur]) f1 ?_ pJ ?_ ?_
   ·intro e o b1;exact gL _ _ (bT b1 f1) (s5 _ _ (s4 _ _ b1))
   ·rw [<-lh];exact ((zt.keep (e3.of s5)).keep o9).done (o9.tup aW) (o9.tup (s5 _ _ I2))
   ·intro i aq;rw [cJ] at aq;by_cases gB:i<P.length
    ·rw [gi gB];exact j2 i gB
    ·have:i=P.length:=by have:[cur].length=1:=rfl;omega
     subst this;rw [yc,b5,mf]
  refine ⟨_,rfl,bh,_,rfl,.inl (aQ.of oA),_,rfl,_,_,rfl,rfl,_,rfl,hx (λ h=>?_) (λ h=>?_)⟩
  ·have h0:(zs.length:Int)<m:=fY h;obtain ⟨d,hd⟩ : ∃ d,m.toNat - ws.length=d+1:=⟨m.toNat - ws.length - 1,.ab⟩
   refine ⟨_,rfl,rfl,_,rfl,?_⟩;cases hN:dm R cur with
   | none =>
    refine dn ?_;rw [vu hN,mx] at ly;exact ⟨_,rfl,.inl ⟨rfl,_,aQ.of oA⟩,_,rfl,dG,λ t bj eG s5 aW=>⟨bh,zs,_,rfl,rfl,s5 _ _ oA,by rw [pl,cW];omega,λ cY gL pJ=>⟨_,rfl,done ly t bj eG s5 aW cY gL pJ⟩⟩⟩
   | some k =>
    obtain ⟨bD,ah,_,_⟩:=mG hN;refine ea (xp ⟨_,rfl,.inl ⟨rfl,_,aQ.of oA⟩,_,rfl,_,rfl,dG,λ t bj eG s5 aW=>⟨bh,zs,_,rfl,rfl,s5 _ _ oA,by rw [pl,cW];omega,λ cY gL pJ=>?_⟩⟩);have o9:e3 bj cY:=e3.but gL (s5 _ _ oA) pJ;have bI:aB H cY:=λ e o b1=>gL _ _ (bT b1 f1) (s5 _ _ (s4 _ _ b1))
    obtain ⟨x,e,ae,rfl,he⟩:=(kP.same bI).of ah;have ue:cY c=some (tupI cur):=o9.tup (s5 _ _ I2);refine ⟨_,rfl,_,rfl,_,rfl,l,_,_,_,rfl,rfl,aQ.of (bI _ _ ar),qp ae,c,e,cur,bD,1,rfl,ue,he,⟨.aG,.aG⟩,.ab,λ dV ek dA Ji=>?_⟩;refine ⟨_,rfl,_,rfl,l,dV,ys,R,c7 cur bD 1,rfl,dA _ _ (bI _ _ ar),(kP.same bI).same dA,Ji,λ k_ e1=>?_⟩;have xh:=dA.trans e1;have sD:goN R (ws.length+1) ps=some (c7 cur bD 1):=by
     show (goN R ws.length ps).bind _=_;rw [mf];exact u0 hN ah
    have Jk:=xh _ _ pJ;refine ⟨⟨ws++[k],zs++[.ref t],P++[cur],c7 cur bD 1,dV,rfl,bI.trans xh,Jk,?_,?_,e1 _ _ Ji,?_,?_,?_⟩,?_⟩
    ·exact (((zt.keep (e3.of s5)).keep o9).keep (e3.of xh)).snoc (xh _ _ (o9.tup aW)) (xh _ _ ue)
    ·intro i aq;rw [cJ] at aq;by_cases gB:i<P.length
     ·rw [gi gB];exact j2 i gB
     ·have:i=P.length:=by have:[cur].length=1:=rfl;omega
      subst this;rw [yc,b5,mf]
    ·rw [cJ];exact sD
    ·rw [cJ];show ws.length+1<=_;omega
    ·rw [hd,vv hN ah] at ly;rw [cJ,show m.toNat - (ws.length + [k].length)=d by show m.toNat - (ws.length+1)=d;omega,lI];exact ly
    ·show m.toNat - xD k_ bh<m.toNat - xD aO bh;rw [Mb Jk,Mb oA,cJ];show m.toNat - (zs.length+1)<m.toNat - zs.length;omega
  ·have h0 : ¬ (zs.length:Int)<m:=λ z=>h (cX z)
   have aff:ws.length=m.toNat:=by omega
   rw [show m.toNat - ws.length=0 by omega] at ly;have Ea:ws=ep R m.toNat ps:=by rw [<-ly];show ws=ws++[];rw [mx]
   exact ⟨_,rfl,.inl ⟨rfl,_,aQ.of oA⟩,_,rfl,dG,λ t bj eG s5 aW=>⟨bh,zs,_,rfl,rfl,s5 _ _ oA,by rw [pl,cW];omega,λ cY gL pJ=>⟨_,rfl,done Ea t bj eG s5 aW cY gL pJ⟩⟩⟩
theorem NQ:hM xs none (some (-1))=xs.take (xs.length - 1):=by
 unfold hM;have e:el.cN xs.length xs.length (some (-1))=xs.length - 1:=by
  have:=el.Fl (-1) xs.length xs.length;rw [if_pos .aG] at this;omega
 rw [e];show (xs.drop 0).take (xs.length - 1 - 0)=_;rw [List.drop_zero,Nat.sub_zero]
noncomputable def aeo:b9:=λ ag H Q _ => ∃ (l:Addr) (zs:bB) (P:aZ) (U:bo),ag=[.ref l]/\H l=some (.lst zs)/\mW H zs P U/\U.length<=5000 /\ ∀ p H',aB H H'->H' p=some (tupI (bu U))->Q (.ref p) H'
theorem P9 (T:cv K ax):cz P w ax base b_ 1 T.P1 aeo:=by
 refine T.P1.fn.cA Qa (λ ag H Q E h=>?_) (λ bt A outer s H ag Q E av h=>?_)
 ·obtain ⟨l,zs,P,U,rfl,_⟩:=h;rfl
 ·obtain ⟨l,zs,P,U,rfl,ar,b8,r0,q⟩:=h;refine ⟨_,(a5 (bJ (iu mJ T.h7 h6 (ak (fx (dC Qa (N:=["place"]) (js:=[none]) (d3 _)) rfl (hA (mH tw (aa 0) nM (lO (kV k2 aX)))) (λ _ _ _ _=>ed) (λ _ _ _ _=>eD)
     (λ _ _ _ _=>(cP (Fz (K:=K) rfl) (aa 0) aX (λ _ _=>rfl)))) aC)))),?_⟩
  have pl:=b8.1;refine ⟨_,rfl,_,rfl,_,rfl,l,zs,rfl,aQ.of ar,λ t aW=>?_⟩;rw [NQ,show zs.length - 1=U.length by omega];have s1:aB H (upd H t (.lst (zs.take U.length))):=aB.new aW;refine ⟨t,rfl,⟨_,aQ.of bK⟩,λ D aT=>?_⟩;refine tE (K:=K) (a:=t) (xs:=zs.take U.length) (by rw [ff,cW];omega) (λ i σ' H' ys=>(∃ u:cq,σ'=[u])/\aB (upd H t (.lst (zs.take U.length))) H'/\ys=(bu (U.take i)).map V.int) ⟨⟨_,rfl⟩,aB.new aT,rfl⟩ (λ i σ' H' ys _ _ ⟨_,s',_⟩=>aQ.of (s' _ _ bK)) ?_ ?_
  ·rintro i x σ' H' ys nX ae b7 eW ⟨⟨u,rfl⟩,s',rfl⟩ df;have aq:i<U.length:=by
    have:=(cL.mp ae).1;rw [ff] at this;omega
   rw [qa aq] at ae;obtain ⟨c,a,y,p,rfl,aj,_,_,bM⟩:=b8.2.2 i x ae;have ma:U[i]?=some U[i]:=bz aq;have:=bM _ ma;subst this;refine ⟨_,rfl,c,_,1,_,rfl,rfl,aP.of (s' _ _ (s1 _ _ aj)),rfl,df _ _ _ b7 ⟨⟨_,rfl⟩,?_,?_⟩⟩
   ·intro e o b1;rw [bw (bT b1 aT)];exact s' _ _ b1
   ·rw [eC,ma];unfold bu;rw [ej,ej];rfl
  ·rintro σ' H' ys b7 eW ⟨_,s',rfl⟩;rw [ff,show min U.length zs.length=U.length by omega,kn] at b7;exact ⟨D,_,rfl,aQ.of b7,λ p bj eG s5 ao=>q p bj ((s1.trans s').trans s5) ao⟩
noncomputable def adZ:b9:=λ ag H Q _ => ∃ (a b d:Addr) (c p e:aw),ag=[.ref a,.ref b,.ref d]/\H a=some (tupI c)/\H b=some (tupI p)/\H d=some (tupI e)/\c.length=10/\p.length=10/\e.length=10 /\ ∀ H',aB H H'->Q (.aH (nk c p e)) H'
theorem adO (T:cv K ax):cz P w ax base b_ 1 T.Pk adZ:=by
 refine T.Pk.fn.cA PK (λ ag H Q E h=>?_) (λ bt A outer s H ag Q E av h=>?_)
 ·obtain ⟨a,b,d,c,p,e,rfl,_⟩:=h;rfl
 ·obtain ⟨a,b,d,c,p,e,rfl,au,af,hd,cl,b5,fA,q⟩:=h;refine ⟨_,(a5 (bJ (cK (MG rfl) T.K0 KJ (ak (fx (dC PK (N:=["change", "power", "more"]) (js:=[none,none,none]) (d3 _)) rfl (YQ rfl rfl T.ki (ak (aa 0) (ak (aa 1) (ak (aa 2) aC)))) (λ _ _ _ _=>(i1 (K:=K) (n:=3) rfl rfl (cQ ed (cQ (g7 (i:=1) (show List.Nodup (["change", "power", "more"]:cE) from by decide +kernel) rfl (Or.inl rfl) (Or.inr rfl)) (cQ (g7 (i:=2) (show List.Nodup (["change", "power", "more"]:cE) from by decide +kernel) rfl (Or.inl rfl) (Or.inr rfl)) fm))))) (λ _ _ _ _=>eD)
     (λ _ _ _ _=>(te (jJ nj (bZ eR (aa 1) (aa 0)) aX (cB _)) (uY (jJ h1 (aa 2) aX (cB _)))))) aC)))),?_⟩
  refine ⟨_,rfl,_,rfl,_,rfl,a,b,d,rfl,⟨_,aP.of au⟩,⟨_,aP.of af⟩,⟨_,aP.of hd⟩,λ D aT=>?_⟩;refine aaJ (K:=K) (a:=a) (b:=b) (c:=d) (xs:=c.map V.int) (ys:=p.map V.int) (ws:=e.map V.int) (by rw [a6,a6];omega) (by rw [a6,a6];omega) (by rw [a6,cW];omega) (λ i σ' H' zs=>(∃ u v x:cq,σ'=[u,v,x])/\aB H H'/\zs=((List.range i).map λ k=>decide (p.getD k 0+c.getD k 0<0)&&decide (e.getD k 0=0)).map V.aH) ⟨⟨_,_,_,rfl⟩,aB.new aT,rfl⟩ (λ i σ' H' zs _ ⟨_,s',_⟩=>⟨aP.of (s' _ _ au),aP.of (s' _ _ af),aP.of (s' _ _ hd)⟩) ?_ ?_
  ·rintro i x y v t σ' H' zs R ae a8 bl aW b7 gU ⟨⟨fR,gp,jV,rfl⟩,s',rfl⟩ df;obtain ⟨x,rfl,dF⟩:=iA ae;obtain ⟨y,rfl,ih⟩:=iA a8;obtain ⟨v,rfl,hJ⟩:=iA bl;refine ⟨t,_,rfl,aP.of bK,rfl,_,_,rfl,_,_,rfl,_,_,rfl,rfl,?_⟩;have fin : ∀ rV:Bool,rV=(decide (p.getD i 0+c.getD i 0<0)&&decide (e.getD i 0=0))->R [some (.int x),some (.int y),some (.int v)] (.aH rV) (upd H' t (.tup [.int x,.int y,.int v])):=by
    rintro rV rfl;refine df _ _ _ ?_ ⟨⟨_,_,_,rfl⟩,?_,?_⟩
    ·rw [bw (bT b7 aW)];exact b7
    ·intro c o e;rw [bw (bT e aT),bw (bT (s' _ _ e) aW)];exact s' _ _ e
    ·rw [vb,ej,ej];rfl
   have ex:c.getD i 0=x:=by rw [bk,dF];rfl
   have eT:p.getD i 0=y:=by rw [bk,ih];rfl
   have ev:e.getD i 0=v:=by rw [bk,hJ];rfl
   rw [ex,eT,ev] at fin;refine ⟨_,rfl,_,rfl,_,_,rfl,rfl,_,_,rfl,rfl,_,rfl,hx (λ h=>?_) (λ h=>?_)⟩
   ·refine ⟨_,rfl,rfl,fin _ ?_⟩;rw [show decide (y+x<0)=true from h,mF,decide_eq_decide];exact ⟨λ z=>by cases z;rfl,λ z=>by rw [z]⟩
   ·refine fin false ?_;cases z:decide (y+x<0) with
    | true=>exact absurd z h
    | false=>rfl
  ·rintro σ' H' zs b7 gU ⟨_,s',rfl⟩;refine ⟨D,_,rfl,aQ.of b7,?_⟩;have bh:=q H' s';unfold nk at bh;rw [a6,cl,List.any_map];exact bh
theorem N3 {p:aw} {M:Int} (I:M∈p) (ah : ∀ a∈p,M<=a):nn p=decide (0<=M):=by
 by_cases h:0<=M
 ·rw [cX h,iZ];intro x ae;have:=ah x ae;omega
 ·rw [ee h,Bool.eq_false_iff];intro z;exact h (iZ.mp z M I)
theorem all_false {l:aZ} {f:aw->Bool} (h : ¬ (l.map f).all id=true) : ∃ c∈l,f c=false:=by
 rw [tq] at h;have : ∃ c∈l,¬ (f c=true):=by
  simpa [e5] using h
 obtain ⟨c,aj,hf⟩:=this;exact ⟨c,aj,by cases z:f c with | true=>exact absurd z hf | false=>rfl⟩
noncomputable def ad7:b9:=λ ag H Q _ => ∃ (l bh:Addr) (ys zs:bB) (R P:aZ) (U:bo),ag=[.ref l,.ref bh]/\H l=some (.lst ys)/\dX H ys R/\l5 R/\R.length<=1000/\H bh=some (.lst zs)/\mW H zs P U/\l5 P/\U.length<=5000 /\
 (oE R P U=none -> ∀ H',aB H H'->Q .cV H')/\(∀ d,oE R P U=some d -> ∀ p H',aB H H'->H' p=some (tupI d)->Q (.ref p) H')
theorem PS (T:cv K ax):cz P w ax base b_ 2 T.PB ad7:=by
 refine T.PB.fn.cA yP (λ ag H Q E h=>?_) (λ bt A outer s H ag Q E av h=>?_)
 ·obtain ⟨l,bh,ys,zs,R,P,U,rfl,_⟩:=h;rfl
 ·obtain ⟨l,bh,ys,zs,R,P,U,rfl,ar,kP,b4,aeF,aK,b8,sU,r0,iH,ba⟩:=h;refine ⟨_,(aV (mz (i:=2) yP.eM rfl (Or.inr rfl) (bf (tB T) av bb (ak (cP fP (cP f3 (aa 1) (kV k2 aX) (λ _ _=>rfl)) aX (λ _ _=>rfl)) (ak (cP fP (cP f3 (aa 1) aX (λ _ _=>rfl)) aX (λ _ _=>rfl)) (ak (kV k2 aX) aC)))))
   (aV (dJ (c6 nj (cK (aaD rfl) T.xM xH (ak (aa 2) aC)) aX (cB _))
    (a5 (bJ gG))
    dM)
   (aV (eB dZ rfl (hA (mH tw (aa 1) nM (lO (kV k2 aX)))) (km rfl (cQ (g7 (i:=3) yP.eM rfl (Or.inr rfl)) (cQ (c_ 4 yP) fm)))
    (a5 (dJ (lG (k0 (cK (tx rfl) T.sY sW (ak (fx (dC yP (N:=["changes", "powers", "added"]) (js:=[none,some 3,some 2]) (e6.mpr ⟨rfl,(e6.mpr ⟨rfl,(d3 _)⟩)⟩)) rfl (hA (mH tw (aa 0) nM (lO (aa 4)))) (λ _ _ _ _=>ed) (λ _ _ _ _=>eD)
     (λ _ _ _ _=>(bf (adO T) av bb (ak (aa 0) (ak (aa 1) (ak (aa 2) aC)))))) aC))))
    (a5 (bJ gG))
    dM)))
   (a5 (bJ (aa 2)))))),?_⟩
  have pl:=b8.1;have b5:=b8.2.1;obtain ⟨y2,an,aeU,hV,Rf,c5,Dr,SF,_⟩:=b8.2.2 U.length (zs[U.length]'(by omega)) (bz .ab);obtain ⟨y1,y0,x0,hE,Rd,C4,um,C0,_⟩:=b8.2.2 0 (zs[0]'(by omega)) (bz .ab);have TA:zs[U.length]?=some (.ref y2):=by rw [bz .ab,Rf]
  have uq:zs[0]?=some (.ref y1):=by rw [bz .ab,Rd]
  have VE:=sU hV (cf Dr);have VC:=sU hE (cf um);refine ⟨_,rfl,_,rfl,bh,_,_,_,rfl,rfl,aQ.of aK,Fi pl TA,y2,_,0,_,rfl,rfl,aP.of c5,rfl,_,rfl,bh,_,0,_,rfl,rfl,aQ.of aK,h5 .aG uq,y1,_,0,_,rfl,rfl,aP.of C4,rfl,_,rfl,?_⟩;refine ⟨an,y0,hV,hE,-1,rfl,SF,C0,⟨.aG,.aG⟩,.ab,λ ad H1 s1 hX=>?_⟩;have B5:jk P U.length=c7 hV hE (-1):=by
   unfold jk;rw [bk,Dr,bk,um];rfl
  rw [<-B5] at hX;have dl:(jk P U.length).length=10:=MD Dr um VE VC;generalize hd:jk P U.length=d at *;refine ⟨_,rfl,ad,d,rfl,aP.of hX,(by intro z;rw [z] at dl;cases dl),λ M hT lZ=>⟨_,_,rfl,rfl,_,rfl,hx (λ h=>?_) (λ h=>?_)⟩⟩
  ·have h0:M<0:=fY h;refine iH (Zd ?_) H1 s1;rw [hd,N3 hT lZ,ee .ab]
  ·have h0 : ¬ M<0:=λ z=>h (cX z)
   have hv:nn d=true:=by rw [N3 hT lZ,cX .ab]
   refine ⟨_,rfl,_,rfl,_,rfl,bh,zs,rfl,aQ.of (s1 _ _ aK),λ t aW=>?_⟩;rw [NQ,show zs.length - 1=U.length by omega];have s2:aB H1 (upd H1 t (.lst (zs.take U.length))):=aB.new aW;have hh:=s1.trans s2;refine ⟨t,rfl,⟨_,aQ.of bK⟩,rH (K:=K) (a:=t) (xs:=zs.take U.length) (λ i σ ay=>(∃ u v:cq,σ=[some (.ref l),some (.ref bh),some (.ref ad),u,v])/\aB (upd H1 t (.lst (zs.take U.length))) ay /\ ∀ (k u:Nat) (p:aw),k<i->U[k]?=some u->P[k]?=some p -> ∀ c∈R.take u,nk c p d=true) ⟨⟨_,_,rfl⟩,aB.refl _,λ k u p aE=>absurd aE (jq _)⟩ (λ i σ ay _ ⟨_,s',_⟩=>aQ.of (s' _ _ bK)) ?_ ?_⟩
   ·rintro i x σ ay ae ⟨⟨u,v,rfl⟩,s',gf⟩;have aq:i<U.length:=by
     have:=(cL.mp ae).1;rw [ff] at this;omega
    rw [qa aq] at ae;obtain ⟨c,a,y,p,rfl,aj,ao,au,bM⟩:=b8.2.2 i x ae;have ma:U[i]?=some U[i]:=bz aq;have:=bM _ ma;subst this;have il:=hh.trans s';have qZ:=sU p (cf ao);refine ⟨c,_,rfl,aP.of (il _ _ aj),rfl,_,_,rfl,_,_,rfl,rfl,?_⟩;refine ⟨_,rfl,_,rfl,_,rfl,l,ys,rfl,aQ.of (il _ _ ar),λ bx Tg=>?_⟩;rw [vm (lK _),dY];have s3:aB ay (upd ay bx (.lst (ys.take U[i]))):=aB.new Tg;have q1:=il.trans s3;have pk:=kP.1;refine ⟨bx,rfl,⟨_,aQ.of bK⟩,λ D aT=>?_⟩;refine tE (K:=K) (a:=bx) (xs:=ys.take U[i]) (by rw [ff,cW];omega) (λ j σ' H' zs=>(∃ u:cq,σ'=[u,some (.ref a),some (.ref ad)])/\aB (upd ay bx (.lst (ys.take U[i]))) H'/\zs=(((R.take U[i]).take j).map λ c=>nk c p d).map V.aH) ⟨⟨_,rfl⟩,aB.new aT,rfl⟩ (λ j σ' H' zs _ _ ⟨_,s',_⟩=>aQ.of (s' _ _ bK)) ?_ ?_
    ·rintro j x σ' H' pW nX ae b7 eW ⟨⟨u,rfl⟩,s4,rfl⟩ df;have aY:j<U[i]:=by
      have:=(cL.mp ae).1;rw [ff] at this;omega
     rw [qa aY] at ae;obtain ⟨rc,dw,w1,rfl,hH⟩:=kP.at ae;have xf:=q1.trans s4;refine ⟨_,rfl,_,rfl,_,rfl,dw,a,ad,rc,p,d,rfl,xf _ _ hH,xf _ _ au,s4 _ _ (s3 _ _ (s' _ _ (s2 _ _ hX))),b4 rc (cf w1),qZ,dl,λ bj s5=>?_⟩;refine df _ _ _ (s5 _ _ b7) ⟨⟨_,rfl⟩,?_,?_⟩
     ·intro e o b1;rw [bw (bT b1 aT)];exact s5 _ _ (s4 _ _ b1)
     ·have:(R.take U[i])[j]?=some rc:=by rw [qa aY];exact w1
      rw [eC,this,ej,ej];rfl
    ·rintro σ' aM pW b7 eW ⟨_,s4,rfl⟩;rw [fG (by rw [ff,ff];omega)] at b7;refine ⟨D,_,rfl,aQ.of b7,_,rfl,?_⟩;cases af:((R.take U[i]).map λ c=>nk c p d).all id with
     | false =>
      obtain ⟨Qs,sq,aF⟩:=all_false (f:=λ c=>nk c p d) (by rw [af];intro z;cases z);refine ea (iH (XR ma sq ao ?_) aM (q1.trans s4));rw [hd];exact aF
     | true =>
      refine dn ⟨⟨_,_,rfl⟩,(s'.trans s3).trans s4,λ k u dV aE ug wU c aj=>?_⟩;by_cases zC:k=i
      ·subst zC;rw [ma] at ug;cases ug;rw [ao] at wU;cases wU;rw [tq,e5] at af;exact af c aj
      ·exact gf k u dV .ab ug wU c aj
   ·rintro σ ay ⟨⟨u,v,rfl⟩,s',gf⟩;have hlen:(zs.take U.length).length=U.length:=by rw [ff];omega
    refine ⟨_,rfl,ba d ?_ ad ay (hh.trans s') (s' _ _ (s2 _ _ hX))⟩;have:=aaz (R:=R) (P:=P) (U:=U) (by rw [hd];exact hv) (by rw [hd];exact ZK (λ k u p ug wU c aj=>gf k u p (by rw [hlen];exact (cL.mp ug).1) ug wU c aj) .ab);rw [hd] at this;exact this
theorem mW.cut {P:aZ} (h:mW H zs P U) {s e:Nat} (aF:s<e) (he:e<=U.length):mW H (fv zs s (e+1)) (fv P s (e+1)) (fv U s e):=by
 obtain ⟨I,ah,aD⟩:=h;have c3:(fv U s e).length=e - s:=rG he;refine ⟨by rw [rG .ab,c3];omega,by rw [rG .ab,c3];omega,λ i y a8=>?_⟩;have aq:i<e+1 - s:=by
  rcases k5 i (e+1 - s) with z | z
  ·exact z
  ·rw [Gl z] at a8;cases a8
 rw [yq aq] at a8;obtain ⟨c,a,x,p,g1,g2,g3,f6,eH⟩:=aD (s+i) y a8;refine ⟨c,a,x,p,g1,g2,by rw [yq aq];exact g3,f6,λ u bM=>?_⟩;have gB:i<e - s:=by
  rcases k5 i (e - s) with z | z
  ·exact z
  ·rw [Gl z] at bM;cases bM
 rw [yq gB] at bM;exact eH u bM
theorem Zl {s e:Nat} (he:e<=xs.length) (aF:s<=e):hM xs (some (s:Int)) (some (e:Int))=fv xs s e:=by
 unfold hM fv;rw [x3 (lK s),x3 (lK e),dY,dY,Nat.min_eq_left .ab,Nat.min_eq_left .ab]
noncomputable def VQ (H:aA) (p:Addr) (s:Nat) (U:bo) (d:aw):Prop := ∃ t a,H p=some (.tup [.int (s:Int),.ref t,.ref a])/\H t=some (tupI (bu U))/\H a=some (tupI d)
noncomputable def UD (R P:aZ) (U:bo) (H:aA) (Q:bN):Prop:=(HR R P U none -> ∀ H',aB H H'->Q .cV H') /\ ∀ s e d,HR R P U (some (s,e,d)) -> ∀ p H',aB H H'->VQ H' p s (fv U s e) d->Q (.ref p) H'
theorem MJ {α: Type} {l:List α} {s e:Nat} {x: α} (h:x∈fv l s e):x∈l:=A4 (qm h)
noncomputable def adT:b9:=λ ag H Q _ => ∃ (b a:Addr) (xs:bB) (ai:cx) (ps:aw) (m:Int),ag=[.ref b,.ref a,.int m]/\H b=some (.tup xs)/\ei H xs ai/\xs.length<=1000/\H a=some (tupI ps)/\ps.length=10/\nn ps=true/\0<=m/\m<=1000 /\
 ∀ P,kh (rowsOf ai) m.toNat ps P->UD (rowsOf ai) P (ep (rowsOf ai) m.toNat ps) H Q
theorem adJ (T:cv K ax):cz P w ax base b_ 5 T.Pe adT:=by
 refine T.Pe.fn.cA rO (λ ag H Q E h=>?_) (λ bt A outer s H ag Q E av h=>?_)
 ·obtain ⟨b,a,xs,ai,ps,m,rfl,_⟩:=h;rfl
 ·obtain ⟨b,a,xs,ai,ps,m,rfl,af,hf,ar,au,jm,hv,m0,vZ,q⟩:=h;refine ⟨_,(aV (bP 3 rO (bf (lU T) av bb (ak (aa 0) aC)))
   (aV (bP 4 rO (bf (Pr T) av bb (ak (aa 3) (ak (aa 1) (ak (aa 2) aC)))))
   (aV (bP 5 rO (bZ nz (cK ew T.ec eb (ak (aa 4) aC)) aX))
   (aV (eB dZ rfl (iz rfl T.hR (ak (aa 5) aC)) (c_ 6 rO)
    (a5 (eB dZ rfl (abf rfl T.hR (ak (bZ eR (aa 6) aX) (ak (bZ eR (cK (Gj rfl) T.xM xH (ak (bZ eR (aa 6) (F5 (by rfl) T.BF)) (ak (aa 5) aC))) aX) aC))) (c_ 7 rO)
    (aV (bP 8 rO (mH tw (aa 4) (lO (aa 6)) (lO (bZ eR (aa 7) aX))))
   (aV (bP 9 rO (bf (PS T) av bb (ak (aa 3) (ak (aa 8) aC))))
   (a5 (dJ (c6 yh (aa 9) gG (cB _))
    (a5 (bJ (hk (ak (aa 6) (ak (bf (P9 T) av bb (ak (aa 8) aC)) (ak (aa 9) aC))))))
    dM)))))))
   (a5 (bJ gG)))))),?_⟩
  have R:=nQ ai;refine ⟨_,rfl,b,xs,ai,rfl,af,hf,ar,λ l H1 ys gN s1 fU gc=>?_⟩;refine ⟨_,rfl,_,rfl,_,rfl,l,a,ys,rowsOf ai,ps,m,rfl,fU,gc,R,s1 _ _ au,jm,hv,m0,.ab,λ b5 ay zs P Rj s2 fu b8 j2=>?_⟩;have xI:kh (rowsOf ai) m.toNat ps P:=⟨b8.2.1,j2⟩
  have sU:=xI.JY R jm hv;obtain ⟨n5,ky⟩:=q P xI;have ul:=vk (rowsOf ai) m.toNat ps;generalize ae4:ep (rowsOf ai) m.toNat ps=U at *;have pl:=b8.1;have aeE:=b8.2.1;have hh:=s1.trans s2;refine ⟨_,rfl,b5,_,rfl,.inl (aQ.of fu),_,_,rfl,rfl,?_⟩;have afP:(zs.length:Int) - 1=(U.length:Int):=by omega
  have t2:(rowsOf ai).length<=1000:=by rw [k7,<-hf.1];exact ar
  refine ⟨_,rfl,(zs.length:Int) - 1,rfl,.ab,.ab,jv (n:=((zs.length:Int) - 1).toNat) (λ i σ aM=>(∃ fR gp jV n8:cq,σ=[some (.ref b),some (.ref a),some (.int m),some (.ref l),some (.ref b5),some (.int ((zs.length:Int) - 1)),fR,gp,jV,n8])/\aB ay aM /\ ∀ s' bF,t7 U.length s' bF->s'<i->xP (rowsOf ai) P U s' bF=none) ⟨⟨_,_,_,_,rfl⟩,aB.refl _,λ s' bF _ h=>absurd h (jq _)⟩ ?_ ?_⟩
  ·rintro i σ aM aq ⟨⟨fR,gp,jV,n8,rfl⟩,s3,gf⟩;refine ⟨_,rfl,_,_,rfl,rfl,_,rfl,_,_,rfl,rfl,_,rfl,_,_,rfl,_,_,rfl,rfl,?_⟩;generalize I8:(if (zs.length:Int) - 1<0+(i:Int)+40 then (zs.length:Int) - 1 else 0+(i:Int)+40)+1=gB;have afI:gB=((min U.length (i+40)+1:Nat):Int):=by
    rw [<-I8];split<;>omega
   refine ⟨0+(i:Int)+1,gB,(by subst I8;rfl),⟨.ab,.ab,.ab,.ab⟩,jv (n:=(gB - (0+(i:Int)+1)).toNat) (λ j σ aO=>(∃ gp jV n8:cq,σ=[some (.ref b),some (.ref a),some (.int m),some (.ref l),some (.ref b5),some (.int ((zs.length:Int) - 1)),some (.int (0+(i:Int))),gp,jV,n8])/\aB ay aO /\ ∀ s' bF,t7 U.length s' bF->(s'<i\/(s'=i/\bF<i+1+j))->xP (rowsOf ai) P U s' bF=none) ⟨⟨_,_,_,rfl⟩,s3,λ s' bF cC h=>?_⟩ ?_ ?_⟩
   ·rcases h with z | ⟨z,w⟩
    ·exact gf s' bF cC z
    ·have:=cC.1;omega
   ·rintro j σ aO aY ⟨⟨gp,jV,n8,rfl⟩,s4,Aw⟩;have cC:t7 U.length i (i+1+j):=⟨.ab,.ab,.ab⟩
    have m7:=hh.trans s4;refine ⟨_,rfl,_,rfl,_,rfl,_,rfl,_,_,rfl,rfl,_,rfl,b5,zs,rfl,aQ.of (s4 _ _ fu),λ pt sG=>?_⟩;have lW:hM zs (some (0+(i:Int))) (some (0+(i:Int)+1+(j:Int)+1))=fv zs i (i+1+j+1):=by
     rw [show (0:Int)+(i:Int)=((i:Nat):Int) by omega,show ((i:Nat):Int)+1+(j:Int)+1=((i+1+j+1:Nat):Int) by omega];exact Zl (by have:=cC.2.1;omega) .ab
    rw [lW];have s5:aB aO (upd aO pt (.lst (fv zs i (i+1+j+1)))):=aB.new sG;generalize Sp:upd aO pt (.lst (fv zs i (i+1+j+1)))=bj at *;have Ki:bj pt=some (.lst (fv zs i (i+1+j+1))):=by rw [<-Sp];exact bK
    have xg:=s4.trans s5;have IL:mW bj (fv zs i (i+1+j+1)) (fv P i (i+1+j+1)) (fv U i (i+1+j)):=(b8.cut (s:=i) (e:=i+1+j) .ab cC.2.1).keep (e3.of xg);have cl:(fv U i (i+1+j)).length<=5000:=by rw [rG cC.2.1];omega
    have ow:=xg _ _ (s2 _ _ fU);refine ⟨_,rfl,_,rfl,l,pt,ys,_,rowsOf ai,_,_,rfl,ow,(gc.same s2).same xg,R,t2,Ki,IL,λ p hm=>(sU p (MJ hm)).1,cl,λ ox cY bI=>?_,λ d hd ad cY bI hX=>?_⟩
    ·refine ⟨_,rfl,rfl,_,rfl,dn ⟨⟨_,_,_,rfl⟩,xg.trans bI,λ s' bF CT h=>?_⟩⟩;by_cases Te:s'=i/\bF=i+1+j
     ·obtain ⟨rfl,rfl⟩:=Te;exact ox
     ·exact Aw s' bF CT .ab
    ·refine ⟨_,rfl,rfl,_,rfl,ea ⟨_,rfl,_,rfl,pt,_,_,_,rfl,bI _ _ Ki,IL.keep (e3.of bI),cl,λ ut ek dA Tr=>⟨_,rfl,dG,λ l1 k_ f8 e1 Jm=>?_⟩⟩⟩;refine ky i (i+1+j) d ⟨cC,hd,λ s' bF CT h=>Aw s' bF CT h⟩ l1 k_ ((((hh.trans xg).trans bI).trans dA).trans e1) ⟨ut,ad,?_,e1 _ _ Tr,e1 _ _ (dA _ _ hX)⟩;rw [Jm,ql]
   ·rintro σ aO ⟨⟨gp,jV,n8,rfl⟩,s4,Aw⟩;refine ⟨⟨_,_,_,_,rfl⟩,s4,λ s' bF cC h=>Aw s' bF cC ?_⟩;have I:=cC.1;have ah:=cC.2.1;have aD:=cC.2.2;omega
  ·rintro σ aM ⟨⟨fR,gp,jV,n8,rfl⟩,s3,gf⟩;refine n5 (λ s' bF cC=>gf s' bF cC ?_) aM (hh.trans s3);have:=cC.1;have:=cC.2.1;omega
noncomputable def uO (n:Nat):V->Bool
 | .int i=>decide (0<=i)&&decide (i<n)
 | _=>false
noncomputable def k1 (H:aA) (v:V) (n:Nat):Bool:=match kQ H v with
 | some xs=>decide (1<=xs.length)&&decide (xs.length<=40)&&xs.all (uO n)
 | none=>false
theorem abD {α β: Type} {xs:List α} {i:Nat} {x: α} (f : α -> β) (h:xs[i]?=some x):(xs.take (i+1)).map f=(xs.take i).map f++[f x]:=by
 rw [eC,h,ej];rfl
noncomputable def acL:b9:=λ ag H Q _ => ∃ (b:Addr) (xs:bB) (v:V),ag=[.ref b,v]/\H b=some (.tup xs)/\q4 H v /\ ∀ H',aB H H'->Q (.aH (k1 H v xs.length)) H'
theorem acE (T:cv K ax):cz P w ax base b_ 2 T.Om acL:=by
 refine T.Om.fn.cA O7 (λ ag H Q E h=>?_) (λ bt A outer s H ag Q E av h=>?_)
 ·obtain ⟨b,xs,v,rfl,_⟩:=h;rfl
 ·obtain ⟨b,ps,v,rfl,af,⟨k,d5⟩,q⟩:=h;refine ⟨_,(aV (dJ (i3.pt (oR (lG (k0 (cK yn T.yJ yI (ak (aa 1) (ak (xQ (by rfl) T.h7 h6) aC))))) (oR (c6 nj (cK ew T.ec eb (ak (aa 1) aC)) aX (cB _)) (ro (c6 xO (cK ew T.ec eb (ak (aa 1) aC)) (F5 (by rfl) T.BF) (cB _))))))
    (a5 (bJ h2))
    dM)
   (a5 (bJ (cK (tx rfl) T.sY sW (ak (fx (dC O7 (N:=["part", "program"]) (js:=[none,some 0]) (e6.mpr ⟨rfl,(d3 _)⟩)) rfl (kZ (aa 1)) (λ _ _ _ _=>ed) (λ _ _ _ _=>eD)
     (λ _ _ _ _=>(te (bf (Bz T) av bb (ak (aa 0) aC)) (te (jJ xN (aa 0) aX (cB _)) (uY (jJ nj (aa 0) (cK (Hs (K:=K) rfl) T.ec eb (ak (aa 1) aC)) (cB _))))))) aC))))),?_⟩
  obtain ⟨t,ty,e⟩:=EC (K:=K) k;refine ⟨_,rfl,v, "tuple", t,_,rfl,ty,e,_,rfl,?_⟩;cases ck:kQ H v with
  | none =>
   refine ea (ea ?_);have bh:=q H (aB.refl H);rw [show k1 H v ps.length=false by unfold k1;rw [ck]] at bh;exact bh
  | some xs =>
   obtain ⟨a,rfl,au⟩:=yv ck;obtain ⟨ar,aE⟩:=d5 xs ck;have qF:k1 H (.ref a) ps.length=(decide (1<=xs.length)&&decide (xs.length<=40)&&xs.all (uO ps.length)):=by unfold k1;rw [ck]
   refine dn ⟨_,rfl,a,xs,rfl,.inr (aP.of au),_,_,rfl,rfl,_,rfl,hx (λ h=>?_) (λ h=>⟨_,rfl,a,xs,rfl,.inr (aP.of au),_,_,rfl,rfl,_,rfl,hx (λ h'=>?_) (λ h'=>?_)⟩)⟩
   ·have I:(xs.length:Int)<1:=fY h;have bh:=q H (aB.refl H);rw [qF,ee (by omega : ¬ 1<=xs.length)] at bh;exact ea bh
   ·have I:(40:Int)<xs.length:=fY h';have bh:=q H (aB.refl H);rw [qF,ee (by omega : ¬ xs.length<=40),Bool.and_false] at bh;exact bh
   ·have I : ¬ (xs.length:Int)<1:=λ z=>h (cX z)
    have ah : ¬ (40:Int)<xs.length:=λ z=>h' (cX z)
    refine ⟨_,rfl,a,rfl,⟨_,aP.of au⟩,λ D aT=>tA (K:=K) (a:=a) (xs:=xs) (by rw [cW];omega) (λ i σ' H' ys=>(∃ u:cq,σ'=[u,some (.ref b)])/\aB H H'/\ys=((xs.take i).map (uO ps.length)).map V.aH) ⟨⟨_,rfl⟩,aB.new aT,rfl⟩ (λ i σ' H' ys _ _ ⟨_,s',_⟩=>aP.of (s' _ _ au)) ?_ ?_⟩
    ·rintro i x σ' H' ys R ae b7 eW ⟨⟨u,rfl⟩,s',rfl⟩ df;have QP:=aE x (cf ae);have fin : ∀ rV:Bool,rV=uO ps.length x->R [some x,some (.ref b)] (.aH rV) H':=by
      rintro rV rfl;refine df _ _ _ b7 ⟨⟨_,rfl⟩,?_,?_⟩
      ·intro b o eS;rw [bw (bT eS aT)];exact s' _ _ eS
      ·rw [abD _ ae,ej];rfl
     refine ⟨_,rfl,x,rfl,aB.kind s' QP,_,rfl,?_⟩;cases hw:mc x with
     | false =>
      refine dn (fin false ?_);cases x<;>first | rfl | cases hw
     | true =>
      obtain ⟨n,rfl⟩:=yf hw;refine ea ⟨_,rfl,_,_,rfl,rfl,_,rfl,hx (λ g=>?_) (λ g=>?_)⟩
      ·have i5:0<=n:=fY g;refine ⟨_,rfl,_,rfl,b,_,rfl,.inr (aP.of (s' _ _ af)),_,_,rfl,rfl,fin _ ?_⟩;show _=(decide (0<=n)&&decide (n<ps.length));rw [cX i5,mF]
      ·have i5 : ¬ 0<=n:=λ z=>g (cX z)
       refine fin false ?_;show _=(decide (0<=n)&&decide (n<ps.length));rw [ee i5,tc]
    ·rintro σ' H' ys b7 eW ⟨_,s',rfl⟩;refine ⟨D,_,rfl,aQ.of b7,?_⟩;have bh:=q H' s';rw [qF,cX (by omega:1<=xs.length),cX (by omega:xs.length<=40),Bool.and_self,mF] at bh;rw [kn,tq];exact bh
noncomputable def pX (R:aZ) (ps:aw) (P:aZ) (W:bo):Option aw:=if ep R W.length ps=W then oE R P W else none
noncomputable def UA (R:aZ) (n:Nat) (ps:aw) (v:V) (H:aA) (Q:bN):Prop:=(k1 H v n=false -> ∀ H',aB H H'->Q .cV H') /\
 ∀ t W,v=.ref t->H t=some (tupI (bu W))->k1 H v n=true -> ∀ P,kh R W.length ps P->(pX R ps P W=none -> ∀ H',aB H H'->Q .cV H')/\(∀ d,pX R ps P W=some d -> ∀ p H',aB H H'->H' p=some (tupI d)->Q (.ref p) H')
theorem acm {v:V} (h:k1 H v n=true) : ∃ t W,v=.ref t/\H t=some (tupI (bu W))/\1<=W.length/\W.length<=40 /\ ∀ x∈W,x<n:=by
 unfold k1 at h;cases ck:kQ H v with
 | none=>rw [ck] at h;cases h
 | some xs =>
  rw [ck] at h;obtain ⟨t,rfl,aW⟩:=yv ck;simp only [h4,oV] at h;obtain ⟨⟨I,ah⟩,aD⟩:=h;rw [e5] at aD;have : ∃ W:bo,xs=(bu W).map V.int /\ ∀ x∈W,x<n:=by
   clear I ah ck aW
   induction xs with
   | nil=>exact ⟨[],rfl,λ x ae=>by cases ae⟩
   | cons y r b0 =>
    obtain ⟨W,e,mP⟩:=b0 λ x ae=>aD x (eQ _ ae)
    have a8:=aD y d2;cases y with
    | int i =>
     have ih:(decide (0<=i)&&decide (i<(n:Int)))=true:=a8;rw [h4,oV,oV] at ih;obtain ⟨k,rfl⟩:=Int.eq_ofNat_of_zero_le ih.1;refine ⟨k::W,by rw [e];rfl,λ x ae=>?_⟩;rcases c8.mp ae with z | z
     ·rw [z];omega
     ·exact mP x z
    | _=>cases a8
  obtain ⟨W,rfl,mP⟩:=this;rw [a6,rJ] at I ah;exact ⟨t,W,rfl,aW,I,ah,mP⟩
theorem F0 {W:bo} (h:bu U=bu W):U=W:=by
 unfold bu at h;refine rv λ i=>?_
 have:=h3 (λ l:aw=>l[i]?) h;simp only [c9] at this;cases bM:U[i]? with
 | none =>
  cases hw:W[i]? with
  | none=>rfl
  | some w=>rw [bM,hw] at this;cases this
 | some u =>
  cases hw:W[i]? with
  | none=>rw [bM,hw] at this;cases this
  | some w =>
   rw [bM,hw] at this;have e:(u:Int)=(w:Int):=eA this;rw [show u=w by omega]
noncomputable def acJ:b9:=λ ag H Q _ => ∃ (b a:Addr) (xs:bB) (ai:cx) (ps:aw) (v:V),ag=[.ref b,.ref a,v]/\H b=some (.tup xs)/\ei H xs ai/\xs.length<=1000/\H a=some (tupI ps)/\ps.length=10/\nn ps=true/\q4 H v/\UA (rowsOf ai) xs.length ps v H Q
theorem O2 (T:cv K ax):cz P w ax base b_ 6 T.Oj acJ:=by
 refine T.Oj.fn.cA Hh (λ ag H Q E h=>?_) (λ bt A outer s H ag Q E av h=>?_)
 ·obtain ⟨b,a,xs,ai,ps,v,rfl,_⟩:=h;rfl
 ·obtain ⟨b,a,xs,ai,ps,v,rfl,af,hf,ar,au,jm,hv,bl,iH,ba⟩:=h;refine ⟨_,(aV (dJ (lG (k0 (bf (acE T) av bb (ak (aa 0) (ak (aa 2) aC)))))
    (a5 (bJ gG))
    dM)
   (aV (bP 3 Hh (bf (lU T) av bb (ak (aa 0) aC)))
   (aV (bP 4 Hh (bf (Pr T) av bb (ak (aa 3) (ak (aa 1) (ak (cK ew T.ec eb (ak (aa 2) aC)) aC)))))
   (aV (dJ (c6 (AL (mn av)) (bf (P9 T) av bb (ak (aa 4) aC)) (aa 2) (cB _))
    (a5 (bJ gG))
    dM)
   (a5 (bJ (bf (PS T) av bb (ak (aa 3) (ak (aa 4) aC))))))))),?_⟩
  refine ⟨_,rfl,_,rfl,b,xs,v,rfl,af,bl,λ H1 s1=>⟨_,rfl,?_⟩⟩;cases cC:k1 H v xs.length with
  | false=>exact ea (iH cC H1 s1)
  | true =>
   obtain ⟨t,W,rfl,aW,e2,J2,wn⟩:=acm cC;have R:=nQ ai;have wl:((bu W).map V.int).length=W.length:=by rw [a6,rJ]
   refine dn ⟨_,rfl,b,xs,ai,rfl,s1 _ _ af,hf.same s1,ar,λ l ay ys gN s2 dQ uo=>?_⟩;have hh:=s1.trans s2;refine ⟨_,rfl,_,rfl,_,rfl,t,_,rfl,.inr (aP.of (hh _ _ aW)),l,a,ys,rowsOf ai,ps,(((bu W).map V.int).length:Int),rfl,dQ,uo,R,hh _ _ au,jm,hv,.ab,.ab,λ b5 aM zs P Rj s3 fu b8 j2=>?_⟩;have vS:(((bu W).map V.int).length:Int).toNat=W.length:=by omega
   rw [vS] at b8;have xI:kh (rowsOf ai) W.length ps P:=⟨b8.2.1,j2⟩
   obtain ⟨n5,ky⟩:=ba t W rfl aW cC P xI;have ul:=vk (rowsOf ai) W.length ps;have m6:=hh.trans s3;refine ⟨_,rfl,b5,zs,P,_,rfl,fu,b8,.ab,λ up aO s4 Tq=>?_⟩;have oC:=m6.trans s4;refine ⟨_,rfl,up,t,bu (ep (rowsOf ai) W.length ps),bu W,rfl,rfl,Tq,oC _ _ aW,_,rfl,?_⟩;by_cases heq:ep (rowsOf ai) W.length ps=W
   ·rw [show (!decide (bu (ep (rowsOf ai) W.length ps)=bu W))=false by rw [heq,cX rfl];rfl];refine dn ⟨_,rfl,_,rfl,?_⟩;rw [heq] at b8;have sU:=xI.JY R jm hv;refine ⟨l,b5,ys,zs,rowsOf ai,P,W,rfl,s4 _ _ (s3 _ _ dQ),(uo.same s3).same s4,R,by rw [k7,<-hf.1];exact ar,s4 _ _ fu,b8.keep (e3.of s4),λ p hm=>(sU p hm).1,.ab,λ ox bj s5=>n5 (by unfold pX;rw [if_pos heq];exact ox) bj (oC.trans s5),λ d hd p bj s5 ao=>ky d (by unfold pX;rw [if_pos heq];exact hd) p bj (oC.trans s5) ao⟩
   ·rw [show (!decide (bu (ep (rowsOf ai) W.length ps)=bu W))=true by rw [ee (λ z=>heq (F0 z))];rfl];exact ea (n5 (by unfold pX;rw [if_neg heq]) aO oC)
noncomputable def abl:b9:=λ ag H Q _ => ∃ (b a t:Addr) (xs:bB) (ai:cx) (ps d:aw) (P:aZ) (W:bo) (N:Int),ag=[.ref b,.ref a,.ref t,.int N]/\H b=some (.tup xs)/\ei H xs ai/\xs.length<=1000/\H a=some (tupI ps)/\H t=some (tupI (bu W))/\ml (rowsOf ai) P W ps d/\W.length<=40/\(∀ x∈W,x<xs.length)/\0<=N/\N<2 ^ 62 /\
 ∀ q,P[N.toNat % W.length]?=some q -> ∀ p H',aB H H'->H' p=some (tupI (c7 q d ((N.toNat / W.length:Nat):Int)))->Q (.ref p) H'
theorem aa9 (T:cv K ax):cz P w ax base b_ 7 T.My abl:=by
 refine T.My.fn.cA vA (λ ag H Q E h=>?_) (λ bt A outer s H ag Q E av h=>?_)
 ·obtain ⟨b,a,t,xs,ai,ps,d,P,W,N,rfl,_⟩:=h;rfl
 ·obtain ⟨b,a,t,xs,ai,ps,d,P,W,N,rfl,af,hf,ar,au,aW,cc,J2,wn,rT,Qm,q⟩:=h;refine ⟨_,(aV (bP 4 vA (bf (O2 T) av bb (ak (aa 0) (ak (aa 1) (ak (aa 2) aC)))))
   (aV (dJ (c6 rm (aa 4) gG (cB _))
    (a5 yw)
    dM)
   (aV (bP 5 vA (bf (lU T) av bb (ak (aa 0) aC)))
   (aV (bP 6 vA (bf (tB T) av bb (ak (aa 1) (ak (aa 4) (ak (bZ Ba (aa 3) (cK ew T.ec eb (ak (aa 2) aC))) aC)))))
   (aV (eB dZ rfl (kZ (mH Ap (aa 2) nM (lO (bZ qe (aa 3) (cK ew T.ec eb (ak (aa 2) aC)))))) (c_ 7 vA)
    (a5 (bP 6 vA (bf (tB T) av bb (ak (aa 6) (ak (cP f3 (aa 5) (aa 7) (λ _ _=>rfl)) (ak aX aC)))))))
   (a5 (bJ (aa 6)))))))),?_⟩
  have R:=nQ ai;have jm:=cc.qZ;have e2:=cc.e2;have hu:=cc.hu;have wl:((bu W).map V.int).length=W.length:=by rw [a6,rJ]
  have cC:k1 H (.ref t) xs.length=true:=by
   unfold k1;rw [vh aW];show (decide (1<=((bu W).map V.int).length)&&decide (((bu W).map V.int).length<=40)&&((bu W).map V.int).all (uO xs.length))=true;rw [wl,cX e2,cX J2,Bool.and_self,mF,e5];intro y a8;obtain ⟨z,aS,rfl⟩:=dz.mp a8;unfold bu at aS;obtain ⟨u,bM,rfl⟩:=dz.mp aS;have:=wn u bM;show (decide (0<=(u:Int))&&decide ((u:Int)<(xs.length:Int)))=true;rw [cX .ab,cX .ab];rfl
  have Tt:q4 H (.ref t):=Mw aW (by rw [wl];omega) λ x ae=>by
   obtain ⟨i,_,rfl⟩:=dz.mp ae;trivial
  refine ⟨_,rfl,_,rfl,_,rfl,b,a,xs,ai,ps,.ref t,rfl,af,hf,ar,au,jm,cc.hV,Tt,(λ z=>by rw [cC] at z;cases z),λ t' fQ rY j6 _ qw kL=>?_⟩;cases rY;have vS:fQ=W:=by
   rw [aW] at j6;have I:(bu W).map V.int=(bu fQ).map V.int:=by
    injection j6 with I;injection I
   exact (F0 (By I)).symm
  subst vS;have B4:qw=P:=kL.uniq cc.path;subst B4;have vR:pX (rowsOf ai) ps qw fQ=some d:=by unfold pX;rw [if_pos cc.pj];exact cc.add
  refine ⟨(λ z=>by rw [vR] at z;cases z),λ d' oo ad H1 s1 hX=>?_⟩;rw [vR] at oo;cases oo;refine ⟨_,rfl,rfl,_,rfl,dn ?_⟩;refine ⟨_,rfl,b,xs,ai,rfl,s1 _ _ af,hf.same s1,ar,λ l ay ys gN s2 dQ uo=>?_⟩;have hh:=s1.trans s2;have Ko:(((bu fQ).map V.int).length:Int)=(fQ.length:Int):=by rw [wl]
  refine ⟨_,rfl,_,rfl,_,rfl,_,rfl,t,_,rfl,.inr (aP.of (hh _ _ aW)),_,_,rfl,rfl,⟨.ab,.ab⟩,?_⟩;have HY:N / (((bu fQ).map V.int).length:Int)=((N.toNat / fQ.length:Nat):Int):=by
   rw [Ko,Int.natCast_ediv,qh rT]
  have QC:N % (((bu fQ).map V.int).length:Int)=((N.toNat % fQ.length:Nat):Int):=by
   rw [Ko,Int.natCast_emod,qh rT]
  have U6:N.toNat / fQ.length<=N.toNat:=Nat.div_le_self _ _;have zH:N.toNat % fQ.length<fQ.length:=Nat.mod_lt _ .ab;have oj : -(2 ^ 64)<N / (((bu fQ).map V.int).length:Int)/\N / (((bu fQ).map V.int).length:Int)<2 ^ 64:=by
   rw [HY];generalize N.toNat / fQ.length=df at U6 ⊢;omega
  refine ⟨a,ad,ps,d,N / (((bu fQ).map V.int).length:Int),rfl,hh _ _ au,s2 _ _ hX,oj,.ab,λ hE aM s3 um=>?_⟩;rw [HY] at um;have m6:=hh.trans s3;refine ⟨_,rfl,_,rfl,_,rfl,t,_,rfl,.inr (aP.of (m6 _ _ aW)),_,_,rfl,rfl,(by show (0:Int)<_;omega),_,rfl,t,_,rfl,m6 _ _ aW,λ tt aO s4 sJ=>?_⟩;rw [QC,vm (lK _),dY] at sJ;generalize afd:N.toNat % fQ.length=r at *;have oC:=m6.trans s4;have hlen:(((bu fQ).map V.int).take r).length=r:=by rw [ff,wl];omega
  refine ⟨tt,rfl,⟨_,aP.of sJ⟩,Fw (K:=K) (a:=tt) (xs:=((bu fQ).map V.int).take r) (λ i σ bj => ∃ (c:Addr) (cur:aw) (u:cq),σ=[some (.ref b),some (.ref a),some (.ref t),some (.int N),some (.ref ad),some (.ref l),some (.ref c),u]/\aB aO bj/\bj c=some (tupI cur)/\(fQ.take i).foldl (λ x u=>c7 x ((rowsOf ai).getD u []) 1) (c7 ps d ((N.toNat / fQ.length:Nat):Int))=cur) ⟨hE,_,none,rfl,aB.refl _,s4 _ _ um,rfl⟩ (λ i σ bj _ ⟨_,_,_,_,s5,_⟩=>aP.of (s5 _ _ sJ)) ?_ ?_⟩
  ·rintro i x σ bj ae ⟨c,cur,u,rfl,s5,zx,mf⟩;have aq:i<r:=by
    have:=(cL.mp ae).1;omega
   rw [qa aq] at ae;obtain ⟨y,rfl,a8⟩:=iA ae;unfold bu at a8;rw [c9] at a8;obtain ⟨k,aE,rfl⟩:=Option.map_eq_some_iff.mp a8;have SX:=wn k (cf aE);obtain ⟨rc,w1⟩ : ∃ rc,(rowsOf ai)[k]?=some rc:=⟨(rowsOf ai)[k]'(by rw [k7,<-hf.1];exact SX),bz _⟩
   obtain ⟨z,e,aS,rfl,he⟩:=uo.of w1;have zX:=(s3.trans s4).trans s5;have jb:cur.length=10:=by
    obtain ⟨bh,_,oz⟩:=cc.fold ((N.toNat / fQ.length:Nat):Int) i .ab;rw [oz] at mf;rw [<-mf];obtain ⟨cm,g1,g2,g3,f6⟩:=cc.at (r:=i) .ab;have aN:bh=cm:=by
     have := ‹qw[i]?=some bh›;rw [g1] at this;exact (eA this).symm
    rw [aN];exact jM g3 hu
   refine ⟨_,rfl,_,rfl,_,rfl,l,_,_,_,rfl,rfl,aQ.of (zX _ _ dQ),qp aS,c,e,cur,rc,1,rfl,zx,zX _ _ he,⟨.aG,.aG⟩,.ab,λ dV cY bI dR=>?_⟩;refine ⟨dV,_,_,rfl,s5.trans bI,dR,?_⟩;rw [eC,aE,qk,mf];show c7 cur ((rowsOf ai).getD k []) 1=_;rw [vg w1]
  ·rintro σ bj ⟨c,cur,u,rfl,s5,zx,mf⟩;rw [hlen] at mf;obtain ⟨bh,I,oz⟩:=cc.fold ((N.toNat / fQ.length:Nat):Int) r .ab;rw [oz] at mf;rw [<-mf] at zx;exact ⟨_,rfl,q bh I c bj (oC.trans s5) zx⟩
noncomputable def abq:b9:=λ ag H Q _ => ∃ (a b:Addr) (r p:aw) (m n:Nat),ag=[.ref a,.ref b]/\H a=some (tupI r)/\H b=some (tupI p)/\r.length<=1000/\dy m r/\dy n p/\m<=20000/\n<=20000 /\ ∀ H',aB H H'->Q (.int (bc r p)) H'
theorem rM (T:cv K ax):cz P w ax base b_ 1 T.MC abq:=by
 refine T.MC.fn.cA N9 (λ ag H Q E h=>?_) (λ bt A outer s H ag Q E av h=>?_)
 ·obtain ⟨a,b,r,p,m,n,rfl,_⟩:=h;rfl
 ·obtain ⟨a,b,r,p,m,n,rfl,au,af,ar,dE,ao,hm,az,q⟩:=h;refine ⟨_,(a5 (bJ (cK (NM rfl) T.K1 KL (ak (fx (dC N9 (N:=["number", "power"]) (js:=[none,none]) (d3 _)) rfl (tf rfl rfl T.ki (ak (aa 0) (ak (aa 1) aC))) (λ _ _ _ _=>(i1 (K:=K) (n:=2) rfl rfl (cQ ed (cQ (g7 (i:=1) (show List.Nodup (["number", "power"]:cE) from by decide +kernel) rfl (Or.inl rfl) (Or.inr rfl)) fm)))) (λ _ _ _ _=>eD)
     (λ _ _ _ _=>(bZ yg (aa 0) (aa 1)))) aC)))),?_⟩
  refine ⟨_,rfl,_,rfl,a,b,rfl,⟨_,aP.of au⟩,⟨_,aP.of af⟩,λ D aT=>?_⟩;refine yM (f:=λ x y=>x * y) (σ0:=[]) (xs:=r) (ys:=p) (by rw [cW];omega) ⟨_,_,rfl⟩ aT au af (λ x y H' R ae a8 r=>⟨_,rfl,_,rfl,_,_,rfl,rfl,⟨m,n,dE x ae,ao y a8,hm,az⟩,r⟩) λ aM s3 aD=>?_
  exact ⟨D,_,rfl,aQ.of aD,q aM s3⟩
theorem Mt {i:Int} (h:s6 i=true):i<=1000000000000:=by
 unfold s6 at h;simp only [h4,decide_eq_true_eq] at h;exact h.1.2
theorem Zy {i j:Int} (h:kU i j=true):i<=1000000000000/\j<=1000000000000:=by
 unfold kU at h;simp only [h4] at h;exact ⟨Mt h.1.1,Mt h.1.2⟩
theorem uV {ai:cx} (hf : ∀ f∈ai,kU f.1 f.2=true) : ∀ c∈rowsOf ai,dy 6 c:=λ c aj n az=>by
 unfold rowsOf at aj;obtain ⟨f,wQ,rfl⟩:=dz.mp aj;obtain ⟨d7,ef⟩:=Zy (hf f wQ);obtain ⟨⟨gx,_⟩,⟨dq,_⟩⟩:=vD (hf f wQ);have:=WK .ab .ab .ab .ab az;show n.natAbs<=64;omega
noncomputable def acO:b9:=λ ag H Q _ => ∃ k p:Nat,ag=[.int (p:Int)]/\dK[k]?=some p /\ ∀ bh H',H bh=none->aB H H'->H' bh=some (tupI (iv k))->Q (.ref bh) H'
theorem aau {k p:Nat} (h:dK[k]?=some p):(dK.map λ q:Nat=>if q=p then (1:Int) else 0)=iv k:=by
 have aE:k<10:=(cL.mp h).1;have : ∀ k,k<10->(dK.map λ q:Nat=>if q=dK.getD k 0 then (1:Int) else 0)=iv k:=by decide
 have e:dK.getD k 0=p:=by rw [bk,h];rfl
 rw [<-e];exact this k aE
theorem O4 (T:cv K ax):cz P w ax base b_ 1 T.Ou acO:=by
 refine T.Ou.fn.cA O9 (λ ag H Q E h=>?_) (λ bt A outer s H ag Q E av h=>?_)
 ·obtain ⟨k,p,rfl,_⟩:=h;rfl
 ·obtain ⟨k,p,rfl,ao,q⟩:=h;refine ⟨_,(a5 (bJ (iu mJ T.h7 h6 (ak (fx (dC O9 (N:=["other", "prime"]) (js:=[none,some 0]) (e6.mpr ⟨rfl,(d3 _)⟩)) rfl (kZ (nL (v:=.ref T.gs) (by rfl) T.lR rfl)) (λ _ _ _ _=>ed) (λ _ _ _ _=>eD)
     (λ _ _ _ _=>(F6 (c6 h1 (aa 0) (aa 1) (cB _)) aX aX))) aC)))),?_⟩
  refine ⟨T.gs,rfl,⟨_,T.jL H⟩,λ D aT=>?_⟩;refine tA (K:=K) (a:=T.gs) (xs:=hj) (by rw [cW];decide) (λ i σ' H' ys=>(∃ u:cq,σ'=[u,some (.int (p:Int))])/\aB H H'/\ys=((dK.take i).map λ q:Nat=>if q=p then (1:Int) else 0).map V.int) ⟨⟨_,rfl⟩,aB.new aT,rfl⟩ (λ i σ' H' ys _ _ ⟨_,s',_⟩=>T.jL H') ?_ ?_
  ·rintro i x σ' H' ys R ae b7 eW ⟨⟨u,rfl⟩,s',rfl⟩ df;obtain ⟨r,rfl,dE,_⟩:=tL ae;have fin : ∀ v:Int,v=(if r=p then (1:Int) else 0)->R [some (.int (r:Int)),some (.int (p:Int))] (.int v) H':=λ v bl=>df _ _ _ b7 ⟨⟨_,rfl⟩,(by
    intro e o b1;rw [bw (bT b1 aT)];exact s' _ _ b1),(by rw [eC,dE,ej,ej,bl];rfl)⟩
   refine ⟨_,rfl,_,rfl,rfl,_,rfl,hx (λ h=>?_) (λ h=>?_)⟩
   ·have h0:(r:Int)=p:=A8 h;exact fin _ (by rw [if_pos .ab])
   ·have h0 : ¬ (r:Int)=p:=Fx h;exact fin _ (by rw [if_neg .ab])
  ·rintro σ' aO ys ig eW ⟨_,s4,rfl⟩;rw [show dK.take hj.length=dK from rfl,aau ao] at ig;exact ⟨D,_,rfl,aQ.of ig,λ dV bj eG s5 dR=>q dV bj (s4.free eG) (s4.trans s5) dR⟩
noncomputable def aeu:b9:=λ ag H Q _ => ∃ a b:Nat,ag=[.int (a:Int),.int (b:Int)]/\Q (.int ((Nat.gcd a b:Nat):Int)) H
theorem aer (T:cv K ax):cz P w ax base b_ 1 T.P4 aeu:=by
 refine T.P4.fn.cA BJ (λ ag H Q E h=>?_) (λ bt A outer s H ag Q E av h=>?_)
 ·obtain ⟨a,b,rfl,_⟩:=h;rfl
 ·obtain ⟨a,b,rfl,q⟩:=h;refine ⟨_,(aV (vp dZ (c6 rd (aa 1) aX (cB _))
    (aV (bP 2 BJ (bZ qe (aa 0) (aa 1)))
   (aV (bP 0 BJ (aa 1))
   (a5 (bP 1 BJ (aa 2))))))
   (a5 (bJ (aa 0)))),?_⟩
  refine yC (λ σ H1 => ∃ (x y:Nat) (u:cq),σ=[some (.int (x:Int)),some (.int (y:Int)),u]/\Nat.gcd x y=Nat.gcd a b/\H1=H) (λ σ _=>natAt σ 1) ⟨a,b,_,rfl,rfl,rfl⟩ ?_;rintro σ H1 ⟨x,y,u,rfl,aR,rfl⟩;refine ⟨_,rfl,rfl,_,rfl,?_⟩;rcases nE y with z | z
  ·subst z;refine dn ⟨_,rfl,?_⟩;rw [Nat.gcd_zero_right] at aR;rw [aR];exact q
  ·rw [ee (show ¬ V.int (y:Int)=V.int 0 from λ w=>by injection w with w;omega)];refine ea (xp ⟨_,rfl,_,rfl,_,_,rfl,rfl,(by show (0:Int)<y;omega),_,rfl,_,rfl,⟨⟨y,x % y,some (.int ((x:Int) % (y:Int))),?_,?_,rfl⟩,?_⟩⟩)
   ·rw [Int.natCast_emod];rfl
   ·rw [<-aR,Nat.gcd_comm x y,Nat.gcd_rec y x,Nat.gcd_comm]
   ·show ((x:Int) % (y:Int)).toNat<(y:Int).toNat;rw [<-Int.natCast_emod,dY,dY];exact Nat.mod_lt x z
noncomputable def abo:b9:=λ ag H Q _ => ∃ (l:Addr) (ns:aw) (m:Nat),ag=[.ref l]/\H l=some (.lst (ns.map V.int))/\ns.length<=1000/\dy m ns/\m<=8000/\(∃ n∈ns,n≠0) /\ ∀ bh H',H bh=none->aB H H'->H' bh=some (tupI (er ns))->Q (.ref bh) H'
theorem Zz (ns:aw) (i:Nat) {n:Int} (h:ns[i]?=some n):fW (ns.take (i+1))=Nat.gcd (fW (ns.take i)) n.natAbs:=by
 unfold fW;rw [eC,h,qk];rfl
theorem WD (n:Int):(if n<0 then -n else n)=((n.natAbs:Nat):Int):=by split<;>omega
theorem X3 (af:dy m ns) (h : ∃ n∈ns,n≠0):fW ns<=2 ^ m:=by
 obtain ⟨n,az,h0⟩:=h;have I:=Fe.mp (Int.dvd_natAbs.mpr (vn az));exact et (Nat.le_of_dvd .ab I) (af n az)
theorem Gv (T:cv K ax):cz P w ax base b_ 2 T.MA abo:=by
 refine T.MA.fn.cA tF (λ ag H Q E h=>?_) (λ bt A outer s H ag Q E av h=>?_)
 ·obtain ⟨l,ns,m,rfl,_⟩:=h;rfl
 ·obtain ⟨l,ns,m,rfl,ar,hlen,af,hm,w0,q⟩:=h;refine ⟨_,(aV (mz (i:=1) tF.eM rfl (Or.inr rfl) aX)
   (aV (eB dZ rfl (hA (aa 0)) (c_ 2 tF)
    (a5 (mz (i:=1) tF.eM rfl (Or.inr rfl) (bf (aer T) av bb (ak (aa 1) (ak (cK Zh T.Wb VT (ak (aa 2) aC)) aC))))))
   (aV (dJ (c6 nj (cP f3 (fx (dC tF (N:=["number"]) (js:=[none]) (d3 _)) rfl (hA (aa 0)) (λ _ _ _ _=>ed) (λ _ _ _ _=>(yj (c6 rd (aa 0) aX (cB _))))
     (λ _ _ _ _=>(aa 0))) aX (λ _ _=>rfl)) aX (cB _))
    (a5 (mz (i:=1) tF.eM rfl (Or.inr rfl) (kV k2 (aa 1))))
    dM)
   (a5 (bJ (iu mJ T.h7 h6 (ak (fx (dC tF (N:=["number", "shared"]) (js:=[none,some 1]) (e6.mpr ⟨rfl,(d3 _)⟩)) rfl (hA (aa 0)) (λ _ _ _ _=>ed) (λ _ _ _ _=>eD)
     (λ _ _ _ _=>(bZ ZR (aa 0) (aa 1)))) aC))))))),?_⟩
  refine ⟨_,rfl,l,rfl,⟨_,aQ.of ar⟩,rH (K:=K) (a:=l) (xs:=ns.map V.int) (λ i σ H1=>(∃ u:cq,σ=[some (.ref l),some (.int ((fW (ns.take i):Nat):Int)),u])/\H1=H) ⟨⟨none,rfl⟩,rfl⟩ (λ i σ H1 _ ⟨_,e⟩=>by rw [e];exact aQ.of ar) ?_ ?_⟩
  ·rintro i x σ H1 ae ⟨⟨u,rfl⟩,rfl⟩;obtain ⟨n,rfl,az⟩:=iA ae;refine ⟨_,rfl,_,rfl,_,rfl,fW (ns.take i),n.natAbs,by rw [WD];rfl,⟨some (.int n),?_⟩,rfl⟩;rw [Zz ns i az];rfl
  ·rintro σ H1 ⟨⟨u,rfl⟩,rfl⟩;rw [a6,kn];refine ⟨_,rfl,l,rfl,⟨_,aQ.of ar⟩,λ D aT=>?_⟩;refine acZ (K:=K) (t:=λ v => !decide (v=V.int 0)) (xs:=ns.map V.int) (σ0:=[]) (by rw [cW,a6];omega) ⟨_,rfl⟩ aT ar (λ x H' R _ ae r=>?_) (λ x H' R _ _ _ r=>⟨_,rfl,r⟩) λ ay s2 dj=>?_
   ·obtain ⟨n,_,rfl⟩:=dz.mp ae;exact ⟨_,rfl,rfl,_,rfl,r⟩
   have SQ:(ns.map V.int).filter (λ v => !decide (v=V.int 0))=(ns.filter λ n=>decide (n≠0)).map V.int:=by
    rw [List.filter_map];congr 1;apply List.filter_congr;intro n _;show (!decide (V.int n=V.int 0))=decide (n≠0);by_cases z:n=0
    ·rw [z];rfl
    ·rw [cX z,ee (λ w=>z (by injection w))];rfl
   rw [SQ] at dj;obtain ⟨mQ,zE,uq⟩:=w0;obtain ⟨f,rest,kO⟩ : ∃ f rest,ns.filter (λ n=>decide (n≠0))=f::rest:=by
    cases aK:ns.filter (λ n=>decide (n≠0)) with
    | nil =>
     have:mQ∈ns.filter (λ n=>decide (n≠0)):=mr.mpr ⟨zE,cX uq⟩;rw [aK] at this;cases this
    | cons f rest=>exact ⟨f,rest,rfl⟩
   have zI:hi ns=if f<0 then -1 else 1:=by unfold hi;rw [kO]
   rw [kO] at dj;have sy:=X3 af ⟨mQ,zE,uq⟩;have ae8:=Bf zE uq;have done : ∀ (kB:Int),kB=hi ns * (fW ns:Int)->kB≠0/\kB.natAbs<=2 ^ m /\ ∀ n∈ns,n.fdiv kB=n / (hi ns * (fW ns:Int)):=by
    intro kB e;refine ⟨by rw [e];exact FD ⟨mQ,zE,uq⟩,?_,?_⟩
    ·rw [e,u_,Int.natAbs_natCast];rcases yl ns with z | z<;>rw [z]<;>simpa using sy
    ·intro n az;rw [<-e];refine Int.fdiv_eq_ediv_of_dvd ?_;rw [e];have hm:=vn az;rcases yl ns with z | z
     ·rw [z,ko];exact hm
     ·rw [z,nH,ko];exact Int.neg_dvd.mpr hm
   have last : ∀ (kB:Int) (aM:aA),kB=hi ns * (fW ns:Int)->aB H1 aM -> ∀ (js:List (Option Nat)) (a4:TE) (σ:St) (R:bN) (jN:Addr),aM jN=none->(∃ u,pick js σ=u::[some (.int kB)])->(∀ (n:Int) (H':aA) (nX:bN),nX (.int (n.fdiv kB)) H'->a4 (some (.int n)::[some (.int kB)]) H' nX)->(∀ aO,aB aM aO->aO jN=some (.lst ((er ns).map V.int))->R (.ref jN) aO)->gF (oc K l) jN js (e4 0) iy a4 σ aM R:=by
    intro kB aM e s3 js a4 σ R jN gr ⟨u,bM⟩ Tj b4;obtain ⟨aJ,aN,dT⟩:=done kB e;refine BE (K:=K) (f:=λ v=>match v with | .int n=>.int (n.fdiv kB) | w=>w) (xs:=ns.map V.int) bM (by rw [cW,a6];omega) gr (aQ.of (s3 _ _ ar)) (λ x H' nX ae r=>?_) (b4 _ (aB.new gr) ?_)
    ·obtain ⟨n,_,rfl⟩:=dz.mp ae;exact Tj n H' nX r
    ·rw [bK];congr 2;unfold er;rw [fZ,fZ];refine qj λ n az=>?_
     show V.int (n.fdiv kB)=V.int (n / (hi ns * (fW ns:Int)));rw [dT n az]
   refine ⟨_,_,0,.int f,rfl,rfl,aQ.of dj,h5 .aG rfl,_,_,rfl,rfl,_,rfl,hx (λ h=>?_) (λ h=>?_)⟩
   ·have h0:f<0:=fY h;rw [if_pos h0] at zI;have e : -((fW ns:Nat):Int)=hi ns * (fW ns:Int):=by rw [zI,nH,ko]
    refine ⟨_,rfl,_,rfl,?_⟩;refine ⟨_,rfl,l,rfl,⟨_,aQ.of (s2 _ _ ar)⟩,λ jN gr=>last _ ay e s2 _ _ _ _ jN gr ⟨_,rfl⟩ (λ n H' nX r=>⟨_,rfl,_,rfl,_,_,rfl,rfl,⟨(done _ e).1,m,(done _ e).2.1,hm⟩,r⟩) λ aO s4 aL=>⟨jN,_,rfl,aQ.of aL,λ p bj eG s5 ao=>q p bj (s2.free (s4.free eG)) (s2.trans (s4.trans s5)) ao⟩⟩
   ·have h0 : ¬ f<0:=λ z=>h (cX z)
    rw [if_neg h0] at zI;have e:((fW ns:Nat):Int)=hi ns * (fW ns:Int):=by rw [zI,ko]
    refine ⟨_,rfl,l,rfl,⟨_,aQ.of (s2 _ _ ar)⟩,λ jN gr=>last _ ay e s2 _ _ _ _ jN gr ⟨_,rfl⟩ (λ n H' nX r=>⟨_,rfl,_,rfl,_,_,rfl,rfl,⟨(done _ e).1,m,(done _ e).2.1,hm⟩,r⟩) λ aO s4 aL=>⟨jN,_,rfl,aQ.of aL,λ p bj eG s5 ao=>q p bj (s2.free (s4.free eG)) (s2.trans (s4.trans s5)) ao⟩⟩
noncomputable def abk:b9:=λ ag H Q _ => ∃ (a o:Addr) (r f7:aw) (t u:Int) (b d:Nat),ag=[.ref a,.int t,.ref o,.int u]/\H a=some (tupI r)/\H o=some (tupI f7)/\r.length<=1000/\dy b r/\dy b f7/\t.natAbs<=2 ^ d/\u.natAbs<=2 ^ d/\b<=3000/\d<=4000/\(∃ n∈kd u t r f7,n≠0) /\
 ∀ bh H',H bh=none->aB H H'->H' bh=some (tupI (er (kd u t r f7)))->Q (.ref bh) H'
theorem aa8 (T:cv K ax):cz P w ax base b_ 3 T.Mx abk:=by
 refine T.Mx.fn.cA N7 (λ ag H Q E h=>?_) (λ bt A outer s H ag Q E av h=>?_)
 ·obtain ⟨a,o,r,f7,t,u,b,d,rfl,_⟩:=h;rfl
 ·obtain ⟨a,o,r,f7,t,u,b,d,rfl,au,a0,ar,I0,IY,aW,bM,af,hd,w0,q⟩:=h;refine ⟨_,(a5 (bJ (bf (Gv T) av bb (ak (fx (dC N7 (N:=["number", "taken", "other_total", "total"]) (js:=[none,none,some 3,some 1]) (e6.mpr ⟨rfl,(e6.mpr ⟨rfl,(d3 _)⟩)⟩)) rfl (tf rfl rfl T.ki (ak (aa 0) (ak (aa 2) aC))) (λ _ _ _ _=>(i1 (K:=K) (n:=2) rfl rfl (cQ ed (cQ (g7 (i:=1) (show List.Nodup (["number", "taken", "other_total", "total"]:cE) from by decide +kernel) rfl (Or.inl rfl) (Or.inr rfl)) fm)))) (λ _ _ _ _=>eD)
     (λ _ _ _ _=>(bZ nz (bZ yg (aa 2) (aa 0)) (bZ yg (aa 3) (aa 1))))) aC)))),?_⟩
  refine ⟨_,rfl,_,rfl,a,o,rfl,⟨_,aP.of au⟩,⟨_,aP.of a0⟩,λ D aT=>?_⟩;refine yM (f:=λ x y=>u * x - t * y) (σ0:=[some (.int u),some (.int t)]) (xs:=r) (ys:=f7) (by rw [cW];omega) ⟨_,_,rfl⟩ aT au a0 (λ x y H' R ae a8 r=>⟨_,rfl,_,rfl,_,_,rfl,rfl,⟨d,b,bM,I0 x ae,.ab,.ab⟩,_,rfl,_,rfl,_,_,rfl,rfl,⟨d,b,aW,IY y a8,.ab,.ab⟩,_,_,rfl,rfl,r⟩) λ aM s3 aD=>?_
  refine ⟨D,kd u t r f7,b+d+1,rfl,aD,?_,L9 bM aW I0 IY,.ab,w0,λ bh aO f4 s4 aK=>q bh aO (s3.free f4) (s3.trans s4) aK⟩;unfold kd;rw [k4];omega
noncomputable def ic (D:Addr) (H:aA) (ys:bB) (rows:aZ):Prop:=ys.length=rows.length /\ ∀ (i:Nat) (x:V),ys[i]?=some x -> ∃ c a,rows[i]?=some c/\x=.ref a/\a≠D/\H a=some (tupI c)
theorem ic.nil:ic D H [] []:=⟨rfl,λ i x ae=>by cases ae⟩
theorem ic.but {rows:aZ} (h:ic D H ys rows) (b : ∀ c o,c≠D->H c=some o->H' c=some o):ic D H' ys rows:=⟨h.1,λ i x ae=>by
 obtain ⟨c,a,I,ah,aD,aL⟩:=h.2 i x ae;exact ⟨c,a,I,ah,aD,b _ _ aD aL⟩⟩
theorem ic.rows {rows:aZ} (h:ic D H ys rows):dX H ys rows:=⟨h.1,λ i x ae=>by
 obtain ⟨c,a,I,ah,aD,aL⟩:=h.2 i x ae;exact ⟨c,I,a,ah,aL⟩⟩
theorem ic.snoc {rows:aZ} (h:ic D H ys rows) {c:aw} (na:a≠D) (au:H a=some (tupI c)):ic D H (ys++[.ref a]) (rows++[c]):=⟨by rw [cJ,cJ,h.1];rfl,λ i x ae=>by
 rcases k5 i ys.length with z | z
 ·rw [gi z] at ae;obtain ⟨bG,hn,I,ah⟩:=h.2 i x ae;exact ⟨bG,hn,by rw [gi (by rw [<-h.1];exact z)];exact I,ah⟩
 ·rw [g4 z] at ae;have hb:i - ys.length=0:=by
   rcases nE (i - ys.length) with z | z
   ·exact z
   ·rw [g6 (show [V.ref a].length<=_ from z)] at ae;cases ae
  rw [hb] at ae;cases ae;exact ⟨c,a,by rw [g4 (by rw [<-h.1];exact z),<-h.1,hb];rfl,rfl,na,au⟩⟩
theorem getD_some {rows:aZ} {i:Nat} {r:aw} (h:rows[i]?=some r):rows.getD i []=r:=by rw [bk,h];rfl
noncomputable def ace:b9:=λ ag H Q _ => ∃ (l ca:Addr) (ys:bB) (rows cs:aZ) (c:aw) (b:Nat),ag=[.ref l,.ref ca]/\H l=some (.lst ys)/\dX H ys rows/\H ca=some (tupI c)/\dy 6 c/\gE b cs rows/\b<=6000/\(b<=3000\/rows.length<=1)/\rows.length<=10 /\
 ∀ jw H' hL,(jw=l\/H jw=none)->aB H H'->H' jw=some (.lst hL)->dX H' hL (mq c rows)->Q (.ref jw) H'
theorem ab2 (T:cv K ax):cz P w ax base b_ 4 T.NC ace:=by
 refine T.NC.fn.cA tJ (λ ag H Q E h=>?_) (λ bt A outer s H ag Q E av h=>?_)
 ·obtain ⟨l,ca,ys,rows,cs,c,b,rfl,_⟩:=h;rfl
 ·obtain ⟨l,ca,ys,rows,cs,c,b,rfl,ar,b4,so,ue,cC,af,SG,afL,q⟩:=h;refine ⟨_,(aV (mz (i:=2) tJ.eM rfl (Or.inr rfl) (fx (dC tJ (N:=["row", "changes"]) (js:=[none,some 1]) (e6.mpr ⟨rfl,(d3 _)⟩)) rfl (hA (aa 0)) (λ _ _ _ _=>ed) (λ _ _ _ _=>eD)
     (λ _ _ _ _=>(bf (rM T) av bb (ak (aa 0) (ak (aa 1) aC))))))
   (aV (vj (i:=3) tJ.eM rfl (Or.inl rfl) (dC tJ (N:=["place", "total"]) (js:=[none,none]) (d3 _)) rfl (vi rfl rfl T.o1 (ak (aa 2) aC)) (λ _ _ _ _=>(i1 (K:=K) (n:=2) rfl rfl (cQ ed (cQ (g7 (i:=1) (show List.Nodup (["place", "total"]:cE) from by decide +kernel) rfl (Or.inl rfl) (Or.inr rfl)) fm)))) (λ _ _ _ _=>(yj (c6 rd (aa 1) aX (cB _))))
     (λ _ _ _ _=>(aa 0)))
   (aV (dJ (c6 h1 (cK ew T.ec eb (ak (aa 3) aC)) aX (cB _))
    (a5 (bJ (aa 0)))
    dM)
   (aV (mz (i:=4) tJ.eM rfl (Or.inr rfl) (cP f3 (aa 3) (kV k2 aX) (λ _ _=>rfl)))
   (a5 (bJ (fx (dC tJ (N:=["row", "total", "rows", "last", "sums"]) (js:=[none,none,some 0,some 4,some 2]) (e6.mpr ⟨rfl,(e6.mpr ⟨rfl,(e6.mpr ⟨rfl,(d3 _)⟩)⟩)⟩)) rfl (yi rfl rfl T.ki (ak (aa 0) (ak (aa 2) aC))) (λ _ _ _ _=>(i1 (K:=K) (n:=2) rfl rfl (cQ ed (cQ (g7 (i:=1) (show List.Nodup (["row", "total", "rows", "last", "sums"]:cE) from by decide +kernel) rfl (Or.inl rfl) (Or.inr rfl)) fm)))) (λ _ _ _ _=>(yj (c6 (AL (mn av)) (aa 0) (cP (rI (K:=K) rfl) (aa 2) (aa 3) (λ _ _=>rfl)) (cB _))))
     (λ _ _ _ _=>(bf (aa8 T) av bb (ak (aa 0) (ak (aa 1) (ak (cP (rI (K:=K) rfl) (aa 2) (aa 3) (λ _ _=>rfl)) (ak (cP (rI (K:=K) rfl) (aa 4) (aa 3) (λ _ _=>rfl)) aC))))))))))))),?_⟩
  have pk:=b4.1;refine ⟨_,rfl,l,rfl,⟨_,aQ.of ar⟩,λ D aT=>?_⟩;refine tE (K:=K) (a:=l) (xs:=ys) (by rw [cW];omega) (λ i σ' H' zs=>(∃ u:cq,σ'=[u,some (.ref ca)])/\aB H H'/\zs=((rows.take i).map λ r=>bc r c).map V.int) ⟨⟨_,rfl⟩,aB.new aT,rfl⟩ (λ i σ' H' ys _ _ ⟨_,s',_⟩=>aQ.of (s' _ _ ar)) ?_ ?_
  ·rintro i x σ' H' zs R ae b7 eW ⟨⟨u,rfl⟩,s',rfl⟩ df;obtain ⟨r,dE,dw,rfl,hH⟩:=b4.2 i x ae;have jl:=cf dE;refine ⟨_,rfl,_,rfl,dw,ca,r,c,b,6,rfl,s' _ _ hH,s' _ _ so,by rw [cC.iP r jl];decide,cC.bd r jl,ue,.ab,.aG,λ aM s3=>df _ _ _ (s3 _ _ b7) ⟨⟨_,rfl⟩,?_,?_⟩⟩
   ·intro e o b1;rw [bw (bT b1 aT)];exact s3 _ _ (s' _ _ b1)
   ·rw [eC,dE,ej,ej];rfl
  rintro σ' H1 zs kK gU ⟨_,s1,rfl⟩;rw [fG .ab] at kK;generalize Jq:(rows.map λ r=>bc r c)=f9 at kK;have Kx:f9.length=rows.length:=by rw [<-Jq,a6]
  have sat : ∀ i r,rows[i]?=some r->f9[i]?=some (bc r c):=λ i r h=>by rw [<-Jq,c9,h];rfl
  refine ⟨_,rfl,D,_,rfl,kK,λ h8 dj=>?_⟩;refine acY (K:=K) (xs:=f9.map V.int) (σ0:=[]) (t:=λ i=>decide (bc (rows.getD i []) c≠0)) (f:=λ i:Nat=>V.int (i:Int)) (by rw [cW,a6];omega) ⟨_,_,rfl⟩ dj kK (λ i x H' R _ ae r=>?_) (λ i x H' R _ _ _ r=>⟨_,rfl,r⟩) λ ay s2 sT=>?_
  ·obtain ⟨n,rfl,az⟩:=iA ae;have ou:i<rows.length:=by rw [<-Kx];exact (cL.mp az).1
   have gD:rows[i]?=some rows[i]:=bz ou;rw [sat i _ gD] at az;cases az;refine ⟨_,rfl,rfl,_,rfl,?_⟩;have e:(!decide (V.int (bc rows[i] c)=V.int 0))=decide (bc (rows.getD i []) c≠0):=by
    rw [getD_some gD];by_cases z:bc rows[i] c=0
    ·rw [z];rfl
    ·rw [cX z,ee (λ w=>z (by injection w))];rfl
   rw [e];exact r
  rw [a6,Kx] at sT;have gr:ay h8=some (.lst ((iq c rows).map λ i:Nat=>V.int (i:Int))):=sT;have il:=s1.trans s2;refine ⟨_,rfl,h8,_,rfl,.inl (aQ.of gr),rfl,_,rfl,?_⟩;rw [a6];cases cc:(iq c rows).getLast? with
  | none =>
   have he:iq c rows=[]:=List.getLast?_eq_none_iff.mp cc;have aN:mq c rows=rows:=by unfold mq;rw [cc]
   rw [aN] at q;rw [he];exact ea ⟨_,rfl,q l ay ys (.inl rfl) il (il _ _ ar) (b4.same il)⟩
  | some L =>
   obtain ⟨us,Jt⟩:=List.getLast?_eq_some_iff.mp cc;obtain ⟨kq,bC,nV⟩:=Bk cc;have IU:=abS cC cc;have aN:mq c rows=(rows.filter λ r=>decide (r≠rows.getD L [])).map (sg c (rows.getD L [])):=by unfold mq;rw [cc]
   rw [aN] at q;have Tp:(iq c rows).length=us.length+1:=by rw [Jt,cJ];rfl
   rw [ee (show ¬ V.int (((iq c rows).length:Nat):Int)=V.int 0 from λ z=>by injection z with z;omega)];obtain ⟨f7,oB⟩ : ∃ f7,rows[L]?=some f7:=⟨_,bz kq⟩
   have Rg:rows.getD L []=f7:=getD_some oB;rw [Rg] at q bC IU;obtain ⟨Q1,Dz⟩ : ∃ x,ys[L]?=some x:=⟨_,bz .ab⟩
   obtain ⟨afy,Kj,HX,rfl,IV⟩:=b4.2 L Q1 Dz;rw [oB] at Kj;cases Kj;have UX:lq ((iq c rows).map λ i:Nat=>V.int (i:Int)) (-1)=some (.int (L:Int)):=Fi (n:=us.length) (by rw [a6,Tp]) (by rw [Jt,ej,g4 (by rw [a6];exact br _),a6,Nat.sub_self];rfl);refine dn ⟨_,rfl,_,rfl,h8,_,_,_,rfl,rfl,aQ.of gr,UX,?_⟩;refine ⟨_,rfl,_,rfl,l,D,_,_,rfl,il _ _ ar,s2 _ _ kK,λ yS ig=>?_⟩;refine ac1 (K:=K) (xs:=ys) (ys:=f9.map V.int) (σ0:=[some (.ref l),some (.int (L:Int)),some (.ref D)]) (by rw [a6];omega) (by rw [cW];omega) ⟨_,_,rfl⟩ ig (il _ _ ar) (s2 _ _ kK) (λ i=>decide (rows.getD i []≠f7)) (λ i H' zs=>ic yS H' zs (((rows.take i).filter λ r=>decide (r≠f7)).map (sg c f7))) ic.nil (λ i H' ay zs h b=>h.but b) (λ i x y H' R s' ae a8 r=>?_) (λ i x y H' zs s' ae a8 aW h=>?_) (λ i x y H' zs R s' ae a8 aW b7 h k=>?_) ?_
   ·obtain ⟨hW,gD,dw,rfl,hH⟩:=b4.2 i x ae;have pP:=il.trans s';refine ⟨_,rfl,_,rfl,_,rfl,l,_,_,_,rfl,rfl,aQ.of (pP _ _ ar),qp Dz,dw,HX,hW,f7,rfl,rfl,pP _ _ hH,pP _ _ IV,_,rfl,?_⟩;rw [getD_some gD] at r;have e:(!decide (hW=f7))=decide (hW≠f7):=by
     by_cases z:hW=f7
     ·rw [cX z,ee (λ w=>w z)];rfl
     ·rw [ee z,cX z];rfl
    rw [e];exact r
   ·obtain ⟨hW,gD,dw,rfl,hH⟩:=b4.2 i x ae;rw [getD_some gD] at aW;rw [eC,gD,u7];have:[hW].filter (λ r=>decide (r≠f7))=[]:=by simp only [List.filter_cons,aW,List.filter_nil];rfl
    show ic yS H' zs ((_++[hW].filter _).map _);rw [this,mx];exact h
   ·obtain ⟨hW,gD,dw,rfl,hH⟩:=b4.2 i x ae;obtain ⟨n,rfl,az⟩:=iA a8;rw [sat i _ gD] at az;cases az;rw [getD_some gD] at aW;have ui:=cf gD;have Dm:=cf oB;have pP:=il.trans s';have zX:=s2.trans s';have fD:b<=3000:=by
     rcases SG with z | z
     ·exact z
     ·exfalso;have gx:=(cL.mp gD).1;have QM:i=0:=by omega
      have iF:L=0:=by omega
      rw [QM] at gD;rw [iF,gD] at oB;exact (fY aW) (eA oB)
    obtain ⟨ld,S2⟩:=cC.r4 hW ui;have w0:=(Ma (by rw [cC.iP hW ui,cC.iP f7 Dm]) bC (IU hW ui (fY aW)) S2).mem;refine ⟨_,rfl,_,rfl,_,rfl,_,rfl,l,_,_,_,rfl,rfl,aQ.of (pP _ _ ar),qp Dz,_,rfl,_,rfl,D,_,_,_,rfl,rfl,aQ.of (zX _ _ kK),qp (by rw [c9,sat L _ oB];rfl),dw,HX,hW,f7,bc hW c,bc f7 c,b,b+10,rfl,pP _ _ hH,pP _ _ IV,by rw [cC.iP hW ui];decide,cC.bd hW ui,cC.bd f7 Dm,Ll cC ue ui,Ll cC ue Dm,.ab,.ab,w0,λ pa bj eG s5 Dq=>k _ bj s5 ?_⟩;rw [eC,gD,u7];have:[hW].filter (λ r=>decide (r≠f7))=[hW]:=by simp only [List.filter_cons,aW,List.filter_nil];rfl
    show ic yS bj _ ((_++[hW].filter _).map _);rw [this,ej];exact (h.but λ c o _ e=>s5 _ _ e).snoc (bT b7 eG).symm Dq
   ·intro bj zs s5 pB cp;rw [fG .ab] at cp;exact q yS bj zs (.inr (il.free ig)) (il.trans s5) pB cp.rows
noncomputable def YZ:b9:=λ ag H Q _ => ∃ (b:Addr) (xs:bB) (ai:cx),ag=[.ref b]/\H b=some (.tup xs)/\ei H xs ai/\xs.length<=1000 /\
 ∀ l H' ys,H l=none->aB H H'->H' l=some (.lst ys)->dX H' ys (mm (rowsOf ai))->Q (.ref l) H'
theorem Mg (T:cv K ax):cz P w ax base b_ 5 T.Lc YZ:=by
 refine T.Lc.fn.cA yk (λ ag H Q E h=>?_) (λ bt A outer s H ag Q E av h=>?_)
 ·obtain ⟨b,xs,ai,rfl,_⟩:=h;rfl
 ·obtain ⟨b,xs,ai,rfl,af,hf,zd,q⟩:=h;refine ⟨_,(aV (vj (i:=1) yk.eM rfl (Or.inl rfl) (dC yk (N:=["prime"]) (js:=[none]) (d3 _)) rfl (kZ (nL (v:=.ref T.gs) (by rfl) T.lR rfl)) (λ _ _ _ _=>ed) (λ _ _ _ _=>eD)
     (λ _ _ _ _=>(bf (O4 T) av bb (ak (aa 0) aC))))
   (aV (eB dZ rfl (hA (bf (lU T) av bb (ak (aa 0) aC))) (c_ 2 yk)
    (a5 (bP 1 yk (bf (ab2 T) av bb (ak (aa 1) (ak (aa 2) aC))))))
   (a5 (bJ (aa 1))))),?_⟩
  have oj:=uV hf.ok;have gN:=hf.1;have t2:=k7 ai;refine ⟨T.gs,rfl,⟨_,T.jL H⟩,λ D aT=>?_⟩;refine tA (K:=K) (a:=T.gs) (xs:=hj) (by rw [cW];decide) (λ i σ' H' ys=>(∃ u:cq,σ'=[u])/\aB H H'/\ic D H' ys (units.take i)) ⟨⟨_,rfl⟩,aB.new aT,ic.nil⟩ (λ i σ' H' ys _ _ ⟨_,s',_⟩=>T.jL H') ?_ ?_
  ·rintro i x σ' H' ys R ae b7 eW ⟨⟨u,rfl⟩,s',Sy⟩ df;obtain ⟨r,rfl,dE,_⟩:=tL ae;have aq:i<10:=(cL.mp dE).1;refine ⟨_,rfl,i,r,rfl,dE,λ cS ay f2 s2 fV=>df _ _ _ (s2 _ _ b7) ⟨⟨_,rfl⟩,?_,?_⟩⟩
   ·intro e o b1;rw [bw (bT b1 aT)];exact s2 _ _ (s' _ _ b1)
   ·have aJ:units[i]?=some (iv i):=by unfold units;rw [c9,nJ aq];rfl
    rw [eC,aJ];exact ((Sy.but λ c o _ e=>s2 _ _ e).snoc (bT b7 f2).symm fV).but λ c o n e=>by rw [bw n];exact e
  rintro σ' H1 ys kK eW ⟨_,s1,IM⟩;rw [show units.take hj.length=units from rfl] at IM;refine ⟨_,rfl,b,xs,ai,rfl,s1 _ _ af,hf.same s1,.ab,λ l ay cs f2 s2 dQ H3=>?_⟩;have cl:=H3.1;refine ⟨l,rfl,⟨_,aQ.of dQ⟩,rH (K:=K) (a:=l) (xs:=cs) (λ i σ aM=>(∃ (n3:Addr) (u:cq) (hL:bB),σ=[some (.ref b),some (.ref n3),u]/\H n3=none/\aM n3=some (.lst hL)/\dX aM hL (mm ((rowsOf ai).take i)))/\aB ay aM) ⟨⟨D,_,ys,rfl,aT,s2 _ _ kK,IM.rows.same s2⟩,aB.refl _⟩ (λ i σ aM _ ⟨_,s'⟩=>aQ.of (s' _ _ dQ)) ?_ ?_⟩
  ·rintro i x σ aM ae ⟨⟨n3,u,hL,rfl,kO,uh,zu⟩,s3⟩;obtain ⟨c,aj,ca,rfl,so⟩:=H3.2 i x ae;have aq:i<(rowsOf ai).length:=(cL.mp aj).1;obtain ⟨j,B_,H5,cC⟩:=Eo oj i .ab;have IW:=Ka j B_;have SI:o6 j<=3000\/(mm ((rowsOf ai).take i)).length<=1:=by
    by_cases z:j=9
    ·exact .inr .ab
    ·exact .inl (by have:=UI j .ab;omega)
   refine ⟨_,rfl,_,rfl,n3,ca,hL,_,_,c,o6 j,rfl,uh,zu,s3 _ _ so,oj c (cf aj),cC,.ab,SI,.ab,λ r1 aO Uy SP s4 fE Sz=>⟨⟨r1,_,Uy,rfl,?_,fE,?_⟩,s3.trans s4⟩⟩
   ·rcases SP with z | z
    ·rw [z];exact kO
    ·exact s1.free (s2.free (s3.free z))
   rw [Ow aj];exact Sz
  ·rintro σ aM ⟨⟨n3,u,hL,rfl,kO,uh,zu⟩,s3⟩;rw [fG .ab] at zu;exact ⟨_,rfl,q n3 aM hL kO (s1.trans (s2.trans s3)) uh zu⟩
theorem LQ {ai:cx} (hf:ei H xs ai):gE 5621 (rowsOf ai) (mm (rowsOf ai))/\(mm (rowsOf ai)).length<=10:=by
 obtain ⟨j,B_,H5,I⟩:=Eo (uV hf.ok) (rowsOf ai).length (br _);rw [kn] at I H5;exact ⟨I.more (Ka j B_),.ab⟩
noncomputable def zW (ai:cx) (aJ aN:aw):Option aw:=(mm (rowsOf ai)).find? λ r=>decide (bc r aJ≠bc r aN)
theorem ac4 {rows:aZ} {t:aw->Bool} : ∀ {i:Nat} {r:aw},(rows.take i).find? t=none->rows[i]?=some r->(rows.take (i+1)).find? t=if t r=true then some r else none:=λ {i r} h h'=>by
 rw [eC,h',List.find?_append,h];show (none:Option aw).or ([r].find? t)=_;rw [Option.none_or,nG];cases t r<;>rfl
theorem aaQ {rows:aZ} {t:aw->Bool} {i:Nat} {r:aw} (h:(rows.take i).find? t=some r):rows.find? t=some r:=by
 have e:rows=rows.take i++rows.drop i:=(List.take_append_drop i rows).symm;rw [e,List.find?_append,h];rfl
noncomputable def adv:b9:=λ ag H Q _ => ∃ (b p1 cS:Addr) (xs:bB) (ai:cx) (aJ aN:aw) (m:Nat),ag=[.ref b,.ref p1,.ref cS]/\H b=some (.tup xs)/\ei H xs ai/\xs.length<=1000/\H p1=some (tupI aJ)/\H cS=some (tupI aN)/\dy m aJ/\dy m aN/\m<=20000 /\
 (∀ a H' r,zW ai aJ aN=some r->aB H H'->H' a=some (tupI r)->Q (.ref a) H')/\(zW ai aJ aN=none -> ∀ H',aB H H'->Q .cV H')
theorem ade (T:cv K ax):cz P w ax base b_ 6 T.OR adv:=by
 refine T.OR.fn.cA Pw (λ ag H Q E h=>?_) (λ bt A outer s H ag Q E av h=>?_)
 ·obtain ⟨b,p1,cS,xs,ai,aJ,aN,m,rfl,_⟩:=h;rfl
 ·obtain ⟨b,p1,cS,xs,ai,aJ,aN,m,rfl,af,hf,zd,I,ah,d7,ef,hm,ba,cm⟩:=h;refine ⟨_,(aV (eB dZ rfl (hA (bf (Mg T) av bb (ak (aa 0) aC))) (c_ 3 Pw)
    (a5 (dJ (c6 rd (bf (rM T) av bb (ak (aa 3) (ak (aa 1) aC))) (bf (rM T) av bb (ak (aa 3) (ak (aa 2) aC))) (cB _))
    (a5 (bJ (aa 3)))
    dM)))
   (a5 (bJ gG))),?_⟩
  obtain ⟨cC,UR⟩:=LQ hf;refine ⟨_,rfl,b,xs,ai,rfl,af,hf,zd,λ l H1 ys _ s1 ar b4=>?_⟩;have pk:=b4.1;refine ⟨l,rfl,⟨_,aQ.of ar⟩,rH (K:=K) (a:=l) (xs:=ys) (λ i σ aM=>(∃ u:cq,σ=[some (.ref b),some (.ref p1),some (.ref cS),u])/\aB H1 aM/\((mm (rowsOf ai)).take i).find? (λ r=>decide (bc r aJ≠bc r aN))=none) ⟨⟨_,rfl⟩,aB.refl _,rfl⟩ (λ i σ aM _ ⟨_,s',_⟩=>aQ.of (s' _ _ ar)) ?_ ?_⟩
  ·rintro i x σ aM ae ⟨⟨u,rfl⟩,s3,ox⟩;obtain ⟨r,dE,a,rfl,au⟩:=b4.2 i x ae;have jl:=cf dE;have q1:=s1.trans s3;have ey:=ac4 ox dE;refine ⟨_,rfl,_,rfl,a,p1,r,aJ,5621,m,rfl,s3 _ _ au,q1 _ _ I,by rw [cC.iP r jl];decide,cC.bd r jl,d7,.aG,hm,λ aO s4=>⟨_,rfl,_,rfl,a,cS,r,aN,5621,m,rfl,s4 _ _ (s3 _ _ au),s4 _ _ (q1 _ _ ah),by rw [cC.iP r jl];decide,cC.bd r jl,ef,.aG,hm,λ bj s5=>?_⟩⟩;have pP:=q1.trans (s4.trans s5);refine ⟨rfl,_,rfl,?_⟩;by_cases z:bc r aJ=bc r aN
   ·rw [if_neg (by rw [oV];exact λ w=>w z)] at ey;rw [cX (show V.int (bc r aJ)=V.int (bc r aN) by rw [z])];exact dn ⟨⟨_,rfl⟩,s3.trans (s4.trans s5),ey⟩
   ·rw [if_pos (cX z)] at ey;rw [ee (show ¬ V.int (bc r aJ)=V.int (bc r aN) from λ w=>z (by injection w))];exact ea ⟨_,rfl,ba a bj r (aaQ ey) pP (s5 _ _ (s4 _ _ (s3 _ _ au)))⟩
  ·rintro σ aM ⟨⟨u,rfl⟩,s3,ox⟩;rw [fG .ab] at ox;exact cm ox aM (s1.trans s3)
end
theorem at_getD {r:aw} {k:Nat} (h:k<r.length):lq (r.map V.int) (k:Int)=some (.int (r.getD k 0)):=h5 .ab (by rw [dY,c9,bk,bz h];rfl)
noncomputable def kc (ns:aw):Option Nat:=(List.range ns.length).find? λ j=>decide (0<ns.getD j 0)
theorem Bu {t:Nat->Bool} : ∀ {n i:Nat},i<=n->(∀ j,j<i->t j=false)->(List.range n).find? t=(List.range' i (n - i)).find? t:=λ {n i} aq h=>by
 have e:List.range n=List.range i++List.range' i (n - i):=by
  rw [List.range_eq_range',List.range_eq_range'];have:=List.range'_append_1 (s:=0) (m:=i) (n:=n - i);rw [rx,show i+(n - i)=n by omega] at this;exact this.symm
 rw [e,List.find?_append,ya.mpr λ x ae=>by rw [h x (fH.mp ae)];exact fc];rfl
section
variable {P:Program}
noncomputable def ad_:b9:=λ ag H Q _ => ∃ (a:Addr) (ns:aw),ag=[.ref a]/\H a=some (.lst (ns.map V.int))/\ns.length<=1000 /\ ∀ H',aB H H'->Q (ra (kc ns)) H'
theorem PV (T:cv K ax):cz P w ax base b_ 1 T.PE ad_:=by
 refine T.PE.fn.cA HF (λ ag H Q E h=>?_) (λ bt A outer s H ag Q E av h=>?_)
 ·obtain ⟨a,ns,rfl,_⟩:=h;rfl
 ·obtain ⟨a,ns,rfl,au,ar,q⟩:=h;refine ⟨_,(aV (eB dZ rfl (vi rfl rfl T.o1 (ak (aa 0) aC)) (km rfl (cQ (c_ 1 HF) (cQ (c_ 2 HF) fm)))
    (a5 (dJ (c6 xO (aa 2) aX (cB _))
    (a5 (bJ (aa 1)))
    dM)))
   (a5 (bJ gG))),?_⟩
  refine ⟨_,rfl,a,_,rfl,au,Be (xs:=ns.map V.int) (λ i σ gI=>(∃ u v:cq,σ=[some (.ref a),u,v])/\aB H gI /\ ∀ j,j<i->decide (0<ns.getD j 0)=false) ⟨⟨_,_,rfl⟩,aB.refl _,λ j aY=>absurd aY (jq _)⟩ (λ i σ gI _ ⟨_,s',_⟩=>s' _ _ au) ?_ ?_⟩
  ·rintro i x p σ gI ae ao ⟨⟨u,v,rfl⟩,s',aS⟩;obtain ⟨n,rfl,az⟩:=iA ae;have ou:=(cL.mp az).1;have y4:ns.getD i 0=n:=by rw [bk,az];rfl
   refine ⟨p,_,rfl,aP.of bK,rfl,_,_,rfl,_,_,rfl,rfl,?_⟩;refine ⟨_,rfl,_,_,rfl,rfl,_,rfl,hx (λ h=>?_) (λ h=>?_)⟩
   ·have aR:0<n:=fY h;have e:kc ns=some i:=by
     unfold kc;rw [Bu (Nat.le_of_lt ou) aS,show ns.length - i=(ns.length - i - 1)+1 by omega,List.range'_succ,nG,y4,cX aR]
    have bh:=q _ (aB.more s' ao (o:=.tup [.int (i:Int),.int n]));rw [e] at bh;exact ⟨_,rfl,bh⟩
   ·refine ⟨⟨_,_,rfl⟩,aB.more s' ao,λ j aY=>?_⟩;by_cases e:j=i
    ·rw [e,y4];exact ee λ z=>h (cX z)
    ·exact aS j .ab
  ·rintro σ gI ⟨⟨u,v,rfl⟩,s',aS⟩;rw [a6] at aS;have e:kc ns=none:=by
    unfold kc;rw [Bu (br _) aS,Nat.sub_self];rfl
   have bh:=q gI s';rw [e] at bh;exact bh
noncomputable def oD (H:aA) (cT:bB) (tab:aZ):Prop:=cT.length=tab.length /\ ∀ (i:Nat) (x:V),cT[i]?=some x -> ∃ c a,tab[i]?=some c/\x=.ref a/\H a=some (jn c)
theorem oD.same {tab:aZ} (h:oD H cT tab) (s:aB H H'):oD H' cT tab:=⟨h.1,λ i x ae=>by
 obtain ⟨c,a,I,ah,aD⟩:=h.2 i x ae;exact ⟨c,a,I,ah,s _ _ aD⟩⟩
theorem oD.at {tab:aZ} (h:oD H cT tab) {k:Nat} (aE:k<tab.length) : ∃ a,cT[k]?=some (.ref a)/\H a=some (jn (tab.getD k [])):=by
 have ar:k<cT.length:=by rw [h.1];exact aE
 obtain ⟨c,a,I,ah,aD⟩:=h.2 k cT[k] (bz ar);refine ⟨a,by rw [bz ar,ah],?_⟩;rw [bk,I];exact aD
noncomputable def fF (tab:aZ):Nat->Nat->Int:=λ p j=>(tab.getD p []).getD j 0
noncomputable def J8 (tab:aZ) (aH:bo) (col:Nat):Option Nat->Prop
 | none => ∀ p,p<10->fF tab p col<=0
 | some p=>p<10/\0<fF tab p col /\ ∀ q,q<10->0<fF tab q col->aH.getD p 0<=aH.getD q 0
noncomputable def wj (D:Addr) (H:aA) (xs:bB) (ps:cx):Prop:=xs.length=ps.length /\ ∀ (k:Nat) x,xs[k]?=some x -> ∃ a i j,x=.ref a/\ps[k]?=some (i,j)/\a≠D/\H a=some (.tup [.int i,.int j])
theorem wj.snoc {ps:cx} (h:wj D H ys ps) {i j:Int} (na:a≠D) (au:H a=some (.tup [.int i,.int j])):wj D H (ys++[.ref a]) (ps++[(i,j)]):=⟨by rw [cJ,cJ,h.1];rfl,λ k x ae=>by
 rcases k5 k ys.length with z | z
 ·rw [gi z] at ae;obtain ⟨hn,kv,hp,I,ah,aD⟩:=h.2 k x ae;exact ⟨hn,kv,hp,I,by rw [gi (by rw [<-h.1];exact z)];exact ah,aD⟩
 ·rw [g4 z] at ae;have hb:k - ys.length=0:=by
   rcases nE (k - ys.length) with z | z
   ·exact z
   ·rw [g6 (show [V.ref a].length<=_ from z)] at ae;cases ae
  rw [hb] at ae;cases ae;exact ⟨a,i,j,rfl,by rw [g4 (by rw [<-h.1];exact z),<-h.1,hb];rfl,na,au⟩⟩
theorem Nh {t:Nat->Bool} {i:Nat}:(List.range (i+1)).filter t=(List.range i).filter t++if t i=true then [i] else []:=by
 rw [vb,u7];congr 1;by_cases z:t i=true
 ·simp [z]
 ·simp [z]
noncomputable def p4 (tab:aZ) (aH:bo) (col n:Nat):cx:=((List.range n).filter λ p=>decide (0<fF tab p col)).map λ p=>(((aH.getD p 0:Nat):Int),((p:Nat):Int))
noncomputable def ach:b9:=λ ag H Q _ => ∃ (tb bs:Addr) (cT:bB) (tab:aZ) (aH:bo) (col:Nat),ag=[.ref tb,.ref bs,.int (col:Int)]/\H tb=some (.lst cT)/\oD H cT tab/\tab.length=11/\(∀ r∈tab,col<r.length)/\H bs=some (jn (bu aH))/\aH.length=10 /\
 ∀ o H',aB H H'->J8 tab aH col o->Q (ra o) H'
theorem ab4 (T:cv K ax):cz P w ax base b_ 1 T.NF ach:=by
 refine T.NF.fn.cA G4 (λ ag H Q E h=>?_) (λ bt A outer s H ag Q E av h=>?_)
 ·obtain ⟨tb,bs,cT,tab,aH,col,rfl,_⟩:=h;rfl
 ·obtain ⟨tb,bs,cT,tab,aH,col,rfl,hY,ck,pA,Ac,ud,pD,q⟩:=h;refine ⟨_,(aV (vj (i:=3) G4.eM rfl (Or.inl rfl) (dC G4 (N:=["place", "taken", "column", "table"]) (js:=[none,none,some 2,some 0]) (e6.mpr ⟨rfl,(e6.mpr ⟨rfl,(d3 _)⟩)⟩)) rfl (vi rfl rfl T.o1 (ak (aa 1) aC)) (λ _ _ _ _=>(i1 (K:=K) (n:=2) rfl rfl (cQ ed (cQ (g7 (i:=1) (show List.Nodup (["place", "taken", "column", "table"]:cE) from by decide +kernel) rfl (Or.inl rfl) (Or.inr rfl)) fm)))) (λ _ _ _ _=>(yj (c6 xO (cP (rI (K:=K) rfl) (cP (rI (K:=K) rfl) (aa 3) (aa 0) (λ _ _=>rfl)) (aa 2) (λ _ _=>rfl)) aX (cB _))))
     (λ _ _ _ _=>(hk (ak (aa 1) (ak (aa 0) aC)))))
   (aV (dJ (c6 h1 (cK ew T.ec eb (ak (aa 3) aC)) aX (cB _))
    (a5 (bJ gG))
    dM)
   (a5 (bJ (cP fP (cK (abN (mn av) rfl) T.xM xH (ak (aa 3) aC)) aX (λ _ _=>rfl)))))),?_⟩
  have nl:((bu aH).map V.int).length=10:=by rw [a6];unfold bu;rw [a6];exact pD
  have zl : ∀ (i:Nat) x,((bu aH).map V.int)[i]?=some x->i<10/\x=.int ((aH.getD i 0:Nat):Int):=λ i x ae=>by
   have aq:i<10:=by rw [<-nl];exact (cL.mp ae).1
   refine ⟨aq,?_⟩;unfold bu at ae;rw [fZ,c9,bz .ab] at ae;rw [bk,bz .ab];cases ae;rfl
  refine ⟨_,rfl,bs,_,rfl,ud,λ D aT=>?_⟩;refine adG (K:=K) (xs:=(bu aH).map V.int) (σ0:=[some (.int (col:Int)),some (.ref tb)]) (by rw [nl];decide) ⟨_,_,rfl⟩ aT ud (λ p=>decide (0<fF tab p col)) (λ i H' zs=>wj D H' zs (p4 tab aH col i)) ⟨rfl,λ k x ae=>by cases ae⟩ (λ i H' ay zs h b=>⟨h.1,λ k x ae=>by
   obtain ⟨a,kv,hp,I,ah,aD,aL⟩:=h.2 k x ae;exact ⟨a,kv,hp,I,ah,aD,b _ _ aD aL⟩⟩) (λ i x H' R s' ae r=>?_) (λ i x H' zs s' ae aW h=>?_) (λ i x H' zs R s' ae aW b7 h k=>?_) λ ay zs s2 dj b4=>?_
  ·obtain ⟨aq,rfl⟩:=zl i x ae;obtain ⟨dw,hH,uF⟩:=ck.at (k:=i) .ab;have SK:col<(tab.getD i []).length:=by
    refine Ac _ ?_;rw [bk,bz .ab];exact g5 _
   refine ⟨_,rfl,_,rfl,tb,cT,(i:Int),.ref dw,rfl,rfl,aQ.of (s' _ _ hY),h5 .ab (by rw [dY];exact hH),_,rfl,dw,_,(col:Int),.int ((tab.getD i []).getD col 0),rfl,rfl,aQ.of (s' _ _ uF),at_getD SK,_,_,rfl,rfl,_,rfl,r⟩
  ·unfold p4;rw [Nh,aW,if_neg .aG,mx];exact h
  ·obtain ⟨aq,rfl⟩:=zl i x ae;refine ⟨_,rfl,_,rfl,dG,λ a aO f4 s4 kN=>k _ aO s4 ?_⟩;unfold p4;rw [Nh,aW,if_pos rfl,ej];have aL:wj D aO zs (p4 tab aH col i):=⟨h.1,λ k x ae=>by
    obtain ⟨a,kv,hp,I,ah,aD,cp⟩:=h.2 k x ae;exact ⟨a,kv,hp,I,ah,aD,s4 _ _ cp⟩⟩
   exact aL.snoc (bT b7 f4).symm kN
  rw [nl] at b4;have S9 : ∀ x∈p4 tab aH col 10,∃ p,p<10/\0<fF tab p col/\x=(((aH.getD p 0:Nat):Int),((p:Nat):Int)):=λ x ae=>by
   obtain ⟨p,ao,rfl⟩:=dz.mp ae;obtain ⟨I,ah⟩:=mr.mp ao;exact ⟨p,fH.mp I,fY ah,rfl⟩
  refine ⟨_,rfl,D,zs,rfl,.inl (aQ.of dj),rfl,_,rfl,?_⟩;by_cases aS:zs.length=0
  ·rw [cX (show V.int (zs.length:Int)=V.int 0 by rw [aS];rfl)];refine ea (q none ay s2 λ p ao=>?_);have he:p4 tab aH col 10=[]:=List.eq_nil_of_length_eq_zero (by rw [<-b4.1];exact aS);rcases tp 0 (fF tab p col) with y | y
   ·have:(((aH.getD p 0:Nat):Int),((p:Nat):Int))∈p4 tab aH col 10:=dz.mpr ⟨p,mr.mpr ⟨fH.mpr ao,cX y⟩,rfl⟩;rw [he] at this;cases this
   ·exact y
  ·rw [ee (show ¬ V.int (zs.length:Int)=V.int 0 from λ z=>aS (by injection z with z;omega))];refine dn ⟨_,rfl,D,zs,p4 tab aH col 10,rfl,dj,.ab,⟨b4.1,λ k x ae=>?_⟩,?_,λ k v p bl ao Vc=>?_⟩
   ·obtain ⟨a,i,j,I,ah,_,aL⟩:=b4.2 k x ae;exact ⟨a,i,j,[],I,ah,aL⟩
   ·unfold p4;refine List.Pairwise.map _ (λ a b ne e=>ne ?_) (List.Pairwise.filter _ List.nodup_range);have:=h3 Prod.snd e;simp only at this;omega
   ·obtain ⟨a,i,j,I,ah,_,aL⟩:=b4.2 k v bl;rw [ao] at ah;cases ah;obtain ⟨hE,p1,cS,hq⟩:=S9 _ (cf ao);have aJ:i=((aH.getD hE 0:Nat):Int):=h3 Prod.fst hq;have aN:j=((hE:Nat):Int):=h3 Prod.snd hq;subst I;refine ⟨a,_,1,.int j,rfl,rfl,aP.of aL,rfl,?_⟩;rw [aN];refine q (some hE) ay s2 ⟨p1,cS,λ iH g1 g2=>?_⟩;have:=Vc (((aH.getD iH 0:Nat):Int),((iH:Nat):Int)) (dz.mpr ⟨iH,mr.mpr ⟨fH.mpr g1,cX g2⟩,rfl⟩);rcases this with z | z
    ·have:=h3 Prod.fst z;simp only at this;omega
    ·unfold lz.hK at z;have fh:=fY z;simp only at fh;omega
end
theorem adH {b:Addr} {a4:TE} {Q:bN} {xs ys:aw} {f:Int->Int->Int} (az:min xs.length ys.length<=sizeLine) (ao : ∃ u v,pick js σ=u::v::σ0) (aT:H1 D=none)
  (au:H1 a=some (.lst (xs.map V.int))) (af:H1 b=some (.lst (ys.map V.int)))
  (aF : ∀ (x y:Int) (H':aA) (R:bN),x∈xs->y∈ys->aB H1 H'->R (.int (f x y)) H'->a4 (some (.int x)::some (.int y)::σ0) H' R)
  (q : ∀ H',aB H1 H'->H' D=some (.lst ((List.zipWith f xs ys).map V.int))->Q (.ref D) H'):gF (uB a b) D js (nf K 2 (iV (e4 0) (iV (e4 1) oG))) iy a4 σ H1 Q:=by
 obtain ⟨e_,v0,ao⟩:=ao;refine NP (a:=a) (b:=b) (xs:=xs.map V.int) (ys:=ys.map V.int) (by rw [a6,a6];exact az) (λ i σ' H' zs=>(∃ u v:cq,σ'=u::v::σ0)/\aB H1 H'/\zs=((List.zipWith f xs ys).take i).map V.int) ⟨⟨e_,v0,ao⟩,aB.new aT,rfl⟩ (λ i σ' H' zs _ ⟨_,s',_⟩=>⟨s' _ _ au,s' _ _ af⟩) ?_ ?_
 ·rintro i x y p σ' H' zs R ae a8 dR b7 gU ⟨⟨u,v,rfl⟩,s',rfl⟩ df;obtain ⟨x,rfl,dF⟩:=iA ae;obtain ⟨y,rfl,ih⟩:=iA a8;refine ⟨p,_,rfl,aP.of bK,rfl,_,_,rfl,_,_,rfl,rfl,aF x y _ _ (cf dF) (cf ih) (s'.trans (aB.new dR)) ?_⟩;refine df _ _ _ ?_ ⟨⟨_,_,rfl⟩,?_,?_⟩
  ·rw [bw (bT b7 dR)];exact b7
  ·intro c o e;rw [bw (bT e aT),bw (bT (s' _ _ e) dR)];exact s' _ _ e
  ·have:(List.zipWith f xs ys)[i]?=some (f x y):=by rw [gH];exact ⟨x,y,dF,ih,rfl⟩
   rw [eC,this,ej];rfl
 ·rintro σ' H' zs b7 gU ⟨_,s',rfl⟩;rw [fG (by rw [k4,a6,a6];exact br _)] at b7;exact q H' s' b7
noncomputable def r9 (L F:Addr) (H:aA) (ys:bB) (rows:aZ):Prop:=ys.length=rows.length /\ ∀ (i:Nat) (x:V),ys[i]?=some x -> ∃ c a,rows[i]?=some c/\x=.ref a/\a≠L/\a≠F/\H a=some (jn c)
theorem r9.keep {L F:Addr} {rows:aZ} (h:r9 L F H ys rows) (b:DU L F H H'):r9 L F H' ys rows:=⟨h.1,λ i x ae=>by
 obtain ⟨c,a,I,ah,aD,aL,cp⟩:=h.2 i x ae;exact ⟨c,a,I,ah,aD,aL,b _ _ aD aL cp⟩⟩
theorem r9.snoc {L F:Addr} {rows:aZ} (h:r9 L F H ys rows) {c:aw} (dr:a≠L) (d0:a≠F) (au:H a=some (jn c)):r9 L F H (ys++[.ref a]) (rows++[c]):=⟨by rw [cJ,cJ,h.1];rfl,λ i x ae=>by
 rcases k5 i ys.length with z | z
 ·rw [gi z] at ae;obtain ⟨bG,hn,I,ah⟩:=h.2 i x ae;exact ⟨bG,hn,by rw [gi (by rw [<-h.1];exact z)];exact I,ah⟩
 ·rw [g4 z] at ae;have hb:i - ys.length=0:=by
   rcases nE (i - ys.length) with z | z
   ·exact z
   ·rw [g6 (show [V.ref a].length<=_ from z)] at ae;cases ae
  rw [hb] at ae;cases ae;exact ⟨c,a,by rw [g4 (by rw [<-h.1];exact z),<-h.1,hb];rfl,rfl,dr,d0,au⟩⟩
theorem iM.tab {tab:aZ} (h:iM D H cT tab):oD H cT tab:=⟨h.1,λ i x ae=>by
 obtain ⟨c,a,I,ah,_,aL⟩:=h.2 i x ae;exact ⟨c,a,I,ah,aL⟩⟩
theorem F7 {α: Type} : ∀ (n:Nat) (x : α),(List.replicate n [x]).flatten=List.replicate n x
 | 0,_=>rfl
 | n+1,x=>by
  rw [rq,x5,F7 n x,rq];rfl
noncomputable def p7 (tab:aZ) (p c:Nat) (u:Int) (row:aw):aw:=List.zipWith (λ number taken=>(number * (tab.getD p []).getD c 0 - row.getD c 0 * taken).fdiv u) row (tab.getD p [])
noncomputable def oL (tab:aZ) (p c:Nat) (u:Int):aZ:=(tab.map (p7 tab p c u)).set p (tab.getD p [])
section
variable {P:Program}
noncomputable def ado:b9:=λ ag H Q _ => ∃ (tb mK:Addr) (o0:fy) (cT:bB) (tab:aZ) (p c n m:Nat) (u:Int),ag=[.ref tb,.int (p:Int),.int (c:Int),.int u]/\H tb=some (.lst cT)/\H mK=some o0/\iM mK H cT tab/\tab.length=11/\p<11/\(∀ r∈tab,r.length=n/\dy m r)/\c<n/\n<=1000/\m<=5000/\u≠0/\u.natAbs<=2 ^ m /\
 ∀ l H' xk,H l=none->aB H H'->H' l=some (.lst xk)->iM mK H' xk (oL tab p c u)->Q (.ref l) H'
theorem ac7 (T:cv K ax):cz P w ax base b_ 1 T.OL ado:=by
 refine T.OL.fn.cA BC (λ ag H Q E h=>?_) (λ bt A outer s H ag Q E av h=>?_)
 ·obtain ⟨tb,mK,o0,cT,tab,p,c,n,m,u,rfl,_⟩:=h;rfl
 ·obtain ⟨tb,mK,o0,cT,tab,p,c,n,m,u,rfl,hY,Sm,IS,pA,ao,b4,aj,az,hm,bM,To,q⟩:=h;refine ⟨_,(aV (mz (i:=4) BC.eM rfl (Or.inr rfl) (cP (rI (K:=K) rfl) (aa 0) (aa 1) (λ _ _=>rfl)))
   (aV (mz (i:=5) BC.eM rfl (Or.inr rfl) (cP (rI (K:=K) rfl) (aa 4) (aa 2) (λ _ _=>rfl)))
   (aV (Nd (i:=6) BC.eM rfl (Or.inl rfl) (Bs (eX:=bS yH) (ku:=["table", "place", "column", "unit", "used", "pivot", "others"]) (N:=["row", "unit", "used", "pivot", "column"]) (js:=[none,some 3,some 4,some 5,some 2]) rfl rfl rfl (e6.mpr ⟨rfl,(e6.mpr ⟨rfl,(e6.mpr ⟨rfl,(e6.mpr ⟨rfl,(d3 _)⟩)⟩)⟩)⟩) (by decide +kernel) rfl) rfl (hA (aa 0)) (λ _ _ _ _=>(g7 (i:=0) (show List.Nodup (["row", "unit", "used", "pivot", "column"]:cE) from by decide +kernel) rfl (Or.inr rfl) (Or.inl rfl))) (λ _ _ _ _=>eD)
     (λ _ _ _ _=>(Bh (GK (eX:=bS yH) (N:=["number", "taken", "unit", "pivot", "row", "column"]) (js:=[none,none,some 1,some 3,some 0,some 4]) rfl rfl rfl (e6.mpr ⟨rfl,(e6.mpr ⟨rfl,(e6.mpr ⟨rfl,(e6.mpr ⟨rfl,(d3 _)⟩)⟩)⟩)⟩) (by decide +kernel)) rfl (yi rfl rfl T.ki (ak (aa 0) (ak (aa 2) aC))) (λ _ _ _ _=>(i1 (K:=K) (n:=2) rfl rfl (cQ ed (cQ (g7 (i:=1) (show List.Nodup (["number", "taken", "unit", "pivot", "row", "column"]:cE) from by decide +kernel) rfl (Or.inl rfl) (Or.inr rfl)) fm)))) (λ _ _ _ _=>eD)
     (λ _ _ _ _=>(bZ ZS (bZ nz (bZ yg (aa 0) (aa 3)) (bZ yg (cP (rI (K:=K) rfl) (aa 4) (aa 5) (λ _ _=>rfl)) (aa 1))) (aa 2))))))
   (aV (nA (aa 4) (qg (aa 6) (aa 1) set_list))
   (a5 (bJ (aa 6))))))),?_⟩
  have ck:=IS.tab;obtain ⟨qL,Js,uG⟩:=ck.at (k:=p) .ab;have T5:qL≠mK:=by
   obtain ⟨bG,hn,_,ah,aD,_⟩:=IS.2 p _ Js;injection ah with ah;rw [ah];exact aD
  have zK:tab.getD p []∈tab:=by rw [bk,bz .ab];exact g5 _
  obtain ⟨ul,Cq⟩:=b4 _ zK;have fA:oL tab p c u=(tab.map (p7 tab p c u)).set p (tab.getD p []):=rfl;have o7 : ∀ row,p7 tab p c u row=List.zipWith (λ number taken=>(number * (tab.getD p []).getD c 0 - row.getD c 0 * taken).fdiv u) row (tab.getD p []):=λ _=>rfl
  rw [fA] at q;generalize p7 tab p c u=ex at q o7;generalize tab.getD p []=used at uG ul Cq o7 q;refine ⟨_,rfl,_,rfl,tb,cT,(p:Int),.ref qL,rfl,rfl,aQ.of hY,h5 .ab (by rw [dY];exact Js),?_⟩;refine ⟨_,rfl,_,rfl,qL,_,(c:Int),.int (used.getD c 0),rfl,rfl,aQ.of uG,at_getD .ab,?_⟩;refine ⟨_,rfl,tb,rfl,⟨_,aQ.of hY⟩,λ L cc=>?_⟩;refine GL (K:=K) (xs:=cT) (σ0:=[some (.int u),some (.ref qL),some (.int (used.getD c 0)),some (.int (c:Int))]) (by rw [cW,ck.1];omega) ⟨_,rfl⟩ cc hY (λ i H' zs=>r9 L mK H' zs ((tab.map ex).take i)) ⟨rfl,λ i x ae=>by cases ae⟩ (λ i H' ay zs _ _ h b=>h.keep λ c o dr _ e=>b c o dr e) (λ i x H' zs R s' ae b7 gU jA r=>?_) λ H1 DS s1 Sr zM jA=>?_
  ·obtain ⟨row,dw,Kk,rfl,hH⟩:=ck.2 i x ae;obtain ⟨t2,pe⟩:=b4 row (cf Kk);refine ⟨_,rfl,_,rfl,dw,qL,_,_,rfl,s' _ _ hH,s' _ _ uG,λ D aT=>?_⟩;refine adH (K:=K) (f:=λ number taken=>(number * used.getD c 0 - row.getD c 0 * taken).fdiv u) (σ0:=[some (.int u),some (.int (used.getD c 0)),some (.ref dw),some (.int (c:Int))]) (xs:=row) (ys:=used) (by rw [t2,ul,cW];omega) ⟨_,_,rfl⟩ aT (s' _ _ hH) (s' _ _ uG) (λ x y ay fo ae a8 s2 cu=>?_) λ ay s2 dj=>?_
   ·exact ⟨_,rfl,_,rfl,_,_,rfl,rfl,⟨m,m,pe x ae,Cq.at c,.ab,.ab⟩,_,rfl,_,rfl,dw,_,(c:Int),.int (row.getD c 0),rfl,rfl,aQ.of (s2 _ _ (s' _ _ hH)),at_getD .ab,_,rfl,_,_,rfl,rfl,⟨m,m,pe.at c,Cq y a8,.ab,.ab⟩,_,_,rfl,rfl,_,rfl,_,_,rfl,rfl,⟨bM,.inl ⟨m,To,.ab⟩⟩,cu⟩
   ·refine r _ ay s2 ?_;rw [eC,c9,Kk];refine (jA.keep λ c o _ _ e=>s2 c o e).snoc (bT b7 aT).symm (bT (s' _ _ Sm) aT).symm ?_;rw [dj,o7];rfl
  rw [fG (by rw [a6,ck.1];exact br _)] at jA;have qM:=jA.1;rw [a6] at qM;refine ⟨_,rfl,_,rfl,_,rfl,L,DS,(p:Int),p,rfl,rfl,Sr,by rw [qd .ab .ab,dY],_,rfl,q L _ (DS.set p (.ref qL)) cc ?_ bK ?_⟩
  ·intro b o e;rw [bw (bT e cc)];exact s1 _ _ e
  ·have Vp:=s1 _ _ uG;have T6:qL≠L:=bT uG cc;refine ⟨by rw [jI,jI,a6,qM],λ i x ae=>?_⟩;by_cases e:p=i
   ·subst e;have ar:p<DS.length:=by have:=(cL.mp ae).1;rwa [jI] at this
    rw [nu ar] at ae;cases ae;exact ⟨used,qL,nu (by rw [a6];omega),rfl,T5,by rw [bw T6];exact Vp⟩
   ·rw [mu e] at ae;obtain ⟨r,a,I,ah,aD,RE,aL⟩:=jA.2 i x ae;exact ⟨r,a,by rw [mu e];exact I,ah,RE,by rw [bw aD];exact aL⟩
noncomputable def iU (tab:aZ) (aH:bo) (col n:Nat) (u:Int) (k:Nat):aw:=(List.range k).foldl (λ l p=>l.set (aH.getD p 0) (-fF tab p col)) ((List.replicate n 0).set col u)
theorem vy (tab:aZ) (aH:bo) (col n:Nat) (u:Int) (k:Nat):iU tab aH col n u (k+1)=(iU tab aH col n u k).set (aH.getD k 0) (-fF tab k col):=by
 unfold iU;rw [vb,qk];rfl
theorem yr (tab:aZ) (aH:bo) (col n:Nat) (u:Int) : ∀ k,(iU tab aH col n u k).length=n
 | 0=>by
  show ((List.replicate n 0).set col u).length=n;rw [jI,kk]
 | k+1=>by rw [vy,jI,yr tab aH col n u k]
noncomputable def acb:b9:=λ ag H Q _ => ∃ (tb bs:Addr) (cT:bB) (tab:aZ) (aH:bo) (col n:Nat) (u:Int),ag=[.ref tb,.ref bs,.int (col:Int),.int u]/\H tb=some (.lst cT)/\oD H cT tab/\tab.length=11/\(∀ r∈tab,r.length=n)/\H bs=some (jn (bu aH))/\aH.length=10/\(∀ p,p<10->aH.getD p 0<n)/\col<n/\n<=1000 /\
 ∀ l H',H l=none->aB H H'->H' l=some (jn (iU tab aH col n u 10))->Q (.ref l) H'
theorem ab0 (T:cv K ax):cz P w ax base b_ 1 T.NA acb:=by
 refine T.NA.fn.cA Bv (λ ag H Q E h=>?_) (λ bt A outer s H ag Q E av h=>?_)
 ·obtain ⟨tb,bs,cT,tab,aH,col,n,u,rfl,_⟩:=h;rfl
 ·obtain ⟨tb,bs,cT,tab,aH,col,n,u,rfl,hY,ck,pA,b4,ud,pD,SJ,aj,az,q⟩:=h;refine ⟨_,(aV (bP 4 Bv (bZ vo (jK (ak aX aC)) (cK ew T.ec eb (ak (cP f3 (aa 0) aX (λ _ _=>rfl)) aC))))
   (aV (nA (aa 3) (qg (aa 4) (aa 2) set_list))
   (aV (eB dZ rfl (vi rfl rfl T.o1 (ak (aa 1) aC)) (km rfl (cQ (c_ 5 Bv) (cQ (c_ 6 Bv) fm)))
    (a5 (nA (kV k2 (cP f3 (cP f3 (aa 0) (aa 5) (λ _ _=>rfl)) (aa 2) (λ _ _=>rfl))) (qg (aa 4) (aa 6) set_list))))
   (a5 (bJ (aa 4)))))),?_⟩
  have xe : ∀ k,k<11->(tab.getD k []).length=n:=λ k aE=>b4 _ (by rw [bk,bz .ab];exact g5 _)
  have nl:((bu aH).map V.int).length=10:=by rw [a6];unfold bu;rw [a6];exact pD
  have zl : ∀ (i:Nat) x,((bu aH).map V.int)[i]?=some x->i<10/\x=.int ((aH.getD i 0:Nat):Int):=λ i x ae=>by
   have aq:i<10:=by rw [<-nl];exact (cL.mp ae).1
   refine ⟨aq,?_⟩;unfold bu at ae;rw [fZ,c9,bz .ab] at ae;rw [bk,bz .ab];cases ae;rfl
  obtain ⟨y0,C0,UT⟩:=ck.at (k:=0) .ab;refine ⟨dG,λ iF H1 f1 s1 m1=>?_⟩;refine ⟨_,rfl,tb,cT,0,.ref y0,rfl,rfl,aQ.of (s1 _ _ hY),h5 .aG C0,y0,_,rfl,.inl (aQ.of (s1 _ _ UT)),?_⟩;refine ⟨iF,_,_,rfl,rfl,m1,.ab,?_,?_,λ l ay f2 s2 dQ=>?_⟩
  ·rw [a6,xe 0 .aG];omega
  ·rw [a6,xe 0 .aG,dY,cW];show 1 * n<=_;omega
  have cH:(List.replicate ((((tab.getD 0 []).map V.int).length:Int)).toNat [V.int 0]).flatten=(List.replicate n (0:Int)).map V.int:=by
   rw [a6,xe 0 .aG,dY,yd];exact F7 n _
  rw [cH] at dQ;have wA:H l=none:=s1.free f2;have T4:tb≠l:=bT hY wA;have zT:bs≠l:=bT ud wA;refine ⟨_,rfl,_,rfl,_,rfl,l,_,(col:Int),col,rfl,rfl,dQ,by rw [qd .ab (by rw [a6,kk];omega),dY],?_⟩;rw [<-k3];have fz:b6 l H (upd ay l (.lst (((List.replicate n (0:Int)).set col u).map V.int))):=(b6.of (s1.trans s2)).set;refine ⟨_,rfl,bs,_,rfl,fz _ _ zT ud,Be (xs:=(bu aH).map V.int) (λ i σ gI=>(∃ v w:cq,σ=[some (.ref tb),some (.ref bs),some (.int (col:Int)),some (.int u),some (.ref l),v,w])/\b6 l H gI/\gI l=some (jn (iU tab aH col n u i))) ⟨⟨_,_,rfl⟩,fz,bK⟩ (λ i σ gI _ ⟨_,vO,_⟩=>vO _ _ zT ud) ?_ ?_⟩
  ·rintro i x p σ gI ae ao ⟨⟨v,w,rfl⟩,vO,wV⟩;obtain ⟨aq,rfl⟩:=zl i x ae;obtain ⟨dw,hH,uF⟩:=ck.at (k:=i) .ab;have qC:=vO.trans (b6.of (aB.new (o:=.tup [.int (i:Int),.int ((aH.getD i 0:Nat):Int)]) ao));have S3:upd gI p (.tup [.int (i:Int),.int ((aH.getD i 0:Nat):Int)]) l=_:=(bw (bT wV ao)).trans wV;have T2:dw≠l:=bT uF wA;have wX:=yr tab aH col n u i;refine ⟨p,_,rfl,aP.of bK,rfl,_,_,rfl,_,_,rfl,rfl,?_⟩;refine ⟨_,rfl,_,rfl,tb,cT,(i:Int),.ref dw,rfl,rfl,aQ.of (qC _ _ T4 hY),h5 .ab (by rw [dY];exact hH),_,rfl,dw,_,(col:Int),.int ((tab.getD i []).getD col 0),rfl,rfl,aQ.of (qC _ _ T2 uF),at_getD (by rw [xe i .ab];exact aj),_,rfl,?_⟩;refine ⟨_,rfl,_,rfl,l,_,((aH.getD i 0:Nat):Int),aH.getD i 0,rfl,rfl,S3,by rw [qd .ab (by rw [a6,wX];have:=SJ i aq;omega),dY],⟨_,_,rfl⟩,qC.set,?_⟩;rw [bK,vy];unfold jn fF;rw [k3]
  ·rintro σ gI ⟨⟨v,w,rfl⟩,vO,wV⟩;rw [nl] at wV;exact ⟨_,rfl,q l gI wA (λ b o e=>vO _ _ (bT e wA) e) wV⟩
end
noncomputable def fT (cs:aZ) (p:Nat):aw:=cs.map λ c=>c.getD p 0
section
variable {P:Program}
noncomputable def adn:b9:=λ ag H Q _ => ∃ (a:Addr) (ys:bB) (cs:aZ),ag=[.ref a]/\H a=some (.lst ys)/\dX H ys cs/\(∀ c∈cs,c.length=10)/\cs.length<=1000 /\
 ∀ l H' zs,H l=none->aB H H'->H' l=some (.lst zs)->ic l H' zs ((List.range 10).map (fT cs))->Q (.ref l) H'
theorem Pp (T:cv K ax):cz P w ax base b_ 1 T.OK adn:=by
 refine T.OK.fn.cA adi (λ ag H Q E h=>?_) (λ bt A outer s H ag Q E av h=>?_)
 ·obtain ⟨a,ys,cs,rfl,_⟩:=h;rfl
 ·obtain ⟨a,ys,cs,rfl,au,b4,ie,ar,q⟩:=h;refine ⟨_,(a5 (bJ (Bh (Bs (eX:=bS yG) (ku:=["rows"]) (N:=["place", "rows"]) (js:=[none,some 0]) rfl rfl rfl (e6.mpr ⟨rfl,(d3 _)⟩) (by decide +kernel) rfl) rfl (iz rfl T.hR (ak (cK ew T.ec eb (ak (nL (v:=.ref T.gs) (by rfl) T.lR rfl) aC)) aC)) (λ _ _ _ _=>(g7 (i:=0) (show List.Nodup (["place", "rows"]:cE) from by decide +kernel) rfl (Or.inr rfl) (Or.inl rfl))) (λ _ _ _ _=>eD)
     (λ _ _ _ _=>(iu (ad4 (K:=K) rfl) T.h7 h6 (ak (Bh (GK (eX:=bS yG) (N:=["changes", "place"]) (js:=[none,some 0]) rfl rfl rfl (e6.mpr ⟨rfl,(d3 _)⟩) (by decide +kernel)) rfl ((aab (K:=K) rfl) (aa 1)) (λ _ _ _ _=>ed) (λ _ _ _ _=>eD)
     (λ _ _ _ _=>(cP (Fz (K:=K) rfl) (aa 0) (aa 1) (λ _ _=>rfl)))) aC)))))),?_⟩
  refine ⟨T.gs,_,rfl,.inr (T.jL H),_,rfl,.aG,.aG,λ D aT=>?_⟩;refine GN (n:=10) (by rw [cW];decide) (λ i σ' H' zs=>(∃ u:cq,σ'=[u,some (.ref a)])/\aB H H'/\ic D H' zs (((List.range 10).take i).map (fT cs))) ⟨⟨_,rfl⟩,aB.new aT,ic.nil⟩ ?_ ?_
  ·rintro i σ' H' zs R aq b7 eW ⟨⟨u,rfl⟩,s',jA⟩ df;rw [ql];refine ⟨_,rfl,a,rfl,⟨_,aQ.of (s' _ _ au)⟩,λ h8 dj=>?_⟩;refine GL (K:=K) (xs:=ys) (σ0:=[some (.int (i:Int))]) (by rw [cW,b4.1];omega) ⟨_,rfl⟩ dj (s' _ _ au) (λ k ay ws=>ws=((fT cs i).map V.int).take k) rfl (λ k ay aM ws _ _ h _=>h) (λ k x ay ws fo s2 ae _ _ hw r=>?_) λ ay ws s2 US _ hw=>?_
   ·obtain ⟨c,aj,o,rfl,a0⟩:=b4.2 k x ae;have jb:=ie c (cf aj);refine ⟨_,rfl,_,rfl,o,_,(i:Int),.int (c.getD i 0),rfl,rfl,aP.of (s2 _ _ (s' _ _ a0)),at_getD .ab,?_⟩;refine r _ ay (aB.refl _) ?_;have e:((fT cs i).map V.int)[k]?=some (.int (c.getD i 0)):=by unfold fT;rw [fZ,c9,aj];rfl
    rw [eC,e,hw];rfl
   ·rw [fG (by rw [a6];unfold fT;rw [a6,b4.1];exact br _)] at hw;subst hw;refine ⟨h8,_,rfl,aQ.of US,λ t aM e8 s3 aW=>?_⟩;have DO:=s2.trans s3;refine df _ _ _ (DO _ _ b7) ⟨⟨_,rfl⟩,?_,?_⟩
    ·intro e o b1;rw [bw (bT b1 aT)];exact DO _ _ (s' _ _ b1)
    ·have aJ:(List.range 10)[i]?=some i:=nJ aq;rw [eC,aJ,ej];exact ((jA.but λ c o _ e=>DO _ _ e).snoc (bT (s2 _ _ b7) e8).symm aW).but λ c o n e=>by rw [bw n];exact e
  ·rintro σ' aO zs ig eW ⟨_,s4,jA⟩;exact q D aO zs aT s4 ig jA
noncomputable def uW (cs:aZ) (p:Nat):aw:=((fT cs p).map λ x => -x)++iv p
noncomputable def iY (cs:aZ):aZ:=(List.range 10).map (uW cs)++[List.replicate cs.length 1++List.replicate 10 0]
noncomputable def aea:b9:=λ ag H Q _ => ∃ (a:Addr) (ys:bB) (cs:aZ),ag=[.ref a]/\H a=some (.lst ys)/\dX H ys cs/\(∀ c∈cs,c.length=10)/\cs.length<=500 /\
 ∀ l H' cT,H l=none->aB H H'->H' l=some (.lst cT)->oD H' cT (iY cs)->Q (.ref l) H'
theorem ad6 (T:cv K ax):cz P w ax base b_ 2 T.PF aea:=by
 refine T.PF.fn.cA PX (λ ag H Q E h=>?_) (λ bt A outer s H ag Q E av h=>?_)
 ·obtain ⟨a,ys,cs,rfl,_⟩:=h;rfl
 ·obtain ⟨a,ys,cs,rfl,au,b4,ie,ar,q⟩:=h;refine ⟨_,(aV (Nd (i:=1) PX.eM rfl (Or.inl rfl) (Bs (eX:=bS yO) (ku:=["rows", "table"]) (N:=["prime", "changes"]) (js:=[none,none]) rfl rfl rfl (d3 _) (by decide +kernel) rfl) rfl (Mn rfl rfl T.ki (ak (nL (v:=.ref T.gs) (by rfl) T.lR rfl) (ak (bf (Pp T) av bb (ak (aa 0) aC)) aC))) (λ _ _ _ _=>(i1 (K:=K) (n:=2) rfl rfl (cQ ed (cQ (g7 (i:=1) (show List.Nodup (["prime", "changes"]:cE) from by decide +kernel) rfl (Or.inl rfl) (Or.inr rfl)) fm)))) (λ _ _ _ _=>eD)
     (λ _ _ _ _=>(bZ F2 (Bh (GK (eX:=bS yO) (N:=["change"]) (js:=[none]) rfl rfl rfl (d3 _) (by decide +kernel)) rfl ((YP (K:=K) rfl) (aa 1)) (λ _ _ _ _=>ed) (λ _ _ _ _=>eD)
     (λ _ _ _ _=>(kV k2 (aa 0)))) (iu (adF (K:=K) rfl) T.Lu WI (ak (bf (O4 T) av bb (ak (aa 0) aC)) aC)))))
   (aV (lP (lC lL oX oY oZ (aa 1) (ak (bZ F2 (bZ vo (jK (ak aX aC)) (cK ew T.ec eb (ak (aa 0) aC))) (bZ vo (jK (ak aX aC)) (cK ew T.ec eb (ak (nL (v:=.ref T.gs) (by rfl) T.lR rfl) aC)))) aC)))
   (a5 (bJ (aa 1))))),?_⟩
  have pk:=b4.1;refine ⟨_,rfl,a,ys,cs,rfl,au,b4,ie,.ab,λ qC H1 bs f1 s1 IZ cC=>?_⟩;refine ⟨T.gs,qC,rfl,⟨_,T.jL H1⟩,⟨_,aQ.of IZ⟩,λ D aT=>?_⟩;have aH:=cC.1;rw [a6,i0] at aH;refine aaK (K:=K) (a:=T.gs) (b:=qC) (xs:=hj) (ys:=bs) (by rw [aH];decide) (λ i σ' H' zs=>(∃ u v:cq,σ'=[u,v])/\aB H1 H'/\iM D H' zs (((List.range 10).take i).map (uW cs))) ⟨⟨_,_,rfl⟩,aB.new aT,rfl,λ i x ae=>by cases ae⟩ (λ i σ' H' zs _ ⟨_,s',_⟩=>⟨T.jL H',aQ.of (s' _ _ IZ)⟩) ?_ ?_
  ·rintro i x y p σ' H' zs R ae a8 dR b7 gU ⟨⟨u,v,rfl⟩,s',jA⟩ df;obtain ⟨r,rfl,dE,_⟩:=tL ae;have aq:i<10:=(cL.mp dE).1;obtain ⟨c,o,aj,rfl,_,a0⟩:=cC.2 i y a8;have lW:c=fT cs i:=by
    rw [c9,nJ aq] at aj;cases aj;rfl
   subst lW;refine ⟨p,_,rfl,aP.of bK,rfl,_,_,rfl,_,_,rfl,rfl,?_⟩;have sp:aB H1 (upd H' p (.tup [.int r,.ref o])):=s'.trans (aB.new dR);refine ⟨_,rfl,o,rfl,⟨_,aP.of (sp _ _ a0)⟩,λ h8 dj=>?_⟩;refine Pn (K:=K) (f:=λ v=>match v with | .int n=>.int (-n) | w=>w) (xs:=(fT cs i).map V.int) rfl (by unfold fT;rw [cW,a6,a6];omega) dj (aP.of (sp _ _ a0)) (λ x ay fo ae cu=>?_) ?_
   ·obtain ⟨n,_,rfl⟩:=dz.mp ae;exact ⟨_,rfl,_,rfl,cu⟩
   have sT:upd (upd H' p (.tup [.int r,.ref o])) h8 (.lst (((fT cs i).map V.int).map λ v=>match v with | .int n=>.int (-n) | w=>w)) h8=some (.lst (((fT cs i).map λ x => -x).map V.int)):=by
    rw [bK,fZ,fZ];rfl
   generalize y9:upd (upd H' p (.tup [.int r,.ref o])) h8 (.lst (((fT cs i).map V.int).map λ v=>match v with | .int n=>.int (-n) | w=>w))=G at sT;have lp:aB (upd H' p (.tup [.int r,.ref o])) G:=by rw [<-y9];exact aB.new dj
   refine ⟨_,rfl,i,r,rfl,dE,λ cS Qj g2 bx fV=>⟨cS,_,rfl,.inr (aP.of fV),λ hq BP g3 t3 oy=>?_⟩⟩;refine ⟨h8,hq,_,_,rfl,rfl,t3 _ _ (bx _ _ sT),oy,?_,λ o_ k9 f6 pf pI=>?_⟩
   ·rw [cW,a6,a6,a6,Nu];unfold fT;rw [a6];omega
   have s4:aB H' k9:=(aB.new dR).trans (lp.trans (bx.trans (t3.trans pf)));refine df _ _ _ (s4 _ _ b7) ⟨⟨_,_,rfl⟩,?_,?_⟩
   ·intro e e0 b1;rw [bw (bT b1 aT)];exact s4 _ _ (s' _ _ b1)
   ·have aJ:(List.range 10)[i]?=some i:=nJ aq;rw [eC,aJ,ej];have gr:BP D=some (.lst zs):=t3 _ _ (bx _ _ (lp _ _ (aB.new dR _ _ b7)));refine ((jA.same s4).snoc (bT gr f6).symm ?_).but b6.upd;rw [pI,<-ej];rfl
  ·rintro σ' ay zs dj gU ⟨_,s2,jA⟩;have wx:min hj.length bs.length=10:=by rw [aH];rfl
   rw [wx] at jA;have hh:=s1.trans s2;refine ⟨_,rfl,.inl ⟨rfl,_,aQ.of dj⟩,dG,λ c3 aeB g1 t1 fU=>?_⟩;refine ⟨_,rfl,a,ys,rfl,.inl (aQ.of (t1 _ _ (hh _ _ au))),c3,_,_,rfl,rfl,fU,.ab,.ab,?_,λ dO Qj g2 bx dQ=>?_⟩
   ·rw [dY,cW];show 1 * ys.length<=_;omega
   refine ⟨dG,λ iG BP g3 t3 gb=>?_⟩;refine ⟨T.gs,_,rfl,.inr (T.jL BP),iG,_,_,rfl,rfl,gb,.aG,.aG,.aG,λ r1 k9 f6 pf fE=>?_⟩;rw [dY,F7] at dQ;have U8:k9 r1=some (.lst (List.replicate 10 (V.int 0))):=fE;refine ⟨dO,r1,_,_,rfl,rfl,pf _ _ (t3 _ _ dQ),U8,?_,λ tX qu eH qJ ow=>?_⟩
   ·rw [kk,kk,cW];omega
   have DQ:aB ay qu:=t1.trans (bx.trans (t3.trans (pf.trans qJ)));have pB:=DQ _ _ dj;have pl:=jA.1;rw [a6,ff,i0] at pl;refine ⟨D,zs,.ref tX,rfl,rfl,pB,by rw [cW];omega,λ nS gL CV=>?_⟩;have TV:tX≠D:=λ z=>by
    have:=(t1.trans (bx.trans (t3.trans pf))) _ _ dj;rw [<-z,eH] at this;cases this
   refine ⟨_,rfl,q D nS _ (s1.free aT) (λ c o e=>gL _ _ (bT (s1 _ _ e) aT) (DQ _ _ (hh _ _ e))) CV ?_⟩;have wD:iM D qu (zs++[.ref tX]) (iY cs):=by
    unfold iY;rw [show (List.range 10).take 10=List.range 10 from rfl] at jA;refine (jA.same DQ).snoc TV ?_;rw [ow,pk];unfold jn;rw [ej,yd,yd]
   refine ⟨wD.1,λ i x ae=>?_⟩;obtain ⟨c,e,I,ah,aD,aL⟩:=wD.2 i x ae;exact ⟨c,e,I,ah,gL _ _ aD aL⟩
end
theorem GP {α: Type} {l m:List α} {i:Nat} {d: α} (h:i<l.length):(l++m).getD i d=l.getD i d:=by
 rw [bk,bk,gi h]
theorem GQ {α: Type} {l m:List α} {i:Nat} {d: α} (h:l.length<=i):(l++m).getD i d=m.getD (i - l.length) d:=by
 rw [bk,bk,g4 h]
theorem ve (cs:aZ) (p:Nat):(fT cs p).length=cs.length:=a6 _
theorem XT (cs:aZ) (p j:Nat):(fT cs p).getD j 0=(cs.getD j []).getD p 0:=by
 unfold fT;rw [bk,c9,bk (l:=cs)];cases cs[j]? with
 | none=>rfl
 | some c=>rfl
theorem OB {q:Nat} (aK:q<10):(iY cs).getD q []=uW cs q:=by
 unfold iY;rw [GP (by rw [a6,i0];exact aK),bk,c9,nJ aK];rfl
theorem OY (cs:aZ):(iY cs).getD 10 []=List.replicate cs.length 1++List.replicate 10 0:=by
 unfold iY;rw [GQ (by rw [a6,i0];exact br _),a6,i0];rfl
theorem OA (cs:aZ):(iY cs).length=11 /\ ∀ r∈iY cs,r.length=cs.length+10:=by
 refine ⟨by unfold iY;rw [cJ,a6,i0];rfl,λ r av=>?_⟩;unfold iY at av;rcases iX.mp av with z | z
 ·obtain ⟨p,_,rfl⟩:=dz.mp z;unfold uW;rw [cJ,a6,ve,Nu]
 ·rw [ix.mp z,cJ,kk,kk]
theorem Oz {q j:Nat} (aK:q<11) (aY:j<cs.length+10):fF (iY cs) q j=ez cs j q:=by
 unfold fF;by_cases ie:q<10
 ·rw [OB ie];unfold uW ez;by_cases hm:j<cs.length
  ·rw [if_pos hm,if_pos ie,GP (by rw [a6,ve];exact hm),bk,c9,<-XT];rw [bk (l:=fT cs q),bz (by rw [ve];exact hm)];rfl
  ·rw [if_neg hm,GQ (by rw [a6,ve];omega),a6,ve,Gf,if_pos .ab];by_cases e:j - cs.length=q
   ·rw [if_pos e,if_pos e.symm]
   ·rw [if_neg e,if_neg λ z=>e z.symm]
 ·have wx:q=10:=by omega
  subst wx;rw [OY];unfold ez;by_cases hm:j<cs.length
  ·rw [if_pos hm,if_neg .aG,if_pos rfl,GP (by rw [kk];exact hm),bk,xY,if_pos hm];rfl
  ·rw [if_neg hm,GQ (by rw [kk];omega),kk,yt,if_neg .ab]
theorem aaP {tab:aZ} {p c:Nat} {u:Int} {row:aw} (ar:row.length=(tab.getD p []).length) {j:Nat} (aY:j<row.length):(p7 tab p c u row).getD j 0=(row.getD j 0 * (tab.getD p []).getD c 0 - row.getD c 0 * (tab.getD p []).getD j 0).fdiv u:=by
 unfold p7;have aJ:row[j]?=some (row.getD j 0):=by rw [bk,bz aY];rfl
 have aN:(tab.getD p [])[j]?=some ((tab.getD p []).getD j 0):=by rw [bk (l:=tab.getD p []),bz .ab];rfl
 rw [bk,gH.mpr ⟨_,_,aJ,aN,rfl⟩];rfl
theorem aaq {tab:aZ} {p c:Nat} {u:Int} (pA:tab.length=11) (ao:p<11) (b4 : ∀ r∈tab,r.length=n):(oL tab p c u).length=11 /\ ∀ r∈oL tab p c u,r.length=n:=by
 have zK:tab.getD p []∈tab:=by rw [bk,bz .ab];exact g5 _
 refine ⟨by unfold oL;rw [jI,a6,pA],λ r av=>?_⟩;unfold oL at av;rcases rE av with z | z
 ·obtain ⟨row,I,rfl⟩:=dz.mp z;unfold p7;rw [k4,b4 row I,b4 _ zK,Nat.min_self]
 ·rw [z];exact b4 _ zK
theorem aap {tab:aZ} {p c:Nat} {u:Int} (pA:tab.length=11) (ao:p<11) (b4 : ∀ r∈tab,r.length=n) {q j:Nat} (aK:q<11) (aY:j<n):fF (oL tab p c u) q j=sh (fF tab) u p c q j:=by
 have qT : ∀ k,k<11->tab.getD k []∈tab:=λ k aE=>by rw [bk,bz .ab];exact g5 _
 unfold fF sh oL;by_cases e:q=p
 ·subst e;rw [if_pos rfl,bk (l:=(tab.map (p7 tab q c u)).set q (tab.getD q [])),nu (by rw [a6];omega)];rfl
 ·rw [if_neg e,bk (l:=(tab.map (p7 tab p c u)).set p (tab.getD p [])),mu λ z=>e z.symm,c9,bz .ab];have aN:tab[q]=tab.getD q []:=by rw [bk,bz .ab];rfl
  rw [aN];exact aaP (by rw [b4 _ (qT q aK),b4 _ (qT p ao)]) (by rw [b4 _ (qT q aK)];exact aY)
noncomputable def nZ (aH:bo) (n:Nat):Nat->Nat:=λ q=>if q<10 then aH.getD q 0 else n
theorem WG {p c:Nat} (ar:aH.length=10) (ao:p<10) {q:Nat} (aK:q<11):nZ (aH.set p c) n q=gT (nZ aH n) p c q:=by
 unfold nZ gT;by_cases e:q=p
 ·subst e;rw [if_pos ao,if_pos rfl,bk,nu .ab];rfl
 ·rw [if_neg e];show (if q<10 then (aH.set p c).getD q 0 else n)=if q<10 then aH.getD q 0 else n
  by_cases h:q<10
  ·rw [if_pos h,if_pos h,bk,mu λ z=>e z.symm,bk]
  ·rw [if_neg h,if_neg h]
theorem OH (f:Nat->Int) : ∀ n,cy f (n+1)=f 0+cy (λ i=>f (i+1)) n
 | 0=>by show (0:Int)+f 0=f 0+0;omega
 | n+1=>by
  show cy f (n+1)+f (n+1)=f 0+(cy (λ i=>f (i+1)) n+f (n+1));rw [OH f n];omega
theorem MM : ∀ (r s:aw),r.length=s.length->bc r s=cy (λ i=>r.getD i 0 * s.getD i 0) r.length
 | [],s,_=>rfl
 | a::r,[],h=>by cases h
 | a::r,b::s,h=>by
  rw [fI,MM r s (by simpa using h),mB,OH];rfl
theorem least {f:Nat->Int} (h : ∃ k,0<f k) : ∃ k,0<f k /\ ∀ i,i<k->f i<=0:=by
 obtain ⟨n,az⟩:=h
 induction n using Nat.strongRecOn with
 | ind n b0 =>
  by_cases e : ∃ m,m<n/\0<f m
  ·obtain ⟨m,I,ah⟩:=e;exact b0 m I ah
  ·exact ⟨n,az,λ i aq=>by
    rcases tp 0 (f i) with z | z
    ·exact absurd ⟨i,aq,z⟩ e
    ·exact z⟩
theorem Gk {j:Nat} (h:kc ns=some j):j<ns.length/\0<ns.getD j 0 /\ ∀ i,i<j->ns.getD i 0<=0:=by
 unfold kc at h;have I:=List.find?_some h;have ah:=List.mem_of_find?_eq_some h;refine ⟨fH.mp ah,fY I,λ i aq=>?_⟩;rcases tp 0 (ns.getD i 0) with z | z
 ·exfalso;have aY:=fH.mp ah;by_cases gf : ∀ k,k<i->decide (0<ns.getD k 0)=false
  ·rw [Bu (i:=i) .ab gf,show ns.length - i=(ns.length - i - 1)+1 by omega,List.range'_succ,nG,cX z] at h;cases h;omega
  ·have : ∃ k,k<i/\0<ns.getD k 0:=A2 λ az=>gf λ k aE=>ee λ w=>az ⟨k,aE,w⟩
   have hex : ∃ k,0<ns.getD k 0:=⟨i,z⟩
   obtain ⟨k,SW,Ja⟩:=least hex;have zC:k<=i:=E8 λ w=>by have:=Ja i w;omega
   rw [Bu (i:=k) .ab (λ l ar=>ee λ w=>by have:=Ja l ar;omega),show ns.length - k=(ns.length - k - 1)+1 by omega,List.range'_succ,nG,cX SW] at h;cases h;omega
 ·exact z
theorem aaG (h:kc ns=none) : ∀ i,i<ns.length->ns.getD i 0<=0:=λ i aq=>by
 unfold kc at h;have:=ya.mp h i (fH.mpr aq);rcases tp 0 (ns.getD i 0) with z | z
 ·exact absurd (cX z) this
 ·exact z
structure iN (cs:aZ) (k:Nat) (tab:aZ) (aH:bo) (u:Int):Prop where
 m4:tab.length=11
 ln : ∀ r∈tab,r.length=cs.length+10
 gA:aH.length=10
 oH:m9 (cs.length+10) (ez cs) k (fF tab) (nZ aH (cs.length+10)) u
theorem iN.row {k:Nat} {tab:aZ} {u:Int} (h:iN cs k tab aH u) {p:Nat} (ao:p<11):(tab.getD p [])∈tab/\(tab.getD p []).length=cs.length+10:=by
 have hm:tab.getD p []∈tab:=by rw [bk,bz (by rw [h.m4];exact ao)];exact g5 _
 exact ⟨hm,h.ln _ hm⟩
theorem iN.blt {k:Nat} {tab:aZ} {u:Int} (h:iN cs k tab aH u) {p:Nat} (ao:p<10):aH.getD p 0<cs.length+10:=by
 have:=h.oH.at.blt p ao;unfold nZ at this
 rwa [if_pos ao] at this
theorem iN.bd {k:Nat} {tab:aZ} {u:Int} (h:iN cs k tab aH u) (af : ∀ c∈cs,dy 6 c):(∀ r∈tab,dy 92 r)/\u.natAbs<=2 ^ 92:=by
 have lY : ∀ j p,j<=cs.length+10->p<11->(ez cs j p).natAbs<=64:=λ j p _ _=>XY af j p
 refine ⟨λ r av n az=>?_,(h.oH.at.bd lY (p:=0) (j:=0) .aG .ab).2⟩;obtain ⟨p,ao⟩:=gk av;obtain ⟨j,aY⟩:=gk az;have dR:p<11:=by rw [<-h.m4];exact (cL.mp ao).1
 have SV:j<cs.length+10:=by rw [<-h.ln r av];exact (cL.mp aY).1
 have:=(h.oH.at.bd lY dR SV).1;unfold fF at this
 rwa [show tab.getD p []=r by rw [bk,ao];rfl,show r.getD j 0=n by rw [bk,aY];rfl] at this
theorem iN.start (cs:aZ):iN cs 0 (iY cs) ((List.range 10).map λ q=>cs.length+q) 1:=by
 obtain ⟨I,ah⟩:=OA cs;refine ⟨I,ah,by rw [a6,i0],m9.start ((aao cs).congr (λ q j aK aY=>Oz aK aY) λ q aK=>?_)⟩;unfold nZ;by_cases h:q<10
 ·rw [if_pos h,bk,c9,nJ h];rfl
 ·rw [if_neg h,show q=10 by omega]
theorem iN.step {k:Nat} {tab:aZ} {u:Int} (h:iN cs k tab aH u) {p c:Nat} (aj:kc (tab.getD 10 [])=some c) (ao:J8 tab aH c (some p)):iN cs (k+1) (oL tab p c u) (aH.set p c) (fF tab p c):=by
 obtain ⟨fg,lg,qD⟩:=Gk aj;obtain ⟨p1,cS,hq⟩:=ao;have sV:=(h.row (p:=10) .aG).2;rw [sV] at fg;obtain ⟨eh,fS⟩:=aaq (p:=p) (c:=c) (u:=u) h.m4 .ab h.ln;refine ⟨eh,fS,by rw [jI];exact h.gA,h.oH.step ⟨p1,fg,lg,qD,cS,λ q aK ck=>?_⟩ (λ q j aK aY=>aap h.m4 .ab h.ln aK aY) λ q aK=>WG h.gA p1 aK⟩;unfold nZ;rw [if_pos p1,if_pos aK];exact hq q aK ck
noncomputable def jD (cs tab:aZ):aw:=((tab.getD 10 []).drop cs.length).map λ x => -x
theorem iN.Y9 {k:Nat} {tab:aZ} {u:Int} (h:iN cs k tab aH u) (ie : ∀ c∈cs,c.length=10) (aj:kc (tab.getD 10 [])=none):(jD cs tab).length=10/\(∀ x∈jD cs tab,0<=x) /\ ∀ c∈cs,bc (jD cs tab) c<0:=by
 have sV:=(h.row (p:=10) .aG).2;have aS:=aaG aj;rw [sV] at aS;have ar:(jD cs tab).length=10:=by unfold jD;rw [a6,qb,sV];omega
 have aR : ∀ p,p<10->(jD cs tab).getD p 0 = -fF tab 10 (cs.length+p):=λ p ao=>by
  unfold jD fF;rw [bk,c9,List.getElem?_drop,bk (i:=cs.length+p),bz .ab];rfl
 obtain ⟨e2,hs⟩:=ack h.oH.at aS;refine ⟨ar,λ x ae=>?_,λ c dW=>?_⟩
 ·obtain ⟨p,ao⟩:=gk ae;have dR:p<10:=by rw [<-ar];exact (cL.mp ao).1
  have e:(jD cs tab).getD p 0=x:=by rw [bk,ao];rfl
  rw [<-e,aR p dR];exact e2 p dR
 ·obtain ⟨i,aq⟩:=gk dW;have gB:=(cL.mp aq).1;have e:cs.getD i []=c:=by rw [bk,aq];rfl
  have:=hs i gB;rw [e] at this;rw [MM _ _ (by rw [ar,ie c dW]),ar,lS λ p ao=>by rw [aR p ao]];exact this
theorem Fu : ∀ (l F:aw) (i:Nat) (v:Int),i<l.length->l.length=F.length->bc (l.set i v) F=bc l F+(v - l.getD i 0) * F.getD i 0
 | [],_,_,_,h,_=>absurd h (jq _)
 | a::l,[],_,_,_,h=>by cases h
 | a::l,b::F,0,v,_,_=>by
  show bc (v::l) (b::F)=bc (a::l) (b::F)+(v - a) * b;rw [fI,fI,Int.sub_mul];omega
 | a::l,b::F,i+1,v,h,ar=>by
  show bc (a::l.set i v) (b::F)=bc (a::l) (b::F)+(v - l.getD i 0) * F.getD i 0;rw [fI,fI,Fu l F i v (by simpa using h) (by simpa using ar)];omega
theorem MO {tab:aZ} {u:Int} {j:Nat} (aY:j≠col) : ∀ k,(∀ q,q<k->aH.getD q 0≠j)->(iU tab aH col n u k).getD j 0=0
 | 0,_=>by
  show ((List.replicate n 0).set col u).getD j 0=0;rw [get_set,if_neg λ z=>aY z.1.symm,yt]
 | k+1,h=>by
  rw [vy,get_set,if_neg λ z=>h k .ab z.1];exact MO aY k λ q aK=>h q .ab
theorem MN {tab:aZ} {u:Int} {F:aw} (mO:F.length=n) (Ac:col<n) (af : ∀ q,q<10->aH.getD q 0<n) (zG : ∀ q,q<10->aH.getD q 0≠col) (j3 : ∀ p q,p<10->q<10->aH.getD p 0=aH.getD q 0->p=q) : ∀ k,k<=10->bc (iU tab aH col n u k) F=u * F.getD col 0 - cy (λ q=>fF tab q col * F.getD (aH.getD q 0) 0) k
 | 0,_=>by
  show bc ((List.replicate n 0).set col u) F=u * F.getD col 0 - 0;rw [Fu _ _ _ _ (by rw [kk];exact Ac) (by rw [kk,mO]),yt,rL _ _ λ k=>yt n k];rw [Int.sub_zero];omega
 | k+1,aE=>by
  have b0:=MN (tab:=tab) (u:=u) mO Ac af zG j3 k .ab;rw [vy,Fu _ _ _ _ (by rw [yr];exact af k .ab) (by rw [yr,mO]),b0,MO (zG k .ab) k λ q aK e=>by have:=j3 q k .ab .ab e;omega];show _=u * F.getD col 0 - (cy (λ q=>fF tab q col * F.getD (aH.getD q 0) 0) k+fF tab k col * F.getD (aH.getD k 0) 0);rw [Int.sub_zero,nH];omega
theorem L4 {tab:aZ} {u:Int} (bM:0<u) (ck : ∀ p,p<10->fF tab p col<=0) : ∀ k,k<=10 -> ∀ x∈iU tab aH col n u k,0<=x
 | 0,_,x,ae=>by
  have dF:x∈(List.replicate n 0).set col u:=ae;rcases rE dF with z | z
  ·rw [(yb.mp z).2];exact vc 0
  ·omega
 | k+1,aE,x,ae=>by
  rw [vy] at ae;rcases rE ae with z | z
  ·exact L4 bM ck k .ab x z
  ·have:=ck k .ab;omega
noncomputable def ka (cs tab:aZ) (aH:bo) (col:Nat) (u:Int):aw:=(iU tab aH col (cs.length+10) u 10).take cs.length
theorem L1 : ∀ (a c:aw),bc a (c.map λ x => -x) = - bc a c
 | [],_=>rfl
 | _::_,[]=>rfl
 | a::r,b::s=>by
  rw [jo,fI,fI,L1 r s,Int.mul_neg];omega
theorem FY : ∀ (a:aw) (n:Nat),a.length=n->bc a (List.replicate n 1)=a.sum
 | [],n,h=>by rw [lQ];rfl
 | x::a,0,h=>by cases h
 | x::a,n+1,h=>by
  rw [rq,fI,FY a n (by simpa using h),lJ,Int.mul_one]
theorem acS {l:Nat} (ar:l<10) {x:aw}:bc x (iv l)=x.getD l 0:=by
 rw [L3 x (iv l) l λ j aY=>?_,Gf,if_pos ar,if_pos rfl,Int.mul_one];rw [Gf]
 (repeat' split)<;>omega
theorem iN.balance {k:Nat} {tab:aZ} {u:Int} (h:iN cs k tab aH u) (aj:kc (tab.getD 10 [])=some col) (ck : ∀ p,p<10->fF tab p col<=0):(ka cs tab aH col u).length=cs.length/\(∀ x∈ka cs tab aH col u,0<=x)/\0<(ka cs tab aH col u).sum /\ ∀ p,p<10->0<=bc (ka cs tab aH col u) (fT cs p):=by
 obtain ⟨fg,lg,qD⟩:=Gk aj;have sV:=(h.row (p:=10) .aG).2;rw [sV] at fg;have C:=h.oH.at;have eS : ∀ q,q<10->nZ aH (cs.length+10) q=aH.getD q 0:=λ q aK=>by unfold nZ;rw [if_pos aK]
 have zG : ∀ q,q<10->aH.getD q 0≠col:=λ q aK e=>by
  have:=C.un (p:=10) (q:=q) .aG aK;rw [eS q aK,e,if_neg .ab] at this;have aeW:0<fF tab 10 col:=lg;omega
 have j3 : ∀ p q,p<10->q<10->aH.getD p 0=aH.getD q 0->p=q:=λ p q ao aK e=>C.inj ao aK (by rw [eS p ao,eS q aK];exact e)
 have hv:=L4 (tab:=tab) (aH:=aH) (col:=col) (n:=cs.length+10) C.pos ck 10 (br _);have wX:=yr tab aH col (cs.length+10) u 10;have mO : ∀ p,p<11->bc (iU tab aH col (cs.length+10) u 10) ((iY cs).getD p [])=if p=10 then fF tab 10 col else 0:=λ p ao=>by
  obtain ⟨f1,f2⟩:=OA cs;have gN:((iY cs).getD p []).length=cs.length+10:=f2 _ (by rw [bk,bz .ab];exact g5 _);have y5 : ∀ j,j<cs.length+10->((iY cs).getD p []).getD j 0=ez cs j p:=λ j aY=>Oz ao aY
  rw [MN gN fg (λ q aK=>h.blt aK) zG j3 10 (br _),y5 col fg,lS λ q aK=>by rw [y5 _ (h.blt aK)],<-acj C fg p ao];have QB:cy (λ q=>fF tab q col * ez cs (aH.getD q 0) p) 10=cy (λ q=>fF tab q col * ez cs (nZ aH (cs.length+10) q) p) 10:=lS λ q aK=>by rw [eS q aK]
  rw [QB]
 have Lp:iU tab aH col (cs.length+10) u 10=ka cs tab aH col u++(iU tab aH col (cs.length+10) u 10).drop cs.length:=(List.take_append_drop _ _).symm;have eW:(ka cs tab aH col u).length=cs.length:=by unfold ka;rw [ff,wX];omega
 refine ⟨eW,λ x ae=>hv x (qm ae),?_,λ p ao=>?_⟩
 ·have I:=mO 10 .aG;rw [OY,if_pos rfl,Lp,FX _ _ _ _ (by rw [eW,kk]),FY _ _ eW,Bo,rL _ _ λ j=>yt 10 j,rA] at I;rw [I];exact lg
 ·have I:=mO p .ab;rw [OB ao,if_neg .ab] at I;unfold uW at I;rw [Lp,FX _ _ _ _ (by rw [eW,a6,ve]),L1,acS ao] at I;have ah:0<=((iU tab aH col (cs.length+10) u 10).drop cs.length).getD p 0:=by
   rcases rz (((iU tab aH col (cs.length+10) u 10).drop cs.length).getD p 0=0) with z | z
   ·omega
   ·exact hv _ (A4 (getD_mem z))
  omega
noncomputable def DZ (cs:aZ) (word:Str) (ns:aw):Prop:=dy 92 ns/\((word = "weights" /\ ns.length=10/\(∀ x∈ns,0<=x) /\ ∀ c∈cs,bc ns c<0)\/(word = "balance" /\ ns.length=cs.length/\(∀ x∈ns,0<=x)/\0<ns.sum /\ ∀ p,p<10->0<=bc ns (fT cs p)))
section
variable {P:Program}
noncomputable def aci:b9:=λ ag H Q _ => ∃ (b:Addr) (xs:bB) (ai:cx),ag=[.ref b]/\H b=some (.tup xs)/\ei H xs ai/\1<=xs.length/\xs.length<=500 /\
 ∀ t ad H' word ns,aB H H'->H' t=some (.tup [.str word,.ref ad])->H' ad=some (tupI (er ns))->DZ (rowsOf ai) word ns->Q (.ref t) H'
theorem ab5 (T:cv K ax):cz P w ax base b_ 5 T.NG aci:=by
 refine T.NG.fn.cA k8 (λ ag H Q E h=>?_) (λ bt A outer s H ag Q E av h=>?_)
 ·obtain ⟨b,xs,ai,rfl,_⟩:=h;rfl
 ·obtain ⟨b,xs,ai,rfl,af,hf,eh,wa,q⟩:=h;refine ⟨_,(aV (bP 1 k8 (bf (lU T) av bb (ak (aa 0) aC)))
   (aV (mz (i:=2) k8.eM rfl (Or.inr rfl) (cK ew T.ec eb (ak (aa 1) aC)))
   (aV (bP 3 k8 (bf (ad6 T) av bb (ak (aa 1) aC)))
   (aV (vj (i:=4) k8.eM rfl (Or.inl rfl) (dC k8 (N:=["place", "many"]) (js:=[none,some 2]) (e6.mpr ⟨rfl,(d3 _)⟩)) rfl (iz rfl T.hR (ak (cK ew T.ec eb (ak (nL (v:=.ref T.gs) (by rfl) T.lR rfl) aC)) aC)) (λ _ _ _ _=>ed) (λ _ _ _ _=>eD)
     (λ _ _ _ _=>(bZ eR (aa 1) (aa 0))))
   (aV (bP 5 k8 aX)
   (aV (bP 6 k8 (bf (PV T) av bb (ak (cP f3 (aa 3) (kV k2 aX) (λ _ _=>rfl)) aC)))
   (aV (vp dZ (c6 yh (aa 6) gG (cB _))
    (aV (bP 7 k8 (bf (ab4 T) av bb (ak (aa 3) (ak (aa 4) (ak (aa 6) aC)))))
   (aV (dJ (c6 rm (aa 7) gG (cB _))
    (a5 (bJ (hk (ak lF (ak (bf (Gv T) av bb (ak (mH tw (bf (ab0 T) av bb (ak (aa 3) (ak (aa 4) (ak (aa 6) (ak (aa 5) aC))))) nM (lO (aa 2))) aC)) aC)))))
    dM)
   (aV (bP 8 k8 (cP f3 (cP f3 (aa 3) (aa 7) (λ _ _=>rfl)) (aa 6) (λ _ _=>rfl)))
   (aV (bP 3 k8 (bf (ac7 T) av bb (ak (aa 3) (ak (aa 7) (ak (aa 6) (ak (aa 5) aC))))))
   (aV (bP 5 k8 (aa 8))
   (aV (nA (aa 6) (qg (aa 4) (aa 7) set_list))
   (a5 (bP 6 k8 (bf (PV T) av bb (ak (cP f3 (aa 3) (kV k2 aX) (λ _ _=>rfl)) aC)))))))))))
   (a5 (bJ (hk (ak lF (ak (bf (Gv T) av bb (ak (fx (dC k8 (N:=["number"]) (js:=[none]) (d3 _)) rfl (hA (mH tw (cP f3 (aa 3) (kV k2 aX) (λ _ _=>rfl)) (lO (aa 2)) nM)) (λ _ _ _ _=>ed) (λ _ _ _ _=>eD)
     (λ _ _ _ _=>(kV k2 (aa 0)))) aC)) aC)))))))))))),?_⟩
  have oj:=uV hf.ok;have ie : ∀ c∈rowsOf ai,c.length=10:=nQ ai;have cl:(rowsOf ai).length=xs.length:=by rw [k7,<-hf.1]
  refine ⟨_,rfl,b,xs,ai,rfl,af,hf,.ab,λ rw H1 ys f1 s1 Jn b4=>?_⟩;generalize wM:rowsOf ai=cs at *;have pk:=b4.1;refine ⟨_,rfl,rw,ys,rfl,.inl (aQ.of Jn),?_⟩;rw [pk];refine ⟨_,rfl,rw,ys,cs,rfl,Jn,b4,ie,.ab,λ tb ay cT f2 s2 hY ck=>?_⟩;refine ⟨T.gs,_,rfl,.inr (T.jL ay),_,rfl,.aG,.aG,λ D aT=>?_⟩;refine GN (n:=10) (by rw [cW];decide) (λ i σ' H' zs=>(∃ v:cq,σ'=[v,some (.int (cs.length:Int))])/\aB ay H'/\zs=(bu ((List.range i).map λ q=>cs.length+q)).map V.int) ⟨⟨_,rfl⟩,aB.new aT,rfl⟩ ?_ ?_
  ·rintro i σ' H' zs R aq b7 eW ⟨⟨v,rfl⟩,s',rfl⟩ df;rw [ql];refine ⟨_,rfl,_,rfl,_,_,rfl,rfl,df _ _ _ b7 ⟨⟨_,rfl⟩,?_,?_⟩⟩
   ·intro e o b1;rw [bw (bT b1 aT)];exact s' _ _ b1
   ·rw [vb,ej];unfold bu;rw [ej,ej];show _++[V.int ((cs.length:Int)+(i:Int))]=_++[V.int (((cs.length+i:Nat)):Int)];rw [Int.natCast_add]
  rintro σ' aM zs gr _ ⟨_,s3,rfl⟩;have q1:aB H aM:=s1.trans (s2.trans s3);have HZ:H D=none:=s1.free (s2.free aT);have afB:=ck.1;have HT:iM D aM cT (iY cs):=⟨ck.1,λ i x ae=>by
   obtain ⟨c,a,I,ah,aD⟩:=ck.2 i x ae;exact ⟨c,a,I,ah,bT aD aT,s3 _ _ aD⟩⟩
  have JE:tb≠D:=bT hY aT;have last : ∀ {G:aA} {tb:Addr} {cT:bB} {tab:aZ},oD G cT tab->tab.length=11 -> ∃ a,lq cT (-1)=some (.ref a)/\G a=some (jn (tab.getD 10 [])):=λ {G tb cT tab} ck pA=>by
   obtain ⟨a,I,ah⟩:=ck.at (k:=10) .ab;exact ⟨a,Fi (n:=10) (by rw [ck.1,pA]) I,ah⟩
  have BV:=iN.start cs;obtain ⟨wo,g1,g2⟩:=last (tb:=tb) HT.tab BV.m4;refine ⟨_,rfl,_,rfl,tb,cT,-1,.ref wo,rfl,rfl,aQ.of (s3 _ _ hY),g1,wo,_,rfl,g2,by rw [(BV.row .aG).2];omega,λ aO s4=>?_⟩;refine ⟨λ m σ gI => ∃ (k:Nat) (tb:Addr) (cT:bB) (tab:aZ) (aH:bo) (u:Int) (qK u8:cq),m+k=(cs.length+10) ^ 10/\σ=[some (.ref b),some (.ref rw),some (.int (cs.length:Int)),some (.ref tb),some (.ref D),some (.int u),some (ra (kc (tab.getD 10 []))),qK,u8]/\aB H gI/\gI tb=some (.lst cT)/\tb≠D/\iM D gI cT tab/\gI D=some (jn (bu aH))/\iN cs k tab aH u,⟨(cs.length+10) ^ 10,0,tb,cT,iY cs,(List.range 10).map λ q=>cs.length+q,1,_,_,rfl,rfl,q1.trans s4,s4 _ _ (s3 _ _ hY),JE,HT.same s4,s4 _ _ gr,BV⟩,?_⟩;rintro m σ gI ⟨k,tb,cT,tab,aH,u,qK,u8,afb,rfl,v8,hY,JE,cc,CX,S⟩;have Ad:=S.oH.IE;have wm:=S.bd oj;obtain ⟨wo,g1,g2⟩:=last (tb:=tb) cc.tab S.m4;have iP:=(S.row (p:=10) .aG).2;cases aj:kc (tab.getD 10 []) with
  | none =>
   refine ⟨_,rfl,rfl,_,rfl,dn ?_⟩;obtain ⟨e2,hs,jW⟩:=S.Y9 ie aj;have Il:dy 92 (jD cs tab):=λ n az=>by
    unfold jD at az;obtain ⟨x,ae,rfl⟩:=dz.mp az;rw [Int.natAbs_neg];exact wm.1 _ (S.row .aG).1 x (A4 ae)
   have Uu : ∃ n∈jD cs tab,n≠0:=by
    rcases vE (jD cs tab) with z | z
    ·exact z
    ·exfalso;have hm:cs.getD 0 []∈cs:=by rw [bk,bz .ab];exact g5 _
     have:=jW _ hm;rw [rL _ _ λ k=>ME z k] at this;exact absurd this (Int.lt_irrefl 0)
   refine ⟨_,rfl,_,rfl,tb,cT,-1,.ref wo,rfl,rfl,aQ.of hY,g1,_,rfl,(cs.length:Int),rfl,wo,_,rfl,aQ.of g2,λ p ao=>?_⟩;rw [MK .ab,dY];have sp:aB gI (bC.upd gI p (.lst (((tab.getD 10 []).map V.int).drop cs.length))):=aB.new ao;have lx:bC.upd gI p (.lst (((tab.getD 10 []).map V.int).drop cs.length)) p=some (.lst (((tab.getD 10 []).drop cs.length).map V.int)):=by rw [bK,List.map_drop]
   generalize bC.upd gI p (.lst (((tab.getD 10 []).map V.int).drop cs.length))=G at sp lx;refine ⟨p,rfl,⟨_,aQ.of lx⟩,λ h8 dj=>?_⟩;refine BE (K:=K) (f:=λ v=>match v with | .int n=>.int (-n) | w=>w) (xs:=((tab.getD 10 []).drop cs.length).map V.int) rfl (by rw [cW,a6,qb];omega) dj (aQ.of lx) (λ x H' nX ae r=>?_) ?_
   ·obtain ⟨n,_,rfl⟩:=dz.mp ae;exact ⟨_,rfl,_,rfl,r⟩
   have sT:bC.upd G h8 (.lst ((((tab.getD 10 []).drop cs.length).map V.int).map λ v=>match v with | .int n=>.int (-n) | w=>w)) h8=some (.lst ((jD cs tab).map V.int)):=by
    rw [bK];unfold jD;rw [fZ,fZ];rfl
   have lp:aB G (bC.upd G h8 (.lst ((((tab.getD 10 []).drop cs.length).map V.int).map λ v=>match v with | .int n=>.int (-n) | w=>w))):=aB.new dj;refine ⟨h8,jD cs tab,92,rfl,sT,.ab,Il,.aG,Uu,λ bh bj eG s5 S_=>⟨dG,λ t cY hC bI aW=>?_⟩⟩;exact q t bh cY "weights" (jD cs tab) (v8.trans (sp.trans (lp.trans (s5.trans bI)))) aW (bI _ _ S_) ⟨Il,.inl ⟨rfl,e2,hs,jW⟩⟩
  | some c =>
   refine ⟨_,rfl,rfl,_,rfl,ea ?_⟩;obtain ⟨fg,lg,qD⟩:=Gk aj;rw [iP] at fg;refine ⟨λ σ' H' => ∃ cR,cR<m /\ ∃ (k:Nat) (tb:Addr) (cT:bB) (tab:aZ) (aH:bo) (u:Int) (qK u8:cq),cR+k=(cs.length+10) ^ 10/\σ'=[some (.ref b),some (.ref rw),some (.int (cs.length:Int)),some (.ref tb),some (.ref D),some (.int u),some (ra (kc (tab.getD 10 []))),qK,u8]/\aB H H'/\H' tb=some (.lst cT)/\tb≠D/\iM D H' cT tab/\H' D=some (jn (bu aH))/\iN cs k tab aH u,λ σ' H' h=>h,?_⟩;refine ⟨_,rfl,_,rfl,_,rfl,tb,D,cT,tab,aH,c,rfl,hY,cc.tab,S.m4,λ r av=>by rw [S.ln r av];exact fg,CX,S.gA,λ o bj s5 a0=>?_⟩;cases o with
   | none =>
    refine ⟨_,rfl,rfl,_,rfl,ea ?_⟩;have pG : ∀ p,p<10->fF tab p c<=0:=a0;obtain ⟨wb,wc,CA,CB⟩:=S.balance aj pG;have afH:=S.oH.at.pos;have Io:dy 92 (ka cs tab aH c u):=λ n az=>by
     have Dn:=qm az;have key : ∀ k,k<=10 -> ∀ x∈iU tab aH c (cs.length+10) u k,x.natAbs<=2 ^ 92:=by
      intro k
      induction k with
      | zero =>
       intro _ x ae;have dF:x∈(List.replicate (cs.length+10) 0).set c u:=ae;rcases rE dF with z | z
       ·rw [(yb.mp z).2];exact fk _
       ·rw [z];exact wm.2
      | succ k b0 =>
       intro aE x ae;rw [vy] at ae;rcases rE ae with z | z
       ·exact b0 .ab x z
       ·rw [z,Int.natAbs_neg];exact (wm.1 _ (S.row (p:=k) .ab).1).at c
     exact key 10 (br _) n Dn
    have Ux : ∃ n∈ka cs tab aH c u,n≠0:=by
     rcases vE (ka cs tab aH c u) with z | z
     ·exact z
     ·exfalso;have:(ka cs tab aH c u).sum=0:=by
       rw [<-FY _ _ rfl];exact rL _ _ λ k=>ME z k
      omega
    refine ⟨_,rfl,_,rfl,_,rfl,_,rfl,tb,D,cT,tab,aH,c,cs.length+10,u,rfl,s5 _ _ hY,cc.tab.same s5,S.m4,S.ln,s5 _ _ CX,S.gA,λ p ao=>S.blt ao,fg,.ab,λ l cY hC bI ar=>?_⟩;refine ⟨_,rfl,(cs.length:Int),rfl,l,_,rfl,aQ.of ar,λ p ao=>?_⟩;rw [vm (lK _),dY];have sp:aB cY (bC.upd cY p (.lst (((iU tab aH c (cs.length+10) u 10).map V.int).take cs.length))):=aB.new ao;have lx:bC.upd cY p (.lst (((iU tab aH c (cs.length+10) u 10).map V.int).take cs.length)) p=some (.lst ((ka cs tab aH c u).map V.int)):=by
     rw [bK];unfold ka;rw [List.map_take]
    refine ⟨p,ka cs tab aH c u,92,rfl,lx,.ab,Io,.aG,Ux,λ bh ek QF dA Ta=>⟨dG,λ t k_ f8 e1 aW=>?_⟩⟩;exact q t bh k_ "balance" (ka cs tab aH c u) (v8.trans (s5.trans (bI.trans (sp.trans (dA.trans e1))))) aW (e1 _ _ Ta) ⟨Io,.inr ⟨rfl,wb,wc,CA,CB⟩⟩
   | some p =>
    refine ⟨_,rfl,rfl,_,rfl,dn ?_⟩;have yX:=S.step aj a0;obtain ⟨p1,cS,hq⟩:=a0;have Kl:=s5 _ _ hY;have wD:=cc.same s5;have pB:=s5 _ _ CX;obtain ⟨dw,hH,uF⟩:=wD.tab.at (k:=p) (by rw [S.m4];omega);have xe:=(S.row (p:=p) .ab).2;refine ⟨_,rfl,_,rfl,tb,cT,(p:Int),.ref dw,rfl,rfl,aQ.of Kl,h5 .ab (by rw [dY];exact hH),_,rfl,dw,_,(c:Int),.int ((tab.getD p []).getD c 0),rfl,rfl,aQ.of uF,at_getD .ab,?_⟩;refine ⟨_,rfl,_,rfl,_,rfl,_,rfl,tb,D,_,cT,tab,p,c,cs.length+10,92,u,rfl,Kl,pB,wD,S.m4,.ab,λ r av=>⟨S.ln r av,wm.1 r av⟩,fg,.ab,.aG,rB S.oH.at.pos,wm.2,λ l cY xk hC bI sC Ss=>?_⟩;have CV:=bI _ _ pB;have JD:l≠D:=λ z=>by rw [z,pB] at hC;cases hC
    have Q9:((bu aH).map V.int).length=10:=by rw [a6];unfold bu;rw [a6];exact S.gA
    refine ⟨_,rfl,?_⟩;refine ⟨_,rfl,_,rfl,_,rfl,D,_,(p:Int),p,rfl,rfl,CV,by rw [qd .ab (by rw [Q9];omega),dY],?_⟩;generalize y9:bC.upd cY D (.lst (((bu aH).map V.int).set p (ra (some c))))=G;have BZ:b6 D cY G:=by rw [<-y9];exact b6.upd
    have Sn:G D=some (jn (bu (aH.set p c))):=by
     rw [<-y9,bK];show some (fy.lst (((bu aH).map V.int).set p (V.int (c:Int))))=_;unfold jn bu;rw [k3,k3]
    have Jd:=BZ _ _ JD sC;have IK:=Ss.but BZ;obtain ⟨gA,aJ,aN⟩:=last (tb:=l) IK.tab yX.m4;have afM:=(yX.row (p:=10) .aG).2;refine ⟨_,rfl,_,rfl,l,xk,-1,.ref gA,rfl,rfl,aQ.of Jd,aJ,gA,_,rfl,aN,.ab,λ ek dA=>?_⟩;have aE:=yX.oH.IE;refine ⟨m - 1,.ab,k+1,l,xk,oL tab p c u,aH.set p c,_,_,_,.ab,rfl,?_,dA _ _ Jd,JD,IK.same dA,dA _ _ Sn,yX⟩;intro x o e;exact dA _ _ (BZ _ _ (bT e HZ) (bI _ _ (s5 _ _ (v8 _ _ e))))
noncomputable def intOf:V->Int
 | .int i=>i
 | _=>0
noncomputable def nh (H:aA) (v:V):Option aw:=match kQ H v with
 | some xs=>if decide (xs.length=10)&&xs.all mc then some (xs.map intOf) else none
 | none=>none
theorem Gx {v:V} {r:aw} (h:nh H v=some r) : ∃ a,v=.ref a/\H a=some (tupI r)/\r.length=10:=by
 unfold nh at h;cases ck:kQ H v with
 | none=>rw [ck] at h;cases h
 | some xs =>
  rw [ck] at h;simp only at h;split at h
  ·next aj =>
   rw [h4] at aj;obtain ⟨a,rfl,au⟩:=yv ck;have e:(xs.map intOf).map V.int=xs:=by
    rw [fZ]
    conv=>rhs;rw [<-List.map_id xs]
    refine qj λ x ae=>?_
    obtain ⟨n,rfl⟩:=yf (e5.mp aj.2 x ae);rfl
   cases h;refine ⟨a,rfl,?_,by rw [a6];exact fY aj.1⟩;rw [au];unfold tupI;rw [e]
  ·cases h
theorem aae {r:aw} (au:H a=some (tupI r)) (ie:r.length=10):nh H (.ref a)=some r:=by
 unfold nh;rw [vh au];show (if decide ((r.map V.int).length=10)&&(r.map V.int).all mc then some ((r.map V.int).map intOf) else none)=some r;rw [a6,ie,show (r.map V.int).all mc=true from e5.mpr λ x ae=>by
  obtain ⟨n,_,rfl⟩:=dz.mp ae;rfl,fZ]
 have e:(intOf ∘ V.int)=id:=rfl;rw [e,List.map_id];rfl
noncomputable def ng:V->Bool
 | .int i=>decide (0<=i)
 | _=>false
noncomputable def sZ (H:aA) (v:V):Bool:=match kQ H v with
 | some xs=>decide (xs.length=10)&&xs.all ng
 | none=>false
noncomputable def ads:b9:=λ ag H Q _ => ∃ v,ag=[v]/\q4 H v /\ ∀ H',aB H H'->Q (.aH (sZ H v)) H'
theorem ac_ (T:cv K ax):cz P w ax base b_ 2 T.OO ads:=by
 refine T.OO.fn.cA Pt (λ ag H Q E h=>?_) (λ bt A outer s H ag Q E av h=>?_)
 ·obtain ⟨v,rfl,_⟩:=h;rfl
 ·obtain ⟨v,rfl,⟨k,d5⟩,q⟩:=h;refine ⟨_,(aV (dJ (i3.pt (oR (lG (k0 (cK yn T.yJ yI (ak (aa 0) (ak (xQ (by rfl) T.h7 h6) aC))))) (ro (c6 rd (cK ew T.ec eb (ak (aa 0) aC)) (cK ew T.ec eb (ak (nL (v:=.ref T.gs) (by rfl) T.lR rfl) aC)) (cB _)))))
    (a5 (bJ h2))
    dM)
   (a5 (bJ (cK (tx rfl) T.sY sW (ak (fx (dC Pt (N:=["part"]) (js:=[none]) (d3 _)) rfl (kZ (aa 0)) (λ _ _ _ _=>ed) (λ _ _ _ _=>eD)
     (λ _ _ _ _=>(te (bf (Bz T) av bb (ak (aa 0) aC)) (uY (jJ xN (aa 0) aX (cB _)))))) aC))))),?_⟩
  obtain ⟨t,ty,e⟩:=EC (K:=K) k;refine ⟨_,rfl,v, "tuple", t,_,rfl,ty,e,_,rfl,?_⟩;cases ck:kQ H v with
  | none =>
   refine ea (ea ?_);have bh:=q H (aB.refl H);rw [show sZ H v=false by unfold sZ;rw [ck]] at bh;exact bh
  | some xs =>
   obtain ⟨a,rfl,au⟩:=yv ck;obtain ⟨ar,aE⟩:=d5 xs ck;have qF:sZ H (.ref a)=(decide (xs.length=10)&&xs.all ng):=by unfold sZ;rw [ck]
   refine dn ⟨_,rfl,a,xs,rfl,.inr (aP.of au),T.gs,_,rfl,.inr (T.jL H),rfl,_,rfl,hx (λ h=>?_) (λ h=>?_)⟩
   ·have aN:xs.length≠10:=λ z=>by
     rw [z] at h;exact absurd h .aG
    have bh:=q H (aB.refl H);rw [qF,ee aN] at bh;exact bh
   ·have aN:xs.length=10:=by
     have h':decide (V.int (xs.length:Int)=V.int 10)=true:=by
      cases z:decide (V.int (xs.length:Int)=V.int 10) with
      | true=>rfl
      | false=>exact absurd (show (!decide (V.int (xs.length:Int)=V.int 10))=true by rw [z];rfl) h
     have:=A8 h';omega
    refine ⟨_,rfl,a,rfl,⟨_,aP.of au⟩,λ D aT=>PG (xs:=xs) (f:=λ v=>.aH (ng v)) rfl (by rw [aN];decide) aT (aP.of au) ?_ ⟨D,xs.map ng,rfl,?_,?_⟩⟩
    ·intro x H' R s' ae r;refine ⟨_,rfl,x,rfl,aB.kind s' (aE x ae),_,rfl,?_⟩;cases hw:mc x with
     | false =>
      refine dn ?_;have dT:ng x=false:=by cases x<;>first | rfl | cases hw
      have cu:R (.aH (ng x)) H':=r;rw [dT] at cu;exact cu
     | true =>
      obtain ⟨n,rfl⟩:=yf hw;exact ea ⟨_,rfl,_,_,rfl,rfl,r⟩
    ·rw [fZ];exact aQ.of bK
    ·have bh:=q _ (aB.new (o:=.lst (xs.map λ v=>V.aH (ng v))) aT);rw [qF,cX aN,mF] at bh;rw [tq];exact bh
theorem Z5 (H:aA) (v:V):sZ H v=match nh H v with | some r=>nn r | none=>false:=by
 unfold sZ nh;cases kQ H v with
 | none=>rfl
 | some xs =>
  simp only;by_cases ar:xs.length=10
  ·rw [cX ar,mF,mF];cases hw:xs.all mc with
   | true =>
    rw [if_pos rfl];show xs.all ng=nn (xs.map intOf);have key : ∀ l:bB,l.all mc=true->l.all ng=nn (l.map intOf):=by
     intro l
     induction l with
     | nil=>intro _;rfl
     | cons x l b0 =>
      intro h;rw [List.all_cons,h4] at h;obtain ⟨n,rfl⟩:=yf h.1;rw [List.all_cons,b0 h.2];rfl
    exact key xs hw
   | false =>
    rw [if_neg fc];show xs.all ng=false;cases ao:xs.all ng with
    | false=>rfl
    | true =>
     exfalso;have:xs.all mc=true:=e5.mpr λ x ae=>by
      have:=e5.mp ao x ae;cases x<;>first | rfl | cases this
     rw [this] at hw;cases hw
  ·rw [ee ar,tc,tc,if_neg fc]
noncomputable def qO (ai:cx) (H:aA) (v:V):Bool:=match nh H v with
 | some r=>nn r&&(rowsOf ai).all λ c=>decide (bc r c<0)
 | none=>false
noncomputable def ad8:b9:=λ ag H Q _ => ∃ (b:Addr) (v:V) (xs:bB) (ai:cx) (m:Nat),ag=[.ref b,v]/\H b=some (.tup xs)/\ei H xs ai/\xs.length<=1000/\q4 H v/\(∀ r,nh H v=some r->dy m r)/\m<=20000 /\ ∀ H',aB H H'->Q (.aH (qO ai H v)) H'
theorem PT (T:cv K ax):cz P w ax base b_ 5 T.PC ad8:=by
 refine T.PC.fn.cA PW (λ ag H Q E h=>?_) (λ bt A outer s H ag Q E av h=>?_)
 ·obtain ⟨b,v,xs,ai,m,rfl,_⟩:=h;rfl
 ·obtain ⟨b,v,xs,ai,m,rfl,af,hf,zM,hw,dE,hm,q⟩:=h;refine ⟨_,(aV (dJ (lG (k0 (bf (ac_ T) av bb (ak (aa 1) aC))))
    (a5 (bJ h2))
    dM)
   (a5 (bJ (cK (tx rfl) T.sY sW (ak (fx (dC PW (N:=["changes", "thing"]) (js:=[none,some 1]) (e6.mpr ⟨rfl,(d3 _)⟩)) rfl (hA (bf (lU T) av bb (ak (aa 0) aC))) (λ _ _ _ _=>ed) (λ _ _ _ _=>eD)
     (λ _ _ _ _=>(jJ nj (bf (rM T) av bb (ak (aa 1) (ak (aa 0) aC))) aX (cB _)))) aC))))),?_⟩
  have oj:=uV hf.ok;refine ⟨_,rfl,v,rfl,hw,λ H1 s1=>⟨_,rfl,?_⟩⟩;have pr:=Z5 H v;unfold qO at q;cases gm:nh H v with
  | none =>
   rw [gm] at pr q;rw [pr];exact ea (q H1 s1)
  | some r =>
  rw [gm] at pr q;rw [pr];obtain ⟨a,rfl,au,ar⟩:=Gx gm;have dE:=dE r gm;cases az:nn r with
  | false =>
   simp only [az,tc] at q ⊢;exact ea (q H1 s1)
  | true =>
  simp only [az,mF] at q ⊢;refine dn ?_;refine ⟨_,rfl,b,xs,ai,rfl,s1 _ _ af,hf.same s1,zM,λ l ay ys f2 s2 dQ b4=>⟨l,rfl,⟨_,aQ.of dQ⟩,λ D aT=>?_⟩⟩;have pk:=b4.1;have gN:=hf.1;have t2:=k7 ai;refine tE (K:=K) (a:=l) (xs:=ys) (by rw [cW];omega) (λ i σ' H' zs=>(∃ u:cq,σ'=[u,some (.ref a)])/\aB ay H'/\zs=(((rowsOf ai).take i).map λ c=>decide (bc r c<0)).map V.aH) ⟨⟨_,rfl⟩,aB.new aT,rfl⟩ (λ i σ' H' ys _ _ ⟨_,s',_⟩=>aQ.of (s' _ _ dQ)) ?_ ?_
  ·rintro i x σ' H' zs R ae b7 eW ⟨⟨u,rfl⟩,s',rfl⟩ df;obtain ⟨c,aj,ca,rfl,so⟩:=b4.2 i x ae;refine ⟨_,rfl,_,rfl,a,ca,r,c,m,6,rfl,s' _ _ (s2 _ _ (s1 _ _ au)),s' _ _ so,.ab,dE,oj c (cf aj),hm,.aG,λ aM s3=>⟨_,_,rfl,rfl,df _ _ _ (s3 _ _ b7) ⟨⟨_,rfl⟩,?_,?_⟩⟩⟩
   ·intro e o b1;rw [bw (bT b1 aT)];exact s3 _ _ (s' _ _ b1)
   ·rw [eC,aj,ej,ej];rfl
  ·rintro σ' aO zs ig eW ⟨_,s4,rfl⟩;refine ⟨D,_,rfl,aQ.of ig,?_⟩;rw [fG .ab,tq];exact q aO ((s1.trans s2).trans s4)
noncomputable def p2:V->Int
 | .int i=>i
 | _=>0
noncomputable def mg:V->Bool
 | .int i=>decide (0<=i)
 | _=>false
noncomputable def mi (n:Nat) (H:aA) (v:V):Option aw:=match kQ H v with
 | some xs=>if decide (xs.length=n)&&xs.all mg then some (xs.map p2) else none
 | none=>none
theorem Z4 (h:xs.all mg=true):(xs.map p2).map V.int=xs /\ ∀ x∈xs.map p2,0<=x:=by
 have key : ∀ x∈xs,∃ n:Int,x=.int n/\0<=n:=λ x ae=>by
  have:=e5.mp h x ae;cases x with
  | int n=>exact ⟨n,rfl,fY this⟩
  | _=>cases this
 refine ⟨?_,λ y a8=>?_⟩
 ·rw [fZ]
  conv=>rhs;rw [<-List.map_id xs]
  refine qj λ x ae=>?_
  obtain ⟨n,rfl,_⟩:=key x ae;rfl
 ·obtain ⟨x,ae,rfl⟩:=dz.mp a8;obtain ⟨n,rfl,h0⟩:=key x ae;exact h0
noncomputable def zP (ai:cx) (H:aA) (v:V):Bool:=match mi ai.length H v with
 | some r => !decide (∀ x∈r,x=0)&&(List.range 10).all λ p=>decide (bc r (fT (rowsOf ai) p) ≥ 0)
 | none=>false
noncomputable def adU:b9:=λ ag H Q _ => ∃ (b:Addr) (v:V) (xs:bB) (ai:cx) (m:Nat),ag=[.ref b,v]/\H b=some (.tup xs)/\ei H xs ai/\1<=xs.length/\xs.length<=1000/\q4 H v/\(∀ r,mi ai.length H v=some r->dy m r)/\m<=20000 /\ ∀ H',aB H H'->Q (.aH (zP ai H v)) H'
theorem adK (T:cv K ax):cz P w ax base b_ 5 T.Pf adU:=by
 refine T.Pf.fn.cA Hx (λ ag H Q E h=>?_) (λ bt A outer s H ag Q E av h=>?_)
 ·obtain ⟨b,v,xs,ai,m,rfl,_⟩:=h;rfl
 ·obtain ⟨b,v,xs,ai,m,rfl,af,hf,eh,zM,⟨k,d5⟩,dE,hm,q⟩:=h;refine ⟨_,(aV (dJ (i3.pt (oR (lG (k0 (cK yn T.yJ yI (ak (aa 1) (ak (xQ (by rfl) T.h7 h6) aC))))) (ro (c6 rd (cK ew T.ec eb (ak (aa 1) aC)) (cK ew T.ec eb (ak (aa 0) aC)) (cB _)))))
    (a5 (bJ h2))
    dM)
   (aV (dJ (i3.pt (oR (lG (k0 (cK (tx rfl) T.sY sW (ak (fx (dC Hx (N:=["part"]) (js:=[none]) (d3 _)) rfl (kZ (aa 1)) (λ _ _ _ _=>ed) (λ _ _ _ _=>eD)
     (λ _ _ _ _=>(te (bf (Bz T) av bb (ak (aa 0) aC)) (uY (jJ xN (aa 0) aX (cB _)))))) aC)))) (ro (c6 h1 (cK (aaC rfl) T.xK xG (ak (aa 1) aC)) aX (cB _)))))
    (a5 (bJ h2))
    dM)
   (a5 (bJ (cK (tx rfl) T.sY sW (ak (fx (dC Hx (N:=["changes", "thing"]) (js:=[none,some 1]) (e6.mpr ⟨rfl,(d3 _)⟩)) rfl (hA (bf (Pp T) av bb (ak (bf (lU T) av bb (ak (aa 0) aC)) aC))) (λ _ _ _ _=>ed) (λ _ _ _ _=>eD)
     (λ _ _ _ _=>(jJ xN (bf (rM T) av bb (ak (aa 1) (ak (aa 0) aC))) aX (cB _)))) aC)))))),?_⟩
  have oj:=uV hf.ok;have gN:=hf.1;obtain ⟨t,ty,e⟩:=EC (K:=K) k;refine ⟨_,rfl,v, "tuple", t,_,rfl,ty,e,_,rfl,?_⟩;unfold zP at q;cases ck:kQ H v with
  | none =>
   rw [show mi ai.length H v=none by unfold mi;rw [ck]] at q;exact ea (ea (q H (aB.refl H)))
  | some ys =>
   obtain ⟨a,rfl,au⟩:=yv ck;obtain ⟨ar,aE⟩:=d5 ys ck;refine dn ⟨_,rfl,a,ys,rfl,.inr (aP.of au),_,rfl,b,xs,rfl,.inr (aP.of af),rfl,_,rfl,?_⟩;by_cases hlen:ys.length=ai.length
   rotate_left
   ·rw [show mi ai.length H (.ref a)=none by unfold mi;rw [ck];simp only [ee hlen,tc];rfl] at q;rw [ee (show ¬ V.int (ys.length:Int)=V.int (xs.length:Int) from λ z=>hlen (by injection z with z;omega))];exact ea (q H (aB.refl H))
   ·rw [cX (show V.int (ys.length:Int)=V.int (xs.length:Int) by rw [hlen,gN])];refine dn ?_;refine ⟨_,rfl,a,rfl,⟨_,aP.of au⟩,λ D aT=>PG (xs:=ys) (f:=λ v=>.aH (mg v)) rfl (by rw [cW];omega) aT (aP.of au) ?_ ⟨D,ys.map mg,rfl,?_,?_⟩⟩
    ·intro x H' R s' ae r;refine ⟨_,rfl,x,rfl,aB.kind s' (aE x ae),_,rfl,?_⟩;cases hw:mc x with
     | false =>
      refine dn ?_;have dT:mg x=false:=by cases x<;>first | rfl | cases hw
      have cu:R (.aH (mg x)) H':=r;rw [dT] at cu;exact cu
     | true =>
      obtain ⟨n,rfl⟩:=yf hw;exact ea ⟨_,rfl,_,_,rfl,rfl,r⟩
    ·rw [fZ];exact aQ.of bK
    ·have n7:aB H (bC.upd H D (.lst (ys.map λ v=>V.aH (mg v)))):=aB.new aT;generalize bC.upd H D (.lst (ys.map λ v=>V.aH (mg v)))=H1 at n7 ⊢;refine ⟨_,rfl,?_⟩;rw [tq];show (if (!(ys.all mg))=true then _ else _);cases ao:ys.all mg with
     | false =>
      rw [show mi ai.length H (.ref a)=none by unfold mi;rw [ck];simp only [ao,Bool.and_false];rfl] at q;exact ea (ea (q H1 n7))
     | true =>
      obtain ⟨aJ,aN⟩:=Z4 ao;have tV:mi ai.length H (.ref a)=some (ys.map p2):=by unfold mi;rw [ck];simp only [cX hlen,ao,Bool.and_self];rfl
      have IX:=dE _ tV;rw [tV] at q;have zH:(ys.map p2).length=ai.length:=by rw [a6];exact hlen
      have lr:H a=some (tupI (ys.map p2)):=by rw [au];unfold tupI;rw [aJ]
      generalize ys.map p2=r at aN IX q zH lr;refine dn ⟨_,rfl,a,r,rfl,aP.of (n7 _ _ lr),(λ z=>by rw [z] at zH;have:0=ai.length:=zH;omega),λ M Su Sv=>⟨rfl,_,rfl,?_⟩⟩;by_cases aS : ∀ x∈r,x=0
      ·have jS:M=0:=aS M Su;rw [cX (show V.int M=V.int 0 by rw [jS])];simp only [cX aS,Bool.not_true,tc] at q;exact ea (q H1 n7)
      ·have jS : ¬ M=0:=λ z=>aS λ x ae=>by
        have I:=Sv x ae;have ah:=aN x ae;omega
       rw [ee (show ¬ V.int M=V.int 0 from λ z=>jS (by injection z))];simp only [ee aS,Bool.not_false,mF] at q;refine dn ?_;refine ⟨_,rfl,b,xs,ai,rfl,n7 _ _ af,hf.same n7,zM,λ l ay zs f2 s2 dQ b4=>?_⟩;refine ⟨l,zs,rowsOf ai,rfl,dQ,b4,nQ ai,by rw [k7];omega,λ iG aM ws e8 s3 gb cC=>⟨iG,rfl,⟨_,aQ.of gb⟩,λ jN gr=>?_⟩⟩;have wl:=cC.1;rw [a6,i0] at wl;have qQ:=s3 _ _ (s2 _ _ (n7 _ _ lr));refine GL (K:=K) (xs:=ws) (σ0:=[some (.ref a)]) (by rw [cW];omega) ⟨_,rfl⟩ gr gb (λ i H' us=>us=(((List.range 10).take i).map λ p=>decide (bc r (fT (rowsOf ai) p) ≥ 0)).map V.aH) rfl (λ i H' ay us _ _ h _=>h) (λ i x H' us R s' ae _ _ bM df=>?_) λ aO us s4 ig _ bM=>?_
       ·obtain ⟨c,ca,aj,rfl,_,so⟩:=cC.2 i x ae;have aq:i<10:=by rw [<-wl];exact (cL.mp ae).1
        rw [c9,nJ aq] at aj;cases aj;have SH:dy 6 (fT (rowsOf ai) i):=λ n az=>by
         obtain ⟨c,aj,rfl⟩:=dz.mp az;exact (oj c aj).at i
        refine ⟨_,rfl,_,rfl,a,ca,r,fT (rowsOf ai) i,m,6,rfl,s' _ _ qQ,s' _ _ so,.ab,IX,SH,hm,.aG,λ bj s5=>⟨_,_,rfl,rfl,df _ bj s5 ?_⟩⟩;rw [eC,nJ aq,ej,ej,bM];rfl
       ·rw [fG (by rw [i0];omega)] at bM;subst bM;refine ⟨jN,_,rfl,aQ.of ig,?_⟩;rw [tq];exact q aO (n7.trans (s2.trans (s3.trans s4)))
noncomputable def J7 (cs:aZ):Prop := ∃ ws:aw,ws.length<=10/\(∀ x∈ws,0<=x) /\ ∀ c∈cs,bc ws c<0
noncomputable def J6 (cs:aZ):Prop := ∃ ys:aw,ys.length=cs.length/\(∀ x∈ys,0<=x)/\(∃ y∈ys,y≠0) /\ ∀ p,p<10->0<=bc ys (fT cs p)
theorem has_both (h:J7 cs) (h':J6 cs):False:=by
 obtain ⟨ws,e2,hs,jW⟩:=h;obtain ⟨ys,wb,wc,CA,CB⟩:=h';exact abY hs e2 jW wc wb CA CB
theorem acv (h:DZ cs "weights" ns) (aj:cs≠[]):(er ns).length=10/\(∀ x∈er ns,0<=x) /\ ∀ c∈cs,bc (er ns) c<0:=by
 rcases h.2 with ⟨_,ah,aD,aL⟩ | ⟨I,_⟩
 ·have aS : ∃ n∈ns,n≠0:=by
   cases cs with
   | nil=>exact absurd rfl aj
   | cons c cs=>exact ac3 (aL c (d2 ..))
  obtain ⟨g,i5,e,iF,_⟩:=AJ aD aS;exact ⟨by rw [FZ];exact ah,iF,λ c dW=>Yc aD aS (aL c dW)⟩
 ·exact absurd I .aG
theorem acu (h:DZ cs "balance" ns):(er ns).length=cs.length/\(∀ x∈er ns,0<=x)/\(∃ y∈er ns,y≠0) /\ ∀ p,p<10->0<=bc (er ns) (fT cs p):=by
 rcases h.2 with ⟨I,_⟩ | ⟨_,ah,aD,aL,cp⟩
 ·exact absurd I .aG
 ·have aS:=adA aL;obtain ⟨g,i5,e,iF,c3⟩:=AJ aD aS;exact ⟨by rw [FZ];exact ah,iF,c3,λ p ao=>abT aD aS (cp p ao)⟩
theorem VS {ai:cx} {r:aw} (au:H a=some (tupI r)) (ie:r.length=10) (h0 : ∀ x∈r,0<=x) (hd : ∀ c∈rowsOf ai,bc r c<0):qO ai H (.ref a)=true:=by
 unfold qO;rw [aae au ie];show (nn r&&(rowsOf ai).all λ c=>decide (bc r c<0))=true;rw [iZ.mpr h0,mF];exact e5.mpr λ c aj=>cX (hd c aj)
theorem WE {ai:cx} {v:V} (h:qO ai H v=true):J7 (rowsOf ai):=by
 unfold qO at h;cases gm:nh H v with
 | none=>rw [gm] at h;cases h
 | some r =>
  rw [gm] at h;have h':(nn r&&(rowsOf ai).all λ c=>decide (bc r c<0))=true:=h;rw [h4] at h';obtain ⟨a,_,_,ar⟩:=Gx gm;exact ⟨r,.ab,iZ.mp h'.1,λ c aj=>fY (e5.mp h'.2 c aj)⟩
theorem Ni {r:aw} (au:H a=some (tupI r)) (ar:r.length=n) (h0 : ∀ x∈r,0<=x):mi n H (.ref a)=some r:=by
 unfold mi;rw [vh au];show (if decide ((r.map V.int).length=n)&&(r.map V.int).all mg then some ((r.map V.int).map p2) else none)=some r;rw [a6,cX ar,show (r.map V.int).all mg=true from e5.mpr λ x ae=>by
  obtain ⟨n,az,rfl⟩:=dz.mp ae;exact cX (h0 n az),fZ]
 have e:(p2 ∘ V.int)=id:=rfl;rw [e,List.map_id];rfl
theorem V8 {ai:cx} {r:aw} (au:H a=some (tupI r)) (ar:r.length=ai.length) (h0 : ∀ x∈r,0<=x) (aS : ∃ y∈r,y≠0) (hd : ∀ p,p<10->0<=bc r (fT (rowsOf ai) p)):zP ai H (.ref a)=true:=by
 unfold zP;rw [Ni au ar h0];show (!decide (∀ x∈r,x=0)&&(List.range 10).all λ p=>decide (bc r (fT (rowsOf ai) p) ≥ 0))=true;rw [ee (λ z=>by obtain ⟨y,a8,Tw⟩:=aS;exact Tw (z y a8)),Bool.not_false,mF];exact e5.mpr λ p ao=>cX (hd p (fH.mp ao))
inductive dS where
 | add (c n:Nat)
 | bE (c n o:Nat)
noncomputable def dS.ag:dS->bB
 | .add c n=>[.str "add", .int c,.int n]
 | .bE c n o=>[.str "take", .int c,.int n,.int o]
noncomputable def dS.ok (many size:Nat):dS->Prop
 | .add c n=>c<many/\n<=size
 | .bE c n o=>c<many/\n<=size/\o<=size
noncomputable def gj (H:aA) (xs:bB) (rs:List dS):Prop:=xs.length=rs.length /\ ∀ (i:Nat) (x:V),xs[i]?=some x -> ∃ r a,rs[i]?=some r/\x=.ref a/\H a=some (.tup r.ag)
structure q8 (H:aA) (m:Addr) (many:Nat) (rs:List dS):Prop where
 ex : ∃ (b:Addr) (xs:bB),H m=some (.tup [.int many,.ref b])/\H b=some (.tup xs)/\gj H xs rs
 hT:1<=many
 bV:1<=rs.length
 ok : ∀ r∈rs,r.ok many rs.length
theorem gj.keep {rs:List dS} (k:e3 H H') (h:gj H xs rs):gj H' xs rs:=⟨h.1,λ i x ae=>by
 obtain ⟨r,a,I,ah,aD⟩:=h.2 i x ae;exact ⟨r,a,I,ah,k.tup aD⟩⟩
theorem gj.snoc {rs:List dS} (h:gj H xs rs) {r:dS} (au:H a=some (.tup r.ag)):gj H (xs++[.ref a]) (rs++[r]):=⟨by rw [cJ,cJ,h.1];rfl,λ i x ae=>by
 rcases k5 i xs.length with z | z
 ·rw [gi z] at ae;obtain ⟨bU,hn,I,ah,aD⟩:=h.2 i x ae;exact ⟨bU,hn,by rw [gi (by rw [<-h.1];exact z)];exact I,ah,aD⟩
 ·rw [g4 z] at ae;have hb:i - xs.length=0:=by
   rcases nE (i - xs.length) with z | z
   ·exact z
   ·rw [g6 (show [V.ref a].length<=_ from z)] at ae;cases ae
  rw [hb] at ae;cases ae;exact ⟨r,a,by rw [g4 (by rw [<-h.1];exact z),<-h.1,hb];rfl,rfl,au⟩⟩
theorem q8.keep {m:Addr} {rs:List dS} (k:e3 H H') (h:q8 H m many rs):q8 H' m many rs:=⟨by
 obtain ⟨b,xs,I,ah,aD⟩:=h.ex;exact ⟨b,xs,k.tup I,k.tup ah,aD.keep k⟩,h.hT,h.bV,h.ok⟩
theorem q8.same {m:Addr} {rs:List dS} (h:q8 H m many rs) (s:aB H H'):q8 H' m many rs:=h.keep (e3.of s)
noncomputable def fj (es:aw) (c:Nat) (x:Int):aw:=es.set c (es.getD c 0+x)
noncomputable def hO (rs:List dS) (s:Nat×aw):Nat×aw :=
 match rs[s.1]? with
 | none=>s
 | some (.add c n)=>(n,fj s.2 c 1)
 | some (.bE c n o)=>if 0<s.2.getD c 0 then (n,fj s.2 c (-1)) else (o,s.2)
noncomputable def q9 (many:Nat) (rs:List dS) (s:Nat×aw):Prop:=s.1<=rs.length/\s.2.length=many /\ ∀ e∈s.2,0<=e
noncomputable def pw (H:aA) (a:Addr) (s:Nat×aw):Prop := ∃ v,H a=some (.tup [.int s.1,.ref v])/\H v=some (tupI s.2)
theorem X4 {es:aw} (h : ∀ e∈es,0<=e) (c:Nat):0<=es.getD c 0:=by
 rw [bk];cases ah:es[c]? with
 | none=>exact vc 0
 | some e=>exact h e (cf ah)
theorem LU {es:aw} {c:Nat} {x:Int} (h : ∀ e∈es,0<=e) (ae:0<=es.getD c 0+x) : ∀ e∈fj es c x,0<=e:=by
 intro e he;rcases rE he with z | z
 ·exact h e z
 ·rw [z];exact ae
theorem yo {es:aw} {c:Nat} {x:Int}:(fj es c x).length=es.length:=jI
theorem X_ {rs:List dS} {s:Nat×aw} (av : ∀ r∈rs,r.ok many rs.length) (h:q9 many rs s):q9 many rs (hO rs s):=by
 obtain ⟨I,ah,aD⟩:=h;unfold hO;cases e:rs[s.1]? with
 | none=>exact ⟨I,ah,aD⟩
 | some r =>
  have aE:=av r (cf e);cases r with
  | add c n=>exact ⟨aE.2,by rw [yo];exact ah,LU aD (by have:=X4 aD c;omega)⟩
  | bE c n o =>
   show q9 many rs (if 0<s.2.getD c 0 then (n,fj s.2 c (-1)) else (o,s.2));split
   ·exact ⟨aE.2.1,by rw [yo];exact ah,LU aD .ab⟩
   ·exact ⟨aE.2.2,ah,aD⟩
theorem UK {es:aw} {c:Nat} {x:Int} (h:c<es.length):(es.map V.int).take c++[V.int x]++(es.map V.int).drop (c+1)=(es.set c x).map V.int:=by
 rw [k3,List.set_eq_take_append_cons_drop,if_pos (by rw [a6];exact h),lI];rfl
theorem KP {es:aw} {c:Nat} (h:c<es.length):(es.map V.int)[c]?=some (.int (es.getD c 0)):=by
 rw [c9,bk,bz h];rfl
noncomputable def aca:b9:=λ ag H Q _ => ∃ (v:Addr) (c:Nat) (x:Int) (es:aw),ag=[.ref v,.int c,.int x]/\H v=some (tupI es)/\c<es.length/\es.length<=1000 /\ ∀ (p:Addr) (H':aA),aB H H'->H' p=some (tupI (fj es c x))->Q (.ref p) H'
theorem OD (T:cv K ax):cz P w ax base b_ 1 T.Nz aca:=by
 refine T.Nz.fn.cA ab_ (λ ag H Q E h=>?_) (λ bt A outer s H ag Q E av h=>?_)
 ·obtain ⟨v,c,x,es,rfl,_⟩:=h;rfl
 ·obtain ⟨v,c,x,es,rfl,bl,aj,ar,q⟩:=h;refine ⟨_,(a5 (bJ (bZ M5 (bZ M5 (mH Ap (aa 0) nM (lO (aa 1))) (hk (ak (bZ eR (cP fP (aa 0) (aa 1) (λ _ _=>rfl)) (aa 2)) aC))) (mH Ap (aa 0) (lO (bZ eR (aa 1) aX)) nM)))),?_⟩;refine ⟨_,rfl,_,rfl,_,rfl,v,_,rfl,bl,λ p1 H1 s1 jC=>?_⟩;refine ⟨_,rfl,_,rfl,v,_,_,_,rfl,rfl,aP.of (s1 _ _ bl),qp (KP aj),_,rfl,_,_,rfl,rfl,dG,λ cS ay f2 s2 fV=>?_⟩;rw [vm (lK c),dY] at jC;have c3:((es.map V.int).take c).length<=1000:=by rw [ff,a6];omega
  refine ⟨p1,cS,_,_,rfl,rfl,s2 _ _ jC,fV,by rw [cW];show _+1<=_;omega,λ hq aM s3 oy=>?_⟩;have m6:=(s1.trans s2).trans s3;refine ⟨_,rfl,_,rfl,_,_,rfl,rfl,_,rfl,v,_,rfl,m6 _ _ bl,λ o_ aO s4 pI=>?_⟩;rw [MK .ab,show ((c:Int)+1).toNat=c+1 by omega] at pI;refine ⟨hq,o_,_,_,rfl,rfl,s4 _ _ oy,pI,?_,λ pa bj s5 Dq=>q pa bj ((m6.trans s4).trans s5) ?_⟩
  ·rw [cJ,qb,a6,cW];show _+1+_<=_;omega
  ·rw [Dq,UK aj];rfl
noncomputable def adY:b9:=λ ag H Q _ => ∃ (b a:Addr) (xs:bB) (rs:List dS) (many:Nat) (s:Nat×aw),ag=[.ref b,.ref a]/\H b=some (.tup xs)/\gj H xs rs/\(∀ r∈rs,r.ok many rs.length)/\pw H a s/\q9 many rs s/\many<=1000/\s.1<rs.length /\ ∀ (p:Addr) (H':aA),aB H H'->pw H' p (hO rs s)->Q (.ref p) H'
theorem gj.at {rs:List dS} (h:gj H xs rs) {k:Nat} (aE:k<rs.length) : ∃ r a,rs[k]?=some r/\xs[k]?=some (.ref a)/\H a=some (.tup r.ag):=by
 have gC:k<xs.length:=by rw [h.1];exact aE
 obtain ⟨r,a,I,ah,aD⟩:=h.2 k xs[k] (bz gC);exact ⟨r,a,I,by rw [bz gC,ah],aD⟩
theorem adN (T:cv K ax):cz P w ax base b_ 2 T.Pj adY:=by
 refine T.Pj.fn.cA BG (λ ag H Q E h=>?_) (λ bt A outer s H ag Q E av h=>?_)
 ·obtain ⟨b,a,xs,rs,many,s,rfl,_⟩:=h;rfl
 ·obtain ⟨b,a,xs,rs,many,s,rfl,af,ae,bX,⟨v,au,bl⟩,dk,afl,dg,q⟩:=h;refine ⟨_,(aV (bP 2 BG (cP fP (aa 0) (cP fP (aa 1) aX (λ _ _=>rfl)) (λ _ _=>rfl)))
   (aV (bP 3 BG (cP fP (aa 1) aX (λ _ _=>rfl)))
   (aV (bP 4 BG (cP fP (aa 2) aX (λ _ _=>rfl)))
   (aV (dJ (c6 h1 (cP fP (aa 2) aX (λ _ _=>rfl)) lF (cB _))
    (a5 (bJ (hk (ak (cP fP (aa 2) aX (λ _ _=>rfl)) (ak (bf (OD T) av bb (ak (aa 3) (ak (aa 4) (ak aX aC)))) aC)))))
    dM)
   (aV (dJ (c6 xO (cP fP (aa 3) (aa 4) (λ _ _=>rfl)) aX (cB _))
    (a5 (bJ (hk (ak (cP fP (aa 2) aX (λ _ _=>rfl)) (ak (bf (OD T) av bb (ak (aa 3) (ak (aa 4) (ak (kV k2 aX) aC)))) aC)))))
    dM)
   (a5 (bJ (hk (ak (cP fP (aa 2) aX (λ _ _=>rfl)) (ak (aa 3) aC)))))))))),?_⟩
  obtain ⟨r,dw,gc,uo,j5⟩:=ae.at dg;have JI:=bX r (cf gc);have fA:=dk.2.1;refine ⟨_,rfl,_,rfl,a,_,0,_,rfl,rfl,aP.of au,rfl,b,_,_,_,rfl,rfl,aP.of af,qp uo,?_⟩;refine ⟨_,rfl,a,_,1,_,rfl,rfl,aP.of au,rfl,?_⟩;cases r with
  | add c n =>
   have e:hO rs s=(n,fj s.2 c 1):=by unfold hO;rw [gc]
   rw [e] at q;refine ⟨_,rfl,dw,_,1,_,rfl,rfl,aP.of j5,rfl,_,rfl,dw,_,0,_,rfl,rfl,aP.of j5,rfl,rfl,_,rfl,ea ?_⟩;refine ⟨_,rfl,dw,_,2,_,rfl,rfl,aP.of j5,rfl,_,rfl,_,rfl,v,c,1,s.2,rfl,bl,by rw [fA];exact JI.1,.ab,λ p1 H1 s1 jC=>?_⟩;exact ⟨dG,λ cS ay f2 s2 fV=>q cS ay (s1.trans s2) ⟨p1,fV,s2 _ _ jC⟩⟩
  | bE c n o =>
   have e:hO rs s=if 0<s.2.getD c 0 then (n,fj s.2 c (-1)) else (o,s.2):=by unfold hO;rw [gc]
   rw [e] at q;have aj:c<s.2.length:=by rw [fA];exact JI.1
   refine ⟨_,rfl,dw,_,1,_,rfl,rfl,aP.of j5,rfl,_,rfl,dw,_,0,_,rfl,rfl,aP.of j5,rfl,rfl,_,rfl,dn ?_⟩;refine ⟨_,rfl,_,rfl,v,_,_,_,rfl,rfl,aP.of bl,qp (KP aj),_,_,rfl,rfl,_,rfl,hx (λ h=>?_) (λ h=>?_)⟩
   ·have h0:0<s.2.getD c 0:=fY h;rw [if_pos h0] at q;refine ⟨_,rfl,dw,_,2,_,rfl,rfl,aP.of j5,rfl,_,rfl,_,rfl,?_⟩;refine ⟨_,rfl,v,c,-1,s.2,rfl,bl,aj,.ab,λ p1 H1 s1 jC=>?_⟩;exact ⟨dG,λ cS ay f2 s2 fV=>q cS ay (s1.trans s2) ⟨p1,fV,s2 _ _ jC⟩⟩
   ·have h0 : ¬ 0<s.2.getD c 0:=λ z=>h (cX z)
    rw [if_neg h0] at q;exact ⟨_,rfl,dw,_,3,_,rfl,rfl,aP.of j5,rfl,_,rfl,dG,λ cS ay f2 s2 fV=>q cS ay s2 ⟨v,fV,s2 _ _ bl⟩⟩
noncomputable def pQ (f:Int×Int):Prop:=(bH f.1.toNat).sum<=7/\(bH f.2.toNat).sum<=7
noncomputable def gV (rs:List dS):Nat->Nat×aw->Nat×aw
 | 0,s=>s
 | n+1,s=>hO rs (gV rs n s)
theorem Fy (rs:List dS) (n:Nat) (s:Nat×aw) : ∀ m,gV rs (n+m) s=gV rs m (gV rs n s)
 | 0=>rfl
 | m+1=>by
  show hO rs (gV rs (n+m) s)=hO rs (gV rs m (gV rs n s));rw [Fy rs n s m]
noncomputable def hc (rs:List dS) (n:Nat) (s u:Nat×aw):Prop:=gV rs n s=u /\ ∀ k,k<n->(gV rs k s).1<rs.length/\(0<k->0<(gV rs k s).1)
theorem hc.nil {rs:List dS} (s:Nat×aw):hc rs 0 s s:=⟨rfl,λ k h=>absurd h (jq k)⟩
theorem hc.snoc {rs:List dS} {s u v:Nat×aw} (h:hc rs n s u) (ar:u.1<rs.length) (h0:0<n->0<u.1) (bl:hO rs u=v):hc rs (n+1) s v:=by
 refine ⟨by show hO rs (gV rs n s)=v;rw [h.1,bl],λ k aE=>?_⟩;by_cases e:k=n
 ·subst e;rw [h.1];exact ⟨ar,h0⟩
 ·exact h.2 k .ab
theorem hc.trans {rs:List dS} {s u v:Nat×aw} (h:hc rs n s u) (h':hc rs m u v) (h0:0<u.1):hc rs (n+m) s v:=by
 refine ⟨by rw [Fy,h.1,h'.1],λ k aE=>?_⟩;by_cases e:k<n
 ·exact h.2 k e
 ·obtain ⟨j,rfl⟩ : ∃ j,k=n+j:=⟨k - n,.ab⟩
  rw [Fy,h.1];have:=h'.2 j .ab;refine ⟨this.1,λ _=>?_⟩;by_cases H4:j=0
  ·subst H4;exact h0
  ·exact this.2 .ab
noncomputable def bR:Nat->bo->bo
 | _,[]=>[]
 | k,e::es=>List.replicate e k++bR (k+1) es
theorem Oy : ∀ (es:bo) (k c:Nat),(bR k es).count c=if k<=c then es.getD (c - k) 0 else 0
 | [],k,c=>by simp [bR]
 | e::es,k,c=>by
  show (List.replicate e k++bR (k+1) es).count c=_;rw [List.count_append,Oy es (k+1) c,List.count_replicate];by_cases I:k=c
  ·subst I;simp;omega
  ·have af:(k == c)=false:=by simpa using I
   have hf:(if (false=true) then e else 0)=0:=rfl;rw [af,hf,rx];by_cases ah:k+1<=c
   ·rw [if_pos ah,if_pos .ab];obtain ⟨j,aY⟩ : ∃ j,c - k=j+1:=⟨c - k - 1,.ab⟩
    rw [aY,show c - (k+1)=j by omega];simp
   ·rw [if_neg ah,if_neg .ab]
theorem vl : ∀ {es:bo} {k c:Nat},c∈bR k es->k<=c/\c<k+es.length
 | [],_,_,h=>by cases h
 | e::es,k,c,h=>by
  rcases iX.mp h with z | z
  ·have:=(yb.mp z).2;subst this;exact ⟨br _,.zs⟩
  ·have:=vl z;simp;omega
theorem k6 : ∀ (es:bo) (k:Nat),(bR k es).length=es.sum
 | [],_=>rfl
 | e::es,k=>by
  show (List.replicate e k++bR (k+1) es).length=_;rw [cJ,kk,k6 es (k+1),lJ]
theorem NO : ∀ (es:bo) (k i e:Nat),es[i]?=some e->bR k (es.take (i+1))=bR k (es.take i)++List.replicate e (k+i)
 | [],_,_,_,h=>by cases h
 | bF::es,k,0,e,h=>by
  have z:bF=e:=eA h;subst z;show List.replicate bF k++[]=[]++List.replicate bF (k+0);simp
 | bF::es,k,i+1,e,h=>by
  show List.replicate bF k++bR (k+1) (es.take (i+1))=(List.replicate bF k++bR (k+1) (es.take i))++_;rw [NO es (k+1) i e (by simpa using h),lI,show k+1+i=k+(i+1) by omega]
noncomputable def eJ (es:aw) (l:bo):aw:=l.foldl (λ e c=>fj e c (-1)) es
noncomputable def iT (es:aw) (l:bo):aw:=l.foldl (λ e c=>fj e c 1) es
theorem FU {es:aw} {c:Nat} {x:Int} (h:c<es.length):(fj es c x).getD d 0=es.getD d 0+if c=d then x else 0:=by
 unfold fj;simp only [bk];by_cases e:c=d
 ·subst e;rw [nu h,if_pos rfl];rfl
 ·rw [mu e,if_neg e,rA]
theorem Bp {x:Int} : ∀ (l:bo) (es:aw),(l.foldl (λ e c=>fj e c x) es).length=es.length
 | [],_=>rfl
 | c::l,es=>by
  show (l.foldl _ (fj es c x)).length=_;rw [Bp l,yo]
theorem Gn {x:Int} : ∀ (l:bo) (es:aw) (d:Nat),(∀ c∈l,c<es.length)->(l.foldl (λ e c=>fj e c x) es).getD d 0=es.getD d 0+(l.count d:Int) * x
 | [],es,d,_=>by simp
 | c::l,es,d,h=>by
  show (l.foldl _ (fj es c x)).getD d 0=_;rw [Gn l _ d (λ bG aj=>by rw [yo];exact h bG (eQ _ aj)),FU (h c d2),List.count_cons];by_cases e:c=d
  ·subst e;simp only [beq_self_eq_true,kY];rw [Int.natCast_add,Int.add_mul];omega
  ·have af:(c == d)=false:=by simpa using e
   rw [af,if_neg e];simp
theorem back {x:Int} : ∀ (l:bo) (es:aw),(∀ c∈l,c<es.length)->iT (eJ es l) l.reverse=es:=by
 intro l
 induction l with
 | nil=>intro es _;rfl
 | cons c l b0 =>
  intro es h;have I:c<es.length:=h c d2;show iT (eJ (fj es c (-1)) l) (c::l).reverse=es;rw [List.reverse_cons];unfold iT;rw [qk];show fj (iT (eJ (fj es c (-1)) l) l.reverse) c 1=es;rw [b0 _ λ bG aj=>by rw [yo];exact h bG (eQ _ aj)];apply rv;intro i;unfold fj;by_cases e:c=i
  ·subst e;rw [nu (by rw [jI];exact I),bk,nu I,bz I,bk,bz I];show some (es[c] + -1+1)=_;congr 1;omega
  ·rw [mu e,mu e]
noncomputable def jh (n done:Nat):Nat:=if n+1=done then 0 else n+1
noncomputable def eP (b:Nat) (ws bp:bo):List dS :=
 if ws.length+bp.length=0 then [.add 0 (b+1),.bE 0 0 0] else
  ws.mapIdx (λ t c=>.bE c (jh (b+t) (b+ws.length+bp.length)) (b+ws.length+bp.length+(ws.length - 1) - t)) ++
  bp.mapIdx (λ t c=>.add c (jh (b+ws.length+t) (b+ws.length+bp.length))) ++
  ws.dropLast.reverse.mapIdx (λ t c=>.add c (b+ws.length+bp.length+t+1))
theorem rF (b:Nat) (ws bp:bo):(eP b ws bp).length=if ws.length+bp.length=0 then 2 else ws.length+bp.length+(ws.length - 1):=by
 unfold eP;split
 ·rfl
 ·simp;omega
noncomputable def hy:Nat->List (bo×bo)->List dS
 | _,[]=>[]
 | b,f::r=>eP b f.1 f.2++hy (b+(eP b f.1 f.2).length) r
noncomputable def iS (rs:List dS) (b:Nat) (xs:List dS):Prop := ∀ i,i<xs.length->rs[b+i]?=xs[i]?
theorem iS.app {rs:List dS} {b:Nat} {xs ys:List dS} (h:iS rs b (xs++ys)):iS rs b xs/\iS rs (b+xs.length) ys:=by
 refine ⟨λ i aq=>?_,λ i aq=>?_⟩
 ·rw [h i (by rw [cJ];omega),gi aq]
 ·rw [vd,h (xs.length+i) (by rw [cJ];omega),g4 .ab,tn]
theorem iS.lt {rs:List dS} {b:Nat} {xs:List dS} (h:iS rs b xs) {i:Nat} (aq:i<xs.length):b+i<rs.length:=by
 have:=h i aq;rw [bz aq] at this;exact (cL.mp this).1
section
variable {rs:List dS} {b:Nat} {bp:bo}
theorem Lm (h:iS rs b (eP b ws bp)) {t c:Nat} (aW:ws[t]?=some c):rs[b+t]?=some (.bE c (jh (b+t) (b+ws.length+bp.length)) (b+ws.length+bp.length+(ws.length - 1) - t))/\b+t<rs.length:=by
 have ar:t<ws.length:=(cL.mp aW).1;have hlen:=rF b ws bp;rw [if_neg .ab] at hlen;refine ⟨?_,h.lt .ab⟩;rw [h t .ab];unfold eP;rw [if_neg .ab,lI,gi (by simp;omega),List.getElem?_mapIdx,aW];rfl
theorem X1 (h:iS rs b (eP b ws bp)) {t c:Nat} (aW:bp[t]?=some c):rs[b+ws.length+t]?=some (.add c (jh (b+ws.length+t) (b+ws.length+bp.length)))/\b+ws.length+t<rs.length:=by
 have ar:t<bp.length:=(cL.mp aW).1;have hlen:=rF b ws bp;rw [if_neg .ab] at hlen;rw [vd b];refine ⟨?_,h.lt .ab⟩;rw [h (ws.length+t) .ab];unfold eP;rw [if_neg .ab,lI,g4 .zs,qn,tn,gi (by simp;omega),List.getElem?_mapIdx,aW];rw [<-vd];rfl
theorem Zx (h:iS rs b (eP b ws bp)) {t c:Nat} (ar:t+1<ws.length) (aW:ws[ws.length - 2 - t]?=some c):rs[b+ws.length+bp.length+t]?=some (.add c (b+ws.length+bp.length+t+1))/\b+ws.length+bp.length+t<rs.length:=by
 have hlen:=rF b ws bp;rw [if_neg .ab] at hlen;rw [show b+ws.length+bp.length+t=b+(ws.length+(bp.length+t)) by omega];refine ⟨?_,h.lt .ab⟩;rw [h _ .ab];unfold eP;rw [if_neg .ab,lI,g4 .zs,qn,tn,g4 .zs,qn,tn,List.getElem?_mapIdx,List.getElem?_reverse (by simp;omega),List.length_dropLast,List.getElem?_dropLast,if_pos .ab,show ws.length - 1 - 1 - t=ws.length - 2 - t by omega,aW];rw [show b+(ws.length+(bp.length+t))+1=b+ws.length+bp.length+t+1 by omega];rfl
theorem Od {es:aw} {l:bo} {c:Nat}:eJ es (l++[c])=fj (eJ es l) c (-1):=by
 unfold eJ;rw [qk];rfl
theorem NH {es:aw} {l:bo} {c:Nat}:iT es (l++[c])=fj (iT es l) c 1:=by
 unfold iT;rw [qk];rfl
theorem FF (h:iS rs b (eP b ws bp)) (es:aw) : ∀ t,t<=ws.length->(∀ t' c,t'<t->ws[t']?=some c->0<(eJ es (ws.take t')).getD c 0)->hc rs t (b,es) (if t≠0/\t=ws.length+bp.length then 0 else b+t,eJ es (ws.take t))
 | 0,_,_=>by
  rw [if_neg .ab];exact hc.nil _
 | t+1,aW,aE=>by
  have b0:=FF h es t .ab λ t' c j6=>aE t' c .ab
  rw [if_neg .ab] at b0;obtain ⟨c,aj⟩ : ∃ c,ws[t]?=some c:=⟨_,bz (show t<ws.length by omega)⟩
  obtain ⟨I,ah⟩:=Lm h aj;refine b0.snoc ah (λ _=>by show 0<b+t;omega) ?_;unfold hO;rw [I];show (if 0<(eJ es (ws.take t)).getD c 0 then _ else _)=_;rw [if_pos (aE t c .ab aj),eC,aj];show (jh (b+t) _,fj (eJ es (ws.take t)) c (-1))=(_,eJ es (ws.take t++[c]));rw [Od];congr 1;unfold jh;by_cases e:t+1=ws.length+bp.length
  ·rw [if_pos .ab,if_pos .ab]
  ·rw [if_neg .ab,if_neg .ab,vd]
theorem Lz (h:iS rs b (eP b ws bp)) (es:aw) (aE : ∀ t' c,t'<ws.length->ws[t']?=some c->0<(eJ es (ws.take t')).getD c 0) : ∀ g,g<=bp.length->hc rs (ws.length+g) (b,es) (if ws.length+g≠0/\g=bp.length then 0 else b+ws.length+g,iT (eJ es ws) (bp.take g))
 | 0,_=>by
  have:=FF h es ws.length (br _) aE;rw [kn] at this;show hc rs ws.length (b,es) (if ws.length+0≠0/\0=bp.length then 0 else b+ws.length+0,eJ es ws);have e:(if ws.length+0≠0/\0=bp.length then 0 else b+ws.length+0)=(if ws.length≠0/\ws.length=ws.length+bp.length then 0 else b+ws.length):=by
   by_cases z:bp.length=0
   ·by_cases y:ws.length=0
    ·rw [if_neg .ab,if_neg .ab];rfl
    ·rw [if_pos .ab,if_pos .ab]
   ·rw [if_neg .ab,if_neg .ab];rfl
  rw [e];exact this
 | g+1,aR=>by
  have b0:=Lz h es aE g .ab;rw [if_neg .ab] at b0;obtain ⟨c,aj⟩ : ∃ c,bp[g]?=some c:=⟨_,bz (show g<bp.length by omega)⟩
  obtain ⟨I,ah⟩:=X1 h aj;refine b0.snoc ah (λ _=>by show 0<b+ws.length+g;omega) ?_;unfold hO;rw [I,eC,aj];show (jh _ _,fj (iT (eJ es ws) (bp.take g)) c 1)=(_,iT (eJ es ws) (bp.take g++[c]));rw [NH];congr 1;unfold jh;by_cases e:g+1=bp.length
  ·rw [if_pos .ab,if_pos .ab]
  ·rw [if_neg .ab,if_neg .ab];omega
theorem Xb (h:iS rs b (eP b ws bp)) {es:aw} (hm : ∀ c∈ws,c<es.length) {t c:Nat} (aj:ws[t]?=some c) (ar:(eJ es (ws.take t)).getD c 0<=0) (aE : ∀ t' c,t'<t->ws[t']?=some c->0<(eJ es (ws.take t')).getD c 0):hc rs (t+1+t) (b,es) (b+ws.length+bp.length+(ws.length - 1),es):=by
 have afe:t<ws.length:=(cL.mp aj).1;have hE:=FF h es t .ab aE;rw [if_neg .ab] at hE;obtain ⟨I,ah⟩:=Lm h aj;have p1:hc rs (t+1) (b,es) (b+ws.length+bp.length+(ws.length - 1) - t,eJ es (ws.take t)):=hE.snoc ah (λ _=>by show 0<b+t;omega) (by
  unfold hO;rw [I];show (if 0<(eJ es (ws.take t)).getD c 0 then _ else _)=_;rw [if_neg .ab])
 have cS : ∀ g,g<=t->hc rs (t+1+g) (b,es) (b+ws.length+bp.length+(ws.length - 1) - t+g,iT (eJ es (ws.take t)) ((ws.take t).reverse.take g)):=by
  intro g
  induction g with
  | zero=>intro _;exact p1
  | succ g b0 =>
   intro aR;have b0:=b0 .ab;obtain ⟨bG,dW⟩ : ∃ c,ws[t - 1 - g]?=some c:=⟨_,bz (show t - 1 - g<ws.length by omega)⟩
   have af:=Zx (t:=ws.length - 1 - t+g) h .ab (by rw [show ws.length - 2 - (ws.length - 1 - t+g)=t - 1 - g by omega];exact dW);have cH:b+ws.length+bp.length+(ws.length - 1) - t+g=b+ws.length+bp.length+(ws.length - 1 - t+g):=by omega
   rw [cH] at b0;refine b0.snoc af.2 (λ _=>by show 0<b+ws.length+bp.length+_;omega) ?_;have av:(ws.take t).reverse[g]?=some bG:=by
    rw [List.getElem?_reverse (by rw [ff];omega),ff,List.getElem?_take,if_pos .ab,show min t ws.length - 1 - g=t - 1 - g by omega];exact dW
   unfold hO;rw [af.1,eC,av];show (_,fj (iT (eJ es (ws.take t)) ((ws.take t).reverse.take g)) bG 1)=(_,iT (eJ es (ws.take t)) ((ws.take t).reverse.take g++[bG]));rw [NH];congr 1;omega
 have hq:=cS t (br t);rw [fG (l:=(ws.take t).reverse) (by rw [x_,ff];omega),back (x:=0) _ _ λ c aj=>hm c (qm aj)] at hq;rw [show b+ws.length+bp.length+(ws.length - 1) - t+t=b+ws.length+bp.length+(ws.length - 1) by omega] at hq;exact hq
theorem Ys (h:iS rs b (eP b [] [])) {es:aw} (ar:0<es.length) (h0:0<=es.getD 0 0):hc rs 2 (b,es) (0,es):=by
 have I:=h 0 (show 0<2 by decide);have ah:=h 1 (show 1<2 by decide);have c3:=h.lt (i:=0) (show 0<2 by decide);have dO:=h.lt (i:=1) (show 1<2 by decide);have aJ:hO rs (b,es)=(b+1,fj es 0 1):=by
  unfold hO;rw [show ((b,es):Nat×aw).1=b+0 from rfl,I];rfl
 have aN:hO rs (b+1,fj es 0 1)=(0,es):=by
  unfold hO;rw [show ((b+1,fj es 0 1):Nat×aw).1=b+1 from rfl,ah];show (if 0<(fj es 0 1).getD 0 0 then (0,fj (fj es 0 1) 0 (-1)) else _)=_;rw [if_pos (by rw [FU ar];simp only [kY];omega)];congr 1;apply rv;intro i;unfold fj;by_cases e:0=i
  ·subst e;rw [nu (by rw [jI];exact ar),bk,nu ar,bz ar,bk,bz ar];show some (es[0]+1 + -1)=_;congr 1;omega
  ·rw [mu e,mu e]
 exact ((hc.nil (b,es)).snoc c3 (λ z=>absurd z .aG) aJ).snoc dO (λ _=>Nat.succ_pos b) aN
end
theorem qr (n:Nat):(bH n).length=10:=by simp [bH,dK]
theorem FN {es:aw} {l:bo} (h : ∀ c∈l,c<es.length) (d:Nat):(eJ es l).getD d 0=es.getD d 0 - (l.count d:Int):=by
 unfold eJ;rw [Gn l es d h];omega
theorem add_get {es:aw} {l:bo} (h : ∀ c∈l,c<es.length) (d:Nat):(iT es l).getD d 0=es.getD d 0+(l.count d:Int):=by
 unfold iT;rw [Gn l es d h];omega
theorem Bx (W:bo) (c:Nat):(bR 0 W).count c=W.getD c 0:=by
 rw [Oy,if_pos (fk c)];rfl
theorem aas {es:aw} {W:bo} (ar:W.length=es.length) (h : ∀ c,(W.getD c 0:Int)<=es.getD c 0) {t c:Nat} (aj:(bR 0 W)[t]?=some c):0<(eJ es ((bR 0 W).take t)).getD c 0:=by
 have hm : ∀ d∈(bR 0 W).take t,d<es.length:=λ d hd=>by
  have:=(vl (qm hd)).2;omega
 rw [FN hm];have aJ:(bR 0 W).take (t+1)=(bR 0 W).take t++[c]:=by rw [eC,aj];rfl
 have aN:((bR 0 W).take (t+1)).count c<=(bR 0 W).count c:=(List.take_sublist _ _).count_le _;rw [aJ,List.count_append,Bx] at aN;have dT:[c].count c=1:=by simp
 have:=h c;omega
theorem MQ {P:Nat->Prop} : ∀ n:Nat,(∃ t,t<n/\P t /\ ∀ t',t'<t -> ¬ P t') \/ ∀ t,t<n -> ¬ P t
 | 0=>.inr λ t h=>absurd h (jq t)
 | n+1=>by
  rcases MQ (P:=P) n with ⟨t,I,ah,aD⟩ | h
  ·exact .inl ⟨t,.ab,ah,aD⟩
  ·rcases rz (P n) with z | z
   ·exact .inl ⟨n,.ab,z,h⟩
   ·refine .inr λ t aW=>?_
    by_cases e:t=n
    ·subst e;exact z
    ·exact h t .ab
theorem X7 {es:aw} {W:bo} (ar:W.length=es.length) (h0 : ∀ c,0<=es.getD c 0) (hd:es.getD d 0<(W.getD d 0:Int)) : ∃ t c,(bR 0 W)[t]?=some c/\(eJ es ((bR 0 W).take t)).getD c 0<=0 /\ ∀ t' bG,t'<t->(bR 0 W)[t']?=some bG->0<(eJ es ((bR 0 W).take t')).getD bG 0:=by
 have hm : ∀ c∈bR 0 W,c<es.length:=λ d hd=>by
  have:=(vl hd).2;omega
 rcases MQ (P:=λ t => ∃ c,(bR 0 W)[t]?=some c/\(eJ es ((bR 0 W).take t)).getD c 0<=0) (bR 0 W).length with ⟨t,I,⟨c,ah,aD⟩,aL⟩ | h
 ·refine ⟨t,c,ah,aD,λ t' bG j6 dW=>?_⟩;by_cases z:0<(eJ es ((bR 0 W).take t')).getD bG 0
  ·exact z
  ·exact absurd ⟨bG,dW,.ab⟩ (aL t' j6)
 ·exfalso;have all : ∀ t,t<=(bR 0 W).length -> ∀ e,0<=(eJ es ((bR 0 W).take t)).getD e 0:=by
   intro t
   induction t with
   | zero=>intro _ e;exact h0 e
   | succ t b0 =>
    intro aW e;have b0:=b0 .ab;have aj:(bR 0 W)[t]?=some (bR 0 W)[t]:=bz aW;have C4:=h t aW;have aJ:(bR 0 W).take (t+1)=(bR 0 W).take t++[(bR 0 W)[t]]:=by rw [eC,aj];rfl
    rw [aJ,Od,FU (by unfold eJ;rw [Bp];exact hm _ (g5 aW))];have I:=b0 e;split
    ·next z =>
     by_cases y:(eJ es ((bR 0 W).take t)).getD (bR 0 W)[t] 0<=0
     ·exact absurd ⟨_,aj,y⟩ C4
     ·rw [z] at y;omega
    ·omega
  have:=all (bR 0 W).length (br _) d;rw [kn,FN hm,Bx] at this;omega
theorem E0 {es:aw} (h:nn es=true) (c:Nat):0<=es.getD c 0:=by
 rw [bk];cases ah:es[c]? with
 | none=>exact vc 0
 | some e=>exact iZ.mp h e (cf ah)
theorem N2 (l:bo) (c:Nat):(bu l).getD c 0=(l.getD c 0:Int):=by
 unfold bu;rw [bk,bk,c9];cases l[c]?<;>rfl
theorem L5 {i j:Nat} {es:aw} (aF:nK i j=true) (ar:es.length=10) (az:nn es=true):fe (chg i j) es=true ↔ ∀ c,((bH j).getD c 0:Int)<=es.getD c 0:=by
 rw [<-Oi aF az,iZ];constructor
 ·intro h c;rw [<-N2];by_cases aj:c<10
  ·have I:c<es.length:=by omega
   have ah:c<(bu (bH j)).length:=by unfold bu;rw [a6,qr];exact aj
   have:=h (es[c] - (bu (bH j))[c]) (cf (i:=c) (by rw [gH];exact ⟨_,_,bz I,bz ah,rfl⟩));rw [bk,bz ah,bk,bz I];show (bu (bH j))[c]<=es[c];omega
  ·rw [bk,g6 (by unfold bu;rw [a6,qr];omega)];exact E0 az c
 ·intro h x ae;obtain ⟨c,aj⟩:=gk ae;rw [gH] at aj;obtain ⟨a,b,au,af,rfl⟩:=aj;have:=h c;rw [<-N2,bk,af,bk,au] at this;show 0<=a - b;have:b<=a:=this;omega
theorem Mf {i j:Nat} {es:aw} (ar:es.length=10):iT (eJ es (bR 0 (bH j))) (bR 0 (bH i))=c7 es (chg i j) 1:=by
 have hm : ∀ n,∀ c∈bR 0 (bH n),c<es.length:=λ n d hd=>by
  have:=(vl hd).2;rw [qr] at this;omega
 have ls:(eJ es (bR 0 (bH j))).length=10:=by unfold eJ;rw [Bp];exact ar
 have lj:(iT (eJ es (bR 0 (bH j))) (bR 0 (bH i))).length=10:=by unfold iT;rw [Bp];exact ls
 apply List.ext_getElem
 ·rw [lj,jM ar (GJ i j)]
 ·intro c I ah;have g : ∀ {l:aw} (h:c<l.length),l[c]=l.getD c 0:=λ {l} h=>by rw [bk,bz h];rfl
  rw [g I,add_get (λ d hd=>by rw [ls,<-ar];exact hm i d hd),FN (hm j),Bx,Bx];have aj:c<10:=by omega
  have fg:c<es.length:=by omega
  have lg:c<(bH i).length:=by rw [qr];exact aj
  have qD:c<(bH j).length:=by rw [qr];exact aj
  have aN:(chg i j)[c]?=some (((bH i)[c]:Int) - ((bH j)[c]:Int)):=by
   unfold chg;rw [gH];exact ⟨_,_,bz lg,bz qD,rfl⟩
  have dT:(c7 es (chg i j) 1)[c]?=some (es[c]+1 * (((bH i)[c]:Int) - ((bH j)[c]:Int))):=by
   unfold c7;rw [gH];exact ⟨_,_,bz fg,aN,rfl⟩
  rw [bz ah] at dT;have H0 : ∀ {l:bo} (h:c<l.length),l.getD c 0=l[c]:=λ {l} h=>by rw [bk,bz h];rfl
  rw [eA dT,<-g fg,H0 lg,H0 qD];omega
noncomputable def partsOf (ai:cx):List (bo×bo):=ai.map λ f=>(bR 0 (bH f.2.toNat),bR 0 (bH f.1.toNat))
theorem LS (b:Nat) (ws bp:bo):1<=(eP b ws bp).length:=by
 rw [rF];split<;>omega
theorem We {rs:List dS} {b i j:Nat} {es:aw} (h:iS rs b (eP b (bR 0 (bH j)) (bR 0 (bH i)))) (ar:es.length=10) (az:nn es=true) (hw : ∀ c,((bH j).getD c 0:Int)<=es.getD c 0) : ∃ n,1<=n/\n<=2+(bH j).sum+(bH i).sum/\hc rs n (b,es) (0,c7 es (chg i j) 1):=by
 by_cases z:(bR 0 (bH j)).length+(bR 0 (bH i)).length=0
 ·have fi:bR 0 (bH j)=[]:=A1.mp .ab;have eV:bR 0 (bH i)=[]:=A1.mp .ab;have e:=Mf (i:=i) (j:=j) ar;rw [fi,eV] at e h;refine ⟨2,.ab,.ab,?_⟩;rw [<-e];exact Ys h .ab (E0 az 0)
 ·have p:=Lz h es (λ t' c _ aj=>aas (by rw [qr,ar]) hw aj) _ (br _);rw [if_pos ⟨z,rfl⟩,kn,Mf ar] at p;exact ⟨_,.ab,by rw [k6,k6];omega,p⟩
theorem Wf {rs:List dS} {b i j:Nat} {es:aw} (h:iS rs b (eP b (bR 0 (bH j)) (bR 0 (bH i)))) (ar:es.length=10) (az:nn es=true) (hw:es.getD d 0<((bH j).getD d 0:Int)) : ∃ n,n<=2 * (bH j).sum/\hc rs n (b,es) (b+(eP b (bR 0 (bH j)) (bR 0 (bH i))).length,es):=by
 obtain ⟨t,c,I,ah,aD⟩:=X7 (W:=bH j) (by rw [qr,ar]) (E0 az) hw;have aW:t<(bR 0 (bH j)).length:=(cL.mp I).1;have p:=Xb h (es:=es) (λ c aj=>by have:=(vl aj).2;rw [qr] at this;omega) I ah aD;rw [k6] at aW;refine ⟨t+1+t,.ab,?_⟩;rw [rF,if_neg (by rw [k6];omega)];rw [show b+((bR 0 (bH j)).length+(bR 0 (bH i)).length+((bR 0 (bH j)).length - 1))=b+(bR 0 (bH j)).length+(bR 0 (bH i)).length+((bR 0 (bH j)).length - 1) by omega];exact p
theorem M_ {rs:List dS} {es:aw} (ar:es.length=10) (az:nn es=true) : ∀ (ai:cx) (b:Nat),iS rs b (hy b (partsOf ai))->b+(hy b (partsOf ai)).length=rs.length->(∀ f∈ai,nK f.1.toNat f.2.toNat=true/\pQ f) ->
  (∀ k,dm (rowsOf ai) es=some k -> ∃ n,1<=n/\n<=16 * ai.length/\hc rs n (b,es) (0,c7 es ((rowsOf ai).getD k []) 1)) /\
  (dm (rowsOf ai) es=none -> ∃ n,n<=16 * ai.length/\hc rs n (b,es) (rs.length,es))
 | [],b,_,af,_=>⟨λ k aE=>(by cases aE),λ _=>⟨0,fk _,by
   have:b=rs.length:=af;rw [this];exact hc.nil _⟩⟩
 | f::ai,b,h,af,hf=>by
  obtain ⟨aF,afz,afA⟩:=hf f d2;obtain ⟨c3,dO⟩:=iS.app (xs:=eP b (bR 0 (bH f.2.toNat)) (bR 0 (bH f.1.toNat))) h;have pD:=LS b (bR 0 (bH f.2.toNat)) (bR 0 (bH f.1.toNat));have sl:b+(eP b (bR 0 (bH f.2.toNat)) (bR 0 (bH f.1.toNat))).length+(hy (b+(eP b (bR 0 (bH f.2.toNat)) (bR 0 (bH f.1.toNat))).length) (partsOf ai)).length=rs.length:=by
   rw [<-af,vd,<-cJ];rfl
  have b0:=M_ ar az ai _ dO sl λ g aR=>hf g (eQ _ aR)
  have cH:dm (rowsOf (f::ai)) es=if fe (chg f.1.toNat f.2.toNat) es=true then some 0 else (dm (rowsOf ai) es).map (· + 1):=rfl
  rw [mB];by_cases jG:fe (chg f.1.toNat f.2.toNat) es=true
  ·rw [cH,if_pos jG];refine ⟨λ k aE=>?_,λ z=>by cases z⟩;cases aE;obtain ⟨n,dr,d0,p⟩:=We c3 ar az ((L5 aF ar az).mp jG);exact ⟨n,dr,.ab,p⟩
  ·rw [cH,if_neg jG];obtain ⟨d,hd⟩ : ∃ d,es.getD d 0<((bH f.2.toNat).getD d 0:Int):=by
    rcases rz (∃ d,es.getD d 0<((bH f.2.toNat).getD d 0:Int)) with z | z
    ·exact z
    ·exact absurd ((L5 aF ar az).mpr λ c=>by
      by_cases y:((bH f.2.toNat).getD c 0:Int)<=es.getD c 0
      ·exact y
      ·exact absurd ⟨c,.ab⟩ z) jG
   obtain ⟨n,dr,p⟩:=Wf c3 ar az hd;refine ⟨λ k aE=>?_,λ aE=>?_⟩
   ·obtain ⟨di,gC,rfl⟩ : ∃ di,dm (rowsOf ai) es=some di/\di+1=k:=by
     cases e:dm (rowsOf ai) es with
     | none=>rw [e] at aE;cases aE
     | some di=>rw [e] at aE;exact ⟨di,rfl,eA aE⟩
    obtain ⟨m,hT,lZ,dV⟩:=b0.1 di gC;exact ⟨n+m,.ab,.ab,p.trans dV (by show 0<b+_;omega)⟩
   ·have gC:dm (rowsOf ai) es=none:=by
     cases e:dm (rowsOf ai) es with
     | none=>rfl
     | some di=>rw [e] at aE;cases aE
    obtain ⟨m,hT,dV⟩:=b0.2 gC;exact ⟨n+m,.ab,p.trans dV (by show 0<b+_;omega)⟩
theorem Mk {S:Nat} : ∀ (ai:cx) (b:Nat),b+(hy b (partsOf ai)).length<=S -> ∀ r∈hy b (partsOf ai),r.ok 10 S
 | [],_,_,r,av=>by cases av
 | f::ai,b,c1,r,av=>by
  have e:hy b (partsOf (f::ai))=eP b (bR 0 (bH f.2.toNat)) (bR 0 (bH f.1.toNat))++hy (b+(eP b (bR 0 (bH f.2.toNat)) (bR 0 (bH f.1.toNat))).length) (partsOf ai):=rfl;rw [e] at av;rw [e,cJ] at c1;have jb : ∀ (n c:Nat),c∈bR 0 (bH n)->c<10:=λ n c aj=>by
   have:=(vl aj).2;rw [qr] at this;omega
  rcases iX.mp av with z | z
  ·have hlen:=rF b (bR 0 (bH f.2.toNat)) (bR 0 (bH f.1.toNat));unfold eP at z;split at z
   ·next y =>
    rw [if_pos y] at hlen;rcases c8.mp z with w | w
    ·rw [w];exact ⟨.ab,.ab⟩
    ·rw [ix.mp w];exact ⟨.ab,.ab,.ab⟩
   ·next y =>
    rw [if_neg y] at hlen;rcases iX.mp z with z | z
    ·rcases iX.mp z with z | z
     ·obtain ⟨t,aW,rfl⟩:=Fh.mp z;refine ⟨jb _ _ (g5 aW),?_,.ab⟩;unfold jh;split<;>omega
     ·obtain ⟨t,aW,rfl⟩:=Fh.mp z;refine ⟨jb _ _ (g5 aW),?_⟩;unfold jh;split<;>omega
    ·obtain ⟨t,aW,rfl⟩:=Fh.mp z;have hm:=g5 aW;have j6:=aW;rw [x_,List.length_dropLast] at j6;exact ⟨jb _ _ ((List.dropLast_sublist _).subset (List.mem_reverse.mp hm)),.ab⟩
  ·exact Mk ai _ .ab r z
theorem F3 : ∀ (ai:cx) (b:Nat),(∀ f∈ai,pQ f)->ai.length<=(hy b (partsOf ai)).length/\(hy b (partsOf ai)).length<=22 * ai.length
 | [],_,_=>⟨br _,br _⟩
 | f::ai,b,h=>by
  have e:hy b (partsOf (f::ai))=eP b (bR 0 (bH f.2.toNat)) (bR 0 (bH f.1.toNat))++hy (b+(eP b (bR 0 (bH f.2.toNat)) (bR 0 (bH f.1.toNat))).length) (partsOf ai):=rfl;have I:=h f d2;have ah:=rF b (bR 0 (bH f.2.toNat)) (bR 0 (bH f.1.toNat));have aD:=F3 ai (b+(eP b (bR 0 (bH f.2.toNat)) (bR 0 (bH f.1.toNat))).length) λ g aR=>h g (eQ _ aR)
  rw [e,cJ,mB];rw [k6,k6] at ah;obtain ⟨s1,s2⟩:=I;have aL:=LS b (bR 0 (bH f.2.toNat)) (bR 0 (bH f.1.toNat));split at ah<;>omega
noncomputable def d_ (l:bo):bB:=(bu l).map V.int
theorem td (l:bo):(d_ l).length=l.length:=by unfold d_ bu;rw [a6,a6]
theorem W4 (l m:bo):d_ (l++m)=d_ l++d_ m:=by unfold d_ bu;rw [ej,ej]
theorem AK {l:bo} {j:Nat} {x:V} (h:(d_ l)[j]?=some x) : ∃ c:Nat,l[j]?=some c/\x=.int (c:Int):=by
 unfold d_ bu at h;rw [c9,c9] at h;cases aK:l[j]? with
 | none=>rw [aK] at h;cases h
 | some c=>rw [aK] at h;cases h;exact ⟨c,rfl,rfl⟩
theorem W5 (e c:Nat):d_ (List.replicate e c)=List.replicate e (.int (c:Int)):=by unfold d_ bu;rw [yd,yd]
theorem L_ : ∀ {l:bo} {x:Nat},x∈l->x<=l.sum
 | [],_,h=>by cases h
 | y::r,x,h=>by
  rw [lJ];rcases c8.mp h with z | z
  ·omega
  ·have:=L_ z;omega
theorem acR (es:bo) (j:Nat):(es.take j).sum<=es.sum:=by
 have h:(es.take j++es.drop j).sum=es.sum:=by rw [List.take_append_drop]
 rw [List.sum_append] at h;omega
noncomputable def ad9:b9:=λ ag H Q _ => ∃ i:Int,ag=[.int i]/\1<=i/\tC i.toNat=1/\(bH i.toNat).sum<=1000 /\ ∀ l H',H l=none->aB H H'->H' l=some (.lst (d_ (bR 0 (bH i.toNat))))->Q (.ref l) H'
theorem PU (T:cv K ax):cz P w ax base b_ 3 T.PD ad9:=by
 refine T.PD.fn.cA BH (λ ag H Q E h=>?_) (λ bt A outer s H ag Q E av h=>?_)
 ·obtain ⟨i,rfl,_⟩:=h;rfl
 ·obtain ⟨i,rfl,I,aS,af,q⟩:=h;refine ⟨_,(aV (bP 1 BH (jK aC))
   (aV (eB dZ rfl (Nc rfl rfl T.o1 (ak (bf (BB T) av bb (ak (aa 0) aC)) aC)) (km rfl (cQ (c_ 2 BH) (cQ (c_ 3 BH) fm)))
    (a5 (lP (lC lL PySem.F.slot_list_extend PySem.F.type_list_extend N1 (aa 1) (ak (bZ vo (jK (ak (aa 2) aC)) (aa 3)) aC)))))
   (a5 (bJ (aa 1))))),?_⟩
  refine ⟨dG,λ l H1 f1 s1 fU=>?_⟩;refine ⟨_,rfl,i,rfl,I,aS,λ p ay s2 fV=>⟨p,_,rfl,aP.of fV,?_⟩⟩;have Ca:l≠p:=gY (s2 _ _ fU) fV nofun;refine aaS (K:=K) (xs:=d_ (bH i.toNat)) (λ j σ aM=>(∃ u v:cq,σ=[some (.int i),some (.ref l),u,v])/\aB H aM/\aM p=some (.tup (d_ (bH i.toNat)))/\aM l=some (.lst (d_ (bR 0 ((bH i.toNat).take j))))) ⟨⟨none,none,rfl⟩,s1.trans s2,fV,s2 _ _ fU⟩ (λ j σ aM _ ⟨_,_,h,_⟩=>aP.of h) ?_ ?_
  ·rintro j x pp σ aM ae lx ⟨⟨u,v,rfl⟩,s3,oy,gb⟩;obtain ⟨c,aj,rfl⟩:=AK ae;have aeX:c<=(bH i.toNat).sum:=L_ (cf aj);have qM:(d_ (bR 0 ((bH i.toNat).take j))).length<=1000:=by
    rw [td,k6];have:=acR (bH i.toNat) j;omega
   have s4:=aB.more (o:=.tup [.int (j:Int),.int (c:Int)]) (aB.refl aM) lx;refine ⟨pp,_,rfl,aP.of bK,rfl,_,_,rfl,_,_,rfl,rfl,?_⟩;refine ⟨_,rfl,.inl ⟨rfl,_,aQ.of (s4 _ _ gb)⟩,_,rfl,dG,λ dO bj eG s5 ow=>⟨_,rfl,dO,(c:Int),_,rfl,rfl,ow,.ab,.ab,?_,λ iG cY hC bI sC=>⟨l,iG,_,_,rfl,rfl,bI _ _ (s5 _ _ (s4 _ _ gb)),sC,?_,⟨⟨_,_,rfl⟩,?_,?_,?_⟩⟩⟩⟩
   ·rw [cW];show 1 * _<=_;omega
   ·rw [cW,List.flatten_replicate_singleton,kk];omega
   ·intro b o e;rw [bw (bT e f1)];exact bI _ _ (s5 _ _ (s4 _ _ (s3 _ _ e)))
   ·rw [bw Ca.symm];exact bI _ _ (s5 _ _ (s4 _ _ oy))
   ·rw [bK,NO _ 0 j c aj,W4,W5,List.flatten_replicate_singleton,rx,dY]
  ·rintro σ aM ⟨⟨u,v,rfl⟩,s3,oy,gb⟩;refine ⟨_,rfl,q l aM f1 s3 ?_⟩;rw [gb,td,kn]
noncomputable def abp:b9:=λ ag H Q _ => ∃ a b:Nat,ag=[.int a,.int b]/\Q (.int (jh a b:Nat)) H
theorem N4 (T:cv K ax):cz P w ax base b_ 1 T.MB abp:=by
 refine T.MB.fn.cA abg (λ ag H Q E h=>?_) (λ bt A outer s H ag Q E av h=>?_)
 ·obtain ⟨a,b,rfl,_⟩:=h;rfl
 ·obtain ⟨a,b,rfl,q⟩:=h;refine ⟨_,(a5 (bJ (F6 (c6 h1 (bZ eR (aa 0) aX) (aa 1) (cB _)) aX (bZ eR (aa 0) aX)))),?_⟩;refine ⟨_,rfl,_,_,rfl,rfl,_,rfl,rfl,_,rfl,hx (λ h=>?_) (λ h=>⟨_,rfl,_,_,rfl,rfl,?_⟩)⟩
  ·have I:(a:Int)+1=b:=by
    have:=fY h;injection this
   have e:jh a b=0:=by unfold jh;rw [if_pos .ab]
   rw [e] at q;exact q
  ·have I : ¬ (a:Int)+1=b:=λ z=>h (cX (show V.int ((a:Int)+1)=V.int (b:Int) by rw [z]))
   have e:jh a b=a+1:=by unfold jh;rw [if_neg .ab]
   rw [e] at q;exact q
theorem gj.nil:gj H [] []:=⟨rfl,λ i x ae=>by cases ae⟩
theorem gj.app {rs:List dS} (h:gj H xs rs) : ∀ {ys:bB} {ss:List dS},gj H ys ss->gj H (xs++ys) (rs++ss):=λ {ys ss} h'=>⟨by rw [cJ,cJ,h.1,h'.1],λ i x ae=>by
 rcases k5 i xs.length with z | z
 ·rw [gi z] at ae;obtain ⟨r,a,I,ah,aD⟩:=h.2 i x ae;exact ⟨r,a,by rw [gi (by rw [<-h.1];exact z)];exact I,ah,aD⟩
 ·rw [g4 z] at ae;obtain ⟨r,a,I,ah,aD⟩:=h'.2 _ x ae;exact ⟨r,a,by rw [g4 (by rw [<-h.1];exact z),<-h.1];exact I,ah,aD⟩⟩
noncomputable def ad0:b9:=λ ag H Q _ => ∃ a:Nat,ag=[.int a] /\ ∀ l H' xs,aB H H'->H' l=some (.lst xs)->gj H' xs [.add 0 (a+1),.bE 0 0 0]->Q (.ref l) H'
theorem adP (T:cv K ax):cz P w ax base b_ 1 T.Pl ad0:=by
 refine T.Pl.fn.cA adQ (λ ag H Q E h=>?_) (λ bt A outer s H ag Q E av h=>?_)
 ·obtain ⟨a,rfl,_⟩:=h;rfl
 ·obtain ⟨a,rfl,q⟩:=h;refine ⟨_,(a5 (bJ (jK (ak (hk (ak lF (ak aX (ak (bZ eR (aa 0) aX) aC)))) (ak (hk (ak lF (ak aX (ak aX (ak aX aC))))) aC))))),?_⟩;exact ⟨_,rfl,_,_,rfl,rfl,dG,λ p1 H1 f1 s1 I=>⟨dG,λ cS ay f2 s2 ah=>⟨dG,λ l aM e8 s3 aD=>q l aM _ ((s1.trans s2).trans s3) aD ((gj.nil.snoc (r:=.add 0 (a+1)) (s3 _ _ (s2 _ _ I))).snoc (r:=.bE 0 0 0) (s3 _ _ ah))⟩⟩⟩
theorem aaL:hM xs none (some (-1))=xs.dropLast:=by
 unfold hM;show (xs.drop 0).take ((if (-1:Int)<0 then (-1+(xs.length:Int)).toNat else min (-1:Int).toNat xs.length) - 0)=_;rw [if_pos .aG,List.drop_zero,Nat.sub_zero,List.dropLast_eq_take,show (-1+(xs.length:Int)).toNat=xs.length - 1 by omega]
theorem acD (l:bo):(d_ l).dropLast=d_ l.dropLast:=by unfold d_ bu;rw [List.map_dropLast,List.map_dropLast]
theorem abX (l:bo):(d_ l).reverse=d_ l.reverse:=by unfold d_ bu;rw [List.map_reverse,List.map_reverse]
theorem J1 {a b c d:Int} (I:a=c) (ah:b=d):[V.int a,V.int b]=[V.int c,V.int d]:=by rw [I,ah]
theorem G6 {f:Nat->Nat->dS} {l:bo} {j c:Nat} (h:l[j]?=some c):(l.mapIdx f).take (j+1)=(l.mapIdx f).take j++[f j c]:=by
 rw [eC,List.getElem?_mapIdx,h];rfl
noncomputable def ael:b9:=λ ag H Q _ => ∃ (n:Nat) (wl gl:Addr) (ws bp:bo),ag=[.int n,.ref wl,.ref gl]/\n<=100000/\H wl=some (.lst (d_ ws))/\H gl=some (.lst (d_ bp))/\ws.length<=1000/\bp.length<=1000 /\
 ∀ l H' xs,aB H H'->H' l=some (.lst xs)->gj H' xs (eP n ws bp)->Q (.ref l) H'
theorem aek (T:cv K ax):cz P w ax base b_ 2 T.PY ael:=by
 refine T.PY.fn.cA nR (λ ag H Q E h=>?_) (λ bt A outer s H ag Q E av h=>?_)
 ·obtain ⟨n,wl,gl,ws,bp,rfl,_⟩:=h;rfl
 ·obtain ⟨n,wl,gl,ws,bp,rfl,ib,hw,aR,afE,ae1,q⟩:=h;refine ⟨_,(aV (dJ (c6 h1 (bZ eR (cK ew T.ec eb (ak (aa 1) aC)) (cK ew T.ec eb (ak (aa 2) aC))) aX (cB _))
    (a5 (bJ (bf (adP T) av bb (ak (aa 0) aC))))
    dM)
   (aV (bP 3 nR (bZ eR (bZ eR (aa 0) (cK ew T.ec eb (ak (aa 1) aC))) (cK ew T.ec eb (ak (aa 2) aC))))
   (aV (bP 4 nR (ab8 rfl (by rfl) T.abU (by rfl) T.Lu (ak (mH tw (aa 1) nM (lO (kV k2 aX))) aC)))
   (aV (bP 5 nR (bZ eR (aa 3) (cK ew T.ec eb (ak (aa 4) aC))))
   (aV (bP 6 nR (jK aC))
   (aV (eB dZ rfl (vi rfl rfl T.o1 (ak (aa 1) aC)) (km rfl (cQ (c_ 7 nR) (cQ (c_ 8 nR) fm)))
    (a5 (lP (lC lL oX oY oZ (aa 6) (ak (hk (ak lF (ak (aa 8) (ak (bf (N4 T) av bb (ak (bZ eR (aa 0) (aa 7)) (ak (aa 3) aC))) (ak (bZ nz (aa 5) (aa 7)) aC))))) aC)))))
   (aV (eB dZ rfl (Nb rfl rfl T.o1 (ak (aa 2) aC) (bZ eR (aa 0) (cK ew T.ec eb (ak (aa 1) aC)))) (km rfl (cQ (c_ 9 nR) (cQ (c_ 8 nR) fm)))
    (a5 (lP (lC lL oX oY oZ (aa 6) (ak (hk (ak lF (ak (aa 8) (ak (bf (N4 T) av bb (ak (aa 9) (ak (aa 3) aC))) aC)))) aC)))))
   (aV (eB dZ rfl (Nb rfl rfl T.o1 (ak (aa 4) aC) (aa 3)) (km rfl (cQ (c_ 9 nR) (cQ (c_ 8 nR) fm)))
    (a5 (lP (lC lL oX oY oZ (aa 6) (ak (hk (ak lF (ak (aa 8) (ak (bZ eR (aa 9) aX) aC)))) aC)))))
   (a5 (bJ (aa 6))))))))))),?_⟩
  have lw:=td ws;have H7:=td bp;refine ⟨_,rfl,wl,d_ ws,rfl,.inl (aQ.of hw),_,rfl,gl,d_ bp,rfl,.inl (aQ.of aR),_,_,rfl,rfl,rfl,_,rfl,?_⟩;by_cases aS:ws.length+bp.length=0
  ·rw [cX (show V.int (((d_ ws).length:Int)+((d_ bp).length:Int))=V.int 0 from h3 V.int .ab)];refine ea ⟨_,rfl,n,rfl,λ l H' xs s' ar ae=>q l H' xs s' ar ?_⟩;unfold eP;rw [if_pos aS];exact ae
  rw [ee (show ¬ V.int (((d_ ws).length:Int)+((d_ bp).length:Int))=V.int 0 from λ z=>by injection z with z;omega)];refine dn ?_;refine ⟨_,rfl,_,rfl,wl,d_ ws,rfl,.inl (aQ.of hw),_,_,rfl,rfl,_,rfl,gl,d_ bp,rfl,.inl (aQ.of aR),_,_,rfl,rfl,?_⟩;refine ⟨_,rfl,_,rfl,_,rfl,wl,d_ ws,rfl,aQ.of hw,λ p1 jC=>⟨p1,_,rfl,bK,λ eL ay f2 s2 qR=>?_⟩⟩;rw [aaL,acD,abX] at qR;generalize Jw:ws.dropLast.reverse=ys at qR;have pk:ys.length=ws.length - 1:=by rw [<-Jw,x_,List.length_dropLast]
  have H9:=td ys;rw [lw,H7];have il:aB H ay:=(aB.new jC).trans s2;refine ⟨_,rfl,_,rfl,eL,_,rfl,.inl (aQ.of qR),_,_,rfl,rfl,?_⟩;rw [H9];refine ⟨dG,λ l aM e8 s3 gb=>?_⟩;have Dw:=il _ _ hw;have I7:=il _ _ aR;have app : ∀ (G rR:aA) (xs:bB) (i9:Addr),aB ay G->b6 l G rR->rR l=some (.lst (xs++[.ref i9]))->aB ay rR:=λ G rR xs i9 QX qB _ b o e=>qB _ _ (bT e e8) (QX _ _ e)
  let f1:Nat->Nat->dS:=λ t c=>.bE c (jh (n+t) (n+ws.length+bp.length)) (n+ws.length+bp.length+(ws.length - 1) - t)
  let zq:Nat->Nat->dS:=λ t c=>.add c (jh (n+ws.length+t) (n+ws.length+bp.length))
  let ID:Nat->Nat->dS:=λ t c=>.add c (n+ws.length+bp.length+t+1)
  have hP : ∀ {k9 qu nS vH:aA} {xs zs:bB} {i9:Addr} {rws:List dS} {r:dS},gj k9 xs rws->k9 l=some (.lst xs)->aB k9 qu->aB qu nS->qu i9=none->nS i9=some (.tup r.ag)->b6 l nS vH->vH l=some (.lst zs)->gj vH (xs++[.ref i9]) (rws++[r]):=λ {k9 qu nS vH xs zs i9 rws r} hm ar qJ v9 lX sI ho vU=>(hm.keep (((e3.of qJ).trans (e3.of v9)).trans (e3.but ho (v9 _ _ (qJ _ _ ar)) vU))).snoc (ho _ _ (bT (qJ _ _ ar) lX).symm sI)
  refine ⟨_,rfl,wl,d_ ws,rfl,s3 _ _ Dw,Be (xs:=d_ ws) (λ j σ aO=>(∃ u v w:cq,σ=[some (.int n),some (.ref wl),some (.ref gl),some (.int ((n:Int)+(ws.length:Int)+(bp.length:Int))),some (.ref eL),some (.int ((n:Int)+(ws.length:Int)+(bp.length:Int)+(ys.length:Int))),some (.ref l),u,v,w])/\aB ay aO /\ ∃ xs,aO l=some (.lst xs)/\gj aO xs ((ws.mapIdx f1).take j)) ⟨⟨_,_,_,rfl⟩,s3,[],gb,gj.nil⟩ (λ j σ aO _ ⟨_,s',_⟩=>s' _ _ Dw) ?_ ?_⟩
  ·rintro j x pp σ aO ae lx ⟨⟨u,v,w,rfl⟩,s4,xs,fE,hm⟩;obtain ⟨c,aj,rfl⟩:=AK ae;have aY:j<ws.length:=(cL.mp aj).1;have hlen:xs.length<=j:=by rw [hm.1,ff];omega
   have s5:=aB.more (o:=.tup [.int (j:Int),.int (c:Int)]) (aB.refl aO) lx;refine ⟨pp,_,rfl,aP.of bK,rfl,_,_,rfl,_,_,rfl,rfl,?_⟩;refine ⟨_,rfl,.inl ⟨rfl,_,aQ.of (s5 _ _ fE)⟩,_,rfl,_,rfl,_,rfl,_,_,rfl,rfl,_,rfl,n+j,n+ws.length+bp.length,J1 .ab .ab,⟨_,rfl,_,rfl,_,_,rfl,rfl,dG,λ i9 cY hC bI sI=>⟨l,xs,_,rfl,rfl,bI _ _ (s5 _ _ fE),(by rw [cW];omega),λ ek ho m2=>?_⟩⟩⟩;refine ⟨⟨_,_,_,rfl⟩,app cY ek xs i9 ((s4.trans s5).trans bI) ho m2,_,m2,?_⟩;rw [G6 aj];refine hP hm fE s5 bI hC ?_ ho m2;rw [sI];show some (fy.tup [.str "take", .int (c:Int),.int _,.int ((n:Int)+(ws.length:Int)+(bp.length:Int)+(ys.length:Int) - (j:Int))])=some (fy.tup [.str "take", .int (c:Int),.int _,.int ((n+ws.length+bp.length+(ws.length - 1) - j:Nat):Int)]);rw [show (n:Int)+(ws.length:Int)+(bp.length:Int)+(ys.length:Int) - (j:Int)=((n+ws.length+bp.length+(ws.length - 1) - j:Nat):Int) by omega]
  ·rintro σ aO ⟨⟨u,v,w,rfl⟩,s4,Uv,fE,pF⟩;rw [fG (by rw [qn,lw];exact br _)] at pF;refine ⟨_,rfl,_,rfl,_,rfl,wl,d_ ws,rfl,.inl (aQ.of (s4 _ _ Dw)),_,_,rfl,rfl,gl,d_ bp,n+ws.length,rfl,h3 V.int .ab,.ab,s4 _ _ I7,NV (k:=n+ws.length) (xs:=d_ bp) (λ j σ aO=>(∃ u v w:cq,σ=[some (.int n),some (.ref wl),some (.ref gl),some (.int ((n:Int)+(ws.length:Int)+(bp.length:Int))),some (.ref eL),some (.int ((n:Int)+(ws.length:Int)+(bp.length:Int)+(ys.length:Int))),some (.ref l),u,v,w])/\aB ay aO /\ ∃ xs,aO l=some (.lst xs)/\gj aO xs (ws.mapIdx f1++(bp.mapIdx zq).take j)) ⟨⟨_,_,_,rfl⟩,s4,Uv,fE,by rw [List.take_zero,mx];exact pF⟩ (λ j σ aO _ ⟨_,s',_⟩=>s' _ _ I7) ?_ ?_⟩
   ·rintro j x pp σ aO ae lx ⟨⟨u,v,w,rfl⟩,s4,xs,fE,hm⟩;obtain ⟨c,aj,rfl⟩:=AK ae;have aY:j<bp.length:=(cL.mp aj).1;have hlen:xs.length<=ws.length+j:=by rw [hm.1,cJ,ff,qn];omega
    have s5:=aB.more (o:=.tup [.int ((n+ws.length+j:Nat):Int),.int (c:Int)]) (aB.refl aO) lx;refine ⟨pp,_,rfl,aP.of bK,rfl,_,_,rfl,_,_,rfl,rfl,?_⟩;refine ⟨_,rfl,.inl ⟨rfl,_,aQ.of (s5 _ _ fE)⟩,_,rfl,_,rfl,_,rfl,n+ws.length+j,n+ws.length+bp.length,J1 rfl .ab,⟨dG,λ i9 cY hC bI sI=>⟨l,xs,_,rfl,rfl,bI _ _ (s5 _ _ fE),(by rw [cW];omega),λ ek ho m2=>?_⟩⟩⟩;refine ⟨⟨_,_,_,rfl⟩,app cY ek xs i9 ((s4.trans s5).trans bI) ho m2,_,m2,?_⟩;rw [G6 aj,<-lI];exact hP (r:=zq j c) hm fE s5 bI hC sI ho m2
   ·rintro σ bj ⟨⟨u,v,w,rfl⟩,s5,z6,ow,wY⟩;rw [fG (by rw [qn,H7];exact br _)] at wY;refine ⟨_,rfl,_,rfl,eL,d_ ys,n+ws.length+bp.length,rfl,h3 V.int .ab,.ab,s5 _ _ qR,NV (k:=n+ws.length+bp.length) (xs:=d_ ys) (λ j σ aO=>(∃ u v w:cq,σ=[some (.int n),some (.ref wl),some (.ref gl),some (.int ((n:Int)+(ws.length:Int)+(bp.length:Int))),some (.ref eL),some (.int ((n:Int)+(ws.length:Int)+(bp.length:Int)+(ys.length:Int))),some (.ref l),u,v,w])/\aB ay aO /\ ∃ xs,aO l=some (.lst xs)/\gj aO xs (ws.mapIdx f1++bp.mapIdx zq++(ys.mapIdx ID).take j)) ⟨⟨_,_,_,rfl⟩,s5,z6,ow,by rw [List.take_zero,mx];exact wY⟩ (λ j σ aO _ ⟨_,s',_⟩=>s' _ _ qR) ?_ ?_⟩
    ·rintro j x pp σ aO ae lx ⟨⟨u,v,w,rfl⟩,s4,xs,fE,hm⟩;obtain ⟨c,aj,rfl⟩:=AK ae;have aY:j<ys.length:=(cL.mp aj).1;have hlen:xs.length<=ws.length+bp.length+j:=by rw [hm.1,cJ,cJ,ff,qn,qn];omega
     have s5:=aB.more (o:=.tup [.int ((n+ws.length+bp.length+j:Nat):Int),.int (c:Int)]) (aB.refl aO) lx;refine ⟨pp,_,rfl,aP.of bK,rfl,_,_,rfl,_,_,rfl,rfl,?_⟩;refine ⟨_,rfl,.inl ⟨rfl,_,aQ.of (s5 _ _ fE)⟩,_,rfl,_,rfl,_,_,rfl,rfl,dG,λ i9 cY hC bI sI=>⟨l,xs,_,rfl,rfl,bI _ _ (s5 _ _ fE),(by rw [cW];omega),λ ek ho m2=>?_⟩⟩;refine ⟨⟨_,_,_,rfl⟩,app cY ek xs i9 ((s4.trans s5).trans bI) ho m2,_,m2,?_⟩;rw [G6 aj,<-lI];exact hP (r:=ID j c) hm fE s5 bI hC sI ho m2
    ·rintro σ cY ⟨⟨u,v,w,rfl⟩,bI,Uw,sC,Jf⟩;rw [fG (by rw [qn,H9];exact br _)] at Jf;refine ⟨_,rfl,q l cY Uw (il.trans bI) sC ?_⟩;unfold eP;rw [if_neg aS,Jw];exact Jf
noncomputable def xt (D:Addr) (H:aA) (x:V) (u:bo×bo):Prop := ∃ (c wl gl:Addr),x=.ref c/\c≠D/\wl≠D/\gl≠D/\H c=some (.tup [.ref wl,.ref gl])/\H wl=some (.lst (d_ u.1))/\H gl=some (.lst (d_ u.2))
theorem xt.but {x:V} {u:bo×bo} (h:xt D H x u) (b:b6 D H H'):xt D H' x u:=by
 obtain ⟨c,wl,gl,e,dr,d0,e9,I,ah,aD⟩:=h;exact ⟨c,wl,gl,e,dr,d0,e9,b _ _ dr I,b _ _ d0 ah,b _ _ e9 aD⟩
noncomputable def sb (D:Addr) (H:aA) (ps:bB) (us:List (bo×bo)):Prop:=ps.length=us.length /\ ∀ (i:Nat) (x:V),ps[i]?=some x -> ∃ u,us[i]?=some u/\xt D H x u
theorem sb.but {ps:bB} {us:List (bo×bo)} (h:sb D H ps us) (b:b6 D H H'):sb D H' ps us:=⟨h.1,λ i x ae=>by
 obtain ⟨u,I,ah⟩:=h.2 i x ae;exact ⟨u,I,ah.but b⟩⟩
theorem sb.snoc {ps:bB} {us:List (bo×bo)} (h:sb D H ps us) {x:V} {u:bo×bo} (ae:xt D H x u):sb D H (ps++[x]) (us++[u]):=⟨by rw [cJ,cJ,h.1];rfl,λ i y a8=>by
 rcases k5 i ps.length with z | z
 ·rw [gi z] at a8;obtain ⟨i_,I,ah⟩:=h.2 i y a8;exact ⟨i_,by rw [gi (by rw [<-h.1];exact z)];exact I,ah⟩
 ·rw [g4 z] at a8;have hb:i - ps.length=0:=by
   rcases nE (i - ps.length) with z | z
   ·exact z
   ·rw [g6 (show [x].length<=_ from z)] at a8;cases a8
  rw [hb] at a8;cases a8;exact ⟨u,by rw [g4 (by rw [<-h.1];exact z),<-h.1,hb];rfl,ae⟩⟩
noncomputable def xR (u:bo×bo):Nat:=u.1.length+u.2.length
theorem M0 : ∀ us:bo,(bu us).sum=(us.sum:Int)
 | []=>rfl
 | u::us=>by
  show (u:Int)+(bu us).sum=((u+us.sum:Nat):Int);rw [M0 us];omega
theorem Nl : ∀ ai:cx,(∀ f∈ai,pQ f)->((partsOf ai).map xR).sum<=14 * ai.length
 | [],_=>br _
 | f::ai,h=>by
  have I:=h f d2;have ah:=Nl ai λ g aR=>h g (eQ _ aR)
  show (bR 0 (bH f.2.toNat)).length+(bR 0 (bH f.1.toNat)).length+((partsOf ai).map xR).sum<=14 * (ai.length+1);rw [k6,k6];obtain ⟨s1,s2⟩:=I;omega
theorem N5 : ∀ (us:List (bo×bo)) (b i:Nat) (u:bo×bo),us[i]?=some u->hy b (us.take (i+1))=hy b (us.take i)++eP (b+(hy b (us.take i)).length) u.1 u.2
 | [],_,_,_,h=>by cases h
 | v::us,b,0,u,h=>by
  have z:v=u:=eA h;subst z;show eP b v.1 v.2++[]=[]++eP (b+0) v.1 v.2;rw [mx];rfl
 | v::us,b,i+1,u,h=>by
  have e : ∀ k,hy b ((v::us).take (k+1))=eP b v.1 v.2++hy (b+(eP b v.1 v.2).length) (us.take k):=λ _=>rfl
  rw [e,e,N5 us (b+(eP b v.1 v.2).length) i u (by simpa using h),lI,cJ,vd]
noncomputable def adX:b9:=λ ag H Q _ => ∃ (b:Addr) (xs:bB) (ai:cx),ag=[.ref b]/\H b=some (.tup xs)/\ei H xs ai/\(∀ f∈ai,pQ f)/\1<=xs.length/\xs.length<=20 /\
 ∀ (p:Addr) (H':aA),aB H H'->q8 H' p 10 (hy 0 (partsOf ai))->Q (.ref p) H'
theorem adM (T:cv K ax):cz P w ax base b_ 4 T.Ph adX:=by
 refine T.Ph.fn.cA tN (λ ag H Q E h=>?_) (λ bt A outer s H ag Q E av h=>?_)
 ·obtain ⟨b,xs,us,rfl,_⟩:=h;rfl
 ·obtain ⟨b,xs,ai,rfl,af,b8,c1,eh,afG,q⟩:=h;refine ⟨_,(aV (vj (i:=1) tN.eM rfl (Or.inl rfl) (dC tN (N:=["top", "bottom"]) (js:=[none,none]) (d3 _)) rfl (kZ (aa 0)) (λ _ _ _ _=>(i1 (K:=K) (n:=2) rfl rfl (cQ ed (cQ (g7 (i:=1) (show List.Nodup (["top", "bottom"]:cE) from by decide +kernel) rfl (Or.inl rfl) (Or.inr rfl)) fm)))) (λ _ _ _ _=>eD)
     (λ _ _ _ _=>(hk (ak (bf (PU T) av bb (ak (aa 1) aC)) (ak (bf (PU T) av bb (ak (aa 0) aC)) aC)))))
   (aV (dJ (c6 xO (cK (NM rfl) T.K1 KL (ak (fx (dC tN (N:=["wanted", "given"]) (js:=[none,none]) (d3 _)) rfl (hA (aa 1)) (λ _ _ _ _=>(i1 (K:=K) (n:=2) rfl rfl (cQ ed (cQ (g7 (i:=1) (show List.Nodup (["wanted", "given"]:cE) from by decide +kernel) rfl (Or.inl rfl) (Or.inr rfl)) fm)))) (λ _ _ _ _=>eD)
     (λ _ _ _ _=>(bZ eR (cK (Hs (K:=K) rfl) T.ec eb (ak (aa 0) aC)) (cK (Hs (K:=K) rfl) T.ec eb (ak (aa 1) aC))))) aC)) (F5 (by rfl) T.HA) (cB _))
    (a5 yw)
    dM)
   (aV (bP 2 tN (jK aC))
   (aV (eB dZ rfl (hA (aa 1)) (km rfl (cQ (c_ 3 tN) (cQ (c_ 4 tN) fm)))
    (a5 (lP (lC lL PySem.F.slot_list_extend PySem.F.type_list_extend N1 (aa 2) (ak (bf (aek T) av bb (ak (cK ew T.ec eb (ak (aa 2) aC)) (ak (aa 3) (ak (aa 4) aC)))) aC)))))
   (a5 (bJ (hk (ak (cK ew T.ec eb (ak (nL (v:=.ref T.gs) (by rfl) T.lR rfl) aC)) (ak (iu mJ T.h7 h6 (ak (aa 2) aC)) aC))))))))),?_⟩
  have qM:=b8.1;have ul:(partsOf ai).length=ai.length:=a6 _;refine ⟨_,rfl,b,rfl,⟨_,aP.of af⟩,λ D aT=>?_⟩;refine tA (K:=K) (a:=b) (xs:=xs) (by rw [cW];omega) (λ i σ' H' ys=>(∃ u v:cq,σ'=[u,v])/\aB H H'/\sb D H' ys ((partsOf ai).take i)) ⟨⟨_,_,rfl⟩,aB.new aT,rfl,λ i x ae=>by cases ae⟩ (λ i σ' H' ys _ _ ⟨_,s',_⟩=>aP.of (s' _ _ af)) ?_ ?_
  ·rintro i x σ' H' ys R ae b7 eW ⟨⟨u,v,rfl⟩,s',kL⟩ df;obtain ⟨iJ,Ii,c,hf,rfl,aj,kO⟩:=b8.2 i x ae;obtain ⟨⟨gx,i7⟩,⟨dq,dU⟩⟩:=vD kO;obtain ⟨hT,lZ⟩:=c1 _ (cf hf);have bM:(partsOf ai)[i]?=some (bR 0 (bH Ii.toNat),bR 0 (bH iJ.toNat)):=by unfold partsOf;rw [c9,hf];rfl
   refine ⟨c,_,rfl,aP.of (s' _ _ aj),rfl,_,_,rfl,_,_,rfl,rfl,?_⟩;refine ⟨_,rfl,Ii,rfl,dq,dU,et lZ .aG,λ wl ay QI s2 mb=>⟨_,rfl,iJ,rfl,gx,i7,et hT .aG,λ gl aM y5 s3 sy=>⟨dG,λ lg aO f4 s4 pE=>?_⟩⟩⟩;have m7:=(s2.trans s3).trans s4;refine df _ _ _ (m7 _ _ b7) ⟨⟨_,_,rfl⟩,?_,?_⟩
   ·intro e o b1;rw [bw (bT b1 aT)];exact m7 _ _ (s' _ _ b1)
   ·rw [eC,bM];exact ((kL.but (b6.of m7)).snoc ⟨lg,wl,gl,rfl,(bT (s3 _ _ (s2 _ _ b7)) f4).symm,(bT b7 QI).symm,(bT (s2 _ _ b7) y5).symm,pE,s4 _ _ (s3 _ _ mb),s4 _ _ sy⟩).but b6.upd
  ·rintro σ' H1 ys kK eW ⟨_,s1,zr⟩;rw [fG .ab] at zr;have pk:=zr.1;refine ⟨_,rfl,D,rfl,⟨_,aQ.of kK⟩,λ h8 dj=>tE (K:=K) (a:=D) (xs:=ys) (by rw [cW];omega) (λ i σ' H' zs=>(∃ u v:cq,σ'=[u,v])/\aB H1 H'/\zs=(bu (((partsOf ai).map xR).take i)).map V.int) ⟨⟨_,_,rfl⟩,aB.new dj,rfl⟩ (λ i σ' H' zs _ _ ⟨_,s',_⟩=>aQ.of (s' _ _ kK)) ?_ ?_⟩
   ·rintro i x σ' H' zs R ae b7 gU ⟨⟨u,v,rfl⟩,s',rfl⟩ df;obtain ⟨i_,bM,⟨c,wl,gl,rfl,dr,d0,e9,aj,mb,sy⟩⟩:=zr.2 i x ae;refine ⟨c,_,rfl,aP.of (s' _ _ aj),rfl,_,_,rfl,_,_,rfl,rfl,?_⟩;refine ⟨_,rfl,wl,_,rfl,.inl (aQ.of (s' _ _ mb)),_,rfl,gl,_,rfl,.inl (aQ.of (s' _ _ sy)),_,_,rfl,rfl,df _ _ _ b7 ⟨⟨_,_,rfl⟩,?_,?_⟩⟩
    ·intro e o b1;rw [bw (bT b1 dj)];exact s' _ _ b1
    ·rw [eC,c9,bM,td,td];unfold bu;rw [ej,ej];congr 2
   ·rintro σ' ay zs gr gU ⟨_,s2,rfl⟩;rw [fG (by rw [a6];omega)] at gr;refine ⟨h8,bu ((partsOf ai).map xR),rfl,aQ.of gr,_,_,rfl,rfl,_,rfl,?_⟩;have hsz:=Nl ai c1;rw [M0,ee (show ¬ ((((partsOf ai).map xR).sum:Nat):Int) > 300 by omega)];have il:=s1.trans s2;refine dn ⟨dG,λ l aM e8 s3 gb=>?_⟩;refine ⟨_,rfl,D,rfl,⟨_,aQ.of (s3 _ _ (s2 _ _ kK))⟩,rH (K:=K) (a:=D) (xs:=ys) (λ i σ aO=>(∃ u v:cq,σ=[some (.ref b),some (.ref D),some (.ref l),u,v])/\aB ay aO /\ ∃ zs,aO l=some (.lst zs)/\gj aO zs (hy 0 ((partsOf ai).take i))) ⟨⟨_,_,rfl⟩,s3,[],gb,gj.nil⟩ (λ i σ aO _ ⟨_,s',_⟩=>aQ.of (s' _ _ (s2 _ _ kK))) ?_ ?_⟩
    ·rintro i x σ aO ae ⟨⟨u,v,rfl⟩,s4,zs,fE,pF⟩;obtain ⟨i_,bM,⟨c,wl,gl,rfl,dr,d0,e9,aj,mb,sy⟩⟩:=zr.2 i x ae;obtain ⟨f,hf,rfl⟩ : ∃ f,ai[i]?=some f/\i_=(bR 0 (bH f.2.toNat),bR 0 (bH f.1.toNat)):=by
      unfold partsOf at bM;rw [c9] at bM;cases aK:ai[i]? with
      | none=>rw [aK] at bM;cases bM
      | some f=>rw [aK] at bM;exact ⟨f,rfl,(eA bM).symm⟩
     obtain ⟨hT,lZ⟩:=c1 _ (cf hf);have fu:=(F3 (ai.take i) 0 λ g aR=>c1 g (qm aR)).2;have Rh:partsOf (ai.take i)=(partsOf ai).take i:=by unfold partsOf;rw [List.map_take]
     rw [Rh,<-pF.1,ff] at fu;have oC:=s2.trans s4;refine ⟨c,_,rfl,aP.of (oC _ _ aj),rfl,_,_,rfl,_,_,rfl,rfl,?_⟩;refine ⟨_,rfl,.inl ⟨rfl,_,aQ.of fE⟩,_,rfl,l,zs,rfl,.inl (aQ.of fE),_,rfl,_,rfl,zs.length,wl,gl,_,_,rfl,.ab,oC _ _ mb,oC _ _ sy,by rw [k6];omega,by rw [k6];omega,λ tX bj z6 s5 ow wY=>⟨l,tX,zs,z6,rfl,rfl,s5 _ _ fE,ow,?_,⟨⟨_,_,rfl⟩,?_,_,bK,?_⟩⟩⟩
     ·have cp:=wY.1;rw [rF,k6,k6] at cp;rw [cW];split at cp<;>omega
     ·intro e o b1;rw [bw (bT b1 e8)];exact s5 _ _ (s4 _ _ b1)
     ·have zb:e3 bj (bC.upd bj l (.lst (zs++z6))):=e3.but b6.upd (s5 _ _ fE) bK;rw [N5 _ 0 i _ bM,rx,<-pF.1];exact ((pF.keep (e3.of s5)).keep zb).app (wY.keep zb)
    ·rintro σ aO ⟨⟨u,v,rfl⟩,s4,zs,fE,pF⟩;rw [fG .ab] at pF;have fu:=F3 ai 0 c1;refine ⟨_,_,rfl,.inr (T.jL aO),_,rfl,l,zs,rfl,aQ.of fE,λ p1 bj eG s5 jC=>⟨dG,λ p cY hC bI ao=>q p cY ((il.trans s4).trans (s5.trans bI)) ⟨⟨p1,zs,ao,bI _ _ jC,pF.keep ((e3.of s5).trans (e3.of bI))⟩,.aG,.ab,Mk ai 0 .ab⟩⟩⟩
theorem MS {ai:cx} (h:ei H xs ai) {k:Nat} {x:V} (ae:xs[k]?=some x) : ∃ (i j:Int) (c:Addr),ai[k]?=some (i,j)/\x=.ref c/\H c=some (.tup [.int i,.int j])/\kU i j=true/\0<j:=by
 obtain ⟨i,j,c,I,ah,aD,aL⟩:=h.2 k x ae;exact ⟨i,j,c,I,ah,aD,aL,by have:=(vD aL).2.1;omega⟩
theorem Zn {i j:Int}:decide (V.int i=V.int j)=decide (i=j):=Fp.trans rfl
noncomputable def acd:b9:=λ ag H Q _ => ∃ (b:Addr) (xs:bB) (ai:cx) (n:Nat),ag=[.ref b,.int (n:Int)]/\H b=some (.tup xs)/\ei H xs ai/\xs.length<=1000/\n<xs.length /\ ∀ H',aB H H'->Q (.aH (p8 ai n)) H'
theorem ab1 (T:cv K ax):cz P w ax base b_ 1 T.NB acd:=by
 refine T.NB.fn.cA G2 (λ ag H Q E h=>?_) (λ bt A outer s H ag Q E av h=>?_)
 ·obtain ⟨b,xs,ai,n,rfl,_⟩:=h;rfl
 ·obtain ⟨b,xs,ai,n,rfl,af,hf,ar,az,q⟩:=h;refine ⟨_,(aV (mz (i:=2) G2.eM rfl (Or.inr rfl) (cP fP (cP fP (aa 0) (aa 1) (λ _ _=>rfl)) aX (λ _ _=>rfl)))
   (a5 (bJ (cK (MG rfl) T.K0 KJ (ak (fx (dC G2 (N:=["ahead", "bottom"]) (js:=[none,some 2]) (e6.mpr ⟨rfl,(d3 _)⟩)) rfl (kZ (mH Ap (aa 0) nM (lO (aa 1)))) (λ _ _ _ _=>ed) (λ _ _ _ _=>eD)
     (λ _ _ _ _=>(jJ h1 (bZ qe (aa 1) (cP (Fz (K:=K) rfl) (aa 0) aX (λ _ _=>rfl))) aX (cB _)))) aC))))),?_⟩
  obtain ⟨i,j,c,I,ah,aD,aL,H4⟩:=MS hf (bz az);refine ⟨_,rfl,_,rfl,b,_,_,_,rfl,rfl,aP.of af,h5 (lK n) (by rw [dY,bz az,ah]),c,_,_,_,rfl,rfl,aP.of aD,rfl,?_⟩;refine ⟨_,rfl,_,rfl,_,rfl,b,_,rfl,af,λ p H1 s1 ao=>?_⟩;rw [vm (lK n),dY] at ao;refine ⟨p,rfl,⟨_,aP.of ao⟩,λ D aT=>?_⟩;refine ac0 (xs:=xs.take n) (σ0:=[some (.int j)]) (t:=λ _=>true) (f:=λ k=>V.aH (decide (j % (ai.getD k (1,1)).2=0))) (by rw [ff,cW];omega) ⟨_,rfl⟩ aT (aP.of ao) (λ k x H' R _ _ r=>r H' (aB.refl _)) (λ k x H' R s' ae _ r=>?_) λ ay s2 dj=>?_
  ·have aE:k<n:=by
    have:=cL.mp ae;obtain ⟨z,_⟩:=this;rw [ff] at z;omega
   rw [qa aE] at ae;obtain ⟨kv,hp,bG,g1,rfl,g3,f6,eH⟩:=MS hf ae;refine ⟨_,rfl,_,rfl,bG,_,_,_,rfl,rfl,aP.of (s' _ _ (s1 _ _ g3)),rfl,_,_,rfl,rfl,eH,rfl,?_⟩;have:=r H' (aB.refl _);rw [bk,g1] at this;rw [Zn];exact this
  ·refine ⟨D,(List.range n).map λ k=>decide (j % (ai.getD k (1,1)).2=0),rfl,aQ.of ?_,?_⟩
   ·rw [dj];have aJ:(List.range (xs.take n).length).filter (λ _=>true)=List.range n:=by
     rw [List.filter_eq_self.mpr (λ _ _=>rfl),ff,Nat.min_eq_left .ab]
    rw [aJ,fZ];rfl
   ·rw [Ze (by rw [<-hf.1];exact az) I];exact q ay (s1.trans s2)
noncomputable def aei:b9:=λ ag H Q _ => ∃ (b:Addr) (xs:bB) (ai:cx),ag=[.ref b]/\H b=some (.tup xs)/\ei H xs ai/\xs.length<=1000 /\ ∀ p H',aB H H'->H' p=some (.tup ((rg ai).map λ k=>xs.getD k .cV))->Q (.ref p) H'
theorem aeg (T:cv K ax):cz P w ax base b_ 2 T.PQ aei:=by
 refine T.PQ.fn.cA P2 (λ ag H Q E h=>?_) (λ bt A outer s H ag Q E av h=>?_)
 ·obtain ⟨b,xs,ai,rfl,_⟩:=h;rfl
 ·obtain ⟨b,xs,ai,rfl,af,hf,ar,q⟩:=h;refine ⟨_,(a5 (bJ (iu mJ T.h7 h6 (ak (fx (dC P2 (N:=["number", "fraction", "program"]) (js:=[none,none,some 0]) (e6.mpr ⟨rfl,(d3 _)⟩)) rfl (Nc rfl rfl T.o1 (ak (aa 0) aC)) (λ _ _ _ _=>(i1 (K:=K) (n:=2) rfl rfl (cQ ed (cQ (g7 (i:=1) (show List.Nodup (["number", "fraction", "program"]:cE) from by decide +kernel) rfl (Or.inl rfl) (Or.inr rfl)) fm)))) (λ _ _ _ _=>(yj (lG (k0 (bf (ab1 T) av bb (ak (aa 2) (ak (aa 0) aC)))))))
     (λ _ _ _ _=>(aa 1))) aC)))),?_⟩
  refine ⟨_,rfl,b,xs,rfl,aP.of af,λ D aT=>?_⟩;refine ad5 (xs:=xs) (σ0:=[some (.ref b)]) (t:=λ k => !p8 ai k) (f:=λ k=>xs.getD k .cV) (by rw [cW];omega) ⟨_,_,rfl⟩ aT af (λ k x H' R s' ae r=>?_) (λ k x H' R s' ae _ r=>?_) λ ay s2 dj=>?_
  ·have aE:k<xs.length:=(cL.mp ae).1;exact ⟨_,rfl,_,rfl,b,xs,ai,k,rfl,s' _ _ af,hf.same s',ar,aE,λ aM s3=>⟨_,rfl,r aM s3⟩⟩
  ·refine ⟨_,rfl,?_⟩;have:=r H' (aB.refl _);rw [bk,ae] at this;exact this
  ·refine ⟨D,_,rfl,aQ.of dj,λ p aM e8 s3 ao=>q p aM (s2.trans s3) ?_⟩;rw [ao];unfold rg;rw [hf.1]
theorem ei.D2 {ai:cx} (h:ei H xs ai):uA ai:=λ f hf=>by
 obtain ⟨k,aE⟩:=gk hf;have S0:k<xs.length:=by rw [h.1];exact (cL.mp aE).1
 obtain ⟨i,j,c,I,_,_,aL⟩:=h.2 k _ (bz S0);rw [aE] at I;cases I;refine ⟨?_,(vD aL).2.1⟩;unfold kU at aL;simp only [h4] at aL;exact aL.2
noncomputable def acP:b9:=λ ag H Q _ => ∃ (b:Addr) (xs:bB) (ai:cx),ag=[.ref b]/\H b=some (.tup xs)/\ei H xs ai/\xs.length<=16 /\ ∀ l H' ys,H l=none->aB H H'->H' l=some (.lst ys)->dX H' ys (gZ ai)->Q (.ref l) H'
theorem O5 (T:cv K ax):cz P w ax base b_ 3 T.Ov acP:=by
 refine T.Ov.fn.cA O_ (λ ag H Q E h=>?_) (λ bt A outer s H ag Q E av h=>?_)
 ·obtain ⟨b,xs,ai,rfl,_⟩:=h;rfl
 ·obtain ⟨b,xs,ai,rfl,af,hf,ar,q⟩:=h;refine ⟨_,(a5 (bJ (bZ F2 (fx (dC O_ (N:=["top", "bottom"]) (js:=[none,none]) (d3 _)) rfl (kZ (aa 0)) (λ _ _ _ _=>(i1 (K:=K) (n:=2) rfl rfl (cQ ed (cQ (g7 (i:=1) (show List.Nodup (["top", "bottom"]:cE) from by decide +kernel) rfl (Or.inl rfl) (Or.inr rfl)) fm)))) (λ _ _ _ _=>eD)
     (λ _ _ _ _=>(bf (BB T) av bb (ak (aa 1) aC)))) (jK (ak (bZ ZT (hk (ak aX aC)) (cK ew T.ec eb (ak (nL (v:=.ref T.gs) (by rfl) T.lR rfl) aC))) aC))))),?_⟩
  refine ⟨_,rfl,b,rfl,⟨_,aP.of af⟩,λ D aT=>?_⟩;refine aaI (xs:=xs) (σ0:=[]) (by rw [cW];omega) ⟨_,_,rfl⟩ aT af (λ i=>(.int (ai.getD i (1,1)).1,.int (ai.getD i (1,1)).2)) ?_ (λ i H' zs=>dX H' zs ((ai.take i).map λ f:Int×Int=>bu (bH f.2.toNat))) dX.nil (λ i H' ay zs ys hd r gv=>r.but hd gv) ?_ ?_
  ·intro i x ae;obtain ⟨a,d,c,I,ah,aD,_⟩:=hf.2 i x ae;refine ⟨c,ah,?_⟩;show H c=some (.tup [.int (ai.getD i (1,1)).1,.int (ai.getD i (1,1)).2]);rw [bk,I];exact aD
  ·intro i H' zs R s' aq b7 gU b4 df;obtain ⟨a,d,c,I,ah,aD,aL⟩:=hf.2 i _ (bz aq);obtain ⟨_,⟨dq,dU⟩⟩:=vD aL;have aJ:(ai.getD i (1,1)).2=d:=by rw [bk,I];rfl
   refine ⟨_,rfl,d,by show [V.int (ai.getD i (1,1)).2]++[]=_;rw [aJ];rfl,dq,dU,λ p aO s4 ao=>df _ aO s4 ?_⟩;rw [eC,I,ej];exact (b4.same s4).app (dX.one ⟨p,rfl,ao⟩)
  ·intro ay zs s2 dj gU b4;rw [fG (by rw [hf.1];exact br _)] at b4;refine ⟨dG,λ t1 aM e8 s3 aD=>?_⟩;refine ⟨T.gs,hj,rfl,.inr (T.jL _),t1,_,_,rfl,rfl,aD,nofun,.aG,.aG,.aG,λ fi aO f4 s4 aL=>?_⟩;refine ⟨dG,λ c3 bj eG s5 cp=>?_⟩;refine ⟨D,c3,_,_,rfl,rfl,s5 _ _ (s4 _ _ (s3 _ _ dj)),cp,?_,λ l cY hC bI g9=>?_⟩
   ·rw [gU,cW];simp only [List.length_singleton];omega
   ·have JL:=((s3.trans s4).trans s5).trans bI;refine q l cY _ (s2.free (s3.free (s4.free (s5.free hC)))) (s2.trans JL) g9 ?_;exact (b4.same JL).app (dX.one ⟨fi,rfl,bI _ _ (s5 _ _ aL)⟩)
noncomputable def aeh:b9:=λ ag H Q _ => ∃ (b c:Addr) (xs ys:bB) (ai bp:cx),ag=[.ref b,.ref c]/\H b=some (.tup xs)/\ei H xs ai/\xs.length<=16/\H c=some (.tup ys)/\ei H ys bp/\ys.length<=16 /\ ∀ l H' zs,H l=none->aB H H'->H' l=some (.lst zs)->dX H' zs (my (gZ ai) (gZ bp))->Q (.ref l) H'
theorem Oh (ai:cx):(gZ ai).length=ai.length+1:=by
 unfold gZ;rw [cJ,a6];rfl
theorem aa2 (W V:aZ):(my W V).length=W.length * V.length:=by
 unfold my
 induction W with
 | nil=>simp
 | cons w W b0 =>
  rw [List.flatMap_cons,cJ,a6,b0,mB,Nat.succ_mul,Nat.add_comm]
theorem aef (T:cv K ax):cz P w ax base b_ 4 T.PO aeh:=by
 refine T.PO.fn.cA yQ (λ ag H Q E h=>?_) (λ bt A outer s H ag Q E av h=>?_)
 ·obtain ⟨b,c,xs,ys,ai,bp,rfl,_⟩:=h;rfl
 ·obtain ⟨b,c,xs,ys,ai,bp,rfl,af,hf,Dj,aj,aR,Dk,q⟩:=h;refine ⟨_,(aV (bP 2 yQ (jK aC))
   (aV (eB dZ rfl (hA (bf (O5 T) av bb (ak (aa 0) aC))) (c_ 3 yQ)
    (a5 (eB dZ rfl (hA (bf (O5 T) av bb (ak (aa 1) aC))) (c_ 4 yQ)
    (a5 (lP (lC lL oX oY oZ (aa 2) (ak (iu mJ T.h7 h6 (ak (fx (dC yQ (N:=["power", "more"]) (js:=[none,none]) (d3 _)) rfl (tf rfl rfl T.ki (ak (aa 3) (ak (aa 4) aC))) (λ _ _ _ _=>(i1 (K:=K) (n:=2) rfl rfl (cQ ed (cQ (g7 (i:=1) (show List.Nodup (["power", "more"]:cE) from by decide +kernel) rfl (Or.inl rfl) (Or.inr rfl)) fm)))) (λ _ _ _ _=>eD)
     (λ _ _ _ _=>(cK (Bm rfl) T.xK xG (ak (aa 0) (ak (aa 1) aC))))) aC)) aC)))))))
   (a5 (bJ (aa 2))))),?_⟩
  refine ⟨dG,λ b5 H1 f1 s1 I=>?_⟩;refine ⟨_,rfl,b,xs,ai,rfl,s1 _ _ af,hf.same s1,Dj,λ c3 ay us f2 s2 fU r0=>?_⟩;have D8:=s2 _ _ I;have TX:c3≠b5:=λ z=>by rw [z,I] at f2;cases f2
  have wl:=Oh ai;have fK:=Oh bp;have ul:=r0.1;refine ⟨c3,rfl,⟨_,aQ.of fU⟩,?_⟩;refine rH (K:=K) (a:=c3) (xs:=us) (λ i σ aM=>(∃ u v:cq,σ=[some (.ref b),some (.ref c),some (.ref b5),u,v])/\b6 b5 ay aM /\ ∃ zs,aM b5=some (.lst zs)/\dX aM zs (my ((gZ ai).take i) (gZ bp))) ⟨⟨none,none,rfl⟩,b6.refl _ _,[],D8,dX.nil⟩ (λ i σ aM _ ⟨_,fz,_⟩=>aQ.of (fz _ _ TX fU)) ?_ ?_
  ·rintro i x σ aM ae ⟨⟨u,v,rfl⟩,fz,zs,Af,o8⟩;obtain ⟨fa,w3,Ik,rfl,Tu⟩:=r0.2 i x ae;obtain ⟨Ut,afF⟩:=vw (cf w3);have e9 : ∀ {q:Addr} {ws:bB},ay q=some (.tup ws)->aM q=some (.tup ws):=λ h=>fz _ _ (gY h D8 nofun) h
   have hG:=e9 (s2 _ _ (s1 _ _ aj));have jd:ei aM ys bp:=((aR.same s1).same s2).but D8 fz;refine ⟨_,rfl,c,ys,bp,rfl,hG,jd,Dk,λ dO aO DR f4 s4 dQ vW=>?_⟩;have Kh:=s4 _ _ Af;have TU:dO≠b5:=λ z=>by rw [z,Af] at f4;cases f4
   have Km:=s4 _ _ (e9 Tu);have afD:=vW.1;have gU:=o8.1;rw [aa2,ff] at gU;have ou:i<=16:=by
    have:=(cL.mp w3).1;have:=hf.1;omega
   have afR:zs.length<=16 * 17:=by
    rw [gU];have:=aR.1;exact u4 .ab .ab
   refine ⟨dO,rfl,⟨_,aQ.of dQ⟩,?_⟩;refine rH (K:=K) (a:=dO) (xs:=DR) (λ j σ bj=>(∃ v:cq,σ=[some (.ref b),some (.ref c),some (.ref b5),some (.ref Ik),v])/\b6 b5 aO bj /\ ∃ pW,bj b5=some (.lst pW)/\dX bj pW (my ((gZ ai).take i) (gZ bp)++((gZ bp).take j).map (lB fa))) ⟨⟨_,rfl⟩,b6.refl _ _,zs,Kh,by rw [List.take_zero,List.map_nil,mx];exact o8.same s4⟩ (λ j σ bj _ ⟨_,d8,_⟩=>aQ.of (d8 _ _ TU dQ)) ?_ ?_
   ·rintro j y σ bj a8 ⟨⟨iL,rfl⟩,d8,pW,Ag,wK⟩;obtain ⟨l3,Dv,Ij,rfl,Ju⟩:=vW.2 j y a8;obtain ⟨v10,afC⟩:=vw (cf Dv);have ib : ∀ {q:Addr} {ws:bB},aO q=some (.tup ws)->bj q=some (.tup ws):=λ h=>d8 _ _ (gY h Kh nofun) h
    have zB:j<=16:=by
     have:=(cL.mp Dv).1;have:=aR.1;omega
    have Vr:=wK.1;rw [cJ,a6,ff,<-o8.1] at Vr;refine ⟨_,rfl,.inl ⟨rfl,_,aQ.of Ag⟩,_,rfl,_,rfl,Ik,Ij,rfl,⟨_,aP.of (ib Km)⟩,⟨_,aP.of (ib Ju)⟩,λ D aT=>?_⟩;refine yM (f:=imax) (σ0:=[]) (xs:=fa) (ys:=l3) (by rw [Ut,v10];decide) ⟨_,_,rfl⟩ aT (ib Km) (ib Ju) (λ x y H' R _ _ r=>⟨_,rfl,_,rfl,_,_,rfl,r⟩) λ cY bI g9=>?_
    refine ⟨D,_,rfl,aQ.of g9,λ t ek QF dA aW=>?_⟩;have D9:=dA _ _ (bI _ _ Ag);refine ⟨b5,pW,_,rfl,rfl,D9,by rw [cW];omega,λ k_ BX Vg=>⟨⟨_,rfl⟩,(d8.trans (b6.of (bI.trans dA))).trans BX,_,Vg,?_⟩⟩;rw [eC,Dv,ej,<-lI];exact ((((wK.same bI).same dA).but D9 BX).app (dX.one ⟨t,rfl,BX _ _ (gY aW D9 nofun) aW⟩))
   ·rintro σ bj ⟨⟨iL,rfl⟩,d8,pW,Ag,wK⟩;refine ⟨⟨_,_,rfl⟩,(fz.trans (b6.of s4)).trans d8,pW,Ag,?_⟩;rw [vW.1,kn] at wK;have e:my ((gZ ai).take (i+1)) (gZ bp)=my ((gZ ai).take i) (gZ bp)++(gZ bp).map (lB fa):=by
     rw [eC,w3];unfold my;rw [List.flatMap_append];simp
    rw [e];exact wK
  ·rintro σ aM ⟨⟨u,v,rfl⟩,fz,zs,Af,o8⟩;rw [r0.1,kn] at o8;refine ⟨_,rfl,q b5 aM zs f1 (λ d o e=>fz d o (bT e f1) (s2 _ _ (s1 _ _ e))) Af o8⟩
noncomputable def aen:b9:=λ ag H Q _ => ∃ (l b:Addr) (ys:bB) (R:aZ) (ps:aw),ag=[.ref l,.ref b]/\H l=some (.lst ys)/\dX H ys R/\H b=some (tupI ps) /\ ∀ v H',aB H H'->uC H' v (hZ R ps)->Q v H'
theorem P8 (T:cv K ax):cz P w ax base b_ 3 T.P0 aen:=by
 refine T.P0.fn.cA P_ (λ ag H Q E h=>?_) (λ bt A outer s H ag Q E av h=>?_)
 ·obtain ⟨l,b,ys,R,ps,rfl,_⟩:=h;rfl
 ·obtain ⟨l,b,ys,R,ps,rfl,ar,b4,af,q⟩:=h;refine ⟨_,(aV (bP 2 P_ (bf (tK T) av bb (ak (aa 0) (ak (aa 1) aC))))
   (a5 (bJ (F6 (c6 rm (aa 2) gG (cB _)) gG (cP f3 (aa 0) (aa 2) (λ _ _=>rfl)))))),?_⟩
  refine ⟨_,rfl,_,rfl,l,b,ys,R,ps,rfl,ar,b4,af,λ H1 s1=>?_⟩;refine ⟨_,rfl,rfl,_,rfl,?_⟩;cases hN:dm R ps with
  | none=>exact ea (q _ H1 s1 (.inl ⟨rfl,by unfold hZ;rw [hN];rfl⟩))
  | some k =>
   obtain ⟨c,aj,_,aE⟩:=mG hN;obtain ⟨y,a8,a,rfl,au⟩ : ∃ y,ys[k]?=some y/\uD H y c:=by
    have Jb:k<ys.length:=by rw [b4.1];exact aE
    obtain ⟨bG,I,ah⟩:=b4.2 k _ (bz Jb);rw [aj] at I;cases I;exact ⟨_,bz Jb,ah⟩
   refine dn ⟨_,rfl,_,rfl,l,_,_,_,rfl,rfl,aQ.of (s1 _ _ ar),h5 (lK k) (by rw [dY];exact a8),q _ H1 s1 (.inr ⟨a,c,rfl,?_,s1 _ _ au⟩)⟩;unfold hZ;rw [hN];show some (R.getD k [])=some c;rw [vg aj]
noncomputable def ady:b9:=λ ag H Q _ => ∃ (b c:Addr) (xs ys:bB) (ai bp:cx),ag=[.ref b,.ref c]/\H b=some (.tup xs)/\ei H xs ai/\xs.length<=16/\H c=some (.tup ys)/\ei H ys bp/\ys.length<=16 /\
 (Alike ai bp -> ∀ H',aB H H'->Q .cV H')/\(∀ p,p.length=10->nn p=true->hZ (rowsOf ai) p≠hZ (rowsOf bp) p -> ∀ a H',aB H H'->H' a=some (tupI p)->Q (.ref a) H')
theorem adf (T:cv K ax):cz P w ax base b_ 5 T.OU ady:=by
 refine T.OU.fn.cA BD (λ ag H Q E h=>?_) (λ bt A outer s H ag Q E av h=>?_)
 ·obtain ⟨b,c,xs,ys,ai,bp,rfl,_⟩:=h;rfl
 ·obtain ⟨b,c,xs,ys,ai,bp,rfl,af,hf,Dj,aj,aR,Dk,ba,cm⟩:=h;refine ⟨_,(aV (bP 2 BD (bf (lU T) av bb (ak (aa 0) aC)))
   (aV (bP 3 BD (bf (lU T) av bb (ak (aa 1) aC)))
   (aV (eB dZ rfl (hA (bf (aef T) av bb (ak (aa 0) (ak (aa 1) aC)))) (c_ 4 BD)
    (a5 (dJ (c6 (Xa (mn av)) (bf (P8 T) av bb (ak (aa 2) (ak (aa 4) aC))) (bf (P8 T) av bb (ak (aa 3) (ak (aa 4) aC))) (cB _))
    (a5 (bJ (aa 4)))
    dM)))
   (a5 (bJ gG))))),?_⟩
  refine ⟨_,rfl,b,xs,ai,rfl,af,hf,.ab,λ c3 H1 us f1 s1 fU r0=>?_⟩;refine ⟨_,rfl,c,ys,bp,rfl,s1 _ _ aj,aR.same s1,.ab,λ dO ay DR f2 s2 dQ vW=>?_⟩;have hh:=s1.trans s2;refine ⟨_,rfl,_,rfl,b,c,xs,ys,ai,bp,rfl,hh _ _ af,hf.same hh,Dj,hh _ _ aj,aR.same hh,Dk,λ iG aM zs e8 s3 gb o8=>?_⟩;have m6:=hh.trans s3;refine ⟨iG,rfl,⟨_,aQ.of gb⟩,?_⟩;refine rH (K:=K) (a:=iG) (xs:=zs) (λ i σ aO=>(∃ u:cq,σ=[some (.ref b),some (.ref c),some (.ref c3),some (.ref dO),u])/\aB aM aO /\ ∀ j,j<i -> ∀ p,(my (gZ ai) (gZ bp))[j]?=some p->hZ (rowsOf ai) p=hZ (rowsOf bp) p) ⟨⟨none,rfl⟩,aB.refl _,λ j aY=>by omega⟩ (λ i σ aO _ ⟨_,s4,_⟩=>aQ.of (s4 _ _ gb)) ?_ ?_
  ·rintro i x σ aO ae ⟨⟨u,rfl⟩,s4,gf⟩;obtain ⟨p,ao,a,rfl,au⟩:=o8.2 i x ae;obtain ⟨qZ,DL⟩:=aa1 (cf ao);have JM:=s3.trans s4;have m7:=s2.trans JM;refine ⟨_,rfl,_,rfl,c3,a,us,rowsOf ai,p,rfl,m7 _ _ fU,r0.same m7,s4 _ _ au,λ v1 bj s5 QR=>?_⟩;have JN:=JM.trans s5;refine ⟨_,rfl,_,rfl,dO,a,DR,rowsOf bp,p,rfl,JN _ _ dQ,vW.same JN,s5 _ _ (s4 _ _ au),λ v2 cY bI QS=>?_⟩;refine ⟨_,_,QR.same bI,QS,_,rfl,?_⟩;by_cases e:hZ (rowsOf ai) p=hZ (rowsOf bp) p
   ·rw [cX e];refine dn ⟨⟨_,rfl⟩,(s4.trans s5).trans bI,λ j aY dV dR=>?_⟩;by_cases sA:j=i
    ·subst sA;rw [ao] at dR;cases dR;exact e
    ·exact gf j .ab dV dR
   ·rw [ee e];exact ea ⟨_,rfl,cm p qZ DL e a cY ((m6.trans s4).trans (s5.trans bI)) (bI _ _ (s5 _ _ (s4 _ _ au)))⟩
  ·rintro σ aO ⟨⟨u,rfl⟩,s4,gf⟩;refine ba (ad3 hf.D2 aR.D2 λ p ao=>?_) aO (m6.trans s4);obtain ⟨j,aY⟩:=gk ao;exact gf j (by rw [o8.1];exact (cL.mp aY).1) p aY
noncomputable def adW:b9:=λ ag H Q _ => ∃ (b:Addr) (es:aw),ag=[.ref b]/\H b=some (.lst (es.map V.int))/\es.length=10/\(∀ e∈es,0<=e/\e<2 ^ 62) /\ ∀ H',aB H H'->Q (.int (prod (es.map Int.toNat):Nat)) H'
theorem PI (T:cv K ax):cz P w ax base b_ 2 T.Bw adW:=by
 refine T.Bw.fn.cA mI (λ ag H Q E h=>?_) (λ bt A outer s H ag Q E av h=>?_)
 ·obtain ⟨b,es,rfl,_⟩:=h;rfl
 ·obtain ⟨b,es,rfl,af,he,hm,q⟩:=h;refine ⟨_,(aV (bP 1 mI aX)
   (aV (eB dZ rfl (Mn rfl rfl T.ki (ak (LB (O3 T) av bb) (ak (aa 0) aC))) (km rfl (cQ (c_ 2 mI) (cQ (c_ 3 mI) fm)))
    (a5 (eB dZ rfl (iz rfl T.hR (ak (aa 3) aC)) (c_ 4 mI)
    (a5 (bP 1 mI (bZ rn (aa 1) (aa 2)))))))
   (a5 (bJ (aa 1))))),?_⟩
  refine ⟨rfl,λ t aW=>⟨_,rfl,t,b,rfl,⟨_,aP.of bK⟩,⟨_,aQ.of ((aB.new aW) _ _ af)⟩,?_⟩⟩;have fu:hj.length=10:=rfl;have C9:(es.map V.int).length=10:=by rw [a6];exact he
  refine Zw (xs:=hj) (ys:=es.map V.int) (λ i σ ay=>(∃ u v x:cq,σ=[some (.ref b),some (.int (hQ (dK.take i) ((es.map Int.toNat).take i):Nat)),u,v,x])/\aB (upd H t (.tup hj)) ay) ⟨⟨none,none,none,rfl⟩,aB.refl _⟩ ?_ ?_ ?_
  ·rintro i σ ay aq ⟨_,s2⟩;exact ⟨aP.of (s2 _ _ bK),aQ.of (s2 _ _ ((aB.new aW) _ _ af))⟩
  ·rintro i x y z σ ay ae a8 aS ⟨⟨u,v,kC,rfl⟩,s2⟩;obtain ⟨p,rfl,ao,xy⟩:=tL ae;obtain ⟨e,rfl,su⟩:=iA a8;obtain ⟨cH,aJ⟩:=hm e (cf su);refine ⟨z,_,rfl,aP.of bK,rfl,_,_,rfl,_,_,rfl,rfl,?_⟩;refine ⟨_,rfl,e,rfl,.ab,aJ,jv (n:=e.toNat) (λ j σ aM=>(∃ x:cq,σ=[some (.ref b),some (.int ((hQ (dK.take i) ((es.map Int.toNat).take i) * p ^ j:Nat):Int)),some (.int p),some (.int e),x])/\aB (upd H t (.tup hj)) aM) ⟨⟨kC,by rw [ti,Nat.mul_one];rfl⟩,aB.more s2 aS⟩ ?_ ?_⟩
   ·rintro j σ aM aY ⟨⟨fS,rfl⟩,s3⟩;refine ⟨_,rfl,_,rfl,_,_,rfl,rfl,.inr ⟨.ab,.ab⟩,⟨some (.int (0+(j:Int))),?_⟩,s3⟩;rw [nF,<-ru,Int.natCast_mul _ p];rfl
   ·rintro σ aM ⟨⟨fS,rfl⟩,s3⟩;refine ⟨⟨some (.int p),some (.int e),fS,?_⟩,s3⟩;have D5:(es.map Int.toNat)[i]?=some e.toNat:=by rw [c9,su];rfl
    rw [GS dK (es.map Int.toNat) i p e.toNat ao D5]
  ·rintro σ ay ⟨⟨u,v,x,rfl⟩,s2⟩;have aN:min hj.length (es.map V.int).length=10:=by rw [fu,C9];rfl
   refine ⟨_,rfl,?_⟩;rw [aN];have fi:dK.take 10=dK:=rfl;have eV:(es.map Int.toNat).take 10=es.map Int.toNat:=fG (by rw [a6,he];exact br _);rw [fi,eV];exact q ay ((aB.new aW).trans s2)
theorem aa7:oK ns (List.replicate 10 0):=λ k _=>by rw [bk,xY];split<;>rfl
theorem ZP {s t:aw} (aF:s.length=10) (aW:t.length=10) (h:oK ns s) (h':oK ns t):oK ns (List.zipWith (λ x y:Int=>x - y) s t):=λ k aE=>by
 have aJ:=h k aE;have aN:=h' k aE;rw [bk] at aJ aN ⊢;by_cases Kg:k<10
 ·rw [bz .ab] at aJ aN;rw [bz (by rw [k4,aF,aW];omega),List.getElem_zipWith];show s[k] - t[k]=0;have f1:s[k]=0:=aJ;have f2:t[k]=0:=aN;omega
 ·rw [g6 (by rw [k4,aF,aW];omega)];rfl
noncomputable def VR (ns:aw) (H:aA) (z:V):Prop := ∃ (l:Addr) (s:aw),z=.ref l/\H l=some (.lst (s.map V.int))/\s.length=10/\(∀ e∈s,0<=e)/\(ups s).sum<=2/\oK ns s
theorem aes (T:cv K ax):cz P w ax base b_ 5 T.P5 Py:=by
 refine T.P5.fn.cA lV (λ ag H Q E h=>?_) (λ bt A outer s H ag Q E av h=>?_)
 ·obtain ⟨a,b,n,most,ns,rfl,_⟩:=h;rfl
 ·obtain ⟨a,b,n,most,ns,rfl,au,af,zF,uk,hm,gy,jT,q⟩:=h;refine ⟨_,(aV (bP 3 lV (bf (adb T) av bb (ak (aa 0) (ak (aa 1) (ak (aa 2) aC)))))
   (aV (dJ (c6 h1 (bf (rN T) av bb (ak (aa 0) (ak aX aC))) aX (cB _))
    (a5 (bJ (aa 3)))
    dM)
   (aV (bP 4 lV (jK aC))
   (aV (eB dZ rfl (iz rfl T.hR (ak (bZ eR aX (bf (rN T) av bb (ak (aa 0) (ak (aa 2) aC)))) aC)) (c_ 5 lV)
    (aV (bP 6 lV (jK aC))
   (aV (eB dZ rfl (iz rfl T.hR (ak aX aC)) (c_ 7 lV)
    (aV (bP 8 lV (bZ vo (jK (ak aX aC)) aX))
   (aV (eB dZ rfl (iz rfl T.hR (ak (bZ eR aX (bf (rN T) av bb (ak (aa 0) (ak aX aC)))) aC)) (c_ 9 lV)
    (a5 (YR (aa 8) (cP fP (aa 1) (bf (rN T) av bb (ak (aa 0) (ak (cK ew T.ec eb (ak (aa 1) aC)) aC))) (λ _ _=>rfl)) aX)))
   (a5 (lP (lC lL oX oY oZ (aa 6) (ak (aa 8) aC)))))))
   (aV (vj (i:=10) lV.eM rfl (Or.inl rfl) (dC lV (N:=["one", "other"]) (js:=[none,none]) (d3 _)) rfl (yi rfl rfl T.ki (ak (cP f3 (aa 6) aX (λ _ _=>rfl)) (ak (cP f3 (aa 6) aX (λ _ _=>rfl)) aC))) (λ _ _ _ _=>(i1 (K:=K) (n:=2) rfl rfl (cQ ed (cQ (g7 (i:=1) (show List.Nodup (["one", "other"]:cE) from by decide +kernel) rfl (Or.inl rfl) (Or.inr rfl)) fm)))) (λ _ _ _ _=>eD)
     (λ _ _ _ _=>(cK (Gj rfl) T.xM xH (ak (aa 0) (ak (aa 1) aC)))))
   (aV (bP 11 lV (bf (PI T) av bb (ak (fx (dC lV (N:=["one", "other"]) (js:=[none,none]) (d3 _)) rfl (yi rfl rfl T.ki (ak (cP f3 (aa 6) aX (λ _ _=>rfl)) (ak (aa 10) aC))) (λ _ _ _ _=>(i1 (K:=K) (n:=2) rfl rfl (cQ ed (cQ (g7 (i:=1) (show List.Nodup (["one", "other"]:cE) from by decide +kernel) rfl (Or.inl rfl) (Or.inr rfl)) fm)))) (λ _ _ _ _=>eD)
     (λ _ _ _ _=>(bZ nz (aa 0) (aa 1)))) aC)))
   (a5 (lP (lC lL oX oY oZ (aa 4) (ak (hk (ak (aa 11) (ak (bf (PI T) av bb (ak (fx (dC lV (N:=["one", "other"]) (js:=[none,none]) (d3 _)) rfl (yi rfl rfl T.ki (ak (cP f3 (aa 6) aX (λ _ _=>rfl)) (ak (aa 10) aC))) (λ _ _ _ _=>(i1 (K:=K) (n:=2) rfl rfl (cQ ed (cQ (g7 (i:=1) (show List.Nodup (["one", "other"]:cE) from by decide +kernel) rfl (Or.inl rfl) (Or.inr rfl)) fm)))) (λ _ _ _ _=>eD)
     (λ _ _ _ _=>(bZ nz (aa 0) (aa 1)))) aC)) aC))) aC)))))))))
   (a5 (bJ (iu mJ T.h7 h6 (ak (aa 4) aC)))))))),?_⟩
  have j8:b≠a:=gY af au nofun;refine ⟨_,rfl,_,rfl,_,rfl,a,b,n,most,ns,rfl,au,af,zF,uk,hm,gy,jT,λ p H1 dr xs d7 C1 jC eh qM kO=>?_⟩;refine ⟨_,rfl,a,dr,3,rfl,C1,.aG,.aG,λ r d0 ay Ib t2 ef hF=>⟨rfl,_,rfl,hx (λ h=>?_) (λ h=>?_)⟩⟩
  ·exact ⟨_,rfl,q p ay d0 xs (d7.trans ef) hF (ef _ _ (gY jC C1 nofun) jC) eh qM λ x ae=>qc.hP a dr (kO x ae) C1 ef⟩
  refine ⟨dG,λ f9 aM e8 s3 Vi=>?_⟩;have fz:b6 a H aM:=(d7.trans ef).trans (b6.of s3);have Rl:H f9=none:=(d7.trans ef).VZ hF e8;have Am:f9≠a:=λ z=>by rw [z,hF] at e8;cases e8
  refine ⟨_,rfl,_,rfl,a,d0,most,rfl,s3 _ _ hF,.ab,.ab,λ bU hU aO afs afx gK kN=>⟨_,_,rfl,rfl,_,rfl,.ab,.ab,?_⟩⟩;refine jv (n:=(1+bU).toNat) (λ i σ bj => ∃ (ib:Int) (ys:bB) (t5 Co qK u8 Cp xl xm:cq),σ=[some (.ref a),some (.ref b),some (.int most),some (.ref p),some (.ref f9),t5,Co,qK,u8,Cp,xl,xm]/\b6 a H bj/\bj a=some (.lst [.int ib])/\bj f9=some (.lst ys)/\ys.length=i /\ ∀ y∈ys,qc ns bj y)
   ⟨hU,[],none,none,none,none,none,none,none,rfl,fz.trans gK,kN,gK _ _ Am Vi,rfl,λ y a8=>absurd a8 .zs⟩ ?_ ?_
  ·rintro i σ bj aq ⟨ib,ys,t5,Co,qK,u8,Cp,xl,xm,rfl,d8,oi,xB,eW,Df⟩;refine ⟨dG,λ kA cY hC bI Ai=>?_⟩;have Eh:kA≠a:=λ z=>by rw [z,oi] at hC;cases hC
   have VA:f9≠kA:=λ z=>by rw [<-z,xB] at hC;cases hC
   refine ⟨2,rfl,.aG,.aG,jv (n:=2) (λ j σ ek => ∃ (mR:Int) (zs:bB) (Cs Ct Cu:cq),σ=[some (.ref a),some (.ref b),some (.int most),some (.ref p),some (.ref f9),some (.int (0+(i:Int))),some (.ref kA),Cs,Ct,Cu,xl,xm]/\DU a kA cY ek/\ek a=some (.lst [.int mR])/\ek kA=some (.lst zs)/\zs.length=j /\ ∀ z∈zs,VR ns ek z)
    ⟨ib,[],_,_,_,rfl,λ c o _ _ e=>e,bI _ _ oi,Ai,rfl,λ y a8=>absurd a8 .zs⟩ ?_ ?_⟩
   ·rintro j σ ek aY ⟨mR,zs,Cs,Ct,Cu,rfl,ho,wL,q_,gU,zN⟩;refine ⟨dG,λ iF k_ f8 e1 n1=>⟨iF,10,_,rfl,rfl,n1,.aG,.aG,.aG,λ ln tP QG iI vV=>?_⟩⟩;have zY:=e1.trans iI;have wz:ek ln=none:=e1.free QG;have Eg:ln≠a:=λ z=>by rw [z,wL] at wz;cases wz
    have Kr:ln≠kA:=λ z=>by rw [z,q_] at wz;cases wz
    refine ⟨_,rfl,a,mR,2,rfl,zY _ _ wL,.aG,.aG,λ cu TO zf aft afu gA UU=>⟨_,_,rfl,rfl,_,rfl,.ab,.ab,?_⟩⟩;have Ex:zf ln=some (.lst ((List.replicate 10 (0:Int)).map V.int)):=gA _ _ Eg vV;have Ke:zf b=some (.tup (ns.map V.int)):=by
     refine gA _ _ j8 (zY _ _ (ho _ _ j8 ?_ (bI _ _ (d8 _ _ j8 af))));exact λ z=>by rw [<-z] at Ai;rw [bI _ _ (d8 _ _ j8 af)] at Ai;cases Ai
    refine jv (n:=(1+cu).toNat) (λ t σ r6 => ∃ (w7:Int) (es:aw) (Cw:cq),σ=[some (.ref a),some (.ref b),some (.int most),some (.ref p),some (.ref f9),some (.int (0+(i:Int))),some (.ref kA),some (.int (0+(j:Int))),some (.ref ln),Cw,xl,xm]/\DU a ln zf r6/\r6 a=some (.lst [.int w7])/\r6 ln=some (.lst (es.map V.int))/\es.length=10/\(∀ e∈es,0<=e)/\(ups es).sum<=t/\oK ns es)
     ⟨TO,List.replicate 10 0,_,rfl,λ c o _ _ e=>e,UU,Ex,rfl,.aG,.aG,aa7⟩ ?_ ?_
    ·rintro t σ r6 aW ⟨w7,es,Cw,rfl,wq,D3,Ey,ot,zy,SO,oq⟩;have zT:b≠ln:=λ z=>by rw [<-z,Ke] at Ex;cases Ex
     have Kf:=wq _ _ j8 zT Ke;refine ⟨_,rfl,_,rfl,_,rfl,_,rfl,b,_,rfl,.inr (aP.of Kf),a,w7,_,rfl,D3,by rw [a6];omega,by rw [a6];omega,λ fq TP Ir JH T_ sd UW=>?_⟩;rw [a6] at T_;have j5:fq.toNat<ns.length:=by omega
     obtain ⟨DK,afr⟩:=hm _ (g5 j5);have UY:=sd _ _ j8 Kf;have KU:=sd _ _ Eg Ey;have sG:(ns[fq.toNat]).toNat<es.length:=by omega
     have xw:(es.map V.int)[(ns[fq.toNat]).toNat]?=some (.int es[(ns[fq.toNat]).toNat]):=by rw [c9,bz sG];rfl
     refine ⟨b,_,_,.int ns[fq.toNat],rfl,rfl,aP.of UY,h5 JH (by rw [c9,bz j5];rfl),?_⟩;refine ⟨ln,_,_,_,rfl,rfl,KU,DK,xw,_,_,rfl,rfl,ln,_,_,_,rfl,rfl,KU,qd DK (by rw [a6];omega),?_⟩;refine ⟨TP,es.set (ns[fq.toNat]).toNat (es[(ns[fq.toNat]).toNat]+1),_,rfl,?_,?_,?_,?_,?_,?_,F1 oq DK (g5 j5)⟩
     ·intro c o na nl e;rw [bw nl];exact sd _ _ na (wq _ _ na nl e)
     ·rw [bw Eg.symm];exact UW
     ·rw [bK,k3]
     ·rw [jI];exact ot
     ·intro e he;rcases rE he with z | z
      ·exact zy e z
      ·have:=zy _ (g5 sG);omega
     ·have:=LI (bz sG);omega
    ·rintro σ r6 ⟨w7,es,Cw,rfl,wq,D3,Ey,ot,zy,SO,oq⟩;have KW:r6 kA=some (.lst zs):=wq _ _ Eh Kr.symm (gA _ _ Eh (zY _ _ q_));refine ⟨_,rfl,.inl ⟨rfl,_,aQ.of KW⟩,_,rfl,kA,_,_,rfl,rfl,KW,by rw [cW];omega,λ Ir sd CS=>?_⟩;have keep : ∀ c o,c≠a->c≠kA->ek c=some o->Ir c=some o:=λ c o na eM e =>
      sd _ _ eM (wq _ _ na (λ z=>by rw [z,wz] at e;cases e) (gA _ _ na (zY _ _ e)))
     refine ⟨w7,zs++[.ref ln],_,_,_,rfl,λ c o na eM e=>keep c o na eM (ho c o na eM e),sd _ _ Eh.symm D3,CS,by rw [cJ,gU];rfl,λ z aS=>?_⟩;rcases iX.mp aS with fh | fh
     ·obtain ⟨l,s',rfl,ar,r⟩:=zN z fh;refine ⟨l,s',rfl,keep l _ ?_ ?_ ar,r⟩
      ·intro y;rw [y,wL] at ar;have ie:=r.1;have:(s'.map V.int).length=1:=by injection ar with z;injection z with z;rw [<-z];rfl
       rw [a6] at this;omega
      ·intro y;rw [y,q_] at ar;have ie:=r.1;have:(s'.map V.int).length=zs.length:=by injection ar with z;injection z with z;rw [<-z]
       rw [a6,gU] at this;omega
     ·rw [ix] at fh;subst fh;exact ⟨ln,es,rfl,sd _ _ Kr Ey,ot,zy,.ab,oq⟩
   ·rintro σ ek ⟨mR,zs,Cs,Ct,Cu,rfl,ho,wL,q_,gU,zN⟩
    match zs,gU with
    | [hb,fi],_ =>
     obtain ⟨iF,t0,rfl,m1,uJ,Uj,Ul,Uk⟩:=zN hb .zs;obtain ⟨c3,t1,rfl,fU,uK,Um,Uo,Un⟩:=zN fi .zs;have zD:(List.zipWith iQ t0 t1).length=10:=by rw [k4,uJ,uK];rfl
     refine ⟨_,rfl,kA,_,_,_,rfl,rfl,aQ.of q_,rfl,_,rfl,kA,_,_,_,rfl,rfl,aQ.of q_,rfl,iF,c3,_,_,rfl,m1,fU,λ D aT=>?_⟩;refine Hz (K:=K) (f:=iQ) (σ0:=[]) (xs:=t0) (ys:=t1) (by rw [uJ,uK,cW];decide) ⟨_,_,rfl⟩ aT m1 fU (λ x y H' R _ _ r=>⟨_,rfl,_,rfl,_,_,rfl,r⟩) λ k_ e1 n1=>?_
     refine ⟨_,rfl,kA,_,_,_,rfl,rfl,aQ.of (e1 _ _ q_),rfl,_,rfl,iF,D,_,_,rfl,e1 _ _ m1,n1,λ h8 dj=>?_⟩;refine Hz (K:=K) (f:=jj) (σ0:=[]) (xs:=t0) (ys:=List.zipWith iQ t0 t1) (by rw [uJ,zD,cW];decide) ⟨_,_,rfl⟩ dj (e1 _ _ m1) n1 (λ x y H' R _ _ r=>⟨_,rfl,_,rfl,_,_,rfl,rfl,r⟩) λ tP iI vV=>?_
     have Ig:=et (Mu t0 t1 Um) Ul;have JP:=et (NT t0 t1 Uj) Uo;refine ⟨h8,_,rfl,vV,by rw [k4,uJ,zD];rfl,Lg (λ e he=>WL he) (by rw [Ep];exact Ig) .aG,λ yU n6=>?_⟩;have xi:=(e1.trans iI).trans n6;have afS:f9≠a:=Am;have D_:ek f9=some (.lst ys):=ho _ _ Am VA (bI _ _ xB);refine ⟨_,rfl,.inl ⟨rfl,_,aQ.of (xi _ _ D_)⟩,_,rfl,_,rfl,kA,_,_,_,rfl,rfl,aQ.of (xi _ _ q_),rfl,_,rfl,c3,D,_,_,rfl,xi _ _ fU,n6 _ _ (iI _ _ n1),λ jN gr=>?_⟩;refine Hz (K:=K) (f:=jj) (σ0:=[]) (xs:=t1) (ys:=List.zipWith iQ t0 t1) (by rw [uK,zD,cW];decide) ⟨_,_,rfl⟩ gr (xi _ _ fU) (n6 _ _ (iI _ _ n1)) (λ x y H' R _ _ r=>⟨_,rfl,_,rfl,_,_,rfl,rfl,r⟩) λ tQ sB cC=>?_
     refine ⟨jN,_,rfl,cC,by rw [k4,uK,zD];rfl,Lg (λ e he=>WM he) (by rw [Er];exact JP) .aG,λ gI v8=>?_⟩;have Ug:=(xi.trans sB).trans v8;refine ⟨dG,λ i9 aeD HZ n7 b7=>?_⟩;have zZ:=Ug.trans n7;refine ⟨f9,ys,_,rfl,rfl,zZ _ _ D_,by rw [cW];omega,λ Ql BY n2=>?_⟩;rw [Ep,Er] at b7;have keep : ∀ c o,c≠a->c≠f9->bj c=some o->Ql c=some o:=λ c o na nm e =>
      BY _ _ nm (zZ _ _ (ho _ _ na (λ z=>by rw [z,hC] at e;cases e) (bI _ _ e)))
     refine ⟨mR,ys++[.ref i9],_,_,_,_,_,_,_,rfl,λ c o na e=>keep c o na (λ z=>by rw [z,Rl] at e;cases e) (d8 c o na e),BY _ _ Am.symm (zZ _ _ wL),n2,by rw [cJ,eW];rfl,λ y a8=>?_⟩;rcases iX.mp a8 with fh | fh
     ·obtain ⟨c,kv,hp,rfl,aj,f⟩:=Df y fh;exact ⟨c,kv,hp,rfl,keep _ _ (gY aj oi nofun) (gY aj xB nofun) aj,f⟩
     ·rw [ix] at fh;subst fh;exact ⟨i9,_,_,rfl,BY _ _ (gY b7 (zZ _ _ D_) nofun) b7,⟨List.zipWith jj t0 t1,by rw [k4,uJ,uK];rfl,et Ig .aG,et JP .aG,ZP uJ uK Uk Un,rfl,rfl⟩⟩
  ·rintro σ bj ⟨ib,ys,t5,Co,qK,u8,Cp,xl,xm,rfl,d8,oi,xB,eW,Df⟩;refine ⟨_,rfl,f9,ys,rfl,aQ.of xB,λ dV cY hC bI g9=>?_⟩;refine q dV cY ib ys (d8.trans (b6.of bI)) (bI _ _ oi) g9 (by rw [eW];omega) (by rw [eW];omega) λ x ae=>?_
   obtain ⟨c,kv,hp,rfl,aj,f⟩:=Df x ae;exact ⟨c,kv,hp,rfl,bI _ _ aj,f⟩
noncomputable def adz:b9:=λ ag H Q _ => ∃ (a b:Addr) (r p:aw) (m n:Nat),ag=[.ref a,.ref b]/\H a=some (tupI r)/\H b=some (tupI p)/\r.length<=1000/\dy m r/\dy n p/\m<=20000/\n<=20000 /\ ∀ H',aB H H'->Q (.int (bc r p)) H'
theorem adg (T:cv K ax):cz P w ax base b_ 3 T.OV adz:=by
 refine T.OV.fn.cA adl (λ ag H Q E h=>?_) (λ bt A outer s H ag Q E av h=>?_)
 ·obtain ⟨a,b,r,p,m,n,rfl,_⟩:=h;rfl
 ·obtain ⟨a,b,r,p,m,n,rfl,au,af,ar,dE,ao,hm,az,q⟩:=h;refine ⟨_,(a5 (bJ (bf (rM T) av bb (ak (aa 0) (ak (aa 1) aC))))),?_⟩;exact ⟨_,rfl,_,rfl,a,b,r,p,m,n,rfl,au,af,ar,dE,ao,hm,az,q⟩
theorem Lo (cC : ∀ c∈R,dy 6 c) {p:aw} {M:Int} (jS : ∀ x∈p,x<=M) : ∀ {k:Nat} {q:aw},goN R k p=some q -> ∀ x∈q,x<=M+64 * (k:Int)
 | 0,q,h,x,ae=>by
  cases h;have:=jS x ae;omega
 | k+1,q,h,x,ae=>by
  have h':(goN R k p).bind (ey R)=some q:=h;obtain ⟨m,hm,aK⟩:=u6.mp h';obtain ⟨i,c,_,aj,_,rfl⟩:=vt aK;unfold c7 at ae;obtain ⟨j,aY⟩:=gk ae;rw [gH] at aY;obtain ⟨a,b,au,af,rfl⟩:=aY;have I:=Lo cC jS hm a (cf au);have ah:b.natAbs<=64:=cC c (cf aj) b (cf af);omega
theorem Kb {p:aw} (az:nn p=true) (h : ∀ x∈p,x<=4000):dy 12 p:=λ x ae=>by
 have I:=h x ae;have ah:=iZ.mp az x ae;show x.natAbs<=4096;omega
theorem ZI (rs:List dS):iS rs 0 rs:=λ i _=>by rw [rx]
theorem WQ {ai:cx} (h:ei H xs ai) (aF : ∀ f∈ai,pQ f) : ∀ f∈ai,nK f.1.toNat f.2.toNat=true/\pQ f:=λ f hf=>by
 obtain ⟨k,aE⟩:=gk hf;have ar:k<xs.length:=by rw [h.1];exact (cL.mp aE).1
 obtain ⟨i,j,c,I,_,_,aL⟩:=h.2 k xs[k] (bz ar);rw [aE] at I;cases I;refine ⟨?_,aF _ hf⟩;unfold kU at aL;simp only [h4] at aL;exact aL.2
structure pv (H:aA) (b a:Addr) (xs:bB) (ai:cx) (es:aw):Prop where
 af:H b=some (.tup xs)
 hf:ei H xs ai
 eh:1<=xs.length
 n_:xs.length<=8
 f9 : ∀ f∈ai,pQ f
 au:H a=some (tupI es)
 fA:es.length=10
 he : ∀ x∈es,0<=x/\x<=6
theorem pv.same {b:Addr} {ai:cx} {es:aw} (r:pv H b a xs ai es) (s:aB H H'):pv H' b a xs ai es:=⟨s _ _ r.af,r.hf.same s,r.eh,r.n_,r.f9,s _ _ r.au,r.fA,r.he⟩
noncomputable def Bi:b9:=λ ag H Q _ => ∃ (b a:Addr) (xs:bB) (ai:cx) (es:aw),ag=[.ref b,.ref a]/\pv H b a xs ai es /\ ∀ H',aB H H'->Q (.aH true) H'
theorem pv.nn {b:Addr} {ai:cx} {es:aw} (r:pv H b a xs ai es):nn es=true:=iZ.mpr λ x ae=>(r.he x ae).1
theorem pv.bd {b:Addr} {ai:cx} {es:aw} (r:pv H b a xs ai es):dy 12 es:=Kb r.nn λ x ae=>by have:=(r.he x ae).2;omega
theorem AP {r:aw} (h:H a=some (tupI r)) (ar:r.length<=1000):q4 H (.ref a):=Mw h (by rw [a6];omega) λ x ae=>by
 obtain ⟨i,_,rfl⟩:=dz.mp ae;trivial
theorem Mo {r:aw} (h:H a=some (tupI r)) (af:dy m r) : ∀ bU,nh H (.ref a)=some bU->dy m bU:=λ bU av=>by
 obtain ⟨hn,e,h',_⟩:=Gx av;cases e;rw [h] at h';have I:r.map V.int=bU.map V.int:=by
  injection h' with I;injection I
 rw [<-By I];exact af
theorem aey (T:cv K ax):cz P w ax base b_ 7 T.Qd Bi:=by
 refine T.Qd.fn.cA BL (λ ag H Q E h=>?_) (λ bt A outer s H ag Q E av h=>?_)
 ·obtain ⟨b,a,xs,ai,es,rfl,_⟩:=h;rfl
 ·obtain ⟨b,a,xs,ai,es,rfl,r,q⟩:=h;refine ⟨_,(aV (nA (bf (ab5 T) av bb (ak (aa 0) aC)) (km rfl (cQ (c_ 2 BL) (cQ (c_ 3 BL) fm))))
   (aV (dJ (c6 h1 (aa 2) lF (cB _))
    (a5 (bJ (te (jJ Lw (bf (adK T) av bb (ak (aa 0) (ak (aa 3) aC))) h2 (cB _)) (uY (jJ Lw (bf (PT T) av bb (ak (aa 0) (ak (aa 3) aC))) h2 (cB _))))))
    dM)
   (aV (dJ (c6 Yq (bf (PT T) av bb (ak (aa 0) (ak (aa 3) aC))) h2 (cB _))
    (a5 (bJ h2))
    dM)
   (aV (bP 4 BL (bf (M4 T) av bb (ak (aa 0) (ak (aa 1) (ak aX aC)))))
   (a5 (bJ (jJ Wd (cK ew T.ec eb (ak (aa 4) aC)) (bf (adg T) av bb (ak (aa 3) (ak (aa 1) aC))) (cB _)))))))),?_⟩
  have n_:=r.n_;have gN:=r.hf.1;have dD:rowsOf ai≠[]:=λ z=>by
   have:=h3 List.length z;rw [k7,<-gN] at this;have eh:=r.eh;have:xs.length=0:=this;omega
  refine ⟨_,rfl,b,xs,ai,rfl,r.af,r.hf,r.eh,.ab,λ tt ad ay word DH s2 sJ hX mP=>?_⟩;have pD:dy 92 (er DH):=mP.1.Vv;have cu:=r.same s2;refine ⟨tt,_,rfl,aP.of sJ,rfl,_,_,rfl,_,_,rfl,rfl,?_⟩;rcases mP.2 with ⟨rfl,_⟩ | ⟨rfl,_⟩
  ·refine ⟨_,rfl,rfl,_,rfl,dn ?_⟩;obtain ⟨c3,dO,iG⟩:=acv mP dD;generalize er DH=pj at *;refine ⟨_,rfl,_,rfl,b,.ref ad,xs,ai,92,rfl,cu.af,cu.hf,.ab,AP hX .ab,Mo hX pD,.aG,λ aM s3=>?_⟩;rw [VS hX c3 dO iG];refine ⟨true,true,rfl,rfl,_,rfl,dn ?_⟩;have fq:=cu.same s3;refine ⟨_,rfl,_,rfl,b,a,xs,ai,es,400,rfl,fq.af,fq.hf,.ab,fq.au,r.fA,.aG,.aG,λ l aO _ s4 ar=>?_⟩;have m7:=s3.trans s4;refine ⟨_,rfl,l,_,rfl,.inl (aQ.of ar),_,rfl,_,rfl,ad,a,pj,es,92,12,rfl,m7 _ _ hX,(cu.same m7).au,.ab,pD,r.bd,.aG,.aG,λ bj s5=>⟨_,_,rfl,rfl,?_⟩⟩;obtain ⟨c,aj⟩:=E7 (rowsOf ai) 400 es;have R:=nQ ai;have I:=NS R iG r.fA r.nn aj;have ah:=L2 dO (iZ.mp (ny R r.fA r.nn aj).2);have i4:(400:Int).toNat=400:=rfl;show Q (.aH (decide ((((bu (ep (rowsOf ai) (400:Int).toNat es)).map V.int).length:Int)<=bc pj es))) bj;rw [cX (by rw [a6,rJ,i4];omega)];exact q bj ((s2.trans m7).trans s5)
  ·refine ⟨_,rfl,rfl,_,rfl,ea ?_⟩;obtain ⟨c3,dO,iG,r1⟩:=acu mP;generalize er DH=pj at *;rw [k7] at c3;have cC:J6 (rowsOf ai):=⟨pj,by rw [c3,k7],dO,iG,r1⟩
   refine ⟨_,rfl,_,rfl,b,.ref ad,xs,ai,92,rfl,cu.af,cu.hf,r.eh,.ab,AP hX .ab,(λ bU dE=>by rw [Ni hX c3 dO] at dE;cases dE;exact pD),.aG,λ aM s3=>?_⟩;rw [V8 hX c3 dO iG r1];refine ⟨true,true,rfl,rfl,_,rfl,ea ?_⟩;have fq:=cu.same s3;refine ⟨_,rfl,_,rfl,b,.ref ad,xs,ai,92,rfl,fq.af,fq.hf,.ab,AP (s3 _ _ hX) .ab,Mo (s3 _ _ hX) pD,.aG,λ aO s4=>?_⟩;rw [show qO ai aM (.ref ad)=false by
    cases h:qO ai aM (.ref ad) with
    | false=>rfl
    | true=>exact absurd (has_both (WE h) cC) id]
   exact ⟨false,false,rfl,rfl,q aO ((s2.trans s3).trans s4)⟩
theorem aed (T:cv K ax):cz P w ax base b_ 8 T.PM Bi:=by
 refine T.PM.fn.cA HK (λ ag H Q E h=>?_) (λ bt A outer s H ag Q E av h=>?_)
 ·obtain ⟨b,a,xs,ai,es,rfl,_⟩:=h;rfl
 ·obtain ⟨b,a,xs,ai,es,rfl,r,q⟩:=h;refine ⟨_,(aV (mz (i:=2) HK.eM rfl (Or.inr rfl) (bf (Bg T) av bb (ak (aa 0) (ak (aa 1) (ak (cK ew T.ec eb (ak (bf (M4 T) av bb (ak (aa 0) (ak (aa 1) (ak aX aC)))) aC)) aC)))))
   (aV (dJ (c6 yh (bf (ade T) av bb (ak (aa 0) (ak (aa 1) (ak (aa 2) aC)))) gG (cB _))
    (a5 (bJ h2))
    dM)
   (a5 (bJ (cK (tx rfl) T.sY sW (ak (fx (dC HK (N:=["row", "line", "later"]) (js:=[none,some 1,some 2]) (e6.mpr ⟨rfl,(e6.mpr ⟨rfl,(d3 _)⟩)⟩)) rfl (hA (bf (Mg T) av bb (ak (aa 0) aC))) (λ _ _ _ _=>ed) (λ _ _ _ _=>eD)
     (λ _ _ _ _=>(jJ h1 (bf (rM T) av bb (ak (aa 0) (ak (aa 1) aC))) (bf (rM T) av bb (ak (aa 0) (ak (aa 2) aC))) (cB _)))) aC)))))),?_⟩
  have n_:=r.n_;have R:=nQ ai;obtain ⟨cC,UR⟩:=LQ r.hf;obtain ⟨c,aj⟩:=E7 (rowsOf ai) 30 es;have en:=vk (rowsOf ai) 30 es;have dT:(30:Int).toNat=30:=rfl;obtain ⟨jb,y2⟩:=ny R r.fA r.nn aj;have Iy:dy 12 c:=Kb y2 λ x ae=>by
   have:=Lo (uV r.hf.ok) (M:=6) (λ x ae=>(r.he x ae).2) aj x ae;omega
  refine ⟨_,rfl,_,rfl,_,rfl,_,rfl,b,a,xs,ai,es,30,rfl,r.af,r.hf,.ab,r.au,r.fA,.aG,.aG,λ l H1 _ s1 ar=>?_⟩;have bV:=r.same s1;rw [dT] at ar;refine ⟨l,_,rfl,.inl (aQ.of ar),b,a,xs,ai,es,c,_,rfl,bV.af,bV.hf,.ab,bV.au,r.fA,r.nn,.ab,by rw [a6,rJ];omega,by rw [a6,rJ,dY];exact aj,λ lt ay s2 dg=>?_⟩;have cu:=bV.same s2;have no:zW ai es c=none:=by
   unfold zW;rw [ya];intro bU dE z;exact (fY z) (Gm R (cC.kept bU dE) r.fA r.nn aj).symm
  refine ⟨_,rfl,_,rfl,_,rfl,b,a,lt,xs,ai,es,c,12,rfl,cu.af,cu.hf,.ab,cu.au,dg,r.bd,Iy,.aG,(λ dw G qI h=>by rw [no] at h;cases h),λ _ aM s3=>⟨rfl,_,rfl,dn ?_⟩⟩;have fq:=cu.same s3;refine ⟨_,rfl,b,xs,ai,rfl,fq.af,fq.hf,.ab,λ n3 aO ys _ s4 uh IP=>⟨n3,rfl,⟨_,aQ.of uh⟩,λ D aT=>?_⟩⟩;have gn:=fq.same s4;have Vb:=s4 _ _ (s3 _ _ dg);refine tE (K:=K) (a:=n3) (xs:=ys) (by rw [cW,IP.1];omega) (λ i σ' H' zs=>(∃ u:cq,σ'=[u,some (.ref a),some (.ref lt)])/\aB aO H'/\zs=(List.replicate i true).map V.aH) ⟨⟨_,rfl⟩,aB.new aT,rfl⟩ (λ i σ' H' ys _ _ ⟨_,s',_⟩=>aQ.of (s' _ _ uh)) ?_ ?_
  ·rintro i x σ' H' zs nX ae b7 eW ⟨⟨u,rfl⟩,s',rfl⟩ df;obtain ⟨bU,dE,dw,rfl,hH⟩:=IP.2 i x ae;have jl:=cf dE;refine ⟨_,rfl,_,rfl,dw,a,bU,es,5621,12,rfl,s' _ _ hH,s' _ _ gn.au,by rw [cC.iP bU jl];decide,cC.bd bU jl,r.bd,.aG,.aG,λ bj s5=>?_⟩;refine ⟨_,rfl,_,rfl,dw,lt,bU,c,5621,12,rfl,s5 _ _ (s' _ _ hH),s5 _ _ (s' _ _ Vb),by rw [cC.iP bU jl];decide,cC.bd bU jl,Iy,.aG,.aG,λ cY bI=>⟨rfl,?_⟩⟩;rw [cX (show V.int (bc bU es)=V.int (bc bU c) by rw [Gm R (cC.kept bU jl) r.fA r.nn aj])];refine df _ _ _ (bI _ _ (s5 _ _ b7)) ⟨⟨_,rfl⟩,?_,?_⟩
   ·intro e o b1;rw [bw (bT b1 aT)];exact bI _ _ (s5 _ _ (s' _ _ b1))
   ·rw [List.replicate_succ',ej];rfl
  ·rintro σ' k9 zs ig eW ⟨_,s5,rfl⟩;refine ⟨D,_,rfl,aQ.of ig,?_⟩;rw [show (List.replicate ys.length true).all id=true by
    rw [e5];intro y a8;rw [(yb.mp a8).2];rfl]
   exact q k9 ((((s1.trans s2).trans s3).trans s4).trans s5)
theorem LH (R:aZ) : ∀ (m:Nat) (ps:aw),∀ x∈ep R m ps,x<R.length
 | 0,_,x,h=>by cases h
 | m+1,ps,x,h=>by
  cases hf:dm R ps with
  | none=>rw [vu hf] at h;cases h
  | some k =>
   obtain ⟨c,aj,_,aE⟩:=mG hf;rw [vv hf aj] at h;rcases c8.mp h with z | z
   ·rw [z];exact aE
   ·exact LH R m _ x z
theorem ac5 {P:aZ} {W:bo} {ps b c d:aw} {s:Nat} (h:ml R P W b d) (aF:goN R s ps=some b) (aR:goN R n ps=some c) (hf:dm R c=none):False:=by
 obtain ⟨q,_,aK⟩:=h.Kc (n+1);have I:goN R (s+(n+1)) ps=some (c7 q d (((n+1) / W.length:Nat):Int)):=by
  rw [yu,aF];exact aK
 have ah:goN R (n+1) ps=none:=by
  show (goN R n ps).bind (ey R)=none;rw [aR];show ey R c=none;unfold ey;rw [hf];rfl
 rw [show s+(n+1)=(n+1)+s by omega,yu,ah] at I;cases I
theorem Wr {a b:Str} (h:a≠b):decide (V.str a=V.str b)=false:=ee λ z=>h (by injection z)
theorem aee (T:cv K ax):cz P w ax base b_ 8 T.PN Bi:=by
 refine T.PN.fn.cA vG (λ ag H Q E h=>?_) (λ bt A outer s H ag Q E av h=>?_)
 ·obtain ⟨b,a,xs,ai,es,rfl,_⟩:=h;rfl
 ·obtain ⟨b,a,xs,ai,es,rfl,r,q⟩:=h;refine ⟨_,(aV (bP 2 vG (bf (adJ T) av bb (ak (aa 0) (ak (aa 1) (ak aX aC)))))
   (aV (dJ (c6 rm (aa 2) gG (cB _))
    (a5 (bJ h2))
    dM)
   (aV (nA (aa 2) (km rfl (cQ (c_ 3 vG) (cQ (c_ 4 vG) (cQ (c_ 5 vG) fm)))))
   (aV (bP 6 vG (bf (Bg T) av bb (ak (aa 0) (ak (aa 1) (ak (aa 3) aC)))))
   (aV (dJ (i3.pt (oR (c6 h1 (cP fP (bf (Yk T) av bb (ak (aa 0) (ak (aa 1) (ak aX aC)))) aX (λ _ _=>rfl)) lF (cB _)) (ro (c6 (AL (mn av)) (bf (O2 T) av bb (ak (aa 0) (ak (aa 6) (ak (aa 4) aC)))) (aa 5) (cB _)))))
    (a5 (bJ h2))
    dM)
   (a5 (bJ (jJ (E1 (mn av)) (bf (aa9 T) av bb (ak (aa 0) (ak (aa 6) (ak (aa 4) (ak aX aC))))) (bf (Bg T) av bb (ak (aa 0) (ak (aa 6) (ak aX aC)))) (cB _))))))))),?_⟩
  have n_:=r.n_;have R:=nQ ai;have fA:=r.fA;have hv:=r.nn;refine ⟨_,rfl,_,rfl,b,a,xs,ai,es,40,rfl,r.af,r.hf,.ab,r.au,r.fA,r.nn,.aG,.aG,λ P b8=>⟨λ II k9 s4=>⟨_,rfl,rfl,_,rfl,ea (q k9 s4)⟩,λ s' bF d II vQ k9 s4 cc=>?_⟩⟩;refine ⟨_,rfl,rfl,_,rfl,dn ?_⟩;obtain ⟨cC,V3,_⟩:=II;obtain ⟨tt,bq,SN,sJ,Ti⟩:=cc;refine ⟨_,rfl,vQ,_,rfl,aP.of SN,rfl,_,_,rfl,_,_,rfl,_,_,rfl,rfl,?_⟩;have Sk:=cC.1;have IH:=cC.2.1;have ae2:=cC.2.2;have afO:(ep (rowsOf ai) (40:Int).toNat es).length<=40:=vk (rowsOf ai) (40:Int).toNat es;have gn:=r.same s4;obtain ⟨qB,wG,zA⟩:=b8.get (s:=s') .ab;obtain ⟨gA,CJ⟩:=ny R fA hv zA;obtain ⟨lh,Wg⟩:=b8.cut (e:=bF) Sk IH zA;have cl:(fv (ep (rowsOf ai) (40:Int).toNat es) s' bF).length=bF - s':=rG IH;have dg:=LH (rowsOf ai) (40:Int).toNat es;generalize mP:fv (ep (rowsOf ai) (40:Int).toNat es) s' bF=W at *;have WS:oE (rowsOf ai) (fv P s' (bF+1)) W=some d:=by rw [<-mP];exact V3
  generalize ae3:fv P s' (bF+1)=qw at *;have qP:ml (rowsOf ai) qw W qB d:=⟨R,gA,CJ,by rw [cl];exact Wg,by rw [cl];exact lh,.ab,WS⟩
  have IT : ∀ x∈W,x<xs.length:=by
   intro x ae;rw [<-mP] at ae;have:=dg x (MJ ae);rw [k7,<-r.hf.1] at this;exact this
  have hu:=qP.hu;have e2:=qP.e2;have wl:((bu W).map V.int).length=W.length:=by rw [a6,rJ]
  have Sl : ∀ {G:aA},G tt=some (tupI (bu W))->k1 G (.ref tt) xs.length=true:=λ {G} h=>by
   unfold k1;rw [vh h];show (decide (1<=((bu W).map V.int).length)&&decide (((bu W).map V.int).length<=40)&&((bu W).map V.int).all (uO xs.length))=true;rw [wl,cX e2,cX .ab,Bool.and_self,mF,e5];intro y a8;obtain ⟨z,aS,rfl⟩:=dz.mp a8;unfold bu at aS;obtain ⟨u,bM,rfl⟩:=dz.mp aS;have:=IT u bM;show (decide (0<=(u:Int))&&decide ((u:Int)<(xs.length:Int)))=true;rw [cX .ab,cX .ab];rfl
  refine ⟨_,rfl,_,rfl,_,rfl,b,a,xs,ai,es,qB,(s':Int),rfl,gn.af,gn.hf,.ab,gn.au,fA,hv,.ab,.ab,by rw [dY];exact zA,λ B0 qu s5 uc=>?_⟩;have kz:=gn.same s5;have Vo:=s5 _ _ sJ;have Vm:=s5 _ _ Ti;refine ⟨_,rfl,_,rfl,b,a,xs,ai,es,200,rfl,kz.af,kz.hf,.ab,kz.au,fA,hv,.aG,.aG,λ v nS o bI mO bl=>?_⟩;have v7:=kz.same bI;have Aj:=bI _ _ Vo;have Vn:=bI _ _ Vm;have D4:=bI _ _ uc;obtain ⟨fB,zs,jy,rfl,sx,Tv,nw⟩ : ∃ (fB:Addr) (zs:bB) (jy:Str),v=.ref fB/\nS fB=some (.tup zs)/\zs[0]?=some (.str jy)/\jy ≠ "rests" := by
   cases o with
   | rests n c=>exact (ac5 qP zA mO.2.1 mO.2.2).elim
   | AA =>
    obtain ⟨fB,rfl,sx⟩:=bl;exact ⟨fB,_, "open", rfl,sx,rfl,.aG⟩
   | round pe l =>
    obtain ⟨fB,rfl,sx⟩:=bl;exact ⟨fB,_, "round", rfl,sx,rfl,.aG⟩
  refine ⟨fB,_,0,.str jy,rfl,rfl,aP.of sx,h5 .aG Tv,rfl,_,rfl,?_⟩;rw [Wr nw];refine dn ⟨_,rfl,_,rfl,_,rfl,b,B0,xs,ai,qB,.ref tt,rfl,v7.af,v7.hf,.ab,D4,gA,CJ,AP Aj (by rw [rJ];omega),(λ z=>by rw [Sl Aj] at z;cases z),λ t' fQ rY j6 _ HV Sx=>?_⟩;cases rY;have vS:fQ=W:=by
   rw [Aj] at j6;have I:(bu W).map V.int=(bu fQ).map V.int:=by
    injection j6 with I;injection I
   exact (F0 (By I)).symm
  subst vS;have B4:=Sx.uniq qP.path;subst B4;have vR:pX (rowsOf ai) qB HV fQ=some d:=by unfold pX;rw [if_pos qP.pj];exact qP.add
  refine ⟨(λ z=>by rw [vR] at z;cases z),λ d' oo ad vH dA hX=>?_⟩;rw [vR] at oo;cases oo;refine ⟨_,rfl,ad,bq,d,d,rfl,rfl,hX,dA _ _ Vn,_,rfl,?_⟩;rw [show (!decide (d=d))=false by rw [cX rfl];rfl];have ll:=v7.same dA;refine dn ⟨_,rfl,_,rfl,_,rfl,b,B0,tt,xs,ai,qB,d,HV,fQ,150,rfl,ll.af,ll.hf,.ab,dA _ _ D4,dA _ _ Aj,qP,.ab,IT,.aG,.aG,λ bh oz a3 aeC e1 zz=>?_⟩;obtain ⟨ba,Ds,SS⟩:=qP.Kc 150;rw [show (150:Int).toNat=150 from rfl] at oz zz;rw [Ds] at oz;cases oz;have Ic:=ll.same e1;refine ⟨_,rfl,_,rfl,b,B0,xs,ai,qB,_,150,rfl,Ic.af,Ic.hf,.ab,e1 _ _ (dA _ _ D4),gA,CJ,.aG,.aG,SS,λ lj Qk iI S1=>⟨a3,lj,_,_,rfl,rfl,iI _ _ zz,S1,?_⟩⟩;rw [cX rfl];exact q Qk ((((((s4.trans s5).trans bI).trans dA).trans e1)).trans iI)
noncomputable def aem:b9:=λ ag H Q _ => ∃ (m a:Addr) (rs:List dS) (s:Nat×aw),ag=[.ref m,.ref a,.int 1]/\q8 H m 10 rs/\pw H a s/\q9 10 rs s/\s.1<rs.length /\ ∀ bh H',aB H H'->pw H' bh (hO rs s)->Q (.ref bh) H'
theorem P7 (T:cv K ax):cz P w ax base b_ 3 T.PZ aem:=by
 refine T.PZ.fn.cA yR (λ ag H Q E h=>?_) (λ bt A outer s H ag Q E av h=>?_)
 ·obtain ⟨m,a,rs,s,rfl,_⟩:=h;rfl
 ·obtain ⟨m,a,rs,s,rfl,jS,aF,dk,I,q⟩:=h;refine ⟨_,(aV (bP 3 yR (cP fP (aa 0) aX (λ _ _=>rfl)))
   (aV (bP 4 yR (aa 1))
   (aV (eB dZ rfl (iz rfl T.hR (ak (aa 2) aC)) (c_ 5 yR)
    (aV (dJ (c6 h1 (cP fP (aa 4) aX (λ _ _=>rfl)) (cK ew T.ec eb (ak (aa 3) aC)) (cB _))
    (a5 yw)
    dM)
   (a5 (bP 4 yR (bf (adN T) av bb (ak (aa 3) (ak (aa 4) aC)))))))
   (a5 (bJ (aa 4)))))),?_⟩
  obtain ⟨b,xs,hm,af,ae⟩:=jS.ex;have qM:=ae.1;refine ⟨_,rfl,m,_,1,_,rfl,rfl,aP.of hm,rfl,?_⟩;refine ⟨_,rfl,_,rfl,1,rfl,.aG,.aG,jv (n:=1) (λ i σ aM => ∃ (c:Addr) (u:cq),σ=[some (.ref m),some (.ref a),some (.int 1),some (.ref b),some (.ref c),u]/\aB H aM/\pw aM c (gV rs i s))
   ⟨a,none,rfl,aB.refl H,aF⟩ ?_ ?_⟩
  ·rintro i σ aM aq ⟨c,u,rfl,s3,⟨v,hG,Ts⟩⟩;obtain rfl:i=0:=by omega
   refine ⟨_,rfl,c,_,0,_,rfl,rfl,aP.of hG,rfl,_,rfl,b,_,rfl,.inr (aP.of (s3 _ _ af)),rfl,_,rfl,?_⟩;rw [ee (show ¬ V.int ((gV rs 0 s).1:Int)=V.int (xs.length:Int) from λ z=>by injection z with z;have fh:(s.1:Int)=(xs.length:Int):=z;omega)];refine dn ⟨_,rfl,_,rfl,b,c,xs,rs,10,s,rfl,s3 _ _ af,ae.keep (e3.of s3),jS.ok,⟨v,hG,Ts⟩,dk,.aG,I,λ p aO s4 ao=>?_⟩;exact ⟨p,_,rfl,s3.trans s4,ao⟩
  ·rintro σ aM ⟨c,u,rfl,s3,hG⟩;exact ⟨_,rfl,q c aM s3 hG⟩
theorem EY {rs:List dS} {s:Nat×aw} (av : ∀ r∈rs,r.ok 10 rs.length) (h:q9 10 rs s) : ∀ k,q9 10 rs (gV rs k s)
 | 0=>h
 | k+1=>X_ av (EY av h k)
theorem aex (T:cv K ax):cz P w ax base b_ 7 T.Qc Bi:=by
 refine T.Qc.fn.cA tO (λ ag H Q E h=>?_) (λ bt A outer s H ag Q E av h=>?_)
 ·obtain ⟨b,a,xs,ai,es,rfl,_⟩:=h;rfl
 ·obtain ⟨b,a,xs,ai,es,rfl,r,q⟩:=h;refine ⟨_,(aV (bP 2 tO (bf (adM T) av bb (ak (aa 0) aC)))
   (aV (bP 3 tO (hk (ak aX (ak (aa 1) aC))))
   (aV (dJ (c6 rm (bf (ac8 T) av bb (ak (aa 0) (ak (aa 1) aC))) gG (cB _))
    (aV (eB dZ rfl (iz rfl T.hR (ak aX aC)) (c_ 4 tO)
    (aV (dJ (c6 h1 (cP fP (aa 3) aX (λ _ _=>rfl)) (cK ew T.ec eb (ak (cP fP (aa 2) aX (λ _ _=>rfl)) aC)) (cB _))
    (a5 (bJ (jJ (E1 (mn av)) (cP fP (aa 3) aX (λ _ _=>rfl)) (aa 1) (cB _))))
    dM)
   (a5 (bP 3 tO (bf (P7 T) av bb (ak (aa 2) (ak (aa 3) (ak aX aC))))))))
   (a5 (bJ h2)))
    dM)
   (aV (eB dZ rfl (iz rfl T.hR (ak aX aC)) (c_ 4 tO)
    (aV (bP 3 tO (bf (P7 T) av bb (ak (aa 2) (ak (aa 3) (ak aX aC)))))
   (a5 (dJ (c6 h1 (cP fP (aa 3) aX (λ _ _=>rfl)) aX (cB _))
    (a5 (bJ (jJ (E1 (mn av)) (cP fP (aa 3) aX (λ _ _=>rfl)) (bf (Ym T) av bb (ak (aa 0) (ak (aa 1) aC))) (cB _))))
    dM))))
   (a5 (bJ h2)))))),?_⟩
  have n_:=r.n_;have qM:=r.hf.1;have kO:=WQ r.hf r.f9;refine ⟨_,rfl,b,xs,ai,rfl,r.af,r.hf,r.f9,r.eh,.ab,λ r2 ay s2 jS=>?_⟩;have cu:=r.same s2;have JR:q9 10 (hy 0 (partsOf ai)) (0,es):=⟨fk _,r.fA,λ e he=>(r.he e he).1⟩
  obtain ⟨T8,T9⟩:=M_ (rs:=hy 0 (partsOf ai)) r.fA r.nn ai 0 (ZI _) (rx _) kO;generalize hy 0 (partsOf ai)=rs at *;refine ⟨_,rfl,dG,λ st aM e8 s3 dk=>?_⟩;have fq:=cu.same s3;have Sw:=jS.same s3;refine ⟨_,rfl,_,rfl,b,a,xs,ai,es,rfl,fq.af,fq.hf,.ab,fq.au,λ aO s4=>?_⟩;have gn:=fq.same s4;have CY:=Sw.same s4;have Jp:pw aO st (gV rs 0 (0,es)):=⟨a,s4 _ _ dk,gn.au⟩
  have xf:=(s2.trans s3).trans s4;cases hN:dm (rowsOf ai) es with
  | none =>
   obtain ⟨N,Qn,ao⟩:=T9 hN;refine ⟨rfl,_,rfl,ea ⟨1001,rfl,.aG,.aG,jv (n:=1001) (λ i σ G=>(∃ (c:Addr) (u:cq),σ=[some (.ref b),some (.ref a),some (.ref r2),some (.ref c),u]/\pw G c (gV rs i (0,es)))/\aB aO G/\i<=N) ⟨⟨st,_,rfl,Jp⟩,aB.refl _,fk _⟩ ?_ ?_⟩⟩
   ·rintro i σ G aq ⟨⟨c,u,rfl,v,aj,bl⟩,lp,I9⟩;obtain ⟨tb,cT,S5,hY,zJ⟩:=(CY.same lp).ex;refine ⟨_,rfl,c,_,0,_,rfl,rfl,aP.of aj,rfl,_,rfl,r2,_,1,_,rfl,rfl,aP.of S5,rfl,tb,cT,rfl,.inr (aP.of hY),rfl,_,rfl,?_⟩;by_cases d9:i=N
    ·subst d9;rw [ao.1] at aj bl;rw [cX (show V.int ((gV rs i (0,es)).1:Int)=V.int (cT.length:Int) by rw [ao.1,zJ.1])];refine ea ⟨_,rfl,c,_,1,_,rfl,rfl,aP.of aj,rfl,_,rfl,v,a,es,es,rfl,rfl,bl,(gn.same lp).au,?_⟩;rw [cX rfl];exact q G (xf.trans lp)
    ·have dg:=(ao.2 i .ab).1;rw [ee (show ¬ V.int ((gV rs i (0,es)).1:Int)=V.int (cT.length:Int) from λ z=>by injection z with z;have:=zJ.1;omega)];refine dn ⟨_,rfl,_,rfl,r2,c,rs,gV rs i (0,es),rfl,CY.same lp,⟨v,aj,bl⟩,EY jS.ok JR i,dg,λ bG rR s' dW=>⟨⟨bG,_,rfl,dW⟩,lp.trans s',.ab⟩⟩
   ·rintro σ G ⟨_,_,h⟩;have:1001<=N:=h;omega
  | some k =>
   obtain ⟨N,Qm,Qn,ao⟩:=T8 k hN;have Vj:ey (rowsOf ai) es=some (c7 es ((rowsOf ai).getD k []) 1):=by
    obtain ⟨Qs,sq,_,_⟩:=mG hN;rw [u0 hN sq,bk,sq];rfl
   generalize c7 es ((rowsOf ai).getD k []) 1=bO at *;refine ⟨rfl,_,rfl,dn ⟨1000,rfl,.aG,.aG,jv (n:=1000) (λ i σ G=>(∃ (c:Addr) (u:cq),σ=[some (.ref b),some (.ref a),some (.ref r2),some (.ref c),u]/\pw G c (gV rs i (0,es)))/\aB aO G/\i<N) ⟨⟨st,_,rfl,Jp⟩,aB.refl _,.ab⟩ ?_ ?_⟩⟩
   ·rintro i σ G aq ⟨⟨c,u,rfl,aj⟩,lp,I9⟩;refine ⟨_,rfl,_,rfl,r2,c,rs,gV rs i (0,es),rfl,CY.same lp,aj,EY jS.ok JR i,(ao.2 i I9).1,λ bG rR s' dW=>?_⟩;have pE:pw rR bG (gV rs (i+1) (0,es)):=dW;have DP:=lp.trans s';obtain ⟨v,zL,Du⟩:=pE;refine ⟨_,rfl,bG,_,0,_,rfl,rfl,aP.of zL,rfl,rfl,_,rfl,?_⟩;by_cases d9:i+1=N
    ·subst d9;rw [ao.1] at zL Du;rw [cX (show V.int ((gV rs (i+1) (0,es)).1:Int)=V.int 0 by rw [ao.1];rfl)];have kz:=gn.same DP;refine ea ⟨_,rfl,bG,_,1,_,rfl,rfl,aP.of zL,rfl,_,rfl,_,rfl,b,a,xs,ai,es,bO,rfl,kz.af,kz.hf,.ab,kz.au,r.fA,r.nn,Vj,λ p nS bI qS=>⟨v,p,bO,bO,rfl,rfl,bI _ _ Du,qS,?_⟩⟩;rw [cX rfl];exact q nS ((xf.trans DP).trans bI)
    ·have h0:=(ao.2 (i+1) .ab).2 .ab;rw [ee (show ¬ V.int ((gV rs (i+1) (0,es)).1:Int)=V.int 0 from λ z=>by injection z with z;omega)];exact dn ⟨⟨bG,_,rfl,⟨v,zL,Du⟩⟩,DP,.ab⟩
   ·rintro σ G ⟨_,_,h⟩;have:1000<N:=h;omega
end
theorem Y3 (c1:aQ K H a xs) (s:aB H H'):aQ K H' a xs:=by
 rcases c1 with (h | ⟨u,h⟩) | h
 ·exact .inl (.inl (s _ _ h))
 ·exact .inl (.inr ⟨u,s _ _ h⟩)
 ·exact .inr h
theorem XH {p:Addr} (c1:aQ K H a xs) (ao:H p=none) (c0:b6 p H H'):aQ K H' a xs:=by
 rcases c1 with (h | ⟨u,h⟩) | h
 ·exact .inl (.inl (c0 _ _ (bT h ao) h))
 ·exact .inl (.inr ⟨u,c0 _ _ (bT h ao) h⟩)
 ·exact .inr h
theorem abJ {ai:cx} (h:ei H xs ai):ei H ((rg ai).map λ k=>xs.getD k .cV) (xS ai):=by
 unfold xS;refine ⟨by rw [a6,a6],λ k x ae=>?_⟩;rw [c9] at ae ⊢;cases aS:(rg ai)[k]? with
 | none=>rw [aS] at ae;cases ae
 | some n =>
  rw [aS] at ae;have dF:x=xs.getD n .cV:=(eA ae).symm;have az:n<ai.length:=by
   have:=cf aS;unfold rg at this;exact fH.mp (mr.mp this).1
  have sD:n<xs.length:=by rw [h.1];exact az
  obtain ⟨i,j,c,I,ah,aD,aL⟩:=h.2 n _ (bz sD);refine ⟨i,j,c,?_,?_,aD,aL⟩
  ·show some (ai.getD n (1,1))=_;rw [bk,I];rfl
  ·rw [dF,bk,bz sD];exact ah
theorem abI (ai:cx):(rg ai).length<=ai.length:=by
 have:=List.length_filter_le (λ k => !p8 ai k) (List.range ai.length);rw [i0] at this;exact this
theorem Ln : ∀ {xs:bB},(∀ x∈xs,qc ns H x) -> ∃ ai:cx,ei H xs ai /\ ∀ f∈ai,ze ns f.1 f.2
 | [],_=>⟨[],⟨rfl,λ k x e=>by cases e⟩,λ f hf=>by cases hf⟩
 | x::xs,h=>by
  obtain ⟨c,i,j,rfl,aj,aK⟩:=h x d2;obtain ⟨ai,⟨I,ah⟩,aD⟩:=Ln (xs:=xs) λ y a8=>h y (eQ _ a8)
  refine ⟨(i,j)::ai,⟨by rw [mB,mB,I],λ k y a8=>?_⟩,λ f hf=>?_⟩
  ·cases k with
   | zero =>
    cases a8;obtain ⟨ws,e2,hs,jW,aeS,rfl,rfl⟩:=aK;exact ⟨_,_,c,rfl,rfl,aj,acz hs jW⟩
   | succ k=>exact ah k y a8
  ·rcases c8.mp hf with z | z
   ·rw [z];exact aK
   ·exact aD f z
theorem X2 {f:Int×Int} (h:ze ns f.1 f.2):pQ f:=by
 obtain ⟨ws,e2,hs,jW,_,aJ,aN⟩:=h;unfold pQ;rw [aJ,aN,dY,dY,O6 (by unfold ups;rw [a6];exact e2),O6 (by unfold downs;rw [a6];exact e2)];omega
section
variable {P:Program}
noncomputable abbrev Ak:Nat:=9
noncomputable def AN (K:dc):b9:=λ ag H Q _ => ∃ (a:Addr) (ns:aw),ag=[.ref a]/\aQ K H a (ns.map V.int)/\ns.length<=63 /\ ∀ H',Q (.aH true) H'
theorem W8 (T:cv K ax) {f:Addr} {fd:FuncData} (F:l4 K "law" "law" EG f fd):ip P w K ax base b_ Ak f fd ["script"] (AN K):=by
 refine F.cA uZ (λ ag H Q E h=>?_) (λ bt A outer s H ag Q E av h=>?_)
 ·obtain ⟨a,ns,rfl,_⟩:=h;rfl
 ·obtain ⟨a,ns,rfl,c1,hlen,q⟩:=h;refine ⟨_,(aV (eB dZ rfl (iz rfl T.hR (ak (cK (Bm rfl) T.xK xG (ak aX (ak (cK (Gj rfl) T.xM xH (ak (cK ew T.ec eb (ak (aa 0) aC)) (ak aX aC))) aC))) aC)) (c_ 1 uZ)
    (aV (bP 2 uZ (bf (ZQ T) av bb (ak (bf (ada T) av bb (ak (aa 0) (ak (aa 1) aC))) aC)))
   (aV (bP 3 uZ (bf (acF T) av bb (ak (aa 2) aC)))
   (aV (bP 4 uZ (bf (aes T) av bb (ak (aa 2) (ak (aa 3) (ak aX aC)))))
   (aV (bP 5 uZ (bf (aa_ T) av bb (ak (aa 2) (ak (aa 3) (ak aX aC)))))
   (aV (dJ (i3.pt (oR (lG (k0 (bf (aey T) av bb (ak (aa 4) (ak (aa 5) aC))))) (ro (lG (k0 (bf (aed T) av bb (ak (aa 4) (ak (aa 5) aC))))))))
    (a5 (bJ h2))
    dM)
   (aV (dJ (i3.pt (oR (lG (k0 (bf (aee T) av bb (ak (aa 4) (ak (aa 5) aC))))) (ro (lG (k0 (bf (aex T) av bb (ak (aa 4) (ak (aa 5) aC))))))))
    (a5 (bJ h2))
    dM)
   (a5 (dJ (c6 yh (bf (adf T) av bb (ak (aa 4) (ak (bf (aeg T) av bb (ak (aa 4) aC)) aC))) gG (cB _))
    (a5 (bJ h2))
    dM)))))))))
   (a5 (bJ h2))),?_⟩
  refine ⟨_,rfl,a,_,rfl,.inl c1,_,_,rfl,_,_,rfl,?_⟩;generalize hm:(if (if (4:Int)<((ns.map V.int).length:Int) then (4:Int) else ((ns.map V.int).length:Int)) > 1 then (if (4:Int)<((ns.map V.int).length:Int) then (4:Int) else ((ns.map V.int).length:Int)) else 1)=m;have afa:0<=m/\m<=4:=by
   rw [<-hm];split<;>split<;>omega
  refine ⟨m,rfl,.ab,.ab,jv (n:=m.toNat) (λ i σ ay=>(∃ fR gp jV n8 t5:cq,σ=[some (.ref a),fR,gp,jV,n8,t5])/\aQ K ay a (ns.map V.int)) ⟨⟨none,none,none,none,none,rfl⟩,c1⟩ ?_ (λ σ ay _=>q ay)⟩;rintro i σ ay aq ⟨⟨fR,gp,jV,n8,t5,rfl⟩,IQ⟩;refine ⟨_,rfl,_,rfl,a,ns,_,rfl,IQ,.ab,λ c=>⟨c,rfl,λ n pt sG=>?_⟩⟩;refine ⟨_,rfl,pt,n,rfl,bK,λ b5 aM e9 ps fz qQ oy c3 tX hm=>?_⟩;refine ⟨_,rfl,_,rfl,pt,b5,e9,8,ps,rfl,qQ,oy,c3,.ab,hm,.aG,.aG,λ pr aO hU xs gK kN Jj eh n_ kO=>?_⟩;have TZ:b5≠pt:=gY oy qQ nofun;have pI:=gK _ _ TZ oy;obtain ⟨ai,De,SR⟩:=Ln kO;refine ⟨_,rfl,_,rfl,pt,b5,hU,6,ps,rfl,kN,pI,.ab,hm,.aG,.aG,λ ln bj ib es d8 oi wX wx ot=>?_⟩;have T1:pr≠pt:=gY Jj kN nofun;have CL:b6 pt (upd ay pt (.lst [.int n])) bj:=(fz.trans gK).trans d8;have SA:aQ K bj a (ns.map V.int):=XH IQ sG (λ q o H_ e=>CL q o H_ (by rw [bw H_];exact e));have r:pv bj pr ln xs ai es:=⟨d8 _ _ T1 Jj,De.but kN d8,eh,.ab,λ f hf=>X2 (SR f hf),wX,wx,ot⟩
  refine ⟨_,rfl,_,rfl,pr,ln,xs,ai,es,rfl,r,λ cY bI=>⟨_,rfl,dn ⟨_,rfl,_,rfl,pr,ln,xs,ai,es,rfl,r.same bI,λ ek dA=>⟨_,rfl,dn ?_⟩⟩⟩⟩;have ll:=(r.same bI).same dA;refine ⟨_,rfl,_,rfl,pr,ln,xs,ai,es,rfl,ll,λ k_ e1=>⟨_,rfl,dn ⟨_,rfl,_,rfl,pr,ln,xs,ai,es,rfl,ll.same e1,λ tP iI=>⟨_,rfl,dn ?_⟩⟩⟩⟩;have Ck:=(ll.same e1).same iI;refine ⟨_,rfl,_,rfl,pr,xs,ai,rfl,Ck.af,Ck.hf,.ab,λ fa zf JK w3=>?_⟩;have sN:=Ck.same JK;have wl:=abI ai;have gN:=De.1;refine ⟨pr,fa,xs,_,ai,xS ai,rfl,sN.af,sN.hf,.ab,w3,abJ sN.hf,by rw [a6];omega,λ _ r6 Ue=>⟨rfl,_,rfl,dn ⟨⟨_,_,_,_,_,rfl⟩,Y3 SA (((((bI.trans dA).trans e1).trans iI).trans JK).trans Ue)⟩⟩,λ p qZ DL dD=>absurd (acs De.D2 p qZ DL) dD⟩
end
theorem all_mk {l:W.OpenLaw} {K:W.Frag} {h:Heap} {fB Po MV OC NX NW:Addr} (X:K.In h) (G:h.Ns mainGlobals ax) (sx:ax "law" = some (.ref fB))
  {Gg:Addr} {abt abu abv abw abx aby abz abA abB abC:Tok} {ZM:Nat} {Zm:Option Addr} {abi:Array dP}
  (h0:ct K "is_whole" GX)
  (I:ct K "is_powers" G9)
  (ah:ct K "powers_of" He)
  (aD:ct K "how_often" G8)
  (aL:ct K "without_primes" HN)
  (cp:ct K "changes_of" Hk)
  (g9:ct K "fraction_changes" HQ)
  (vU:ct K "fits" E4)
  (n1:ct K "first_of" GV)
  (vV:ct K "moved" FI)
  (ie:ct K "first_fit" G7)
  (pA:ct K "step" E5)
  (CS:ct K "after" FG)
  (Rm:ct K "trail" FJ)
  (Rn:ct K "is_idle" GA)
  (Ro:ct K "without_idle" HE)
  (Rp:ct K "unlike_at" Hf)
  (Rq:ct K "least_places" HD)
  (Rr:ct K "wants_of" G1)
  (Rt:qv K "used_at_alike" "used_at" HI)
  (Ru:ct K "fate" E3)
  (Rv:ct K "sum_by" Ge)
  (Rw:ct K "base" E2)
  (Rx:ct K "unit_row" G0)
  (Ry:ct K "kept_of" GB)
  (Rz:ct K "evened" F8)
  (RA:ct K "lowest" Gb)
  (RB:ct K "common_divisor" HL)
  (RC:ct K "parted_by" Hc)
  (RD:ct K "added_by" GU)
  (RF:ct K "is_trail" GW)
  (RG:ct K "places_of" Hd)
  (RH:qv K "used_at_loops" "used_at" HJ)
  (RI:ct K "added_along" Ht)
  (RJ:ct K "stays_shut" Hq)
  (RK:ct K "far_on" F9)
  (RL:ct K "first_loop" Hl)
  (RM:ct K "machine_after" HH)
  (RN:ct K "next_stand" Hp)
  (RO:ct K "changed" Gy)
  (RP:ct K "machine_of" Ho)
  (RQ:ct K "counters_of" Hv)
  (RR:ct K "fraction_rows" HG)
  (RS:ct K "still_rows" Hr)
  (RT:ct K "onward" Gd)
  (RU:ct K "are_weights" Hu)
  (RV:ct K "is_balance" Hm)
  (RW:ct K "by_primes" yG)
  (RX:ct K "weight_of" Hg)
  (RY:ct K "weighed" GF)
  (RZ:ct K "first_table" yO)
  (R0:ct K "first_above" Hw)
  (R1:ct K "leaving" GD)
  (R2:ct K "exchanged" yH)
  (R3:ct K "endless" Gz)
  (R4:ct K "_law_cell_at" G_)
  (R5:ct K "_law_pot" FH)
  (R6:ct K "_law_take" Ga)
  (R7:ct K "_law_order" GC)
  (R8:ct K "_law_places" GY)
  (R9:ct K "_law_primes" GZ)
  (R_:ct K "_law_product" Ha)
  (Sa:ct K "_law_fraction" Hn)
  (Sb:ct K "_law_program" Hb)
  (Sd:ct K "_law_calm_program" HM)
  (Se:ct K "_law_line" F_)
  (Sf:ct K "_law_weights_right" HP)
  (Sg:ct K "_law_kept_right" HB)
  (Sh:ct K "_law_loop_right" HC)
  (Si:ct K "_law_machine_right" HO)
  (Sj:ct K "law" EG)
  (acU:W.nsIn K mainGlobals "FractError" = some (some (.ref Po)))
  (Zc:W.nsIn K mainGlobals "AtRest" = some (some (.ref MV)))
  (abK:W.nsIn K mainGlobals "NoNumber" = some (some (.ref OC)))
  (aay:W.nsIn K mainGlobals "TooMany" = some (some (.ref NX)))
  (aax:W.nsIn K mainGlobals "NoTrail" = some (some (.ref NW)))
  (Wy:W.nsIn K mainGlobals "len" = some none)
  (adD:W.nsIn K mainGlobals "isinstance" = some none)
  (Wx:W.nsIn K mainGlobals "int" = some none)
  (XP:W.nsIn K mainGlobals "bool" = some none)
  (Za:W.nsIn K mainGlobals "tuple" = some none)
  (XQ:W.nsIn K mainGlobals "list" = some none)
  (Y_:W.nsIn K mainGlobals "range" = some none)
  (Wz:W.nsIn K mainGlobals "max" = some none)
  (WA:W.nsIn K mainGlobals "min" = some none)
  (Wv:W.nsIn K mainGlobals "all" = some none)
  (WC:W.nsIn K mainGlobals "zip" = some none)
  (Ww:W.nsIn K mainGlobals "any" = some none)
  (WB:W.nsIn K mainGlobals "sum" = some none)
  (acT:W.nsIn K mainGlobals "enumerate" = some none)
  (Wu:W.nsIn K mainGlobals "abs" = some none)
  (acw:W.nsIn K mainGlobals "reversed" = some none)
  (adC:W.nsIn K mainGlobals "ValueError" = some none)
  (BF : ∃ t,W.nsIn K mainGlobals "MOST_PLACES" = some (some (.int 40 t)))
  (HA : ∃ t,W.nsIn K mainGlobals "MOST_FACTORS" = some (some (.int 300 t)))
  (lR:W.nsIn K mainGlobals "PRIMES" = some (some (.ref Gg)))
  (aaw:K.lookup Gg=some ⟨.type "tuple", Zm,.seq #[.int 2 abt,.int 3 abu,.int 5 abv,.int 7 abw,.int 11 abx,.int 13 aby,.int 17 abz,.int 19 abA,.int 23 abB,.int 29 abC] ZM,abi⟩) :
  ∃ fd:FuncData,(∀ (s:Shared) (v:Value),BindsTo s fd ⟨[v],[]⟩ [("script", v)]) /\ ∀ base:Heap,K.In base->base.Ns mainGlobals ax->ip l.prog w K ax base b_ Ak fB fd ["script"] (AN K):=by
 obtain ⟨gN,ae0,al,F⟩:=Sj;have e:=sx.symm.trans (qo X G al);cases e;have T:cv K ax:=⟨h0.bD X G ht,I.bD X G ht,ah.bD X G ht,aD.bD X G f_,aL.bD X G ht,cp.bD X G ht,g9.bD X G ht,vU.bD X G f_,n1.bD X G f_,vV.bD X G jz,ie.bD X G f_,pA.bD X G f_,CS.bD X G jz,Rm.bD X G jz,Rn.bD X G f_,Ro.bD X G ht,Rp.bD X G f_,Rq.bD X G f_,Rr.bD X G ht,Rt.bD X G f_,Ru.bD X G jz,Rv.bD X G f_,Rw.bD X G ht,Rx.bD X G ht,Ry.bD X G f_,Rz.bD X G zm,RA.bD X G ht,RB.bD X G f_,RC.bD X G jz,RD.bD X G jz,RF.bD X G f_,RG.bD X G jz,RH.bD X G ht,RI.bD X G f_,RJ.bD X G jz,RK.bD X G zm,RL.bD X G jz,RM.bD X G jz,RN.bD X G f_,RO.bD X G jz,RP.bD X G ht,RQ.bD X G ht,RR.bD X G jz,RS.bD X G ht,RT.bD X G f_,RU.bD X G f_,RV.bD X G f_,RW.bD X G ht,RX.bD X G f_,RY.bD X G ht,RZ.bD X G ht,R0.bD X G ht,R1.bD X G jz,R2.bD X G zm,R3.bD X G zm,R4.bD X G f_,R5.bD X G ht,R6.bD X G f_,R7.bD X G f_,R8.bD X G ht,R9.bD X G Q8,R_.bD X G ht,Sa.bD X G f_,Sb.bD X G jz,Sd.bD X G jz,Se.bD X G jz,Sf.bD X G f_,Sg.bD X G f_,Sh.bD X G f_,Si.bD X G f_,Po,qo X G acU,MV,qo X G Zc,OC,qo X G abK,NX,qo X G aay,NW,qo X G aax,jt X G Wy,jt X G adD,jt X G Wx,jt X G XP,jt X G Za,jt X G XQ,jt X G Y_,jt X G Wz,jt X G WA,jt X G Wv,jt X G WC,jt X G Ww,jt X G WB,jt X G acT,jt X G Wu,jt X G acw,jt X G adC,Gg,qo X G lR,λ H=>.inr ⟨_,_,_,aaw,rfl,rfl,dG,(.cons ⟨_,rfl⟩ (.cons ⟨_,rfl⟩ (.cons ⟨_,rfl⟩ (.cons ⟨_,rfl⟩ (.cons ⟨_,rfl⟩ (.cons ⟨_,rfl⟩ (.cons ⟨_,rfl⟩ (.cons ⟨_,rfl⟩ (.cons ⟨_,rfl⟩ (.cons ⟨_,rfl⟩ .nil))))))))))⟩,BF.imp λ _=>qo X G,HA.imp λ _=>qo X G⟩
 have Qi:=F;obtain ⟨_,_,_,_,_,_,_,_,_,rfl,_,_⟩:=F.ex;exact ⟨_,λ s v=>.of_eq rfl,λ base _ _=>W8 T Qi⟩
theorem walk {l:PySem.W.OpenLaw} {q:Program} {d:DefRec} {K:Params->dc} (az:l.most=some 63) (wN:d.params.defaults=[])
  (B8 : ∀ (w:World) (h:Heap),tS w h->(K w.params).In h)
  (F : ∀ (w:World) (ax:Str->dP) (fB:Addr) (h:Heap),(K w.params).In h->h.Ns mainGlobals ax->ax d.name=some (.ref fB) ->
   ∃ fd:FuncData,(∀ (s:Shared) (u:Value),BindsTo s fd ⟨[u],[]⟩ [("script", u)]) /\ ∀ base:Heap,(K w.params).In base->base.Ns mainGlobals ax->ip l.prog w (K w.params) ax base b_ Ak fB fd ["script"] (AN (K w.params))) :
  PySem.W.WalkO q loose yZ tS l.row.toRowW d [] (λ f ag=>PySem.call f ag) :=
 bC.Y7 (n:=63) (k:=Ak) (x := "script") (dN:=λ _=>b_) (sp:=λ w=>AN (K w.params)) az .aG wN ⟨rfl,.aG,.aG,rfl⟩ B8 F (λ _ _ a ns ar _ c1=>⟨a,ns,rfl,c1,ar,λ _=>rfl⟩) λ _ _ _ _ _ z=>z
end du
open PySem PySem.W PyProof.Rows
namespace PySem.W.Fast
theorem tw10027989551053877391:True:=trivial
theorem tw10052418927679093535:True:=trivial
theorem tw10140723323383017997:True:=trivial
theorem tw10146664526847735566:True:=trivial
theorem tw10149192162581579983:True:=trivial
theorem tw10193869805400907596:True:=trivial
theorem tw10227092498036746384:True:=trivial
theorem tw10229809477626930928:True:=trivial
theorem tw10276594938010062394:True:=trivial
theorem tw10356613328129504827:True:=trivial
theorem tw10403691210762746718:True:=trivial
theorem tw10492044001511613476:True:=trivial
theorem tw10502120694606675829:True:=trivial
theorem tw1052366097841452262:True:=trivial
theorem tw10635224770947032940:True:=trivial
theorem tw106534685128472102:True:=trivial
theorem tw10660139783356427185:True:=trivial
theorem tw10666401484065643954:True:=trivial
theorem tw10695250965350868373:True:=trivial
theorem tw10788948277772970492:True:=trivial
theorem tw1083317170248933668:True:=trivial
theorem tw1083488147251575160:True:=trivial
theorem tw10843514658080834024:True:=trivial
theorem tw10850613009583994870:True:=trivial
theorem tw1088915476458393835:True:=trivial
theorem tw10903678890138629820:True:=trivial
theorem tw10907063947556410069:True:=trivial
theorem tw10909560056958653309:True:=trivial
theorem tw10922976907278268117:True:=trivial
theorem tw10942356500133853889:True:=trivial
theorem tw1095353958662534830:True:=trivial
theorem tw10968424987131907931:True:=trivial
theorem tw10976747204109308573:True:=trivial
theorem tw10997875898176940933:True:=trivial
theorem tw11040916163857733353:True:=trivial
theorem tw11057723980947821093:True:=trivial
theorem tw11071196051476555610:True:=trivial
theorem tw11138511517129408430:True:=trivial
theorem tw11217553626684032984:True:=trivial
theorem tw11230592324443834506:True:=trivial
theorem tw11337046655662651777:True:=trivial
theorem tw11347723025630711335:True:=trivial
theorem tw11348374949181896167:True:=trivial
theorem tw11390485671699234641:True:=trivial
theorem tw11397988283014835337:True:=trivial
theorem tw11434071086487906306:True:=trivial
theorem tw11444382042734931999:True:=trivial
theorem tw11464211664416270230:True:=trivial
theorem tw11465645843248546365:True:=trivial
theorem tw11507195378628912663:True:=trivial
theorem tw1152148109100078673:True:=trivial
theorem tw11571176340134701393:True:=trivial
theorem tw1161969733405813470:True:=trivial
theorem tw11648167146010062780:True:=trivial
theorem tw11672879025161918092:True:=trivial
theorem tw11708819473208197370:True:=trivial
theorem tw11721889212881926950:True:=trivial
theorem tw11737657237141564991:True:=trivial
theorem tw1177064912351475300:True:=trivial
theorem tw11793763939725644398:True:=trivial
theorem tw11816873662407015479:True:=trivial
theorem tw11829468456363575243:True:=trivial
theorem tw11840161375238041081:True:=trivial
theorem tw11844399370296472690:True:=trivial
theorem tw11862034149227037975:True:=trivial
theorem tw1188755799456282502:True:=trivial
theorem tw11939891223444532274:True:=trivial
theorem tw11966120465962199205:True:=trivial
theorem tw11989906148561813978:True:=trivial
theorem tw12005573762909187502:True:=trivial
theorem tw12073429108665694424:True:=trivial
theorem tw12089666452964359884:True:=trivial
theorem tw12104038324044918995:True:=trivial
theorem tw1215865432145459440:True:=trivial
theorem tw12165450339673678020:True:=trivial
theorem tw1218062651672214176:True:=trivial
theorem tw12239896829655798606:True:=trivial
theorem tw12250449223085531851:True:=trivial
theorem tw1227391009139695868:True:=trivial
theorem tw12278032932097244366:True:=trivial
theorem tw12293340469138133946:True:=trivial
theorem tw12302652573963521095:True:=trivial
theorem tw12306950920347254979:True:=trivial
theorem tw12360650419189058995:True:=trivial
theorem tw124013227878064982:True:=trivial
theorem tw12429494247871659744:True:=trivial
theorem tw12438842629928210476:True:=trivial
theorem tw12505982377548479712:True:=trivial
theorem tw12587723268249248356:True:=trivial
theorem tw12608154281175290757:True:=trivial
theorem tw1261941850184693828:True:=trivial
theorem tw12651313339698964875:True:=trivial
theorem tw12667519915232978669:True:=trivial
theorem tw127672214272856240:True:=trivial
theorem tw12800391744951101042:True:=trivial
theorem tw12818607324546722638:True:=trivial
theorem tw12827553622366464925:True:=trivial
theorem tw12887585861555001575:True:=trivial
theorem tw1299335752077735401:True:=trivial
theorem tw13014576630594149531:True:=trivial
theorem tw13130145164527031683:True:=trivial
theorem tw13179310956140312313:True:=trivial
theorem tw13245442090239003163:True:=trivial
theorem tw13247022417697828575:True:=trivial
theorem tw13263905244558877542:True:=trivial
theorem tw13307579899160446116:True:=trivial
theorem tw13411331996067542267:True:=trivial
theorem tw1341714804346915022:True:=trivial
theorem tw13429921594518882578:True:=trivial
theorem tw13610579984293897628:True:=trivial
theorem tw13644106904918537549:True:=trivial
theorem tw13657201732848420913:True:=trivial
theorem tw1366233390835791750:True:=trivial
theorem tw13760877727563299870:True:=trivial
theorem tw13768080196392522685:True:=trivial
theorem tw13783674300126328595:True:=trivial
theorem tw13816572611270078549:True:=trivial
theorem tw13842485390037926580:True:=trivial
theorem tw13878819880570195252:True:=trivial
theorem tw13881557471266532437:True:=trivial
theorem tw13950006303822192176:True:=trivial
theorem tw14000360046385520827:True:=trivial
theorem tw14019843786969292253:True:=trivial
theorem tw14063919292655513787:True:=trivial
theorem tw14097447497082231495:True:=trivial
theorem tw14103226892488188471:True:=trivial
theorem tw1415321281195026356:True:=trivial
theorem tw14166725521636875160:True:=trivial
theorem tw14361800824143089857:True:=trivial
theorem tw14365155292535085082:True:=trivial
theorem tw14385148570175738756:True:=trivial
theorem tw14391235047514273795:True:=trivial
theorem tw1445586946875945931:True:=trivial
theorem tw14460016418373965545:True:=trivial
theorem tw14480111408526106958:True:=trivial
theorem tw14502371182987276040:True:=trivial
theorem tw14538556152516034742:True:=trivial
theorem tw14561296175068641571:True:=trivial
theorem tw146013100848747814:True:=trivial
theorem tw14613049351577447707:True:=trivial
theorem tw14623087847721065599:True:=trivial
theorem tw1463008694156394032:True:=trivial
theorem tw14630204311662642739:True:=trivial
theorem tw1465122079979837577:True:=trivial
theorem tw1470644440007144787:True:=trivial
theorem tw1473837133460425773:True:=trivial
theorem tw1474177507062730695:True:=trivial
theorem tw14794227485701303274:True:=trivial
theorem tw14890936705955910406:True:=trivial
theorem tw14940721302110769231:True:=trivial
theorem tw14942900954509919390:True:=trivial
theorem tw1494907248221628281:True:=trivial
theorem tw14957422012798981805:True:=trivial
theorem tw14988931802619589122:True:=trivial
theorem tw14993304457014549179:True:=trivial
theorem tw15016200230189031870:True:=trivial
theorem tw15024847393341375319:True:=trivial
theorem tw15028935089655189286:True:=trivial
theorem tw15131074345841845330:True:=trivial
theorem tw15185493226679226260:True:=trivial
theorem tw15188282912342292998:True:=trivial
theorem tw15201682639389099749:True:=trivial
theorem tw15202154301596514195:True:=trivial
theorem tw15205784469380704823:True:=trivial
theorem tw15206683460884884175:True:=trivial
theorem tw15208103793048753612:True:=trivial
theorem tw15291420920320534895:True:=trivial
theorem tw15310309795328700833:True:=trivial
theorem tw15315764394321944362:True:=trivial
theorem tw15324246926540921961:True:=trivial
theorem tw15333415004033306024:True:=trivial
theorem tw15373710071639223118:True:=trivial
theorem tw15474149419526106249:True:=trivial
theorem tw15588656889596443294:True:=trivial
theorem tw15599027246949666696:True:=trivial
theorem tw15661082566363247311:True:=trivial
theorem tw15719033656325838845:True:=trivial
theorem tw1586918483983689917:True:=trivial
theorem tw15878907971126214017:True:=trivial
theorem tw158808244586773778:True:=trivial
theorem tw15914901272864643863:True:=trivial
theorem tw15917065243911834470:True:=trivial
theorem tw15919970067644377839:True:=trivial
theorem tw16012650471313799710:True:=trivial
theorem tw16036819171194405585:True:=trivial
theorem tw16055085881812267241:True:=trivial
theorem tw16096912919846928002:True:=trivial
theorem tw16104365596640056378:True:=trivial
theorem tw16118159174489701691:True:=trivial
theorem tw16181104120763921934:True:=trivial
theorem tw16186314090250017725:True:=trivial
theorem tw16217971146279585392:True:=trivial
theorem tw16251937937940820123:True:=trivial
theorem tw1627534300768158408:True:=trivial
theorem tw16290547722107761985:True:=trivial
theorem tw16322597243782318750:True:=trivial
theorem tw16382481430771623831:True:=trivial
theorem tw16393043341982583275:True:=trivial
theorem tw16418764493774829055:True:=trivial
theorem tw16422823049918625127:True:=trivial
theorem tw16509876117546269748:True:=trivial
theorem tw16596119116345431422:True:=trivial
theorem tw16694523898785986527:True:=trivial
theorem tw1678419831604635588:True:=trivial
theorem tw16806413013942212478:True:=trivial
theorem tw16822803173296359987:True:=trivial
theorem tw16846277629478743046:True:=trivial
theorem tw16854003245195437544:True:=trivial
theorem tw168643138741990229:True:=trivial
theorem tw16876940214526808850:True:=trivial
theorem tw16986621162407399260:True:=trivial
theorem tw17007643944983333853:True:=trivial
theorem tw1702014924068762226:True:=trivial
theorem tw17053515595911416704:True:=trivial
theorem tw17074118423563068868:True:=trivial
theorem tw17080708357388310892:True:=trivial
theorem tw17097447293250670093:True:=trivial
theorem tw17121439101914664029:True:=trivial
theorem tw17241915071192119789:True:=trivial
theorem tw1728102536443613351:True:=trivial
theorem tw17316716945273485177:True:=trivial
theorem tw17324279488718845493:True:=trivial
theorem tw17364524116071774831:True:=trivial
theorem tw17381954805569081984:True:=trivial
theorem tw17447892826329967824:True:=trivial
theorem tw17596354337007241277:True:=trivial
theorem tw17701901852244573059:True:=trivial
theorem tw17784781731183192697:True:=trivial
theorem tw17792420666710531619:True:=trivial
theorem tw1783526962139514063:True:=trivial
theorem tw17852189186953899054:True:=trivial
theorem tw17864389597635021263:True:=trivial
theorem tw17889318172458676752:True:=trivial
theorem tw17902144872907202619:True:=trivial
theorem tw17933948116496331816:True:=trivial
theorem tw17971254442027574574:True:=trivial
theorem tw1798836828429025293:True:=trivial
theorem tw1800166027009471783:True:=trivial
theorem tw1800338729313777803:True:=trivial
theorem tw18196197731915506461:True:=trivial
theorem tw18236710137468498477:True:=trivial
theorem tw18241407798220484839:True:=trivial
theorem tw1835653678584189126:True:=trivial
theorem tw18423928394328464052:True:=trivial
theorem tw1853873303917649763:True:=trivial
theorem tw1913793568490735410:True:=trivial
theorem tw1937392935519527952:True:=trivial
theorem tw1952085898147198271:True:=trivial
theorem tw2100443977774229096:True:=trivial
theorem tw2149078463728159029:True:=trivial
theorem tw2169975808268743435:True:=trivial
theorem tw2208799589485889563:True:=trivial
theorem tw2343236011401560543:True:=trivial
theorem tw235734352263264641:True:=trivial
theorem tw2409021724561236146:True:=trivial
theorem tw2448436249088384548:True:=trivial
theorem tw2467714890720476448:True:=trivial
theorem tw2494223917469293875:True:=trivial
theorem tw2562159058765340126:True:=trivial
theorem tw2562796809596630469:True:=trivial
theorem tw2656953698650836710:True:=trivial
theorem tw274678621628841142:True:=trivial
theorem tw2846855252768368860:True:=trivial
theorem tw2923750442040239827:True:=trivial
theorem tw2982302661041909209:True:=trivial
theorem tw299116185493581443:True:=trivial
theorem tw3009242980438349234:True:=trivial
theorem tw3011307326025839280:True:=trivial
theorem tw3068263273557292950:True:=trivial
theorem tw3096688533604796721:True:=trivial
theorem tw3267991202526940536:True:=trivial
theorem tw3286585450113569613:True:=trivial
theorem tw3314399417446647511:True:=trivial
theorem tw3408536632882286325:True:=trivial
theorem tw3408839474709850326:True:=trivial
theorem tw3438851226013444797:True:=trivial
theorem tw346166679286017524:True:=trivial
theorem tw3549762210042459160:True:=trivial
theorem tw3609026626496799325:True:=trivial
theorem tw3652898623910712604:True:=trivial
theorem tw3664401649177840857:True:=trivial
theorem tw3667626863866928664:True:=trivial
theorem tw3711975640503430450:True:=trivial
theorem tw3789744616410460370:True:=trivial
theorem tw3792591101183030020:True:=trivial
theorem tw3816977784971601591:True:=trivial
theorem tw3837142119009323619:True:=trivial
theorem tw3838386822311992147:True:=trivial
theorem tw384484907632923369:True:=trivial
theorem tw3866875300426387466:True:=trivial
theorem tw3883243827186263936:True:=trivial
theorem tw3921152040244510601:True:=trivial
theorem tw394066532625616200:True:=trivial
theorem tw3966608319430683545:True:=trivial
theorem tw3985484365108325835:True:=trivial
theorem tw3994938531401063688:True:=trivial
theorem tw4044842740319780248:True:=trivial
theorem tw4060250904457060200:True:=trivial
theorem tw4118916527608117518:True:=trivial
theorem tw4119576516340476179:True:=trivial
theorem tw4120360863081866902:True:=trivial
theorem tw4129631292085422845:True:=trivial
theorem tw4222805122814869499:True:=trivial
theorem tw4313482765577795356:True:=trivial
theorem tw4344526161285624657:True:=trivial
theorem tw4361781394954811431:True:=trivial
theorem tw4382102964676627641:True:=trivial
theorem tw441048855835513677:True:=trivial
theorem tw4416077466737463935:True:=trivial
theorem tw4424531102210058342:True:=trivial
theorem tw4433816717001334018:True:=trivial
theorem tw4477733772806296624:True:=trivial
theorem tw4483198874048605223:True:=trivial
theorem tw4483210648419995461:True:=trivial
theorem tw4484938521123467105:True:=trivial
theorem tw4505300089408665689:True:=trivial
theorem tw4525534419107628335:True:=trivial
theorem tw4585354756680422616:True:=trivial
theorem tw46246848331287941:True:=trivial
theorem tw4639483670668288363:True:=trivial
theorem tw4712995108474484445:True:=trivial
theorem tw4726937129355991853:True:=trivial
theorem tw4752252243006892166:True:=trivial
theorem tw4794547387008274075:True:=trivial
theorem tw4825394212609379416:True:=trivial
theorem tw4846830071791310682:True:=trivial
theorem tw4868906147310923920:True:=trivial
theorem tw4935049258421417183:True:=trivial
theorem tw5014542314769995418:True:=trivial
theorem tw502623962307170340:True:=trivial
theorem tw5096328425955936308:True:=trivial
theorem tw5168847072529129778:True:=trivial
theorem tw5214693942723741668:True:=trivial
theorem tw5254162613939555977:True:=trivial
theorem tw5304871449786699526:True:=trivial
theorem tw5311440817517870360:True:=trivial
theorem tw5320516328288179155:True:=trivial
theorem tw532126954516476165:True:=trivial
theorem tw5367956987798798107:True:=trivial
theorem tw542428519550124780:True:=trivial
theorem tw5477950082713688448:True:=trivial
theorem tw5504694403156735453:True:=trivial
theorem tw5547048727244218925:True:=trivial
theorem tw5575989872406138283:True:=trivial
theorem tw5630262090442567587:True:=trivial
theorem tw5637368442448886844:True:=trivial
theorem tw5639914606795111583:True:=trivial
theorem tw5692658917856832875:True:=trivial
theorem tw581642598159784679:True:=trivial
theorem tw5828197571928501294:True:=trivial
theorem tw5838842976384269436:True:=trivial
theorem tw5852733931824587272:True:=trivial
theorem tw5853764029437838202:True:=trivial
theorem tw5860172409734524590:True:=trivial
theorem tw5942560262462306110:True:=trivial
theorem tw6047695337573863666:True:=trivial
theorem tw6158332995630025471:True:=trivial
theorem tw6177849863130714507:True:=trivial
theorem tw6203038809854417797:True:=trivial
theorem tw6268767372041190838:True:=trivial
theorem tw6332093581877957874:True:=trivial
theorem tw6427938714279586409:True:=trivial
theorem tw6440309029169154671:True:=trivial
theorem tw6454816861133541199:True:=trivial
theorem tw6468241671500840287:True:=trivial
theorem tw6478705223747659329:True:=trivial
theorem tw6520384019884651339:True:=trivial
theorem tw6571534079441944859:True:=trivial
theorem tw6572596454559723959:True:=trivial
theorem tw6582122636024827979:True:=trivial
theorem tw6609182314377883552:True:=trivial
theorem tw6622599846432666294:True:=trivial
theorem tw6640560564274660059:True:=trivial
theorem tw6671405123782467812:True:=trivial
theorem tw6677336166311102049:True:=trivial
theorem tw6709186253395904324:True:=trivial
theorem tw6726991244544957647:True:=trivial
theorem tw6744348363089324539:True:=trivial
theorem tw6826871135300226747:True:=trivial
theorem tw6850558805442666743:True:=trivial
theorem tw6917994762801846071:True:=trivial
theorem tw6920633926369099385:True:=trivial
theorem tw6926671575874878646:True:=trivial
theorem tw7017961180356602789:True:=trivial
theorem tw7043265534216568558:True:=trivial
theorem tw7089982830420623685:True:=trivial
theorem tw7142773125077548639:True:=trivial
theorem tw7150972218950789703:True:=trivial
theorem tw718872710312934826:True:=trivial
theorem tw7286934542447240673:True:=trivial
theorem tw73758486015395942:True:=trivial
theorem tw7429593242236994464:True:=trivial
theorem tw7472283379516413522:True:=trivial
theorem tw7479630043536320356:True:=trivial
theorem tw7514150755134579883:True:=trivial
theorem tw7557405133680400961:True:=trivial
theorem tw7649029691889346917:True:=trivial
theorem tw7692138408091733590:True:=trivial
theorem tw769971978763585293:True:=trivial
theorem tw7703634058888512805:True:=trivial
theorem tw7735220966459287801:True:=trivial
theorem tw7759321091020360582:True:=trivial
theorem tw7807027306877737678:True:=trivial
theorem tw7822511882903905956:True:=trivial
theorem tw7823736730479488999:True:=trivial
theorem tw7828126973937872045:True:=trivial
theorem tw7872872331335416586:True:=trivial
theorem tw791125236827710512:True:=trivial
theorem tw7985977857961379068:True:=trivial
theorem tw799576944253068198:True:=trivial
theorem tw8009945873290319299:True:=trivial
theorem tw8015173114991310420:True:=trivial
theorem tw8024172698012205473:True:=trivial
theorem tw8060050277793725400:True:=trivial
theorem tw8186114022124284577:True:=trivial
theorem tw8245851895833391224:True:=trivial
theorem tw8275670203754460632:True:=trivial
theorem tw8292714898099299569:True:=trivial
theorem tw8333619366651325038:True:=trivial
theorem tw8336190781739050944:True:=trivial
theorem tw8337610292342968183:True:=trivial
theorem tw8365579469407213091:True:=trivial
theorem tw8372287555353984766:True:=trivial
theorem tw8379275655122818223:True:=trivial
theorem tw8456118438367292974:True:=trivial
theorem tw8489649886621463384:True:=trivial
theorem tw8524683569091182080:True:=trivial
theorem tw8529497015956621497:True:=trivial
theorem tw8533870000776449432:True:=trivial
theorem tw8591756331996550483:True:=trivial
theorem tw8647034834778797057:True:=trivial
theorem tw869784112098919003:True:=trivial
theorem tw8711899073118716659:True:=trivial
theorem tw8747920439635643390:True:=trivial
theorem tw8751506132123939408:True:=trivial
theorem tw877275176965691037:True:=trivial
theorem tw8774725758866577010:True:=trivial
theorem tw8848502940784986526:True:=trivial
theorem tw8860733200836858616:True:=trivial
theorem tw8908267731239185990:True:=trivial
theorem tw8916942865278647711:True:=trivial
theorem tw8919363090594348995:True:=trivial
theorem tw8958600935070859032:True:=trivial
theorem tw9048428704755764350:True:=trivial
theorem tw9086240941720070429:True:=trivial
theorem tw9113695682851994078:True:=trivial
theorem tw9147465511281160087:True:=trivial
theorem tw9158366316317492711:True:=trivial
theorem tw9167931310954027760:True:=trivial
theorem tw9179105638957330135:True:=trivial
theorem tw9189860419088623386:True:=trivial
theorem tw9198587148642636244:True:=trivial
theorem tw9211695269613498897:True:=trivial
theorem tw9241191703602803539:True:=trivial
theorem tw9347733847275635862:True:=trivial
theorem tw9363126958131962330:True:=trivial
theorem tw9375876478604575598:True:=trivial
theorem tw9450938882624985928:True:=trivial
theorem tw946224151161060473:True:=trivial
theorem tw9497798797940282461:True:=trivial
theorem tw9511864315020696766:True:=trivial
theorem tw9512195890570749254:True:=trivial
theorem tw9542175930319940328:True:=trivial
theorem tw9544709857948519721:True:=trivial
theorem tw9578474695025515010:True:=trivial
theorem tw9610436988586055521:True:=trivial
theorem tw9683702003774218933:True:=trivial
theorem tw9691543182040616839:True:=trivial
theorem tw9712733283545729399:True:=trivial
theorem tw9732742693294332408:True:=trivial
theorem tw9779287560568384210:True:=trivial
theorem tw9784576491032900641:True:=trivial
theorem tw9809047611924795755:True:=trivial
theorem tw9877237468640002219:True:=trivial
theorem tw9974634861285762366:True:=trivial
end PySem.W.Fast
set_option maxRecDepth 100000 in
set_option maxHeartbeats 0 in
theorem PySem.Challenge.cw_wholefract_k99_whole_all_agree_holds : PySem.Challenge.rw_wholefract_k99_whole_all_agree.Holds := by
 w_on;o_law;k_head;(case hw=>w_witness2)
 k_fill
 refine du.walk (l:=PySem.Challenge.rw_wholefract_k99_whole_all_agree) rfl rfl (λ w h Y=>PySem.W.kIn_of Y) ?F
 case F =>
  intro w ax fB h nU G wZ;refine' du.all_mk nU G wZ ?_ ?_ ?_ ?_ ?_ ?_ ?_ ?_ ?_ ?_ ?_ ?_ ?_ ?_ ?_ ?_ ?_ ?_ ?_ ?_ ?_ ?_ ?_ ?_ ?_ ?_ ?_ ?_ ?_ ?_ ?_ ?_ ?_ ?_ ?_ ?_ ?_ ?_ ?_ ?_ ?_ ?_ ?_ ?_ ?_ ?_ ?_ ?_ ?_ ?_ ?_ ?_ ?_ ?_ ?_ ?_ ?_ ?_ ?_ ?_ ?_ ?_ ?_ ?_ ?_ ?_ ?_ ?_ ?_ ?_ ?_ ?_ ?_ ?_ ?_ ?_ ?_ ?_ ?_ ?_ ?_ ?_ ?_ ?_ ?_ ?_ ?_ ?_ ?_ ?_ ?_ ?_ ?_ ?_ ?_ ?_ ?_
  all_goals try (show du.ct _ _ _;exact du.ct.mk (by k_is) (by k_is) (by k_is) (by k_is))
  all_goals try (show du.qv _ _ _ _;exact du.qv.mk (by k_is) (by k_is) (by k_is) (by k_is))
  iterate 3 (all_goals try k_is)
  all_goals try (show Exists _;exact ⟨_,by k_is⟩)
  all_goals k_is