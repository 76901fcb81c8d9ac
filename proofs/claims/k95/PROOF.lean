import PyProof.Rows.All
import Wide.All
import PyProof.EqAt
import PyProof.WalkInts
import OpenK.AllK
import Wide.FinOn
import Lean
import PyProof.EqKinds
import PyProof.TupleCall
import KE.KTryMore
import PyProof.EnumMake
import PyProof.Draws
import PyProof.Rows.MatchSeqLen
import PyProof.StrLawsTight
import PyProof.StrLawsChain
import KE.IntTextText
import PyProof.JoinWalk
import PyProof.Rows.StrWeight2
import PyProof.StrBlock2
import PyProof.FString
import PyProof.StrLawsOcc
import KE.KIntText
import PyProof.SliceStr2
import PyProof.FString5
import KE.KDictSum
import PyProof.Rows.SortStr
import KE.KDictOf
import PyProof.DictIter
import KE.KTops
import PyProof.ReprRoads
import PySem.Challenge.RW_wholefract_k95_desks_answer
set_option Elab.async false
set_option linter.all false
set_option maxRecDepth 100000
set_option maxHeartbeats 4000000
set_option tactic.hygienic false
set_option hygiene false
set_option compiler.extract_closed false
local macro_rules|`(.n)=>`(none)|`(.t)=>`(true)|`(.f)=>`(false)
theorem Y.{u} {α:Sort u} {a:α}:a=a:=rfl
local macro_rules|`(#[$x])=>`(⟨$x⟩)|`(#[$x,$xs,*])=>`(⟨$x,$xs,*⟩)
local macro_rules|`(.ak)=>`(by omega)|`(.aw)=>`(by decide)|`(.zs)=>`(by simp)|`(.bU)=>`(by intro _ _ _ _ h;first|(cases h;subst_vars;rfl)|repeat first|(obtain ⟨rfl,_⟩:=h;rfl)|obtain ⟨_,h⟩:=h)
abbrev cX:=List (Int×Int)
abbrev bp:=List Int
abbrev eQ:=List Nat
abbrev b2:=List PySem.Str
abbrev ec:=Array PySem.Value
abbrev eP:=List (PySem.Addr×PySem.Obj)
abbrev cE:=Option PySem.Value
abbrev aT:=PySem.W.Frag
abbrev ed:=List bp
abbrev dc:=PySem.Value->PySem.Shared->Prop
theorem dP:type_of% @Bool.false_ne_true:=@Bool.false_ne_true
def az:=@PySem.wpAny_bind
def eS:=@PySem.wpAny_holding
def d4:=@PySem.wpAny_field
def bl:=@PySem.wpAny_pure
def qL:=@PySem.wpAny_load
def lp:=@PySem.wpAny_newObj_type
def bo:=@PySem.Heap.get?_push_of_some
def cN:=@PySem.Heap.get?_push_size
theorem bZ:type_of% @PySem.Heap.lt_size:=@PySem.Heap.lt_size
theorem cR:type_of% @Nat.ne_of_lt:=@Nat.ne_of_lt
theorem fi:type_of% @Nat.lt_of_lt_of_le:=@Nat.lt_of_lt_of_le
theorem fj:type_of% @PySem.Heap.size_push:=@PySem.Heap.size_push
def kn:=@Nat.le_succ
theorem lq:type_of% @PySem.Heap.get?_update_self:=@PySem.Heap.get?_update_self
def ta:=@PySem.Obj.isFreed_of_fields
theorem pl:type_of% @PySem.Obj.data_mapFields:=@PySem.Obj.data_mapFields
theorem hT:type_of% @PySem.Heap.get?_update_other:=@PySem.Heap.get?_update_other
def gZ:=@Nat.lt_irrefl
def pn:=@Nat.lt_of_succ_lt
def gm:=@PySem.wpAny_seqItems
theorem fV:type_of% @Int.toNat_natCast:=@Int.toNat_natCast
def lr:=@PySem.wpAny_rule
def qR:=@PySem.wpAny_setField
def pq:=@PySem.Heap.SameBut.update
def lu:=@PySem.wpAny_attempt
def jG:=@PySem.wpAny_callSpecial?_slot
def vW:=@PySem.slot_listiter_next
def iD:=@PySem.wpAny_call_entry
def ps:=@PySem.wpAny_isInstance
def tb:=@PySem.isSubtype_stop
def qS:=@PySem.F.slot_tuple_iterator_next
def A9:=@PySem.F.entry_tuple_iterator_next
def A_:=@PySem.F.args_tuple_iterator_next_1
def vX:=@PySem.wpAny_specialOf
theorem hU:type_of% @List.take_of_length_le:=@List.take_of_length_le
def nL:=@PySem.wpAny_standAt
def nM:=@PySem.wpAny_pyIter_tuple
def mG:=@Nat.lt_succ_self
theorem mH:type_of% @Nat.lt_succ_of_lt:=@Nat.lt_succ_of_lt
def mI:=@PySem.intItems_at
theorem b5:type_of% @List.mem_cons:=@List.mem_cons
theorem dA:type_of% @List.not_mem_nil:=@List.not_mem_nil
theorem dB:type_of% @or_false:=@or_false
theorem dH:type_of% @List.mem_singleton:=@List.mem_singleton
theorem cK:type_of% @decide_eq_false:=@decide_eq_false
theorem nN:type_of% @beq_eq_false_iff_ne:=@beq_eq_false_iff_ne
def dS:=@Option.some.inj
theorem hp:type_of% @List.mem_filter:=@List.mem_filter
def mJ:=@List.mem_range
def dT:=@Nat.le_trans
def vY:=@Nat.le_of_lt
theorem dI:type_of% @List.mem_cons_self:=@List.mem_cons_self
theorem dJ:type_of% @List.mem_cons_of_mem:=@List.mem_cons_of_mem
def vZ:=@PySem.Heap.get?_none_of_le
theorem eT:type_of% @Ne.symm:=@Ne.symm
theorem i1:type_of% @List.mem_append:=@List.mem_append
def pv:=@List.mem_append_left
theorem dK:type_of% @List.getElem?_eq_some_iff:=@List.getElem?_eq_some_iff
theorem pw:type_of% @List.getElem?_set_self:=@List.getElem?_set_self
def eU:=@PySem.wpAny_mono
def v3:=@PySem.Calls.Constant_str
def v5:=@PySem.Calls.Name_function_global
def Ba:=@PySem.Calls.loadGlobal_global
def nO:=@PySem.wpAny_truthy_bool
theorem eV:type_of% @Array.length_toList:=@Array.length_toList
def fD:=@congrArg
def px:=@PySem.wpAny_execs_nil
def pz:=@PySem.wpAny_passesOwn
def hq:=@Nat.ne_of_gt
theorem bL:type_of% @Nat.le_refl:=@Nat.le_refl
def nP:=@PyProof.Rows.callWith_type1
def pA:=@List.mem_filterMap
def iE:=@List.mem_append_right
def fE:=@Nat.zero_le
theorem qT:type_of% @Bool.eq_iff_iff:=@Bool.eq_iff_iff
theorem b8:type_of% @PySem.sizeLine_eq:=@PySem.sizeLine_eq
def v7:=@Array.mem_toList_iff
def Bb:=@PySem.W.plainGet_of
theorem i2:type_of% @beq_iff_eq:=@beq_iff_eq
theorem fW:type_of% @List.length_cons:=@List.length_cons
theorem fv:type_of% @List.map_cons:=@List.map_cons
theorem bb:type_of% @List.length_map:=@List.length_map
def jH:=@PySem.W.kia_one
theorem nQ:type_of% @List.append_nil:=@List.append_nil
def ko:=@PySem.wpAny_call
def jI:=@PySem.codeAny_mono
def kp:=@PySem.wpAny_Call_Name_kw
def pB:=@PySem.W.callWith_K
def Bc:=@PySem.W.callWith_K0
theorem mK:type_of% @List.nodup_cons:=@List.nodup_cons
theorem mL:type_of% @List.of_mem_zip:=@List.of_mem_zip
def v8:=@PySem.W.cellsFrom_some
def tc:=@Option.isSome_iff_exists
theorem i3:type_of% @List.length_take:=@List.length_take
def td:=@PySem.mem_of_lookup
theorem kq:type_of% @List.getElem?_append_right:=@List.getElem?_append_right
theorem jJ:type_of% @List.getElem?_append_left:=@List.getElem?_append_left
theorem dg:type_of% @List.getElem?_map:=@List.getElem?_map
def cg:=@List.mem_of_getElem?
theorem dn:type_of% @List.length_append:=@List.length_append
def Bp:=@PySem.codeAny_call_function
def Bq:=@PySem.W.codeRec_of
def Br:=@PySem.wpAny_newFunctionEnv_cells
theorem dj:type_of% @List.size_toArray:=@List.size_toArray
def qY:=@PyProof.Rows.slot_tuple_getitem
def pG:=@PySem.wpAny_typeOf
theorem eX:type_of% @Bool.and_eq_true:=@Bool.and_eq_true
def pH:=@PySem.typeIs_str
theorem pI:type_of% @List.length_set:=@List.length_set
def Bs:=@PySem.SeqAt.EqAt.int_int
theorem qZ:type_of% @List.all_cons:=@List.all_cons
theorem pJ:type_of% @List.any_cons:=@List.any_cons
def tv:=@PySem.typeIs_int
def wo:=@PySem.Calls.callWith_builtin
def Bt:=@PySem.wpAny_Call_method_late
def tw:=@PySem.Calls.evalArgs_plain
theorem tx:type_of% @List.replicate_succ:=@List.replicate_succ
theorem tA:type_of% @List.append_assoc:=@List.append_assoc
def jM:=@PySem.call_meets
def wq:=@PySem.F.slot_int_rmul
theorem nY:type_of% @Nat.mul_comm:=@Nat.mul_comm
theorem bP:type_of% @decide_eq_true:=@decide_eq_true
theorem gp:type_of% @List.all_eq_true:=@List.all_eq_true
theorem gF:type_of% @List.getD_eq_getElem?_getD:=@List.getD_eq_getElem?_getD
theorem cV:type_of% @List.getElem?_eq_getElem:=@List.getElem?_eq_getElem
def kv:=@List.getElem_mem
def wt:=@Array.toList_inj
theorem c0:type_of% @List.mem_map:=@List.mem_map
def kx:=@PySem.wpAny_setField_rec
def lD:=@PySem.wpAny_onRaise
def Bu:=@PySem.wpAny_updateSeq_pair
def lE:=@PySem.wpAny_letGo
def nZ:=@PySem.F.slot_zip_next
def wu:=@PySem.F.entry_zip_next
def wx:=@PySem.F.args_zip_next_1
def wy:=@PySem.Heap.IsTuple.push
def wz:=@PySem.wpAny_pyIter_zip
def lF:=@Nat.le_add_right
def lG:=@PySem.codeAny_builtin
theorem n0:type_of% @PySem.Around.under_plainId:=@PySem.Around.under_plainId
def n1:=@PySem.plainId_quiet
theorem i9:type_of% @List.length_range:=@List.length_range
theorem hW:type_of% @Int.toNat_of_nonneg:=@Int.toNat_of_nonneg
theorem cM:type_of% @of_decide_eq_true:=@of_decide_eq_true
theorem lH:type_of% @Nat.div_lt_self:=@Nat.div_lt_self
theorem n2:type_of% @Nat.mul_assoc:=@Nat.mul_assoc
def tB:=@Nat.pow_pos
def pK:=@Nat.dvd_of_mod_eq_zero
def Bv:=@Nat.coprime_one_right
def g6:=@List.getElem?_of_mem
theorem n3:type_of% @List.sum_cons:=@List.sum_cons
theorem mQ:type_of% @List.map_set:=@List.map_set
theorem jN:type_of% @List.take_add_one:=@List.take_add_one
theorem ht:type_of% @List.map_append:=@List.map_append
theorem ky:type_of% @List.take_length:=@List.take_length
def jO:=@List.forall_mem_cons
def dV:=@List.forall_mem_nil
theorem pL:type_of% @List.find?_cons:=@List.find?_cons
def tC:=@Option.map_eq_some_iff
def wA:=@PySem.tupleKind_room_in1
def tD:=@PySem.call_meetsIn
def Bw:=@PySem.F.slot_dict_pop
def wB:=@List.ext_getElem
def wC:=@PySem.wpAny_newList
def wD:=@Array.getElem?_eq_some_iff
def Bx:=@PySem.W.isNs_of_in
def wF:=@PySem.F.excBase_ValueError
theorem tE:type_of% @List.contains_cons:=@List.contains_cons
def tF:=@PySem.wpAny_loadPart_at
def wG:=@PySem.wpAny_isSubtype_exc
def q0:=@Option.bind_eq_some_iff
def tG:=@PySem.W.looks_findIn
def wH:=@PySem.F.attr_ValueError
def tH:=@PySem.codeAny_call_builtin
theorem mR:type_of% @Bool.eq_false_iff:=@Bool.eq_false_iff
def q1:=@List.map_congr_left
def By:=@List.length_filterMap_le
theorem lI:type_of% @List.getElem?_zip_eq_some:=@List.getElem?_zip_eq_some
theorem jP:type_of% @List.getElem?_zipWith_eq_some:=@List.getElem?_zipWith_eq_some
theorem n4:type_of% @decide_eq_true_eq:=@decide_eq_true_eq
theorem q2:type_of% @List.length_zipWith:=@List.length_zipWith
def Bz:=@PySem.Code.quiet_builtin
theorem fa:type_of% @List.map_map:=@List.map_map
def BA:=@PySem.F.slot_dict_getitem
def BB:=@PySem.wpAny_Assign_Subscript
theorem mS:type_of% @List.mem_map_of_mem:=@List.mem_map_of_mem
def wI:=@PySem.wpAny_updateSeq
def wJ:=@PySem.F.entry_min_loop
theorem mT:type_of% @PySem.F.plain_min_loop:=@PySem.F.plain_min_loop
def q3:=@PySem.wpAny_tryCatch
def Hu:=@List.eq_nil_of_length_eq_zero
def tI:=@Int.mul_nonneg
theorem mU:type_of% @Int.natCast_nonneg:=@Int.natCast_nonneg
def wK:=@Int.mul_le_mul_of_nonneg_right
def q4:=@PySem.F.slot_dict_get
def BC:=@PySem.F.entry_dict_get
def wL:=@List.cons.inj
def tJ:=@Int.eq_ofNat_of_zero_le
theorem q5:type_of% @Nat.toDigits_of_lt_base:=@Nat.toDigits_of_lt_base
def q6:=@List.ext_getElem?
theorem kz:type_of% @List.getElem?_eq_none:=@List.getElem?_eq_none
def kA:=@PySem.F.plainAttrs_str
def pM:=@PySem.F.slot_str_join
def pN:=@PySem.F.type_str_join
def pO:=@PySem.F.slot_str_split
def BD:=@PySem.F.args_str_split_2
def wM:=@PySem.wpAny_FormattedValue_plain
def q7:=@Nat.lt_or_ge
def tK:=@Bool.and_eq_true_iff
def tL:=@PySem.F.plainAttrs_dict
def BE:=@PySem.F.type_dict_get
def dW:=@PySem.PassesOwn.never
def jQ:=@Int.emod_nonneg
def lJ:=@Int.emod_lt_of_pos
def hu:=@PySem.F.plainAttrs_list
def tM:=@List.mem_of_mem_take
theorem q8:type_of% @Int.natCast_ediv:=@Int.natCast_ediv
def kB:=@PySem.F.slot_list_append
def kC:=@PySem.F.type_list_append
theorem n5:type_of% @List.all_map:=@List.all_map
theorem pP:type_of% @Bool.true_and:=@Bool.true_and
def wN:=@PySem.F.type_str_split
def wO:=@Nat.mul_le_mul_right
variable {Fr:PySem.Addr}
namespace ff
open PySem PyProof.Rows
def In (A:Around) (h:Heap):Prop:=A.handled=.n\/∃ (e:Addr) (b1:Obj) (vs:ec),A.handled=some (.ref e)/\h.get? e=some b1/\b1.data=.fields vs/\vs[2]?=some .none
theorem In.kept (a:In A h) (k:∀ b o,h.get? b=some o->g.get? b=some o):In A g :=
 a.imp id λ ⟨e,b1,vs,af,ai,r⟩=>#[e,b1,vs,af,k _ _ ai,r]
theorem In.but (a:In A h) (d:h.get? j=some o) (no:∀ vs,o.data=.fields vs->vs[2]?≠some .none) (k:Heap.ExtBut j h g):In A g :=
 a.imp id λ ⟨e,b1,vs,af,ai,b,c⟩=>#[e,b1,vs,af,k e b1 (λ z=>by subst z;rw [d] at ai;cases ai;exact no vs b c) ai,b,c]
theorem wk:∀ vs,Data.fields [a,b].toArray=Data.fields vs->vs[2]?≠some .none:=λ vs e=>by
 injection e with e;subst e;exact λ z=>nomatch z
theorem w1 (t):¬ ((Value.ref t==Value.none)=.t):=dP
section
variable {prog:Program} {w:World} {A:Around} {E:dc} {s:Shared}
theorem Xw (e:A.handled=some (.ref h)) (ne:h≠a)
  (c:s.heap.get? a=some o) (hd:o.data=.fields vs) (g:2<vs.size) (f:s.heap.get? h=some i) (d:i.data=.fields aA) (ai:aA[2]?=some .none)
  (q:E (.ref a) { s with heap:=s.heap.update a (Obj.mapFields (·.setIfInBounds 2 (.ref h))) }):wpAny (model prog w) A (raiseNew (.ref a):Sem α) Q E s:=by
 refine az (wpAny_handled ?_);rw [e];dsimp only;rw [if_pos (by simpa using ne)];refine az (eS (runValue_entry (b:=Builtin.«proto.unchain») (entryFor_of_tree (by kernel_rfl)) ?_));unfold Builtin.«proto.unchain»;dsimp only;refine az (d4 f d ai ?_);rw [if_pos (show (Value.none==Value.none)=.t from Y)];refine bl #[.none,Y,?_];refine az ?_;refine az (qL c ?_);rw [hd];dsimp only;rw [if_pos g];refine wpAny_update c ?_;exact wpAny_throw q
theorem stop (a:In A s.heap)
  (q:∀ g e,(∀ b o,s.heap.get? b=some o->g.get? b=some o)->(∃ o,g.get? e=some o/\o.cls=.type "StopIteration")->E (.ref e) { s with heap:=g }) :
  wpAny (model prog w) A ((newExc (.type "StopIteration") []>>=λ x=>raiseNew x):Sem α) Q E s:=by
 refine az ?_;refine az (lp (az (wpAny_of_eq (by (simp only [firstArgMember];rfl)) (lp ?_ (by size_fits)))) (by size_fits));rcases a with a|⟨e,b1,vs,af,ai,c,d⟩
 ·exact wpAny_raiseNew_none a (q _ _ (λ b o y=>bo _ (bo _ y)) #[_,cN _ Y,Y])
 ·have lt:=bZ ai;refine Xw af (cR (fi lt (by rw [fj];exact kn _))) (cN _ Y) rfl (by simp;omega) (bo _ (bo _ ai)) c d ?_;refine q _ _ (λ b o y=>?_) #[_,lq _ (cN _ Y) (ta (pl Y _)),(Obj.cls_mapFields ..).trans Y];have f:=bZ y;refine (hT _ _ ?_).trans (bo _ (bo _ y));intro z;rw [fj] at z;subst z;exact gZ _ (pn f)
theorem J6 {items:ec} (d:In A s.heap) (hit:s.heap.IsListIter it l i) (f:s.heap.IsList l items) (j:items[i]?=.n)
  (q:∀ g e,Heap.ExtBut it s.heap g->(∃ o,g.get? e=some o/\o.cls=.type "StopIteration")->E (.ref e) { s with heap:=g }) :
  wpAny (model prog w) A (Builtin.«list_iterator.__next__» ⟨[.ref it],[]⟩) Q E s:=by
 obtain ⟨o,a,m,hd⟩:=id hit;obtain ⟨ol,h,_,nl,c⟩:=f;show wpAny _ _ (field (.ref it) 0>>=_) _ _ s;refine az (d4 a hd Y ?_);show wpAny _ _ (ite ((Value.ref l==Value.none)=.t) _ _) _ _ s;rw [if_neg (w1 _)];refine az (d4 a hd Y ?_);refine az (gm h c ?_);simp only [fV,j];refine az (lr (az (qR a hd .zs ?_)));have k:=(pq s.heap it (Obj.mapFields (·.setIfInBounds 0 .none))).extBut;exact stop (d.but a (by rw [hd];exact wk) k) λ g e aW x=>q g e (λ b o nb y=>aW b o (k b o nb y)) x
theorem Jt {items:ec} (d:In A s.heap) (hit:s.heap.IsTupleIter it t i) (f:s.heap.IsTuple t items) (j:items[i]?=.n)
  (q:∀ g e,Heap.ExtBut it s.heap g->(∃ o,g.get? e=some o/\o.cls=.type "StopIteration")->E (.ref e) { s with heap:=g }) :
  wpAny (model prog w) A (Builtin.«tuple_iterator.__next__» ⟨[.ref it],[]⟩) Q E s:=by
 obtain ⟨o,a,l,hd⟩:=id hit;obtain ⟨ol,h,_,nl,c⟩:=f;show wpAny _ _ (field (.ref it) 0>>=_) _ _ s;refine az (d4 a hd Y ?_);show wpAny _ _ (ite ((Value.ref t==Value.none)=.t) _ _) _ _ s;rw [if_neg (w1 _)];refine az (d4 a hd Y ?_);refine az (gm h c ?_);simp only [fV,j];refine az (lr (az (qR a hd .zs ?_)));have k:=(pq s.heap it (Obj.mapFields (·.setIfInBounds 0 .none))).extBut;exact stop (d.but a (by rw [hd];exact wk) k) λ g e aW x=>q g e (λ b o nb y=>aW b o (k b o nb y)) x
theorem IV {items:ec} (b:In A s.heap) (hit:s.heap.IsListIter it l i) (c:s.heap.IsList l items) (f:items[i]?=.n)
  (q:∀ g,Heap.ExtBut it s.heap g->Q .n { s with heap:=g }):wpAny (model prog w) A (pyNext (.ref it)) Q E s:=by
 refine az (lu (jG hit.typeIs vW (iD vW hit.typeIs entry_listiter_next ?_ (args_listiter_next _))));exact J6 b hit c f λ g e aW ⟨o,d,a⟩=>az (ps #[o,d,a] tb (bl (q g aW)))
theorem B4 {items:ec} (b:In A s.heap) (hit:s.heap.IsTupleIter it t i) (c:s.heap.IsTuple t items) (f:items[i]?=.n)
  (q:∀ g,Heap.ExtBut it s.heap g->Q .n { s with heap:=g }):wpAny (model prog w) A (pyNext (.ref it)) Q E s:=by
 refine az (lu (jG hit.typeIs qS (iD qS hit.typeIs A9 ?_ (A_ _))));exact Jt b hit c f λ g e aW ⟨o,d,a⟩=>az (ps #[o,d,a] tb (bl (q g aW)))
theorem J7 {items:ec} (a:In A s.heap) (hit:s.heap.IsListIter it l i) (b:s.heap.IsList l items) (c:items[i]?=.n)
  (q:∀ g e,Heap.ExtBut it s.heap g->(∃ o,g.get? e=some o/\o.cls=.type "StopIteration")->E (.ref e) { s with heap:=g }):wpAny (model prog w) A (Builtin.SmallTypes.nextOf (.ref it)) Q E s:=by
 exact az (jG hit.typeIs vW (iD vW hit.typeIs entry_listiter_next (J6 a hit b c q) (args_listiter_next _)))
theorem Ju {items:ec} (a:In A s.heap) (hit:s.heap.IsTupleIter it t i) (b:s.heap.IsTuple t items) (c:items[i]?=.n)
  (q:∀ g e,Heap.ExtBut it s.heap g->(∃ o,g.get? e=some o/\o.cls=.type "StopIteration")->E (.ref e) { s with heap:=g }):wpAny (model prog w) A (Builtin.SmallTypes.nextOf (.ref it)) Q E s:=by
 exact az (jG hit.typeIs qS (iD qS hit.typeIs A9 (Jt a hit b c q) (A_ _)))
theorem W_ {i:Nat} {items:ec} (b:In A s.heap) (he:IsEnum s.heap e it i old) (hit:s.heap.IsListIter it l i) (c:s.heap.IsList l items) (f:items[i]?=.n)
  (q:∀ g,Heap.ExtBut it s.heap g->Q .n { s with heap:=g }):wpAny (model prog w) A (pyNext (.ref e)) Q E s:=by
 have ty:s.TypeIs (.ref e) "enumerate" := #[_,he,Y]
 refine az (lu (jG ty F.slot_enumerate_next (iD F.slot_enumerate_next ty F.entry_enumerate_next ?_ (F.args_enumerate_next_1 _))));show wpAny _ _ (field (.ref e) 2>>=_) _ _ _;refine az (d4 he Y Y (az (J7 b hit c f ?_)));rintro g x aW ⟨o,d,a⟩;exact az (ps #[o,d,a] tb (bl (q _ aW)))
theorem items {items:ec} (c:In A s.heap) (aI:IsTup s.heap t items)
  (q:∀ g,Heap.ExtBut s.heap.objs.size s.heap g->Q items.toList { s with heap:=g }):wpAny (model prog w) A (unpackItems (.ref t) items.size .n) Q E s:=by
 have lt:t≠s.heap.objs.size:=by
  obtain ⟨o,d,_⟩:=aI;exact cR (bZ d)
 refine az ?_;refine az (vX aI.typeIs slot_tuple_iter.lookup (bl ?_));refine az (eS (iter_tuple aI (az (eS (draw_tuple lt items.size 0 _ _ #[_,cN _ Y,Y,Y] (aI.push _) .ak λ g1 gP s1=>?_)))));rw [show List.take items.size (List.drop 0 items.toList)=items.toList by rw [List.drop_zero];exact hU .zs,if_neg .zs];have t1:=(aI.push _).extBut s1.extBut lt;have aW:∀ b o,s.heap.get? b=some o->g1.get? b=some o:=λ b o y=>s1.extBut b o (cR (bZ y)) (bo _ y)
 refine az (eS (B4 (c.kept aW) gP t1 .zs λ g2 a=>?_));exact bl (q g2 λ b o nb y=>a b o nb (aW b o y))
theorem Yi {k} {items:ec} (a:In A s.heap) (aI:IsTup s.heap t items)
  (aB:(assignEach elts env).length=items.size) (aA:(assignEach elts env).findIdx? (·.1)=.n)
  (h:∀ g,Heap.ExtBut s.heap.objs.size s.heap g->wpAny (model prog w) A (assignInOrder ((assignEach elts env).map (·.2)) items.toList) Q E { s with heap:=g }) :
  wpAny (model prog w) A (assign (.Tuple elts k pos) env (.ref t)) Q E s:=by
 rw [assign_Tuple];refine az (nL ?_);unfold unpack;rw [aB,aA];exact az (eS (ff.items a aI h))
end
theorem Zu (af:A.handled=some (.ref e)) (j:b1.data=.fields vs) (k:vs[2]?=some .none) (I a) (m:a≠I) (l:e≠I) (items) :
  Walks prog w A I [I,a,e] [I] items.size (λ i v=>items[i]?=some v) (λ i h=>h.IsListIter I a i/\h.IsList a items/\h.get? e=some b1) where
 sub:=λ b ae=>by simp at ae;simp [ae]
 frame:=λ Z Z Z st ay=>#[st.1.at λ o y=>ay I .zs o y,st.2.1.at λ o y=>ay a .zs o y,ay e .zs _ st.2.2]
 item:=λ i s Q E av st c=>by
  refine wpAny_pyNext_list_item st.1 st.2.1 (x:=items[i]) (by simp [av]) λ g n d=>?_
  exact c _ g s.toks (by simp [av]) #[n,st.2.1.extBut d.extBut m,d.extBut _ _ l st.2.2] λ b o ae y=>d.extBut b o (λ z=>ae (by simp [z])) y
 done:=λ s Q E st c=>IV (.inr #[e,b1,vs,af,st.2.2,j,k]) st.1 st.2.1 .zs λ g f=>c g s.toks λ b o ae y=>f b o (λ z=>ae (by simp [z])) y
 self:=λ Z Z Z Z st c=>wpAny_pyIter_listiter st.1 c
theorem aaj (af:A.handled=some (.ref e)) (j:b1.data=.fields vs) (k:vs[2]?=some .none) (I a) (m:a≠I) (l:e≠I) (items) :
  Walks prog w A I [I,a,e] [I] items.size (λ i v=>items[i]?=some v) (λ i h=>h.IsTupleIter I a i/\h.IsTuple a items/\h.get? e=some b1) where
 sub:=λ b ae=>by simp at ae;simp [ae]
 frame:=λ Z Z Z st ay=>#[st.1.at λ o y=>ay I .zs o y,st.2.1.at λ o y=>ay a .zs o y,ay e .zs _ st.2.2]
 item:=λ i s Q E av st c=>by
  refine wpAny_pyNext_tuple_item st.1 st.2.1 (x:=items[i]) (by simp [av]) λ g n d=>?_
  exact c _ g s.toks (by simp [av]) #[n,st.2.1.extBut d.extBut m,d.extBut _ _ l st.2.2] λ b o ae y=>d.extBut b o (λ z=>ae (by simp [z])) y
 done:=λ s Q E st c=>B4 (.inr #[e,b1,vs,af,st.2.2,j,k]) st.1 st.2.1 .zs λ g f=>c g s.toks λ b o ae y=>f b o (λ z=>ae (by simp [z])) y
 self:=λ Z Z Z Z st c=>wpAny_pyIter_tupleiter st.1 c
section
variable {prog:Program} {w:World} {A:Around} {E:dc} {s:Shared}
theorem max2 (m:In A s.heap)
  (h:∀ g a6,(∀ c o,s.heap.get? c=some o->g.get? c=some o)->Q (if b>a then .int b u else .int a t) { s with heap:=g,toks:=a6 }) :
  wpAny (model prog w) A (call (.builtin "max") [.int a t,.int b u]) Q E s:=by
 rcases m with m|⟨e,b1,vs,af,ai,p,q⟩
 ·exact max_two_ints m h
 have bA:(s.heap.push { cls:=.type "tuple", data:=.seq [.int a t,.int b u].toArray }).IsTuple s.heap.objs.size (intItems [(a,t),(b,u)].toArray):=#[_,cN _ Y,Y,0,by simp [intItems]]
 have lt:=bZ ai;have f:(s.heap.push { cls:=.type "tuple", data:=.seq [.int a t,.int b u].toArray }).objs.size=s.heap.objs.size+1:=fj ..;refine call_max_two (nM bA #[_,[_,s.heap.objs.size,e],[_],_,_,_,_,Y,aaj (A:=A.in1) af p q _ s.heap.objs.size (by rw [f];exact cR (mG _)) (by rw [f];exact cR (mH lt)) (intItems [(a,t),(b,u)].toArray),
  #[#[_,cN _ Y,Y,Y],bA.push _,bo _ (bo _ ai)],λ c d=>?_,by simp [intItems],CmpOf.ints_gt (numAt [(a,t),(b,u)].toArray) (λ Z Z=>mI),λ v g a6 r ay=>?_])
 ·have x:((s.heap.push { cls:=.type "tuple", data:=.seq [.int a t,.int b u].toArray }).push { cls:=.type "tuple_iterator", data:=.fields [.ref s.heap.objs.size,.int 0 0].toArray }).objs.size=s.heap.objs.size+2:=by rw [fj,f]
  rw [x];simp only [b5,dA,dB,f] at d;rcases d with d|d|d
  ·rw [d];exact mG _
  ·rw [d];exact mH (mG _)
  ·rw [d];exact mH (mH lt)
 ·have hold:∀ c o,s.heap.get? c=some o->g.get? c=some o:=λ c o y=>ay c o (λ hm=>by
   have n:=dH.mp hm;have:=bZ y;rw [n,f] at this;exact gZ _ (pn this)) (bo _ (bo _ y))
  have k:(intItems [(a,t),(b,u)].toArray)[argBest (λ i j=>decide (numAt [(a,t),(b,u)].toArray i>numAt [(a,t),(b,u)].toArray j)) 1]?=some v:=by
   have z:(intItems [(a,t),(b,u)].toArray).size-1=1:=by simp [intItems]
   rw [<-z];exact r
  have aM:v=if b>a then Value.int b u else Value.int a t:=by
   by_cases l:b>a
   ·rw [show argBest (λ i j=>decide (numAt [(a,t),(b,u)].toArray i>numAt [(a,t),(b,u)].toArray j)) 1=1 by simp [argBest,numAt,l]] at k;simpa [intItems,l] using k.symm
   ·rw [show argBest (λ i j=>decide (numAt [(a,t),(b,u)].toArray i>numAt [(a,t),(b,u)].toArray j)) 1=0 by simp [argBest,numAt,l]] at k;simpa [intItems,l] using k.symm
  rw [aM];exact h g a6 hold
end
end ff
namespace bt
open PySem PySem.Spec PyProof.Rows
abbrev Key:=Sum Int Str
noncomputable def pb:Key->Value->Bool
 | .inl k,v=>Value.isInt k v
 | .inr x,v=>Value.isStrOf x v
noncomputable def S0 (w:World):Key->Int
 | .inl k=>hashInt k
 | .inr x=>hashStr w x
theorem lO:∀ {k:Key} {v:Value},pb k v=.t->(∃ i t,k=Sum.inl i/\v=Value.int i t)\/(∃ x t,k=Sum.inr x/\v=Value.str x t)
 | .inl i,v,h=>by
  obtain ⟨t,e⟩:=Value.isInt_shape h;exact .inl #[i,t,Y,e]
 | .inr x,v,h=>by
  obtain ⟨t,e⟩:=Value.isStrOf_shape h;exact .inr #[x,t,Y,e]
theorem YO (i) (t):pb (.inl i) (.int i t)=.t:=by simp [pb,Value.isInt]
theorem YP (x) (t):pb (.inr x) (.str x t)=.t:=by simp [pb,Value.isStrOf]
theorem Ug (a b):decide ((Sum.inl a:Key)=Sum.inl b)=(a==b):=by
 by_cases e:a=b
 ·subst e;simp
 ·have h:¬ (Sum.inl a:Key)=Sum.inl b:=λ q=>e (Sum.inl.inj q)
  rw [cK h];exact (nN.mpr e).symm
theorem Uj (a b):decide ((Sum.inr a:Key)=Sum.inr b)=decide (a=b):=by
 by_cases e:a=b
 ·subst e;simp
 ·have h:¬ (Sum.inr a:Key)=Sum.inr b:=λ q=>e (Sum.inr.inj q)
  rw [cK h,cK e]
theorem Uh (a) (b):decide ((Sum.inl a:Key)=Sum.inr b)=.f:=cK (λ q=>nomatch q)
theorem Ui (a) (b):decide ((Sum.inr a:Key)=Sum.inl b)=.f:=cK (λ q=>nomatch q)
noncomputable def g7 (prog:Program) (w:World):PySem.KeyKind prog w Key where
 is:=pb
 hash:=S0 w
 inj:=λ v a b au ae=>by
  rcases lO au with ⟨i,t,rfl,rfl⟩|⟨x,t,rfl,rfl⟩
  ·rcases lO ae with ⟨j,u,rfl,e⟩|⟨y,u,rfl,e⟩
   ·injection e with c _;rw [c]
   ·exact nomatch e
  ·rcases lO ae with ⟨j,u,rfl,e⟩|⟨y,u,rfl,e⟩
   ·exact nomatch e
   ·injection e with c _;rw [c]
 byValue:=λ k v h=>by
  rcases lO h with ⟨i,t,rfl,rfl⟩|⟨x,t,rfl,rfl⟩<;>rfl
 pyHash:=λ aM h=>by
  rcases lO aM with ⟨i,t,rfl,rfl⟩|⟨x,t,rfl,rfl⟩
  ·exact wpAny_pyHash_int h
  ·exact wpAny_pyHash_str h
 eqBool:=λ d aM h=>by
  rcases lO d with ⟨i,t,rfl,rfl⟩|⟨x,t,rfl,rfl⟩
  ·rcases lO aM with ⟨j,u,rfl,rfl⟩|⟨y,u,rfl,rfl⟩
   ·rw [Ug] at h;exact wpAny_eqBool_int h
   ·rw [Uh] at h;exact SeqAt.EqAt.int_str i t y u _ _ _ _ h
  ·rcases lO aM with ⟨j,u,rfl,rfl⟩|⟨y,u,rfl,rfl⟩
   ·rw [Ui] at h;exact SeqAt.EqAt.str_int x t j u _ _ _ _ h
   ·rw [Uj] at h;exact wpAny_eqBool_str h
 «strs»:=λ k x t v h=>by
  rcases lO h with ⟨i,u,rfl,e⟩|⟨y,u,rfl,e⟩
  ·exact nomatch e
  ·injection e with c _;subst c;cases v<;>rfl
theorem LD (prog) (w) (i) (t):(g7 prog w).is (.inl i) (.int i t)=.t:=YO i t
theorem LF (prog) (w) (x) (t):(g7 prog w).is (.inr x) (.str x t)=.t:=YP x t
inductive V where
 | aX|aJ (b:Bool)|int (i:Int)|str (x:Str)|ij (b:Array UInt8)|gO (b:UInt64)|ref (a:Addr)|ty (n:String)
 deriving DecidableEq
def RelV:V->Value->Prop
 | .aX,u=>u=Value.none
 | .aJ b,u=>u=Value.bool b
 | .int i,u=>∃ t,u=Value.int i t
 | .str x,u=>∃ t,u=Value.str x t
 | .ij b,u=>∃ t,u=Value.bytes b t
 | .gO b,u=>∃ t,u=Value.float b t
 | .ref a,u=>u=Value.ref a
 | .ty n,u=>u=Value.type n
abbrev Vals:List V->List Value->Prop:=Paired RelV
theorem Vals.length (r:Vals xs us):xs.length=us.length:=Paired.length r
theorem Vals.get:∀ {xs:List V} {us:List Value} {i:Nat} {x:V},Vals xs us->xs[i]?=some x->∃ u,us[i]?=some u/\RelV x u
 | _,_,_,_,.nil,e=>by simp at e
 | _,_,0,_,.cons r _,e=>by simp at e;subst e;exact #[_,Y,r]
 | _,_,i+1,x,.cons _ t,e=>by
  obtain ⟨u,af,ai⟩:=Vals.get t (by simpa using e);exact #[u,by simpa using af,ai]
theorem Vals.set (r:RelV x u):∀ {xs:List V} {us:List Value} (i:Nat),Vals xs us->Vals (xs.set i x) (us.set i u)
 | _,_,_,.nil=>.nil
 | _,_,0,.cons _ t=>.cons r t
 | _,_,i+1,.cons q t=>.cons q (Vals.set r i t)
theorem Vals.append (h:Vals xs us) (s:Vals ys ws):Vals (xs++ys) (us++ws):=by
 induction h with
 | nil=>exact s
 | cons r t a=>exact .cons r a
theorem Vals.take:∀ {xs:List V} {us:List Value} (n:Nat),Vals xs us->Vals (xs.take n) (us.take n)
 | _,_,0,_=>.nil
 | _,_,_+1,.nil=>.nil
 | _,_,n+1,.cons r t=>.cons r (Vals.take n t)
theorem Vals.drop:∀ {xs:List V} {us:List Value} (n:Nat),Vals xs us->Vals (xs.drop n) (us.drop n)
 | _,_,0,r=>r
 | _,_,_+1,.nil=>.nil
 | _,_,n+1,.cons _ t=>Vals.drop n t
def fP:Option V->cE->Prop
 | some v,some u=>RelV v u
 | none,.n=>True
 | _,_=>False
def fz:List (κ×V)->List (κ×Value)->Prop:=Paired λ p q=>p.1=q.1/\RelV p.2 q.2
noncomputable def c_:Key->V
 | .inl i=>.int i
 | .inr x=>.str x
inductive fe where
 | lst (xs:List V)
 | tup (xs:List V)
 | bW (kvs:List (Key×V))|eK (kvs:List (List Key×V))
 | set (S:Int->Bool) (n:Nat)
 | ins (C aE:Addr) (aj:List (Str×V))
 | own (x:Addr)
 | ia (aj:List (Str×V))
 | met (f x:Addr)
 | oX (lo av:Int)
 | hL (o:Obj) (u:fe)
 | mr (ag:ec)
 | ext (φ : Heap->Prop)
abbrev aC:=Addr->Option fe
noncomputable def upd (H:aC) (a:Addr) (o:fe):aC:=λ b=>if b=a then some o else H b
theorem bc:upd H a o a=some o:=by unfold upd;rw [if_pos rfl]
theorem a3 (h:b≠a):upd H a o b=H b:=by unfold upd;rw [if_neg h]
theorem B6:upd (upd H a o) a u=upd H a u:=by
 funext b;unfold upd;split<;>rfl
theorem cq {H:aC} (h:H a=some o) (h':H b=some u) (d:o≠u):a≠b:=by
 intro e;subst e;rw [h] at h';exact d (dS h')
theorem b0 {H:aC} (h:H a=some o) (h':H b=.n):a≠b:=by
 intro e;subst e;rw [h] at h';cases h'
section
variable (P:Program) (w:World)
def ly (h:Heap) (a:Addr) (items:ec):Prop:=∃ o,h.get? a=some o/\o.cls=.type "tuple" /\ (∃ n,o.data=.seq items n)/\o.dict=.n
theorem ly.up:ly h a items->IsTup h a items:=(by rintro ⟨o,e,c,d,_⟩;exact #[o,e,c,d])
theorem ly.lt:ly h a items->a<h.objs.size:=(by rintro ⟨_,e,_⟩;exact bZ e)
theorem ly.new (h:Heap) (items):ly (h.push { cls:=.type "tuple", data:=.seq items }) h.objs.size items:=#[_,cN _ Y,Y,#[_,Y],Y]
def eg (H:aC) (h:Heap) (a:Addr):fe->Prop
 | .lst xs=>xs.length<=sizeLine/\∃ (b:List Value) (n:Nat),Vals xs b/\h.get? a=some { cls:=.type "list", data:=.seq b.toArray n }
 | .tup xs=>xs.length<=sizeLine/\∃ b:List Value,Vals xs b/\ly h a b.toArray
 | .bW kvs=>kvs.length<=sizeLine/\(a==sysModules)=.f/\∃ vs,fz kvs vs/\h.DictOf (g7 P w) a vs
 | .eK kvs=>kvs.length<=sizeLine/\(a==sysModules)=.f/\∃ xs:List (List Key×Addr×Value),
   Paired (λ (p:List Key×V) (q:List Key×Addr×Value)=>p.1=q.1/\H q.2.1=some (.tup (p.1.map c_))/\RelV p.2 q.2.2) kvs xs /\
   ∃ o ah c,h.get? a=some o/\o.ExactDict/\o.data=.dict ah c/\ah.toList=xs.map (entryOfKey (tupleKind (g7 P w)))/\(xs.map (·.1)).Nodup
 | .set S n=>h.SetOf (intKind P w) a S n
 | .ins C aE aj=>H aE=some (.own a)/\aj.length<=1000/\aE≠a/\h.get? a=some (PySem.W.instObj C aE) /\
   ∃ da,h.Ns1 aE da/\(∀ f,fP (aj.lookup f) (da f))/\PySem.Within da (aj.map (·.1))
 | .own _=>∃ o,h.get? a=some o
 | .ia aj=>∃ da,h.Ns1 a da/\∀ f,fP (aj.lookup f) (da f)
 | .oX lo av=>∃ t u v,h.get? a=some { cls:=.type "range", data:=.fields [.int lo t,.int av u,.int 1 v].toArray }
 | .hL o u=>h.get? a=some o/\eg H h a u
 | .mr ag=>h.get? a=some { cls:=.none,data:=.fields ag }
 | .met f x=>h.get? a=some (PySem.W.methodObj (.ref f) (.ref x))
 | .ext φ => φ h/\(∃ o,h.get? a=some o)/\∀ af ai:Heap,φ af->(∀ o,af.get? a=some o->ai.get? a=some o) -> φ ai
def dt (H:aC) (h:Heap):Prop:=∀ a o,H a=some o->eg P w H h a o
end
section
variable {P:Program} {w:World} {H H':aC} {h h':Heap} {a:Addr} {o:fe}
theorem eg.lt (x:eg P w H h a o):a<h.objs.size:=by
 cases o with
 | lst xs=>obtain ⟨_,_,_,_,e⟩:=x;exact bZ e
 | tup xs=>obtain ⟨_,_,_,p⟩:=x;exact p.lt
 | bW kvs=>obtain ⟨_,_,_,_,o,_,_,e,_⟩:=x;exact bZ e
 | eK kvs=>obtain ⟨_,_,_,_,o,_,_,e,_⟩:=x;exact bZ e
 | set S n=>obtain ⟨o,_,_,_,e,_⟩:=x;exact bZ e
 | ins C aE aj=>obtain ⟨_,_,_,e,_⟩:=x;exact bZ e
 | own y=>obtain ⟨_,e⟩:=x;exact bZ e
 | ia aj=>obtain ⟨_,⟨_,_,_,e,_⟩,_⟩:=x;exact bZ e
 | oX lo av=>obtain ⟨_,_,_,e⟩:=x;exact bZ e
 | hL bQ u=>obtain ⟨e,_⟩:=x;exact bZ e
 | mr ag=>exact bZ (show h.get? a=some _ from x)
 | met f y=>exact bZ (show h.get? a=some _ from x)
 | ext φ => obtain ⟨_,⟨_,e⟩,_⟩:=x;exact bZ e
theorem Paired.FP (h:Paired F l₁ l₂) (f:∀ a b,F a b->G a b):Paired G l₁ l₂:=by
 induction h with
 | nil=>exact .nil
 | cons r t c=>exact .cons (f _ _ r) c
theorem eg.hQ (x:eg P w H h a o) (k:∀ b u,(b=a\/H b=some (.own a))->h.get? b=some u->h'.get? b=some u)
  (l:∀ b,H b=some (.own a)->H' b=some (.own a)) (aI:∀ b xs,H b=some (.tup xs)->H' b=some (.tup xs)):eg P w H' h' a o:=by
 induction o with
 | lst xs=>obtain ⟨z,i,n,r,e⟩:=x;exact #[z,i,n,r,k _ _ (.inl Y) e]
 | tup xs=>obtain ⟨z,i,r,bQ,e,c⟩:=x;exact #[z,i,r,bQ,k _ _ (.inl Y) e,c]
 | bW kvs=>obtain ⟨z,y,vs,r,bQ,ah,g,e,c⟩:=x;exact #[z,y,vs,r,bQ,ah,g,k _ _ (.inl Y) e,c]
 | eK kvs =>
  obtain ⟨z,y,xs,r,bQ,ah,g,e,c⟩:=x;exact #[z,y,xs,Paired.FP r λ p q z=>#[z.1,aI _ _ z.2.1,z.2.2],bQ,ah,g,k _ _ (.inl Y) e,c]
 | set S n=>obtain ⟨bQ,ah,g,t,e,c⟩:=x;exact #[bQ,ah,g,t,k _ _ (.inl Y) e,c]
 | ins C aE aj =>
  obtain ⟨d,z,ne,e,da,⟨cZ,ah,g,j,c⟩,r⟩:=x;exact #[l _ d,z,ne,k _ _ (.inl Y) e,da,#[cZ,ah,g,k _ _ (.inr d) j,c],r]
 | own y=>obtain ⟨bQ,e⟩:=x;exact #[bQ,k _ _ (.inl Y) e]
 | ia aj=>obtain ⟨da,⟨cZ,ah,g,e,c⟩,r⟩:=x;exact #[da,#[cZ,ah,g,k _ _ (.inl Y) e,c],r]
 | oX lo av=>obtain ⟨t,u,v,e⟩:=x;exact #[t,u,v,k _ _ (.inl Y) e]
 | hL bQ u m=>obtain ⟨e,q⟩:=x;exact #[k _ _ (.inl Y) e,m q]
 | mr ag =>
  have e:h.get? a=some { cls:=.none,data:=.fields ag }:=x;show h'.get? a=some { cls:=.none,data:=.fields ag };exact k a _ (.inl Y) e
 | met f y =>
  have e:h.get? a=some (PySem.W.methodObj (.ref f) (.ref y)):=x;show h'.get? a=some (PySem.W.methodObj (.ref f) (.ref y));exact k a _ (.inl Y) e
 | ext φ => obtain ⟨p,⟨o,e⟩,st⟩:=x;exact #[st _ _ p λ o q=>k _ _ (.inl Y) q,#[o,k _ _ (.inl Y) e],st]
theorem dt.lt (x:dt P w H h) (e:H a=some o):a<h.objs.size:=(x a o e).lt
theorem dt.fresh (x:dt P w H h) (e:h.objs.size<=a):H a=.n:=by
 cases q:H a with
 | none=>rfl
 | some u=>exact absurd (fi (x.lt q) e) (gZ _)
theorem dt.kept (x:dt P w H h) (k:∀ b u,h.get? b=some u->h'.get? b=some u):dt P w H h':=λ a o e=>
 (x a o e).hQ (λ b u Z q=>k b u q) (λ Z q=>q) λ Z Z q=>q
theorem dt.laid (x:dt P w H h) (k:∀ b u,h.get? b=some u->h'.get? b=some u) (ar:h.objs.size<=a) (new:eg P w (upd H a o) h' a o):dt P w (upd H a o) h':=λ b u e=>by
 have aB:=x.fresh ar;by_cases ae:b=a
 ·subst ae;rw [bc] at e;cases e;exact new
 ·rw [a3 ae] at e;exact (x b u e).hQ (λ c v Z q=>k c v q) (λ c q=>by rw [a3 (b0 q aB)];exact q) λ c xs q=>by rw [a3 (b0 q aB)];exact q
end
def c8 (H:aC) (a:Addr) (u:fe):Prop:=H a=some u\/∃ o,H a=some (.hL o u)
theorem c8.ok (r:c8 H a u) (x:dt P w H h):eg P w H h a u:=by
 rcases r with r|⟨o,r⟩
 ·exact x a u r
 ·obtain ⟨_,q⟩:=x a _ r;exact q
def r_:Option fe->Prop
 | some (.lst _)=>True
 | some (.bW _)=>True
 | some (.eK _)=>True
 | some (.set _ _)=>True
 | some (.ins _ _ _)=>True
 | some (.ext _)=>True
 | _=>False
section
variable {P:Program} {w:World} {H:aC} {h h':Heap} {x e:Addr} {er:fe}
theorem dt.write (ok:dt P w H h) (f:r_ (H x)) (he:e=x\/H e=some (.own x)) (k:∀ b u,b≠e->h.get? b=some u->h'.get? b=some u) (i:∃ u,h'.get? e=some u)
  (new:eg P w (upd H x er) h' x er):dt P w (upd H x er) h':=λ b u q=>by
 have g:∀ c y,H c=some (.own y)->c≠x:=λ c y r z=>by subst z;rw [r] at f;exact f
 have j:∀ c xs,H c=some (.tup xs)->c≠x:=λ c xs r z=>by subst z;rw [r] at f;exact f
 by_cases ae:b=x
 ·subst ae;rw [bc] at q;cases q;exact new
 ·rw [a3 ae] at q;by_cases a:b=e
  ·have aH:H b=some (.own x):=by
    rcases he with z|z
    ·exact absurd (a.trans z) ae
    ·rw [a];exact z
   rw [q] at aH;cases aH;obtain ⟨v,aM⟩:=i;exact #[v,by rw [a];exact aM]
  ·refine (ok b u q).hQ (λ c v d r=>k c v ?_ r) (λ c r=>by rw [a3 (g c b r)];exact r) λ c xs r=>by rw [a3 (j c xs r)];exact r
   rcases d with rfl|d
   ·exact a
   ·rintro rfl;rcases he with z|z
    ·exact g c b d z
    ·rw [d] at z;cases z;exact ae rfl
end
structure eC (aj ex:List Addr) (H H':aC) (h h':Heap):Prop where
 keep:∀ b o,h.get? b=some o->H b=.n->b∉aj->b∉ex->h'.get? b=some o
 slot:∀ b o,h.get? b=some o->H b=.n->b∈aj->b∉ex->∃ cB,h'.get? b=some { o with slots:=cB }
 free:∀ b o,h.get? b=some o->H b=.n->b∉ex->H' b=.n
 there:∀ b o,h.get? b=some o->b∉ex->∃ er,h'.get? b=some er
 iW:∀ b xs,H b=some (.tup xs)->H' b=some (.tup xs)
 iy:∀ b o u,H b=some (.hL o u)->H' b=some (.hL o u)
 iV:∀ b ag,H b=some (.mr ag)->∃ more,H' b=some (.mr (ag++more))
section
variable {aj PR ex Ee:List Addr} {H H1 ao:aC} {h af ai h':Heap} {a x e:Addr} {o:fe}
theorem eC.any (u:eC aj ex H H1 h af) (q:h.get? b=some bQ) (n:H b=.n) (c:b∉ex):∃ cB,af.get? b=some { bQ with slots:=cB }:=by
 by_cases ae:b∈aj
 ·exact u.slot b bQ q n ae c
 ·exact #[bQ.slots,u.keep b bQ q n ae c]
theorem eC.kept (k:∀ b u,h.get? b=some u->h'.get? b=some u):eC aj ex H H h h' :=
 #[λ b bQ q Z Z Z=>k b bQ q,λ b bQ q Z Z Z=>#[bQ.slots,k b bQ q],λ Z Z Z n Z=>n,λ b bQ q Z=>#[bQ,k b bQ q],λ Z Z q=>q,λ Z Z Z q=>q,λ Z ag q=>#[#[],by rw [q];simp]]
theorem eC.refl:eC aj ex H H h h:=eC.kept λ Z Z q=>q
theorem eC.laid (k:∀ b u,h.get? b=some u->h'.get? b=some u) (ar:h.objs.size<=a) (aB:H a=.n):eC aj ex H (upd H a o) h h' where
 keep:=λ b u q Z Z Z=>k b u q
 slot:=λ b u q Z Z Z=>#[u.slots,k b u q]
 free:=λ b u q n Z=>by rw [a3 (cR (fi (bZ q) ar))];exact n
 there:=λ b u q Z=>#[u,k b u q]
 iW:=λ b xs q=>by rw [a3 (b0 q aB)];exact q
 iy:=λ b u xs q=>by rw [a3 (b0 q aB)];exact q
 iV:=λ b ag q=>#[#[],by rw [a3 (b0 q aB),q];simp]
theorem eC.write (c:r_ (H x)) (he:e=x\/H e=some (.own x)) (k:∀ b u,b≠e->h.get? b=some u->h'.get? b=some u) (g:∃ u,h'.get? e=some u):eC aj ex H (upd H x o) h h':=by
 have f:∀ b,H b=.n->b≠x:=λ b n z=>by subst z;rw [n] at c;exact c
 have ae:∀ b,H b=.n->b≠e:=λ b n z=>by
  subst z;rcases he with r|r
  ·exact f b n r
  ·rw [n] at r;cases r
 have hm:∀ b u,H b=some u->¬ r_ (some u)->b≠x:=λ b u q nm z=>by subst z;rw [q] at c;exact nm c
 refine #[λ b u q n Z Z=>k b u (ae b n) q,λ b u q n Z Z=>#[u.slots,k b u (ae b n) q],λ b u q n Z=>by rw [a3 (f b n)];exact n,λ b u q Z=>?_,
  λ b xs q=>by rw [a3 (hm b _ q λ z=>z)];exact q,λ b u xs q=>by rw [a3 (hm b _ q λ z=>z)];exact q,λ b ag q=>#[#[],by rw [a3 (hm b _ q λ z=>z),q];simp]]
 by_cases d:b=e
 ·subst d;exact g
 ·exact #[u,k b u d q]
end
noncomputable def vu (h:Heap) (H:aC):List Addr:=(List.range h.objs.size).filter λ a=>(H a).isSome
noncomputable def mz (h:Heap) (H:aC):Heap:=PySem.W.hideAll h (vu h H)
theorem YJ (h) (H):(mz h H).objs.size=h.objs.size:=PySem.W.hideAll_size _ _
theorem Xk (e:h.get? b=some o) (n:H b=.n):(mz h H).get? b=some o :=
 PySem.W.hideAll_get _ e λ hm=>by
  have q:=(hp.mp hm).2;rw [n] at q;simp at q
theorem VJ (e:(mz h H).get? b=some o):h.get? b=some o/\H b=.n:=by
 have a:=PySem.W.of_hideAll (vu h H) e;refine #[a,?_];cases q:H b with
 | none=>rfl
 | some x =>
  have hm:b∈vu h H:=hp.mpr #[mJ.mpr (bZ a),by simp [q]];have z:(mz h H).get? b=.n:=PySem.W.hideAll_none (vu h H) hm;rw [z] at e;cases e
structure Mod (K:aT) (mg:Str->cE) (base:Heap):Prop where
 hN:K.In base
 glob:base.Ns mainGlobals mg
 blt:∃ j8,base.Ns builtinsNs j8/\∀ x:Str,x ≠ "__name__" -> j8 x=bootBuiltins x
 nolimit:base.NoLimit
structure a5 where
 prog:Program
 w:World
 K:aT
 mg:Str->cE
 base:Heap
 A:Around
 N:b2
 s₀:Shared
 H₀:aC
 env:Env
 outer:List Env
 stack:List Env
 ex:List Addr
 fn:Str->Bool
 calm:Bool
 warm:Bool
 hE:eP
 ct:Value->Shared->Prop
noncomputable def eF (l:List Env):List Addr:=l.filterMap (·.frame)
noncomputable abbrev a5.aj (X:a5):List Addr:=eF X.outer
def se (sc:Scope) (x:Str):Prop:=sc.names.lookup x=some .local\/sc.names.lookup x=some .cell\/sc.names.lookup x=some .free
def Loc (sc:Scope) (x:Str):Prop:=sc.names.lookup x=some .local\/sc.names.lookup x=some .cell
def Look (env:Env) (h:Heap) (m:Str->cE) (x:Str) (u:Value):Prop :=
 (env.kindOf x=some .local/\m x=some u)\/((env.kindOf x=some .cell\/env.kindOf x=some .free)/\∃ c,env.cells.lookup x=some c/\h.IsCell c (some u))
def qD (A:Around) (h:Heap) (H:aC) (aj ex:List Addr):Prop :=
 A.handled=.n\/∃ (e:Addr) (b1:Obj) (vs:ec),A.handled=some (.ref e)/\h.get? e=some b1/\H e=.n/\e∉aj/\e∉ex/\b1.data=.fields vs/\vs[2]?=some .none
structure a5.Ok (X:a5):Prop where
 mod:Mod X.K X.mg X.base
 kind:X.env.scope.kind=.function
 glob:X.env.globals=mainGlobals
 blt:X.env.builtins=builtinsNs
 above:X.s₀.heap.objs.size<=X.env.locals
 inj:∀ x y c,X.env.cells.lookup x=some c->X.env.cells.lookup y=some c->x=y
 has:∀ x,(X.env.kindOf x=some .cell\/X.env.kindOf x=some .free)->∃ c,X.env.cells.lookup x=some c
 kZ:∀ x c,X.fn x=.t->X.env.cells.lookup x=some c->X.s₀.heap.objs.size<=c
 hd:(X.calm=.t->X.A.handled=.n)/\(X.warm=.t->qD X.A X.s₀.heap X.H₀ X.aj X.ex)
 frames:X.A.frames=some X.stack
 mq:X.stack=X.outer\/(X.stack=X.env::X.outer/\X.env.frame=some X.env.locals)
 oO:∀ b∈X.ex,b≠X.env.locals/\∀ x c,X.env.cells.lookup x=some c->c≠b
 bs:∀ b o,X.base.get? b=some o->X.s₀.heap.get? b=some o/\X.H₀ b=.n
 hg:X.base.objs.size<=X.s₀.heap.objs.size
 lh:∀ b o,X.base.get? b=some o->b∉X.ex
 my:∀ b∈X.ex,b∉X.aj
 gc:X.s₀.heap.FunFrames X.base X.outer
 il:∀ b∈X.aj,X.H₀ b=.n
structure Inv (X:a5) (pins:eP) (σ:List (Option V)) (H:aC) (s:Shared):Prop where
 ok:X.Ok
 os:s.os=X.s₀.os
 bare:AllBare s.gens
 base:eC X.aj X.ex X.H₀ H X.s₀.heap s.heap
 loc:∃ m,s.heap.Ns X.env.locals m/\∀ (i:Nat) (x:Str) (v:V),X.N[i]?=some x->σ[i]?=some (some v)->se X.env.scope x->∃ u,RelV v u/\Look X.env s.heap m x u
 cell:∀ x c,X.env.cells.lookup x=some c->∃ v,s.heap.IsCell c v
 free:H X.env.locals=.n
 fT:∀ x c,X.env.cells.lookup x=some c->H c=.n
 pin:∀ p∈X.hE++pins,s.heap.get? p.1=some p.2/\H p.1=.n/\p.1≠X.env.locals/\p.1∉X.aj/\∀ v,p.2.data≠.cell v
 aS:dt X.prog X.w H s.heap
 len:σ.length=X.N.length
section
variable {X:a5} {pins:eP} {σ:List (Option V)} {H H':aC} {s:Shared} {h':Heap}
theorem a5.Ok.S5 (ok:X.Ok) (e:X.base.get? b=some o):b∉X.aj:=λ ae=>by
 have:=(ok.gc.mem ae).1;rw [e] at this;cases this
theorem Inv.bs (I:Inv X pins σ H s):∀ b o,X.base.get? b=some o->s.heap.get? b=some o/\H b=.n:=λ b o e=>
 #[I.base.keep b o (I.ok.bs b o e).1 (I.ok.bs b o e).2 (I.ok.S5 e) (I.ok.lh b o e),I.base.free b o (I.ok.bs b o e).1 (I.ok.bs b o e).2 (I.ok.lh b o e)]
theorem Inv.aN (I:Inv X pins σ H s):∀ b o,X.base.get? b=some o->s.heap.get? b=some o:=λ b o e=>(I.bs b o e).1
theorem Inv.mod (I:Inv X pins σ H s):Mod X.K X.mg X.base:=I.ok.mod
theorem Inv.Sx (I:Inv X pins σ H s) (hw:X.warm=.t):qD X.A s.heap H X.aj X.ex :=
 (I.ok.hd.2 hw).imp id (by rintro ⟨e,b1,vs,af,ai,b,c,a,r⟩;exact #[e,b1,vs,af,I.base.keep e b1 ai b c a,I.base.free e b1 ai b a,c,a,r])
theorem Inv.f9 (I:Inv X pins σ H s) (hw:X.warm=.t):ff.In X.A s.heap :=
 (I.Sx hw).imp id (by rintro ⟨e,b1,vs,af,ai,_,_,_,r⟩;exact #[e,b1,vs,af,ai,r])
theorem Inv.cT (I:Inv X pins σ H s):X.K.In s.heap:=I.ok.mod.hN.keeps I.aN
theorem Inv.lt (I:Inv X pins σ H s):X.env.locals<s.heap.objs.size:=let ⟨_,aB,_⟩:=I.loc;aB.lt
theorem Inv.fN (I:Inv X pins σ H s):X.s₀.heap.objs.size<=s.heap.objs.size:=dT I.ok.above (vY I.lt)
theorem Inv.S6 (I:Inv X pins σ H s) {a:Addr} (h:s.heap.objs.size<=a):a∉X.aj:=λ ae=>by
 obtain ⟨_,o,b,_⟩:=I.ok.gc.mem ae;exact absurd (fi (bZ b) (dT I.fN h)) (gZ _)
theorem Inv.l8 (I:Inv X pins σ H s):∀ x c,X.env.cells.lookup x=some c->c≠X.env.locals:=λ x c e z=>by
 obtain ⟨v,o,a,hd⟩:=I.cell x c e;obtain ⟨m,⟨er,ah,f,d,b,_⟩,_⟩:=I.loc;rw [z,d] at a;cases a;rw [b] at hd;cases hd
theorem Inv.gc (I:Inv X pins σ H s):s.heap.FunFrames X.base X.outer:=by
 have all:∀ l,(∀ b∈eF l,b∈X.aj)->X.s₀.heap.FunFrames X.base l->s.heap.FunFrames X.base l:=by
  intro l
  induction l with
  | nil=>intro _ _;trivial
  | cons env r g =>
   intro aA c;obtain ⟨ay,⟨L,o,hf,aB,d,hd⟩,f⟩:=c;have a:=aA L (by unfold eF;rw [List.filterMap_cons,hf];exact dI);obtain ⟨cB,e⟩:=I.base.slot L o d (I.ok.il L a) a λ z=>I.ok.my L z a
   exact #[ay,#[L,_,hf,aB,e,hd],g (λ b ae=>aA b (by unfold eF;rw [List.filterMap_cons,hf];exact dJ _ ae)) f]
 exact all X.outer (λ Z ae=>ae) I.ok.gc
theorem Inv.stack (I:Inv X pins σ H s):s.heap.FunFrames X.base X.stack:=by
 rcases I.ok.mq with e|⟨e,hf⟩
 ·rw [e];exact I.gc
 ·rw [e];obtain ⟨m,aB,_⟩:=I.loc;refine .cons (by rw [I.ok.kind];decide) hf aB ?_ I.gc;exact vZ (dT I.ok.hg I.ok.above)
theorem Inv.pE (I:Inv X pins σ H s):∀ b∈eF X.stack,b∈X.env.locals::X.aj:=λ b ae=>by
 rcases I.ok.mq with e|⟨e,hf⟩
 ·rw [e] at ae;exact dJ _ ae
 ·rw [e] at ae;unfold eF at ae;rw [List.filterMap_cons,hf] at ae;exact ae
theorem Inv.Er (I:Inv X pins σ H s) (hw:X.warm=.t) (f:∀ b∈a_,b∈X.ex\/X.s₀.heap.objs.size<=b):qD X.A s.heap H (eF X.stack) a_ :=
 (I.ok.hd.2 hw).imp id λ ⟨e,b1,vs,af,ai,c,d,a,r⟩=>#[e,b1,vs,af,I.base.keep e b1 ai c d a,I.base.free e b1 ai c a,
  λ z=>(b5.mp (I.pE e z)).elim (λ q=>absurd (fi (bZ ai) (by rw [q];exact I.ok.above)) (gZ _)) d,
  λ z=>(f e z).elim a λ q=>absurd (fi (bZ ai) q) (gZ _),r]
theorem Inv.tO (I:Inv X pins σ H s):∀ b∈eF X.stack,H b=.n:=λ b ae=>by
 rcases b5.mp (I.pE b ae) with e|ae
 ·rw [e];exact I.free
 ·obtain ⟨_,o,a,_⟩:=I.ok.gc.mem ae;exact I.base.free b o a (I.ok.il b ae) λ z=>I.ok.my b z ae
theorem Inv.step {ch:List Addr} (I:Inv X pins σ H s)
  (j:∀ b∈ch,(b∈X.ex\/X.s₀.heap.objs.size<=b)/\b≠X.env.locals/\(∀ x c,X.env.cells.lookup x=some c->c≠b)/\∀ p∈X.hE++pins,p.1≠b)
  (keep:∀ b o,b≠X.env.locals->b∉X.aj->b∉ch->s.heap.get? b=some o->H b=.n->h'.get? b=some o)
  (slot:∀ b o,b≠X.env.locals->b∈X.aj->b∉ch->s.heap.get? b=some o->H b=.n->∃ cB,h'.get? b=some { o with slots:=cB }) (free:∀ b o,b∉ch->s.heap.get? b=some o->H b=.n->H' b=.n)
  (there:∀ b o,b∉ch->s.heap.get? b=some o->∃ er,h'.get? b=some er)
  (iW:∀ b xs,H b=some (.tup xs)->H' b=some (.tup xs)) (iy:∀ b o u,H b=some (.hL o u)->H' b=some (.hL o u)) (iV:∀ b ag,H b=some (.mr ag)->∃ more,H' b=some (.mr (ag++more)))
  (ns:∀ m,s.heap.Ns X.env.locals m->h'.Ns X.env.locals m) (aS:dt X.prog X.w H' h') (G:AllBare E) :
  Inv X pins σ H' { s with heap:=h',gens:=E,drawn:=O,toks:=t' }:=by
 have B:∀ b o,X.s₀.heap.get? b=some o->b≠X.env.locals:=λ b o e=>cR (fi (bZ e) I.ok.above)
 have y:∀ b o,X.s₀.heap.get? b=some o->b∉X.ex->b∉ch:=λ b o e a ae=>by
  rcases (j b ae).1 with z|z
  ·exact a z
  ·exact absurd (fi (bZ e) z) (gZ _)
 have cellK:∀ x c,X.env.cells.lookup x=some c->∀ v,s.heap.IsCell c v->h'.IsCell c v:=λ x c e v ⟨o,g,hd⟩=>by
  have t:c∉ch:=λ z=>(j c z).2.2.1 x c e rfl
  by_cases A:c∈X.aj
  ·obtain ⟨cB,q⟩:=slot c o (I.l8 x c e) A t g (I.fT x c e);exact #[_,q,hd]
  ·exact #[o,keep c o (I.l8 x c e) A t g (I.fT x c e),hd]
 refine #[I.ok,I.os,G,#[λ b o e n ae a=>?_,λ b o e n ae a=>?_,λ b o e n a=>?_,λ b o e a=>?_,λ b xs e=>iW b xs (I.base.iW b xs e),λ b o xs e=>iy b o xs (I.base.iy b o xs e),λ b ag e=>?_],?_,λ x c e=>?_,?_,λ x c e=>?_,λ p ar=>?_,aS,I.len]
 ·exact keep b o (B b o e) ae (y b o e a) (I.base.keep b o e n ae a) (I.base.free b o e n a)
 ·obtain ⟨cB,f⟩:=I.base.slot b o e n ae a;obtain ⟨N,h⟩:=slot b _ (B b o e) ae (y b o e a) f (I.base.free b o e n a);exact #[N,h]
 ·obtain ⟨er,f⟩:=I.base.there b o e a;exact free b er (y b o e a) f (I.base.free b o e n a)
 ·obtain ⟨er,f⟩:=I.base.there b o e a;exact there b er (y b o e a) f
 ·obtain ⟨L,f⟩:=I.base.iV b ag e;obtain ⟨M,h⟩:=iV b _ f;exact #[L++M,by rw [h,Array.append_assoc]]
 ·obtain ⟨m,aB,J⟩:=I.loc;refine #[m,ns m aB,λ i x v f h D=>?_];obtain ⟨u,r,l⟩:=J i x v f h D;refine #[u,r,?_];rcases l with l|⟨k,c,e,z⟩
  ·exact .inl l
  ·exact .inr #[k,c,e,cellK x c e _ z]
 ·obtain ⟨v,z⟩:=I.cell x c e;exact #[v,cellK x c e v z]
 ·obtain ⟨m,⟨o,_,_,g,_⟩,_⟩:=I.loc;exact free _ o (λ z=>(j _ z).2.1 Y) g I.free
 ·obtain ⟨v,o,g,hd⟩:=I.cell x c e;exact free c o (λ z=>(j c z).2.2.1 x c e Y) g (I.fT x c e)
 ·obtain ⟨e,n,ne,C,d⟩:=I.pin p ar;have t:p.1∉ch:=λ z=>(j p.1 z).2.2.2 p ar rfl
  exact #[keep p.1 p.2 ne C t e n,free p.1 p.2 t e n,ne,C,d]
theorem Inv.un (I:Inv X pins σ H s) (u:eC X.aj [] H H' s.heap h') (aS:dt X.prog X.w H' h'):Inv X pins σ H' { s with heap:=h',toks:=t' }:=by
 obtain ⟨m,⟨o,ah,i,a,r⟩,_⟩:=id I.loc;obtain ⟨cB,g⟩:=u.any a I.free .zs;exact I.step (ch:=[]) (λ Z z=>nomatch z) (λ b o Z ae Z e n=>u.keep b o e n ae .zs) (λ b o Z ae Z e n=>u.slot b o e n ae .zs) (λ b o Z e n=>u.free b o e n .zs) (λ b o Z e=>u.there b o e .zs) u.iW u.iy u.iV (λ j hm=>by
  obtain ⟨er,f,d,c,h⟩:=hm;rw [a] at c;cases c;exact #[_,f,d,g,h]) aS I.bare
theorem Inv.call (I:Inv X pins σ H s) (u:eC (eF X.stack) ch H H' s.heap h') (aS:dt X.prog X.w H' h') (l:AllBare k)
  (f:∀ b∈ch,(b∈X.ex\/X.s₀.heap.objs.size<=b)/\b≠X.env.locals/\(∀ x c,X.env.cells.lookup x=some c->c≠b)/\∀ p∈X.hE++pins,p.1≠b) :
  Inv X pins σ H' { s with heap:=h',gens:=k,drawn:=t,toks:=t' }:=by
 obtain ⟨m,⟨o,ah,v,g,r⟩,_⟩:=id I.loc;obtain ⟨cB,d⟩:=u.any g I.free λ z=>(f _ z).2.1 rfl
 exact I.step f (λ b o d ae a e n=>u.keep b o e n (λ z=>(b5.mp (I.pE b z)).elim d ae) a) (λ b o Z Z a e n=>u.any e n a) (λ b o a e n=>u.free b o e n a) (λ b o a e=>u.there b o e a) u.iW u.iy u.iV (λ y hm=>by
  obtain ⟨er,j,i,h,q⟩:=hm;rw [g] at h;cases h;exact #[_,j,i,d,q]) aS l
theorem Inv.turned (I:Inv X pins σ H s) (k:∀ b o,b≠it->s.heap.get? b=some o->h'.get? b=some o) (aB:H it=.n) (d:it≠X.env.locals)
  (af:it∈X.ex\/X.s₀.heap.objs.size<=it) (ai:∀ x c,X.env.cells.lookup x=some c->c≠it) (h:∀ p∈X.hE++pins,p.1≠it):Inv X pins σ H { s with heap:=h',toks:=t' }:=by
 have f:∀ b u,H b=some u->b≠it:=λ b u e z=>by rw [z,aB] at e;cases e
 refine I.step (ch:=[it]) (λ b ae=>?_) (λ b o Z Z a e Z=>k b o (λ z=>a (by simp [z])) e) (λ b o Z Z a e Z=>#[o.slots,k b o (λ z=>a (by simp [z])) e]) (λ Z Z Z Z n=>n)
  (λ b o a e=>#[o,k b o (λ z=>a (by simp [z])) e]) (λ Z Z e=>e) (λ Z Z Z e=>e) (λ b ag e=>#[#[],by rw [e];simp]) (λ m hm=>?_) (λ b u e=>?_) I.bare
 ·have e:b=it:=by simpa using ae
  subst e;exact #[af,d,ai,h]
 ·obtain ⟨o,ah,g,i,r⟩:=hm;exact #[o,ah,g,k _ o (eT d) i,r]
 ·refine (I.aS b u e).hQ (λ c v a q=>k c v ?_ q) (λ Z q=>q) λ Z Z q=>q
  rcases a with z|z
  ·rw [z];exact f b u e
  ·exact f c _ z
theorem Inv.tok (I:Inv X pins σ H s) (t):Inv X pins σ H { s with toks:=t }:=I.un eC.refl I.aS
theorem Inv.kept (I:Inv X pins σ H s) (k:∀ b u,s.heap.get? b=some u->h'.get? b=some u):Inv X pins σ H { s with heap:=h',toks:=t' }:=I.un (eC.kept k) (I.aS.kept k)
theorem Inv.laid {a:Addr} (I:Inv X pins σ H s) (k:∀ b u,s.heap.get? b=some u->h'.get? b=some u) (ar:s.heap.objs.size<=a) (new:eg X.prog X.w (upd H a o) h' a o) :
  Inv X pins σ (upd H a o) { s with heap:=h',toks:=t' }:=I.un (eC.laid k ar (I.aS.fresh ar)) (I.aS.laid k ar new)
theorem Inv.write (I:Inv X pins σ H s) (c:r_ (H x)) (he:e=x\/H e=some (.own x)) (k:∀ b u,b≠e->s.heap.get? b=some u->h'.get? b=some u) (a:∃ u,h'.get? e=some u)
  (new:eg X.prog X.w (upd H x o) h' x o):Inv X pins σ (upd H x o) { s with heap:=h',toks:=t' }:=I.un (eC.write c he k a) (I.aS.write c he k a new)
theorem Inv.HX (I:Inv X pins σ H s) (h:∀ p∈qQ,s.heap.get? p.1=some p.2/\H p.1=.n/\p.1≠X.env.locals/\p.1∉X.aj/\∀ v,p.2.data≠.cell v):Inv X qQ σ H s :=
 #[I.ok,I.os,I.bare,I.base,I.loc,I.cell,I.free,I.fT,λ p ar=>(i1.mp ar).elim (λ z=>I.pin p (pv _ z)) (h p),I.aS,I.len]
theorem Ce {N:b2} (e:N.Nodup) {j:Nat} (a:N[i]?=some x) (b:N[j]?=some x):i=j:=by
 obtain ⟨af,c⟩:=dK.mp a;obtain ⟨ai,d⟩:=dK.mp b;exact (List.getElem_inj e).mp (c.trans d.symm)
theorem Kw (I:Inv X pins σ H s) (R:X.N.Nodup) (av:X.N[i]?=some x) (l:Loc X.env.scope x) (r:RelV v u)
  (h:∀ s',Inv X pins (σ.set i (some v)) H s'->(∃ a,Heap.SameBut a s.heap s'.heap/\(a=X.env.locals\/X.env.cells.lookup x=some a))->Q () s') (hf:X.fn x=.t\/X.env.scope.names.lookup x=some .local:=by first|exact .inl Y|exact .inr Y|assumption):wpAny M A (storeName X.env x u) Q E s:=by
 obtain ⟨m,aB,Z⟩:=id I.loc;have Sw:(X.env.scope.kind==.class||(X.env.scope.kind==.module&&X.env.locals != X.env.globals))=.f:=by rw [I.ok.kind];rfl
 have hiσ:i<σ.length:=by rw [I.len];exact (dK.mp av).1
 have l8:=I.l8;have tracked:∀ {a:Addr} {h':Heap},(∃ o,s.heap.get? a=some o/\H a=.n)->Heap.SameBut a s.heap h'->dt X.prog X.w H h':=λ {a h'} au aA b bQ e=>by
  obtain ⟨_,_,aU⟩:=au;refine (I.aS b bQ e).hQ (λ c cm g q=>(aA.2 c ?_).trans q) (λ _ q=>q) λ _ _ q=>q
  rintro rfl;rcases g with rfl|g
  ·rw [aU] at e;cases e
  ·rw [aU] at g;cases g
 rcases l with ay|ay
 ·refine wpAny_storeName_local ay aB (λ h' Qy aA=>?_) Sw;obtain ⟨O8,_,_,QB,_⟩:=id aB;refine h _ #[I.ok,I.os,I.bare,#[λ b o e n ae l=>?_,λ b o e n ae l=>?_,I.base.free,λ b o e l=>?_,I.base.iW,I.base.iy,I.base.iV],#[_,Qy,λ j y P f t D=>?_],λ y c e=>?_,I.free,I.fT,λ p ar=>?_,tracked #[O8,QB,I.free] aA,by simpa using I.len] #[_,aA,.inl Y]
  ·exact (aA.2 b (cR (fi (bZ e) I.ok.above))).trans (I.base.keep b o e n ae l)
  ·obtain ⟨cB,f⟩:=I.base.slot b o e n ae l;exact #[cB,(aA.2 b (cR (fi (bZ e) I.ok.above))).trans f]
  ·obtain ⟨er,f⟩:=I.base.there b o e l;exact #[er,(aA.2 b (cR (fi (bZ e) I.ok.above))).trans f]
  ·by_cases B:j=i
   ·subst B;rw [av] at f;cases f;rw [pw hiσ] at t;cases t;exact #[u,r,.inl #[ay,.zs]]
   ·rw [List.getElem?_set_ne (eT B)] at t;obtain ⟨O,L,q⟩:=Z j y P f t D;refine #[O,L,?_];rcases q with ⟨k,e⟩|⟨k,c,e,z⟩
    ·refine .inl #[k,?_];have:y≠x:=λ e=>B (Ce R f (e ▸ av))
     simp [this,e]
    ·exact .inr #[k,c,e,z.sameBut aA (l8 y c e)]
  ·obtain ⟨cm,z⟩:=I.cell y c e;exact #[cm,z.sameBut aA (l8 y c e)]
  ·obtain ⟨e,n,ne,J,d⟩:=I.pin p ar;exact #[(aA.2 p.1 ne).trans e,n,ne,J,d]
 ·have G:X.fn x=.t:=by
   rcases hf with z|z
   ·exact z
   ·rw [z] at ay;cases ay
  obtain ⟨c,g⟩:=I.ok.has x (.inl ay);obtain ⟨cm,z⟩:=I.cell x c g;refine wpAny_storeName_cell I.ok.kind ay g z (λ h' S aA=>?_);obtain ⟨fs,EC,SK⟩:=id z;refine h { s with heap:=h' } #[I.ok,I.os,I.bare,#[λ b o e n ae l=>?_,λ b o e n ae l=>?_,I.base.free,λ b o e l=>?_,I.base.iW,I.base.iy,I.base.iV],#[m,aB.sameBut aA (eT (l8 x c g)),λ j y P f t D=>?_],λ y C e=>?_,I.free,I.fT,λ p ar=>?_,tracked #[fs,EC,I.fT x c g] aA,by simpa using I.len] #[c,aA,.inr g]
  ·exact (aA.2 b (cR (fi (bZ e) (I.ok.kZ x c G g)))).trans (I.base.keep b o e n ae l)
  ·obtain ⟨cB,f⟩:=I.base.slot b o e n ae l;exact #[cB,(aA.2 b (cR (fi (bZ e) (I.ok.kZ x c G g)))).trans f]
  ·obtain ⟨er,f⟩:=I.base.there b o e l;exact #[er,(aA.2 b (cR (fi (bZ e) (I.ok.kZ x c G g)))).trans f]
  ·by_cases B:j=i
   ·subst B;rw [av] at f;cases f;rw [pw hiσ] at t;cases t;exact #[u,r,.inr #[.inl ay,c,g,S]]
   ·rw [List.getElem?_set_ne (eT B)] at t;obtain ⟨O,L,q⟩:=Z j y P f t D;refine #[O,L,?_];rcases q with q|⟨k,C,e,ib⟩
    ·exact .inl q
    ·refine .inr #[k,C,e,ib.sameBut aA ?_];rintro rfl;exact B (Ce R f (I.ok.inj _ _ _ e g ▸ av))
  ·by_cases T:C=c
   ·subst T;exact #[_,S]
   ·obtain ⟨nj,j_⟩:=I.cell y C e;exact #[nj,j_.sameBut aA T]
  ·obtain ⟨e,n,ne,J,d⟩:=I.pin p ar;refine #[(aA.2 p.1 ?_).trans e,n,ne,J,d];intro q;rw [q,EC] at e;have aH:=dS e;exact d cm (by rw [<-aH];exact SK)
theorem rq (I:Inv X pins σ H s) (b:X.N.Nodup) (av:X.N[i]?=some x) (c:Loc X.env.scope x) (r:RelV v u)
  (h:∀ s',Inv X pins (σ.set i (some v)) H s'->Q () s') (hf:X.fn x=.t\/X.env.scope.names.lookup x=some .local:=by first|exact .inl Y|exact .inr Y|assumption):wpAny M A (storeName X.env x u) Q E s :=
 Kw I b av c r (λ s' a Z=>h s' a) hf
theorem Inv.AR (I:Inv X pins σ H s) (f:s'.os=s.os) (u:eC (eF X.stack) ch H H' s.heap s'.heap) (aS:dt X.prog X.w H' s'.heap) (d:AllBare s'.gens)
  (a:∀ b∈ch,(b∈X.ex\/X.s₀.heap.objs.size<=b)/\b≠X.env.locals/\(∀ x c,X.env.cells.lookup x=some c->c≠b)/\∀ p∈X.hE++pins,p.1≠b):Inv X pins σ H' s':=by
 obtain ⟨h',h,g,t',er⟩:=s';have e:=f;subst e;exact I.call u aS d a
end
abbrev dZ:=Value->Option Addr->aC->Prop
abbrev St:=List (Option V)
abbrev cj:=V->aC->Prop
abbrev TE:=St->aC->cj->Prop
abbrev TT:=St->aC->(Bool->aC->Prop)->Prop
abbrev dh:=St->aC->(List V->aC->Prop)->Prop
structure Ends where
 bg:St->aC->Prop
 jo:cj
 aN:St->aC->Prop:=λ _ _=>False
 cG:St->aC->Prop:=λ _ _=>False
abbrev c9:=Ends->St->aC->Prop
inductive f3 (X:a5) (pins:eP) (σ:St) (Q:cj) (u:Value) (s':Shared):Prop
 |mk (v H'):Inv X pins σ H' s'->RelV v u->Q v H'->f3 X pins σ Q u s'
def yh (X:a5) (pins:eP) (σ:St) (Q:Bool->aC->Prop) (b:Bool) (s':Shared):Prop:=∃ H',Inv X pins σ H' s'/\Q b H'
inductive Dt (X:a5) (pins:eP) (σ:St) (Q:List V->aC->Prop) (us:List Value) (s':Shared):Prop
 |mk (vs H'):Inv X pins σ H' s'->Vals vs us->Q vs H'->Dt X pins σ Q us s'
def gJ (X:a5) (pins:eP) (D:Ends) (f:Flow) (s':Shared):Prop :=
 match f with
 | .next=>∃ σ' H',Inv X pins σ' H' s'/\D.bg σ' H'
 | .brk=>∃ σ' H',Inv X pins σ' H' s'/\D.aN σ' H'
 | .cont=>∃ σ' H',Inv X pins σ' H' s'/\D.cG σ' H'
 | .ret u=>∃ v σ' H',Inv X pins σ' H' s'/\RelV v u/\D.jo v H'
def bG (X:a5) (e:Expr) (t:TE):Prop :=
 ∀ pins s (σ:St) H Q,Inv X pins σ H s->t σ H Q->wpAny (model X.prog X.w) X.A (eval e X.env) (f3 X pins σ Q) X.ct s
def h4 (X:a5) (e:Expr) (t:TT):Prop :=
 ∀ pins s (σ:St) H Q,Inv X pins σ H s->t σ H Q->wpAny (model X.prog X.w) X.A (isTrue e X.env (eval e X.env)) (yh X pins σ Q) X.ct s
def kI (X:a5) (e:Expr) (t:TT):Prop :=
 ∀ whole pins s (σ:St) H Q,Inv X pins σ H s->t σ H Q->wpAny (model X.prog X.w) X.A (isTrue e X.env whole) (yh X pins σ Q) X.ct s
theorem kI.pt (h:kI X e t):h4 X e t:=h _
def fK (X:a5) (ah:List Expr) (t:dh):Prop :=
 ∀ pos pins s (σ:St) H Q,Inv X pins σ H s->t σ H Q->wpAny (model X.prog X.w) X.A (spliced (backTo pos (starEach ah X.env))) (Dt X pins σ Q) X.ct s
def hA (X:a5) (st:Stmt) (t:c9):Prop :=
 ∀ pins s (σ:St) H D,Inv X pins σ H s->t D σ H->wpAny (model X.prog X.w) X.A (exec st X.env) (gJ X pins D) X.ct s
def ie (X:a5) (st:List Stmt) (t:c9):Prop :=
 ∀ pins s (σ:St) H D,Inv X pins σ H s->t D σ H->wpAny (model X.prog X.w) X.A (execs st X.env) (gJ X pins D) X.ct s
theorem a8 {b: α -> Shared->Prop} (h:wpAny M A t Q E s) (c:∀ a s,Q a s->b a s):wpAny M A t b E s:=eU h c λ Z Z x=>x
section
variable {X:a5}
def AL (i:Nat):TE:=λ σ H Q=>∃ v,σ[i]?=some (some v)/\Q v H
def gN (v:V):TE:=λ Z H Q=>Q v H
theorem UD (d:X.N[i]?=some x) (aM:se X.env.scope x) (hd:(x==("__debug__" : Str))=.f:=by decide) (f:(x==("__classdict__" : Str))=.f:=by decide):bG X (.Name x pos) (AL i):=by
 intro pins s σ H Q I h;obtain ⟨v,e,h⟩:=h;obtain ⟨m,aB,g⟩:=I.loc;obtain ⟨u,r,l⟩:=g i x v d e aM;have fin:f3 X pins σ Q u s:=#[v,H,I,r,h]
 rcases l with ⟨ay,hm⟩|⟨ay,c,a,b⟩
 ·exact wpAny_Name (wpAny_loadName_local I.ok.kind ay aB hm fin) hd
 ·rcases ay with ay|ay
  ·exact wpAny_Name (wpAny_loadName_cell I.ok.kind ay a b fin) hd
  ·exact wpAny_Name (wpAny_loadName_free I.ok.kind ay a b fin f) hd
theorem Ux {i j pos}:bG X (.Constant (.int i) j pos) (gN (.int i)):=λ Z Z Z H Z I h=>wpAny_Constant_int #[.int i,H,I.tok _,#[_,Y],h]
theorem TG {b j pos}:bG X (.Constant (.bool b) j pos) (gN (.aJ b)):=λ Z Z Z H Z I h=>Constant_bool #[.aJ b,H,I,Y,h]
theorem He {j pos}:bG X (.Constant .none j pos) (gN .aX):=λ Z Z Z H Z I h=>Constant_none #[.aX,H,I,Y,h]
theorem UB {x j pos}:bG X (.Constant (.str x) j pos) (gN (.str x)):=λ Z Z Z H Z I h=>v3 #[.str x,H,I.tok _,#[_,Y],h]
def cI (X:a5) (x:Str):Prop:=X.env.kindOf x=some .globalImplicit
theorem jS {σ:St} (I:Inv X pins σ H s) (a:cI X x) (hm:X.mg x=some u) (h:Q u s)
  (hd:(x==("__debug__" : Str))=.f:=by decide):wpAny (model X.prog X.w) X.A (eval (.Name x pos) X.env) Q E s :=
 v5 I.ok.kind a (Ba (by rw [I.ok.glob];exact I.mod.glob.keeps I.aN) hm h) hd
theorem kr {σ:St} (I:Inv X pins σ H s) (a:cI X x) (hm:X.mg x=.n) (aM:bootBuiltins x=some u) (h:Q u s)
  (aB:x ≠ "__name__" := by decide) (hd:(x==("__debug__" : Str))=.f:=by decide):wpAny (model X.prog X.w) X.A (eval (.Name x pos) X.env) Q E s:=by
 obtain ⟨j8,af,ai⟩:=I.mod.blt;exact v5 I.ok.kind a (Calls.loadGlobal_builtin (by rw [I.ok.glob];exact I.mod.glob.keeps I.aN) hm (by rw [I.ok.blt];exact af.keeps I.aN) ((ai x aB).trans aM) h) hd
theorem BV (a:cI X x) (hm:X.mg x=some u) (r:RelV v u) (hd:(x==("__debug__" : Str))=.f:=by decide):bG X (.Name x pos) (gN v) :=
 λ Z Z Z H Z I h=>jS I a hm #[v,H,I,r,h] hd
theorem VR (a:cI X x) (hm:X.mg x=.n) (aM:bootBuiltins x=some u) (r:RelV v u) (aB:x ≠ "__name__" := by decide) (hd:(x==("__debug__" : Str))=.f:=by decide):bG X (.Name x pos) (gN v) :=
 λ Z Z Z H Z I h=>kr I a hm aM #[v,H,I,r,h] aB hd
variable {a b:Expr} {aP aQ:TE} {pos:Pos}
def oF (t:TE):TT:=λ σ H Q=>t σ H λ x H1=>∃ c,x=.aJ c/\Q c H1
theorem UQ (h:bG X e t) (he:∀ whole,isTrue e X.env whole=(do let v ← whole;standAt e.pos;holding [v] (truthy v)):=by intro _;rfl):h4 X e (oF t):=by
 intro pins s σ H Q I hw;refine isTrue_plain (a8 (h pins s σ H _ I hw) ?_) (he _);rintro v s1 ⟨x,H1,c,f,aO⟩;obtain ⟨d,rfl,q⟩:=aO;cases f;exact nO #[H1,c,q]
variable {e3 iS:TT} {rest:List Expr}
def F9 (t u:TT):TT:=λ σ H Q=>t σ H λ c H1=>if c=.t then u σ H1 Q else Q .f H1
def Fj (t u:TT):TT:=λ σ H Q=>t σ H λ c H1=>if c=.t then Q .t H1 else u σ H1 Q
def Gf (t:TT):TT:=λ σ H Q=>t σ H λ c H1=>Q (!c) H1
theorem Wg (au:h4 X a e3):kI X (.BoolOp .And [a] pos) e3:=by
 intro d pins s σ H Q I h;refine isTrue_and (a8 (au pins s σ H Q I h) λ c s1 e=>?_);cases c with
 | true=>exact isTrue_and_nil e
 | false=>exact e
theorem UU (au:h4 X a e3):kI X (.BoolOp .Or [a] pos) e3:=by
 intro d pins s σ H Q I h;refine isTrue_or (a8 (au pins s σ H Q I h) λ c s1 e=>?_);cases c with
 | false=>exact isTrue_or_nil e
 | true=>exact e
theorem UT (au:h4 X a e3) (ae:kI X (.BoolOp .And (b::rest) pos) iS):kI X (.BoolOp .And (a::b::rest) pos) (F9 e3 iS):=by
 intro e pins s σ H Q I h;refine isTrue_and (a8 (au pins s σ H _ I h) ?_);rintro c s1 ⟨H1,d,aO⟩;cases c with
 | true=>exact ae e pins s1 σ H1 Q d aO
 | false=>exact #[H1,d,aO]
theorem TO (au:h4 X a e3) (ae:kI X (.BoolOp .Or (b::rest) pos) iS):kI X (.BoolOp .Or (a::b::rest) pos) (Fj e3 iS):=by
 intro e pins s σ H Q I h;refine isTrue_or (a8 (au pins s σ H _ I h) ?_);rintro c s1 ⟨H1,d,aO⟩;cases c with
 | true=>exact #[H1,d,aO]
 | false=>exact ae e pins s1 σ H1 Q d aO
theorem UP (au:h4 X a e3):h4 X (.UnaryOp .Not a pos) (Gf e3):=by
 intro pins s σ H Q I h;exact isTrue_not (au pins s σ H (λ c H1=>Q (!c) H1) I h)
def vT (aP aQ:TE):TE:=λ σ H Q=>aP σ H λ x H1=>∃ c,x=.aJ c/\if c=.t then aQ σ H1 Q else Q (.aJ .f) H1
def Gg (aP aQ:TE):TE:=λ σ H Q=>aP σ H λ x H1=>∃ c,x=.aJ c/\if c=.t then Q (.aJ .t) H1 else aQ σ H1 Q
def GK (aP:TE):TE:=λ σ H Q=>aP σ H λ x H1=>∃ c,x=.aJ c/\Q (.aJ (!c)) H1
theorem UA {op} (h:bG X a t):bG X (.BoolOp op [a] pos) t:=λ pins s σ H Q I hw=>BoolOp_one (h pins s σ H Q I hw)
theorem Uu (au:bG X a aP) (ae:bG X (.BoolOp .And (b::rest) pos) aQ):bG X (.BoolOp .And (a::b::rest) pos) (vT aP aQ):=by
 intro pins s σ H Q I h;refine BoolOp_and (a8 (au pins s σ H _ I h) ?_);rintro v s1 ⟨x,H1,d,e,aO⟩;obtain ⟨c,rfl,aO⟩:=aO;cases e;refine nO ?_;cases c with
 | true=>exact ae pins s1 σ H1 Q d aO
 | false=>exact #[.aJ .f,H1,d,Y,aO]
theorem TK (au:bG X a aP) (ae:bG X (.BoolOp .Or (b::rest) pos) aQ):bG X (.BoolOp .Or (a::b::rest) pos) (Gg aP aQ):=by
 intro pins s σ H Q I h;refine BoolOp_or (a8 (au pins s σ H _ I h) ?_);rintro v s1 ⟨x,H1,d,e,aO⟩;obtain ⟨c,rfl,aO⟩:=aO;cases e;refine nO ?_;cases c with
 | false=>exact ae pins s1 σ H1 Q d aO
 | true=>exact #[.aJ .t,H1,d,Y,aO]
theorem Uz (au:bG X a aP):bG X (.UnaryOp .Not a pos) (GK aP):=by
 intro pins s σ H Q I h;refine UnaryOp_ (a8 (au pins s σ H _ I h) ?_);rintro v s1 ⟨x,H1,d,e,aO⟩;obtain ⟨c,rfl,aO⟩:=aO;cases e;exact not_of (nO #[.aJ (!c),H1,d,Y,aO])
def Fi (t:TT) (aP aQ:TE):TE:=λ σ H Q=>t σ H λ c H1=>if c=.t then aP σ H1 Q else aQ σ H1 Q
theorem XM (f:h4 X c e3) (au:bG X a aP) (ae:bG X b aQ):bG X (.IfExp c a b pos) (Fi e3 aP aQ):=by
 intro pins s σ H Q I h;refine wpAny_IfExp (a8 (f pins s σ H _ I h) ?_);rintro d s1 ⟨H1,e,aO⟩;cases d with
 | true=>exact au pins s1 σ H1 Q e aO
 | false=>exact ae pins s1 σ H1 Q e aO
end
def aK (K:aT) (H:aC) (a:Addr) (xs:List V):Prop :=
 c8 H a (.lst xs) \/
  ∃ (o:Obj) (b:ec) (n:Nat),K.lookup a=some o/\o.cls=.type "list" /\ o.dict=.n/\o.data=.seq b n/\b.size<=sizeLine/\Vals xs b.toList
def aL (K:aT) (H:aC) (a:Addr) (xs:List V):Prop :=
 c8 H a (.tup xs) \/
  ∃ (o:Obj) (b:ec) (n:Nat),K.lookup a=some o/\o.cls=.type "tuple" /\ o.data=.seq b n/\b.size<=sizeLine/\Vals xs b.toList
noncomputable def Si:Value->Option V
 | .none=>some .aX
 | .bool b=>some (.aJ b)
 | .int i _=>some (.int i)
 | .str x _=>some (.str x)
 | .bytes b _=>some (.ij b)
 | .float b _=>some (.gO b)
 | .ref a=>some (.ref a)
 | .type n=>some (.ty n)
 | _=>.n
theorem RelV.abs (r:RelV x u):Si u=some x:=by
 cases x with
 | aX=>cases r;rfl
 | aJ _=>cases r;rfl
 | int _=>obtain ⟨t,rfl⟩:=r;rfl
 | str _=>obtain ⟨t,rfl⟩:=r;rfl
 | ij _=>obtain ⟨t,rfl⟩:=r;rfl
 | gO _=>obtain ⟨t,rfl⟩:=r;rfl
 | ref _=>cases r;rfl
 | ty _=>cases r;rfl
theorem RelV.inj (r:RelV x u) (q:RelV y u):x=y:=dS (r.abs.symm.trans q.abs)
theorem Vals.inj:∀ {xs ys us},Vals xs us->Vals ys us->xs=ys:=by
 intro xs ys us h;induction h generalizing ys with
 | nil=>intro g;cases g;rfl
 | cons r t a=>intro g;cases g with
  | cons b t'=>rw [r.inj b,a t']
section
variable {X:a5} {pins:eP} {σ:St} {H:aC} {s:Shared} {a:Addr} {xs ys:List V}
theorem aK.of {K:aT} (h:H a=some (.lst xs)):aK K H a xs:=.inl (.inl h)
theorem aL.of {K:aT} (h:H a=some (.tup xs)):aL K H a xs:=.inl (.inl h)
theorem Inv.list (I:Inv X pins σ H s) (h:aK X.K H a xs):∃ b,Vals xs b/\PlainL s.heap a b.toArray/\xs.length<=sizeLine:=by
 rcases h with h|⟨o,b,n,ay,c,hd,aA,d,r⟩
 ·obtain ⟨z,b,n,r,e⟩:=h.ok I.aS;exact #[b,r,#[_,n,e,Y,Y,Y],z]
 ·refine #[b.toList,r,#[o,n,I.cT a o ay,c,hd,by simpa using aA],?_];have e:=r.length;simp only [eV] at e;omega
theorem Inv.tuple (I:Inv X pins σ H s) (h:aL X.K H a xs):∃ b,Vals xs b/\IsTup s.heap a b.toArray/\xs.length<=sizeLine:=by
 rcases h with h|⟨o,b,n,ay,c,aA,d,r⟩
 ·obtain ⟨z,b,r,p⟩:=h.ok I.aS;exact #[b,r,p.up,z]
 ·refine #[b.toList,r,#[o,I.cT a o ay,c,n,by simpa using aA],?_];have e:=r.length;simp only [eV] at e;omega
theorem Inv.IW (I:Inv X pins σ H s) (h:aK X.K H a xs) (h':aK X.K H a ys):xs=ys:=by
 obtain ⟨f,r,⟨o,n,e,_,_,d⟩,_⟩:=I.list h;obtain ⟨g,i,⟨er,b3,c,_,_,b⟩,_⟩:=I.list h';rw [e] at c;cases c;rw [d] at b;injection b with jh _;have:f=g:=by simpa using fD Array.toList jh
 subst this;exact r.inj i
theorem Inv.t7 (I:Inv X pins σ H s) (h:aL X.K H a xs) (h':aL X.K H a ys):xs=ys:=by
 obtain ⟨f,r,⟨o,e,_,n,d⟩,_⟩:=I.tuple h;obtain ⟨g,i,⟨er,c,_,b3,b⟩,_⟩:=I.tuple h';rw [e] at c;cases c;rw [d] at b;injection b with jh _;have:f=g:=by simpa using fD Array.toList jh
 subst this;exact r.inj i
end
noncomputable abbrev a5.ll (X:a5) (E:dc):a5:={ X with ct:=E }
noncomputable abbrev a5.sH (X:a5):a5:=X.ll λ Z Z=>False
theorem a5.Ok.ll {X:a5} (ok:X.Ok) (E):(X.ll E).Ok :=
 #[ok.mod,ok.kind,ok.glob,ok.blt,ok.above,ok.inj,ok.has,ok.kZ,ok.hd,ok.frames,ok.mq,ok.oO,ok.bs,ok.hg,ok.lh,ok.my,ok.gc,ok.il]
theorem a5.Ok.nX {X:a5} (ok:(X.ll E).Ok):X.Ok :=
 #[ok.mod,ok.kind,ok.glob,ok.blt,ok.above,ok.inj,ok.has,ok.kZ,ok.hd,ok.frames,ok.mq,ok.oO,ok.bs,ok.hg,ok.lh,ok.my,ok.gc,ok.il]
section
variable {X:a5} {pins:eP} {σ:St} {H:aC} {s:Shared} {E:dc}
theorem Inv.ll (I:Inv X pins σ H s) (E):Inv (X.ll E) pins σ H s:=#[I.ok.ll E,I.os,I.bare,I.base,I.loc,I.cell,I.free,I.fT,I.pin,I.aS,I.len]
theorem Inv.nX (I:Inv (X.ll E) pins σ H s):Inv X pins σ H s:=#[I.ok.nX,I.os,I.bare,I.base,I.loc,I.cell,I.free,I.fT,I.pin,I.aS,I.len]
theorem gJ.nX (h:gJ (X.ll E) pins D f s'):gJ X pins D f s':=by
 cases f with
 | next=>obtain ⟨σ',H',I,q⟩:=h;exact #[σ',H',I.nX,q]
 | brk=>obtain ⟨σ',H',I,q⟩:=h;exact #[σ',H',I.nX,q]
 | cont=>obtain ⟨σ',H',I,q⟩:=h;exact #[σ',H',I.nX,q]
 | ret u=>obtain ⟨v,σ',H',I,r,q⟩:=h;exact #[v,σ',H',I.nX,r,q]
theorem ie.sH {st:List Stmt} (h:ie X.sH st t):ie X st t:=λ pins s σ H D I hw =>
 eU (h pins s σ H D (I.ll _) hw) (λ Z Z q=>q.nX) λ Z Z z=>False.elim z
end
section
variable {X:a5} {st:Stmt} {rest:List Stmt} {t u:c9} {e:Expr} {bx:TE} {pos:Pos}
def GJ:c9:=λ D σ H=>D.bg σ H
def AK (t u:c9):c9:=λ D σ H=>t { D with bg:=u D } σ H
theorem Wa:ie X [] GJ:=λ _ _ σ H _ I h=>px #[σ,H,I,h]
theorem XY (af:hA X st t) (ai:ie X rest u):ie X (st::rest) (AK t u):=by
 intro pins s σ H D I h;refine wpAny_execs_cons (a8 (af pins s σ H { D with bg:=u D } I h) λ f s1 q=>?_);cases f with
 | next =>
  obtain ⟨σ',H',a,q⟩:=q;exact ai pins s1 σ' H' D a q
 | ret v=>exact q
 | brk=>exact q
 | cont=>exact q
theorem Wb (af:hA X st t):ie X [st] t:=by
 intro pins s σ H D I h;refine wpAny_execs_cons (a8 (af pins s σ H D I h) λ f s1 q=>?_);cases f with
 | next=>exact px q
 | ret v=>exact q
 | brk=>exact q
 | cont=>exact q
theorem Inv.quiet {σ:St} (I:Inv X pins σ H s):interactive X.env=.f:=by simp [interactive,I.ok.kind]
def GG (bx:TE):c9:=λ D σ H=>bx σ H λ Z H1=>D.bg σ H1
theorem V9 (he:bG X e bx) (aA:swapsWith e .n pos.line X.env=pure .f:=by rfl):hA X (.Expr e pos) (GG bx):=by
 intro pins s σ H D I h;exact wpAny_Expr_any (a8 (he pins s σ H _ I h) λ v s1 ⟨x,H1,a,b,aO⟩=>#[σ,H1,a,aO]) I.quiet aA
def Gh (bx:TE):c9:=λ D σ H=>bx σ H D.jo
theorem UN (he:bG X e bx):hA X (.Return (some e) pos) (Gh bx):=by
 intro pins s σ H D I h;exact wpAny_Return_some (a8 (he pins s σ H _ I h) λ v s1 ⟨x,H1,a,b,aO⟩=>#[x,σ,H1,a,b,aO])
def Gd (c:TT) (t u:c9):c9:=λ D σ H=>c σ H λ b H1=>if b=.t then t D σ H1 else u D σ H1
theorem TN (g:h4 X c cS) (au:ie X a t) (ae:ie X b u):hA X (.If c a b pos) (Gd cS t u):=by
 intro pins s σ H D I h;refine wpAny_If (a8 (g pins s σ H _ I h) ?_);rintro d s1 ⟨H1,f,aO⟩;cases d with
 | true=>exact au pins s1 σ H1 D f aO
 | false=>exact ae pins s1 σ H1 D f aO
def Hq:c9:=λ Z Z Z=>False
theorem XU:hA X st Hq:=λ Z Z Z Z Z Z h=>h.elim
end
abbrev fp:=V->St->aC->(St->aC->Prop)->Prop
abbrev oL:=List V->St->aC->(St->aC->Prop)->Prop
def je (X:a5) (target:Expr) (t:fp):Prop :=
 ∀ pins s (σ:St) H v u Q,Inv X pins σ H s->RelV v u->t v σ H Q ->
  wpAny (model X.prog X.w) X.A (assign target X.env u) (λ Z s'=>∃ σ' H',Inv X pins σ' H' s'/\Q σ' H') X.ct s
def sb (X:a5) (bH:List Expr) (t:oL):Prop :=
 ∀ pins s (σ:St) H vs us Q,Inv X pins σ H s->Vals vs us->t vs σ H Q ->
  wpAny (model X.prog X.w) X.A (assignInOrder ((assignEach bH X.env).map (·.2)) us) (λ Z s'=>∃ σ' H',Inv X pins σ' H' s'/\Q σ' H') X.ct s
abbrev Ar:=V->V->V->aC->(aC->Prop)->Prop
def vA (X:a5) (t:Ar):Prop :=
 ∀ pins s (σ:St) H (o i v) (b a u) Q,Inv X pins σ H s->RelV o b->RelV i a->RelV v u->t o i v H Q ->
  wpAny (model X.prog X.w) X.A (setItem b a u) (λ Z s'=>∃ H',Inv X pins σ H' s'/\Q H') X.ct s
abbrev zd:=V->V->aC->cj->Prop
def D7 (X:a5) (op:Operator) (t:zd):Prop :=
 ∀ pins s (σ:St) H (x y) (v u) Q,Inv X pins σ H s->RelV x v->RelV y u->t x y H Q ->
  wpAny (model X.prog X.w) X.A (inplaceOp op v u) (f3 X pins σ Q) X.ct s
section
variable {X:a5} {pos:Pos}
def e8 (i:Nat):fp:=λ v σ H Q=>Q (σ.set i (some v)) H
theorem VZ (b:X.N.Nodup) (av:X.N[i]?=some x) (c:Loc X.env.scope x) (hf:X.fn x=.t\/X.env.scope.names.lookup x=some .local:=by first|exact .inl Y|exact .inr Y|assumption):je X (.Name x pos) (e8 i):=by
 intro pins s σ H v u Q I r h;exact wpAny_assign_Name (rq I b av c r (λ s' a=>#[_,H,a,h]) hf)
def qH:oL:=λ vs σ H Q=>vs=[]/\Q σ H
inductive kl (t:fp) (u:oL):oL
 |mk {vs σ H Q} (v r):vs=v::r->(t v σ H λ σ' H'=>u r σ' H' Q)->kl t u vs σ H Q
theorem V0:sb X [] qH:=by
 intro pins s σ H vs us Q I r h;obtain ⟨e,h⟩:=h;subst e;cases r;exact assignInOrder_nil #[σ,H,I,h]
theorem XQ (af:je X e t) (ai:sb X ah u)
  (aA:(assignEach (e::ah) X.env).map (·.2)=assign e X.env::(assignEach ah X.env).map (·.2):=by rfl):sb X (e::ah) (kl t u):=by
 intro pins s σ H vs us Q I r h;obtain ⟨v,c,b,h⟩:=h;subst b;cases r with
 | cons r iM =>
  rw [aA];refine assignInOrder_cons (a8 (af pins s σ H _ _ _ I r h) ?_);rintro _ s1 ⟨σ1,H1,a,aO⟩;exact ai pins s1 σ1 H1 _ _ Q a iM aO
inductive nC (K:aT) (n:Nat) (t:oL):fp
 |mk {v σ H Q} (a xs):v=.ref a->aL K H a xs->xs.length=n->t xs σ H Q->nC K n t v σ H Q
theorem UG (g:X.warm=.t) (h:sb X ah t)
  (aB:(assignEach ah X.env).length=n:=by rfl) (l:(assignEach ah X.env).findIdx? (·.1)=.n:=by rfl):je X (.Tuple ah k pos) (nC X.K n t):=by
 intro pins s σ H v u Q I r hw;obtain ⟨a,xs,f,j,i,hw⟩:=hw;subst f;cases r;obtain ⟨q,c,aI,p⟩:=I.tuple j;refine ff.Yi (I.f9 g) aI (by simp [aB,<-i,c.length]) l λ h' m=>?_
 have d:=I.kept (t':=s.toks) λ b o e=>m b o (cR (bZ e)) e
 exact h pins _ σ H xs _ Q d (by simpa using c) hw
def FC (to b:TE) (t:Ar):fp:=λ v σ H Q=>to σ H λ o H1=>b σ H1 λ i ao=>t o i v ao λ a=>Q σ a
theorem UE (g:bG X o to) (av:bG X i n) (aA:vA X t)
  (au:∀ v,assign (.Subscript o i pos) X.env v=(do
   let a ← holding [v] (eval o X.env)
   let b ← holding [v,a] (eval i X.env)
   standAt pos
   holding [v,a,b] (setItem a b v)
   release [v,a,b] []):=by intro _;rfl):je X (.Subscript o i pos) (FC to n t):=by
 intro pins s σ H v u Q I r h;rw [au];refine az (eS (a8 (g pins s σ H _ I h) ?_));rintro a s1 ⟨x,H1,d,l,aO⟩;refine az (eS (a8 (av pins s1 σ H1 _ d aO) ?_));rintro b s2 ⟨y,ao,e,m,j⟩;refine az (nL (az (eS (a8 (aA pins s2 σ ao x y v a b u _ e l m r j) ?_))));rintro _ s3 ⟨c,f,k⟩;exact wpAny_release #[σ,c,f,k]
def mA (bx:TE) (g:fp):c9:=λ D σ H=>bx σ H λ x H1=>g x σ H1 D.bg
theorem UK (he:bG X e bx) (b:je X bu g) (aA:swapsWithSole [bu] e pos.line X.env=pure .f:=by rfl) (hw:swappedStores [bu] e X.env=pure .n:=by rfl)
  (af:(assignEach [bu] X.env).map (·.2)=[assign bu X.env]:=by rfl):hA X (.Assign [bu] e pos) (mA bx g):=by
 intro pins s σ H D I h;refine wpAny_Assign_stores (a8 (he pins s σ H _ I h) ?_) aA hw;rintro v s1 ⟨x,H1,a,c,aO⟩;rw [af];exact a8 (b pins s1 σ H1 x v _ a c aO) λ Z s2 q=>q
theorem UO (c:X.N.Nodup) (av:X.N[i]?=some x) (d:Loc X.env.scope x) (he:bG X e bx) (aA:swapsWith e (some (.Name x pos')) pos.line X.env=pure .f:=by rfl) (hf:X.fn x=.t\/X.env.scope.names.lookup x=some .local:=by first|exact .inl Y|exact .inr Y|assumption) :
  hA X (.Assign [.Name x pos'] e pos) (mA bx (e8 i)):=by
 intro pins s σ H D I h;refine wpAny_Assign_Name (a8 (he pins s σ H _ I h) ?_) aA;rintro v s1 ⟨y,H1,a,f,aO⟩;exact rq a c av d f (λ s2 b=>#[_,H1,b,aO]) hf
def GF (to f bx:TE) (e:V->V->aC->cj->Prop) (g:zd) (h:Ar):c9:=λ D σ H=>to σ H λ o H1=>f σ H1 λ i ao=>e o i ao λ x a=>bx σ a λ y b=>g x y b λ z c=>h o i z c λ d=>D.bg σ d
def Fu (X:a5) (t:V->V->aC->cj->Prop):Prop :=
 ∀ pins s (σ:St) H (o i) (b a) Q,Inv X pins σ H s->RelV o b->RelV i a->t o i H Q ->
  wpAny (model X.prog X.w) X.A (getItem b a) (f3 X pins σ Q) X.ct s
theorem V8 (x:bG X o to) (av:bG X i M) (w:Fu X L) (he:bG X e bx) (ar:D7 X op N) (aA:vA X O)
  (au:∀ b a new,augStore i b a new=(do holding [new,b,a] (setItem b a new);release [new,b,a] [];pure .next):=by intros;rfl):hA X (.AugAssign (.Subscript o i Gj) op e pos) (GF to M bx L N O):=by
 intro pins s σ H D I h;refine wpAny_AugAssign_SubscriptAny (a8 (x pins s σ H _ I h) ?_) au;rintro b s1 ⟨f,H1,n,c,aO⟩;refine a8 (av pins s1 σ H1 _ n aO) ?_;rintro a s2 ⟨g,ao,p,d,y⟩
 refine a8 (w pins s2 σ ao f g b a _ p c d y) ?_;rintro old s3 ⟨P,j,q,E,z⟩
 refine a8 (he pins s3 σ j _ q z) ?_;rintro v s4 ⟨Q,k,r,G,A⟩
 refine a8 (ar pins s4 σ k P Q old v _ r E G A) ?_;rintro new s5 ⟨R,l,t,J,B⟩
 exact a8 (aA pins s5 σ l f g R b a new _ t c d J B) λ _ S ⟨m,u,C⟩=>#[σ,m,u,C]
def EO (f:Int->Int->Int):zd:=λ x y H Q=>∃ i j,x=.int i/\y=.int j/\Q (.int (f i j)) H
theorem Ud:D7 X .Add (EO λ i j=>i+j):=by
 intro pins s σ H x y v u Q I c d h;obtain ⟨i,j,a,b,q⟩:=h;subst a;subst b;obtain ⟨t,rfl⟩:=c;obtain ⟨t',rfl⟩:=d;exact iadd_int #[.int _,H,I.tok _,#[_,Y],q]
def Bn (c:TT) (aQ:c9):c9:=λ D σ H=>∃ W:Nat->St->aC->Prop,(∃ m,W m σ H)/\∀ m σ H,W m σ H ->
 c σ H λ b H1=>if b=.t then ∃ N,(∀ σ' H',N σ' H'->∃ a,a<m/\W a σ' H')/\aQ { D with bg:=N,cG:=N,aN:=D.bg } σ H1 else D.bg σ H1
theorem XX (ar:PassesOwn (model X.prog X.w) X.A X.env X.ct) (p:h4 X c cS) (ae:ie X body aQ):hA X (.While c body [] pos) (Bn cS aQ):=by
 intro pins s σ H D I h;obtain ⟨W,⟨m0,w0⟩,turn⟩:=h;refine wpAny_While (codeAny_whileLoop (λ n s'=>∃ σ' H',Inv X pins σ' H' s'/\W n σ' H') ?_ m0 #[σ,H,I,w0]);rintro n s1 ⟨σ1,H1,o,q⟩;refine pz ar (a8 (p pins s1 σ1 H1 _ o (turn n σ1 H1 q)) ?_);rintro b s2 ⟨ao,l,d⟩;cases b with
 | true =>
  obtain ⟨N,m,d⟩:=d;rw [if_pos rfl];refine pz ar (a8 (ae pins s2 σ1 ao _ l d) λ f s3 e=>?_);cases f with
  | next =>
   obtain ⟨σ3,a,g,j⟩:=e;obtain ⟨i,hm,k⟩:=m σ3 a j;exact #[i,hm,σ3,a,g,k]
  | cont =>
   obtain ⟨σ3,a,g,j⟩:=e;obtain ⟨i,hm,k⟩:=m σ3 a j;exact #[i,hm,σ3,a,g,k]
  | brk=>exact e
  | ret v=>exact e
 | false =>
  rw [if_neg dP];exact px #[σ1,ao,l,d]
end
structure g_ where
 go:Nat->aC->Prop
 gR:Nat->aC->V->aC->Prop
 stop:Nat->aC->Prop
def lb (X:a5) (pins:eP) (H:aC) (b:Addr):Prop :=
 H b=.n/\b≠X.env.locals/\b∉X.aj/\(b∈X.ex\/X.s₀.heap.objs.size<=b)/\(∀ x c,X.env.cells.lookup x=some c->c≠b)/\∀ p∈X.hE++pins,p.1≠b
theorem Inv.nB {σ:St} {b:Addr} (I:Inv X pins σ H s) (ae:s.heap.objs.size<=b) (aB:H' b=.n):lb X pins H' b:=by
 refine #[aB,hq (fi I.lt ae),I.S6 ae,.inr (dT I.fN ae),λ x c e z=>?_,λ p ar z=>?_]
 ·obtain ⟨v,q⟩:=I.cell x c e;exact absurd (fi q.lt (by rw [z];exact ae)) (gZ _)
 ·exact absurd (fi (bZ (I.pin p ar).1) (by rw [z];exact ae)) (gZ _)
structure Turn (P:Program) (w:World) (K:aT) (c:Bool) (bu:Expr) (J:g_) (a_:List Addr) (it:Addr) (gx:Nat->Heap->Prop):Prop where
 mem:it∈a_
 obj:∀ i h,gx i h->∀ b∈a_,∃ o,h.get? b=some o/\∀ v,o.data≠.cell v
 keep:∀ i h h',gx i h->(∀ b∈a_,∀ o,h.get? b=some o->h'.get? b=some o)->gx i h'
 item:∀ (X:a5),X.prog=P->X.w=w->X.K=K->X.calm=c->X.warm=.t->∀ (i:Nat) (pins:eP) (s:Shared) (σ:St) (H:aC) (E:dc),Inv X pins σ H s->(∀ b∈a_,lb X pins H b)->gx i s.heap->J.go i H ->
  wpAny (model P w) X.A (pyNext (.ref it)) (λ r s1=>∃ u,r=some u /\
   wpAny (model P w) X.A (letOwnedTupleGo bu (.ref it) u) (λ _ s2=>∃ x H',Inv X pins σ H' s2/\RelV x u/\J.gR i H x H'/\gx (i+1) s2.heap/\∀ b∈a_,H' b=.n) E s1) E s
 done:∀ (X:a5),X.prog=P->X.w=w->X.K=K->X.calm=c->X.warm=.t->∀ (i:Nat) (pins:eP) (s:Shared) (σ:St) (H:aC) (E:dc),Inv X pins σ H s->(∀ b∈a_,lb X pins H b)->gx i s.heap->J.stop i H ->
  wpAny (model P w) X.A (pyNext (.ref it)) (λ r s1=>r=.n/\Inv X pins σ H s1) E s
 self:∀ (A:Around) (i:Nat) (s:Shared) (Q:dc) (E:dc),gx i s.heap->Q (.ref it) s->wpAny (model P w) A (pyIter (.ref it)) Q E s
abbrev TI:=St->aC->(g_->aC->Prop)->Prop
inductive uP (X:a5) (pins:eP) (σ:St) (bu:Expr) (R:g_->aC->Prop) (vf:Value) (s2:Shared):Prop
 |mk (it:Addr) (a_:List Addr) (gx:Nat->Heap->Prop) (J:g_) (H':aC):vf=.ref it->Inv X pins σ H' s2->Turn X.prog X.w X.K X.calm bu J a_ it gx->gx 0 s2.heap->(∀ b∈a_,lb X pins H' b)->R J H'->uP X pins σ bu R vf s2
def hz (X:a5) (bu iter:Expr) (a:TI):Prop :=
 ∀ pins s (σ:St) H R,Inv X pins σ H s->a σ H R ->
  wpAny (model X.prog X.w) X.A (eval iter X.env) (λ v s1=>wpAny (model X.prog X.w) X.A (pyIter v) (uP X pins σ bu R) X.ct s1) X.ct s
theorem vN (c:s.heap.get? it=some o) (b:o.cls=.type n) (hd:o.data=.fields vs)
  (aB:["enumerate", "zip", "dict_itemiterator", "dict_reverseitemiterator", "odict_iterator", "itertools.zip_longest", "itertools.pairwise"].contains n=.f) (a:Q () s):wpAny M A (letOwnedTupleGo bu (.ref it) u) Q E s:=by
 cases bu<;>(cases u<;>first
    | exact bl a
    | (refine az (qL c ?_)
       rw [b,hd];show wpAny M A (if (["enumerate", "zip", "dict_itemiterator", "dict_reverseitemiterator", "odict_iterator", "itertools.zip_longest", "itertools.pairwise"].contains n&&vs[0]?==some (rawInt _))=.t then _ else _) Q E s;rw [if_neg (by intro h;rw [aB,Bool.false_and] at h;cases h)];exact bl a))
noncomputable def l5 (K:aT) (a:Addr):g_ :=
 #[λ i H=>∃ xs x,aK K H a xs/\xs[i]?=some x,λ i H x H'=>H'=H/\∀ xs,aK K H a xs->xs[i]?=some x,λ i H=>∃ xs,aK K H a xs/\xs.length<=i]
noncomputable def nr (K:aT) (a:Addr):g_ :=
 #[λ i H=>∃ xs x,aL K H a xs/\xs[i]?=some x,λ i H x H'=>H'=H/\∀ xs,aL K H a xs->xs[i]?=some x,λ i H=>∃ xs,aL K H a xs/\xs.length<=i]
noncomputable def nq (lo:Int) (n:Nat):g_:=#[λ i Z=>i<n,λ i H x H'=>H'=H/\x=.int (lo+i),λ i Z=>n<=i]
theorem Zp {K:aT} (a it):Turn P w K c bu (l5 K a) [it] it (λ i h=>h.IsListIter it a i) where
 mem:=by simp
 obj:=λ i h st b ae=>by
  have e:b=it:=by simpa using ae
  subst e;obtain ⟨o,e,c,d⟩:=st;exact #[o,e,λ v z=>by rw [d] at z;cases z]
 keep:=λ i h h' st k=>st.at λ o e=>k it .zs o e
 item:=by
  intro X m hw l ay t i pins s σ H E I hf st n;subst m hw l;obtain ⟨xs,x,f,q⟩:=n;obtain ⟨J,r,p,G⟩:=I.list f;obtain ⟨u,C,L⟩:=r.get q;obtain ⟨f0,f1,f2,g,f4,j⟩:=hf it .zs;refine wpAny_pyNext_list_item st p.isList (by simpa using C) λ h' y M=>?_
  have A:=I.turned (t':=s.toks) (λ b o ae e=>(M.2 b ae).trans e) f0 f1 g f4 j;obtain ⟨o,e,c,d⟩:=id y;exact #[u,Y,vN e c d .aw #[x,H,A,L,#[Y,λ ys D=>by rw [I.IW D f];exact q],y,λ b ae=>(hf b ae).1]]
 done:=by
  intro X m hw l ay t i pins s σ H E I hf st n;subst m hw l;obtain ⟨xs,f,q⟩:=n;obtain ⟨J,r,p,G⟩:=I.list f;obtain ⟨f0,f1,f2,g,f4,j⟩:=hf it .zs;have N:=r.length;exact ff.IV (I.f9 t) st p.isList (by simp;omega) λ h' B=>#[Y,I.turned (λ b o ae e=>B b o ae e) f0 f1 g f4 j]
 self:=λ Z Z Z Z Z st h=>wpAny_pyIter_listiter st h
theorem aai {K:aT} (a it):Turn P w K c bu (nr K a) [it] it (λ i h=>h.IsTupleIter it a i) where
 mem:=by simp
 obj:=λ i h st b ae=>by
  have e:b=it:=by simpa using ae
  subst e;obtain ⟨o,e,c,d⟩:=st;exact #[o,e,λ v z=>by rw [d] at z;cases z]
 keep:=λ i h h' st k=>st.at λ o e=>k it .zs o e
 item:=by
  intro X m hw l ay t i pins s σ H E I hf st n;subst m hw l;obtain ⟨xs,x,f,q⟩:=n;obtain ⟨J,r,p,G⟩:=I.tuple f;obtain ⟨u,C,L⟩:=r.get q;obtain ⟨f0,f1,f2,g,f4,j⟩:=hf it .zs;refine wpAny_pyNext_tuple_item st p (by simpa using C) λ h' y M=>?_
  have A:=I.turned (t':=s.toks) (λ b o ae e=>(M.2 b ae).trans e) f0 f1 g f4 j;obtain ⟨o,e,c,d⟩:=id y;exact #[u,Y,vN e c d .aw #[x,H,A,L,#[Y,λ ys D=>by rw [I.t7 D f];exact q],y,λ b ae=>(hf b ae).1]]
 done:=by
  intro X m hw l ay t i pins s σ H E I hf st n;subst m hw l;obtain ⟨xs,f,q⟩:=n;obtain ⟨J,r,p,G⟩:=I.tuple f;obtain ⟨f0,f1,f2,g,f4,j⟩:=hf it .zs;have N:=r.length;exact ff.B4 (I.f9 t) st p (by simp;omega) λ h' B=>#[Y,I.turned (λ b o ae e=>B b o ae e) f0 f1 g f4 j]
 self:=λ Z Z Z Z Z st h=>wpAny_pyIter_tupleiter st h
theorem aah (l:c=.t) {K:aT} (it) (lo) (n):Turn P w K c bu (nq lo n) [it] it (λ i h=>IsRangeIter h it (lo+(i:Nat)*1) ((n:Int)-(i:Nat)) 1) where
 mem:=by simp
 obj:=λ i h st b ae=>by
  have e:b=it:=by simpa using ae
  subst e;exact #[_,st,λ v z=>by
   have x:=z;cases x]
 keep:=λ i h h' st k=>k it .zs _ st
 item:=by
  intro X g hw f ay r i pins s σ H E I hf st j;subst g hw f;obtain ⟨f0,f1,f2,a,f4,d⟩:=hf it .zs;have W:=Walks.range (prog:=X.prog) (w:=X.w) (I.ok.hd.1 (ay.trans l)) it lo 1 n;refine W.item i s _ _ j st λ v h' a6 aM m u=>?_
  obtain ⟨t,rfl⟩:=aM;have p:Inv X pins σ H { s with heap:=h',toks:=a6 }:=I.turned (λ b o ae e=>u b o (by simpa using ae) e) f0 f1 a f4 d;refine #[_,Y,vN m Y Y .aw #[.int (lo+i),H,p,#[t,?_],#[Y,Y],m,λ b ae=>(hf b ae).1]];rw [Int.mul_one]
 done:=by
  intro X g hw f ay r i pins s σ H E I hf st j;subst g hw f;obtain ⟨f0,f1,f2,a,f4,d⟩:=hf it .zs;exact wpAny_pyNext_range_end (I.ok.hd.1 (ay.trans l)) st (by have:n<=i:=j;omega) λ h' q=>#[Y,I.turned (λ b o ae e=>q b o ae e) f0 f1 a f4 d]
 self:=λ Z Z Z Z Z st h=>wpAny_pyIter_rangeiter st h
section
variable {X:a5} {bu:Expr}
def Gs (K:aT) (ck:TE):TI:=λ σ H R=>ck σ H λ x H1=>∃ a,x=.ref a/\(∃ xs,aK K H1 a xs)/\R (l5 K a) H1
def FN (K:aT) (ck:TE):TI:=λ σ H R=>ck σ H λ x H1=>∃ a,x=.ref a/\(∃ xs,aL K H1 a xs)/\R (nr K a) H1
theorem V2 (d:bG X l ck):hz X bu l (Gs X.K ck):=by
 intro pins s σ H R I h;refine a8 (d pins s σ H _ I h) ?_;rintro v s1 ⟨x,H1,c,g,aO⟩
 obtain ⟨a,e,⟨xs,f⟩,q⟩:=aO;subst e;cases g;obtain ⟨j,k,p,i⟩:=c.list f;refine wpAny_pyIter_list p.isList ?_;refine #[s1.heap.objs.size,[s1.heap.objs.size],_,_,H1,Y,c.kept λ b o e=>bo _ e,Zp a _,#[_,cN _ Y,Y,Y],λ b ae=>?_,q];have e:b=s1.heap.objs.size:=by simpa using ae
 subst e;exact c.nB (bL _) (c.aS.fresh (bL _))
theorem UI (d:bG X l ck):hz X bu l (FN X.K ck):=by
 intro pins s σ H R I h;refine a8 (d pins s σ H _ I h) ?_;rintro v s1 ⟨x,H1,c,g,aO⟩
 obtain ⟨a,e,⟨xs,f⟩,q⟩:=aO;subst e;cases g;obtain ⟨j,k,p,i⟩:=c.tuple f;refine nM p ?_;refine #[s1.heap.objs.size,[s1.heap.objs.size],_,_,H1,Y,c.kept λ b o e=>bo _ e,aai a _,#[_,cN _ Y,Y,Y],λ b ae=>?_,q];have e:b=s1.heap.objs.size:=by simpa using ae
 subst e;exact c.nB (bL _) (c.aS.fresh (bL _))
theorem Ja (h:X.calm=.t) {σ:St} {lo:Int} (I:Inv X pins σ H s) (af : -(2 ^ 62)<=lo) (ai:lo<2 ^ 62) (f : -(2 ^ 62)<=av) (g:av<2 ^ 62)
  (q:R (nq lo (av-lo).toNat) H):wpAny (model X.prog X.w) X.A (pyIter (.ref s.heap.objs.size)) (uP X pins σ bu R) E { s with heap:=s.heap.push { cls:=.type "range", data:=.fields [.int lo t,.int av u,.int 1 v].toArray },toks:=a6 }:=by
 refine wpAny_pyIter_range (IsRange.new ..) (small_one af ai f g) ?_;have a:Inv X pins σ H { s with heap:=s.heap.push { cls:=.type "range", data:=.fields [.int lo t,.int av u,.int 1 v].toArray },toks:=a6 }:=I.kept λ b o e=>bo _ e
 refine #[(s.heap.push { cls:=.type "range", data:=.fields [.int lo t,.int av u,.int 1 v].toArray }).objs.size,[(s.heap.push { cls:=.type "range", data:=.fields [.int lo t,.int av u,.int 1 v].toArray }).objs.size],_,_,H,Y,
  a.kept λ b o e=>bo _ e,aah h _ lo (av-lo).toNat,?_,λ b ae=>?_,q]
 ·have c:lo+(0:Nat)*1=lo:=by simp
  have d:(((av-lo).toNat:Nat))-(0:Nat)=Builtin.Range.rangeSize lo av 1:=by rw [rangeSize_one];split<;>omega
  rw [c,d];exact cN _ rfl
 ·have e:b=(s.heap.push { cls:=.type "range", data:=.fields [.int lo t,.int av u,.int 1 v].toArray }).objs.size:=by simpa using ae
  subst e;exact a.nB (bL _) (a.aS.fresh (bL _))
def Gu (aP:dh):TI:=λ σ H R=>aP σ H λ vs H1=>∃ j,vs=[.int j] /\ -(2 ^ 62)<=j/\j<2 ^ 62/\R (nq 0 j.toNat) H1
def Gv (aP:dh):TI:=λ σ H R=>aP σ H λ vs H1=>∃ i j,vs=[.int i,.int j]/\(-(2 ^ 62)<=i/\i<2 ^ 62 /\ -(2 ^ 62)<=j/\j<2 ^ 62)/\R (nq i (j-i).toNat) H1
theorem Y7 (d:cI X "range") (hm:X.mg "range" = .n) (au:fK X [a] aP) (aA:starEach [a] X.env=[(.f,eval a X.env)]:=by rfl) (c:X.calm=.t:=by rfl):hz X bu (.Call (.Name "range" p) [a] [] pos) (Gu aP):=by
 intro pins s σ H R I h;refine Call_ (kr I d hm boot_range (nP (a8 (au pos pins s σ H _ I h) ?_) aA Y));rintro us s1 ⟨vs,H1,b,g,aO⟩;obtain ⟨j,e,aO,f,q⟩:=aO;subst e;cases g with
 | cons r iM =>
  cases iM;obtain ⟨t,rfl⟩:=r;exact call_range_1 (Ja c b .ak .ak aO f (by simpa using q))
theorem Y8 (g:cI X "range") (hm:X.mg "range" = .n) (au:fK X [a,b] aP) (aA:starEach [a,b] X.env=[(.f,eval a X.env),(.f,eval b X.env)]:=by rfl) (c:starEach [b] X.env=[(.f,eval b X.env)]:=by rfl) (f:X.calm=.t:=by rfl) :
  hz X bu (.Call (.Name "range" p) [a,b] [] pos) (Gv aP):=by
 intro pins s σ H R I h;refine Call_ (kr I g hm boot_range (nP (a8 (au pos pins s σ H _ I h) ?_) (by rw [aA,c]) (by rw [c];rfl)));rintro us s1 ⟨vs,H1,d,o,aO⟩;obtain ⟨i,j,e,⟨aO,k,l,m⟩,q⟩:=aO;subst e;cases o with
 | cons r iM =>
  cases iM with
  | cons n iM =>
   cases iM;obtain ⟨t,rfl⟩:=r;obtain ⟨t',rfl⟩:=n;exact call_range_2 (Ja f d aO k l m q)
def Gb (b:TI) (g:fp) (aQ:c9):c9:=λ D σ H=>b σ H λ J H1=>∃ W:Nat->Nat->St->aC->Prop,(∃ m,W 0 m σ H1)/\∀ i m σ H,W i m σ H ->
 (J.stop i H/\D.bg σ H)\/(J.go i H/\∃ N,(∀ σ' H',N σ' H'->∃ a,a<m/\W (i+1) a σ' H')/\∀ x H',J.gR i H x H'->g x σ H' λ σ2 ao=>aQ { D with bg:=N,cG:=N,aN:=D.bg } σ2 ao)
noncomputable def tl (a_:List Addr) (h:Heap):eP:=a_.filterMap λ b=>(h.get? b).map λ o=>(b,o)
theorem xv (ae:b∈a_) (e:h.get? b=some o):(b,o)∈tl a_ h:=pA.mpr #[b,ae,by rw [e];rfl]
theorem Y1 (ar:p∈tl a_ h):p.1∈a_/\h.get? p.1=some p.2:=by
 obtain ⟨b,ae,e⟩:=pA.mp ar;cases q:h.get? b with
 | none=>rw [q] at e;cases e
 | some o =>
  rw [q] at e;have a:=dS e;subst a;exact #[ae,q]
theorem Inv.pinned {σ:St} (I:Inv X pins σ H s) (hf:∀ b∈a_,lb X pins H b) (c:∀ b∈a_,∃ o,s.heap.get? b=some o/\∀ v,o.data≠.cell v):Inv X (pins++tl a_ s.heap) σ H s :=
 I.HX λ p ar=>(i1.mp ar).elim (λ z=>I.pin p (iE _ z)) λ z=>by
  obtain ⟨ae,e⟩:=Y1 z;obtain ⟨f0,f1,f2,_⟩:=hf p.1 ae;obtain ⟨o,a,d⟩:=c p.1 ae;rw [e] at a;cases a;exact #[e,f0,f1,f2,d]
theorem Inv.xg {σ:St} (I:Inv X (pins++bw) σ H s):Inv X pins σ H s:=I.HX λ p ar=>I.pin p (iE _ (pv _ ar))
theorem UM (ar:PassesOwn (model X.prog X.w) X.A X.env X.ct) (C:X.warm=.t) (av:hz X bu iter y0) (Z:je X bu g) (ae:ie X body aQ)
  (aA:∀ x,foldedSetIterable iter X.env x=pure x:=by intro _;rfl):hA X (.For bu iter body [] pos) (Gb y0 g aQ):=by
 intro pins s σ H D I h;refine wpAny_For (a8 (av pins s σ H _ I h) λ v s1 af=>a8 af λ vf s2 ai=>?_) aA;obtain ⟨it,a_,gx,J,ao,e,L,T,sQ,f2,W,⟨m0,w0⟩,turn⟩:=ai;subst e;have stat:∀ {H':aC},(∀ b∈a_,H' b=.n)->∀ b∈a_,lb X pins H' b:=λ aB b ae=>#[aB b ae,(f2 b ae).2]
 refine codeAny_forLoop_any (λ n s'=>∃ i σ' H',Inv X pins σ' H' s'/\gx i s'.heap/\(∀ b∈a_,H' b=.n)/\W i n σ' H') ?_ m0 #[0,σ,ao,L,sQ,λ b ae=>(f2 b ae).1,w0];rintro n s3 ⟨i,σ3,l,z,E,B,Pp⟩;rcases turn i n σ3 l Pp with ⟨stop,oB⟩|⟨go,N,aU,step⟩
 ·refine pz ar (a8 (T.done X Y Y Y Y C i pins s3 σ3 l X.ct z (stat B) E stop) ?_);rintro r s4 ⟨p,M⟩;subst p;exact px #[σ3,l,M,oB]
 ·refine pz ar (a8 (T.item X Y Y Y Y C i pins s3 σ3 l X.ct z (stat B) E go) ?_);rintro r s4 ⟨u,p,S⟩;subst p;refine pz ar (a8 S ?_);rintro _ s5 ⟨x,y,O,yN,Py,t,R⟩;have P:=O.pinned (stat R) (T.obj _ _ t);refine pz ar (a8 (Z _ s5 σ3 y x u _ P yN (step x y Py)) ?_);rintro _ hG ⟨σ6,G,Q,uJ⟩;refine pz ar (a8 (ae _ hG σ6 G _ Q uJ) λ f q j=>?_);have again:∀ {σ7:St} {a:aC},Inv X (pins++tl a_ s5.heap) σ7 a q->N σ7 a->∃ m,m<n/\∃ i σ' H',Inv X pins σ' H' q/\gx i q.heap/\(∀ b∈a_,H' b=.n)/\W i m σ' H':=λ {σ7 a} c k=>by
   obtain ⟨j6,hm,Pr⟩:=aU σ7 a k;refine #[j6,hm,i+1,σ7,a,c.xg,T.keep _ _ _ t λ b ae o e=>(c.pin (b,o) (iE _ (iE _ (xv ae e)))).1,λ b ae=>?_,Pr];obtain ⟨o,e,d⟩:=T.obj _ _ t b ae;exact (c.pin (b,o) (iE _ (iE _ (xv ae e)))).2.1
  cases f with
  | next=>obtain ⟨σ7,a,c,k⟩:=j;exact again c k
  | cont=>obtain ⟨σ7,a,c,k⟩:=j;exact again c k
  | brk=>obtain ⟨σ7,a,c,j⟩:=j;exact #[σ7,a,c.xg,j]
  | ret v=>obtain ⟨Pt,σ7,a,c,uM,j⟩:=j;exact #[Pt,σ7,a,c.xg,uM,j]
end
theorem Xb {K:aT} {g:fp} {aQ:c9} {D:Ends} (Pv:Nat->St->aC->Prop) (h0:Pv 0 σ H) (d:∀ i σ H,i<=xs.length->Pv i σ H->aK K H a xs)
  (aA:∀ i x σ H,xs[i]?=some x->Pv i σ H->g x σ H λ σ2 ao=>aQ { D with bg:=Pv (i+1),cG:=Pv (i+1),aN:=D.bg } σ2 ao) (hd:∀ σ H,Pv xs.length σ H->D.bg σ H) :
  ∃ W:Nat->Nat->St->aC->Prop,(∃ m,W 0 m σ H)/\∀ i m σ H,W i m σ H ->
   ((l5 K a).stop i H/\D.bg σ H)\/((l5 K a).go i H/\∃ N,(∀ σ' H',N σ' H'->∃ c,c<m/\W (i+1) c σ' H')/\∀ x H',(l5 K a).gR i H x H'->g x σ H' λ σ2 ao=>aQ { D with bg:=N,cG:=N,aN:=D.bg } σ2 ao):=by
 refine #[λ i m σ H=>m=xs.length-i/\i<=xs.length/\Pv i σ H,#[xs.length,.zs,fE _,h0],?_];rintro i m σ H ⟨rfl,av,p⟩;have q:=d i σ H av p;by_cases b:i<xs.length
 ·refine .inr #[#[xs,xs[i],q,by simp [b]],Pv (i+1),λ σ' H' f=>#[xs.length-(i+1),.ak,Y,b,f],λ x H' y=>?_];obtain ⟨e,y⟩:=y;subst e;exact aA i x σ _ (y xs q) p
 ·have e:i=xs.length:=by omega
  subst e;exact .inl #[#[xs,q,bL _],hd σ H p]
theorem wV {K:aT} {g:fp} {aQ:c9} {D:Ends} (Pv:Nat->St->aC->Prop) (h0:Pv 0 σ H) (d:∀ i σ H,i<=xs.length->Pv i σ H->aL K H a xs)
  (aA:∀ i x σ H,xs[i]?=some x->Pv i σ H->g x σ H λ σ2 ao=>aQ { D with bg:=Pv (i+1),cG:=Pv (i+1),aN:=D.bg } σ2 ao) (hd:∀ σ H,Pv xs.length σ H->D.bg σ H) :
  ∃ W:Nat->Nat->St->aC->Prop,(∃ m,W 0 m σ H)/\∀ i m σ H,W i m σ H ->
   ((nr K a).stop i H/\D.bg σ H)\/((nr K a).go i H/\∃ N,(∀ σ' H',N σ' H'->∃ c,c<m/\W (i+1) c σ' H')/\∀ x H',(nr K a).gR i H x H'->g x σ H' λ σ2 ao=>aQ { D with bg:=N,cG:=N,aN:=D.bg } σ2 ao):=by
 refine #[λ i m σ H=>m=xs.length-i/\i<=xs.length/\Pv i σ H,#[xs.length,.zs,fE _,h0],?_];rintro i m σ H ⟨rfl,av,p⟩;have q:=d i σ H av p;by_cases b:i<xs.length
 ·refine .inr #[#[xs,xs[i],q,by simp [b]],Pv (i+1),λ σ' H' f=>#[xs.length-(i+1),.ak,Y,b,f],λ x H' y=>?_];obtain ⟨e,y⟩:=y;subst e;exact aA i x σ _ (y xs q) p
 ·have e:i=xs.length:=by omega
  subst e;exact .inl #[#[xs,q,bL _],hd σ H p]
theorem jb {lo:Int} {g:fp} {aQ:c9} {D:Ends} (Pv:Nat->St->aC->Prop) (h0:Pv 0 σ H)
  (aA:∀ i σ H,i<n->Pv i σ H->g (.int (lo+i)) σ H λ σ2 ao=>aQ { D with bg:=Pv (i+1),cG:=Pv (i+1),aN:=D.bg } σ2 ao) (hd:∀ σ H,Pv n σ H->D.bg σ H) :
  ∃ W:Nat->Nat->St->aC->Prop,(∃ m,W 0 m σ H)/\∀ i m σ H,W i m σ H ->
   ((nq lo n).stop i H/\D.bg σ H)\/((nq lo n).go i H/\∃ N,(∀ σ' H',N σ' H'->∃ b,b<m/\W (i+1) b σ' H')/\∀ x H',(nq lo n).gR i H x H'->g x σ H' λ σ2 ao=>aQ { D with bg:=N,cG:=N,aN:=D.bg } σ2 ao):=by
 refine #[λ i m σ H=>m=n-i/\i<=n/\Pv i σ H,#[n,.zs,fE _,h0],?_];rintro i m σ H ⟨rfl,av,p⟩;by_cases a:i<n
 ·refine .inr #[a,Pv (i+1),λ σ' H' c=>#[n-(i+1),.ak,Y,a,c],λ x H' y=>?_];obtain ⟨e,y⟩:=y;subst e y;exact aA i σ _ a p
 ·have e:i=n:=by omega
  subst e;exact .inl #[bL _,hd σ H p]
abbrev gu:=V->V->aC->cj->Prop
def cQ (X:a5) (f:Value->Value->Sem Value) (r:gu):Prop :=
 ∀ pins s (σ:St) H (x y) (v u) Q,Inv X pins σ H s->RelV x v->RelV y u->r x y H Q ->
  wpAny (model X.prog X.w) X.A (f v u) (f3 X pins σ Q) X.ct s
def uS (X:a5) (f:Value->Sem Value) (r:V->aC->cj->Prop):Prop :=
 ∀ pins s (σ:St) H x v Q,Inv X pins σ H s->RelV x v->r x H Q ->
  wpAny (model X.prog X.w) X.A (f v) (f3 X pins σ Q) X.ct s
def dG (X:a5) (f:Value) (r:List V->aC->cj->Prop):Prop :=
 ∀ pins s (σ:St) H xs us Q,Inv X pins σ H s->Vals xs us->r xs H Q ->
  wpAny (model X.prog X.w) X.A (call f us) (f3 X pins σ Q) X.ct s
def nz (r:gu) (aP aQ:TE):TE:=λ σ H Q=>aP σ H λ x H1=>aQ σ H1 λ y ao=>r x y ao Q
def Fm (r:V->aC->cj->Prop) (aP:TE):TE:=λ σ H Q=>aP σ H λ x H1=>r x H1 Q
inductive ql (C:Int->Int->Prop) (g:Int->Int->V):gu
 |mk {x y H Q} (i j):x=.int i->y=.int j->C i j->Q (g i j) H->ql C g x y H Q
inductive mn (g:Int->Int->V):gu
 |mk {x y H Q} (i j):x=.int i->y=.int j->Q (g i j) H->mn g x y H Q
def DT (g:Int->V):V->aC->cj->Prop:=λ x H Q=>∃ i,x=.int i/\Q (g i) H
section
variable {X:a5} {a b c:Expr} {aP aQ cS:TE} {pos:Pos}
theorem As (au:bG X a aP) (ae:bG X b aQ) {σ:St} {R:V->V->aC->Prop} (I:Inv X pins σ H s)
  (h:aP σ H λ x H1=>aQ σ H1 λ y ao=>R x y ao) {f:Value->Value->Sem Value}
  (hf:∀ v u s2 x y ao,Inv X pins σ ao s2->RelV x v->RelV y u->R x y ao->wpAny (model X.prog X.w) X.A (f v u) Q X.ct s2) :
  wpAny (model X.prog X.w) X.A (eval a X.env) (λ v s₁=>wpAny (model X.prog X.w) X.A (eval b X.env) (λ u s₂=>wpAny (model X.prog X.w) X.A (f v u) Q X.ct s₂) X.ct s₁) X.ct s:=by
 refine a8 (au pins s σ H _ I h) ?_;rintro v s1 ⟨x,H1,d,i,aO⟩
 refine a8 (ae pins s1 σ H1 _ d aO) ?_;rintro u s2 ⟨y,ao,e,j,g⟩
 exact hf v u s2 x y ao e i j g
theorem TJ (e:cQ X (binaryOp op) r) (au:bG X a aP) (ae:bG X b aQ):bG X (.BinOp a op b pos) (nz r aP aQ):=by
 intro pins s σ H Q I h;exact wpAny_BinOp (As au ae I h λ v u s2 x y ao d f g q=>e pins s2 σ ao x y v u Q d f g q)
theorem TM (e:uS X (unaryOp op) r) (au:bG X a aP):bG X (.UnaryOp op a pos) (Fm r aP):=by
 intro pins s σ H Q I h;exact UnaryOp_ (a8 (au pins s σ H _ I h) λ v s1 ⟨x,H1,d,f,aO⟩=>e pins s1 σ H1 x v Q d f aO)
theorem vj {g:Int->Int->Int}
  (rule:∀ i j t u s Q E,C i j->Q (.int (g i j) s.toks) { s with toks:=s.toks+1 }->wpAny (model X.prog X.w) X.A (f (.int i t) (.int j u)) Q E s) :
  cQ X f (ql C λ i j=>.int (g i j)):=by
 intro pins s σ H x y v u Q I e k h;obtain ⟨i,j,rfl,rfl,d,q⟩:=h;obtain ⟨t,rfl⟩:=e;obtain ⟨t',rfl⟩:=k;exact rule i j t t' s _ _ d #[.int (g i j),H,I.tok _,#[_,Y],q]
theorem FU {g:Int->Int->Int}
  (rule:∀ i j t u s Q E,Q (.int (g i j) s.toks) { s with toks:=s.toks+1 }->wpAny (model X.prog X.w) X.A (f (.int i t) (.int j u)) Q E s) :
  cQ X f (mn λ i j=>.int (g i j)):=by
 intro pins s σ H x y v u Q I d e h;obtain ⟨i,j,rfl,rfl,q⟩:=h;obtain ⟨t,rfl⟩:=d;obtain ⟨t',rfl⟩:=e;exact rule i j t t' s _ _ #[.int (g i j),H,I.tok _,#[_,Y],q]
theorem vJ {g:Int->Int->Bool}
  (rule:∀ i j t u s Q E,Q (.bool (g i j)) s->wpAny (model X.prog X.w) X.A (f (.int i t) (.int j u)) Q E s) :
  cQ X f (mn λ i j=>.aJ (g i j)):=by
 intro pins s σ H x y v u Q I d e h;obtain ⟨i,j,rfl,rfl,q⟩:=h;obtain ⟨t,rfl⟩:=d;obtain ⟨t',rfl⟩:=e;exact rule i j t t' s _ _ #[.aJ (g i j),H,I,Y,q]
def Se (i j:Int):Prop:=0<j/\j<1073741824
def Sf (i j:Int):Prop:=0<=j/\j<=1000000/\i.natAbs<2 ^ 64
def Ao (i j:Int):Prop:=(-(2 ^ 64)<i/\i<2 ^ 64)\/(-(2 ^ 64)<j/\j<2 ^ 64)
theorem Ao.ok (h:Ao i j):IntMulOk i j:=by
 rcases h with ⟨af,ai⟩|⟨af,ai⟩
 ·exact .of_left (intBits_le_64 af ai)
 ·exact .of_right (intBits_le_64 af ai)
theorem ez:cQ X (binaryOp .Add) (mn λ i j=>.int (i+j)):=FU λ Z Z Z Z Z Z Z q=>add_int q
theorem gE:cQ X (binaryOp .Sub) (mn λ i j=>.int (i-j)):=FU λ Z Z Z Z Z Z Z q=>sub_int q
theorem mP:cQ X (binaryOp .Mult) (ql Ao λ i j=>.int (i*j)):=vj λ Z Z Z Z Z Z Z d q=>mul_int q d.ok
theorem rg:cQ X (binaryOp .FloorDiv) (ql Se λ i j=>.int (i/j)):=vj λ i j Z Z Z Z Z d q=>by
 have af:=d.1;have ai:=d.2;exact floordiv_int .ak (by rw [Int.fdiv_eq_ediv_of_nonneg i .ak];exact q) (.inl (PyProof.noPylong_small .ak))
theorem i7:cQ X (binaryOp .Mod) (ql (λ Z j=>0<j) λ i j=>.int (i%j)):=vj λ i j Z Z Z Z Z d q=>by
 have af:=d;exact mod_int' .ak (by rw [Int.fmod_eq_emod_of_nonneg i .ak];exact q)
theorem tk:cQ X (binaryOp .Pow) (ql Sf λ i j=>.int (i ^ j.toNat)):=vj λ Z Z Z Z Z Z Z d q=>pow_int_small d.1 d.2.1 d.2.2 q
theorem R9 {g:Int->Int}
  (rule:∀ i t s Q E,Q (.int (g i) s.toks) { s with toks:=s.toks+1 }->wpAny (model X.prog X.w) X.A (f (.int i t)) Q E s) :
  uS X f (DT λ i=>.int (g i)):=by
 intro pins s σ H x v Q I d h;obtain ⟨i,rfl,q⟩:=h;obtain ⟨t,rfl⟩:=d;exact rule i t s _ _ #[.int (g i),H,I.tok _,#[_,Y],q]
theorem jL:uS X (unaryOp .USub) (DT λ i=>.int (-i)):=R9 λ Z Z Z Z Z q=>neg_int q
end
noncomputable def F7:V->V->Bool
 | .aX,.aX=>.t| .aX,.int _=>.t| .int _,.aX=>.t| .aX,.aJ _=>.t| .aJ _,.aX=>.t| .aX,.str _=>.t| .str _,.aX=>.t
 | .int _,.int _=>.t| .aJ _,.aJ _=>.t| .str _,.str _=>.t| .ij _,.ij _=>.t
 | .int _,.str _=>.t| .str _,.int _=>.t| .aJ _,.str _=>.t| .str _,.aJ _=>.t
 | _,_=>.f
def RV:gu:=λ x y H Q=>F7 x y=.t/\Q (.aJ (decide (x=y))) H
def RX:gu:=λ x y H Q=>F7 x y=.t/\Q (.aJ (!decide (x=y))) H
theorem HI:decide (V.int i=V.int j)=(i==j):=by
 rw [qT];simp
theorem GZ:decide (V.aJ i=V.aJ j)=(i==j):=by
 rw [qT];simp
theorem HJ:decide (V.str i=V.str j)=(i==j):=by
 rw [qT];simp
theorem HH:decide (V.ij i=V.ij j)=(i.toList==j.toList):=by
 rw [qT];cases i;cases j;simp
section
variable {X:a5} {a b c:Expr} {aP aQ cS:TE} {pos:Pos}
theorem dU {σ:St} (I:Inv X pins σ H s) (q:Q (.aJ k) H) (e:k=dN):f3 X pins σ Q (.bool dN) s:=by
 subst e;exact #[.aJ k,H,I,Y,q]
theorem cY:cQ X (compareOp .Eq) RV:=by
 intro pins s σ H x y v u Q I e d h;obtain ⟨aA,q⟩:=h;cases x with
 | aX =>
  cases e;cases y with
  | aX=>cases d;exact PySem.EqNone.eq_none_none (dU I q .zs)
  | aJ j=>cases d;exact PySem.EqNone.eq_none_bool (dU I q .zs)
  | int j=>obtain ⟨t',rfl⟩:=d;exact PySem.EqNone.eq_none_int (dU I q .zs)
  | str j=>obtain ⟨t',rfl⟩:=d;exact PySem.EqNone.eq_none_str (dU I q .zs)
  | _=>exact absurd aA dP
 | aJ i =>
  cases e;cases y with
  | aX=>cases d;exact PySem.EqNone.eq_bool_none (dU I q .zs)
  | aJ j=>cases d;exact eq_bool (dU I q GZ)
  | str j=>obtain ⟨t',rfl⟩:=d;exact PySem.EqMixed.eq_bool_str (dU I q .zs)
  | _=>exact absurd aA dP
 | int i =>
  obtain ⟨t,rfl⟩:=e;cases y with
  | aX=>cases d;exact PySem.EqNone.eq_int_none (dU I q .zs)
  | int j=>obtain ⟨t',rfl⟩:=d;exact eq_int (dU I q HI)
  | str j=>obtain ⟨t',rfl⟩:=d;exact PySem.EqMixed.eq_int_str (dU I q .zs)
  | _=>exact absurd aA dP
 | str i =>
  obtain ⟨t,rfl⟩:=e;cases y with
  | aX=>cases d;exact PySem.EqNone.eq_str_none (dU I q .zs)
  | aJ j=>cases d;exact PySem.EqMixed.eq_str_bool (dU I q .zs)
  | int j=>obtain ⟨t',rfl⟩:=d;exact PySem.EqMixed.eq_str_int (dU I q .zs)
  | str j=>obtain ⟨t',rfl⟩:=d;exact eq_str (dU I q HJ)
  | _=>exact absurd aA dP
 | ij i =>
  obtain ⟨t,rfl⟩:=e;cases y with
  | ij j=>obtain ⟨t',rfl⟩:=d;exact PySem.W.eq_bytes (dU I q HH)
  | _=>exact absurd aA dP
 | _=>cases y<;>exact absurd aA dP
theorem hn:cQ X (compareOp .NotEq) RX:=by
 intro pins s σ H x y v u Q I e d h;obtain ⟨aA,q⟩:=h;cases x with
 | aX =>
  cases e;cases y with
  | aX=>cases d;exact PySem.EqNone.ne_none_none (dU I q .zs)
  | aJ j=>cases d;exact PySem.EqNone.ne_none_bool (dU I q .zs)
  | int j=>obtain ⟨t',rfl⟩:=d;exact PySem.EqNone.ne_none_int (dU I q .zs)
  | str j=>obtain ⟨t',rfl⟩:=d;exact PySem.EqNone.ne_none_str (dU I q .zs)
  | _=>exact absurd aA dP
 | aJ i =>
  cases e;cases y with
  | aX=>cases d;exact PySem.EqNone.ne_bool_none (dU I q .zs)
  | aJ j=>cases d;exact ne_bool (dU I q (fD not GZ))
  | str j=>obtain ⟨t',rfl⟩:=d;exact PySem.EqMixed.ne_bool_str (dU I q .zs)
  | _=>exact absurd aA dP
 | int i =>
  obtain ⟨t,rfl⟩:=e;cases y with
  | aX=>cases d;exact PySem.EqNone.ne_int_none (dU I q .zs)
  | int j=>obtain ⟨t',rfl⟩:=d;exact ne_int (dU I q (fD not HI))
  | str j=>obtain ⟨t',rfl⟩:=d;exact PySem.EqMixed.ne_int_str (dU I q .zs)
  | _=>exact absurd aA dP
 | str i =>
  obtain ⟨t,rfl⟩:=e;cases y with
  | aX=>cases d;exact PySem.EqNone.ne_str_none (dU I q .zs)
  | aJ j=>cases d;exact PySem.EqMixed.ne_str_bool (dU I q .zs)
  | int j=>obtain ⟨t',rfl⟩:=d;exact PySem.EqMixed.ne_str_int (dU I q .zs)
  | str j=>obtain ⟨t',rfl⟩:=d;exact ne_str (dU I q (fD not HJ))
  | _=>exact absurd aA dP
 | ij i =>
  obtain ⟨t,rfl⟩:=e;cases y with
  | ij j=>obtain ⟨t',rfl⟩:=d;exact PySem.W.ne_bytes (dU I q (fD not HH))
  | _=>exact absurd aA dP
 | _=>cases y<;>exact absurd aA dP
theorem iZ:cQ X (compareOp .Lt) (mn λ i j=>.aJ (decide (i<j))):=vJ λ Z Z Z Z Z Z Z q=>lt_int q
theorem s9:cQ X (compareOp .LtE) (mn λ i j=>.aJ (decide (i<=j))):=vJ λ Z Z Z Z Z Z Z q=>le_int q
theorem gW:cQ X (compareOp .Gt) (mn λ i j=>.aJ (decide (j<i))):=vJ λ Z Z Z Z Z Z Z q=>gt_int q
theorem qP:cQ X (compareOp .GtE) (mn λ i j=>.aJ (decide (j<=i))):=vJ λ Z Z Z Z Z Z Z q=>ge_int q
theorem CK:cQ X (compareOp .In) (λ x y H Q=>∃ i j,x=.str i/\y=.str j/\Q (.aJ (!(Builtin.Str.occurrences j i 0 j.length 1).isEmpty)) H):=by
 intro pins s σ H x y v u Q I d e h;obtain ⟨i,j,rfl,rfl,q⟩:=h;obtain ⟨t,rfl⟩:=d;obtain ⟨t',rfl⟩:=e;exact in_str (dU I q Y)
theorem mO:cQ X (compareOp .Is) (λ x y H Q=>y=.aX/\Q (.aJ (decide (x=.aX))) H):=by
 intro pins s σ H x y v u Q I d e h;obtain ⟨rfl,q⟩:=h;cases e;refine is_none_gen (dU I q ?_);cases x<;>(obtain ⟨t,rfl⟩:=d;rfl)
theorem BU:cQ X (compareOp .IsNot) (λ x y H Q=>y=.aX/\Q (.aJ (!decide (x=.aX))) H):=by
 intro pins s σ H x y v u Q I d e h;obtain ⟨rfl,q⟩:=h;cases e;refine isnot_none_gen (dU I q ?_);cases x<;>(obtain ⟨t,rfl⟩:=d;rfl)
theorem bh (b) (h:op≠.In:=by decide) (ai:op≠.NotIn:=by decide):behindInMarks op b=.f:=by
 have d:(op==CmpOp.In)=.f:=by cases op<;>first|rfl|exact absurd rfl h
 have e:(op==CmpOp.NotIn)=.f:=by cases op<;>first|rfl|exact absurd rfl ai
 cases b<;>simp [behindInMarks,d,e]
theorem VT (e:cQ X (compareOp op) r) (au:bG X a aP) (ae:bG X b aQ) (hm:behindInMarks op b=.f):bG X (.Compare a [op] [b] pos) (nz r aP aQ):=by
 intro pins s σ H Q I h;exact wpAny_Compare1 (As au ae I h λ v u s2 x y ao d f g q=>e pins s2 σ ao x y v u Q d f g q) hm
def GN (t:TE):TT:=λ σ H Q=>t σ H λ x H'=>∃ k,x=.aJ k/\Q k H'
theorem Wc (j:cQ X (compareOp op) r) (au:bG X a aP) (ae:bG X b aQ) (hm:behindInMarks op b=.f):h4 X (.Compare a [op] [b] pos) (GN (nz r aP aQ)):=by
 intro pins s σ H Q I h;refine wpAny_isTrue_Compare1 (a8 (au pins s σ H _ I h) λ v s1 ⟨x,H1,f,n,aO⟩=>a8 (ae pins s1 σ H1 _ f aO) λ u s2 ⟨y,ao,g,o,l⟩ =>
  a8 (j pins s2 σ ao x y v u _ g n o l) λ c s3 ⟨z,d,i,p,k,e,m⟩=>?_) hm
 subst e;cases p;exact nO #[d,i,m]
def Hp (r f:gu) (aP aQ cS:TE):TE:=λ σ H Q=>aP σ H λ x H1=>aQ σ H1 λ y ao=>r x y ao λ z d=>∃ k,z=.aJ k /\
 (if k=.t then cS σ d λ cm e=>f y cm e Q else Q (.aJ .f) d)
theorem XG (t:cQ X (compareOp op) r) (w:cQ X (compareOp i) C) (au:bG X a aP) (ae:bG X b aQ) (q:bG X c cS)
  (hm:lastMarks [op,i] [b,c]=.f:=by with_unfolding_all rfl):bG X (.Compare a [op,i] [b,c] pos) (Hp r C aP aQ cS):=by
 intro pins s σ H Q I h;refine Compare_chain (a8 (au pins s σ H _ I h) λ v s1 ⟨x,H1,n,D,aO⟩=>chain_link (a8 (ae pins s1 σ H1 _ n aO) λ u s2 ⟨y,ao,o,l,A⟩ =>
  a8 (t pins s2 σ ao x y v u _ o D l A) λ d s3 ⟨z,f,g,E,k,e,j⟩=>?_)) hm
 subst e;cases E;refine nO ?_;cases k with
 | false=>exact ite_ff #[.aJ .f,f,g,Y,j]
 | true=>exact ite_tt (chain_last (a8 (q pins s3 σ f _ g j) λ cm s4 ⟨J,m,p,G,B⟩=>w pins s4 σ m y J u cm Q p l G B))
theorem pC:(sizeLine:Nat)<2 ^ 63:=by rw [b8];decide
theorem vals1 (r:Vals [x] us):∃ u,us=[u]/\RelV x u:=by
 cases r with
 | cons d e=>cases e;exact #[_,Y,d]
theorem vals2 (r:Vals [x,y] us):∃ u cm,us=[u,cm]/\RelV x u/\RelV y cm:=by
 cases r with
 | cons d e =>
  cases e with
  | cons f g=>cases g;exact #[_,_,Y,d,f]
inductive KY:List V->aC->cj->Prop
 |mk {xs H Q} (i j):xs=[.int i,.int j]->Q (.int (if j>i then j else i)) H->KY xs H Q
theorem tX (e:X.warm=.t):dG X (.builtin "max") KY:=by
 intro pins s σ H xs us Q I r h;obtain ⟨i,j,rfl,q⟩:=h;obtain ⟨u,cm,rfl,⟨t,rfl⟩,⟨t',rfl⟩⟩:=vals2 r;refine ff.max2 (I.f9 e) λ h' a6 k=>#[_,H,I.kept k,?_,q]
 by_cases d:j>i
 ·rw [if_pos d,if_pos d];exact #[_,Y]
 ·rw [if_neg d,if_neg d];exact #[_,Y]
inductive KZ:List V->aC->cj->Prop
 |mk {xs H Q} (i j):xs=[.int i,.int j]->Q (.int (if j<i then j else i)) H->KZ xs H Q
theorem JP (e:X.calm=.t):dG X (.builtin "min") KZ:=by
 intro pins s σ H xs us Q I r h;obtain ⟨i,j,rfl,q⟩:=h;obtain ⟨u,cm,rfl,⟨t,rfl⟩,⟨t',rfl⟩⟩:=vals2 r;refine min_two_ints (I.ok.hd.1 e) λ h' a6 k=>#[_,H,I.kept k,?_,q]
 by_cases d:j<i
 ·rw [if_pos d,if_pos d];exact #[_,Y]
 ·rw [if_neg d,if_neg d];exact #[_,Y]
theorem tW:dG X (.type "int") (λ xs H Q=>(∃ i,xs=[.int i]/\Q (.int i) H)\/∃ k,xs=[.aJ k]/\Q (.int (if k then 1 else 0)) H):=by
 intro pins s σ H xs us Q I r h;rcases h with ⟨i,rfl,q⟩|⟨k,rfl,q⟩
 ·obtain ⟨u,rfl,t,rfl⟩:=vals1 r;exact call_int_int #[.int i,H,I,#[_,Y],q]
 ·obtain ⟨u,rfl,d⟩:=vals1 r;cases d;exact call_int_bool #[.int (if k then 1 else 0),H,I.tok _,#[_,Y],q]
inductive M3:List V->aC->cj->Prop
 |mk {xs H Q} (i):xs=[.int i]->i.natAbs.log2<1920->Q (.str (toString i)) H->M3 xs H Q
theorem kH:dG X (.type "str") M3:=by
 intro pins s σ H xs us Q I r h;obtain ⟨i,rfl,d,q⟩:=h;obtain ⟨u,rfl,t,rfl⟩:=vals1 r;exact PySem.P.str_of_int d #[.str _,H,I.tok _,#[_,Y],q]
end
structure oZ (h:Heap) (x aE C:Addr) (da:Str->cE):Prop where
 obj:h.get? x=some (PySem.W.instObj C aE)
 ns:h.Ns1 aE da
 ne:aE≠x
set_option tactic.hygienic true in
theorem J8 {h:Heap} (n:h.Ns1 aE da):∃ cZ,h.get? aE=some cZ/\∀ name,PySem.W.lookIn name cZ=some (da name):=by
 obtain ⟨o,ah,g,d,hd,ay,_,hm⟩:=n;refine #[o,d,λ name=>?_];have e:=hm name;unfold nsFind findBy at e;rw [<-Array.find?_toList] at e;unfold PySem.W.lookIn;rw [hd];dsimp only;split
 ·rename_i y q;rw [q] at e;exact fD some e
 ·rename_i q;rw [q] at e;have a:ah.toList.any (·.refKey)=.f:=by
   rw [List.any_eq_false];intro y f;obtain ⟨z,t,c⟩:=ay y (v7.mp f);simp [DictEntry.refKey,c]
  have b:¬ ah.toList.any (·.refKey)=.t:=by rw [a];exact dP
  rw [if_neg b];exact fD some e
theorem oZ.look (I:oZ h x aE C da):∃ cZ,PySem.W.InstAt h x (PySem.W.instObj C aE) C (some cZ)/\∀ name,PySem.W.lookIn name cZ=some (da name) :=
 let ⟨cZ,b,a⟩:=J8 I.ns
 #[cZ,#[I.obj,Y,Y,b],a]
section
variable {prog:Program} {w:World} {A:Around} {E:dc} {s:Shared} {K:aT} {x aE C f:Addr} {da:Str->cE} {name:Str} {v:Value}
theorem get_map (X:K.In s.heap) (I:oZ s.heap x aE C da) (a:PySem.W.plainGet K C name=.t) (b:PySem.W.hasDictIn K C=.t)
  (au:PySem.W.findIn K (.ref C) name=some .n) (aM:da name=some v) (d:PySem.W.handedIn v=.t) (h:Q v { s with toks:=s.toks+1 }) :
  wpAny (model prog w) A (getAttr (.ref x) name expr) Q E s:=by
 obtain ⟨cZ,J,c⟩:=I.look;exact PySem.W.get_value X J (Bb a).1 (PySem.W.findObj_own b au Y (by rw [c,aM])) d h
theorem Xh (X:K.In s.heap) (I:oZ s.heap x aE C da) (a:PySem.W.plainGet K C name=.t)
  (hf:PySem.W.findIn K (.ref C) name=some (some (.ref f))) (aI:PySem.W.isFn K (.ref f)=.t) (aM:da name=.n) (h:Q (.ref f,[.ref x]) s) :
  wpAny (model prog w) A (getMethod (.ref x) name bw) Q E s:=by
 obtain ⟨cZ,J,b⟩:=I.look;exact PySem.W.method_fn X J (Bb a).1 (Bb a).2 hf (i2.mp aI) (by show (PySem.W.lookIn name cZ).map (·.isSome)=some .f;rw [b,aM];rfl) h
theorem Wz (X:K.In s.heap) (I:oZ s.heap x aE C da)
  (aA:PySem.W.findIn K (.ref C) "__setattr__" = some (some (.builtin "object.__setattr__"))) (ar:PySem.W.plainOver K C=.t) (aI:PySem.W.takerIn K C name=some .n) (j:PySem.W.hasDictIn K C=.t)
  (hw:PySem.Within da ns) (p:ns.length<=sizeLine)
  (h:∀ h',oZ h' x aE C (λ y=>if y=name then some v else da y)->Heap.SameBut aE s.heap h'->Q () { s with heap:=h',toks:=s.toks+2 }) :
  wpAny (model prog w) A (setAttr (.ref x) name v) Q E s:=by
 obtain ⟨cZ,J,o⟩:=I.look;refine PySem.W.set_plain X J aA (PySem.W.osa_open X J ar aI λ b=>?_);obtain ⟨cd,d,g⟩:=PySem.W.any_some j;have l:=I.obj;refine az (bl (az (az (wpAny_loadPart l (az (PySem.W.Looks.here (PySem.W.looks_clsIn X d) ?_))))));rw [g];refine bl (az (bl (az ?_)));refine wpAny_nsSet1 I.ns λ h' a c=>?_
 obtain ⟨q,n,m,k,i,e⟩:=a.count (PySem.Within.cons name v hw);refine az (wpAny_lookBehind k (by rw [i];exact pastItsLine_dict (dT e (by rw [fW];omega))) ?_);exact bl (h _ #[(c.2 _ (eT I.ne)).trans I.obj,a,I.ne] c)
theorem Xt (X:K.In s.heap) (hm:PySem.W.makesIn K C=.t)
  (av:PySem.W.findIn K (.ref C) "__init__" = some (some (.ref f))) (hf:PySem.W.typeIn K (.ref f)=some (.type "function"))
  (h:codeAny (model prog w) (A.under (.builtin "type.__call__" ⟨.ref C::vs,kw⟩)) (.call (.ref f) ⟨.ref (s.heap.objs.size+1)::vs,kw⟩) (PySem.W.InitBack (s.heap.objs.size+1) R)
   { s with heap:=(s.heap.push PySem.W.emptyDict).push (PySem.W.instObj C s.heap.objs.size) }) :
  codeAny (model prog w) A (.call (.ref C) ⟨vs,kw⟩) R s:=by
 obtain ⟨a,g,d,t,os⟩:=s;exact PySem.W.make_core (PySem.W.makes_of X hm) (PySem.W.looks_findIn X av) (λ self=>PySem.W.bind_fn X self hf) (.inl Y) h
end
noncomputable def gU (f:Str) (v:V):List (Str×V)->List (Str×V)
 | []=>[(f,v)]
 | (g,x)::r=>if g=f then (g,v)::r else (g,x)::gU f v r
theorem LC (f g) (v):∀ aj,(gU f v aj).lookup g=if g=f then some v else aj.lookup g
 | []=>by
  show List.lookup g [(f,v)]=_;by_cases h:g=f
  ·have ae:=i2.mpr h;simp only [List.lookup,ae,if_pos h]
  ·have ae:=nN.mpr h;simp only [List.lookup,ae,if_neg h]
 | (k,x)::r=>by
  have a:=LC f g v r;rw [show gU f v ((k,x)::r)=(if k=f then (k,v)::r else (k,x)::gU f v r) from rfl];by_cases ay:k=f
  ·rw [if_pos ay];by_cases h:g=k
   ·have ae:=i2.mpr h;simp only [List.lookup,ae,if_pos (h.trans ay)]
   ·have ae:=nN.mpr h;simp only [List.lookup,ae,if_neg (λ e:g=f=>h (e.trans ay.symm))]
  ·rw [if_neg ay];by_cases h:g=k
   ·have ae:=i2.mpr h;simp only [List.lookup,ae,if_neg (λ e=>ay (h.symm.trans e))]
   ·have ae:=nN.mpr h;simp only [List.lookup,ae];exact a
theorem CD (f) (v):∀ aj,f∈(gU f v aj).map (·.1)/\∀ g,g∈aj.map (·.1)->g∈(gU f v aj).map (·.1)
 | []=>#[by simp [gU],λ g h=>by simp at h]
 | (k,x)::r=>by
  obtain ⟨a,b⟩:=CD f v r;rw [show gU f v ((k,x)::r)=(if k=f then (k,v)::r else (k,x)::gU f v r) from rfl];by_cases ay:k=f
  ·rw [if_pos ay];subst ay;exact #[.zs,λ g h=>by simpa using h]
  ·rw [if_neg ay];refine #[?_,λ g h=>?_]
   ·rw [fv];exact dJ _ a
   ·rw [fv] at h ⊢;rcases b5.mp h with e|e
    ·exact b5.mpr (.inl e)
    ·exact dJ _ (b g e)
theorem LB (f) (v):∀ aj,(gU f v aj).length<=aj.length+1
 | []=>by simp [gU]
 | (k,x)::r=>by
  have a:=LB f v r;rw [show gU f v ((k,x)::r)=(if k=f then (k,v)::r else (k,x)::gU f v r) from rfl];by_cases ay:k=f
  ·rw [if_pos ay,fW,fW];omega
  ·rw [if_neg ay,fW,fW];omega
theorem fP.some_of (r:fP (some v) o):∃ u,o=some u/\RelV v u:=by
 cases o with
 | none=>exact r.elim
 | some u=>exact #[u,Y,r]
theorem fP.none_of (r:fP .n o):o=.n:=by
 cases o with
 | none=>rfl
 | some u=>exact r.elim
theorem J2 (r:RelV v u):PySem.W.handedIn u=.t:=by
 cases v with
 | aX=>cases r;rfl
 | aJ b=>cases r;rfl
 | int i=>obtain ⟨t,e⟩:=r;cases e;rfl
 | str x=>obtain ⟨t,e⟩:=r;cases e;rfl
 | ij b=>obtain ⟨t,e⟩:=r;cases e;rfl
 | gO b=>obtain ⟨t,e⟩:=r;cases e;rfl
 | ref a=>cases r;rfl
 | ty n=>cases r;rfl
section
variable {P:Program} {w:World} {H H':aC} {h h':Heap} {a C aE:Addr} {aj PR:List (Str×V)}
theorem wZ (aS:dt P w H h) (e:H a=some (.ins C aE aj)):∃ da,oZ h a aE C da/\(∀ f,fP (aj.lookup f) (da f))/\PySem.Within da (aj.map (·.1))/\aj.length<=1000/\H aE=some (.own a):=by
 obtain ⟨d,z,ne,bQ,da,n,r,q⟩:=(aS a _ e)
 exact #[da,#[bQ,n,ne],r,q,z,d]
end
structure hH (K:aT) (C:Addr):Prop where
 h_:PySem.W.plainGet K C Str.empty=.t
 hd:PySem.W.hasDictIn K C=.t
 po:PySem.W.plainOver K C=.t
 yQ:PySem.W.findIn K (.ref C) "__setattr__" = some (some (.builtin "object.__setattr__"))
theorem hH.get {K:aT} (c:hH K C) (f):PySem.W.plainGet K C f=.t:=c.h_
def lz (K:aT) (C:Addr) (f:Str):Prop:=PySem.W.findIn K (.ref C) f=some .n
theorem lz.T4 {K:aT} (n:lz K C f):PySem.W.takerIn K C f=some .n:=by
 unfold PySem.W.takerIn;rw [show PySem.W.findIn K (.ref C) f=some .n from n];rfl
structure Meth (K:aT) (C:Addr) (m:Str) (f:Addr):Prop where
 at_:PySem.W.findIn K (.ref C) m=some (some (.ref f))
 fn:PySem.W.isFn K (.ref f)=.t
 aW:PySem.W.keepIn K (.ref f)=.t
section
variable {X:a5} {pins:eP} {σ:St} {H:aC} {s:Shared} {a C aE:Addr} {aj:List (Str×V)} {f:Str} {v:V} {A:Around} {E:dc}
theorem ZJ (I:Inv X pins σ H s) (e:H a=some (.ins C aE aj)) (c:hH X.K C) (n:lz X.K C f) (l:aj.lookup f=some v)
  (h:∀ u s',Inv X pins σ H s'->RelV v u->Q u s'):wpAny (model X.prog X.w) A (getAttr (.ref a) f b) Q E s:=by
 obtain ⟨da,O,r,_,_,_⟩:=wZ I.aS e;obtain ⟨u,g,d⟩:=fP.some_of (by rw [<-l];exact r f);exact get_map I.cT O (c.get f) c.hd n g (J2 d) (h u _ (I.tok _) d)
theorem KR (I:Inv X pins σ H s) (e:H a=some (.ins C aE aj)) (c:hH X.K C) (k:Meth X.K C m g) (l:aj.lookup m=.n)
  (h:Q (.ref g,[.ref a]) s):wpAny (model X.prog X.w) A (getMethod (.ref a) m bw) Q E s:=by
 obtain ⟨da,O,r,_,_,_⟩:=wZ I.aS e;have aB:=fP.none_of (by rw [<-l];exact r m);exact Xh I.cT O (c.get m) k.at_ k.fn aB h
theorem aaf (I:Inv X pins σ H s) (e:H a=some (.ins C aE aj)) (c:hH X.K C) (n:lz X.K C f) (x:aj.length<1000) (p:RelV y u)
  (h:∀ s',Inv X pins σ (upd H a (.ins C aE (gU f y aj))) s'->Q () s'):wpAny (model X.prog X.w) A (setAttr (.ref a) f u) Q E s:=by
 obtain ⟨da,O,r,j,_,i⟩:=wZ I.aS e;have m:(aj.map (·.1)).length<=sizeLine:=by rw [bb,b8];omega
 refine Wz I.cT O c.yQ c.po n.T4 c.hd j m λ h' d t=>h _ ?_
 have hd:∃ o,h'.get? aE=some o:=let ⟨o,_,_,k,_⟩:=d.ns;⟨o,k⟩
 refine I.write (by rw [e];exact True.intro) (.inr i) (λ b q ae z=>(t.2 b ae).trans z) hd ?_;refine #[by rw [a3 O.ne];exact i,?_,O.ne,d.obj,_,d.ns,λ g=>?_,λ g l=>?_]
 ·have:=LB f y aj;omega
 ·show fP ((gU f y aj).lookup g) (if g=f then some u else da g);rw [LC];by_cases q:g=f
  ·rw [if_pos q,if_pos q];exact p
  ·rw [if_neg q,if_neg q];exact r g
 ·by_cases q:g=f
  ·rw [q];exact (CD f y aj).1
  ·refine (CD f y aj).2 g (j g λ z=>l ?_);show (if g=f then some u else da g)=.n;rw [if_neg q];exact z
theorem Inv.made (I:Inv X pins σ H s):Inv X pins σ (upd (upd H s.heap.objs.size (.own (s.heap.objs.size+1))) (s.heap.objs.size+1) (.ins C s.heap.objs.size []))
  { s with heap:=(s.heap.push PySem.W.emptyDict).push (PySem.W.instObj C s.heap.objs.size) }:=by
 have c:(s.heap.push PySem.W.emptyDict).get? s.heap.objs.size=some PySem.W.emptyDict:=cN s.heap rfl;have g:((s.heap.push PySem.W.emptyDict).push (PySem.W.instObj C s.heap.objs.size)).get? (s.heap.objs.size+1)=some (PySem.W.instObj C s.heap.objs.size):=by
  have:=cN (s.heap.push PySem.W.emptyDict) (o:=PySem.W.instObj C s.heap.objs.size) rfl
  rwa [fj] at this
 have h:(s.heap.push PySem.W.emptyDict).Ns s.heap.objs.size (λ Z=>.n):=#[PySem.W.emptyDict,#[],_,c,Y,(λ e he=>absurd he .zs),λ Z=>rfl]
 have d:=I.laid (o:=.own (s.heap.objs.size+1)) (t':=s.toks) (λ b u q=>bo _ q) (bL _) #[_,c];refine d.laid (λ b u q=>bo _ q) (Nat.le_of_eq (fj _ _)) ?_;have ne:s.heap.objs.size≠s.heap.objs.size+1:=cR (mG _);refine #[by rw [a3 ne,bc],fE _,ne,g,λ Z=>.n,(Heap.Ns1.of_empty h).at λ o q=>bo _ q,λ Z=>True.intro,λ y i=>absurd Y i]
theorem HC (ae:attributeBase e f env (eval e env)=eval e env)
  (h:wpAny (model prog w) A (eval e env) (λ o s₁=>wpAny (model prog w) A (getAttr o f .t) Q E s₁) E s):wpAny (model prog w) A (eval (.Attribute e f pos) env) Q E s :=
 Attribute_any_ h (by rw [arm_eval_Attribute,ae])
end
inductive FX (K:aT) (f:Str) (x:V) (H1:aC) (Q:cj):Prop
 |mk (a C aE aj v):x=.ref a->H1 a=some (.ins C aE aj)->hH K C->lz K C f->aj.lookup f=some v->Q v H1->FX K f x H1 Q
def Ga (K:aT) (aP:TE) (f:Str):TE:=λ σ H Q=>aP σ H λ x H1=>FX K f x H1 Q
def F4 (K:aT) (aP fg:TE) (f:Str):c9:=λ D σ H=>fg σ H λ y H1=>aP σ H1 λ x ao=>∃ a C aE aj,x=.ref a/\ao a=some (.ins C aE aj)/\hH K C/\lz K C f/\aj.length<1000 /\
 D.bg σ (upd ao a (.ins C aE (gU f y aj)))
section
variable {X:a5} {o e value:Expr} {f:Str} {pos pos' Gj:Pos} {aP fg:TE}
theorem Uw (he:bG X e aP) (ae:attributeBase e f X.env (eval e X.env)=eval e X.env):bG X (.Attribute e f pos) (Ga X.K aP f):=by
 intro pins s σ H Q I h;refine HC ae (a8 (he pins s σ H _ I h) ?_);rintro u s1 ⟨x,H1,b,j,a,C,aE,aj,v,ex,g,c,n,l,q⟩;subst ex;obtain rfl:u=Value.ref a:=j;exact ZJ b g c n l λ k s2 d i=>#[v,H1,d,i,q]
theorem UL (au:bG X o aP) (aM:bG X value fg) (aA:swapsWith value (some (.Attribute o f pos')) pos.line X.env=pure .f):hA X (.Assign [.Attribute o f pos'] value pos) (F4 X.K aP fg f):=by
 intro pins s σ H D I h;refine plainObj_wpAny_Assign_Attribute (a8 (aM pins s σ H _ I h) ?_) aA;rintro u s1 ⟨y,H1,b,p,q⟩;refine a8 (au pins s1 σ H1 _ b q) ?_;rintro j s2 ⟨x,ao,d,m,a,C,aE,aj,ex,i,c,n,l,k⟩;subst ex;obtain rfl:j=Value.ref a:=m;exact aaf d i c n l p λ s3 g=>#[σ,_,g,k]
end
section
variable {X:a5} {pins:eP} {σ:St} {H:aC} {s:Shared} {A:Around} {E:dc} {Q:dc} {c:Value} {b:Bool}
inductive gS (K:aT) (H:aC):V->Value->Prop where
 | aX:gS K H .aX (.type "NoneType")
 | aJ (x:Bool):gS K H (.aJ x) (.type "bool")
 | int (i:Int):gS K H (.int i) (.type "int")
 | str (x:Str):gS K H (.str x) (.type "str")
 | gO (x:UInt64):gS K H (.gO x) (.type "float")
 | lst {a:Addr} {xs:List V} (e:H a=some (.lst xs)):gS K H (.ref a) (.type "list")
 | hL {a:Addr} {o:Obj} {xs:List V} (e:H a=some (.hL o (.lst xs))):gS K H (.ref a) (.type "list")
 | tup {a:Addr} {xs:List V} (e:H a=some (.tup xs)):gS K H (.ref a) (.type "tuple")
 | bW {a:Addr} {kvs:List (Key×V)} (e:H a=some (.bW kvs)):gS K H (.ref a) (.type "dict")
 | eK {a:Addr} {kvs:List (List Key×V)} (e:H a=some (.eK kvs)):gS K H (.ref a) (.type "dict")
 | ins {a C aE:Addr} {aj:List (Str×V)} (e:H a=some (.ins C aE aj)) (cl:hH K C) (au:PySem.W.findIn K (.ref C) "__class__" = some (some (.builtin "object.__class__")))
   (aB:PySem.W.specialIn K (.builtin "object.__class__") "__get__" = some (some (.builtin "getset_descriptor.__get__"))) (jw:PySem.W.takesIn K (.builtin "object.__class__")=some .t)
   (hm:PySem.W.mroIn K C (.type "object")=some .t):gS K H (.ref a) (.ref C)
theorem YK (I:Inv X pins σ H s) (f:RelV x u) (ty:gS X.K H x t) (e:PySem.W.kitOne X.K t c=some b) (h:∀ a6,Q (.bool b) { s with toks:=a6 }) :
  wpAny (model X.prog X.w) A (call (.builtin "isinstance") [u,c]) Q E s:=by
 cases ty with
 | aX=>cases f;exact jH PySem.W.kitx_none I.cT True.intro e (λ z=>nomatch z) h
 | aJ y=>cases f;exact jH PySem.W.kitx_bool I.cT True.intro e (λ z=>nomatch z) h
 | int i=>obtain ⟨t,q⟩:=f;cases q;exact jH PySem.W.kitx_int I.cT True.intro e (λ z=>nomatch z) h
 | str y=>obtain ⟨t,q⟩:=f;cases q;exact jH PySem.W.kitx_str I.cT True.intro e (λ z=>nomatch z) h
 | gO y=>obtain ⟨t,q⟩:=f;cases q;exact jH PySem.W.kitx_float I.cT True.intro e (λ z=>nomatch z) h
 | @lst a xs d =>
  cases f;obtain ⟨_,_,n,_,af⟩:=(I.aS a _ d)
  exact jH PySem.W.kitx_list I.cT #[_,af,Y] e (λ z=>nomatch z) h
 | @hL a bQ xs d =>
  cases f;obtain ⟨_,_,_,n,_,af⟩:=(I.aS a _ d)
  exact jH PySem.W.kitx_list I.cT #[_,af,Y] e (λ z=>nomatch z) h
 | @tup a xs d =>
  cases f;obtain ⟨_,_,_,j⟩:=(I.aS a _ d)
  have p:=j.up;obtain ⟨o,af,ai,_⟩:=p;exact jH PySem.W.kitx_tuple I.cT #[o,af,ai] e (λ z=>nomatch z) h
 | @bW a kvs d =>
  cases f;obtain ⟨_,_,vs,_,p⟩:=(I.aS a _ d)
  obtain ⟨o,ah,g,af,ai,_⟩:=p;exact jH PySem.W.kitx_dict I.cT #[o,af,ai.1] e (λ z=>nomatch z) h
 | @eK a kvs d =>
  cases f;obtain ⟨_,_,xs,_,o,ah,g,af,ai,_⟩:=(I.aS a _ d)
  exact jH PySem.W.kitx_dict I.cT #[o,af,ai.1] e (λ z=>nomatch z) h
 | @ins a C aE aj d cl au aB jw hm =>
  cases f;obtain ⟨da,O,_⟩:=wZ I.aS d;obtain ⟨cZ,J,_⟩:=O.look;exact jH (PySem.W.kitx_own (cl.get _) cl.hd au aB jw hm) I.cT J e (λ z=>nomatch z) h
end
structure c6 (k:Nat) (A:Around):Prop where
 hd:A.handled=.n
 ep:A.depth+3*k+5<recursionLimit
 un:A.units+16*k+200<cLine
 gL:A.guards=some []
theorem c6.mono (r:c6 k A) (h:j<=k):c6 j A:=#[r.hd,by have:=r.ep;omega,by have:=r.un;omega,r.gL]
theorem c6.deeper (r:c6 (k+1) A) (env):c6 k (A.deeper env) :=
 #[r.hd,by have:=r.ep;show A.depth+1+3*k+5<_;omega,by have:=r.un;show A.units+3+16*k+200<_;omega,r.gL]
theorem ZT {A:Around}:(A.under (.builtin "type.__call__" ⟨.ref C::us,kw⟩)).depth=A.depth+1:=by
 rfl
theorem ZU {A:Around}:(A.under (.builtin "type.__call__" ⟨.ref C::us,kw⟩)).units=A.units+1:=by
 rfl
theorem c6.make (r:c6 (k+1) A) (C) (us) (kw):c6 k (A.under (.builtin "type.__call__" ⟨.ref C::us,kw⟩)) :=
 #[r.hd,by have:=r.ep;rw [ZT];omega,by have:=r.un;rw [ZU];omega,by have h:=r.gL;simp [Around.under,Code.guards,Code.isGuard,guardIds,pushGuards,h]]
theorem c6.depth (r:c6 k A):A.depth<recursionLimit:=by have:=r.ep;omega
theorem c6.units (r:c6 k A):A.units+64<cLine:=by have:=r.un;omega
def lj:dh:=λ Z H Q=>Q [] H
def A8 (aP:TE) (a:dh):dh:=λ σ H Q=>aP σ H λ x H1=>a σ H1 λ xs ao=>Q (x::xs) ao
section
variable {X:a5} {e:Expr} {ah:List Expr} {bx:TE} {t:dh} {pos:Pos}
theorem Ut:fK X [] lj:=λ Z Z Z Z H Q I h=>Calls.spliced_nil #[[],H,I,.nil,h]
theorem VQ (au:bG X e bx) (c:fK X ah t) (aA:starEach (e::ah) X.env=(.f,eval e X.env)::starEach ah X.env:=by rfl):fK X (e::ah) (A8 bx t):=by
 intro pos pins s σ H Q I h;rw [aA];refine Calls.spliced_cons (a8 (au pins s σ H _ I h) ?_);rintro u s1 ⟨x,H1,a,f,aO⟩;exact a8 (c pos pins s1 σ H1 _ a aO) λ us s2 ⟨xs,ao,b,g,d⟩=>#[x::xs,ao,b,.cons f g,d]
def Gi (t:dh):TE:=λ σ H Q=>t σ H λ xs H1=>xs.length<=sizeLine/\∀ p,H1 p=.n->Q (.ref p) (upd H1 p (.tup xs))
def Ge (t:dh):TE:=λ σ H Q=>t σ H λ xs H1=>xs.length<=sizeLine/\∀ p,H1 p=.n->Q (.ref p) (upd H1 p (.lst xs))
theorem UC {d} (h:fK X ah t):bG X (.Tuple ah d pos) (Gi t):=by
 intro pins s σ H Q I c;refine wpAny_Tuple_spliced (a8 (h pos pins s σ H _ I c) ?_);rintro us s1 ⟨xs,H1,a,r,z,q⟩;refine #[by rw [<-r.length];exact z,?_];have hf:=a.aS.fresh (bL _);refine #[.ref s1.heap.objs.size,upd H1 s1.heap.objs.size (.tup xs),a.laid (λ b u e=>bo _ e) (bL _) ?_,Y,q _ hf];exact #[z,us,r,#[_,cN _ Y,Y,#[_,Y],Y]]
theorem Uy (h:fK X ah t):bG X (.List ah pos) (Ge t):=by
 intro pins s σ H Q I c;refine wpAny_List_spliced (a8 (h pos pins s σ H _ I c) ?_);rintro us s1 ⟨xs,H1,a,r,z,q⟩;refine #[by rw [<-r.length];exact z,?_];have hf:=a.aS.fresh (bL _);refine #[.ref s1.heap.objs.size,upd H1 s1.heap.objs.size (.lst xs),a.laid (λ b u e=>bo _ e) (bL _) ?_,Y,q _ hf];exact #[z,us,0,r,cN _ Y]
end
abbrev bz:=List V->aC->cj->dZ->Prop
abbrev kb:=List Env->aC->Shared->dZ->Value->Shared->Prop
structure kg (P:Program) (w:World) (K:aT) (mg:Str->cE) (base:Heap) (A:Around) (outer:List Env) (s:Shared) (H:aC):Prop where
 frames:A.frames=some outer
 mod:Mod K mg base
 bs:∀ b o,base.get? b=some o->s.heap.get? b=some o/\H b=.n
 hg:base.objs.size<=s.heap.objs.size
 gc:s.heap.FunFrames base outer
 il:∀ b∈eF outer,H b=.n
 aS:dt P w H s.heap
 bare:AllBare s.gens
inductive p9 (outer:List Env) (P:Program) (w:World) (H:aC) (s:Shared) (Q:cj) (u:Value) (s':Shared):Prop
 |mk (v H'):s'.os=s.os->AllBare s'.gens->eC (eF outer) [] H H' s.heap s'.heap->dt P w H' s'.heap->RelV v u->Q v H'->p9 outer P w H s Q u s'
def x7 (cx:kb) (outer:List Env) (P:Program) (w:World) (H:aC) (s:Shared) (Q:cj) (E:dZ) (r:Result) (s':Shared):Prop :=
 match r with
 | .ok (.ret u)=>p9 outer P w H s Q u s'
 | .ok _=>False
 | .error e=>cx outer H s E e s'
structure dO (P:Program) (w:World) (K:aT) (mg:Str->cE) (base:Heap) (cx:kb) (k:Nat) (f:Addr) (fd:FuncData) (ag:b2) (sp:bz):Prop where
 len:∀ vs H Q E,sp vs H Q E->vs.length=ag.length
 run:∀ (A:Around) (outer:List Env) (s:Shared) (H:aC) (args:Args) (us:List Value) (vs:List V) (Q:cj) (E:dZ),c6 k A->kg P w K mg base A outer s H->BindsTo s fd args (ag.zip us)->Vals vs us->sp vs H Q E ->
  codeAny (model P w) A (.call (.ref f) args) (x7 cx outer P w H s Q E) s
theorem dO.imp {K:aT} (F:dO P w K mg base cx k f fd ag sp)
  (h:∀ vs H Q E,b vs H Q E->sp vs H Q E):dO P w K mg base cx k f fd ag b :=
 #[λ vs H Q E q=>F.len vs H Q E (h _ _ _ _ q),λ A outer s H args us vs Q E a he ae aM aA=>F.run A outer s H args us vs Q E a he ae aM (h _ _ _ _ aA)]
theorem kg.make {K:aT} (e:kg P w K mg base A outer s H) (C) (us) (kw) :
  kg P w K mg base (A.under (.builtin "type.__call__" ⟨.ref C::us,kw⟩)) outer s H:=#[by (simpa [Around.under,Code.envs,Code.isFrame,pushEnvs] using e.frames),e.mod,e.bs,e.hg,e.gc,e.il,e.aS,e.bare]
section
variable {X:a5} {pins:eP} {σ:St} {H:aC} {s s':Shared}
theorem Inv.o2 (I:Inv X pins σ H s):kg X.prog X.w X.K X.mg X.base X.A X.stack s H :=
 #[I.ok.frames,I.ok.mod,I.bs,dT I.ok.hg I.fN,I.stack,I.tO,I.aS,I.bare]
theorem Inv.after (I:Inv X pins σ H s) (h:p9 X.stack X.prog X.w H s Q u s'):f3 X pins σ Q u s':=by
 obtain ⟨v,H',os,bare,un,aS,r,q⟩:=h;obtain ⟨c,g,d,t,a⟩:=s';obtain rfl:a=s.os:=os;exact #[v,H',I.call un aS bare (λ b z=>absurd z .zs),r,q]
end
def nK (sp:bz) (di:List V) (E:dZ) (t:dh):TE:=λ σ H Q=>t σ H λ vs H1=>sp (vs++di) H1 Q E
inductive GC (C:Addr) (m:Str) (sp:bz) (di:List V) (E:dZ) (t:dh) (σ:St) (Q:cj) (x:V) (H1:aC):Prop
 |mk (a aE aj):x=.ref a->H1 a=some (.ins C aE aj)->aj.lookup m=.n->(t σ H1 λ vs ao=>sp (x::(vs++di)) ao Q E)->GC C m sp di E t σ Q x H1
def vV (C:Addr) (m:Str) (sp:bz) (di:List V) (E:dZ) (aP:TE) (t:dh):TE:=λ σ H Q=>aP σ H λ x H1=>GC C m sp di E t σ Q x H1
def vU (C:Addr) (sp:bz) (di:List V) (E:dZ) (t:dh):TE:=λ σ H Q=>t σ H λ vs H1=>∀ x aE,H1 x=.n->H1 aE=.n->aE≠x ->
 sp (.ref x::(vs++di)) (upd (upd H1 aE (.own x)) x (.ins C aE [])) (λ v ao=>v=.aX/\Q (.ref x) ao) E
def Binds (K:aT) (fd:FuncData) (ag:b2) (ds:List Value):Prop :=
 ∀ s us,K.In s.heap->(us++ds).length=ag.length->BindsTo s fd ⟨us,[]⟩ (ag.zip (us++ds))
theorem Binds.all {K:aT} (h:∀ us,us.length=ag.length->bindArgs fd ⟨us,[]⟩=pure (ag.zip us)):Binds K fd ag []:=λ s us Z a=>by
 rw [nQ] at a ⊢;exact .of_eq (h us a)
def Passes (cx:kb) (X:a5) (E:dZ):Prop:=∀ pins (σ:St) H s e s',Inv X pins σ H s->cx X.stack H s E e s'->X.ct e s'
section
variable {X:a5} {cx:kb} {k:Nat} {f C:Addr} {fd:FuncData} {ag:b2} {sp:bz} {di:List V} {ds:List Value} {E:dZ} {x m:Str} {p pos apos:Pos} {e o:Expr} {ah:List Expr} {aP:TE} {t:dh}
theorem wg {σ:St} (F:dO X.prog X.w X.K X.mg X.base cx k f fd ag sp) (d:c6 k X.A) (ae:Binds X.K fd ag ds) (hd:Vals di ds) (g:Passes cx X E)
  (I:Inv X pins σ H s) (r:Vals vs us) (h:sp (vs++di) H Q E):wpAny (model X.prog X.w) X.A (call (.ref f) us) (f3 X pins σ Q) X.ct s:=by
 have b:=r.append hd;have c:(us++ds).length=ag.length:=by rw [<-b.length];exact F.len _ _ _ _ h
 refine ko (jI (F.run X.A X.stack s H #[us,[]] (us++ds) (vs++di) Q E d I.o2 (ae s us I.cT c) b h) λ r s' a=>?_);cases r with
 | error e=>exact g pins σ H s e s' I a
 | ok fl =>
  cases fl with
  | ret u=>exact I.after a
  | next=>exact False.elim a
  | brk=>exact False.elim a
  | cont=>exact False.elim a
theorem VS (F:dO X.prog X.w X.K X.mg X.base cx k f fd ag sp) (d:c6 k X.A) (c:cI X x) (hm:X.mg x=some (.ref f)) (ay:PySem.W.keepIn X.K (.ref f)=.t) (ae:Binds X.K fd ag ds) (hd:Vals di ds) (g:Passes cx X E)
  (au:fK X (e::ah) t) (b:(x==("__debug__" : Str))=.f:=by decide) (he:starEach (e::ah) X.env=(.f,eval e X.env)::starEach ah X.env:=by rfl) (cu:(backTo pos (starEach ah X.env)).any (·.1)=.f:=by rfl) :
  bG X (.Call (.Name x p) (e::ah) [] pos) (nK sp di E t):=by
 intro pins s σ H Q I h;refine kp (jS I c hm ?_ b);refine pB I.ok.mod.hN ay (a8 (au pos pins s σ H _ I h) ?_) he cu;rintro us s1 ⟨vs,H1,a,r,q⟩;refine #[a.cT,?_];exact wg F d ae hd g a r q
theorem XE (F:dO X.prog X.w X.K X.mg X.base cx k f fd ag sp) (c:c6 k X.A) (b:cI X x) (hm:X.mg x=some (.ref f)) (ay:PySem.W.keepIn X.K (.ref f)=.t) (ae:Binds X.K fd ag ds) (hd:Vals di ds) (d:Passes cx X E)
  (a:(x==("__debug__" : Str))=.f:=by decide):bG X (.Call (.Name x p) [] [] pos) (nK sp di E lj):=by
 intro pins s σ H Q I h;refine kp (jS I b hm ?_ a);exact Bc I.cT ay (wg F c ae hd d I .nil h)
theorem VY {bw:Sem Bool} (he:bG X o aP) (c:hH X.K C) (hm:Meth X.K C m f) (F:dO X.prog X.w X.K X.mg X.base cx k f fd ag sp) (j:c6 k X.A) (ae:Binds X.K fd ag ds) (hd:Vals di ds) (v:Passes cx X E) (au:fK X (e::ah) t)
  (n:starEach (e::ah) X.env=(.f,eval e X.env)::starEach ah X.env:=by rfl) (cu:(backTo pos (starEach ah X.env)).any (·.1)=.f:=by rfl)
  (aI:eval (.Call (.Attribute o m apos) (e::ah) [] pos) X.env=(do
   let g ← eval o X.env
   standAt apos.atName
   let (f,first) ← holding [g] (getMethod g m bw)
   callWith pos f first (backTo pos (starEach (e::ah) X.env)) (backToKw pos (keywordEach [] X.env))):=by rfl) :
  bG X (.Call (.Attribute o m apos) (e::ah) [] pos) (vV C m sp di E aP t):=by
 intro pins s σ H Q I h;refine PySem.W.methodCall_KW (a8 (he pins s σ H _ I h) ?_) aI;rintro u s1 ⟨x,H1,b,z,a,aE,aj,ex,i,l,q⟩;subst ex;obtain rfl:u=Value.ref a:=z;refine KR b i c hm l ?_;refine pB I.ok.mod.hN hm.aW (a8 (au pos pins s1 σ H1 _ b q) ?_) n cu;rintro us s2 ⟨vs,ao,d,r,y⟩;refine #[d.cT,?_];exact wg (vs:=.ref a::vs) F j ae hd v d (.cons Y r) y
theorem XO {bw:Sem Bool} (he:bG X o aP) (c:hH X.K C) (hm:Meth X.K C m f) (F:dO X.prog X.w X.K X.mg X.base cx k f fd ag sp) (i:c6 k X.A) (ae:Binds X.K fd ag ds) (hd:Vals di ds) (j:Passes cx X E)
  (aI:eval (.Call (.Attribute o m apos) [] [] pos) X.env=(do
   let d ← eval o X.env
   standAt apos.atName
   let (f,first) ← holding [d] (getMethod d m bw)
   callWith pos f first (backTo pos (starEach [] X.env)) (backToKw pos (keywordEach [] X.env))):=by rfl) :
  bG X (.Call (.Attribute o m apos) [] [] pos) (vV C m sp di E aP lj):=by
 intro pins s σ H Q I h;refine PySem.W.methodCall_KW (a8 (he pins s σ H _ I h) ?_) aI;rintro u s1 ⟨x,H1,b,n,a,aE,aj,ex,g,l,q⟩;subst ex;obtain rfl:u=Value.ref a:=n;refine KR b g c hm l ?_;exact Bc b.cT hm.aW (wg (vs:=[.ref a]) F i ae hd j b (.cons Y .nil) q)
structure qa (K:aT) (C f:Addr):Prop where
 makes:PySem.W.makesIn K C=.t
 init:PySem.W.findIn K (.ref C) "__init__" = some (some (.ref f))
 fn:PySem.W.isFn K (.ref f)=.t
 aW:PySem.W.keepIn K (.ref C)=.t
theorem Jb {σ:St} (M:qa X.K C f) (F:dO X.prog X.w X.K X.mg X.base cx k f fd ag sp) (j:c6 (k+1) X.A) (ae:Binds X.K fd ag ds) (hd:Vals di ds)
  (l:Passes cx X E) (I:Inv X pins σ H s) (r:Vals vs us)
  (h:∀ x aE,H x=.n->H aE=.n->aE≠x->sp (.ref x::(vs++di)) (upd (upd H aE (.own x)) x (.ins C aE [])) (λ v ao=>v=.aX/\Q (.ref x) ao) E) :
  wpAny (model X.prog X.w) X.A (call (.ref C) us) (f3 X pins σ Q) X.ct s:=by
 have c:=h (s.heap.objs.size+1) s.heap.objs.size (I.aS.fresh (kn _)) (I.aS.fresh (bL _)) (cR (mG _));have b:=Inv.made (C:=C) I;have d:Vals (V.ref (s.heap.objs.size+1)::(vs++di)) (Value.ref (s.heap.objs.size+1)::(us++ds)):=.cons rfl (r.append hd);have i:(Value.ref (s.heap.objs.size+1)::us++ds).length=ag.length:=by
  have e:=d.length;rw [F.len _ _ _ _ c] at e;exact e.symm
 refine ko (Xt I.cT M.makes M.init (i2.mp M.fn) (jI (F.run _ X.stack _ _ #[Value.ref (s.heap.objs.size+1)::us,[]] (Value.ref (s.heap.objs.size+1)::(us++ds)) _ _ E (j.make C us [])
  (b.o2.make C us []) (ae _ (Value.ref (s.heap.objs.size+1)::us) b.cT i) d c) λ r s' a=>?_))
 cases r with
 | error e=>exact l pins σ _ _ e s' b a
 | ok fl =>
  cases fl with
  | ret u =>
   obtain ⟨v,H',g,q,ev,n⟩:=b.after a;subst ev;exact #[q,#[V.ref (s.heap.objs.size+1),H',g,Y,n]]
  | next=>exact False.elim a
  | brk=>exact False.elim a
  | cont=>exact False.elim a
theorem VX (M:qa X.K C f) (F:dO X.prog X.w X.K X.mg X.base cx k f fd ag sp) (d:c6 (k+1) X.A) (c:cI X x) (hm:X.mg x=some (.ref C)) (ae:Binds X.K fd ag ds) (hd:Vals di ds) (g:Passes cx X E)
  (au:fK X (e::ah) t) (b:(x==("__debug__" : Str))=.f:=by decide) (he:starEach (e::ah) X.env=(.f,eval e X.env)::starEach ah X.env:=by rfl) (cu:(backTo pos (starEach ah X.env)).any (·.1)=.f:=by rfl) :
  bG X (.Call (.Name x p) (e::ah) [] pos) (vU C sp di E t):=by
 intro pins s σ H Q I h;refine kp (jS I c hm ?_ b);refine pB I.ok.mod.hN M.aW (a8 (au pos pins s σ H _ I h) ?_) he cu;rintro us s1 ⟨vs,H1,a,r,q⟩;refine #[a.cT,?_];exact Jb M F d ae hd g a r q
theorem XN (M:qa X.K C f) (F:dO X.prog X.w X.K X.mg X.base cx k f fd ag sp) (c:c6 (k+1) X.A) (b:cI X x) (hm:X.mg x=some (.ref C)) (ae:Binds X.K fd ag ds) (hd:Vals di ds) (d:Passes cx X E)
  (a:(x==("__debug__" : Str))=.f:=by decide):bG X (.Call (.Name x p) [] [] pos) (vU C sp di E lj):=by
 intro pins s σ H Q I h;refine kp (jS I b hm ?_ a);exact Bc I.cT M.aW (Jb M F c ae hd d I .nil h)
end
structure bF (N P:b2) (sc:Scope):Prop where
 kind:sc.kind=.function
 co:sc.isCoroutine=.f
 gen:sc.isGenerator=.f
 cD:N.Nodup
 pre:N.take P.length=P
 par:∀ x∈P,sc.names.lookup x=some .local\/sc.names.lookup x=some .cell
 Uq:∀ y∈sc.names,y.2≠.free
theorem JM {kindOf:Str->Option NameKind}:∀ {binds:List (Str×Value)} {m:Str->cE},(∀ v,(x,v)∉binds)->bindL kindOf binds m x=m x
 | [],_,_=>rfl
 | (n,v)::r,m,h=>by
  unfold bindL;rw [JM λ w hw=>h w (dJ _ hw)];split
  ·have:x≠n:=by rintro rfl;exact h v dI
   simp [this]
  ·rfl
theorem JK {kindOf:Str->Option NameKind}:∀ {binds:List (Str×Value)} {m:Str->cE},(∀ v,(x,v)∉binds)->bindC kindOf binds m x=m x
 | [],_,_=>rfl
 | (n,v)::r,m,h=>by
  unfold bindC;rw [JK λ w hw=>h w (dJ _ hw)];split
  ·rfl
  ·have:x≠n:=by rintro rfl;exact h v dI
   simp [this]
theorem JL {kindOf:Str->Option NameKind}:∀ {P:b2} {vs:List Value} {i:Nat} {m:Str->cE},P.Nodup->P[i]?=some x->vs[i]?=some v->kindOf x=some .local ->
  bindL kindOf (P.zip vs) m x=some v
 | [],_,_,_,_,h,_,_=>by simp at h
 | _::_,[],_,_,_,_,h,_=>by simp at h
 | p::P,w::vs,0,m,cD,af,ai,ay=>by
  simp at af ai;subst af;subst ai;show bindL kindOf ((p,w)::P.zip vs) m p=_;unfold bindL;rw [JM λ v aM=>(mK.mp cD).1 (mL aM).1,if_pos ay];simp
 | p::P,w::vs,i+1,m,cD,af,ai,ay=>by
  unfold bindL;exact JL (mK.mp cD).2 (by simpa using af) (by simpa using ai) ay
theorem JJ {kindOf:Str->Option NameKind}:∀ {P:b2} {vs:List Value} {i:Nat} {m:Str->cE},P.Nodup->P[i]?=some x->vs[i]?=some v->kindOf x≠some .local ->
  bindC kindOf (P.zip vs) m x=some v
 | [],_,_,_,_,h,_,_=>by simp at h
 | _::_,[],_,_,_,_,h,_=>by simp at h
 | p::P,w::vs,0,m,cD,af,ai,ay=>by
  simp at af ai;subst af;subst ai;show bindC kindOf ((p,w)::P.zip vs) m p=_;unfold bindC;rw [JK λ v aM=>(mK.mp cD).1 (mL aM).1,if_neg ay];simp
 | p::P,w::vs,i+1,m,cD,af,ai,ay=>by
  unfold bindC;exact JJ (mK.mp cD).2 (by simpa using af) (by simpa using ai) ay
noncomputable def start (N:b2) (vs:List V):St:=vs.map some++List.replicate (N.length-vs.length) .n
noncomputable def ix (cx:kb) (P:Program) (w:World) (K:aT) (mg:Str->cE) (base:Heap) (N:b2) (qual:Str) (scope:Scope) (f:Addr) (cd:Value) (A:Around) (outer:List Env) (s:Shared) (H:aC) (E:dZ):a5 where
 prog:=P
 w:=w
 K:=K
 mg:=mg
 base:=base
 A:=A.deeper (envOfC qual scope s.heap.objs.size f cd)
 N:=N
 s₀:=s
 H₀:=H
 env:=envOfC qual scope s.heap.objs.size f cd
 outer:=outer
 stack:=envOfC qual scope s.heap.objs.size f cd::outer
 ex:=[]
 calm:=.t
 warm:=.t
 fn:=λ Z=>.t
 hE:=[]
 ct:=λ e s'=>wpAny (model P w) (A.deeper (envOfC qual scope s.heap.objs.size f cd)) (leaving (envOfC qual scope s.heap.objs.size f cd) e) (λ Z a=>cx outer H s E e a) (λ b a=>cx outer H s E b a) s'
theorem IE {sc:Scope} (h:sc.names.lookup x=some .cell):∃ c,(cellsFrom n sc.names []).lookup x=some c:=by
 have q:=v8 sc.names n [] (.inl h);exact tc.mp q
theorem CC {K:aT}
  (S:bF N ag scope) (hd:A.handled=.n) (d:kg P w K mg base A outer s H) (t:vs.length=ag.length) (r:Vals vs us)
  (x:InCallC s s.heap.objs.size (bindL (envOfC qual scope s.heap.objs.size f cd).kindOf (ag.zip us) λ Z=>.n) (cellsFrom (s.heap.objs.size+1) scope.names []) (bindC (envOfC qual scope s.heap.objs.size f cd).kindOf (ag.zip us) λ Z=>.n) s1) :
  Inv (ix cx P w K mg base N qual scope f cd A outer s H E) [] (start N vs) H s1:=by
 have cu:ag.length<=N.length:=by have:=fD List.length S.pre;rw [i3] at this;omega
 obtain ⟨af,a6,rfl,ay⟩:=x.done;have j:∀ b,b∉(ix cx P w K mg base N qual scope f cd A outer s H E).ex:=λ b z=>absurd (show b∈([]) from z) .zs
 refine #[#[d.mod,S.kind,Y,Y,bL _,λ y z c af ai=>?_,λ y g=>?_,λ y c Z h=>?_,#[λ Z=>hd,λ Z=>.inl hd],Around.frames_deeper d.frames,.inr #[Y,Y],λ b z=>absurd z (j b),d.bs,d.hg,λ b Z Z=>j b,λ b z=>absurd z (j b),d.gc,d.il],
  Y,d.bare,eC.kept ay,#[_,x.toInCall.ns,λ i y v af ai o=>?_],λ y c h=>#[_,x.cell y c h],d.aS.fresh (bL _),λ y c h=>?_,λ p ar=>absurd (show p∈([]) from ar) .zs,d.aS.kept ay,?_]
 ·exact name_of_addr x.apart (td af) (td ai)
 ·have g:=g;rcases g with g|g
  ·exact IE g
  ·exact absurd rfl (S.Uq _ (td g))
 ·exact vY (x.above y c (td h))
 ·have av:i<vs.length:=by
   unfold start at ai;by_cases av:i<vs.length
   ·exact av
   ·rw [kq (by simpa using av)] at ai;rw [List.getElem?_replicate] at ai;split at ai<;>cases ai
  have au:vs[i]?=some v:=by
   unfold start at ai;rw [jJ (by simpa using av),dg] at ai;cases e:vs[i]? with
   | none=>rw [e] at ai;cases ai
   | some a=>rw [e] at ai;cases ai;rfl
  obtain ⟨u,l,n⟩:=r.get au;have ar:ag[i]?=some y:=by
   rw [<-S.pre,List.getElem?_take_of_lt .ak];exact af
  have m:ag.Nodup:=by rw [<-S.pre];exact S.cD.sublist (List.take_sublist _ _)
  refine #[u,n,?_];rcases S.par y (cg ar) with k|k
  ·exact .inl #[k,JL m ar l k]
  ·obtain ⟨c,e⟩:=IE k;refine .inr #[.inl k,c,e,?_];have q:=x.cell y c e;rw [JJ m ar l (by show scope.names.lookup y≠_;rw [k];decide)] at q;exact q
 ·exact d.aS.fresh (vY (x.above y c (td h)))
 ·unfold start;show _=N.length;rw [dn,bb,List.length_replicate];omega
theorem Gm {K:aT} {c_:Value}
  (lk:K.lookup f=some ⟨fs,cZ,.func (PySem.W.fnOf name qual params body scope i c_ doc pm an a0 cG),mm⟩) (l:PySem.W.codeIn K a0 qual=.t) (S:bF N ag scope)
  (len:∀ vs H Q E,sp vs H Q E->vs.length=ag.length)
  (j:∀ A outer s H vs Q E,c6 k (A.deeper (envOfC qual scope s.heap.objs.size f a0))->sp vs H Q E ->
   ∃ t,ie (ix cx P w K mg base N qual scope f a0 A outer s H E) body t/\t { bg:=λ Z H'=>Q .aX H',jo:=Q } (start N vs) H) :
  dO P w K mg base cx (k+1) f (PySem.W.fnOf name qual params body scope i c_ doc pm an a0 cG) ag sp:=by
 refine #[len,λ A outer s H args us vs Q E c a ae r h=>?_];have p:=len _ _ _ _ h;have g:=a.mod.hN.keeps λ b o e=>(a.bs b o e).1
 have lim:=a.mod.nolimit.keeps λ b o e=>(a.bs b o e).1
 have m:∀ y∈ag.zip us,scope.names.lookup y.1=some .local\/(scope.names.lookup y.1=some .cell/\((cellsFrom (s.heap.objs.size+1) scope.names []).lookup y.1).isSome=.t):=λ ⟨n,v⟩ B=>by
  rcases S.par n (mL B).1 with q|q
  ·exact .inl q
  ·exact .inr #[q,v8 _ _ _ (.inl q)]
 refine Bp c.depth (g _ _ lk) rfl S.co S.gen rfl (Bq g l) (ae _ _ _ _ ?_);refine Br S.kind m λ env he s1 x=>?_
 subst he;refine #[lim.keeps x.toInCall.keep,codeAny_func ?_];obtain ⟨t,aI,z⟩:=j A outer s H vs Q E (c.deeper _) h;have I:Inv (ix cx P w K mg base N qual scope f a0 A outer s H E) [] (start N vs) H s1:=CC S c.hd a p r x;refine eU (aI [] s1 (start N vs) H _ I z) (λ fl s' aA=>?_) λ e s' aA=>aA
 have fin:∀ {σ':St} {H':aC} {v:V} {u:Value},Inv (ix cx P w K mg base N qual scope f a0 A outer s H E) [] σ' H' s'->RelV v u->Q v H'->p9 outer P w H s Q u s' :=
  λ {σ' H' v u} J d q=>#[v,H',J.os,J.bare,J.base,J.aS,d,q]
 cases fl with
 | ret u =>
  obtain ⟨v,σ',H',J,d,q⟩:=aA;exact fin J d q
 | next =>
  obtain ⟨σ',H',J,q⟩:=aA;exact fin (v:=V.aX) J rfl q
 | brk =>
  obtain ⟨_,_,_,q⟩:=aA;exact False.elim q
 | cont =>
  obtain ⟨_,_,_,q⟩:=aA;exact False.elim q
section
variable {X:a5} {x:Str} {p pos:Pos} {e:Expr} {ah:List Expr} {t:dh} {id T:String} {r:List V->aC->cj->Prop}
def qA (r:List V->aC->cj->Prop) (t:dh):TE:=λ σ H Q=>t σ H λ vs H1=>r vs H1 Q
theorem XF (b:dG X (.builtin id) r) (d:cI X x) (hm:X.mg x=.n) (aM:bootBuiltins x=some (.builtin id)) (au:fK X (e::ah) t) (aB:x ≠ "__name__" := by decide) (c:(x==("__debug__" : Str))=.f:=by decide)
  (he:starEach (e::ah) X.env=(.f,eval e X.env)::starEach ah X.env:=by rfl) (cu:(backTo pos (starEach ah X.env)).any (·.1)=.f:=by rfl):bG X (.Call (.Name x p) (e::ah) [] pos) (qA r t):=by
 intro pins s σ H Q I h;refine kp (kr I d hm aM ?_ aB c);exact PyProof.Rows.callWith_builtin1 (a8 (au pos pins s σ H _ I h) λ us s1 ⟨vs,H1,a,f,aO⟩=>b pins s1 σ H1 vs us Q a f aO) he cu
theorem Y6 (b:dG X (.type T) r) (d:cI X x) (hm:X.mg x=.n) (aM:bootBuiltins x=some (.type T)) (au:fK X (e::ah) t) (aB:x ≠ "__name__" := by decide) (c:(x==("__debug__" : Str))=.f:=by decide)
  (he:starEach (e::ah) X.env=(.f,eval e X.env)::starEach ah X.env:=by rfl) (cu:(backTo pos (starEach ah X.env)).any (·.1)=.f:=by rfl):bG X (.Call (.Name x p) (e::ah) [] pos) (qA r t):=by
 intro pins s σ H Q I h;refine kp (kr I d hm aM ?_ aB c);exact nP (a8 (au pos pins s σ H _ I h) λ us s1 ⟨vs,H1,a,f,aO⟩=>b pins s1 σ H1 vs us Q a f aO) he cu
end
end bt
abbrev bj:=List bt.V
abbrev e6:=Option bt.V
variable {σ0:bt.St}
namespace c7
open PySem PyProof.Rows
noncomputable def lexLt:bp->bp->Bool
 | [],[]=>.f
 | [],_::_=>.t
 | _::_,[]=>.f
 | x::xs,y::ys=>if x=y then lexLt xs ys else decide (x<y)
theorem ZQ (x y) (xs ys):lexLt (x::xs) (y::ys)=if x=y then lexLt xs ys else decide (x<y):=rfl
theorem abC (y) (ys):lexLt [] (y::ys)=.t:=rfl
theorem abB (x) (xs):lexLt (x::xs) []=.f:=rfl
section
variable {prog:Program} {w:World} {A:Around} {E:dc} {s:Shared}
noncomputable def cy (n d:Nat):Option Int->Nat
 | none=>d
 | some v=>if v<0 then (v+(n:Int)).toNat else min v.toNat n
theorem U7 (n d) (hd:d<=n) (o):cy n d o<=n:=by
 cases o with
 | none=>exact hd
 | some v =>
  show (if v<0 then (v+n).toNat else min v.toNat n)<=n;by_cases aM:v<0
  ·rw [if_pos aM];omega
  ·rw [if_neg aM];exact Nat.min_le_right _ _
theorem HD (v) (n d:Nat):(if v<0 then max (v+(n:Int)) 0 else min v (n:Int))=((cy n d (some v):Nat):Int):=by
 show (if v<0 then max (v+n) 0 else min v n)=(((if v<0 then (v+(n:Int)).toNat else min v.toNat n):Nat));by_cases aM:v<0
 ·simp only [if_pos aM];omega
 ·simp only [if_neg aM];omega
theorem Zx (lo av) (n:Nat):Builtin.Slice.sliceAdjust lo av 1 (n:Int)=(((cy n 0 lo:Nat):Int),((cy n n av:Nat):Int)):=by
 have af:¬ (1<0):=by omega
 unfold Builtin.Slice.sliceAdjust;refine Prod.ext ?_ ?_
 ·cases lo with
  | none=>rfl
  | some v=>exact HD v n 0
 ·cases av with
  | none=>rfl
  | some v=>exact HD v n n
theorem Z8 (i j:Nat):Builtin.Slice.slicePlaces (i:Int) (j:Int) 1=j-i:=by
 unfold Builtin.Slice.slicePlaces;have af:1>0:=by omega
 split<;>omega
theorem La (p:IsPart v o) (h:Q o s):wpAny (model prog w) A (Builtin.Slice.slicePartIndex v) Q E s:=by
 cases p with
 | none=>exact slicePart_none h
 | int i t=>exact slicePart_int h
theorem N2 {lo:Option Int} {Q:Int×Int×Nat->Shared->Prop} (aA:s.heap.IsSliceOf cB c d .none) (bw:IsPart c lo) (pu:IsPart d av)
  (h:Q (((cy n 0 lo:Nat):Int),1,cy n n av-cy n 0 lo) s):wpAny (model prog w) A (Builtin.Slice.sliceApplied (.ref cB) (pure (n:Int))) Q E s:=by
 obtain ⟨os,b,e,a⟩:=id aA;refine az (az (d4 b a Y (az (d4 b a Y (az (d4 b a Y (bl ?_)))))));refine az (slicePart_none ?_);rw [if_neg .aw];refine az (La bw (az (La pu (az (bl ?_)))));show wpAny _ _ (match Builtin.Slice.sliceAdjust lo av 1 n with|(lo,av)=>pure (lo,(1:Int),Builtin.Slice.slicePlaces lo av 1)) _ _ s;rw [Zx lo av n];show wpAny _ _ (pure (((cy n 0 lo):Int),1,Builtin.Slice.slicePlaces (cy n 0 lo:Nat) (cy n n av:Nat) 1)) _ _ s;rw [Z8];exact bl h
theorem XR (xs:ec) (i k:Nat):((List.range k).filterMap λ (m:Nat)=>xs[((i:Int)+(m:Int)*1).toNat]?).toArray=((xs.toList.drop i).take k).toArray:=by
 have e:(λ (m:Nat)=>xs[(i+(m:Int)*1).toNat]?)=λ m=>xs[i+m]?:=by
  funext m;have:(i+(m:Int)*1).toNat=i+m:=by omega
  rw [this]
 rw [e];have:=pick_run xs i k;rw [List.filterMap_map] at this;have a:((λ x=>xs[x]?)∘λ x=>i+x)=λ m=>xs[i+m]?:=rfl
 rw [a] at this;rw [this]
theorem acx {lo:Option Int} (aI:IsTup s.heap t items) (aA:s.heap.IsSliceOf cB f g .none) (bw:IsPart f lo) (pu:IsPart g av)
  (hw:¬ (cy items.size 0 lo=0/\cy items.size items.size av=items.size))
  (h:Q (.ref s.heap.objs.size) { s with heap:=s.heap.push { cls:=.type "tuple", data:=.seq ((items.toList.drop (cy items.size 0 lo)).take (cy items.size items.size av-cy items.size 0 lo)).toArray } })
  (k:items.size<=sizeLine):wpAny (model prog w) A (getItem (.ref t) (.ref cB)) Q E s:=by
 have e:sizeOk (.seq ((items.toList.drop (cy items.size 0 lo)).take (cy items.size items.size av-cy items.size 0 lo)).toArray):=by
  show ((items.toList.drop (cy items.size 0 lo)).take (cy items.size items.size av-cy items.size 0 lo)).toArray.size<=sizeLine;rw [dj,i3,List.length_drop,eV];omega
 have j:cy items.size items.size av<=items.size:=U7 _ _ (bL _) av;obtain ⟨os,d,b,i⟩:=id aA;have a:s.TypeIs (.ref cB) "slice" := #[os,d,b]
 unfold getItem
 try with_reducible refine eS ?_
 skip
 refine az (wpAny_sequenceKey aI.typeIs .aw ?_);refine az (jG aI.typeIs qY
  (iD qY aI.typeIs entry_tuple_getitem ?_ (args_tuple_getitem _ _)))
 show wpAny _ _ (Builtin.Tuple.tupleItemsOf (.ref t)>>=_) _ _ s;refine az (tupleItemsOf_ aI ?_);refine az (pG a ?_);rw [if_pos .aw];refine az (N2 aA bw pu ?_);have c:¬ ((((cy items.size 0 lo):Int)==0&&(1:Int)==1&&(cy items.size items.size av-cy items.size 0 lo)==items.size)=.t):=by
  intro q;rw [eX,eX] at q;have aO:=eq_of_beq q.1.1;have l:=eq_of_beq q.2;exact hw #[.ak,.ak]
 show wpAny _ _ (if (((cy items.size 0 lo):Int)==0&&1==1&&(cy items.size items.size av-cy items.size 0 lo)==items.size)=.t then _ else _) _ _ s;rw [if_neg c,XR]
 exact az (m:=Builtin.Tuple.tupleExact _) (lp (az (bl (bl #[_,Y,bl h]))) e)
end
end c7
namespace bt
open PySem PySem.Spec PyProof.Rows
abbrev c1:=St->aC->(Option Int->aC->Prop)->Prop
def rN (X:a5) (e:Option Expr) (t:c1):Prop :=
 ∀ pins s (σ:St) H Q,Inv X pins σ H s->t σ H Q ->
  wpAny (model X.prog X.w) X.A (evalPart e X.env) (λ u s'=>∃ o H',Inv X pins σ H' s'/\IsPart u o/\Q o H') X.ct s
def Il:c1:=λ Z H Q=>Q .n H
def GL (t:TE):c1:=λ σ H Q=>t σ H λ x H1=>∃ i,x=.int i/\Q (some i) H1
theorem intsAre_of:∀ {us:List Value},Vals (ns.map V.int) us->IntsAre us ns:=by
 induction ns with
 | nil=>intro us r;rw [List.map_nil] at r;cases r;exact .nil
 | cons n ns a =>
  intro us r;rw [fv] at r;cases r with
  | cons b c =>
   obtain ⟨t,e⟩:=b;subst e;exact .cons n t (a c)
section
variable {X:a5} {e:Expr} {bx:TE} {lo av:Option Expr} {ck bC:c1} {pos eE:Pos}
theorem V3:rN X .n Il:=by
 intro pins s σ H Q I h;rw [evalPart_none];exact bl #[.n,H,I,.none,h]
theorem V4 (h:bG X e bx):rN X (some e) (GL bx):=by
 intro pins s σ H Q I hw;rw [evalPart_some];refine a8 (h pins s σ H _ I hw) ?_;rintro u s1 ⟨x,H1,a,b,aO⟩
 obtain ⟨i,rfl,q⟩:=aO;obtain ⟨t,rfl⟩:=b;exact #[some i,H1,a,.int i t,q]
def kY (X:a5) (r:V->Option Int->Option Int->aC->cj->Prop):Prop :=
 ∀ pins s (σ:St) H x (v a b) (lo av) cB Q,Inv X pins σ H s->RelV x v->s.heap.IsSliceOf cB a b .none->IsPart a lo->IsPart b av->r x lo av H Q ->
  ∃ T id,typeLookup (.type T) "__getitem__" = pure (some (.builtin id))/\s.TypeIs v T/\wpAny (model X.prog X.w) X.A (getItem v (.ref cB)) (f3 X pins σ Q) X.ct s
theorem kY.or (h:kY X r) (h':kY X d):kY X (λ x lo av H Q=>r x lo av H Q\/d x lo av H Q):=by
 intro pins s σ H x v b c lo av cB Q I a aA bw pu q;rcases q with q|q
 ·exact h pins s σ H x v b c lo av cB Q I a aA bw pu q
 ·exact h' pins s σ H x v b c lo av cB Q I a aA bw pu q
def Fl (r:V->Option Int->Option Int->aC->cj->Prop) (bx:TE) (ck bC:c1):TE:=λ σ H Q=>bx σ H λ x H1=>ck σ H1 λ l ao=>bC σ ao λ u a=>r x l u a Q
theorem XP (n:kY X r) (he:bG X e bx) (m:rN X lo ck) (o:rN X av bC):bG X (.Subscript e (.Slice lo av .n eE) pos) (Fl r bx ck bC):=by
 intro pins s σ H Q I h;refine Subscript_ (a8 (he pins s σ H _ I h) ?_);rintro v s1 ⟨x,H1,f,w,aO⟩;refine wpAny_Slice (a8 (m pins s1 σ H1 _ f aO) ?_);rintro a s2 ⟨l,ao,g,bw,p⟩;refine a8 (o pins s2 σ ao _ g p) ?_;rintro c s3 ⟨u,d,i,pu,t⟩;rw [evalPart_none];refine bl ?_;have j:Inv X pins σ d { s3 with heap:=s3.heap.push { cls:=.type "slice", data:=.fields [a,c,.none].toArray } }:=i.kept λ b bQ q=>bo _ q
 obtain ⟨T,id,bA,aI,k⟩:=n pins { s3 with heap:=s3.heap.push { cls:=.type "slice", data:=.fields [a,c,.none].toArray } } σ d x v a c l u s3.heap.objs.size Q j w (Heap.IsSliceOf.new ..) bw pu t;exact tail_any aI bA k (by with_unfolding_all rfl)
noncomputable def iw (xs:bj) (lo av:Option Int):bj:=(xs.drop (c7.cy xs.length 0 lo)).take (c7.cy xs.length xs.length av-c7.cy xs.length 0 lo)
theorem Lx (xs) (lo av):(iw xs lo av).length<=xs.length:=by
 unfold iw;rw [i3,List.length_drop];omega
inductive AH (K:aT):V->Option Int->Option Int->aC->cj->Prop
 |mk {x lo av H Q} (a xs):x=.ref a->aL K H a xs->(¬ (c7.cy xs.length 0 lo=0/\c7.cy xs.length xs.length av=xs.length))->(∀ p,H p=.n->Q (.ref p) (upd H p (.tup (iw xs lo av))))->AH K x lo av H Q
theorem U_:kY X (AH X.K):=by
 intro pins s σ H x v i j lo av cB Q I g aA bw pu h;obtain ⟨a,xs,rfl,d,hw,q⟩:=h;cases g;obtain ⟨f,r,aI,c⟩:=I.tuple d;have hlen:f.toArray.size=xs.length:=by rw [dj];exact r.length.symm
 refine #["tuple", _,qY.lookup,aI.typeIs,?_];refine c7.acx aI aA bw pu (by rw [hlen];exact hw) ?_ (by rw [hlen];exact c);rw [hlen];refine #[.ref s.heap.objs.size,_,I.laid (λ b bQ q=>bo _ q) (bL _) ?_,Y,q _ (I.aS.fresh (bL _))];exact #[dT (Lx xs lo av) c,_,(r.drop (c7.cy xs.length 0 lo)).take (c7.cy xs.length xs.length av-c7.cy xs.length 0 lo),ly.new _ _]
theorem Vals.VE (r:Vals xs us):us=[] ↔ xs=[]:=by
 cases r with
 | nil=>simp
 | cons _ _=>simp
end
noncomputable def kc (n:Nat) (i:Int):Option Nat:=if 0<=i then (if i<n then some i.toNat else .n) else if -n<=i then some (i+n).toNat else .n
noncomputable def es {α : Type} (xs:List α) (i:Int):Option α := (kc xs.length i).bind λ j=>xs[j]?
theorem HM (h:kc n i=some j):seqIndex? i n=some j/\j<n /\ -(n:Int)<=i/\i<n:=by
 unfold kc at h;by_cases h0:0<=i
 ·rw [if_pos h0] at h;by_cases af:i<n
  ·rw [if_pos af] at h;have e:=dS h;exact #[by rw [seqIndex_of h0 af,e],.ak,.ak,af]
  ·rw [if_neg af] at h;cases h
 ·rw [if_neg h0] at h;by_cases af : -n<=i
  ·rw [if_pos af] at h;have e:=dS h;exact #[by rw [seqIndex_neg .ak af,e],.ak,af,.ak]
  ·rw [if_neg af] at h;cases h
theorem BG {v: α} (h:es xs i=some v):∃ j,seqIndex? i xs.length=some j/\xs[j]?=some v/\j<xs.length /\ -(xs.length:Int)<=i/\i<xs.length:=by
 unfold es at h;cases e:kc xs.length i with
 | none=>rw [e] at h;cases h
 | some j =>
  rw [e] at h;obtain ⟨af,ai,a,b⟩:=HM e;exact #[j,af,h,ai,a,b]
theorem HB {j:Nat} {v: α} (h:xs[j]?=some v):es xs (j:Int)=some v:=by
 have a:=(dK.mp h).1;have e:kc xs.length j=some j:=by
  unfold kc;rw [if_pos .ak,if_pos .ak];simp
 unfold es;rw [e];exact h
theorem IC (xs) (v : α):es (xs++[v]) (-1)=some v:=by
 have a:(xs++[v]).length=xs.length+1:=by simp
 have e:kc (xs++[v]).length (-1)=some xs.length:=by
  unfold kc;rw [a,if_neg .aw,if_pos .ak];congr 1;omega
 unfold es;rw [e];simp
def Hz (b:Expr):Prop:=∀ o i,subscripted b .f o i=operate [o,i] (getItem o i)
def r9 (X:a5) (r:gu):Prop :=
 ∀ (value slice) pins s (σ:St) H (x y) (v u) Q,Inv X pins σ H s->RelV x v->RelV y u->r x y H Q ->
  subscripted slice .f v u=operate [v,u] (getItem v u)->wpAny (model X.prog X.w) X.A (subscriptTail value slice v u) (f3 X pins σ Q) X.ct s
def kX (X:a5) (id:String) (r:V->bj->aC->cj->Prop):Prop :=
 ∀ pins s (σ:St) H x xs v us Q,Inv X pins σ H s->RelV x v->Vals xs us->r x xs H Q ->
  wpAny (model X.prog X.w) X.A (call (.builtin id) (v::us)) (f3 X pins σ Q) X.ct s
section
variable {X:a5} {a b:Expr} {aP aQ:TE} {pos:Pos}
theorem TH (d:r9 X r) (au:bG X a aP) (ae:bG X b aQ) (aA:Hz b):bG X (.Subscript a b pos) (nz r aP aQ):=by
 intro pins s σ H Q I h;exact Subscript_ (As au ae I h λ v u s2 x y ao c e f q=>d a b pins s2 σ ao x y v u Q c e f q (aA _ _))
inductive FZ (K:aT):gu
 |mk {x y H Q} (p xs i v):x=.ref p->y=.int i->aK K H p xs->es xs i=some v->Q v H->FZ K x y H Q
inductive F1 (K:aT):gu
 |mk {x y H Q} (p xs i v):x=.ref p->y=.int i->aL K H p xs->es xs i=some v->Q v H->F1 K x y H Q
inductive F0:gu
 |mk {x y H Q} (z i c):x=.str z->y=.int i->z.length<=sizeLine->es z.cps.toList i=some c->Q (.str ⟨[c].toArray⟩) H->F0 x y H Q
theorem cz:r9 X (FZ X.K):=by
 intro value slice pins s σ H x y v u Q I m n h aA;obtain ⟨p,xs,i,z,rfl,rfl,k,he,q⟩:=h;cases m;obtain ⟨t,rfl⟩:=n;obtain ⟨l,r,bw,A⟩:=I.list k;obtain ⟨j,af,ai,o,e,f⟩:=BG he;obtain ⟨w,d,cU⟩:=r.get ai;have g:=r.length;have aB:=pC;have fin:f3 X pins σ Q w s:=#[z,H,I,cU,q]
 by_cases h0:0<=i
 ·have c:i.toNat=j:=by
   rw [seqIndex_of h0 f] at af;exact dS af
  exact item_listR bw.isList h0 .ak (by rw [c];simpa using d) fin aA
 ·have c:(i+(l.toArray.size)).toNat=j:=by
   rw [seqIndex_neg .ak e] at af;rw [dj,<-g];exact dS af
  exact subscriptTail_builtinR bw.isList.typeIs slot_list_getitem.lookup
   (wpAny_getItem_list_neg bw.isList .ak (by rw [dj]<;>omega) .ak (by rw [c];simpa using d) #[Y,fin]) aA
theorem d6:r9 X (F1 X.K):=by
 intro value slice pins s σ H x y v u Q I f g h aA;obtain ⟨p,xs,i,z,rfl,rfl,e,he,q⟩:=h;cases f;obtain ⟨t,rfl⟩:=g;obtain ⟨o,r,bw,n⟩:=I.tuple e;obtain ⟨j,af,ai,k,l,m⟩:=BG he;obtain ⟨w,c,cU⟩:=r.get ai;have d:=r.length;have aB:=pC;have fin:f3 X pins σ Q w s:=#[z,H,I,cU,q]
 exact subscriptTail_builtinR bw.typeIs slot_tuple_getitem.lookup
  (getItem_tuple bw .ak .ak (by rw [dj,<-d];exact af) (by simpa using c) #[Y,fin]) aA
theorem G4:r9 X F0:=by
 intro value slice pins s σ H x y v u Q I l m h aA;obtain ⟨z,i,c,rfl,rfl,o,he,q⟩:=h;obtain ⟨t,rfl⟩:=l;obtain ⟨t',rfl⟩:=m;obtain ⟨j,af,ai,n,f,g⟩:=BG he;have k:z.cps.toList.length=z.length:=by simp [Str.length]
 rw [k] at af f g;have aB:=pC;exact tail_any (pH s z t) slot_str_getitem.lookup (getItem_str (by
  have d:decide (i < -(2 ^ 63))=.f:=cK .ak;have e:decide (i ≥ 2 ^ 63)=.f:=cK .ak;rw [d,e,Bool.or_false]) (by rw [af];simpa using ai) #[.str #[[c].toArray],H,I.tok _,#[_,Y],q]) aA
theorem ZV (c:List Value) (n j) (u):Obj.mapSeq (·.setIfInBounds j u) { cls:=.type "list", data:=.seq c.toArray n }={ cls:=.type "list", data:=.seq (c.set j u).toArray n }:=by
 simp [Obj.mapSeq]
theorem Inv.lst {σ:St} (I:Inv X pins σ H s) (h:H p=some (.lst xs)) :
  ∃ (c:List Value) (n:Nat),Vals xs c/\s.heap.get? p=some { cls:=.type "list", data:=.seq c.toArray n }/\xs.length<=sizeLine:=by
 obtain ⟨z,c,n,r,e⟩:=I.aS p _ h;exact #[c,n,r,e,z]
theorem Inv.Ul {σ:St} {d:List Value} (I:Inv X pins σ H s) (h:H p=some (.lst xs))
  (g:s.heap.get? p=some { cls:=.type "list", data:=.seq d.toArray n }) (hf:f { cls:=.type "list", data:=.seq d.toArray n }={ cls:=.type "list", data:=.seq c.toArray b3 }) (r:Vals ys c) (i:ys.length<=sizeLine) (t) :
  Inv X pins σ (upd H p (.lst ys)) { s with heap:=s.heap.update p f,toks:=t }:=by
 have e:(s.heap.update p f).get? p=some { cls:=.type "list", data:=.seq c.toArray b3 }:=by
  rw [lq f g (by rw [hf]<;>rfl),hf]
 refine I.write (by rw [h];trivial) (.inl Y) (λ b u ae q=>(hT _ _ (eT ae)).trans q) #[_,e] ?_;exact #[i,c,b3,r,e]
inductive A5:V->V->V->aC->(aC->Prop)->Prop
 |mk {o i v H Q} (p xs k j):o=.ref p->i=.int k->H p=some (.lst xs)->kc xs.length k=some j->Q (upd H p (.lst (xs.set j v)))->A5 o i v H Q
theorem set_list:vA X A5:=by
 intro pins s σ H o i v B A u Q I y x z h;obtain ⟨p,xs,k,j,rfl,rfl,ar,m,q⟩:=h;cases y;obtain ⟨t,rfl⟩:=x;obtain ⟨l,n,r,d,w⟩:=I.lst ar;obtain ⟨af,ai,f,g⟩:=HM m;have c:=r.length;have aB:=pC;have e:=
  I.Ul ar d (ZV l n j u) (r.set z j) (by rw [pI];exact w) s.toks
 by_cases h0:0<=k
 ·have ay:k.toNat=j:=by
   rw [seqIndex_of h0 g] at af;exact dS af
  exact PySem.W.ki_setAt d h0 .ak (by rw [dj,<-c];exact g) (by rw [ay];exact #[_,e,q])
 ·have ay:(k+(l.toArray.size)).toNat=j:=by
   rw [seqIndex_neg .ak f] at af;rw [dj,<-c];exact dS af
  exact PySem.W.ki_setBack d .ak (by rw [dj,<-c];exact f) .ak (by rw [ay];exact #[_,e,q])
theorem aa1 (lo av) (n):(sliceBounds lo av .n n).1=((c7.cy n 0 lo:Nat):Int)/\(sliceBounds lo av .n n).2.1=((c7.cy n n av:Nat):Int)/\(sliceBounds lo av .n n).2.2=1:=by
 refine #[?_,?_,Y]
 ·cases lo with
  | none=>simp [sliceBounds,c7.cy]
  | some i =>
   simp only [sliceBounds,c7.cy,Option.getD_none,show 1>0 by decide,if_true];by_cases h:i<0
   ·simp only [h,if_true]<;>omega
   ·simp only [h,if_false]<;>omega
 ·cases av with
  | none=>simp [sliceBounds,c7.cy]
  | some i =>
   simp only [sliceBounds,c7.cy,Option.getD_none,show 1>0 by decide,if_true];by_cases h:i<0
   ·simp only [h,if_true]<;>omega
   ·simp only [h,if_false]<;>omega
theorem abu (c:List Value) (lo av):slicePick c.toArray lo av .n=((c.drop (c7.cy c.length 0 lo)).take (c7.cy c.length c.length av-c7.cy c.length 0 lo)).toArray:=by
 obtain ⟨af,ai,d⟩:=aa1 lo av c.toArray.size;unfold slicePick;rw [af,ai,d];simp only [sliceRange_one,pick_run,dj]<;>rfl
inductive F2 (K:aT):V->Option Int->Option Int->aC->cj->Prop
 |mk {x lo av H Q} (a xs):x=.ref a->aK K H a xs->(∀ p,H p=.n->Q (.ref p) (upd H p (.lst (iw xs lo av))))->F2 K x lo av H Q
theorem B0:kY X (F2 X.K):=by
 intro pins s σ H x v g i lo av cB Q I e aA bw pu h;obtain ⟨a,xs,rfl,c,q⟩:=h;cases e;obtain ⟨f,r,aI,d⟩:=I.list c;have hlen:=r.length;refine #["list", _,slot_list_getitem.lookup,aI.isList.typeIs,?_];refine wpAny_getItem_list_slice aI.isList aA bw pu .none .zs ?_ (by rw [dj]<;>omega);rw [abu,<-hlen];refine #[.ref s.heap.objs.size,_,I.laid (λ b bQ q=>bo _ q) (bL _) ?_,Y,q _ (I.aS.fresh (bL _))];exact #[dT (Lx xs lo av) d,_,0,(r.drop (c7.cy xs.length 0 lo)).take (c7.cy xs.length xs.length av-c7.cy xs.length 0 lo),cN _ Y]
noncomputable def nH:V->Bool
 | .aX=>.t
 | .aJ _=>.t
 | .int _=>.t
 | .str _=>.t
 | _=>.f
noncomputable def l_:V->V->Bool
 | .aX,.aX=>.t
 | .aJ a,.aJ b=>a==b
 | .aJ a,.int b=>(if a then 1 else 0)==b
 | .int a,.aJ b=>a==(if b then 1 else 0)
 | .int a,.int b=>a==b
 | .str a,.str b=>a==b
 | _,_=>.f
theorem Uc (e:RelV y u) (c:RelV x v) (f:nH y=.t) (d:nH x=.t):SeqAt.EqAt A s u v (l_ y x):=by
 cases y with
 | aX =>
  cases e;cases x with
  | aX=>cases c;exact SeqAt.EqAt.same _
  | aJ b=>cases c;exact SeqAt.EqAt.none_bool b
  | int b=>obtain ⟨t,rfl⟩:=c;exact SeqAt.EqAt.none_int b t
  | str b=>obtain ⟨t,rfl⟩:=c;exact SeqAt.EqAt.none_str b t
  | _=>exact absurd d dP
 | aJ a =>
  cases e;cases x with
  | aX=>cases c;exact SeqAt.EqAt.bool_none a
  | aJ b=>cases c;exact SeqAt.EqAt.bool_bool a b
  | int b=>obtain ⟨t,rfl⟩:=c;exact SeqAt.EqAt.bool_int a b t
  | str b=>obtain ⟨t,rfl⟩:=c;exact SeqAt.EqAt.bool_str a b t
  | _=>exact absurd d dP
 | int a =>
  obtain ⟨t',rfl⟩:=e;cases x with
  | aX=>cases c;exact SeqAt.EqAt.int_none a t'
  | aJ b=>cases c;exact SeqAt.EqAt.int_bool a t' b
  | int b=>obtain ⟨t,rfl⟩:=c;exact Bs a t' b t
  | str b=>obtain ⟨t,rfl⟩:=c;exact SeqAt.EqAt.int_str a t' b t
  | _=>exact absurd d dP
 | str a =>
  obtain ⟨t',rfl⟩:=e;cases x with
  | aX=>cases c;exact SeqAt.EqAt.str_none a t'
  | aJ b=>cases c;exact SeqAt.EqAt.str_bool a t' b
  | int b=>obtain ⟨t,rfl⟩:=c;exact SeqAt.EqAt.str_int a t' b t
  | str b=>obtain ⟨t,rfl⟩:=c;exact SeqAt.EqAt.str_str a t' b t
  | _=>exact absurd d dP
 | _=>exact absurd f dP
noncomputable def l9 (x:V) (u:Value):Bool:=match u with
 | .none=>l_ .aX x
 | .bool b=>l_ (.aJ b) x
 | .int i _=>l_ (.int i) x
 | .str z _=>l_ (.str z) x
 | _=>.f
theorem G1 (r:RelV y u) (f:nH y=.t):l9 x u=l_ y x:=by
 cases y with
 | aX=>cases r;rfl
 | aJ b=>cases r;rfl
 | int i=>obtain ⟨t,rfl⟩:=r;rfl
 | str z=>obtain ⟨t,rfl⟩:=r;rfl
 | _=>exact absurd f dP
theorem BF:∀ {xs:bj} {us:List Value},Vals xs us->xs.all nH=.t->us.any (l9 x)=xs.any λ y=>l_ y x
 | _,_,.nil,_=>rfl
 | y::xs,u::us,.cons r t,f=>by
  rw [qZ,eX] at f;rw [pJ,pJ,G1 r f.1,BF t f.2]
theorem Cc (e:RelV x v) (d:nH x=.t):∀ {xs:bj} {us:List Value},Vals xs us->xs.all nH=.t->∀ u∈us,SeqAt.EqAt A s u v (l9 x u)
 | _,_,.nil,_=>λ u c=>by cases c
 | y::xs,u::us,.cons r t,f=>λ g c=>by
  rw [qZ,eX] at f;rcases b5.mp c with rfl|c
  ·rw [G1 r f.1];exact Uc r e f.1 d
  ·exact Cc e d t f.2 g c
noncomputable def qv (x:V) (xs:bj):Bool:=xs.any λ y=>l_ y x
def RW (K:aT) (neg:Bool):gu:=λ x y H Q=>∃ p xs,y=.ref p/\(aK K H p xs\/aL K H p xs)/\nH x=.t/\xs.all nH=.t/\Q (.aJ (if neg then !qv x xs else qv x xs)) H
theorem Kb:cQ X (compareOp .In) (RW X.K .f):=by
 intro pins s σ H x y v u Q I f i h;obtain ⟨p,xs,rfl,c,e,aj,q⟩:=h;cases i;rcases c with c|c
 ·obtain ⟨d,r,bw,g⟩:=I.list c;refine SeqAt.in_listAt (l9 x) bw.isList (λ w hw=>Cc f e r aj w (by simpa using hw)) #[.aJ _,H,I,Y,?_];rw [show d.toArray.any (l9 x)=d.any (l9 x) by simp,BF r aj];exact q
 ·obtain ⟨d,r,bw,g⟩:=I.tuple c;refine SeqAt.in_tupleAt (l9 x) bw (λ w hw=>Cc f e r aj w (by simpa using hw)) #[.aJ _,H,I,Y,?_];rw [show d.toArray.any (l9 x)=d.any (l9 x) by simp,BF r aj];exact q
inductive M1 (K:aT):bj->aC->cj->Prop
 |mk {xs H Q} (p ys):xs=[.ref p]->(aK K H p ys\/aL K H p ys)->Q (.int ys.length) H->M1 K xs H Q
theorem fb:dG X (.builtin "len") (M1 X.K):=by
 intro pins s σ H xs us Q I r h;obtain ⟨p,ys,rfl,c,q⟩:=h;obtain ⟨u,rfl,g⟩:=vals1 r;cases g;have aB:=pC;rcases c with c|c
 ·obtain ⟨f,d,bw,e⟩:=I.list c;have hlen:=d.length;exact Calls.call_len_list bw.isList (by simp only [dj]<;>omega) #[.int ys.length,H,I.tok _,#[s.toks+1,by rw [dj,hlen]],q]
 ·obtain ⟨f,d,bw,e⟩:=I.tuple c;have hlen:=d.length;exact len_tuple bw (by simp only [dj]<;>omega) #[.int ys.length,H,I.tok _,#[s.toks+1,by rw [dj,hlen]],q]
theorem rH:dG X (.builtin "len") (λ xs H Q=>∃ z,xs=[.str z]/\z.length<=sizeLine/\Q (.int z.length) H):=by
 intro pins s σ H xs us Q I r h;obtain ⟨z,rfl,c,q⟩:=h;obtain ⟨u,rfl,t,rfl⟩:=vals1 r;have aB:=pC;exact len_str .ak #[.int z.length,H,I.tok _,#[_,Y],q]
theorem rJ:dG X (.type "tuple") (λ xs H Q=>∃ p ys,xs=[.ref p]/\((aK X.K H p ys/\∀ l,H l=.n->Q (.ref l) (upd H l (.tup ys)))\/(aL X.K H p ys/\Q (.ref p) H))):=by
 intro pins s σ H xs us Q I r h;obtain ⟨p,ys,rfl,h⟩:=h;obtain ⟨u,rfl,k⟩:=vals1 r;cases k;rcases h with ⟨c,q⟩|⟨c,q⟩
 ·obtain ⟨i,d,bw,g⟩:=I.list c;have hlen:=d.length;refine call_tuple_list bw.isList (λ h' aW=>?_) (by simp only [dj]<;>omega);have f:=I.kept (t':=s.toks) aW;have j:=
   f.laid (t':=s.toks) (λ b o e=>bo _ e) (bL _) (show eg X.prog X.w _ _ _ (.tup ys) from #[g,i,d,ly.new _ _])
  exact #[.ref h'.objs.size,_,j,Y,q _ (f.aS.fresh (bL _))]
 ·obtain ⟨i,d,bw,g⟩:=I.tuple c;exact call_tuple_same bw #[.ref p,H,I,Y,q]
def Ah (K:aT) (T:String) (x:V) (H:aC):Prop:=match x with
 | .str _=>T = "str"
 | .int _=>T = "int"
 | .ref p=>(T = "list" /\ ∃ xs,aK K H p xs)\/(T = "tuple" /\ ∃ o,K.lookup p=some o/\o.cls=.type "tuple" /\ o.dict=.n) \/
   (T = "dict" /\ ((∃ kvs,H p=some (.bW kvs))\/∃ kvs,H p=some (.eK kvs)))\/(T = "set" /\ ∃ S n,H p=some (.set S n))
 | _=>False
theorem Hs {σ:St} (I:Inv X pins σ H s) (r:RelV x v) (ty:Ah X.K T x H) :
  s.TypeIs v T/\∀ a,v=.ref a->∃ bQ,s.heap.get? a=some bQ/\bQ.dict=.n:=by
 cases x with
 | str z =>
  obtain ⟨t,rfl⟩:=r;cases ty;exact #[pH s z t,λ Z e=>nomatch e]
 | int i =>
  obtain ⟨t,rfl⟩:=r;cases ty;exact #[tv s i t,λ Z e=>nomatch e]
 | ref p =>
  cases r;rcases ty with ⟨rfl,xs,g⟩|⟨rfl,o,ay,f,hd⟩|⟨rfl,ay⟩|⟨rfl,S,n,ay⟩
  ·obtain ⟨h,_,bw,_⟩:=I.list g;refine #[bw.isList.typeIs,λ a e=>?_];cases e;obtain ⟨o,n,e,c,hd,_⟩:=bw;exact #[o,e,hd]
  ·refine #[#[o,I.cT p o ay,f],λ a e=>?_];cases e;exact #[o,I.cT _ o ay,hd]
  ·have z:∃ o,s.heap.get? p=some o/\o.ExactDict:=by
    rcases ay with ⟨kvs,ay⟩|⟨kvs,ay⟩
    ·obtain ⟨_,_,_,_,o,_,_,e,ex,_⟩:=I.aS p _ ay;exact #[o,e,ex]
    ·obtain ⟨_,_,_,_,o,_,_,e,ex,_⟩:=I.aS p _ ay;exact #[o,e,ex]
   obtain ⟨o,e,ex⟩:=z;refine #[#[o,e,ex.1],λ a d=>?_];cases d;exact #[o,e,ex.2.1]
  ·obtain ⟨o,_,_,_,e,ex,_⟩:=I.aS p _ ay;refine #[#[o,e,ex.1],λ a d=>?_];cases d;exact #[o,e,ex.2.1]
 | _=>exact False.elim ty
def F_ (K:aT) (T:String) (r:V->bj->aC->cj->Prop) (to:TE):TE:=λ σ H Q=>to σ H λ x H1=>Ah K T x H1/\r x [] H1 Q
def Ae (K:aT) (T:String) (r:V->bj->aC->cj->Prop) (to:TE) (t:dh):TE:=λ σ H Q=>to σ H λ x H1=>Ah K T x H1/\t σ H1 λ xs ao=>r x xs ao Q
variable {o e:Expr} {ah:List Expr} {to:TE} {t:dh} {name:Str} {apos cF:Pos} {T id:String} {r:V->bj->aC->cj->Prop}
theorem Uv (k:PlainAttrs T) (slot:Slot T name id) (j:typeOf (.builtin id)=pure (.type "method_descriptor")) (hm:kX X id r) (i:bG X o to)
  (f:attributeBase o name X.env (eval o X.env)=eval o X.env:=by rfl) (g:(apos.endLine==cF.line)=.t:=by rfl):bG X (.Call (.Attribute o name apos) [] [] cF) (F_ X.K T r to):=by
 intro pins s σ H Q I h;refine wpAny_Call_method0_late f g (a8 (i pins s σ H _ I h) ?_);rintro v s1 ⟨x,H1,c,d,ty,aO⟩;obtain ⟨af,ai⟩:=Hs c d ty;exact #[T,id,k,slot,j,af,ai,wo Y (PySem.evalArgs_none (hm pins s1 σ H1 x [] v [] Q c d .nil aO))]
theorem GB (p:PlainAttrs T) (slot:Slot T name id) (n:typeOf (.builtin id)=pure (.type "method_descriptor")) (hm:kX X id r) (l:bG X o to) (au:fK X (e::ah) t)
  (i:attributeBase o name X.env (eval o X.env)=eval o X.env:=by rfl)
  (j:((backTo cF (starEach (e::ah) X.env)).all (λ x=> !x.1)&&(backToKw cF (keywordEach [] X.env)).all (λ x=>x.1.isSome)
   && decide ((e::ah).length+([]:List Keyword).length+(if ([]:List Keyword).isEmpty then 0 else 1)<30))=.t:=by rfl)
  (k:(apos.endLine==cF.line)=.t:=by rfl) (aA:starEach (e::ah) X.env=(.f,eval e X.env)::starEach ah X.env:=by rfl) (m:(backTo cF (starEach ah X.env)).any (·.1)=.f:=by rfl) :
  bG X (.Call (.Attribute o name apos) (e::ah) [] cF) (Ae X.K T r to t):=by
 intro pins s σ H Q I h;refine Bt i j k rfl (a8 (l pins s σ H _ I h) ?_);rintro v s1 ⟨x,H1,c,f,ty,aO⟩;obtain ⟨af,ai⟩:=Hs c f ty;refine #[T,id,p,slot,n,af,ai,?_];have d:=au cF pins s1 σ H1 _ c aO;rw [aA] at d ⊢;refine wo (by show (.f||(backTo cF (starEach ah X.env)).any (·.1))=.f;rw [m]<;>rfl) (tw ?_);exact a8 d λ us s2 ⟨vs,ao,g,u,q⟩=>hm pins s2 σ ao x vs v us Q g f u q
end
def l6 (X:a5) (id:String) (r:V->bj->aC->cj->Prop):Prop :=
 ∀ pins s (σ:St) H x xs v us Q,Inv X pins σ H s->RelV x v->Vals xs us->r x xs H Q ->
  wpAny (model X.prog X.w) X.A (call (.builtin id) (v::us)) (f3 X pins σ Q) X.ct s
theorem Vals.one (h:Vals [x] us):∃ u,us=[u]/\RelV x u:=by
 cases h with
 | cons r t=>cases t;exact #[_,Y,r]
theorem Vals.zero:∀ {us:List Value},Vals [] us->us=[]
 | _,.nil=>rfl
theorem Vals.dropLast (h:Vals xs us):Vals xs.dropLast us.dropLast:=by
 induction h with
 | nil=>exact .nil
 | cons r t a =>
  cases t with
  | nil=>exact .nil
  | cons q t'=>exact .cons r a
theorem Vals.rep (h:Vals xs us):∀ k,Vals (List.replicate k xs).flatten (List.replicate k us).flatten
 | 0=>.nil
 | k+1=>by
  rw [tx,tx,List.flatten_cons,List.flatten_cons];exact Vals.append h (Vals.rep h k)
theorem ZG {α: Type} (l:List α):l.eraseIdx (l.length-1)=l.dropLast:=by
 induction l with
 | nil=>rfl
 | cons a r c =>
  cases r with
  | nil=>rfl
  | cons b r =>
   have e:(a::b::r).length-1=((b::r).length-1)+1:=by
    have af:(a::b::r).length=r.length+2:=rfl;have ai:(b::r).length=r.length+1:=rfl;omega
   rw [e,List.eraseIdx_cons_succ,c]
   all_goals rfl
theorem foldl_rep (a):∀ k (acc:List Value),
  List.foldl (λ c d=>c++d) acc.toArray (List.replicate k a.toArray)=(acc++(List.replicate k a).flatten).toArray
 | 0,acc=>by simp
 | k+1,acc=>by
  have e:acc.toArray++a.toArray=(acc++a).toArray:=by simp
  have b:(acc++a)++(List.replicate k a).flatten=acc++(List.replicate (k+1) a).flatten:=by
   rw [tx,List.flatten_cons,tA]
  rw [<-b,<-foldl_rep a k (acc++a),<-e,tx,List.foldl_cons]
section
variable {X:a5} {pins:eP} {σ:St} {H:aC} {s:Shared} {l b:Addr} {xs ys zs:bj}
theorem Inv.AA {a:List Value} (I:Inv X pins σ H s) (d:H l=some (.lst xs))
  (e:s.heap.get? l=some { cls:=.type "list", data:=.seq a.toArray n }) (hf:f a.toArray=c.toArray) (aM:Vals ys c) (h:ys.length<=sizeLine) :
  Inv X pins σ (upd H l (.lst ys)) { s with heap:=s.heap.update l (Obj.mapSeq f),toks:=t' }:=by
 have q:=PySem.IsL.update e f;rw [hf] at q;refine I.write (by rw [d];exact trivial) (.inl Y) (λ i u ae g=>(hT s.heap (Obj.mapSeq f) (eT ae)).trans g) #[_,q] ?_;exact #[h,c,_,aM,q]
theorem Inv.Az (I:Inv X pins σ H s) (aM:Vals ys a) (c:ys.length<=sizeLine) :
  Inv X pins σ (upd H s.heap.objs.size (.lst ys)) { s with heap:=s.heap.push { cls:=.type "list", data:=.seq a.toArray },toks:=t' } :=
 I.laid (λ Z Z q=>bo _ q) (bL _) #[c,a,0,aM,cN _ Y]
theorem Inv.fresh (I:Inv X pins σ H s):H s.heap.objs.size=.n:=I.aS.fresh (bL _)
theorem Inv.fQ (I:Inv X pins σ H s) (c:H l=some (.lst xs)):xs.length<=sizeLine/\∃ (a:List Value) (n:Nat),Vals xs a/\xs.length=a.length/\s.heap.get? l=some { cls:=.type "list", data:=.seq a.toArray n }:=by
 obtain ⟨z,a,n,r,e⟩:=I.aS l _ c;exact #[z,a,n,r,r.length,e]
theorem Xx (h:n<=sizeLine):Builtin.List.listTooLong n=.f:=by
 exact cK .ak
end
section
variable {X:a5}
inductive H8:V->bj->aC->cj->Prop
 |mk {x vs H Q} (l xs y):x=.ref l->vs=[y]->H l=some (.lst xs)->xs.length<sizeLine->Q .aX (upd H l (.lst (xs++[y])))->H8 x vs H Q
theorem CH:l6 X "list.append" H8:=by
 intro pins s σ H x vs v us Q I f d h;obtain ⟨l,xs,y,rfl,rfl,a,i,q⟩:=h;cases f;obtain ⟨u,rfl,c⟩:=d.one;obtain ⟨z,b,n,r,g,e⟩:=I.fQ a;refine jM F.slot_list_append #[_,e,Y] F.entry_list_append (F.args_list_append_2 _ _) (PySem.list_append l b.toArray n u (by rw [dj];omega)) #[e,?_];refine #[.aX,_,I.AA a e .zs (r.append (.cons c .nil)) ?_,Y,q];rw [dn,List.length_singleton];omega
def Td:V->bj->aC->cj->Prop:=λ x vs H Q=>∃ l xs y,x=.ref l/\vs=[]/\H l=some (.lst xs)/\xs[xs.length-1]?=some y/\Q y (upd H l (.lst xs.dropLast))
theorem G8:l6 X "list.pop" Td:=by
 intro pins s σ H x vs v us Q I m k h;obtain ⟨l,xs,y,rfl,rfl,b,g,q⟩:=h;cases m;have f:=k.zero;subst f;obtain ⟨z,a,n,r,c,e⟩:=I.fQ b;obtain ⟨u,d,j⟩:=r.get g;have i:a.toArray[a.toArray.size-1]?=some u:=by
  show a.toArray[a.length-1]?=some u;rw [<-Array.getElem?_toList,<-c];exact d
 refine jM F.slot_list_pop #[_,e,Y] F.entry_list_pop (F.args_list_pop_1 _) (MeetsSeq.list_pop_last l a.toArray n u i (by rw [dj];omega)) #[e,?_];refine #[y,_,I.AA b e ?_ r.dropLast ?_,j,q]
 ·show a.toArray.eraseIdxIfInBounds (a.toArray.size-1)=a.dropLast.toArray;rw [dj,List.eraseIdxIfInBounds_toArray,ZG]
 ·rw [List.length_dropLast];omega
def Tc:gu:=λ x y H Q=>∃ l b xs zs,x=.ref l/\y=.ref b/\H l=some (.lst xs)/\H b=some (.lst zs)/\xs.length+zs.length<=sizeLine/\∀ p,H p=.n->Q (.ref p) (upd H p (.lst (xs++zs)))
theorem Us:cQ X (binaryOp .Add) Tc:=by
 intro pins s σ H x y v u Q I k m h;obtain ⟨l,b,xs,zs,rfl,rfl,i,g,t,q⟩:=h;cases k;cases m;obtain ⟨z,a,n,r,o,e⟩:=I.fQ i;obtain ⟨A,c,w,j,p,d⟩:=I.fQ g;refine PySem.P.add_list e d ?_ (by rw [dj,dj];omega);have f:a.toArray++c.toArray=(a++c).toArray:=by simp
 rw [f];exact #[.ref _,_,I.Az (r.append j) (by rw [dn];omega),Y,q _ I.fresh]
def Te:gu:=λ x y H Q=>∃ l k xs,x=.ref l/\y=.int k/\H l=some (.lst xs) /\ -(2 ^ 63)<=k/\k<2 ^ 63/\xs.length*k.toNat<=sizeLine /\
 ∀ p,H p=.n->Q (.ref p) (upd H p (.lst (List.replicate k.toNat xs).flatten))
theorem len_rep {α: Type} (xs:List α) (k):(List.replicate k xs).flatten.length=k*xs.length:=by
 induction k with
 | zero=>simp
 | succ k a=>rw [tx,List.flatten_cons,dn,a,Nat.succ_mul,Nat.add_comm]
theorem Hd:cQ X (binaryOp .Mult) Te:=by
 intro pins s σ H x y v u Q I A B h;obtain ⟨l,k,xs,rfl,rfl,g,af,ai,f,q⟩:=h;cases A;obtain ⟨t,rfl⟩:=B;obtain ⟨z,b,n,r,o,e⟩:=I.fQ g;have hlen:b.toArray.size*k.toNat<=sizeLine:=by rw [dj,<-o];exact f
 have i:¬ b.toArray.size*k.toNat>(2 ^ 63-1)/8:=by
  have:sizeLine<=(2 ^ 63-1)/8:=by decide
  omega
 have j:¬ (!Builtin.List.listFitsIndex k)=.t:=by
  rw [fitsIndex_both af ai];exact dP
 have p:¬ Builtin.List.listTooLong (b.toArray.size*k.toNat)=.t:=by
  rw [Xx hlen];exact dP
 have w:List.foldl (λ c d=>c++d) #[] (List.replicate (if b.toArray.isEmpty=.t then 0 else k.toNat) b.toArray)=(List.replicate k.toNat b).flatten.toArray:=by
  have f0:∀ m,List.foldl (λ c d=>c++d) #[] (List.replicate m b.toArray)=(List.replicate m b).flatten.toArray:=λ m=>by
   have:=foldl_rep b m [];rw [List.nil_append] at this;exact this
  rw [f0];cases b with
  | nil=>simp
  | cons a C=>rw [if_neg .zs]
 refine wpAny_binaryOp_repeat_ref .aw #[_,e,Y] (λ s'=>tv s' k t) noFill_list_mul F.fills_int_mul wq repeat_list F.slot_int_index.lookup
  (jM wq (tv s k t) F.entry_int_rmul (F.args_int_rmul_2 _ _) (int___rmul___int_list k t l b.toArray n)
   #[e,Y,#[_,e,Y],jM F.slot_list_mul #[_,e,Y] F.entry_list_mul (F.args_list_mul_2 _ _) (AutoListH.list___mul___list_int_3 l b.toArray n k t j i p) #[e,?_]])
 rw [w];exact #[.ref _,_,I.Az (r.rep k.toNat) (by rw [len_rep,nY];exact f),Y,q _ I.fresh]
end
end bt
namespace D1
open PySem PySem.W PySem.Calls PyProof.Rows
theorem abW:∀ ns vs,WellAll P h vs (ns.map WData.int)->IntsAre vs ns:=by
 intro ns
 induction ns with
 | nil =>
  intro vs w;rw [List.map_nil] at w;cases w;exact .nil
 | cons n ns c =>
  intro vs w;rw [fv] at w;cases w with
  | cons a b =>
   cases a;exact .cons _ _ (c _ b)
theorem Zi {l:OpenLaw} (aB:l.most=some n)
  (e:l.row.toRowW.claim.pre args=.t) (m:WellAll P h vals args) :
  ∃ a vs ns,vals=[Value.ref a]/\args=[WData.list (ns.map WData.int)]/\h.get? a=some { cls:=.type "list", data:=.seq vs.toArray }/\IntsAre vs ns/\ns.length<=n:=by
 have k:=(pre_splitW e).1;have i:l.pre.holds [] { args:=args }=.t:=(pre_splitW e).2;obtain ⟨d,r,rfl,af,ai⟩:=hasAllW_cons k;obtain rfl:=hasAllW_nil ai;obtain ⟨xs,rfl,f⟩:=hasW_list af;obtain ⟨ns,rfl⟩:=items_int f;have hlen:ns.length<=n:=by
  have b:(WTm.not (.lt (.lit (.int n)) (.len (.arg 0)))).holds [] { args:=[.list (ns.map .int)] }=.t:=by
   have b:=(holds_andW i).1;rw [aB] at b;exact b
  have c:=condW_of b (w_not (w_lt w_lit (w_len_list (w_arg Y))));rw [bb] at c;refine Nat.le_of_not_lt λ q=>?_
  have aH:n<((ns.length):Int):=by omega
  (rw [bP aH] at c;exact absurd c .aw)
 cases m with
 | cons o p =>
  cases p;cases o with
  | list j g=>exact #[_,_,ns,Y,Y,j,abW ns _ g,hlen]
theorem Y_ (l:OpenLaw) (args):l.row.toRowW.claim.post args (.bool .t) args=.t :=
 postW_of
  (show WShape.has [] (.bool .t) .bool=.t by decide)
  (w_eq_bool (w_res Y) w_lit) rfl
theorem aao {l:OpenLaw}
  (aB:l.most=some n) (m:d.params.defaults=[])
  (call:∀ w s₀ s₁ mg j8 b o pm cd doc a vs ns,
   Ground q loose [] e w s₀ mg j8 s₁.heap->g w s₁.heap ->
   s₁.heap.get? b=some o->o.data=.func (docDef d.name d.params d.body d.scope pm cd doc)->s₁.heap.CodeRec cd d.name->mg d.name=some (.ref b) ->
   s₁.heap.get? a=some { cls:=.type "list", data:=.seq vs.toArray }->IntsAre vs ns->ns.length<=n->s₁.gens=#[] ->
   codeAny (model l.prog w) callerA (.call (.ref b) ⟨[.ref a],[]⟩) (λ r s'=>r=.ok (.ret (.bool .t))/\OldK s₁.heap s'.heap/\s'.os=s₁.os/\AllBare s'.gens) s₁) :
  WalkO q loose e g l.row.toRowW d [] (λ f vs=>PySem.call f vs):=by
 intro w s₀ s₁ mg j8 G XL b o pm cd doc h c_ t hd k c s p args vals as v z B y A;obtain rfl:h=.none:=Dflts.none c m;obtain rfl:c_=.none:=Dflts.noKw c;obtain ⟨a,vs,ns,rfl,rfl,u,hints,hlen⟩:=Zi aB v y;refine enter_call (jI (call w s₀ s₁ mg j8 b o pm cd doc a vs ns G XL t (fd_plain hd) k s u hints hlen p) λ r s' x=>?_);obtain ⟨rfl,ai,i,j⟩:=x;exact #[.inl #[.bool .t,.bool .t,[],Y,λ Z=>rfl,.bool .t,Y_ l _,λ Z=>#[List.Pairwise.nil,λ Z hm=>(nomatch hm)]],ai,i,j]
end D1
namespace bt
open PySem PySem.Spec PyProof.Rows
theorem Zt (h:IntsAre vs ns):Vals (ns.map V.int) vs:=by
 induction h with
 | nil=>exact .nil
 | cons n t h a=>exact .cons #[t,Y] a
def Aq (H:aC):Prop:=∀ b,H b=.n\/∃ o xs,H b=some (.hL o (.lst xs))
theorem Xr {K:aT}
  (j:K.In s₁.heap) (D:s₁.heap.Ns mainGlobals mg) (ae:s₁.heap.Ns builtinsNs j8) (Q:∀ x:Str,x ≠ "__name__" -> j8 x=bootBuiltins x) (T:s₁.heap.NoLimit) (S:s₁.gens=#[])
  (au:s₁.heap.get? a=some { cls:=.type "list", data:=.seq vs.toArray }) (av:IntsAre vs ns) (C:ns.length<=sizeLine) (X:c6 k callerA)
  (F:∀ base,K.In base->base.Ns mainGlobals mg->dO P w K mg base cx k t fd [x] sp) (R:∀ s u,BindsTo s fd ⟨[u],[]⟩ [(x,u)])
  (Z:∀ H,Aq H->aK K H a (ns.map V.int)->sp [.ref a] H (λ v _=>v=.aJ .t) λ _ _ _=>False)
  (L:∀ H e s',cx [] H s₁ (λ _ _ _=>False) e s'->False) :
  codeAny (model P w) callerA (.call (.ref t) ⟨[.ref a],[]⟩) (λ r s'=>r=.ok (.ret (.bool .t))/\OldK s₁.heap s'.heap/\s'.os=s₁.os/\AllBare s'.gens) s₁:=by
 have E:=Zt av;have S3:=av.length;have core:∀ H,Aq H->aK K H a (ns.map V.int)->dt P w H s₁.heap->(∀ b,H b≠.n->b=a)->(H a≠.n->K.lookup a=.n) ->
   codeAny (model P w) callerA (.call (.ref t) ⟨[.ref a],[]⟩) (λ r s'=>r=.ok (.ret (.bool .t))/\OldK s₁.heap s'.heap/\s'.os=s₁.os/\AllBare s'.gens) s₁:=by
  intro H B O aS y M;have l:∀ {b:Addr} {o:Obj},s₁.heap.get? b=some o->H b=.n->(mz s₁.heap H).get? b=some o:=λ e n=>Xk e n
  have Rz:∀ {b:Addr} {o:Obj} {ah:Array DictEntry} {f:Nat},s₁.heap.get? b=some o->o.data=.dict ah f->H b=.n:=λ {b o ah f} e d=>by
   cases q:H b with
   | none=>rfl
   | some u =>
    have i:=y b (by rw [q];simp);subst i;rw [au] at e;cases e;have G:=d;cases G
  have g:∀ {b:Addr} {m:Str->cE},s₁.heap.Ns b m->(mz s₁.heap H).Ns b m:=λ {b m} ⟨o,ah,f,e,d,r⟩=>#[o,ah,f,l e (Rz e d),d,r]
  have A:K.In (mz s₁.heap H):=λ b o e=>l (j b o e) (by
   cases q:H b with
   | none=>rfl
   | some u =>
    have i:=y b (by rw [q];simp);subst i;rw [M (by rw [q];simp)] at e;cases e)
  have N:Mod K mg (mz s₁.heap H):=#[A,g D,#[j8,g ae,Q],let ⟨O1,af,ai⟩:=T;⟨O1,g af,ai⟩]
  have I:kg P w K mg (mz s₁.heap H) callerA [] s₁ H:=#[Y,N,λ b o e=>VJ e,Nat.le_of_eq (YJ _ _),trivial,λ b ae=>absurd (show b∈([]) from ae) .zs,aS,.of_eq S]
  refine jI ((F _ A (g D)).run callerA [] s₁ H #[[.ref a],[]] [.ref a] [.ref a] _ _ X I (R s₁ (.ref a)) (.cons Y .nil) (Z H B O)) λ r s' h=>?_
  cases r with
  | error e=>exact (L H e s' h).elim
  | ok fl =>
   cases fl with
   | next=>exact False.elim h
   | brk=>exact False.elim h
   | cont=>exact False.elim h
   | ret u =>
    obtain ⟨v,H',os,bare,un,aU,qk,q⟩:=h;have aH:=q;subst aH;obtain rfl:u=Value.bool .t:=qk;refine #[Y,OldK.of_keep λ b o e=>?_,os,bare];cases q:H b with
    | none=>exact un.keep b o e q (by intro z;exact absurd (show b∈([]) from z) .zs) .zs
    | some u =>
     rcases B b with z|⟨bQ,xs,z⟩
     ·rw [q] at z;cases z
     ·have j_:=un.iy b bQ _ z;obtain ⟨p,_⟩:=aS b _ z;obtain ⟨J,_⟩:=aU b _ j_;rw [e] at p;cases p;exact J
 cases ay:K.lookup a with
 | some o =>
  have e:=j a o ay;rw [au] at e;cases e;refine core (λ _=>.n) (λ _=>.inl Y) (.inr #[_,vs.toArray,_,ay,Y,Y,Y,by rw [dj,S3];exact C,by simpa using E]) (λ b u z=>by have c:=z;cases c) (λ b z=>absurd Y z) λ z=>absurd rfl z
 | none =>
  refine core (λ b=>if b=a then some (.hL { cls:=.type "list", data:=.seq vs.toArray } (.lst (ns.map V.int))) else .n) (λ b=>?_) (.inl (.inr #[{ cls:=.type "list", data:=.seq vs.toArray },if_pos Y])) (λ b u z=>?_) (λ b z=>?_) λ _=>ay
  ·by_cases ae:b=a
   ·exact .inr #[_,_,if_pos ae]
   ·exact .inl (if_neg ae)
  ·by_cases ae:b=a
   ·have c:=(if_pos ae).symm.trans z;cases c;subst ae;exact #[au,by rw [bb];exact C,vs,_,E,au]
   ·have c:=(if_neg ae).symm.trans z;cases c
  ·by_cases ae:b=a
   ·exact ae
   ·exact absurd (if_neg ae) z
theorem WO {l:PySem.W.OpenLaw} {K:Params->aT} {cx:World->kb} {sp:World->bz}
  (aB:l.most=some n) (C:n<=sizeLine) (z:d.params.defaults=[]) (E:c6 k callerA)
  (y:∀ w h,j w h->(K w.params).In h)
  (F:∀ w mg c h,(K w.params).In h->h.Ns mainGlobals mg->mg d.name=some (.ref c) ->
   ∃ fd,(∀ s u,BindsTo s fd ⟨[u],[]⟩ [(x,u)]) /\
    ∀ base,(K w.params).In base->base.Ns mainGlobals mg->dO l.prog w (K w.params) mg base (cx w) k c fd [x] (sp w))
  (I:∀ w H a (ns:bp),ns.length<=n->Aq H->aK (K w.params) H a (ns.map V.int)->sp w [.ref a] H (λ v Z=>v=.aJ .t) λ Z Z Z=>False)
  (m:∀ w H s e s',cx w [] H s (λ Z Z Z=>False) e s'->False) :
  PySem.W.WalkO q loose J j l.row.toRowW d [] (λ f vs=>PySem.call f vs):=by
 refine D1.aao aB z λ w s₀ s₁ mg j8 c o pm cd doc a vs ns G XL M hd L B D hints hlen A=>?_
 have i:=y w _ XL;obtain ⟨fd,ae,p⟩:=F w mg c _ i G.T.g B;exact Xr i G.T.g G.T.b G.T.builtins G.T.nolimit A D hints (dT hlen C) E p ae (λ H r t=>I w H a ns hlen r t) λ H e s'=>m w H s₁ e s'
end bt
namespace bt
open PySem PySem.Spec PyProof.Rows
noncomputable def pQ (s:Stmt):Arguments:=match s with
 | .FunctionDef _ a _ _ _ _ _ _ _ _=>a
 | _=>{ posonlyargs:=[],args:=[],vararg:=.n,kwonlyargs:=[],kw_defaults:=[],kwarg:=.n,defaults:=[] }
noncomputable def jR (s:Stmt):List Stmt:=match s with
 | .FunctionDef _ _ b _ _ _ _ _ _ _=>b
 | _=>[]
noncomputable def bk (s:Stmt):Scope:=match s with
 | .FunctionDef _ _ _ _ _ _ sc _ _ _=>sc
 | _=>{ kind:=.function,names:=[],isGenerator:=.f,isCoroutine:=.f }
abbrev bY:kb:=λ Z Z Z Z Z Z=>False
abbrev gs:dZ:=λ Z Z Z=>False
theorem aV:Passes bY X gs:=λ Z Z Z Z Z Z Z h=>h.elim
structure gy (K:aT) (x qual:Str) (st:Stmt) (f:Addr) (fd:FuncData):Prop where
 ex:∃ (fs:Value) (cZ:Option Addr) (c_ doc pm:Value) (an:Option Addr) (a0 cG:Value) (mm:Array cE),
  fd=PySem.W.fnOf x qual (pQ st) (jR st) (bk st) .none c_ doc pm an a0 cG/\K.lookup f=some ⟨fs,cZ,.func fd,mm⟩/\PySem.W.codeIn K a0 qual=.t
 aW:PySem.W.keepIn K (.ref f)=.t
section
variable {P:Program} {w:World} {K:aT} {mg:Str->cE} {base:Heap}
theorem gy.ok {st:Stmt} (F:gy K x qual st f fd) (S:bF N ag (bk st)) (len:∀ vs H Q E,sp vs H Q E->vs.length=ag.length)
  (a:∀ a0 A outer s H vs Q E,c6 k (A.deeper (envOfC qual (bk st) s.heap.objs.size f a0))->sp vs H Q E ->
   ∃ t,ie (ix bY P w K mg base N qual (bk st) f a0 A outer s H E).sH (jR st) t/\t { bg:=λ Z H'=>Q .aX H',jo:=Q } (start N vs) H):dO P w K mg base bY (k+1) f fd ag sp:=by
 obtain ⟨fs,cZ,c_,doc,pm,an,a0,cG,mm,rfl,lk,b⟩:=F.ex;refine Gm lk b S len λ A outer s H vs Q E c d=>?_
 obtain ⟨t,h,q⟩:=a a0 A outer s H vs Q E c d;exact #[t,h.sH,q]
theorem gy.binds {st:Stmt} (F:gy K x qual st f fd)
  (h:∀ c_ doc pm an a0 cG us,us.length=ag.length->bindArgs (PySem.W.fnOf x qual (pQ st) (jR st) (bk st) .none c_ doc pm an a0 cG) ⟨us,[]⟩=pure (ag.zip us)):Binds K fd ag []:=by
 obtain ⟨fs,cZ,c_,doc,pm,an,a0,cG,mm,rfl,lk,a⟩:=F.ex;exact .all (h c_ doc pm an a0 cG)
theorem Bi {st:Stmt} {c_:Value} (l:K.lookup f=some ⟨fs,cZ,.func (PySem.W.fnOf x qual (pQ st) (jR st) (bk st) .none c_ doc pm an a0 cG),mm⟩)
  (c:PySem.W.codeIn K a0 qual=.t) (k:PySem.W.keepIn K (.ref f)=.t):gy K x qual st f (PySem.W.fnOf x qual (pQ st) (jR st) (bk st) .none c_ doc pm an a0 cG):=#[#[fs,cZ,c_,doc,pm,an,a0,cG,mm,Y,l,c],k]
end
theorem d9 (a:c6 k A):A.units+1<cLine:=Nat.lt_of_le_of_lt (Nat.add_le_add_left (by decide:1<=64) _) a.units
section
variable {X:a5}
theorem e2 (i) (a:X.N[i]?=some x:=by rfl) (aM:se X.env.scope x:=by first|exact Or.inl Y|exact Or.inr (Or.inl Y)|exact Or.inr (Or.inr Y)) (hd:(x==("__debug__" : Str))=.f:=by decide)
  (b:(x==("__classdict__" : Str))=.f:=by decide):bG X (.Name x pos) (AL i):=UD a aM hd b
end
theorem bD {B:Prop} (h:B):if .f=.t then A else B:=by
 rw [if_neg dP];exact h
theorem b6 {B:Prop} (h:A):if .t=.t then A else B:=by
 rw [if_pos rfl];exact h
theorem c3 {c A B:Prop} [Decidable c] (af:c->A) (ai:¬ c->B):if c then A else B:=by
 by_cases h:c
 ·rw [if_pos h];exact af h
 ·rw [if_neg h];exact ai h
theorem Tx {c A B:Prop} [Decidable c] (a:c) (h:B):if (!decide c)=.t then A else B:=by
 rw [bP a];exact bD h
def ax (H H':aC):Prop:=∀ b o,H b=some o->H' b=some o
theorem ax.refl (H):ax H H:=λ Z Z h=>h
theorem ax.trans (a:ax H H1) (b:ax H1 ao):ax H ao:=λ c o h=>b c o (a c o h)
theorem ax.free (e:ax H H') (h:H' l=Option.none):H l=Option.none:=by
 cases q:H l with
 | none=>rfl
 | some o =>
  rw [e l o q] at h;cases h
inductive FY (K:aT):bj->aC->cj->Prop
 |mk {xs H Q} (x T t b):xs=[x,.ty T]->gS K H x t->PySem.W.kitOne K t (.type T)=some b->Q (.aJ b) H->FY K xs H Q
section
variable {X:a5}
theorem h2:dG X (.builtin "isinstance") (FY X.K):=by
 intro pins s σ H xs us Q I r h;obtain ⟨x,T,t,b,rfl,ty,e,q⟩:=h;obtain ⟨u,cm,rfl,c,a⟩:=vals2 r;cases a;exact YK I c ty e λ a6=>#[.aJ b,H,I.tok _,Y,q]
theorem w9:∀ {bs:List Bool} {us:List Value},Vals (bs.map V.aJ) us->us=bs.map Value.bool
 | [],_,r=>by rw [List.map_nil] at r;cases r;rfl
 | b::bs,_,r=>by
  rw [fv] at r;cases r with
  | cons a c =>
   cases a;rw [w9 c];rfl
theorem all_range (bs:List Bool):((List.range bs.length).all λ i=>bs.getD i .t)=bs.all id:=by
 rw [qT,gp,gp];constructor
 ·intro h b ae;obtain ⟨i,av,rfl⟩:=List.getElem_of_mem ae;have:=h i (mJ.mpr av);rw [gF,cV av] at this;exact this
 ·intro h i av;have a:=mJ.mp av;rw [gF,cV a];exact h _ (kv a)
inductive Kf (K:aT):bj->aC->cj->Prop
 |mk {xs H Q} (p:Addr) (bs:List Bool):xs=[.ref p]->aK K H p (bs.map V.aJ)->Q (.aJ (bs.all id)) H->Kf K xs H Q
theorem oa (j:X.calm=.t):dG X (.builtin "all") (Kf X.K):=by
 intro pins s σ H xs us Q I r h;obtain ⟨p,bs,rfl,k,q⟩:=h;obtain ⟨u,rfl,l⟩:=vals1 r;cases l;obtain ⟨w,m,bw,t⟩:=I.list k;have f:=w9 m;subst f;have ar:p<s.heap.objs.size:=by obtain ⟨_,_,e,_⟩:=bw;exact bZ e
 have hd:X.A.in1.handled=.n:=I.ok.hd.1 j;refine call_all_walk (wpAny_pyIter_list bw.isList ?_);refine #[s.heap.objs.size,_,_,_,_,_,(λ i=>bs.getD i .t),Y,Walks.list hd s.heap.objs.size p (cR ar) (bs.map Value.bool).toArray,#[#[_,cN _ Y,Y,Y],bw.isList.push _],?_,?_]
 ·intro i v s' d n aM g;have a:(bs.map Value.bool)[i]?=some v:=by simpa using aM
  rw [dg] at a;cases e:bs[i]? with
  | none=>rw [e] at a;cases a
  | some b =>
   rw [e] at a;cases a;have c:d (bs.getD i .t) s':=g;rw [gF,e] at c;exact nO c
 ·intro h' a6 ay;refine #[.aJ (bs.all id),H,I.kept λ b o e=>ay b o ?_ (bo _ e),?_,q]
  ·intro z;rw [dH.mp z] at e;exact absurd (bZ e) (gZ _)
  ·show Value.bool _=Value.bool _;rw [<-all_range bs];simp
def Ws:V->bj->aC->cj->Prop:=λ x vs H Q=>∃ l xs i y,x=.ref l/\vs=[.int i,y]/\H l=some (.lst xs)/\0<=i/\i<2 ^ 63/\xs.length<sizeLine /\
 Q .aX (upd H l (.lst (xs.take (min i.toNat xs.length)++y::xs.drop (min i.toNat xs.length))))
theorem ZK (a:List Value) (k) (u):(a.toArray.extract 0 k).push u++a.toArray.extract k=(a.take k++u::a.drop k).toArray:=by
 apply wt.mp;simp;exact hU .zs
theorem Y0:l6 X "list.insert" Ws:=by
 intro pins s σ H x vs v us Q I g f h;obtain ⟨l,xs,i,y,rfl,rfl,b,h0,af,m,q⟩:=h;cases g;obtain ⟨o,k,rfl,⟨t,rfl⟩,j⟩:=vals2 f;obtain ⟨z,a,n,r,d,e⟩:=I.fQ b;have c:¬ (!Builtin.List.listFitsIndex i)=.t:=by
  rw [fitsIndex_both .ak af];exact dP
 refine jM F.slot_list_insert #[_,e,Y] F.entry_list_insert (F.args_list_insert_3 _ _ _) (AutoListH.list_insert_list_int_val_1 l a.toArray n i t k c (by rw [dj];omega)) #[e,?_];refine #[.aX,_,I.AA b e ?_ ((r.take _).append (.cons j (r.drop _))) ?_,Y,q]
 ·have ay:(if i<0 then (i+(a.toArray.size:Nat)).toNat else min i.toNat a.toArray.size)=min i.toNat xs.length:=by
   rw [if_neg .ak,dj,d]
  rw [ay,ZK]
 ·simp only [dn,i3,fW,List.length_drop];omega
end
noncomputable def pick (js:List (Option Nat)) (σ:St):St:=js.map λ o=>o.bind λ j=>(σ[j]?).join
theorem XS {i:Nat} (h:(pick js σ)[i]?=some (some v)):∃ j,js[i]?=some (some j)/\σ[j]?=some (some v):=by
 unfold pick at h;rw [dg] at h;cases e:js[i]? with
 | none=>rw [e] at h;cases h
 | some o =>
  rw [e] at h;have h':=dS h;cases o with
  | none=>cases h'
  | some j =>
   refine #[j,Y,?_];have ai:(σ[j]?).join=some v:=h';cases a:σ[j]? with
   | none=>rw [a] at ai;cases ai
   | some q =>
    rw [a] at ai;have b:q=some v:=ai;rw [b]
structure nR (X:a5) (scope:Scope) (cl:List (Str×Addr)) (N:b2) (js:List (Option Nat)):Prop where
 o1:closureFor scope X.env=pure cl
 nT:∀ y∈scope.names,y.2≠.cell
 kind:scope.kind=.function
 names:∀ y∈scope.names,y.2=.local->scope.names.lookup y.1=some .local
 sub:∀ x c,cl.lookup x=some c->X.env.cells.lookup x=some c
 has:∀ x,((relabel scope X.env).names.lookup x=some .cell\/(relabel scope X.env).names.lookup x=some .free)->∃ c,cl.lookup x=some c
 len:js.length=N.length
 seen:∀ (i j:Nat) (x:Str),N[i]?=some x->js[i]?=some (some j)->X.N[j]?=some x/\X.env.scope.names.lookup x=some .cell/\((relabel scope X.env).names.lookup x=some .cell\/(relabel scope X.env).names.lookup x=some .free)
noncomputable abbrev i6 (X:a5) (scope:Scope) (cl:List (Str×Addr)) (N:b2) (a_:List Addr) (pins:eP) (s:Shared) (H:aC) (E:dc):a5 :=
 { X with N:=N,s₀:=s,H₀:=H,env:=compEnvC scope cl s.heap.objs.size X.env,outer:=X.stack,ex:=a_,fn:=λ Z=>.f,hE:=X.hE++pins,ct:=E }
def gf (J:g_) (D:Addr) (js:List (Option Nat)) (g:fp) (cS:TT) (bx:TE) (σ:St) (H1:aC) (Q:cj):Prop :=
 ∃ W:Nat->Nat->St->aC->bj->Prop,(∃ m,W 0 m (pick js σ) (upd H1 D (.lst [])) [])/\∀ i m σ' H' ys,W i m σ' H' ys->H' D=some (.lst ys) /\
  ((J.stop i H'/\Q (.ref D) H')\/(J.go i H'/\ys.length<sizeLine/\∃ N:St->aC->bj->Prop,(∀ σ2 ao zs,N σ2 ao zs->∃ c,c<m/\W (i+1) c σ2 ao zs)/\∀ x ao,J.gR i H' x ao->g x σ' ao λ σ2 d=>cS σ2 d λ k a=>
   if k=.t then bx σ2 a λ y b=>b D=some (.lst ys)/\N σ2 (upd b D (.lst (ys++[y]))) (ys++[y]) else a D=some (.lst ys)/\N σ2 a ys))
def pj (js:List (Option Nat)) (a:TI) (g:fp) (cS:TT) (bx:TE):TE:=λ σ H Q=>a σ H λ J H1=>∀ D,H1 D=.n->gf J D js g cS bx σ H1 Q
theorem B_ {J:g_} {g:fp} {cS:TT} {bx:TE} {Q:cj} (aB:n<=sizeLine) (Pv:Nat->St->aC->bj->Prop) (h0:Pv 0 (pick js σ) (upd H1 D (.lst [])) [])
  (ar:∀ i σ' H' ys,i<=n->Pv i σ' H' ys->H' D=some (.lst ys)/\ys.length<=i) (j:∀ i σ' H' ys,i<n->Pv i σ' H' ys->J.go i H') (l:∀ σ' H' ys,Pv n σ' H' ys->J.stop n H'/\Q (.ref D) H')
  (aA:∀ i σ' H' ys x ao,i<n->Pv i σ' H' ys->J.gR i H' x ao->g x σ' ao λ σ2 c=>cS σ2 c λ k a=>
   if k=.t then bx σ2 a λ y b=>b D=some (.lst ys)/\Pv (i+1) σ2 (upd b D (.lst (ys++[y]))) (ys++[y]) else a D=some (.lst ys)/\Pv (i+1) σ2 a ys) :
  ∃ W:Nat->Nat->St->aC->bj->Prop,(∃ m,W 0 m (pick js σ) (upd H1 D (.lst [])) [])/\∀ i m σ' H' ys,W i m σ' H' ys->H' D=some (.lst ys) /\
   ((J.stop i H'/\Q (.ref D) H')\/(J.go i H'/\ys.length<sizeLine/\∃ N:St->aC->bj->Prop,(∀ σ2 ao zs,N σ2 ao zs->∃ f,f<m/\W (i+1) f σ2 ao zs)/\∀ x ao,J.gR i H' x ao->g x σ' ao λ σ2 c=>cS σ2 c λ k a=>
    if k=.t then bx σ2 a λ y b=>b D=some (.lst ys)/\N σ2 (upd b D (.lst (ys++[y]))) (ys++[y]) else a D=some (.lst ys)/\N σ2 a ys)):=by
 refine #[λ i m σ' H' ys=>m=n-i/\i<=n/\Pv i σ' H' ys,#[n,Y,fE _,h0],?_];rintro i m σ' H' ys ⟨rfl,av,p⟩;obtain ⟨h,q⟩:=ar i σ' H' ys av p;refine #[h,?_];by_cases d:i<n
 ·exact .inr #[j i σ' H' ys d p,.ak,Pv (i+1),λ σ2 ao zs o=>#[n-(i+1),.ak,Y,d,o],λ x ao y=>aA i σ' H' ys x ao d p y]
 ·have e:i=n:=by omega
  subst e;exact .inl (l σ' H' ys p)
def nt (X:a5) (cs:List Expr) (t:TT):Prop :=
 ∀ pins s (σ:St) H Q,Inv X pins σ H s->t σ H Q ->
  wpAny (model X.prog X.w) X.A (forIn cs .t λ c r=>if r=.t then do let ok ← isTrue c X.env (eval c X.env);pure (ForInStep.yield ok) else pure (ForInStep.yield r)) (yh X pins σ Q) X.ct s
def h1:TT:=λ Z H Q=>Q .t H
theorem Wd:nt X [] h1:=λ Z Z Z H Z I h=>wpAny_tests_nil #[H,I,h]
theorem We (a:h4 X c t):nt X [c] t:=λ pins s σ H Q I h=>wpAny_tests_one (a pins s σ H Q I h)
section
variable {prog:Program} {w:World} {A:Around} {R:Result->Shared->Prop} {s:Shared}
theorem Vw {elt bu iter:Expr} {cs:List Expr} {scope:Scope} {pos:Pos} {it acc:Value} {env:Env} (J:Nat->Shared->Prop)
  (turn:∀ n s',J n s'->wpAny (model prog w) A (pyNext it) (λ r t1=>match r with
   | none=>R (.ok .next) t1
   | some v=>wpAny (model prog w) A (letOwnedTupleGo bu it v) (λ Z d=>wpAny (model prog w) A (assign bu env v) (λ Z t3=>
     wpAny (model prog w) A (forIn cs .t λ c r=>if r=.t then do let ok ← isTrue c env (eval c env);pure (ForInStep.yield ok) else pure (ForInStep.yield r)) (λ ok b=>
      if ok=.t then wpAny (model prog w) A (eval elt env) (λ x f=>wpAny (model prog w) A (call (.builtin "list.append") [acc,x]) (λ Z g=>∃ m,m<n/\J m g)
       (notedBy (model prog w) A env λ e a=>R (.error e) a) f) (notedBy (model prog w) A env λ e a=>R (.error e) a) b
      else ∃ m,m<n/\J m b) (notedBy (model prog w) A env λ e a=>R (.error e) a) t3) (notedBy (model prog w) A env λ e a=>R (.error e) a) d) (notedBy (model prog w) A env λ e a=>R (.error e) a) t1)
    (notedBy (model prog w) A env λ e a=>R (.error e) a) s')
  (n:Nat) (h:J n s):codeAny (model prog w) A (.compLoop (.ListComp elt [#[bu,iter,cs,0]] scope pos) 0 it acc env) R s:=by
 refine codeAny_loop rfl J (λ n s' i=>?_) n h;refine wpAny_noted ?_;rw [compTurn_list];refine az (nL (az (a8 (turn n s' i) λ r t1 k1=>?_)));cases r with
 | none=>exact bl k1
 | some v =>
  refine az (a8 k1 λ Z d k2=>az (a8 k2 λ Z t3 k3=>az (a8 k3 λ ok b ng=>?_)));cases ok with
  | false=>exact bl #[Y,ng]
  | true=>exact az (az (a8 ng λ x f k5=>az (a8 k5 λ Z g yB=>bl (bl #[Y,yB]))))
end
theorem o6 {Q: α -> Shared->Prop} (a:∀ e s',E e s'->False) (h:wpAny M A t Q E s):wpAny M A t Q b s:=eU h (λ Z Z q=>q) λ e s' z=>(a e s' z).elim
theorem Dg {α β: Type} [BEq α] [LawfulBEq α]:∀ {l:List (α×β)} {x : α},x∈l.map (·.1)->∃ c,l.lookup x=some c
 | [],_,h=>by cases h
 | (y,d)::r,x,h=>by
  rw [List.lookup_cons];cases e:(x==y) with
  | true=>exact #[d,Y]
  | false =>
   rcases b5.mp h with z|z
   ·rw [z] at e;simp at e
   ·exact Dg z
noncomputable def nD (sc:Scope):b2:=(sc.names.filter (λ p=>p.2==.cell)).map (·.1)
theorem lQ:∀ names n acc,cellsFrom n names acc=cellsFrom n names []++acc
 | [],_,_=>rfl
 | (name,kind)::r,n,acc=>by
  unfold cellsFrom;split
  ·rw [lQ r (n+1) ((name,n)::acc),lQ r (n+1) [(name,n)],tA];rfl
  ·exact lQ r n acc
set_option tactic.hygienic true in
theorem uf:∀ {names:List (Str×NameKind)} {n:Nat} {x:Str} {c:Addr},(x,c)∈cellsFrom n names []->(x,NameKind.cell)∈names
 | [],_,_,_,h=>by cases h
 | (name,kind)::r,n,x,c,h=>by
  unfold cellsFrom at h;split at h
  ·next ay =>
   rw [lQ] at h;rcases i1.mp h with z|z
   ·exact dJ _ (uf z)
   ·rw [dH] at z;cases z;rw [eq_of_beq ay];exact dI
  ·exact dJ _ (uf h)
theorem C9:∀ {names:List (Str×NameKind)} {n:Nat} {x:Str},(x,NameKind.cell)∈names->∃ c,(x,c)∈cellsFrom n names []
 | [],_,_,h=>by cases h
 | (name,kind)::r,n,x,h=>by
  unfold cellsFrom;rcases b5.mp h with z|z
  ·cases z;rw [if_pos (show (NameKind.cell==NameKind.cell)=.t from Y),lQ];exact #[n,iE _ (dH.mpr Y)]
  ·split
   ·obtain ⟨c,a⟩:=C9 z;rw [lQ];exact #[c,pv _ a]
   ·exact C9 z
theorem rd:x∈nD sc ↔ (x,NameKind.cell)∈sc.names:=by
 unfold nD;rw [c0];constructor
 ·rintro ⟨⟨y,k⟩,h,rfl⟩;obtain ⟨af,ai⟩:=hp.mp h;have:=eq_of_beq ai;subst this;exact af
 ·intro h;exact #[(x,.cell),hp.mpr #[h,Y],Y]
theorem xu {α β: Type} [BEq α]:∀ (l m:List (α×β)) (x : α),(l++m).lookup x=(l.lookup x).or (m.lookup x)
 | [],_,_=>rfl
 | (y,d)::l,m,x=>by
  rw [List.cons_append,List.lookup_cons,List.lookup_cons];cases (x==y) with
  | true=>rfl
  | false=>exact xu l m x
theorem aav {code:Value}
  (a:Q (newEnv scope s.heap.objs.size globals (cellsFrom (s.heap.objs.size+1) scope.names cl) qual func code (some env) builtins) { s with heap:=pushCells (s.heap.push { cls:=.type "dict", data:=.dict #[] }) scope.names }) :
  wpAny M A (newFunctionEnv scope globals cl [] qual func code (some env) builtins) Q E s:=by
 simp only [newFunctionEnv,Option.isSome_some,if_true];refine az (wpAny_alloc ?_);refine az (wpAny_layCells _ (λ name kind cells=>by cases b:kind==NameKind.cell<;>simp [b]) _ _ _ _ ?_);rw [show ({ s with heap:=s.heap.push { cls:=.type "dict", data:=.dict #[] } }:Shared).heap.objs.size=s.heap.objs.size+1 from fj ..];rw [List.forIn_nil];exact az (bl (bl a))
structure wQ (X:a5) (scope:Scope) (cl:List (Str×Addr)) (N:b2) (js:List (Option Nat)):Prop where
 o1:closureFor scope X.env=pure cl
 Ea:∀ x∈nD scope,cl.lookup x=.n
 kind:scope.kind=.function
 names:∀ y∈scope.names,y.2=.local->scope.names.lookup y.1=some .local
 sub:∀ x c,cl.lookup x=some c->X.env.cells.lookup x=some c
 has:∀ x,((relabel scope X.env).names.lookup x=some .cell\/(relabel scope X.env).names.lookup x=some .free)->(∃ c,cl.lookup x=some c)\/x∈nD scope
 len:js.length=N.length
 seen:∀ (i j:Nat) (x:Str),N[i]?=some x->js[i]?=some (some j)->X.N[j]?=some x/\x∉nD scope/\X.env.scope.names.lookup x=some .cell/\((relabel scope X.env).names.lookup x=some .cell\/(relabel scope X.env).names.lookup x=some .free)
noncomputable abbrev fX (X:a5) (scope:Scope) (cl:List (Str×Addr)) (N:b2) (a_:List Addr) (pins:eP) (s:Shared) (H:aC) (E:dc):a5 :=
 { X with N:=N,s₀:=s,H₀:=H,env:=compEnvC scope (cellsFrom (s.heap.objs.size+1) scope.names cl) s.heap.objs.size X.env,outer:=X.stack,ex:=a_,fn:=λ x=>(nD scope).contains x,hE:=X.hE++pins,ct:=E }
theorem JT {σ:St}
  (C:wQ X scope cl N js) (dE:X.warm=.t) (av:hz X bu iter y0)
  (kR:∀ a_ pins s H,je (fX X scope cl N a_ pins s H λ _ _=>False) bu g)
  (aI:∀ a_ pins s H,nt (fX X scope cl N a_ pins s H λ _ _=>False) cs cS)
  (he:∀ a_ pins s H,bG (fX X scope cl N a_ pins s H λ _ _=>False) elt bx)
  (aA:∀ x,foldedSetIterable iter X.env x=pure x) (I:Inv X pins σ H s) (h:pj js y0 g cS bx σ H Q)
  (fin:∀ D x6 H' s' m r,Inv X pins σ H' s'->lb X pins H' x6->s'.heap.Ns x6 m->Q (.ref D) H'->compPost (model X.prog X.w) X.A X.ct use R (.ref D) x6 (.ok r) s'):wpAny (model X.prog X.w) X.A (comprehension (.ListComp elt [#[bu,iter,cs,0]] scope pos) scope X.env aeh (newList []) .f (eval iter X.env) use) R X.ct s:=by
 refine wpAny_comprehension_free (use:=use) rfl aA C.o1 C.kind C.names (a8 (av pins s σ H _ I h) λ adm s1 af=>a8 af λ vf s2 ai=>?_);obtain ⟨it,a_,gx,J,ao,e,uv,T,sQ,f2,ai⟩:=ai;subst e;obtain ⟨W,⟨m0,w0⟩,turn⟩:=ai s2.heap.objs.size uv.fresh;refine lp (aav ?_);have d:Inv X pins σ (upd ao s2.heap.objs.size (.lst [])) { s2 with heap:=s2.heap.push { cls:=.type "list", data:=.seq ([]).toArray } }:=uv.Az .nil (fE _);dsimp only;generalize aU:({ s2 with heap:=s2.heap.push { cls:=.type "list", data:=.seq ([]:List Value).toArray } })=s3 at d;have zj:s2.heap.push { cls:=.type "list", data:=.seq ([]).toArray }=s3.heap:=by rw [<-aU]
 have adt:s2.gens=s3.gens:=by rw [<-aU]
 have adu:s2.os=s3.os:=by rw [<-aU]
 rw [zj];have E4:(pushCells (s3.heap.push { cls:=.type "dict", data:=.dict #[] }) scope.names).Ns s3.heap.objs.size (λ _=>.n):=(Heap.Ns.new s3.heap (.type "dict")).keeps (pushCells_keeps _ _);have L:∀ b o,s3.heap.get? b=some o->(pushCells (s3.heap.push { cls:=.type "dict", data:=.dict #[] }) scope.names).get? b=some o:=λ b o q=>pushCells_keeps _ _ b o (bo _ q)
 have dp:=cellsFrom_ok scope.names (s3.heap.push { cls:=.type "dict", data:=.dict #[] }) (s3.heap.objs.size+1) [] #[λ _ _ hm=>(nomatch hm),List.Pairwise.nil] (by rw [fj];exact bL _);rw [fj] at dp;generalize pushCells (s3.heap.push { cls:=.type "dict", data:=.dict #[] }) scope.names=nf at E4 L dp ⊢;generalize OD:upd ao s2.heap.objs.size (.lst [])=f at d w0;have jj:s2.heap.objs.size<s3.heap.objs.size:=by rw [<-zj,fj];exact mG _
 have Fn:∀ b o,s2.heap.get? b=some o->s3.heap.get? b=some o:=λ b o q=>by rw [<-zj];exact bo _ q
 have D_:∀ x c,cl.lookup x=some c->c<s3.heap.objs.size:=λ x c q=>by
  obtain ⟨v,fs,S,_⟩:=d.cell x c (C.sub _ _ q);exact bZ S
 have t:∀ x c,(cellsFrom (s3.heap.objs.size+1) scope.names cl).lookup x=some c->(cl.lookup x=some c/\x∉nD scope)\/(x∈nD scope/\(x,c)∈cellsFrom (s3.heap.objs.size+1) scope.names []):=λ x c q=>by
  rw [lQ,xu] at q;cases e:(cellsFrom (s3.heap.objs.size+1) scope.names []).lookup x with
  | some P =>
   rw [e] at q;cases q;have m:=mem_of_lookup e;exact .inr #[rd.mpr (uf m),m]
  | none =>
   rw [e] at q;have aH:=q;refine .inl #[aH,λ z=>?_];rw [C.Ea x z] at aH;cases aH
 have Fz:∀ x c,cl.lookup x=some c->(cellsFrom (s3.heap.objs.size+1) scope.names cl).lookup x=some c:=λ x c q=>by
  rw [lQ,xu];cases e:(cellsFrom (s3.heap.objs.size+1) scope.names []).lookup x with
  | none=>exact q
  | some P =>
   have:=C.Ea x (rd.mpr (uf (mem_of_lookup e)));rw [q] at this;cases this
 have G:∀ x c,(x,c)∈cellsFrom (s3.heap.objs.size+1) scope.names []->nf.IsCell c .n/\s3.heap.objs.size+1<=c:=λ x c m=>dp.empty x c m
 have Z:∀ b∈a_,b<s3.heap.objs.size:=λ b ae=>by
  obtain ⟨o,ow,_⟩:=T.obj 0 _ sQ b ae;exact bZ (Fn b o ow)
 have fst:∀ b∈a_,b∉eF X.stack:=λ b ae z=>by
  rcases b5.mp (d.pE b z) with q|q
  ·exact (f2 b ae).2.1 q
  ·exact (f2 b ae).2.2.1 q
 have RK:(fX X scope cl N a_ pins s3 f λ _ _=>False).Ok:=by
  refine #[I.ok.mod,C.kind,I.ok.glob,I.ok.blt,bL _,λ x y c aO M=>?_,λ x z=>?_,λ x c z q=>?_,#[I.ok.hd.1,λ hw=>d.Er hw λ b ae=>(f2 b ae).2.2.2.1],I.ok.frames,.inl Y,λ b ae=>#[cR (Z b ae),λ x c q=>?_],
   d.bs,dT I.ok.hg d.fN,λ b o q ae=>?_,fst,d.stack,d.tO]
  ·rcases t x c aO with ⟨a1,_⟩|⟨_,a1⟩
   ·rcases t y c M with ⟨a2,_⟩|⟨_,a2⟩
    ·exact I.ok.inj x y c (C.sub _ _ a1) (C.sub _ _ a2)
    ·exact absurd (D_ x c a1) (Nat.not_lt.mpr (dT (kn _) (G y c a2).2))
   ·rcases t y c M with ⟨a2,_⟩|⟨_,a2⟩
    ·exact absurd (D_ y c a2) (Nat.not_lt.mpr (dT (kn _) (G x c a1).2))
    ·exact name_of_addr dp.apart a1 a2
  ·rcases C.has x z with ⟨c,h'⟩|h'
   ·exact #[c,Fz x c h']
   ·obtain ⟨c,m⟩:=C9 (rd.mp h');obtain ⟨P,OB⟩:=Dg (c0.mpr #[(x,c),m,Y]);refine #[P,?_];show (cellsFrom (s3.heap.objs.size+1) scope.names cl).lookup x=some P;rw [lQ,xu,OB];rfl
  ·rcases t x c q with ⟨_,a1⟩|⟨_,a1⟩
   ·exact absurd (List.contains_iff_mem.mp z) a1
   ·exact dT (kn _) (G x c a1).2
  ·rcases t x c q with ⟨a1,_⟩|⟨_,a1⟩
   ·exact (f2 b ae).2.2.2.2.1 x c (C.sub _ _ a1)
   ·exact hq (fi (Z b ae) (dT (kn _) (G x c a1).2))
  rcases (f2 b ae).2.2.2.1 with z|z
  ·exact I.ok.lh b o q z
  ·exact absurd (fi (bZ q) (dT I.ok.hg z)) (gZ _)
 have Oh:Inv (fX X scope cl N a_ pins s3 f λ _ _=>False) [] (pick js σ) f { s3 with heap:=nf }:=by
  refine #[RK,Y,d.bare,eC.kept L,#[_,E4,λ i x v aO M iL=>?_],λ x c q=>?_,d.aS.fresh (bL _),λ x c q=>?_,λ p ar=>?_,d.aS.kept L,?_]
  ·obtain ⟨j,k1,k2⟩:=XS M;obtain ⟨l4,y3,j_,uO⟩:=C.seen i j x aO k1;obtain ⟨m,aB,eO⟩:=d.loc;obtain ⟨u,yP,lk⟩:=eO j x v l4 k2 (.inr (.inl j_));refine #[u,yP,.inr #[uO,?_]];rcases lk with ⟨k,_⟩|⟨_,c,OF,fs,S,zH⟩
   ·have dN:X.env.scope.names.lookup x=some .local:=k;rw [j_] at dN;cases dN
   ·obtain ⟨P,Ed⟩:=(C.has x uO).resolve_right y3;have:=C.sub _ _ Ed;rw [OF] at this;cases this;exact #[c,Fz x c Ed,fs,L _ _ S,zH]
  ·rcases t x c q with ⟨a1,_⟩|⟨_,a1⟩
   ·obtain ⟨v,fs,S,zH⟩:=d.cell x c (C.sub _ _ a1);exact #[v,fs,L _ _ S,zH]
   ·exact #[.n,(G x c a1).1]
  ·rcases t x c q with ⟨a1,_⟩|⟨_,a1⟩
   ·exact d.fT x c (C.sub _ _ a1)
   ·exact d.aS.fresh (dT (kn _) (G x c a1).2)
  ·have QD:p∈X.hE++pins:=by simpa using ar
   obtain ⟨aO,M,iL,jn,qj⟩:=d.pin p QD;refine #[L _ _ aO,M,cR (bZ aO),λ z=>?_,qj];rcases b5.mp (d.pE _ z) with q|q
   ·exact iL q
   ·exact jn q
  ·show (pick js σ).length=N.length;unfold pick;rw [bb,C.len]
 have stat:∀ {H':aC},(∀ b∈a_,H' b=.n)->∀ b∈a_,lb (fX X scope cl N a_ pins s3 f λ _ _=>False) [] H' b:=λ aB b ae =>
  #[aB b ae,cR (Z b ae),fst b ae,.inl ae,λ x c q=>by
   rcases t x c q with ⟨a1,_⟩|⟨_,a1⟩
   ·exact (f2 b ae).2.2.2.2.1 x c (C.sub _ _ a1)
   ·exact hq (fi (Z b ae) (dT (kn _) (G x c a1).2)),λ p ar=>(f2 b ae).2.2.2.2.2 p (by simpa using ar)]
 have Fg:=T.keep 0 _ _ sQ λ b ae o q=>L b o (Fn b o q)
 have bg:∀ e s',(fX X scope cl N a_ pins s3 f λ _ _=>False).ct e s'->False:=λ _ _ z=>z
 have loop:codeAny (model X.prog X.w) X.A (.compLoop (.ListComp elt [#[bu,iter,cs,0]] scope pos) 0 (.ref it) (.ref s2.heap.objs.size) (compEnvC scope (cellsFrom (s3.heap.objs.size+1) scope.names cl) s3.heap.objs.size X.env))
   (compPost (model X.prog X.w) X.A X.ct use R (.ref s2.heap.objs.size) s3.heap.objs.size) { s3 with heap:=nf }:=by
  refine Vw (λ n s'=>∃ i σ' H' ys,Inv (fX X scope cl N a_ pins s3 f λ _ _=>False) [] σ' H' s'/\gx i s'.heap/\(∀ b∈a_,H' b=.n)/\W i n σ' H' ys) ?_ m0 #[0,_,f,[],Oh,Fg,λ b ae=>?_,w0]
  ·rintro n s5 ⟨i,σ5,l,ys,uw,Fh,Ej,Pq⟩;obtain ⟨zy,way⟩:=turn i n σ5 l ys Pq;rcases way with ⟨stop,oB⟩|⟨go,hD,Dy,uG,step⟩
   ·refine o6 bg (a8 (T.done (fX X scope cl N a_ pins s3 f λ _ _=>False) Y Y Y Y dE i [] s5 σ5 l _ uw (stat Ej) Fh stop) ?_);rintro r O ⟨e1,E⟩;subst e1;obtain ⟨m,aB,_⟩:=E.loc;have OL:=d.nB (bL _) E.free;have x_:Inv X pins σ l O:=?_
    ·exact fin s2.heap.objs.size _ l O m _ x_ OL aB oB
    have low:∀ b o,s3.heap.get? b=some o->b≠s3.heap.objs.size:=λ b o q=>cR (bZ q)
    have same:∀ b,b≠s3.heap.objs.size->O.heap.get? b=O.heap.get? b:=λ b ae=>rfl
    have B:=E.base;refine d.AR (s':=O) (H':=l) (ch:=a_) E.os #[λ b o q fM af ai=>?_,λ b o q fM af ai=>?_,B.free,λ b o q ai=>?_,B.iW,B.iy,B.iV] (λ a o q=>?_) E.bare (λ b ae=>#[(f2 b ae).2.2.2.1,(f2 b ae).2.1,(f2 b ae).2.2.2.2.1,(f2 b ae).2.2.2.2.2])
    ·exact (same b (low b o q)).trans (B.keep b o q fM af ai)
    ·obtain ⟨cB,z⟩:=B.slot b o q fM af ai;exact #[cB,(same b (low b o q)).trans z]
    ·obtain ⟨er,z⟩:=B.there b o q ai;exact #[er,(same b (low b o q)).trans z]
    ·have DP:∀ c u,l c=some u->c≠s3.heap.objs.size:=λ c u z y=>by
      have:=E.free;rw [y] at z;rw [show l s3.heap.objs.size=.n from this] at z;cases z
     refine (E.aS a o q).hQ (λ c u Qe z=>(same c ?_).trans z) (λ _ z=>z) λ _ _ z=>z
     rcases Qe with ib|ib
     ·rw [ib];exact DP a o q
     ·exact DP c _ ib
   ·refine o6 bg (a8 (T.item (fX X scope cl N a_ pins s3 f λ _ _=>False) Y Y Y Y dE i [] s5 σ5 l _ uw (stat Ej) Fh go) ?_);rintro r O ⟨u,e1,h9⟩;subst e1;refine o6 bg (a8 h9 ?_);rintro _ iN ⟨x,hy,x_,uM,Pz,Ad,PQ⟩;have PC:=x_.pinned (stat PQ) (T.obj _ _ Ad);refine o6 bg (a8 (kR a_ pins s3 f _ iN σ5 hy x u _ PC uM (step x hy Pz)) ?_);rintro _ Ph ⟨σ8,fc,Oi,yL⟩;refine o6 bg (a8 (aI a_ pins s3 f _ Ph σ8 fc _ Oi yL) ?_);rintro k oE ⟨j2,Dw,uK⟩;have fin:∀ {s':Shared} {σ':St} {H':aC} {qC:bj},Inv (fX X scope cl N a_ pins s3 f λ _ _=>False) ([]++tl a_ iN.heap) σ' H' s'->Dy σ' H' qC ->
      ∃ j6,j6<n/\∃ i σ' H' ys,Inv (fX X scope cl N a_ pins s3 f λ _ _=>False) [] σ' H' s'/\gx i s'.heap/\(∀ b∈a_,H' b=.n)/\W i j6 σ' H' ys:=λ {s' σ' H' qC} ya oz=>by
     obtain ⟨j6,hm,wv⟩:=uG σ' H' qC oz;refine #[j6,hm,i+1,σ',H',qC,ya.xg,T.keep _ _ _ Ad λ b ae o q=>(ya.pin (b,o) (iE _ (iE _ (xv ae q)))).1,λ b ae=>?_,wv];obtain ⟨o,q,_⟩:=T.obj _ _ Ad b ae;exact (ya.pin (b,o) (iE _ (iE _ (xv ae q)))).2.1
    cases k with
    | false =>
     rw [if_neg dP] at uK ⊢;exact fin Dw uK.2
    | true =>
     rw [if_pos rfl] at uK ⊢;refine o6 bg (a8 (he a_ pins s3 f _ oE σ8 j2 _ Dw uK) ?_);rintro y ni ⟨y2,m5,Oj,Pd,PX,Pa⟩;refine o6 bg (a8 (CH _ ni σ8 m5 (.ref s2.heap.objs.size) [y2] _ [y] (λ _ x9=>Dy σ8 x9 (ys++[y2])) Oj Y (.cons Pd .nil) #[_,ys,y2,Y,Y,PX,hD,Pa]) ?_);rintro _ sB ⟨_,x9,Ol,_,Pb⟩;exact fin Ol Pb
  ·rw [<-OD,a3]
   ·exact (f2 b ae).1
   ·obtain ⟨o,ow,_⟩:=T.obj 0 _ sQ b ae;exact cR (bZ ow)
 have goal:codeAny (model X.prog X.w) X.A (.compStart (.ListComp elt [#[bu,iter,cs,0]] scope pos) 0 (.ref it) (.ref s2.heap.objs.size) (compEnvC scope (cellsFrom (s3.heap.objs.size+1) scope.names cl) s3.heap.objs.size X.env))
   (compPost (model X.prog X.w) X.A X.ct use R (.ref s2.heap.objs.size) s3.heap.objs.size) { s3 with heap:=nf } :=
  codeAny_compStart_list loop (T.self _ 0 _ _ _ Fg loop)
 subst aU;exact goal
theorem XH
  (C:wQ X scope cl N js) (i:X.warm=.t) (av:hz X bu iter n)
  (j:∀ a_ pins s H,je (fX X scope cl N a_ pins s H λ Z Z=>False) bu g)
  (aI:∀ a_ pins s H,nt (fX X scope cl N a_ pins s H λ Z Z=>False) cs cS)
  (he:∀ a_ pins s H,bG (fX X scope cl N a_ pins s H λ Z Z=>False) elt bx)
  (aA:∀ x,foldedSetIterable iter X.env x=pure x:=by intro _;rfl):bG X (.ListComp elt [#[bu,iter,cs,0]] scope pos) (pj js n g cS bx):=by
 intro pins s σ H Q I h;rw [eval_ListComp];refine JT C i av j aI he aA I h λ D p H' s' m r a f aB k=>#[m,aB,λ h' l=>#[.ref D,H',?_,Y,k]]
 obtain ⟨f0,f1,q,c,f4,d⟩:=f;exact a.turned (λ b o ae e=>(l.2 b ae).trans e) f0 f1 c f4 d
theorem nR.c (C:nR X scope cl N js):wQ X scope cl N js:=#[C.o1,λ x d=>absurd Y (C.nT _ (rd.mp d)),C.kind,C.names,C.sub,λ x h=>.inl (C.has x h),C.len,λ i j x af ai=>let ⟨a,b,c⟩:=C.seen i j x af ai;⟨a,λ d=>absurd rfl (C.nT _ (rd.mp d)),b,c⟩]
theorem q_ (a:∀ y∈scope.names,y.2≠.cell):fX X scope cl N a_ pins s H E=i6 X scope cl N a_ pins s H E:=by
 have b:=List.eq_nil_iff_forall_not_mem.mpr λ x d=>a _ (rd.mp d) rfl
 have c:cellsFrom (s.heap.objs.size+1) scope.names cl=cl:=by
  rw [lQ,show cellsFrom (s.heap.objs.size+1) scope.names []=[] from List.eq_nil_iff_forall_not_mem.mpr λ p ar=>a _ (uf ar) rfl];rfl
 unfold fX;rw [b,c];rfl
theorem VU
  (C:nR X scope cl N js) (a:X.warm=.t) (av:hz X bu iter d)
  (b:∀ a_ pins s H,je (i6 X scope cl N a_ pins s H λ Z Z=>False) bu g)
  (aI:∀ a_ pins s H,nt (i6 X scope cl N a_ pins s H λ Z Z=>False) cs cS)
  (he:∀ a_ pins s H,bG (i6 X scope cl N a_ pins s H λ Z Z=>False) elt bx)
  (aA:∀ x,foldedSetIterable iter X.env x=pure x:=by intro _;rfl):bG X (.ListComp elt [#[bu,iter,cs,0]] scope pos) (pj js d g cS bx) :=
 XH C.c a av (λ a_ pins s H=>by rw [q_ C.nT];exact b a_ pins s H) (λ a_ pins s H=>by rw [q_ C.nT];exact aI a_ pins s H) (λ a_ pins s H=>by rw [q_ C.nT];exact he a_ pins s H) aA
end bt
namespace jg
open PySem PyProof.Rows
theorem w1 (t):¬ ((Value.ref t==Value.none)=.t):=dP
section
variable {prog:Program} {w:World} {A:Around} {E:dc} {s:Shared}
theorem pull (a:s.heap.IsTupleIter j t k) (b:s.heap.IsTuple t vs) (c:vs[k]?=some x)
  (q:∀ g,g.IsTupleIter j t (k+1)->Heap.SameBut j s.heap g->Q x { s with heap:=g }):wpAny (model prog w) A (Builtin.SmallTypes.nextOf (.ref j)) Q E s:=by
 obtain ⟨l,e,f,d⟩:=id a;obtain ⟨m,gt,_,i,h⟩:=b;refine az (jG a.typeIs qS (iD qS a.typeIs A9 ?_ (A_ _)));show wpAny _ _ (field (.ref j) 0>>=_) _ _ s;refine az (d4 e d Y ?_);show wpAny _ _ (ite ((Value.ref t==Value.none)=.t) _ _) _ _ s;rw [if_neg (w1 t)];refine az (d4 e d Y ?_);refine az (gm gt h ?_);simp only [fV,c];refine az (qR e d .zs (bl #[x,Y,bl (q _ #[_,lq _ e (ta (pl d _)),(Obj.cls_mapFields ..).trans f,?_] (pq ..))]));rw [pl d];simp [rawInt]
theorem XZ (hd:ff.In A s.heap) (a:s.heap.IsTupleIter j t k) (b:s.heap.IsTuple t vs) (c:vs[k]?=.n)
  (q:∀ g e,Heap.ExtBut j s.heap g->(∃ o,g.get? e=some o/\o.cls=.type "StopIteration")->E (.ref e) { s with heap:=g }):wpAny (model prog w) A (Builtin.SmallTypes.nextOf (.ref j)) Q E s :=
 ff.Ju hd a b c q
def dw (p:Bool) (h:Heap) (j t:Addr) (k:Nat):Prop:=bif p then h.IsListIter j t k else h.IsTupleIter j t k
def en (p:Bool) (h:Heap) (t:Addr) (xs:ec):Prop:=bif p then h.IsList t xs else h.IsTuple t xs
theorem dw.extBut (a:dw p h j t k) (e:Heap.ExtBut z h g) (n:j≠z):dw p g j t k:=by
 cases p
 ·exact Heap.IsTupleIter.extBut a e n
 ·exact Heap.IsListIter.extBut a e n
theorem en.extBut (a:en p h t xs) (e:Heap.ExtBut z h g) (n:t≠z):en p g t xs:=by
 cases p
 ·exact Heap.IsTuple.extBut a e n
 ·exact Heap.IsList.extBut a e n
theorem dw.up (a:dw p h j t k) (u:∀ o,h.get? j=some o->g.get? j=some o):dw p g j t k:=by
 cases p
 ·obtain ⟨o,e,r⟩:=a;exact #[o,u o e,r]
 ·obtain ⟨o,e,r⟩:=a;exact #[o,u o e,r]
theorem dw.hd (a:dw p h j t k) (hd:ff.In A h) (u:Heap.ExtBut j h g):ff.In A g:=by
 cases p
 ·obtain ⟨o,e,_,d⟩:=a;exact hd.but e (by rw [d];exact ff.wk) u
 ·obtain ⟨o,e,_,d⟩:=a;exact hd.but e (by rw [d];exact ff.wk) u
theorem A3 (a:dw p s.heap j t k) (b:en p s.heap t vs) (c:vs[k]?=some x)
  (q:∀ g,dw p g j t (k+1)->Heap.SameBut j s.heap g->Q x { s with heap:=g }):wpAny (model prog w) A (Builtin.SmallTypes.nextOf (.ref j)) Q E s:=by
 cases p
 ·exact pull a b c q
 ·exact wpAny_nextOf_list_item a b c q
theorem Kd (hd:ff.In A s.heap) (a:dw p s.heap j t k) (b:en p s.heap t vs) (c:vs[k]?=.n)
  (q:∀ g e,Heap.ExtBut j s.heap g->(∃ o,g.get? e=some o/\o.cls=.type "StopIteration")->E (.ref e) { s with heap:=g }):wpAny (model prog w) A (Builtin.SmallTypes.nextOf (.ref j)) Q E s:=by
 cases p
 ·exact ff.Ju hd a b c q
 ·exact ff.J7 hd a b c q
theorem Cu {Q:dc} (D:ZipApart z TI c1 c2 dF t1 r)
  (f:IsZip s.heap z TI c1 .none) (y5:IsPair s.heap TI (.ref c2) (.ref dF)) (y6:IsPair s.heap c1 a b)
  (P:dw p1 s.heap c2 t1 k) (S:dw eE s.heap dF r k) (fB:en p1 s.heap t1 xs) (ox:en eE s.heap r ys) (ex:xs[k]?=some x) (N:ys[k]?=some y)
  (q:∀ g,IsZip g z TI c1 (rawInt s.heap.objs.size)->IsPair g c1 x y->dw p1 g c2 t1 (k+1)->dw eE g dF r (k+1)->IsPair g s.heap.objs.size x y ->
   (∀ c o,c≠z->c≠c1->c≠c2->c≠dF->s.heap.get? c=some o->g.get? c=some o)->Q (.ref s.heap.objs.size) { s with heap:=g }) :
  wpAny (model prog w) A (Builtin.«zip.__next__» ⟨[.ref z],[]⟩) (λ fin s'=>∃ v,fin=.done (.ret v)/\Q v s') E s:=by
 show wpAny _ _ (field (.ref z) 2>>=_) _ _ _;refine az (d4 f Y Y ?_);refine az (d4 f Y Y (az (gm y5 Y ?_)));refine az ?_;refine az (d4 f Y Y (bl ?_));refine az (lr (az (d4 f Y Y (az (kx f .zs λ g1 u s1=>?_)))));replace u:IsZip g1 z TI c1 .ellipsis:=u;refine az ?_;refine az (az (lD ?_));refine az (A3 (P.extBut s1.extBut D.i1z) (fB.extBut s1.extBut D.l1z) ex λ g2 R s2=>bl ?_);have I:=s2.extBut _ _ D.TOi1 (s1.extBut _ _ D.TOz y6);refine az (gm I Y (az (Bu I λ g3 t s3=>?_)));replace t:IsPair g3 c1 x b:=t;refine az (lE (bl (az (az (lD ?_)))));have T:=((S.extBut s1.extBut D.i2z).extBut s2.extBut D.i12.symm).extBut s3.extBut D.TOi2.symm;have z2:=((ox.extBut s1.extBut D.l2z).extBut s2.extBut D.l2i1).extBut s3.extBut D.l2TO;refine az (A3 T z2 N λ kO aU s4=>bl ?_);have J:=s4.extBut _ _ D.TOi2 t;refine az (gm J Y (az (Bu J λ d j s5=>?_)));replace j:IsPair d c1 x y:=j;refine az (lE (bl (bl (az (gm j Y (az (wpAny_newTuple ?_)))))));have fN:d.objs.size=s.heap.objs.size:=by rw [s5.1,s4.1,s3.1,s2.1,s1.1]
 have M:=s5.extBut _ _ D.TOz.symm (s4.extBut _ _ D.i2z.symm (s3.extBut _ _ D.TOz.symm (s2.extBut _ _ D.i1z.symm u)));have R_:∀ c o,c≠z->c≠c1->c≠c2->c≠dF->s.heap.get? c=some o->d.get? c=some o:=λ c o e h n p aH =>
  s5.extBut _ _ h (s4.extBut _ _ p (s3.extBut _ _ h (s2.extBut _ _ n (s1.extBut _ _ e aH))))
 have X:=((R.extBut s3.extBut D.TOi1.symm).extBut s4.extBut D.i12).extBut s5.extBut D.TOi1.symm;have Z:=aU.extBut s5.extBut D.TOi2.symm;have L:=bZ M;refine az ?_;have Sb:IsZip (d.push { cls:=.type "tuple", data:=.seq [x,y].toArray }) z TI c1 .ellipsis:=bo _ M;refine az (kx Sb .zs λ O B G=>?_);replace B:IsZip O z TI c1 (rawInt d.objs.size):=B;refine kx B .zs λ m l H=>?_
 replace l:IsZip m z TI c1 (rawInt d.objs.size):=l;have i:∀ c o,c≠z->d.get? c=some o->m.get? c=some o:=λ c o e aH=>H.extBut _ _ e (G.extBut _ _ e (bo _ aH))
 have C:=H.extBut _ _ (hq L) (G.extBut _ _ (hq L) (cN _ Y));rw [fN] at l C;refine bl #[_,Y,?_];rw [fN];refine q m l (i _ _ D.TOz j) ?_ ?_ C λ c o e h n p aH=>i c o e (R_ c o e h n p aH)
 ·exact X.up λ o=>i _ o D.i1z
 ·exact Z.up λ o=>i _ o D.i2z
theorem Cv (hd:ff.In A s.heap) (D:ZipApart z TI c1 c2 dF t1 t)
  (f:IsZip s.heap z TI c1 .none) (P:IsPair s.heap TI (.ref c2) (.ref dF)) (R:IsPair s.heap c1 a b)
  (j:dw p1 s.heap c2 t1 k) (I:dw eE s.heap dF t k) (r:en p1 s.heap t1 xs) (L:en eE s.heap t ys) (B:xs[k]?=.n\/ys[k]?=.n)
  (q:∀ g e,(∀ c o,c≠z->c≠c1->c≠c2->c≠dF->s.heap.get? c=some o->g.get? c=some o)->(∃ o,g.get? e=some o/\o.cls=.type "StopIteration")->E (.ref e) { s with heap:=g }) :
  wpAny (model prog w) A (Builtin.«zip.__next__» ⟨[.ref z],[]⟩) Q E s:=by
 show wpAny _ _ (field (.ref z) 2>>=_) _ _ _;refine az (d4 f Y Y ?_);refine az (d4 f Y Y (az (gm P Y ?_)));refine az ?_;refine az (d4 f Y Y (bl ?_));refine az (lr (az (d4 f Y Y (az (kx f .zs λ g1 i s1=>?_)))));replace i:IsZip g1 z TI c1 .ellipsis:=i;refine az ?_;refine az (az (lD ?_));have p:=hd.but f (λ vs e=>by injection e with e;subst e;exact λ z=>nomatch z) s1.extBut;cases ex:xs[k]? with
 | none =>
  refine az (Kd p (j.extBut s1.extBut D.i1z) (r.extBut s1.extBut D.l1z) ex ?_);rintro g2 e s2 ⟨b1,d,coe⟩;have u:=s2 _ _ D.i1z.symm i;have m:e≠z:=λ y=>by
   subst y;rw [u] at d;cases d;simp at coe
  exact kx u .zs λ g3 Z s3=>q g3 e (λ c o h Z l Z y=>s3.extBut _ _ h (s2 _ _ l (s1.extBut _ _ h y))) #[b1,s3.extBut _ _ m d,coe]
 | some x =>
  have C:=B.resolve_left (by rw [ex];exact λ y=>nomatch y);refine az (A3 (j.extBut s1.extBut D.i1z) (r.extBut s1.extBut D.l1z) ex λ g2 T s2=>bl ?_);have n:=s2.extBut _ _ D.TOi1 (s1.extBut _ _ D.TOz R);refine az (gm n Y (az (Bu n λ g3 aU s3=>?_)));refine az (lE (bl (az (az (lD ?_)))));have J:=((I.extBut s1.extBut D.i2z).extBut s2.extBut D.i12.symm).extBut s3.extBut D.TOi2.symm;have M:=((L.extBut s1.extBut D.l2z).extBut s2.extBut D.l2i1).extBut s3.extBut D.l2TO;have hd2:=(j.extBut s1.extBut D.i1z).hd p s2.extBut;have H:=hd2.but n (λ vs e=>nomatch e) s3.extBut;refine az (Kd H J M C ?_);rintro S e s4 ⟨b1,d,coe⟩;have v:=s4 _ _ D.i2z.symm (s3.extBut _ _ D.TOz.symm (s2.extBut _ _ D.i1z.symm i));have m:e≠z:=λ y=>by
   subst y;rw [v] at d;cases d;simp at coe
  exact kx v .zs λ G Z s5=>q G e (λ c o h N l O y=>s5.extBut _ _ h (s4 _ _ O (s3.extBut _ _ N (s2.extBut _ _ l (s1.extBut _ _ h y))))) #[b1,s5.extBut _ _ m d,coe]
theorem next_item (D:ZipApart z TI c1 c2 dF t1 d)
  (e:IsZip s.heap z TI c1 .none) (v:IsPair s.heap TI (.ref c2) (.ref dF)) (B:IsPair s.heap c1 a b)
  (p:dw p1 s.heap c2 t1 k) (r:dw eE s.heap dF d k) (t:en p1 s.heap t1 xs) (u:en eE s.heap d ys) (ex:xs[k]?=some x) (n:ys[k]?=some y)
  (q:∀ g,IsZip g z TI c1 (rawInt s.heap.objs.size)->IsPair g c1 x y->dw p1 g c2 t1 (k+1)->dw eE g dF d (k+1)->IsPair g s.heap.objs.size x y ->
   (∀ c o,c≠z->c≠c1->c≠c2->c≠dF->s.heap.get? c=some o->g.get? c=some o)->Q (some (.ref s.heap.objs.size)) { s with heap:=g }):wpAny (model prog w) A (pyNext (.ref z)) Q E s:=by
 have ty:s.TypeIs (.ref z) "zip" := #[_,e,Y]
 refine az (lu (jG ty nZ (iD nZ ty wu ?_ (wx _))));exact Cu D e v B p r t u ex n λ g f h i j l m=>bl (q g f h i j l m)
theorem CI (hd:ff.In A s.heap) (D:ZipApart z TI c1 c2 dF t1 d)
  (f:IsZip s.heap z TI c1 .none) (p:IsPair s.heap TI (.ref c2) (.ref dF)) (r:IsPair s.heap c1 a b)
  (j:dw p1 s.heap c2 t1 k) (l:dw eE s.heap dF d k) (m:en p1 s.heap t1 xs) (n:en eE s.heap d ys) (h:xs[k]?=.n\/ys[k]?=.n)
  (q:∀ g,(∀ c o,c≠z->c≠c1->c≠c2->c≠dF->s.heap.get? c=some o->g.get? c=some o)->Q .n { s with heap:=g }):wpAny (model prog w) A (pyNext (.ref z)) Q E s:=by
 have ty:s.TypeIs (.ref z) "zip" := #[_,f,Y]
 refine az (lu (jG ty nZ (iD nZ ty wu ?_ (wx _))));refine Cv hd D f p r j l m n h ?_;rintro g e up ⟨b1,i,coe⟩
 exact az (ps #[b1,i,coe] tb (bl (q _ up)))
end
noncomputable abbrev z3 (p:Bool) (t:Addr):Obj:={ cls:=.type (bif p then "list_iterator" else "tuple_iterator"),data:=.fields [.ref t,.int 0 0].toArray }
theorem en.push (a:en p h t xs) (o):en p (h.push o) t xs:=by
 cases p
 ·exact wy a o
 ·exact Heap.IsList.push a o
theorem H0 (h:en p s.heap t xs) (q:Q (.ref s.heap.objs.size) { s with heap:=s.heap.push (z3 p t) }):wpAny (model prog w) A (pyIter (.ref t)) Q E s:=by
 cases p
 ·exact nM h q
 ·exact wpAny_pyIter_list h q
noncomputable abbrev sE (p:Bool) (h:Heap) (t1:Addr):Heap:=h.push (z3 p t1)
noncomputable abbrev vh (p q:Bool) (h:Heap) (t1 a:Addr):Heap:=(sE p h t1).push (z3 q a)
noncomputable abbrev mi (p q:Bool) (h:Heap) (t1 a:Addr):Heap:=(vh p q h t1 a).push { cls:=.type "tuple", data:=.seq [.ref h.objs.size,.ref (sE p h t1).objs.size].toArray }
noncomputable abbrev mj (p q:Bool) (h:Heap) (t1 a:Addr):Heap:=(mi p q h t1 a).push { cls:=.type "tuple", data:=.seq [.none,.none].toArray }
noncomputable abbrev kd (p q:Bool) (h:Heap) (t1 a:Addr):Heap:=(mj p q h t1 a).push { cls:=.type "zip", data:=.fields [.none,.bool .f,.bool .f,.ref (vh p q h t1 a).objs.size,.ref (mi p q h t1 a).objs.size].toArray }
theorem CF (p q) (t1 a) (xs ys):Meets (Builtin.«zip.__new__» ⟨[.type "zip", .ref t1,.ref a],[]⟩) (λ Z R s=>en p s.heap t1 xs/\en q s.heap a ys/\R (.ok (.ret (.ref (mj p q s.heap t1 a).objs.size))) { s with heap:=kd p q s.heap t1 a }) :=
 .of_wp λ prog w A R s h=>by
  obtain ⟨e,d,dd,tt,f⟩:=s;obtain ⟨a1,a2,h⟩:=h;have sub:=sub_zip;have b:=a1;have c:en q (Shared.heap ⟨sE p e t1,d,dd,tt,f⟩) a ys:=en.push a2 _
  wp_walk using H0 b,H0 c
  exact #[_,Y,h]
section
variable {prog:Program} {w:World} {A:Around} {E:dc} {s:Shared}
theorem make (a1:en p s.heap t1 xs) (a2:en q s.heap a ys)
  (k:∀ g,IsZip g (s.heap.objs.size+4) (s.heap.objs.size+2) (s.heap.objs.size+3) .none->IsPair g (s.heap.objs.size+2) (.ref s.heap.objs.size) (.ref (s.heap.objs.size+1))->IsPair g (s.heap.objs.size+3) .none .none ->
   dw p g s.heap.objs.size t1 0->dw q g (s.heap.objs.size+1) a 0->(∀ c o,s.heap.get? c=some o->g.get? c=some o)->Q (.ref (s.heap.objs.size+4)) { s with heap:=g }) :
  wpAny (model prog w) A (call (.type "zip") [.ref t1,.ref a]) Q E s:=by
 refine callType_new F.called_zip .aw (F.typeCall_zip_2 _ _) (F.newCall_zip_2 _ _) (λ obj=>F.args_object_init_3 obj _ _) F.entry_zip_new (CF p q t1 a xs ys) #[a1,a2,?_];have b:(sE p s.heap t1).objs.size=s.heap.objs.size+1:=fj ..;have d:(vh p q s.heap t1 a).objs.size=s.heap.objs.size+2:=by rw [fj,b]
 have e:(mi p q s.heap t1 a).objs.size=s.heap.objs.size+3:=by rw [fj,d]
 have h:(mj p q s.heap t1 a).objs.size=s.heap.objs.size+4:=by rw [fj,e]
 have f:(kd p q s.heap t1 a).get? (mj p q s.heap t1 a).objs.size=some _:=cN _ rfl;have qh:(kd p q s.heap t1 a).get? (mi p q s.heap t1 a).objs.size=some _:=bo _ (cN _ Y);have l1:(kd p q s.heap t1 a).get? (vh p q s.heap t1 a).objs.size=some _:=bo _ (bo _ (cN _ Y));have eE:(kd p q s.heap t1 a).get? (sE p s.heap t1).objs.size=some _:=bo _ (bo _ (bo _ (cN _ Y)));have p1:(kd p q s.heap t1 a).get? s.heap.objs.size=some _:=bo _ (bo _ (bo _ (bo _ (cN _ Y))));rw [d,e,h] at f;rw [b,d] at l1;rw [e] at qh;rw [b] at eE;rw [h];exact #[#[_,f,Y],k _ f l1 qh (by cases p<;>exact #[_,p1,Y,Y]) (by cases q<;>exact #[_,eE,Y,Y]) λ c o y=>bo _ (bo _ (bo _ (bo _ (bo _ y))))]
end
end jg
namespace bt
open PySem PySem.Spec PyProof.Rows
noncomputable def kE:Expr->Bool
 | .Tuple _ _ _=>.t
 | _=>.f
theorem Inv.CR {σ:St} {L:List Addr} {p:Addr} (I:Inv X pins σ H s) (k:∀ b o,b∉L->s.heap.get? b=some o->h'.get? b=some o)
  (hf:∀ b∈L,lb X pins H b) (ar:s.heap.objs.size<=p) (new:eg X.prog X.w (upd H p (.tup xs)) h' p (.tup xs)):Inv X pins σ (upd H p (.tup xs)) { s with heap:=h',toks:=t' }:=by
 have aB:=I.aS.fresh ar;have ne:∀ b o,s.heap.get? b=some o->b≠p:=λ b o e=>cR (fi (bZ e) ar)
 have d:∀ b u,H b=some u->b∉L:=λ b u e z=>by rw [(hf b z).1] at e;cases e
 refine I.step (λ b ae=>?_) (λ b o Z Z a e Z=>k b o a e) (λ b o Z Z a e Z=>#[o.slots,k b o a e]) (λ b o Z e n=>by rw [a3 (ne b o e)];exact n) (λ b o a e=>#[o,k b o a e])
  (λ b ys e=>by rw [a3 (b0 e aB)];exact e) (λ b o u e=>by rw [a3 (b0 e aB)];exact e) (λ b ag e=>#[#[],by rw [a3 (b0 e aB),e];simp]) (λ m hm=>?_) (λ b u e=>?_) I.bare
 ·obtain ⟨_,f1,_,g,f4,h⟩:=hf b ae;exact #[g,f1,f4,h]
 ·obtain ⟨o,ah,f,i,r⟩:=hm;exact #[o,ah,f,k _ o (λ z=>(hf _ z).2.1 Y) i,r]
 ·by_cases ae:b=p
  ·subst ae;rw [bc] at e;cases e;exact new
  ·rw [a3 ae] at e;refine (I.aS b u e).hQ (λ c v a q=>k c v ?_ q) (λ c q=>by rw [a3 (b0 q aB)];exact q) λ c ys q=>by rw [a3 (b0 q aB)];exact q
   rcases a with z|z
   ·rw [z];exact d b u e
   ·exact d c _ z
theorem Inv.B5 {σ:St} {L:List Addr} (I:Inv X pins σ H s) (k:∀ b o,b∉L->s.heap.get? b=some o->h'.get? b=some o)
  (hf:∀ b∈L,lb X pins H b):Inv X pins σ H { s with heap:=h',toks:=t' }:=by
 have d:∀ b u,H b=some u->b∉L:=λ b u e z=>by rw [(hf b z).1] at e;cases e
 refine I.step (λ b ae=>?_) (λ b o Z Z a e Z=>k b o a e) (λ b o Z Z a e Z=>#[o.slots,k b o a e]) (λ Z Z Z Z n=>n) (λ b o a e=>#[o,k b o a e]) (λ Z Z e=>e) (λ Z Z Z e=>e) (λ b ag e=>#[#[],by rw [e];simp])
  (λ m hm=>?_) (λ b u e=>?_) I.bare
 ·obtain ⟨_,f1,_,g,f4,h⟩:=hf b ae;exact #[g,f1,f4,h]
 ·obtain ⟨o,ah,f,i,r⟩:=hm;exact #[o,ah,f,k _ o (λ z=>(hf _ z).2.1 Y) i,r]
 ·refine (I.aS b u e).hQ (λ c v a q=>k c v ?_ q) (λ Z q=>q) λ Z Z q=>q
  rcases a with z|z
  ·rw [z];exact d b u e
  ·exact d c _ z
def hK (p:Bool) (K:aT) (H:aC) (a:Addr) (xs:bj):Prop:=bif p then aK K H a xs else aL K H a xs
theorem Inv.qI {σ:St} (I:Inv X pins σ H s) (h:hK p X.K H a xs):∃ b,Vals xs b/\jg.en p s.heap a b.toArray:=by
 cases p
 ·obtain ⟨b,r,e,_⟩:=I.tuple h;exact #[b,r,e]
 ·obtain ⟨b,r,e,_⟩:=I.list h;exact #[b,r,e.isList]
theorem Inv.Jl {σ:St} (I:Inv X pins σ H s) (h:hK p X.K H a xs) (h':hK p X.K H a ys):xs=ys:=by
 cases p
 ·exact I.t7 h h'
 ·exact I.IW h h'
theorem en.lt (e:jg.en p h a xs):a<h.objs.size:=by
 cases p<;>obtain ⟨o,e,_⟩:=e<;>exact bZ e
theorem dw.bQ (e:jg.dw p h j t k):∃ o,h.get? j=some o/\∀ v,o.data≠.cell v:=by
 cases p<;>obtain ⟨o,e,_,d⟩:=e<;>exact #[o,e,λ v q=>by rw [d] at q;cases q]
noncomputable def oI (p q:Bool) (K:aT) (a b:Addr):g_ :=
 #[λ i H=>∃ xs ys x y,hK p K H a xs/\hK q K H b ys/\xs[i]?=some x/\ys[i]?=some y,
 λ i H v H'=>∃ n,H n=.n/\v=.ref n/\∃ x y,H'=upd H n (.tup [x,y])/\∀ xs ys,hK p K H a xs->hK q K H b ys->xs[i]?=some x/\ys[i]?=some y,
 λ i H=>∃ xs ys,hK p K H a xs/\hK q K H b ys/\(xs.length<=i\/ys.length<=i)]
theorem Ky {K:aT} (sz:kE bu=.t) {TI c1:Addr} (D:ZipApart z TI c1 c2 dF a b) :
  Turn P w K DD bu (oI p q K a b) [z,c1,c2,dF,TI] z (λ i h=>IsZip h z TI c1 .none/\IsPair h TI (.ref c2) (.ref dF)/\(∃ u v,IsPair h c1 u v)/\jg.dw p h c2 a i/\jg.dw q h dF b i) where
 mem:=dI
 obj:=λ i h st c r=>by
  obtain ⟨af,ai,⟨u,v,f⟩,j,l⟩:=st;have RA:∀ {o:Obj} {vs:ec},o.data=.fields vs->∀ v,o.data≠.cell v:=λ e v q=>by rw [e] at q;cases q
  have T:∀ {o:Obj} {vs:ec} {n:Nat},o.data=.seq vs n->∀ v,o.data≠.cell v:=λ e v q=>by rw [e] at q;cases q
  simp only [b5,dA,dB] at r;rcases r with rfl|rfl|rfl|rfl|rfl
  ·exact #[_,af,RA Y]
  ·exact #[_,f,T Y]
  ·exact dw.bQ j
  ·exact dw.bQ l
  ·exact #[_,ai,T Y]
 keep:=λ i h h' st k=>by
  obtain ⟨af,ai,⟨u,v,f⟩,j,l⟩:=st;exact #[k _ .zs _ af,k _ .zs _ ai,#[u,v,k _ .zs _ f],j.up (k _ .zs),l.up (k _ .zs)]
 item:=by
  intro X C hw B su r i pins s σ H E I hf st J;subst C hw B;obtain ⟨af,ai,⟨u,v,f⟩,j,l⟩:=st;obtain ⟨xs,ys,x,y,t,A,R,S⟩:=J;obtain ⟨sD,O,M⟩:=I.qI t;obtain ⟨ER,cU,N⟩:=I.qI A;obtain ⟨yV,zl,sJ⟩:=O.get R;obtain ⟨yW,zm,z9⟩:=cU.get S;refine jg.next_item D af ai f j l M N (by simpa using zl) (by simpa using zm) λ g Z ou j4 fA ha Q=>?_
  refine #[_,Y,?_];have An:=bZ af;cases bu with
  | Tuple ah gM pp =>
   refine wpAny_letOwnedTupleGo_zip Z λ yq qc m=>?_
   have new:=m.extBut _ _ (hq An) ha;have aU:Inv X pins σ (upd H s.heap.objs.size (.tup [x,y])) { s with heap:=yq }:=by
    refine I.CR (λ c o d e=>?_) hf (bL _) #[by show 2<=sizeLine;decide,[yV,yW],.cons sJ (.cons z9 .nil),#[_,new,Y,#[0,Y],Y]];simp only [b5,dA,dB,not_or] at d;exact m.extBut c o d.1 (Q c o d.1 d.2.1 d.2.2.1 d.2.2.2.1 e)
   have zu:=m.extBut _ _ D.TIz (Q _ _ D.TIz D.TITO D.TIi1 D.TIi2 ai);refine #[.ref s.heap.objs.size,_,aU,Y,#[_,I.fresh,Y,x,y,Y,λ Fo qC aO hF=>#[by rw [I.Jl aO t];exact R,by rw [I.Jl hF A];exact S]],#[qc,zu,#[_,_,m.extBut _ _ D.TOz ou],j4.extBut m.extBut D.i1z,fA.extBut m.extBut D.i2z],λ c G=>?_];obtain ⟨o,ow,_⟩:∃ o,s.heap.get? c=some o/\True:=by
    simp only [b5,dA,dB] at G;rcases G with rfl|rfl|rfl|rfl|rfl
    ·exact #[_,af,trivial]
    ·exact #[_,f,trivial]
    ·obtain ⟨O6,kO,_⟩:=dw.bQ j;exact #[_,kO,trivial]
    ·obtain ⟨O7,nd,_⟩:=dw.bQ l;exact #[_,nd,trivial]
    ·exact #[_,ai,trivial]
   rw [a3 (cR (bZ ow))];exact (hf c G).1
  | _=>exact absurd sz dP
 done:=by
  intro X C hw B su r i pins s σ H E I hf st J;subst C hw B;obtain ⟨af,ai,⟨u,v,f⟩,j,l⟩:=st;obtain ⟨xs,ys,t,A,L⟩:=J;obtain ⟨sD,O,M⟩:=I.qI t;obtain ⟨ER,cU,N⟩:=I.qI A;have h6:=O.length;have hb:=cU.length;refine jg.CI (I.f9 r) D af ai f j l M N ?_ λ g up=>#[Y,?_]
  ·rcases L with L|L
   ·exact .inl (by simp;omega)
   ·exact .inr (by simp;omega)
  ·refine I.B5 (λ c o d e=>?_) hf;simp only [b5,dA,dB,not_or] at d;exact up c o d.1 d.2.1 d.2.2.1 d.2.2.2.1 e
 self:=λ _ _ _ _ _ st h=>wz st.1 h
section
variable {X:a5} {bu:Expr}
theorem apart_new (af:a<n) (ai:b<n):ZipApart (n+4) (n+2) (n+3) n (n+1) a b:=zipApart_new af ai
def AZ (p q:Bool) (K:aT) (aP:dh):TI:=λ σ H R=>aP σ H λ vs H1=>∃ a b,vs=[.ref a,.ref b]/\(∃ xs,hK p K H1 a xs)/\(∃ ys,hK q K H1 b ys)/\R (oI p q K a b) H1
theorem Hv {σ:St} (I:Inv X pins σ H s) (o:hK p1 X.K H a xs) (p:hK aO X.K H b ys)
  (l:∀ {z TI c1 c2 dF:Addr},ZipApart z TI c1 c2 dF a b->Turn X.prog X.w X.K X.calm bu J [z,c1,c2,dF,TI] z (λ i h=>IsZip h z TI c1 .none/\IsPair h TI (.ref c2) (.ref dF)/\(∃ u v,IsPair h c1 u v)/\jg.dw p1 h c2 a i/\jg.dw aO h dF b i)) (q:R J H) :
  wpAny (model X.prog X.w) X.A (call (.type "zip") [.ref a,.ref b]) (λ v s1=>wpAny (model X.prog X.w) X.A (pyIter v) (uP X pins σ bu R) X.ct s1) X.ct s:=by
 obtain ⟨B,D,e⟩:=I.qI o;obtain ⟨C,cU,f⟩:=I.qI p;have m:=en.lt e;have n:=en.lt f;refine jg.make e f λ g j r t x y up=>?_
 refine wz j ?_;have k:=I.kept (t':=s.toks) up;refine #[_,[s.heap.objs.size+4,s.heap.objs.size+3,s.heap.objs.size,s.heap.objs.size+1,s.heap.objs.size+2],_,_,H,Y,k,l (apart_new m n),#[j,r,#[_,_,t],x,y],λ c d=>?_,q];have big:s.heap.objs.size<=c:=by
  simp only [b5,dA,dB] at d;rcases d with rfl|rfl|rfl|rfl|rfl
  ·exact lF _ _
  ·exact lF _ _
  ·exact bL _
  ·exact lF _ _
  ·exact lF _ _
 exact I.nB big (I.aS.fresh big)
theorem HW (j:kE bu=.t) (i:cI X "zip") (hm:X.mg "zip" = .n) (au:fK X [d,c] aP) (aA:starEach [d,c] X.env=[(.f,eval d X.env),(.f,eval c X.env)]:=by rfl) (f:starEach [c] X.env=[(.f,eval c X.env)]:=by rfl)
  (ae:bootBuiltins "zip" = some (.type "zip"):=by decide +kernel):hz X bu (.Call (.Name "zip" p) [d,c] [] pos) (AZ p1 aO X.K aP):=by
 intro pins s σ H R I h;refine Call_ (kr I i hm ae (nP (a8 (au pos pins s σ H _ I h) ?_) (by rw [aA,f]) (by rw [f];rfl)));rintro us s1 ⟨vs,H1,g,m,aO⟩;obtain ⟨a,b,e,⟨xs,k⟩,⟨ys,l⟩,q⟩:=aO;subst e;obtain ⟨r,t,rfl,n,o⟩:=vals2 m;cases n;cases o;exact Hv g k l (Ky j) q
end
theorem IH {K:aT} {g:fp} {aQ:c9} {D:Ends} (Pv:Nat->St->aC->Prop) (h0:Pv 0 σ H) (j:∀ i σ H,i<=min xs.length ys.length->Pv i σ H->hK p K H a xs/\hK q K H b ys)
  (aA:∀ i x y p σ H,xs[i]?=some x->ys[i]?=some y->H p=.n->Pv i σ H->g (.ref p) σ (upd H p (.tup [x,y])) λ σ2 ao=>aQ { D with bg:=Pv (i+1),cG:=Pv (i+1),aN:=D.bg } σ2 ao) (hd:∀ σ H,Pv (min xs.length ys.length) σ H->D.bg σ H) :
  ∃ W:Nat->Nat->St->aC->Prop,(∃ m,W 0 m σ H)/\∀ i m σ H,W i m σ H ->
   ((oI p q K a b).stop i H/\D.bg σ H)\/((oI p q K a b).go i H/\∃ N,(∀ σ' H',N σ' H'->∃ f,f<m/\W (i+1) f σ' H')/\∀ x H',(oI p q K a b).gR i H x H'->g x σ H' λ σ2 ao=>aQ { D with bg:=N,cG:=N,aN:=D.bg } σ2 ao):=by
 refine #[λ i m σ H=>m=min xs.length ys.length-i/\i<=min xs.length ys.length/\Pv i σ H,#[_,Y,fE _,h0],?_];rintro i m σ H ⟨rfl,av,p⟩;obtain ⟨c,d⟩:=j i σ H av p;by_cases k:i<min xs.length ys.length
 ·have af:i<xs.length:=by omega
  have ai:i<ys.length:=by omega
  refine .inr #[#[xs,ys,xs[i],ys[i],c,d,by simp [af],by simp [ai]],Pv (i+1),λ σ' H' o=>#[min xs.length ys.length-(i+1),.ak,Y,k,o],λ v H' r=>?_];obtain ⟨q,l,rfl,x,y,rfl,n⟩:=r;obtain ⟨ex,h⟩:=n xs ys c d;exact aA i x y q σ H ex h l p
 ·have e:i=min xs.length ys.length:=by omega
  refine .inl #[#[xs,ys,c,d,.ak],hd σ H (e ▸ p)]
noncomputable abbrev oJ (K:aT) (a b:Addr):g_:=oI .f .f K a b
abbrev FO (K:aT) (aP:dh):TI:=AZ .f .f K aP
section
variable {X:a5} {bu:Expr}
theorem UJ (e:kE bu=.t) (c:cI X "zip") (hm:X.mg "zip" = .n) (au:fK X [b,a] aP) (aA:starEach [b,a] X.env=[(.f,eval b X.env),(.f,eval a X.env)]:=by rfl) (d:starEach [a] X.env=[(.f,eval a X.env)]:=by rfl)
  (ae:bootBuiltins "zip" = some (.type "zip"):=by decide +kernel):hz X bu (.Call (.Name "zip" p) [b,a] [] pos) (FO X.K aP):=HW e c hm au aA d ae
end
theorem BL {K:aT} {g:fp} {aQ:c9} {D:Ends} (Pv:Nat->St->aC->Prop) (h0:Pv 0 σ H) (d:∀ i σ H,i<=min xs.length ys.length->Pv i σ H->aL K H a xs/\aL K H b ys)
  (aA:∀ i x y p σ H,xs[i]?=some x->ys[i]?=some y->H p=.n->Pv i σ H->g (.ref p) σ (upd H p (.tup [x,y])) λ σ2 ao=>aQ { D with bg:=Pv (i+1),cG:=Pv (i+1),aN:=D.bg } σ2 ao) (hd:∀ σ H,Pv (min xs.length ys.length) σ H->D.bg σ H) :
  ∃ W:Nat->Nat->St->aC->Prop,(∃ m,W 0 m σ H)/\∀ i m σ H,W i m σ H ->
   ((oJ K a b).stop i H/\D.bg σ H)\/((oJ K a b).go i H/\∃ N,(∀ σ' H',N σ' H'->∃ c,c<m/\W (i+1) c σ' H')/\∀ x H',(oJ K a b).gR i H x H'->g x σ H' λ σ2 ao=>aQ { D with bg:=N,cG:=N,aN:=D.bg } σ2 ao) :=
 IH Pv h0 d aA hd
end bt
namespace m9
open PySem PyProof.Rows
open AutoSeq1 (wpAny_loadPart')
section
variable {prog:Program} {w:World} {A:Around} {E:dc} {s:Shared}
theorem gather {n:Nat} (hd:A.handled=.n) (l:IsRange s.heap r a b c t u v) (f5:Builtin.Range.small a b c=.t) (aB:Builtin.Range.rangeSize a b c=n) (j:n<=2 ^ 24)
  (q:∀ g a6 acc,(∀ b o,s.heap.get? b=some o->g.get? b=some o)->ItemsOf (λ i v=>∃ t,v=.int (a+i*c) t) acc n->Q acc.toList { s with heap:=g,toks:=a6 }):wpAny (model prog w) A (collect (.ref r)) Q E s:=by
 refine az (wpAny_runValue (lG F.entry_proto_collect ?_));rw [n0 F.plain_proto_collect _];refine az (lp (bl #[n1 F.plain_list_iadd _,lG F.entry_list_iadd ?_]));rw [n0 F.plain_list_iadd _];have new:(s.heap.push { cls:=.type "list", data:=.seq ([]).toArray }).get? s.heap.objs.size=some { cls:=.type "list", data:=.seq #[] 0 }:=cN _ rfl;have last:∀ (d:Result) (s':Shared),(∃ (g:Heap) (a6:Nat) (acc:ec) (k:Nat),d=.ok (.ret (.ref s.heap.objs.size))/\s'={ s with heap:=g,toks:=a6 }/\g.get? s.heap.objs.size=some { cls:=.type "list", dict:=.n,data:=.seq acc k,slots:=#[] }/\(∀ b o,s.heap.get? b=some o->g.get? b=some o)/\ItemsOf (λ i v=>∃ t,v=.int (a+i*c) t) acc n) ->
   (match d with
    | .ok (.ret v)=>wpAny (model prog w) A (match v with
      | Value.ref a=>do
       match (← load a).data with
        | Data.seq xs _=>pure xs.toList
        | _=>unsupported "internal:collect"
      | _=>unsupported "internal:collect") Q E s'
    | .ok _=>False
    | .error e=>E e s'):=by
  rintro d s' ⟨g,a6,acc,k,rfl,rfl,got,up,ok⟩;exact az (qL got (bl (q g a6 acc up ok)))
 refine eU (wpAny_extend_range (R:=λ d s'=>∃ (g:Heap) (a6:Nat) (acc:ec) (k:Nat),d=.ok (.ret (.ref s.heap.objs.size))/\s'={ s with heap:=g,toks:=a6 }/\g.get? s.heap.objs.size=some { cls:=.type "list", dict:=.n,data:=.seq acc k,slots:=#[] }/\(∀ b o,s.heap.get? b=some o->g.get? b=some o)/\ItemsOf (λ i v=>∃ t,v=.int (a+i*c) t) acc n)
  hd (bo _ l) f5 aB j s.heap.objs.size (.ref s.heap.objs.size) 0 new λ g a6 acc k up got ok=>#[g,a6,acc,k,Y,Y,got,λ b o e=>up b o (cR (bZ e)) (bo _ e),ok]) (λ fin s' h=>?_) (λ e s' h=>?_)
 ·cases fin with
  | done f=>exact last _ _ h
  | again p=>exact #[h.1,jI h.2 λ d m h'=>last d m h']
 ·exact last _ _ h
theorem aau (r) (a b c) (t u v) (n:Nat) (f5:Builtin.Range.small a b c=.t) (aB:Builtin.Range.rangeSize a b c=n) (j:n<=2 ^ 24) :
  Meets (Builtin.«tuple.__new__» ⟨[.type "tuple", .ref r],[]⟩) (λ A R s=>A.handled=.n/\IsRange s.heap r a b c t u v/\∀ (g:Heap) a6 acc,(∀ b o,s.heap.get? b=some o->g.get? b=some o)->ItemsOf (λ i v=>∃ t,v=.int (a+i*c) t) acc n ->
   R (.ok (.ret (.ref g.objs.size))) { s with heap:=g.push { cls:=.type "tuple", data:=.seq acc },toks:=a6 }) :=
 .of_wp λ prog w A R s h=>by
  obtain ⟨hd,d,h⟩:=h;have sub:=sub_tuple_self;have k:=init_tuple_lookup;have l:=madeHere_tuple;have ty:s.TypeIs (.ref r) "range" := #[_,d,Y]
  have f:A.in1.handled=.n:=hd
  wp_walk using pG ty,gather f d f5 aB j
  intro g a6 acc up ok;show wpAny _ _ (Builtin.Tuple.tupleExact acc.toList.toArray>>=λ v=>ret v) _ _ _;refine az (lp (bl #[_,Y,?_]) (show acc.toList.toArray.size<=sizeLine by rw [ok.1,b8];omega));have e:acc.toList.toArray=acc:=by simp
  rw [e];exact h g a6 acc up ok
theorem Xz {n:Nat} (hd:A.handled=.n) (e:IsRange s.heap r a b c t u v) (f5:Builtin.Range.small a b c=.t) (aB:Builtin.Range.rangeSize a b c=n) (d:n<=2 ^ 24)
  (q:∀ (g:Heap) a6 acc,(∀ b o,s.heap.get? b=some o->g.get? b=some o)->ItemsOf (λ i v=>∃ t,v=.int (a+i*c) t) acc n->Q (.ref g.objs.size) { s with heap:=g.push { cls:=.type "tuple", data:=.seq acc },toks:=a6 }) :
  wpAny (model prog w) A (call (.type "tuple") [.ref r]) Q E s :=
 callType_new F.called_tuple .aw (F.typeCall_tuple_1 _) (F.newCall_tuple_1 _) (λ obj=>F.args_object_init_2 obj _) F.entry_tuple_new (aau r a b c t u v n f5 aB d) #[hd,e,λ g a6 acc up ok=>#[#[_,cN _ Y,Y],q g a6 acc up ok]]
end
end m9
namespace bt
open PySem PySem.Spec PyProof.Rows
section
variable {X:a5}
theorem ZC:dG X (.type "range") (λ xs H Q=>∃ n,xs=[.int n]/\∀ p,H p=.n->Q (.ref p) (upd H p (.oX 0 n))):=by
 intro pins s σ H xs us Q I r h;obtain ⟨n,rfl,q⟩:=h;obtain ⟨u,rfl,t,rfl⟩:=vals1 r;refine call_range_1 #[.ref s.heap.objs.size,_,I.laid (o:=.oX 0 n) (λ Z Z e=>bo _ e) (bL _) #[_,_,_,cN _ Y],Y,q _ I.fresh]
theorem Ln:∀ a (k:Nat),(∀ (i:Nat) v,a[i]?=some v->∃ t,v=Value.int ((k:Int)+i) t)->Vals ((List.range' k a.length).map λ i=>V.int ((i:Nat):Int)) a
 | [],_,_=>.nil
 | v::a,k,h=>by
  rw [fW,List.range'_succ,fv];refine .cons ?_ (Ln a (k+1) λ i b e=>?_)
  ·obtain ⟨t,e⟩:=h 0 v rfl;exact #[t,by rw [e];simp]
  ·obtain ⟨t,q⟩:=h (i+1) b (by simpa using e);exact #[t,by rw [q];congr 1;omega]
theorem ach (b:X.calm=.t):dG X (.type "tuple") (λ xs H Q=>∃ p n,xs=[.ref p]/\H p=some (.oX 0 n)/\0<=n/\n<=1000/\∀ l,H l=.n->Q (.ref l) (upd H l (.tup ((List.range n.toNat).map λ i=>V.int ((i:Nat):Int))))):=by
 intro pins s σ H xs us Q I r h;obtain ⟨p,n,rfl,ar,h0,af,q⟩:=h;obtain ⟨u,rfl,c⟩:=vals1 r;cases c;obtain ⟨t,u,v,e⟩:=(I.aS p _ ar)
 have aB:Builtin.Range.rangeSize 0 n 1=(n.toNat:Nat):=by rw [rangeSize_one];split<;>omega
 refine m9.Xz (I.ok.hd.1 b) e (small_one .ak .ak .ak .ak) aB .ak λ g a6 acc up ok=>?_
 have a:Inv X pins σ H { s with heap:=g,toks:=a6 }:=I.kept up;have aM:Vals ((List.range n.toNat).map λ i=>V.int (i:Nat)) acc.toList:=by
  have:=Ln acc.toList 0 λ i v e=>by
   obtain ⟨t,q⟩:=ok.2 i v (by simpa using e);exact #[t,by rw [q];simp]
  rw [eV,ok.1,<-List.range_eq_range'] at this;exact this
 refine #[.ref g.objs.size,_,a.laid (λ Z Z e=>bo _ e) (bL _) (show eg X.prog X.w _ _ _ (.tup _) from #[?_,acc.toList,aM,?_]),Y,q _ (a.aS.fresh (bL _))]
 ·rw [bb,i9,b8];omega
 ·refine #[_,cN _ Y,Y,#[0,?_],Y];simp
end
end bt
namespace m9
open PySem PyProof.Rows
open AutoSeq1 (wpAny_loadPart')
theorem ZZ:fillsNumberSlot (.type "tuple") "mul" = pure .f :=
 PySem.fillsNumberSlot_seq F.slot_tuple_mul.lookup (by decide +kernel) F.slot_tuple_rmul.lookup (by decide +kernel)
theorem Ya:seqRepeat? (.type "tuple")=pure (some (.builtin "tuple.__mul__")):=by
 unfold seqRepeat?;rw [PySem.seqSlot_of (name := "__mul__") F.slot_tuple_mul.lookup (by decide +kernel),PySem.seqSlot_of (name := "__rmul__") F.slot_tuple_rmul.lookup (by decide +kernel)];rfl
theorem Wv (a) (t) (l) (items) (n) (dd) (cB) :
  Meets (Builtin.«int.__rmul__» ⟨[.int a t,.ref l],[]⟩) (λ Z R s=>s.heap.get? l=some { cls:=.type "tuple", dict:=dd,data:=.seq items n,slots:=cB }/\R (.ok (.ret Value.notImplemented)) s) :=
 .of_wp λ prog w A R s h=>by
  obtain ⟨af,ai,c,d,e⟩:=s;obtain ⟨b,h⟩:=h
  wp_walk using wpAny_loadPart' b
  exact #[_,Y,h]
theorem YX (l) (items) (n) (x) (u) (dd) (cB) (he:items.isEmpty=.f) (af:2<=x) (ai:x<2 ^ 63) (r:items.size*x.toNat<=sizeLine) :
  Meets (Builtin.«tuple.__mul__» ⟨[.ref l,.int x u],[]⟩) (λ Z R s=>s.heap.get? l=some { cls:=.type "tuple", dict:=dd,data:=.seq items n,slots:=cB } /\
   R (.ok (.ret (.ref s.heap.objs.size))) { s with heap:=s.heap.push { cls:=.type "tuple", data:=.seq (List.foldl (λ a b=>a++b) #[] (List.replicate x.toNat items)) } }) :=
 .of_wp λ prog w A R s h=>by
  obtain ⟨ar,g,d,a6,os⟩:=s;obtain ⟨c,h⟩:=h;have f1:=AutoSeq1.idx_int;have f:¬ (decide (x < -(2 ^ 63))||decide (x ≥ 2 ^ 63))=.t:=by simp;omega
  have i:¬ (items.isEmpty||x==1)=.t:=by rw [he];simp;omega
  have j:¬ (decide (x<=0)||items.isEmpty)=.t:=by rw [he];simp;omega
  have q:(x.toNat:Nat)=x:=hW .ak;have hm:(items.size:Nat)*x=(items.size*x.toNat:Nat):=by rw [Int.natCast_mul,q]
  have aA:=b8;have k:¬ (items.size:Nat)*x>(2 ^ 63-1)/8:=by rw [hm];omega
  have m:¬ Builtin.Tuple.tupleTooMany ((items.size:Nat)*x)=.t:=by
   rw [hm];intro z;have:=cM z;omega
  have p:(List.foldl (λ a b=>a++b) #[] (List.replicate x.toNat items)).size<=sizeLine:=by
   have e:=bt.foldl_rep items.toList x.toNat [];rw [List.nil_append] at e;have o:List.foldl (λ a b=>a++b) #[] (List.replicate x.toNat items)=(List.replicate x.toNat items.toList).flatten.toArray:=by simpa using e
   rw [o,dj,bt.len_rep,eV,nY];exact r
  wp_walk using wpAny_loadPart' c
  rw [if_neg f];refine az (tupleItemsOf_ #[_,c,Y,n,Y] ?_);dsimp only;rw [if_neg i,if_neg j,if_neg k,if_neg m];exact az (lp (bl #[_,Y,h]) p)
end m9
namespace c7
open PySem PyProof.Rows
section
variable {prog:Program} {w:World} {A:Around} {E:dc} {s:Shared}
theorem YD {lo:Option Int} (aI:IsTup s.heap t items) (aA:s.heap.IsSliceOf cB e f .none) (bw:IsPart e lo) (pu:IsPart f av)
  (hw:cy items.size 0 lo=0/\cy items.size items.size av=items.size) (h:Q (.ref t) s):wpAny (model prog w) A (getItem (.ref t) (.ref cB)) Q E s:=by
 obtain ⟨os,c,b,i⟩:=id aA;have a:s.TypeIs (.ref cB) "slice" := #[os,c,b]
 unfold getItem
 try with_reducible refine eS ?_
 skip
 refine az (wpAny_sequenceKey aI.typeIs .aw ?_);refine az (jG aI.typeIs qY
  (iD qY aI.typeIs entry_tuple_getitem ?_ (args_tuple_getitem _ _)))
 show wpAny _ _ (Builtin.Tuple.tupleItemsOf (.ref t)>>=_) _ _ s;refine az (tupleItemsOf_ aI ?_);refine az (pG a ?_);rw [if_pos .aw];refine az (N2 aA bw pu ?_);have d:(((cy items.size 0 lo):Int)==0&&(1:Int)==1&&(cy items.size items.size av-cy items.size 0 lo)==items.size)=.t:=by
  rw [hw.1,hw.2];simp
 show wpAny _ _ (if (((cy items.size 0 lo):Int)==0&&1==1&&(cy items.size items.size av-cy items.size 0 lo)==items.size)=.t then _ else _) _ _ s;rw [if_pos d];obtain ⟨j,got,g,_⟩:=id aI;refine az (az (pG aI.typeIs (bl ?_)));rw [if_pos .aw];exact az (lr (bl #[_,Y,bl h]))
end
end c7
namespace bt
open PySem PySem.Spec PyProof.Rows
section
variable {X:a5}
def TR:gu:=λ x y H Q=>∃ l k xs,x=.ref l/\y=.int k/\H l=some (.tup xs)/\xs≠[]/\2<=k/\k<2 ^ 63/\xs.length*k.toNat<=sizeLine /\
 ∀ p,H p=.n->Q (.ref p) (upd H p (.tup (List.replicate k.toNat xs).flatten))
theorem VP:cQ X (binaryOp .Mult) TR:=by
 intro pins s σ H x y v u Q I m n h;obtain ⟨l,k,xs,rfl,rfl,f,i,af,ai,d,q⟩:=h;cases m;obtain ⟨t,rfl⟩:=n;obtain ⟨c,r,pt,z⟩:=I.tuple (aL.of f);have g:=r.length;obtain ⟨⟨w,jh,f1,s1⟩,g1,k1,e,c2⟩:=id pt;subst k1 c2;have he:c.toArray.isEmpty=.f:=by
  cases c with
  | nil=>exact absurd (r.VE.mp Y) i
  | cons a b=>rfl
 have hlen:c.toArray.size*k.toNat<=sizeLine:=by rw [dj,<-g];exact d
 have j:List.foldl (λ o p=>o++p) #[] (List.replicate k.toNat c.toArray)=(List.replicate k.toNat c).flatten.toArray:=by
  have:=foldl_rep c k.toNat [];rw [List.nil_append] at this;exact this
 refine wpAny_binaryOp_repeat_ref .aw #[_,g1,Y] (λ s'=>tv s' k t) m9.ZZ F.fills_int_mul wq m9.Ya F.slot_int_index.lookup
  (jM wq (tv s k t) F.entry_int_rmul (F.args_int_rmul_2 _ _) (m9.Wv k t l c.toArray e jh s1)
   #[g1,Y,#[_,g1,Y],jM F.slot_tuple_mul #[_,g1,Y] F.entry_tuple_mul (F.args_tuple_mul_2 _ _) (m9.YX l c.toArray e k t jh s1 he af ai hlen) #[g1,?_]])
 rw [j];refine #[.ref s.heap.objs.size,_,I.laid (λ b bQ q=>bo _ q) (bL _) ?_,Y,q _ I.fresh];exact #[by rw [len_rep,nY];exact d,_,r.rep k.toNat,ly.new _ _]
def F3 (K:aT):V->Option Int->Option Int->aC->cj->Prop:=λ x lo av H Q=>∃ a xs,x=.ref a/\aL K H a xs/\c7.cy xs.length 0 lo=0/\c7.cy xs.length xs.length av=xs.length/\Q (.ref a) H
theorem Yb:kY X (F3 X.K):=by
 intro pins s σ H x v i j lo av cB Q I d aA bw pu h;obtain ⟨a,xs,rfl,b,e,f,q⟩:=h;cases d;obtain ⟨c,r,aI,g⟩:=I.tuple b;have hlen:c.toArray.size=xs.length:=by rw [dj];exact r.length.symm
 exact #["tuple", _,qY.lookup,aI.typeIs,c7.YD aI aA bw pu (by rw [hlen];exact #[e,f]) #[.ref a,H,I,Y,q]]
theorem WB:kY X (λ x lo av H Q=>AH X.K x lo av H Q\/F3 X.K x lo av H Q):=U_.or Yb
end
def TX:TE:=λ Z H Q=>∀ p,H p=.n->Q (.ref p) (upd H p (.bW []))
theorem Inv.Sj {σ:St} (I:Inv X pins σ H s):sysModules<s.heap.objs.size :=
 Nat.lt_trans .aw (I.mod.glob.keeps I.aN).lt
theorem VV:bG X (.Dict [] [] pos) TX:=λ pins s σ H Q I h =>
 wpAny_Dict_empty #[.ref s.heap.objs.size,_,I.laid (o:=.bW []) (λ Z Z q=>bo _ q) (bL _)
  #[fE _,nN.mpr (eT (cR I.Sj)),[],.nil,Heap.DictOf.new _],Y,h _ I.fresh]
theorem TL (a:cI X x) (hm:X.mg x=.n) (aM:bootBuiltins x=some (.type T)) (aB:x ≠ "__name__" := by decide) (hd:(x==("__debug__" : Str))=.f:=by decide):bG X (.Name x pos) (gN (.ty T)) :=
 VR a hm aM rfl aB hd
end bt
namespace cA
noncomputable def lC (p:Nat):Nat->Nat->Nat
 | 0,n=>n
 | f+1,n=>if 2<=p/\1<=n/\n%p=0 then lC p f (n/p) else n
theorem L6 (p):∀ f n,n<=f->lC p (f+1) n=lC p f n
 | 0,n,h=>by
  obtain rfl:n=0:=by omega
  exact if_neg (λ z=>by omega)
 | f+1,n,h=>by
  show (if 2<=p/\1<=n/\n%p=0 then lC p (f+1) (n/p) else n)=if 2<=p/\1<=n/\n%p=0 then lC p f (n/p) else n
  by_cases q:2<=p/\1<=n/\n%p=0
  ·rw [if_pos q,if_pos q];exact L6 p f (n/p) (by have:=lH q.2.1 q.1;omega)
  ·rw [if_neg q,if_neg q]
theorem CQ (p n):∀ k,lC p (n+k) n=lC p n n
 | 0=>rfl
 | k+1=>by rw [show n+(k+1)=(n+k)+1 from rfl,L6 p (n+k) n .ak];exact CQ p n k
noncomputable def strip (p:Nat) (n:Nat):Nat:=lC p n n
theorem Kx (p n):strip p n=if 2<=p/\1<=n/\n%p=0 then strip p (n/p) else n:=by
 have e:strip p n=lC p (n+1) n:=(CQ p n 1).symm;rw [e];show (if 2<=p/\1<=n/\n%p=0 then lC p n (n/p) else n)=_;by_cases q:2<=p/\1<=n/\n%p=0
 ·rw [if_pos q,if_pos q];have lt:=lH q.2.1 q.1;have:=CQ p (n/p) (n-n/p);rw [show n/p+(n-n/p)=n by omega] at this;exact this
 ·rw [if_neg q,if_neg q]
theorem ru (ar:2<=p) (aB:1<=n) (h:n%p=0):strip p n=strip p (n/p):=by
 rw [Kx p n,if_pos #[ar,aB,h]]
theorem p2 (h:n%p≠0):strip p n=n:=by
 rw [Kx,if_neg (λ q=>h q.2.2)]
theorem rz (aB:1<=n) (h:n%p=0):1<=n/p:=by
 have e:=Nat.div_add_mod n p;rw [h] at e;rcases Nat.eq_zero_or_pos (n/p) with z|z
 ·rw [z] at e;omega
 ·exact z
theorem t6 (ar:2<=p):∀ n,1<=n->1<=strip p n:=by
 intro n
 induction n using Nat.strongRecOn with
 | ind n a =>
  intro aB;by_cases h:n%p=0
  ·rw [ru ar aB h];exact a _ (lH aB ar) (rz aB h)
  ·rw [p2 h];exact aB
theorem Zl (ar:2<=p):∀ n,1<=n->strip p n%p≠0:=by
 intro n
 induction n using Nat.strongRecOn with
 | ind n a =>
  intro aB;by_cases h:n%p=0
  ·rw [ru ar aB h];exact a _ (lH aB ar) (rz aB h)
  ·rw [p2 h];exact h
theorem Zn (ar:2<=p) (hm:1<=m):∀ e,strip p (p ^ e*m)=strip p m:=by
 intro e
 induction e with
 | zero=>rw [Nat.pow_zero,Nat.one_mul]
 | succ e b =>
  have af:p ^ (e+1)*m=p*(p ^ e*m):=by rw [Nat.pow_succ,nY (p ^ e) p,n2]
  have a:1<=p ^ e*m:=Nat.mul_pos (tB .ak) hm;have ai:1<=p*(p ^ e*m):=Nat.mul_pos .ak a;rw [af,ru ar ai (Nat.mul_mod_right _ _),Nat.mul_div_cancel_left _ .ak];exact b
noncomputable def cL:eQ:=[2,3,5,7,11,13,17,19,23,29]
noncomputable def fG (ag:eQ) (n:Nat):Nat:=ag.foldl (λ m p=>strip p m) n
noncomputable def g9 (n:Nat):Nat:=fG cL n
theorem xy:∀ ag,(∀ p∈ag,2<=p)->∀ n,1<=n->1<=fG ag n
 | [],_,_,h=>h
 | p::ag,ar,n,h=>xy ag (λ q a=>ar q (dJ _ a)) _ (t6 (ar p dI) n h)
theorem i8:∀ p∈cL,2<=p:=by decide
theorem aa8 (h:1<=n):1<=g9 n:=xy cL i8 n h
noncomputable def mX (a b:Nat):Bool:=cL.all λ p=>a%p != 0||b%p != 0
theorem LG:mX a b=.t ↔ ∀ p∈cL,¬ (p∣a/\p∣b):=by
 unfold mX;rw [gp];constructor
 ·rintro h p ar ⟨af,ai⟩;have:=h p ar;rw [Nat.mod_eq_zero_of_dvd af,Nat.mod_eq_zero_of_dvd ai] at this;exact absurd this .aw
 ·intro h p ar;by_cases af:a%p=0
  ·by_cases ai:b%p=0
   ·exact absurd #[pK af,pK ai] (h p ar)
   ·simp [ai]
  ·simp [af]
noncomputable def gX:eQ->eQ->Nat
 | p::ag,e::ah=>p ^ e*gX ag ah
 | _,_=>1
theorem CL:∀ ag ah,(∀ p∈ag,2<=p)->1<=gX ag ah
 | [],_,_=>bL _
 | _::_,[],_=>bL _
 | p::ag,e::ah,h=>Nat.mul_pos (tB (by have:=h p dI;omega)) (CL ag ah λ q a=>h q (dJ _ a))
theorem Cy:∀ ag ah,(∀ q∈ag,Nat.Coprime p q)->Nat.Coprime p (gX ag ah)
 | [],_,_=>Bv p
 | _::_,[],_=>Bv p
 | q::ag,e::ah,h=>Nat.Coprime.mul_right (Nat.Coprime.pow_right e (h q dI)) (Cy ag ah λ r a=>h r (dJ _ a))
theorem abE (ar:2<=p) (c:Nat.Coprime p n):n%p≠0:=λ h=>by
 have:=c.eq_one_of_dvd (pK h);omega
theorem Zm (ar:2<=p):strip p 1=1:=p2 (by rw [Nat.mod_eq_of_lt .ak];decide)
theorem Lk:∀ ag,(∀ p∈ag,2<=p)->fG ag 1=1
 | [],_=>rfl
 | p::ag,h=>by
  show fG ag (strip p 1)=1;rw [Zm (h p dI)];exact Lk ag λ q a=>h q (dJ _ a)
theorem MM:∀ ag ah,(∀ p∈ag,2<=p)->ag.Pairwise Nat.Coprime->fG ag (gX ag ah)=1
 | [],_,_,_=>rfl
 | p::ag,[],h,_=>Lk (p::ag) h
 | p::ag,e::ah,h,c=>by
  have ar:=h p dI;have aI:∀ q∈ag,2<=q:=λ q b=>h q (dJ _ b)
  have a:=List.pairwise_cons.mp c;show fG ag (strip p (p ^ e*gX ag ah))=1;rw [Zn ar (CL ag ah aI),p2 (abE ar (Cy ag ah a.1))];exact MM ag ah aI a.2
theorem xw:cL.Pairwise Nat.Coprime:=by decide
noncomputable def prod (ah:eQ):Nat:=gX cL ah
theorem XT (ah):1<=prod ah:=CL _ _ i8
theorem abx (ah):g9 (prod ah)=1:=MM _ _ i8 xw
theorem Bf:∀ ag ah k,ag.Pairwise Nat.Coprime->ag[k]?=some p->ah.getD k 0=0->Nat.Coprime p (gX ag ah)
 | [],_,_,_,h,_=>by simp at h
 | _::_,[],_,_,_,_=>Bv p
 | q::ag,e::ah,0,c,h,h0=>by
  simp at h h0;subst h;subst h0;show Nat.Coprime q (q ^ 0*gX ag ah);rw [Nat.pow_zero,Nat.one_mul];exact Cy ag ah (List.pairwise_cons.mp c).1
 | q::ag,e::ah,k+1,c,h,h0=>by
  have a:=List.pairwise_cons.mp c;have h':ag[k]?=some p:=by simpa using h
  have hm:=cg h';refine Nat.Coprime.mul_right (Nat.Coprime.pow_right e (Nat.Coprime.symm (a.1 p hm))) ?_;exact Bf ag ah k a.2 h' (by simpa using h0)
theorem aaR (h:∀ k,ah.getD k 0=0\/aj.getD k 0=0):mX (prod ah) (prod aj)=.t:=by
 rw [LG];rintro p ar ⟨af,ai⟩;obtain ⟨k,ay⟩:=g6 ar;have a:=i8 p ar;rcases h k with e|e
 ·have:=(Bf cL ah k xw ay e).eq_one_of_dvd af;omega
 ·have:=(Bf cL aj k xw ay e).eq_one_of_dvd ai;omega
theorem I4:∀ ag ah,(∀ p∈ag,p<=29)->gX ag ah<=29 ^ ah.sum
 | [],_,_=>tB .aw
 | _::_,[],_=>bL _
 | p::ag,e::ah,h=>by
  rw [n3,Nat.pow_add];exact Nat.mul_le_mul (Nat.pow_le_pow_left (h p dI) e) (I4 ag ah λ q a=>h q (dJ _ a))
theorem V7 (ah):prod ah<=29 ^ ah.sum:=I4 cL ah .aw
noncomputable def gk (i:Int):Bool:=decide (1<=i)&&decide (i<=1000000000000)&&decide (g9 i.toNat=1)
noncomputable def ey (i j:Int):Bool:=gk i&&gk j&&mX i.toNat j.toNat
theorem Ll (h:ah.sum<=3):gk (prod ah:Nat)=.t:=by
 unfold gk;have af:=XT ah;have ai:=V7 ah;have a:29 ^ ah.sum<=29 ^ 3:=Nat.pow_le_pow_right .aw h;have b:29 ^ 3=24389:=by decide
 rw [eX,eX,decide_eq_true_iff,decide_eq_true_iff,decide_eq_true_iff];refine #[#[.ak,.ak],?_];rw [fV];exact abx ah
theorem ZH (af:ah.sum<=3) (ai:aj.sum<=3) (h:∀ k,ah.getD k 0=0\/aj.getD k 0=0):ey (prod ah:Nat) (prod aj:Nat)=.t:=by
 unfold ey;rw [Ll af,Ll ai,fV,fV,aaR h];rfl
noncomputable def ups (xs:bp):eQ:=xs.map Int.toNat
noncomputable def downs (xs:bp):eQ:=xs.map λ x=>(-x).toNat
theorem aba (xs) (k):(ups xs).getD k 0=0\/(downs xs).getD k 0=0:=by
 unfold ups downs;rw [gF,gF,dg,dg];cases xs[k]? with
 | none=>exact .inl rfl
 | some x=>simp;omega
theorem t_:∀ (xs:eQ) k v,(xs.set k v).sum+xs.getD k 0<=xs.sum+v
 | [],k,v=>by simp
 | x::xs,0,v=>by simp;omega
 | x::xs,k+1,v=>by
  have:=t_ xs k v;simp only [List.set_cons_succ,n3,List.getD_cons_succ];omega
theorem Ht (h:xs[k]?=some x):(ups (xs.set k (x+1))).sum<=(ups xs).sum+1:=by
 have q:=t_ (ups xs) k (x+1).toNat;have e:(ups xs).getD k 0=x.toNat:=by unfold ups;rw [gF,dg,h];rfl
 rw [e] at q;have a:ups (xs.set k (x+1))=(ups xs).set k (x+1).toNat:=by unfold ups;rw [mQ]
 rw [a];omega
theorem Ym (h:xs[k]?=some x):(ups (xs.set k (x-1))).sum<=(ups xs).sum:=by
 have q:=t_ (ups xs) k (x-1).toNat;have e:(ups xs).getD k 0=x.toNat:=by unfold ups;rw [gF,dg,h];rfl
 rw [e] at q;have a:ups (xs.set k (x-1))=(ups xs).set k (x-1).toNat:=by unfold ups;rw [mQ]
 rw [a];omega
theorem ZF (h:xs[k]?=some x):(downs (xs.set k (x-1))).sum<=(downs xs).sum+1:=by
 have q:=t_ (downs xs) k (-(x-1)).toNat;have e:(downs xs).getD k 0=(-x).toNat:=by unfold downs;rw [gF,dg,h];rfl
 rw [e] at q;have a:downs (xs.set k (x-1))=(downs xs).set k (-(x-1)).toNat:=by unfold downs;rw [mQ]
 rw [a];omega
theorem W7 (h:xs[k]?=some x):(downs (xs.set k (x+1))).sum<=(downs xs).sum:=by
 have q:=t_ (downs xs) k (-(x+1)).toNat;have e:(downs xs).getD k 0=(-x).toNat:=by unfold downs;rw [gF,dg,h];rfl
 rw [e] at q;have a:downs (xs.set k (x+1))=(downs xs).set k (-(x+1)).toNat:=by unfold downs;rw [mQ]
 rw [a];omega
theorem LA (af:(ups xs).sum<=3) (ai:(downs xs).sum<=3):ey (prod (ups xs):Nat) (prod (downs xs):Nat)=.t:=ZH af ai (aba xs)
end cA
namespace bt
open PySem PySem.Spec PyProof.Rows
theorem XJ (a:cI X x) (hm:∃ t,X.mg x=some (.int i t)) (hd:(x==("__debug__" : Str))=.f:=by decide):bG X (.Name x pos) (gN (.int i)):=by
 obtain ⟨t,h⟩:=hm;exact BV a h #[t,Y] hd
theorem XK (a:cI X x) (hm:∃ t,X.mg x=some (.str i t)) (hd:(x==("__debug__" : Str))=.f:=by decide):bG X (.Name x pos) (gN (.str i)):=by
 obtain ⟨t,h⟩:=hm;exact BV a h #[t,Y] hd
noncomputable def sW (sc a:Scope):List (Str×NameKind):=sc.names.map λ (n,k)=>if (k==.free&&a.kind==.function&&a.names.lookup n==some .cell) then (n,.cell) else (n,k)
noncomputable def Ax (sc:Scope):b2:=((sc.names.filter (λ p=>p.2==.free)).reverse).map (·.1)
noncomputable def BI (sc a:Scope) (N b:b2) (js:List (Option Nat)):Bool :=
 sc.names.all (λ y=>y.2 != .cell)&&decide (sc.kind=.function)&&sc.names.all (λ y=>y.2 != .local||sc.names.lookup y.1==some .local) &&
 (sW sc a).all (λ p=> !(p.2==.cell||p.2==.free)||(Ax sc).contains p.1)&&js.length==N.length &&
 (List.range N.length).all λ i=>match js[i]?,N[i]? with
  | some (some j),some x=>b[j]?==some x&&a.names.lookup x==some .cell&&((sW sc a).lookup x==some .cell||(sW sc a).lookup x==some .free)
  | _,_=>.t
theorem mem_of_lookup {α β: Type} [BEq α] [LawfulBEq α]:∀ {l:List (α×β)} {x : α} {c : β},l.lookup x=some c->(x,c)∈l
 | [],_,_,h=>by simp at h
 | (y,d)::r,x,c,h=>by
  rw [List.lookup_cons] at h;cases e:(x==y) with
  | true =>
   rw [e] at h;cases h;rw [eq_of_beq e];exact dI
  | false =>
   rw [e] at h;exact dJ _ (mem_of_lookup h)
theorem YA (k:X.env.scope=l) (o1:closureFor sc X.env=pure cl) (ay:cl.map (·.1)=Ax sc)
  (v:∀ p∈cl,X.env.cells.lookup p.1=some p.2) (d:BI sc l N m js=.t) (s:X.N=m):nR X sc cl N js:=by
 unfold BI at d;simp only [eX] at d;obtain ⟨⟨⟨⟨⟨af,ai⟩,n⟩,o⟩,q⟩,r⟩:=d;have f:(relabel sc X.env).names=sW sc l:=by
  unfold relabel sW Env.kindOf;rw [k]
 refine #[o1,?_,cM ai,?_,?_,?_,eq_of_beq q,?_]
 ·intro y e;have:=gp.mp af y e;simpa using this
 ·intro y e u;have:=gp.mp n y e;rw [u] at this;simpa using this
 ·intro x c h;exact v (x,c) (mem_of_lookup h)
 ·intro x h;rw [f] at h;refine Dg ?_;rw [ay];rcases h with h|h
  all_goals
   have:=gp.mp o _ (mem_of_lookup h);simpa using this
 ·intro i j x g t;have av:=(dK.mp g).1;have:=gp.mp r i (mJ.mpr av);rw [t,g] at this;simp only [eX,Bool.or_eq_true] at this;obtain ⟨⟨a,b⟩,c⟩:=this;refine #[?_,?_,?_]
  ·rw [s];exact eq_of_beq a
  ·rw [k];exact eq_of_beq b
  ·rw [f];rcases c with c|c
   ·exact .inl (eq_of_beq c)
   ·exact .inr (eq_of_beq c)
end bt
namespace cb
open PySem bt
theorem dy:bootBuiltins "len" = some (.builtin "len"):=PySem.boot_len
theorem ek:bootBuiltins "isinstance" = some (.builtin "isinstance"):=by decide +kernel
theorem mB:bootBuiltins "int" = some (.type "int"):=by decide +kernel
theorem GU:bootBuiltins "bool" = some (.type "bool"):=by decide +kernel
theorem gq:bootBuiltins "tuple" = some (.type "tuple"):=by decide +kernel
theorem gh:bootBuiltins "str" = some (.type "str"):=by decide +kernel
theorem Vi:bootBuiltins "range" = some (.type "range"):=by decide +kernel
theorem o_:bootBuiltins "max" = some (.builtin "max"):=by decide +kernel
theorem pa:bootBuiltins "min" = some (.builtin "min"):=by decide +kernel
theorem nG:bootBuiltins "all" = some (.builtin "all"):=by decide +kernel
def eH (H:aC):V->Prop
 | .aX=>True
 | .aJ _=>True
 | .int _=>True
 | .str _=>True
 | .ref a=>(∃ xs,H a=some (.tup xs))\/(∃ xs,H a=some (.lst xs))\/(∃ kvs,H a=some (.bW kvs))
 | _=>False
noncomputable def kj:Option fe->Option bj
 | some (.tup xs)=>some xs
 | _=>.n
noncomputable def et (H:aC):V->Option bj
 | .ref a=>kj (H a)
 | _=>.n
theorem lK (h:H a=some (.tup xs)):et H (.ref a)=some xs:=by
 show kj (H a)=_;rw [h];rfl
theorem rl (h:et H v=some xs):∃ a,v=.ref a/\H a=some (.tup xs):=by
 cases v with
 | ref a =>
  refine #[a,Y,?_];have h':kj (H a)=some xs:=h;cases e:H a with
  | none=>rw [e] at h';cases h'
  | some o =>
   rw [e] at h';cases o<;>first|(cases h';rfl)|cases h'
 | _=>cases h
noncomputable def ve:V->Bool
 | .int _=>.t
 | .aJ _=>.t
 | _=>.f
noncomputable def EP:V->Bool
 | .aJ _=>.t
 | _=>.f
noncomputable def qw:V->Bool
 | .int _=>.t
 | _=>.f
theorem G3 (v):(ve v && !EP v)=qw v:=by cases v<;>rfl
theorem BO (h:qw v=.t):∃ i,v=.int i:=by
 cases v with
 | int i=>exact #[i,Y]
 | _=>cases h
section
variable {K:aT} {H:aC} {v:V}
theorem vP (k:eH H v):∃ t,gS K H v t/\PySem.W.kitOne K t (.type "tuple")=some (et H v).isSome:=by
 cases v with
 | aX=>exact #[_,.aX,by kernel_rfl]
 | aJ b=>exact #[_,.aJ b,by kernel_rfl]
 | int i=>exact #[_,.int i,by kernel_rfl]
 | str x=>exact #[_,.str x,by kernel_rfl]
 | ref a =>
  rcases k with ⟨xs,e⟩|⟨xs,e⟩|⟨kvs,e⟩
  ·exact #[_,.tup e,by rw [lK e];kernel_rfl]
  ·refine #[_,.lst e,?_];show _=some (kj (H a)).isSome;rw [e];kernel_rfl
  ·refine #[_,.bW e,?_];show _=some (kj (H a)).isSome;rw [e];kernel_rfl
 | _=>exact False.elim k
theorem Gx (k:eH H v):∃ t,gS K H v t/\PySem.W.kitOne K t (.type "int")=some (ve v):=by
 cases v with
 | aX=>exact #[_,.aX,by kernel_rfl]
 | aJ b=>exact #[_,.aJ b,by kernel_rfl]
 | int i=>exact #[_,.int i,by kernel_rfl]
 | str x=>exact #[_,.str x,by kernel_rfl]
 | ref a =>
  rcases k with ⟨xs,e⟩|⟨xs,e⟩|⟨kvs,e⟩
  ·exact #[_,.tup e,by kernel_rfl]
  ·exact #[_,.lst e,by kernel_rfl]
  ·exact #[_,.bW e,by kernel_rfl]
 | _=>exact False.elim k
theorem Gw (k:eH H v):∃ t,gS K H v t/\PySem.W.kitOne K t (.type "bool")=some (EP v):=by
 cases v with
 | aX=>exact #[_,.aX,by kernel_rfl]
 | aJ b=>exact #[_,.aJ b,by kernel_rfl]
 | int i=>exact #[_,.int i,by kernel_rfl]
 | str x=>exact #[_,.str x,by kernel_rfl]
 | ref a =>
  rcases k with ⟨xs,e⟩|⟨xs,e⟩|⟨kvs,e⟩
  ·exact #[_,.tup e,by kernel_rfl]
  ·exact #[_,.lst e,by kernel_rfl]
  ·exact #[_,.bW e,by kernel_rfl]
 | _=>exact False.elim k
end
theorem ax.kind (s:ax H H') (k:eH H v):eH H' v:=by
 cases v with
 | ref a =>
  rcases k with ⟨xs,e⟩|⟨xs,e⟩|⟨kvs,e⟩
  ·exact .inl #[xs,s _ _ e]
  ·exact .inr (.inl #[xs,s _ _ e])
  ·exact .inr (.inr #[kvs,s _ _ e])
 | aX=>trivial
 | aJ b=>trivial
 | int i=>trivial
 | str x=>trivial
 | ij b=>exact False.elim k
 | gO b=>exact False.elim k
 | ty b=>exact False.elim k
def br (a:Addr) (H H':aC):Prop:=∀ b o,b≠a->H b=some o->H' b=some o
theorem br.refl (a) (H):br a H H:=λ Z Z Z h=>h
theorem br.trans (x:br a H H1) (y:br a H1 ao):br a H ao:=λ b o n h=>y b o n (x b o n h)
theorem br.of (x:ax H H'):br a H H':=λ b o Z h=>x b o h
theorem br.free (x:br a H H') (h:H' p=.n) (ar:p≠a):H p=.n:=by
 cases q:H p with
 | none=>rfl
 | some o=>rw [x p o ar q] at h;cases h
theorem br.AV (x:br a H H') (au:H' a=some o) (h:H' p=.n):H p=.n :=
 x.free h λ z=>by rw [z,au] at h;cases h
theorem br.upd {a:Addr} {H:aC} {o:fe}:br a H (upd H a o):=λ b q n h=>by rw [a3 n];exact h
theorem br.new (x:br a H H') (h:H' p=.n):br a H (bt.upd H' p o):=λ b q n e=>by rw [a3 (b0 (x b q n e) h)];exact x b q n e
theorem br.set (x:br a H H'):br a H (bt.upd H' a o):=λ b q n e=>by rw [a3 n];exact x b q n e
theorem ax.new (h:H p=.n):ax H (upd H p o):=λ b q e=>by rw [a3 (b0 e h)];exact e
theorem ax.more (s:ax H H') (h:H' p=.n):ax H (upd H' p o):=s.trans (ax.new h)
theorem ax.tup (e:ax H H') (h:aL K H a xs):aL K H' a xs:=by
 rcases h with (h|⟨o,h⟩)|h
 ·exact .inl (.inl (e _ _ h))
 ·exact .inl (.inr #[o,e _ _ h])
 ·exact .inr h
theorem gH {ns:bp} {i:Nat} (h:(ns.map V.int)[i]?=some y):∃ z,y=.int z/\ns[i]?=some z:=by
 rw [dg] at h;cases e:ns[i]? with
 | none=>rw [e] at h;cases h
 | some z=>rw [e] at h;exact #[z,(dS h).symm,Y]
theorem fF {v: α} (h0:0<=i) (h:xs[i.toNat]?=some v):es xs i=some v:=by
 have:=HB h
 rwa [hW h0] at this
theorem tg {n:Nat} {i:Int} (h0:0<=i) (h:i<n):kc n i=some i.toNat:=by
 unfold kc;rw [if_pos h0,if_pos h]
theorem Hr {α: Type} {xs:List α} (h:xs.length=2):∃ x y,xs=[x,y]:=by
 cases xs with
 | nil=>simp at h
 | cons x xs =>
  cases xs with
  | nil=>simp at h
  | cons y ys =>
   cases ys with
   | nil=>exact #[x,y,Y]
   | cons z zs=>simp at h
end cb
namespace bt
open PySem PySem.Spec PyProof.Rows
noncomputable def noStar:Expr->Bool
 | .Starred _ _=>.f
 | _=>.t
theorem p6 (h:noStar e=.t) (ah) (env):starEach (e::ah) env=(.f,eval e env)::starEach ah env:=by
 cases e<;>first|rfl|cases h
theorem Tb (au:bG X e bx) (a:fK X ah t) (h:noStar e=.t:=by rfl):fK X (e::ah) (A8 bx t):=VQ au a (p6 h ah X.env)
section
variable {K:aT} {a D:Addr} {js:List (Option Nat)} {g:fp} {bx:TE} {σ:St} {H1:aC} {Q:cj}
theorem ry (aB:n<=sizeLine) (Pv:Nat->St->aC->bj->Prop) (h0:Pv 0 (pick js σ) (upd H1 D (.lst [])) [])
  (l:∀ i σ' H' ys,i<n->H' D=some (.lst ys)->Pv i σ' H' ys->J.go i H') (o:∀ σ' H' ys,H' D=some (.lst ys)->ys.length=n->Pv n σ' H' ys->J.stop n H'/\Q (.ref D) H')
  (aA:∀ i σ' H' ys x ao (R:St->V->aC->Prop),i<n->H' D=some (.lst ys)->ys.length=i->Pv i σ' H' ys->J.gR i H' x ao ->
   (∀ σ2 y b,b D=some (.lst ys)->Pv (i+1) σ2 (upd b D (.lst (ys++[y]))) (ys++[y])->R σ2 y b)->g x σ' ao λ σ2 k=>bx σ2 k λ y b=>R σ2 y b) :
  gf J D js g h1 bx σ H1 Q:=by
 refine #[λ i m σ' H' ys=>m=n-i/\i<=n/\H' D=some (.lst ys)/\ys.length=i/\Pv i σ' H' ys,#[n,Y,fE _,bc,Y,h0],?_];rintro i m σ' H' ys ⟨rfl,av,c,d,p⟩;refine #[c,?_];by_cases e:i=n
 ·subst e;exact .inl (o σ' H' ys c d p)
 ·have j:i<n:=by omega
  refine .inr #[l i σ' H' ys j c p,.ak,λ σ2 ao zs=>ao D=some (.lst zs)/\zs.length=i+1/\Pv (i+1) σ2 ao zs,λ σ2 ao zs ⟨f,h,r⟩=>#[n-(i+1),.ak,Y,.ak,f,h,r],λ x ao q=>?_];exact aA i σ' H' ys x ao (λ σ2 y b=>b D=some (.lst ys)/\(upd b D (.lst (ys++[y]))) D=some (.lst (ys++[y]))/\(ys++[y]).length=i+1/\Pv (i+1) σ2 (upd b D (.lst (ys++[y]))) (ys++[y])) j c d p q
   λ σ2 y b f h=>#[f,bc,by rw [dn,d];rfl,h]
theorem ZE {lo:Int} (aB:n<=sizeLine) (Pv:Nat->St->aC->bj->Prop) (h0:Pv 0 (pick js σ) (upd H1 D (.lst [])) [])
  (aA:∀ i σ' H' ys (R:St->V->aC->Prop),i<n->H' D=some (.lst ys)->ys.length=i->Pv i σ' H' ys->(∀ σ2 y d,d D=some (.lst ys)->Pv (i+1) σ2 (upd d D (.lst (ys++[y]))) (ys++[y])->R σ2 y d) ->
   g (.int (lo+i)) σ' H' λ σ2 e=>bx σ2 e λ y d=>R σ2 y d)
  (j:∀ σ' H' ys,H' D=some (.lst ys)->ys.length=n->Pv n σ' H' ys->Q (.ref D) H'):gf (nq lo n) D js g h1 bx σ H1 Q :=
 ry aB Pv h0 (λ i Z Z Z av Z Z=>av) (λ σ' H' ys a b c=>#[bL _,j σ' H' ys a b c]) λ i σ' H' ys x ao R av a b c ⟨f,h⟩=>by
  subst f;subst h;exact aA i σ' ao ys R av a b c
theorem JU (aB:xs.length<=sizeLine) (Pv:Nat->St->aC->bj->Prop) (h0:Pv 0 (pick js σ) (upd H1 D (.lst [])) [])
  (f:∀ i σ' H' ys,i<=xs.length->H' D=some (.lst ys)->Pv i σ' H' ys->aK K H' a xs)
  (aA:∀ i x σ' H' ys (R:St->V->aC->Prop),xs[i]?=some x->H' D=some (.lst ys)->ys.length=i->Pv i σ' H' ys->(∀ σ2 y e,e D=some (.lst ys)->Pv (i+1) σ2 (upd e D (.lst (ys++[y]))) (ys++[y])->R σ2 y e) ->
   g x σ' H' λ σ2 h=>bx σ2 h λ y e=>R σ2 y e)
  (l:∀ σ' H' ys,H' D=some (.lst ys)->ys.length=xs.length->Pv xs.length σ' H' ys->Q (.ref D) H'):gf (l5 K a) D js g h1 bx σ H1 Q :=
 ry aB Pv h0 (λ i σ' H' ys av d p=>#[xs,xs[i],f i σ' H' ys .ak d p,cV av])
  (λ σ' H' ys d b c=>#[#[xs,f _ σ' H' ys (bL _) d c,bL _],l σ' H' ys d b c]) λ i σ' H' ys x ao R av d b c ⟨j,k⟩=>by
  subst j;exact aA i x σ' ao ys R (k xs (f i σ' ao ys .ak d c)) d b c
theorem tQ (aB:xs.length<=sizeLine) (Pv:Nat->St->aC->bj->Prop) (h0:Pv 0 (pick js σ) (upd H1 D (.lst [])) [])
  (f:∀ i σ' H' ys,i<=xs.length->H' D=some (.lst ys)->Pv i σ' H' ys->aL K H' a xs)
  (aA:∀ i x σ' H' ys (R:St->V->aC->Prop),xs[i]?=some x->H' D=some (.lst ys)->ys.length=i->Pv i σ' H' ys->(∀ σ2 y e,e D=some (.lst ys)->Pv (i+1) σ2 (upd e D (.lst (ys++[y]))) (ys++[y])->R σ2 y e) ->
   g x σ' H' λ σ2 h=>bx σ2 h λ y e=>R σ2 y e)
  (l:∀ σ' H' ys,H' D=some (.lst ys)->ys.length=xs.length->Pv xs.length σ' H' ys->Q (.ref D) H'):gf (nr K a) D js g h1 bx σ H1 Q :=
 ry aB Pv h0 (λ i σ' H' ys av d p=>#[xs,xs[i],f i σ' H' ys .ak d p,cV av])
  (λ σ' H' ys d b c=>#[#[xs,f _ σ' H' ys (bL _) d c,bL _],l σ' H' ys d b c]) λ i σ' H' ys x ao R av d b c ⟨j,k⟩=>by
  subst j;exact aA i x σ' ao ys R (k xs (f i σ' ao ys .ak d c)) d b c
end
theorem aK.w8 {K:aT} (h:aK K H a xs) (n:H D=.n):aK K (upd H D o) a xs:=by
 rcases h with (h|⟨u,h⟩)|h
 ·exact .inl (.inl (by rw [a3 (b0 h n)];exact h))
 ·exact .inl (.inr #[u,by rw [a3 (b0 h n)];exact h])
 ·exact .inr h
theorem aL.w8 {K:aT} (h:aL K H a xs) (n:H D=.n):aL K (upd H D o) a xs:=by
 rcases h with (h|⟨u,h⟩)|h
 ·exact .inl (.inl (by rw [a3 (b0 h n)];exact h))
 ·exact .inl (.inr #[u,by rw [a3 (b0 h n)];exact h])
 ·exact .inr h
theorem p7 {α β: Type} {f: α -> β} {xs:List α} {x: α} (h:xs[i]?=some x):(xs.take (i+1)).map f=(xs.take i).map f++[f x]:=by
 rw [jN,h,ht];rfl
section
variable {K:aT} {a D:Addr} {js:List (Option Nat)} {bx:TE} {σ:St} {H1:aC} {Q:cj}
theorem MV (ar:pick js σ=o::σ0) (aB:xs.length<=sizeLine) (c:H1 D=.n) (d:aK K H1 a xs)
  (aA:∀ x H' R,x∈xs->R (f x) H'->bx (some x::σ0) H' R) (q:Q (.ref D) (upd H1 D (.lst (xs.map f)))):gf (l5 K a) D js (e8 0) h1 bx σ H1 Q:=by
 refine JU aB (λ i σ' H' ys=>(∃ u,σ'=u::σ0)/\ys=(xs.take i).map f/\H'=upd H1 D (.lst ys)) #[#[o,ar],Y,Y] ?_ ?_ ?_
 ·rintro i σ' H' ys _ _ ⟨_,rfl,rfl⟩;exact d.w8 c
 ·rintro i x σ' H' ys R b _ _ ⟨⟨u,rfl⟩,rfl,rfl⟩ k;refine aA x _ _ (cg b) (k _ _ _ bc #[#[_,Y],(p7 b).symm,B6])
 ·rintro σ' H' ys _ _ ⟨_,rfl,rfl⟩;rw [ky];exact q
theorem Mg (ar:pick js σ=o::σ0) (aB:xs.length<=sizeLine) (c:H1 D=.n) (d:aL K H1 a xs)
  (aA:∀ x H' R,x∈xs->R (f x) H'->bx (some x::σ0) H' R) (q:Q (.ref D) (upd H1 D (.lst (xs.map f)))):gf (nr K a) D js (e8 0) h1 bx σ H1 Q:=by
 refine tQ aB (λ i σ' H' ys=>(∃ u,σ'=u::σ0)/\ys=(xs.take i).map f/\H'=upd H1 D (.lst ys)) #[#[o,ar],Y,Y] ?_ ?_ ?_
 ·rintro i σ' H' ys _ _ ⟨_,rfl,rfl⟩;exact d.w8 c
 ·rintro i x σ' H' ys R b _ _ ⟨⟨u,rfl⟩,rfl,rfl⟩ k;refine aA x _ _ (cg b) (k _ _ _ bc #[#[_,Y],(p7 b).symm,B6])
 ·rintro σ' H' ys _ _ ⟨_,rfl,rfl⟩;rw [ky];exact q
end
theorem p3 (Pv:St->aC->Prop) (μ : St->aC->Nat) (h0:Pv σ H)
  (aA:∀ σ H,Pv σ H->c σ H λ b H1=>if b=.t then ∃ N,(∀ σ' H',N σ' H'->∃ a,a<μ σ H/\a = μ σ' H'/\Pv σ' H')/\aQ { D with bg:=N,cG:=N,aN:=D.bg } σ H1 else D.bg σ H1):Bn c aQ D σ H :=
 #[λ m σ H=>m = μ σ H/\Pv σ H,#[_,Y,h0],λ m σ H ⟨e,p⟩=>by subst e;exact aA σ H p]
theorem qB {aQ:c9} {D:Ends} {Pv:St->aC->Prop} {μ: St->aC->Nat} (h:aQ { D with bg:=λ σ' H'=>Pv σ' H' /\ μ σ' H'<m,cG:=λ σ' H'=>Pv σ' H' /\ μ σ' H'<m,aN:=D.bg } σ H1) :
  ∃ N,(∀ σ' H',N σ' H'->∃ c,c<m/\c = μ σ' H'/\Pv σ' H')/\aQ { D with bg:=N,cG:=N,aN:=D.bg } σ H1:=#[_,λ _ _ ⟨a,b⟩=>#[_,b,Y,a],h]
theorem wh (h:0<=i):c7.cy n d (some i)=min i.toNat n:=by
 show (if i<0 then _ else _)=_;rw [if_neg .ak]
theorem IF (h:0<=i):iw xs .n (some i)=xs.take i.toNat:=by
 unfold iw;rw [wh h];show (xs.drop 0).take (min i.toNat xs.length-0)=_;rw [List.drop_zero,Nat.sub_zero];rcases Nat.le_total i.toNat xs.length with g|g
 ·rw [Nat.min_eq_left g]
 ·rw [Nat.min_eq_right g,hU (bL _),hU g]
structure a7 (X:a5) (e:Expr) (t:TE):Prop where
 o:bG X e t
structure h5 (X:a5) (e:Expr) (t:TT):Prop where
 o:h4 X e t
structure dx (X:a5) (e:Expr) (t:TT):Prop where
 o:kI X e t
structure dM (X:a5) (e:List Expr) (t:dh):Prop where
 o:fK X e t
structure e0 (X:a5) (e:Stmt) (t:c9):Prop where
 o:hA X e t
structure f7 (X:a5) (e:List Stmt) (t:c9):Prop where
 o:ie X e t
structure jf (X:a5) (e:Expr) (t:fp):Prop where
 o:je X e t
structure qp (X:a5) (e:List Expr) (t:oL):Prop where
 o:sb X e t
structure ux (X:a5) (e:Option Expr) (t:c1):Prop where
 o:rN X e t
structure uQ (X:a5) (e:List Expr) (t:TT):Prop where
 o:nt X e t
structure iJ (X:a5) (bu e:Expr) (t:TI):Prop where
 o:hz X bu e t
theorem rZ (i) (a:X.N[i]?=some x:=by rfl) (aM:se X.env.scope x:=by first|exact Or.inl Y|exact Or.inr (Or.inl Y)|exact Or.inr (Or.inr Y)) (hd:(x==("__debug__" : Str))=.f:=by decide) (b:(x==("__classdict__" : Str))=.f:=by decide):a7 X (.Name x pos) (AL i) :=
 #[e2 i a aM hd b]
theorem aF {i j pos}:a7 X (.Constant (.int i) j pos) (gN (.int i)) :=
 #[Ux ]
theorem hS {b j pos}:a7 X (.Constant (.bool b) j pos) (gN (.aJ b)) :=
 #[TG ]
theorem e_ {j pos}:a7 X (.Constant .none j pos) (gN .aX) :=
 #[He ]
theorem a9 {x j pos}:a7 X (.Constant (.str x) j pos) (gN (.str x)) :=
 #[UB ]
theorem fZ (a:cI X x) (hm:X.mg x=some u) (r:RelV v u) (hd:(x==("__debug__" : Str))=.f:=by decide):a7 X (.Name x pos) (gN v) :=
 #[BV a hm r hd]
theorem jU (a:cI X x) (hm:∃ t,X.mg x=some (.int i t)) (hd:(x==("__debug__" : Str))=.f:=by decide):a7 X (.Name x pos) (gN (.int i)) :=
 #[XJ a hm hd]
theorem Cm (a:cI X x) (hm:∃ t,X.mg x=some (.str i t)) (hd:(x==("__debug__" : Str))=.f:=by decide):a7 X (.Name x pos) (gN (.str i)) :=
 #[XK a hm hd]
theorem ho (a:cI X x) (hm:X.mg x=.n) (aM:bootBuiltins x=some (.type T)) (aB:x ≠ "__name__" := by decide) (hd:(x==("__debug__" : Str))=.f:=by decide):a7 X (.Name x pos) (gN (.ty T)) :=
 #[TL a hm aM aB hd]
theorem bf (c:cQ X (binaryOp op) r) (au:a7 X a aP) (ae:a7 X b aQ):a7 X (.BinOp a op b pos) (nz r aP aQ) :=
 #[TJ c au.o ae.o]
theorem jF (b:uS X (unaryOp op) r) (au:a7 X a aP):a7 X (.UnaryOp op a pos) (Fm r aP) :=
 #[TM b au.o]
theorem qV {rest:List Expr} (au:a7 X a aP) (ae:a7 X (.BoolOp .And (b::rest) pos) aQ):a7 X (.BoolOp .And (a::b::rest) pos) (vT aP aQ) :=
 #[Uu au.o ae.o]
theorem TQ {rest:List Expr} (au:a7 X a aP) (ae:a7 X (.BoolOp .Or (b::rest) pos) aQ):a7 X (.BoolOp .Or (a::b::rest) pos) (Gg aP aQ) :=
 #[TK au.o ae.o]
theorem pD {op} (h:a7 X a t):a7 X (.BoolOp op [a] pos) t :=
 #[UA h.o]
theorem Hh (au:a7 X a aP):a7 X (.UnaryOp .Not a pos) (GK aP) :=
 #[Uz au.o]
theorem X9 (d:h5 X c e3) (au:a7 X a aP) (ae:a7 X b aQ):a7 X (.IfExp c a b pos) (Fi e3 aP aQ) :=
 #[XM d.o au.o ae.o]
theorem fY (c:cQ X (compareOp op) r) (au:a7 X a aP) (ae:a7 X b aQ) (hm:behindInMarks op b=.f):a7 X (.Compare a [op] [b] pos) (nz r aP aQ) :=
 #[VT c au.o ae.o hm]
theorem Ck (f:cQ X (compareOp op) r) (g:cQ X (compareOp d) h) (au:a7 X a aP) (ae:a7 X b aQ) (e:a7 X c cS) (hm:lastMarks [op,d] [b,c]=.f:=by with_unfolding_all rfl):a7 X (.Compare a [op,d] [b,c] pos) (Hp r h aP aQ cS) :=
 #[XG f g au.o ae.o e.o hm]
theorem Hi {a} (h:dM X ah t):a7 X (.Tuple ah a pos) (Gi t) :=
 #[UC h.o]
theorem tn (h:dM X ah t):a7 X (.List ah pos) (Ge t) :=
 #[Uy h.o]
theorem bO (c:r9 X r) (au:a7 X a aP) (ae:a7 X b aQ) (aA:Hz b):a7 X (.Subscript a b pos) (nz r aP aQ) :=
 #[TH c au.o ae.o aA]
theorem xe {lo:Option Expr} (b:kY X r) (he:a7 X e bx) (a:ux X lo ck) (c:ux X av bC):a7 X (.Subscript e (.Slice lo av .n eE) pos) (Fl r bx ck bC) :=
 #[XP b he.o a.o c.o]
theorem Wh (F:dO X.prog X.w X.K X.mg X.base cx k f fd ag sp) (c:c6 k X.A) (b:cI X x) (hm:X.mg x=some (.ref f)) (ay:PySem.W.keepIn X.K (.ref f)=.t) (ae:Binds X.K fd ag ds) (hd:Vals di ds) (d:Passes cx X E) (au:dM X (e::ah) t) (a:(x==("__debug__" : Str))=.f:=by decide) (he:starEach (e::ah) X.env=(.f,eval e X.env)::starEach ah X.env:=by rfl) (cu:(backTo pos (starEach ah X.env)).any (·.1)=.f:=by rfl):a7 X (.Call (.Name x p) (e::ah) [] pos) (nK sp di E t) :=
 #[VS F c b hm ay ae hd d au.o a he cu]
theorem X4 (F:dO X.prog X.w X.K X.mg X.base cx k f fd ag sp) (c:c6 k X.A) (b:cI X x) (hm:X.mg x=some (.ref f)) (ay:PySem.W.keepIn X.K (.ref f)=.t) (ae:Binds X.K fd ag ds) (hd:Vals di ds) (d:Passes cx X E) (a:(x==("__debug__" : Str))=.f:=by decide):a7 X (.Call (.Name x p) [] [] pos) (nK sp di E lj) :=
 #[XE F c b hm ay ae hd d a]
theorem X5 {id:String} (a:dG X (.builtin id) r) (c:cI X x) (hm:X.mg x=.n) (aM:bootBuiltins x=some (.builtin id)) (au:dM X (e::ah) t) (aB:x ≠ "__name__" := by decide) (b:(x==("__debug__" : Str))=.f:=by decide) (he:starEach (e::ah) X.env=(.f,eval e X.env)::starEach ah X.env:=by rfl) (cu:(backTo pos (starEach ah X.env)).any (·.1)=.f:=by rfl):a7 X (.Call (.Name x p) (e::ah) [] pos) (qA r t) :=
 #[XF a c hm aM au.o aB b he cu]
theorem Zc (a:dG X (.type T) r) (c:cI X x) (hm:X.mg x=.n) (aM:bootBuiltins x=some (.type T)) (au:dM X (e::ah) t) (aB:x ≠ "__name__" := by decide) (b:(x==("__debug__" : Str))=.f:=by decide) (he:starEach (e::ah) X.env=(.f,eval e X.env)::starEach ah X.env:=by rfl) (cu:(backTo pos (starEach ah X.env)).any (·.1)=.f:=by rfl):a7 X (.Call (.Name x p) (e::ah) [] pos) (qA r t) :=
 #[Y6 a c hm aM au.o aB b he cu]
theorem eN {id:String} (h:PlainAttrs T) (slot:Slot T name id) (g:typeOf (.builtin id)=pure (.type "method_descriptor")) (hm:kX X id r) (d:a7 X o to) (au:dM X (e::ah) t) (a:attributeBase o name X.env (eval o X.env)=eval o X.env:=by rfl) (b:((backTo cF (starEach (e::ah) X.env)).all (λ x=> !x.1)&&(backToKw cF (keywordEach [] X.env)).all (λ x=>x.1.isSome)
   && decide ((e::ah).length+([]:List Keyword).length+(if ([]:List Keyword).isEmpty then 0 else 1)<30))=.t:=by rfl) (c:(apos.endLine==cF.line)=.t:=by rfl) (aA:starEach (e::ah) X.env=(.f,eval e X.env)::starEach ah X.env:=by rfl) (f:(backTo cF (starEach ah X.env)).any (·.1)=.f:=by rfl):a7 X (.Call (.Attribute o name apos) (e::ah) [] cF) (Ae X.K T r to t) :=
 #[GB h slot g hm d.o au.o a b c aA f]
theorem Hf {id:String} (e:PlainAttrs T) (slot:Slot T name id) (d:typeOf (.builtin id)=pure (.type "method_descriptor")) (hm:kX X id r) (c:a7 X o to) (a:attributeBase o name X.env (eval o X.env)=eval o X.env:=by rfl) (b:(apos.endLine==cF.line)=.t:=by rfl):a7 X (.Call (.Attribute o name apos) [] [] cF) (F_ X.K T r to) :=
 #[Uv e slot d hm c.o a b]
theorem bq (c:cQ X (compareOp op) r) (au:a7 X a aP) (ae:a7 X b aQ) (hm:behindInMarks op b=.f):h5 X (.Compare a [op] [b] pos) (GN (nz r aP aQ)) :=
 #[Wc c au.o ae.o hm]
theorem eW (au:h5 X a e3):h5 X (.UnaryOp .Not a pos) (Gf e3) :=
 #[UP au.o]
theorem d_ (h:a7 X e t) (he:∀ whole,isTrue e X.env whole=(do let v ← whole;standAt e.pos;holding [v] (truthy v)):=by intro _;rfl):h5 X e (oF t) :=
 #[UQ h.o he]
theorem nU {rest:List Expr} (au:h5 X a e3) (ae:dx X (.BoolOp .And (b::rest) pos) iS):dx X (.BoolOp .And (a::b::rest) pos) (F9 e3 iS) :=
 #[UT au.o ae.o]
theorem n7 (au:h5 X a e3):dx X (.BoolOp .And [a] pos) e3 :=
 #[Wg au.o]
theorem e9 {rest:List Expr} (au:h5 X a e3) (ae:dx X (.BoolOp .Or (b::rest) pos) iS):dx X (.BoolOp .Or (a::b::rest) pos) (Fj e3 iS) :=
 #[TO au.o ae.o]
theorem gn (au:h5 X a e3):dx X (.BoolOp .Or [a] pos) e3 :=
 #[UU au.o]
theorem aq  : dM X [] lj :=
 #[Ut ]
theorem aa (au:a7 X e bx) (a:dM X ah t) (h:noStar e=.t:=by rfl):dM X (e::ah) (A8 bx t) :=
 #[Tb au.o a.o h]
theorem w4  : ux X .n Il :=
 #[V3 ]
theorem w5 (h:a7 X e bx):ux X (some e) (GL bx) :=
 #[V4 h.o]
theorem mZ (a:a7 X l ck):iJ X bu l (Gs X.K ck) :=
 #[V2 a.o]
theorem jK (a:a7 X l ck):iJ X bu l (FN X.K ck) :=
 #[UI a.o]
theorem jc (c:cI X "range") (hm:X.mg "range" = .n) (au:dM X [a] aP) (aA:starEach [a] X.env=[(.f,eval a X.env)]:=by rfl) (b:X.calm=.t:=by rfl):iJ X bu (.Call (.Name "range" p) [a] [] pos) (Gu aP) :=
 #[Y7 c hm au.o aA b]
theorem Ze (d:cI X "range") (hm:X.mg "range" = .n) (au:dM X [a,b] aP) (aA:starEach [a,b] X.env=[(.f,eval a X.env),(.f,eval b X.env)]:=by rfl) (e:starEach [b] X.env=[(.f,eval b X.env)]:=by rfl) (c:X.calm=.t:=by rfl):iJ X bu (.Call (.Name "range" p) [a,b] [] pos) (Gv aP) :=
 #[Y8 d hm au.o aA e c]
theorem lB (e:kE bu=.t) (c:cI X "zip") (hm:X.mg "zip" = .n) (au:dM X [b,a] aP) (aA:starEach [b,a] X.env=[(.f,eval b X.env),(.f,eval a X.env)]:=by rfl) (d:starEach [a] X.env=[(.f,eval a X.env)]:=by rfl) (ae:bootBuiltins "zip" = some (.type "zip"):=by decide +kernel):iJ X bu (.Call (.Name "zip" p) [b,a] [] pos) (FO X.K aP) :=
 #[UJ e c hm au.o aA d ae]
theorem iF (a:X.N.Nodup) (av:X.N[i]?=some x) (b:Loc X.env.scope x) (hf:X.fn x=.t\/X.env.scope.names.lookup x=some .local:=by first|exact .inl Y|exact .inr Y|assumption):jf X (.Name x pos) (e8 i) :=
 #[VZ a av b hf]
theorem hs (a:X.warm=.t) (h:qp X ah t) (aB:(assignEach ah X.env).length=n:=by rfl) (b:(assignEach ah X.env).findIdx? (·.1)=.n:=by rfl):jf X (.Tuple ah k pos) (nC X.K n t) :=
 #[UG a h.o aB b]
theorem tp (c:a7 X o to) (av:a7 X i d) (aA:vA X t) (au:∀ v,assign (.Subscript o i pos) X.env v=(do
   let a ← holding [v] (eval o X.env)
   let b ← holding [v,a] (eval i X.env)
   standAt pos
   holding [v,a,b] (setItem a b v)
   release [v,a,b] []):=by intro _;rfl):jf X (.Subscript o i pos) (FC to d t) :=
 #[UE c.o av.o aA au]
theorem eh  : qp X [] qH :=
 #[V0 ]
theorem cv (af:jf X e t) (ai:qp X ah u) (aA:(assignEach (e::ah) X.env).map (·.2)=assign e X.env::(assignEach ah X.env).map (·.2):=by rfl):qp X (e::ah) (kl t u) :=
 #[XQ af.o ai.o aA]
theorem tr (a:X.N.Nodup) (av:X.N[i]?=some x) (b:Loc X.env.scope x) (he:a7 X e bx) (aA:swapsWith e (some (.Name x pos')) pos.line X.env=pure .f:=by rfl) (hf:X.fn x=.t\/X.env.scope.names.lookup x=some .local:=by first|exact .inl Y|exact .inr Y|assumption):e0 X (.Assign [.Name x pos'] e pos) (mA bx (e8 i)) :=
 #[UO a av b he.o aA hf]
theorem ku (he:a7 X e bx) (a:jf X bu g) (aA:swapsWithSole [bu] e pos.line X.env=pure .f:=by rfl) (hw:swappedStores [bu] e X.env=pure .n:=by rfl) (af:(assignEach [bu] X.env).map (·.2)=[assign bu X.env]:=by rfl):e0 X (.Assign [bu] e pos) (mA bx g) :=
 #[UK he.o a.o aA hw af]
theorem aZ (he:a7 X e bx):e0 X (.Return (some e) pos) (Gh bx) :=
 #[UN he.o]
theorem eY (he:a7 X e bx) (aA:swapsWith e .n pos.line X.env=pure .f:=by rfl):e0 X (.Expr e pos) (GG bx) :=
 #[V9 he.o aA]
theorem bM (d:h5 X c cS) (au:f7 X a t) (ae:f7 X b u):e0 X (.If c a b pos) (Gd cS t u) :=
 #[TN d.o au.o ae.o]
theorem pY (ar:PassesOwn (model X.prog X.w) X.A X.env X.ct) (a:h5 X c cS) (ae:f7 X body aQ):e0 X (.While c body [] pos) (Bn cS aQ) :=
 #[XX ar a.o ae.o]
theorem eI (ar:PassesOwn (model X.prog X.w) X.A X.env X.ct) (a:X.warm=.t) (av:iJ X bu iter c) (b:jf X bu g) (ae:f7 X body aQ) (aA:∀ x,foldedSetIterable iter X.env x=pure x:=by intro _;rfl):e0 X (.For bu iter body [] pos) (Gb c g aQ) :=
 #[UM ar a av.o b.o ae.o aA]
theorem bJ  : f7 X [] GJ :=
 #[Wa ]
theorem aG {st:Stmt} (af:e0 X st t):f7 X [st] t :=
 #[Wb af.o]
theorem aD {rest:List Stmt} {st:Stmt} (af:e0 X st t) (ai:f7 X rest u):f7 X (st::rest) (AK t u) :=
 #[XY af.o ai.o]
theorem ei:uQ X [] h1 :=
 #[Wd ]
theorem BX (a:h5 X c t):uQ X [c] t :=
 #[We a.o]
theorem dx.pt (h:dx X e t):h5 X e t :=
 #[kI.pt h.o]
theorem eA
  (C:nR X scope cl N js) (e:X.warm=.t) (av:iJ X bu iter h)
  (f:∀ a_ pins s H,jf (i6 X scope cl N a_ pins s H λ Z Z=>False) bu g)
  (aI:∀ a_ pins s H,uQ (i6 X scope cl N a_ pins s H λ Z Z=>False) cs cS)
  (he:∀ a_ pins s H,a7 (i6 X scope cl N a_ pins s H λ Z Z=>False) elt bx)
  (aA:∀ x,foldedSetIterable iter X.env x=pure x:=by intro _;rfl):a7 X (.ListComp elt [#[bu,iter,cs,0]] scope pos) (pj js h g cS bx) :=
 #[VU C e av.o (λ a b c d=>(f a b c d).o) (λ a b c d=>(aI a b c d).o) (λ a b c d=>(he a b c d).o) aA]
theorem gy.cp {K:aT} {st:Stmt} (F:gy K x qual st f fd) (S:bF N ag (bk st)) (len:∀ vs H Q E,sp vs H Q E->vs.length=ag.length)
  (c:∀ a0 A outer s H vs Q E,c6 k (A.deeper (envOfC qual (bk st) s.heap.objs.size f a0))->sp vs H Q E ->
   ∃ t,f7 (ix bY P w K mg base N qual (bk st) f a0 A outer s H E).sH (jR st) t/\t { bg:=λ Z H'=>Q .aX H',jo:=Q } (start N vs) H):dO P w K mg base bY (k+1) f fd ag sp :=
 F.ok S len λ a0 A outer s H vs Q E d h=>let ⟨t,a,b⟩:=c a0 A outer s H vs Q E d h;⟨t,a.o,b⟩
theorem cQ.imp (h:cQ X f r) (i:∀ x y H Q,a x y H Q->r x y H Q):cQ X f a:=λ pins s σ H x y v u Q I b c z=>h pins s σ H x y v u Q I b c (i x y H Q z)
theorem dG.imp (h:dG X f r) (i:∀ xs H Q,a xs H Q->r xs H Q):dG X f a:=λ pins s σ H xs us Q I b z=>h pins s σ H xs us Q I b (i xs H Q z)
theorem l6.imp {id:String} (h:l6 X id r) (i:∀ x xs H Q,a x xs H Q->r x xs H Q):l6 X id a:=λ pins s σ H x xs v us Q I b rs z=>h pins s σ H x xs v us Q I b rs (i x xs H Q z)
def e7 (o:fe) (H:aC) (Q:cj):Prop:=∀ p H',H p=.n->ax H H'->H' p=some o->Q (.ref p) H'
theorem e7.at (q:e7 o H Q):∀ p,H p=.n->Q (.ref p) (upd H p o):=λ p ar=>q p _ ar (cb.ax.new ar) bc
def T3 (t:dh):TE:=λ σ H Q=>t σ H λ xs H1=>xs.length<=sizeLine/\e7 (.tup xs) H1 Q
def TZ (t:dh):TE:=λ σ H Q=>t σ H λ xs H1=>xs.length<=sizeLine/\e7 (.lst xs) H1 Q
def Vf:TE:=λ Z H Q=>e7 (.bW []) H Q
section
variable {X:a5}
theorem fx {d} (h:dM X ah t):a7 X (.Tuple ah d pos) (T3 t):=#[by
 intro pins s σ H Q I c;refine wpAny_Tuple_spliced (a8 (h.o pos pins s σ H _ I c) ?_);rintro us s1 ⟨xs,H1,a,r,z,q⟩;refine #[by rw [<-r.length];exact z,?_];have hf:=a.aS.fresh (bL _);refine #[.ref s1.heap.objs.size,upd H1 s1.heap.objs.size (.tup xs),a.laid (λ b u e=>bo _ e) (bL _) ?_,Y,q.at _ hf];exact #[z,us,r,#[_,cN _ Y,Y,#[_,Y],Y]]]
theorem cW (h:dM X ah t):a7 X (.List ah pos) (TZ t):=#[by
 intro pins s σ H Q I c;refine wpAny_List_spliced (a8 (h.o pos pins s σ H _ I c) ?_);rintro us s1 ⟨xs,H1,a,r,z,q⟩;refine #[by rw [<-r.length];exact z,?_];have hf:=a.aS.fresh (bL _);refine #[.ref s1.heap.objs.size,upd H1 s1.heap.objs.size (.lst xs),a.laid (λ b u e=>bo _ e) (bL _) ?_,Y,q.at _ hf];exact #[z,us,0,r,cN _ Y]]
theorem rn:a7 X (.Dict [] [] pos) Vf:=#[λ pins s σ H Q I h=>VV pins s σ H Q I (e7.at h)]
inductive Hk:gu
 |mk {x y H Q} (l b xs zs):x=.ref l->y=.ref b->H l=some (.lst xs)->H b=some (.lst zs)->xs.length+zs.length<=sizeLine->e7 (.lst (xs++zs)) H Q->Hk x y H Q
theorem tT:cQ X (binaryOp .Add) Hk:=Us.imp (by rintro x y H Q ⟨l,b,xs,zs,a,c,af,ai,d,q⟩;exact #[l,b,xs,zs,a,c,af,ai,d,q.at])
def U2:gu:=λ x y H Q=>∃ l k xs,x=.ref l/\y=.int k/\H l=some (.tup xs)/\xs≠[]/\2<=k/\k<2 ^ 63/\xs.length*k.toNat<=sizeLine/\e7 (.tup (List.replicate k.toNat xs).flatten) H Q
theorem XD:cQ X (binaryOp .Mult) U2:=VP.imp (by rintro x y H Q ⟨l,k,xs,a,b,af,ai,c,d,e,q⟩;exact #[l,k,xs,a,b,af,ai,c,d,e,q.at])
def U1:gu:=λ x y H Q=>∃ l k xs,x=.ref l/\y=.int k/\H l=some (.lst xs) /\ -(2 ^ 63)<=k/\k<2 ^ 63/\xs.length*k.toNat<=sizeLine/\e7 (.lst (List.replicate k.toNat xs).flatten) H Q
theorem I3:cQ X (binaryOp .Mult) U1:=Hd.imp (by rintro x y H Q ⟨l,k,xs,a,b,af,ai,c,d,q⟩;exact #[l,k,xs,a,b,af,ai,c,d,q.at])
inductive NH (K:aT):bj->aC->cj->Prop
 |mk {xs H Q} (p ys):xs=[.ref p]->aK K H p ys->e7 (.tup ys) H Q->NH K xs H Q
theorem m4:dG X (.type "tuple") (NH X.K):=rJ.imp (by rintro xs H Q ⟨p,ys,e,h,q⟩;exact #[p,ys,e,.inl #[h,q.at]])
inductive I_:V->bj->aC->cj->Prop
 |mk {x vs H Q} (l xs y):x=.ref l->vs=[y]->H l=some (.lst xs)->xs.length<sizeLine->(∀ H',cb.br l H H'->H' l=some (.lst (xs++[y]))->Q .aX H')->I_ x vs H Q
theorem lN:l6 X "list.append" I_:=CH.imp (by rintro x vs H Q ⟨l,xs,y,a,b,af,ai,q⟩;exact #[l,xs,y,a,b,af,ai,q _ cb.br.upd bc])
end
end bt
namespace cb
open PySem bt
def jA (H H':aC):Prop:=∀ b o,H b=some o->H' b=some o\/∃ xs ys,o=.lst xs/\H' b=some (.lst ys)
theorem jA.of (s:ax H H'):jA H H':=λ b o h=>.inl (s b o h)
theorem jA.tup (k:jA H H') (h:H b=some (.tup xs)):H' b=some (.tup xs):=by
 rcases k b _ h with z|⟨_,_,e,_⟩
 ·exact z
 ·cases e
theorem jA.kind (s:jA H H') (k:eH H v):eH H' v:=by
 cases v with
 | ref a =>
  rcases k with ⟨xs,e⟩|⟨xs,e⟩|⟨kvs,e⟩
  ·exact .inl #[xs,s.tup e]
  ·rcases s _ _ e with z|⟨_,ys,_,z⟩
   ·exact .inr (.inl #[xs,z])
   ·exact .inr (.inl #[ys,z])
  ·rcases s _ _ e with z|⟨_,ys,w,z⟩
   ·exact .inr (.inr #[kvs,z])
   ·cases w
 | aX=>trivial
 | aJ b=>trivial
 | int i=>trivial
 | str x=>trivial
 | ij b=>exact False.elim k
 | gO b=>exact False.elim k
 | ty b=>exact False.elim k
theorem jA.et (s:jA H H') (k:eH H v):cb.et H' v=cb.et H v:=by
 cases v with
 | ref a =>
  rcases k with ⟨xs,e⟩|⟨xs,e⟩|⟨kvs,e⟩
  ·show kj (H' a)=kj (H a);rw [s.tup e,e]
  ·show kj (H' a)=kj (H a);rcases s _ _ e with z|⟨_,ys,_,z⟩<;>rw [z,e]<;>rfl
  ·show kj (H' a)=kj (H a);rcases s _ _ e with z|⟨_,ys,w,z⟩
   ·rw [z,e]
   ·cases w
 | _=>rfl
def fO (H:aC) (v:V):Prop:=eH H v/\∀ xs,et H v=some xs->xs.length<=1000/\∀ x∈xs,eH H x
def Al (H:aC) (v:V):Prop:=eH H v/\∀ xs,et H v=some xs->xs.length<=1000/\∀ x∈xs,fO H x
theorem jA.fO (s:jA H H') (k:cb.fO H v):cb.fO H' v:=by
 obtain ⟨k,aW⟩:=k;refine #[s.kind k,λ xs e=>?_];rw [s.et k] at e;obtain ⟨l,m⟩:=aW xs e;exact #[l,λ x a=>s.kind (m x a)]
section
variable {H:aC} {p:Addr} {xs:bj}
theorem IU (h:H p=some (.tup xs)):eH H (.ref p):=.inl #[xs,h]
theorem xa (h:H p=some (.tup xs)) (l:xs.length<=1000) (m:∀ x∈xs,eH H x):fO H (.ref p):=#[IU h,λ ys e=>by rw [lK h] at e;cases e;exact #[l,m]]
theorem WQ (h:H p=some (.tup xs)) (l:xs.length<=1000) (m:∀ x∈xs,fO H x):Al H (.ref p):=#[IU h,λ ys e=>by rw [lK h] at e;cases e;exact #[l,m]]
theorem all2 {α: Type} {p: α -> Prop} {x y: α} (a:p x) (b:p y):∀ z∈[x,y],p z:=jO.mpr #[a,jO.mpr #[b,dV _]]
end
end cb
namespace bt
open PySem PySem.Spec PyProof.Rows
section
variable {κ: Type} [DecidableEq κ]
noncomputable def b7 (kvs:List (κ×V)) (k : κ):e6:=(kvs.find? λ a=>decide (a.1=k)).map (·.2)
noncomputable def putK (kvs:List (κ×V)) (k : κ) (v:V):List (κ×V) :=
 if (kvs.any λ a=>decide (a.1=k))=.t then kvs.map (λ a=>if a.1=k then (a.1,v) else a) else kvs++[(k,v)]
noncomputable def mD (kvs:List (κ×V)) (k : κ):List (κ×V):=kvs.filter λ a=>decide (a.1≠k)
theorem jW {p: κ×V} {r:List (κ×V)} {k: κ} (e:p.1=k):b7 (p::r) k=some p.2:=by simp [b7,pL,e]
theorem ja {p: κ×V} {r:List (κ×V)} {k: κ} (e:¬ p.1=k):b7 (p::r) k=b7 r k:=by simp [b7,pL,e]
theorem xh (k : κ):∀ kvs:List (κ×V),(kvs.any λ a=>decide (a.1=k))=(b7 kvs k).isSome
 | []=>rfl
 | p::r=>by
  rw [pJ];by_cases e:p.1=k
  ·simp only [jW e,bP e,Bool.true_or,Option.isSome_some]
  ·rw [ja e,cK e,Bool.false_or];exact xh k r
theorem Jv (k j : κ) (y:V):∀ kvs:List (κ×V),b7 (kvs.map λ a=>if a.1=k then (a.1,y) else a) j=(b7 kvs j).map λ x=>if j=k then y else x
 | []=>rfl
 | p::r=>by
  have b:=Jv k j y r;rw [fv];by_cases h:p.1=k
  ·rw [if_pos h];by_cases e:p.1=j
   ·rw [jW (p:=(p.1,y)) e,jW e,Option.map_some,if_pos (e.symm.trans h)]
   ·rw [ja (p:=(p.1,y)) e,ja e,b]
  ·rw [if_neg h];by_cases e:p.1=j
   ·rw [jW e,jW e,Option.map_some,if_neg (λ z=>h (e.trans z))]
   ·rw [ja e,ja e,b]
theorem KA (k j : κ) (y:V):∀ kvs:List (κ×V),b7 kvs k=.n->b7 (kvs++[(k,y)]) j=if j=k then some y else b7 kvs j
 | [],_=>by
  by_cases e:k=j
  ·rw [if_pos e.symm];exact jW e
  ·rw [if_neg (λ z=>e z.symm)];exact ja e
 | p::r,aB=>by
  rw [List.cons_append];have ay:¬ p.1=k:=λ z=>by rw [jW z] at aB;cases aB
  rw [ja ay] at aB;have a:=KA k j y r aB;by_cases e:p.1=j
  ·rw [jW e,jW e,if_neg (λ z=>ay (e.trans z))]
  ·rw [ja e,ja e,a]
theorem xi (kvs:List (κ×V)) (k j : κ) (y:V):b7 (putK kvs k y) j=if j=k then some y else b7 kvs j:=by
 unfold putK;by_cases a:(kvs.any λ c=>decide (c.1=k))=.t
 ·rw [if_pos a,Jv];rw [xh] at a;by_cases e:j=k
  ·obtain ⟨x,b⟩:=tc.mp a;rw [if_pos e,e,b,Option.map_some,if_pos rfl]
  ·rw [if_neg e];cases b7 kvs j with
   | none=>rfl
   | some x=>rw [Option.map_some,if_neg e]
 ·rw [if_neg a];refine KA k j y kvs ?_;rw [xh] at a;cases q:b7 kvs k with
  | none=>rfl
  | some x=>rw [q] at a;exact (a Y).elim
theorem C2 (kvs:List (κ×V)) (k : κ) (v:V):(putK kvs k v).length<=kvs.length+1:=by
 unfold putK;split
 ·rw [bb];omega
 ·rw [dn,fW,List.length_nil];omega
theorem fP.t2 (r:fP o u):o.isSome=u.isSome:=by
 cases o with
 | none=>cases u with
  | none=>rfl
  | some _=>exact r.elim
 | some _=>cases u with
  | none=>exact r.elim
  | some _=>rfl
theorem fP.getD (r:fP o u) (dk:RelV d a):RelV (o.getD d) (u.getD a):=by
 cases o with
 | none=>cases u with
  | none=>exact dk
  | some _=>exact r.elim
 | some _=>cases u with
  | none=>exact r.elim
  | some _=>exact r
theorem fz.val {kvs:List (κ×V)} {vs:List (κ×Value)} (r:fz kvs vs) (k : κ):fP (b7 kvs k) (valueAt vs k):=by
 induction r with
 | nil=>exact True.intro
 | @cons p q ag c h t d =>
  obtain ⟨af,ai⟩:=h;by_cases e:p.1=k
  ·have a:=af.symm.trans e;have b:valueAt (q::c) k=some q.2:=by simp [valueAt,pL,a]
   rw [jW e,b];exact ai
  ·have a:¬ q.1=k:=λ z=>e (af.trans z)
   have b:valueAt (q::c) k=valueAt c k:=by simp [valueAt,pL,a]
   rw [ja e,b];exact d
theorem fz.any {kvs:List (κ×V)} {vs:List (κ×Value)} (r:fz kvs vs) (k : κ):(kvs.any λ a=>decide (a.1=k))=vs.any λ a=>decide (a.1=k):=by
 induction r with
 | nil=>rfl
 | cons h t b=>rw [pJ,pJ,b,h.1]
theorem fz.o8 {kvs:List (κ×V)} {vs:List (κ×Value)} (r:fz kvs vs) (k : κ) {y:V} {u:Value} (c:RelV y u) :
  fz (kvs.map λ a=>if a.1=k then (a.1,y) else a) (vs.map λ a=>if a.1=k then (a.1,u) else a):=by
 induction r with
 | nil=>exact .nil
 | @cons p q ag d h t b =>
  rw [fv,fv];refine .cons ?_ b;obtain ⟨af,ai⟩:=h;by_cases e:p.1=k
  ·rw [if_pos e,if_pos (af.symm.trans e)];exact #[af,c]
  ·rw [if_neg e,if_neg (λ z=>e (af.trans z))];exact #[af,ai]
theorem fz.put {kvs:List (κ×V)} {vs:List (κ×Value)} (r:fz kvs vs) (k : κ) {y:V} {u:Value} (a:RelV y u):fz (putK kvs k y) (stored vs k u):=by
 unfold putK stored;rw [r.any k];by_cases e:(vs.any λ b=>decide (b.1=k))=.t
 ·rw [if_pos e,if_pos e];exact r.o8 k a
 ·rw [if_neg e,if_neg e];exact Paired.snoc r #[Y,a]
theorem fz.drop {kvs:List (κ×V)} {vs:List (κ×Value)} (r:fz kvs vs) (k : κ):fz (mD kvs k) (without vs k):=by
 unfold mD without
 induction r with
 | nil=>exact .nil
 | @cons p q ag f h t c =>
  obtain ⟨af,ai⟩:=h;rw [List.filter_cons,List.filter_cons];by_cases e:p.1=k
  ·have a:¬ decide (p.1≠k)=.t:=by simp [e]
   have b:¬ decide (q.1≠k)=.t:=by simp [af.symm.trans e]
   rw [if_neg a,if_neg b];exact c
  ·have d:¬ q.1=k:=λ z=>e (af.trans z)
   have a:decide (p.1≠k)=.t:=by simp [e]
   have b:decide (q.1≠k)=.t:=by simp [d]
   rw [if_pos a,if_pos b];exact .cons #[af,ai] c
theorem fz.keys {kvs:List (κ×V)} {vs:List (κ×Value)} (r:fz kvs vs):kvs.map (·.1)=vs.map (·.1):=by
 induction r with
 | nil=>rfl
 | cons h t a=>rw [fv,fv,a,h.1]
theorem fz.length {kvs:List (κ×V)} {vs:List (κ×Value)} (r:fz kvs vs):kvs.length=vs.length:=Paired.length r
theorem W8 (kvs:List (κ×V)) (k : κ):(mD kvs k).length<=kvs.length:=List.length_filter_le _ _
end
theorem qO (r:RelV (c_ k) u):(g7 P w).is k u=.t:=by
 cases k with
 | inl i=>obtain ⟨t,e⟩:=r;subst e;exact LD P w i t
 | inr x=>obtain ⟨t,e⟩:=r;subst e;exact LF P w x t
theorem J3:∀ {ks:List Key} {us:List Value},Vals (ks.map c_) us->ItemsAre (g7 P w) ks us
 | [],_,r=>by rw [List.map_nil] at r;cases r;exact .nil
 | k::ks,_,r=>by
  rw [fv] at r;cases r with
  | cons h t=>exact .cons (qO h) (J3 t)
abbrev KT (H:aC):List (List Key×V)->List (List Key×Addr×Value)->Prop:=Paired λ p q=>p.1=q.1/\H q.2.1=some (.tup (p.1.map c_))/\RelV p.2 q.2.2
theorem KT.val (r:KT H kvs xs) (k):fP (b7 kvs k) ((atKey xs k).map (·.2)):=by
 induction r with
 | nil=>exact True.intro
 | @cons p q ag c h t d =>
  obtain ⟨af,_,ai⟩:=h;by_cases e:p.1=k
  ·have a:=af.symm.trans e;have b:atKey (q::c) k=some q.2:=by simp [atKey,pL,a]
   rw [jW e,b];exact ai
  ·have a:¬ q.1=k:=λ z=>e (af.trans z)
   have b:atKey (q::c) k=atKey c k:=by simp [atKey,pL,a]
   rw [ja e,b];exact d
theorem KT.o8 (r:KT H kvs xs) (k) (d:RelV y u) :
  KT H (kvs.map λ a=>if a.1=k then (a.1,y) else a) (xs.map (putAt k u)):=by
 induction r with
 | nil=>exact .nil
 | @cons p q ag f h t c =>
  rw [fv,fv];refine .cons ?_ c;obtain ⟨af,ai,b⟩:=h;unfold putAt;by_cases e:p.1=k
  ·rw [if_pos e,if_pos (af.symm.trans e)];exact #[af,ai,d]
  ·rw [if_neg e,if_neg (λ z=>e (af.trans z))];exact #[af,ai,b]
theorem KT.put (r:KT H kvs xs) (k) (ae:H b=some (.tup (k.map c_))) (a:RelV y u) :
  KT H (putK kvs k y) (storedH xs k b u):=by
 have e:(kvs.any λ c=>decide (c.1=k))=(atKey xs k).isSome:=by
  rw [xh,(r.val k).t2,Option.isSome_map]
 unfold putK storedH;rw [e];by_cases q:(atKey xs k).isSome=.t
 ·rw [if_pos q,if_pos q];exact r.o8 k a
 ·rw [if_neg q,if_neg q];exact Paired.snoc r #[Y,ae,a]
theorem KT.keeps (r:KT H kvs xs) (aI:∀ b ys,H b=some (.tup ys)->H' b=some (.tup ys)):KT H' kvs xs :=
 Paired.FP r λ Z Z z=>#[z.1,aI _ _ z.2.1,z.2.2]
section
variable {P:Program} {w:World} {H:aC} {h:Heap} {a:Addr}
theorem GD (ok:dt P w H h) (e:c8 H a u):eg P w H h a u:=e.ok ok
theorem mC (ok:dt P w H h) (e:c8 H a (.bW kvs)):kvs.length<=sizeLine/\(a==sysModules)=.f/\∃ vs,fz kvs vs/\h.DictOf (g7 P w) a vs :=
 show eg P w H h a (.bW kvs) from GD ok e
theorem qN (ok:dt P w H h) (e:H a=some (.bW kvs)):kvs.length<=sizeLine/\(a==sysModules)=.f/\∃ vs,fz kvs vs/\h.DictOf (g7 P w) a vs:=mC ok (.inl e)
theorem ti (ok:dt P w H h) (e:H a=some (.tup (ks.map c_))):(tupleKind (g7 P w)).is h ks a:=by
 obtain ⟨_,c,r,o,af,ai,⟨n,b⟩,_⟩:=(ok a _ e)
 exact #[o,c.toArray,n,af,ai,b,by simpa using J3 r]
theorem sZ (ok:dt P w H h) (e:c8 H a (.eK kvs)):kvs.length<=sizeLine/\(a==sysModules)=.f /\
  ∃ xs,KT H kvs xs/\h.DictOfH (tupleKind (g7 P w)) a xs:=by
 obtain ⟨z,y,xs,r,o,ah,d,af,ai,f,g,i⟩:=(GD ok e)
 refine #[z,y,xs,r,o,ah,d,af,ai,f,g,λ x b=>?_,i];have all:∀ {l:List (List Key×V)} {m:List (List Key×Addr×Value)},KT H l m->∀ x∈m,(tupleKind (g7 P w)).is h x.1 x.2.1:=by
  intro l m q
  induction q with
  | nil=>intro x b;exact nomatch b
  | @cons p q ag k c t j =>
   intro x b;rcases b5.mp b with e|b
   ·subst e;exact ti ok (by rw [<-c.1];exact c.2.1)
   ·exact j x b
 exact all r x b
theorem Tr (ok:dt P w H h) (e:H a=some (.eK kvs)):kvs.length<=sizeLine/\(a==sysModules)=.f /\
  ∃ xs,KT H kvs xs/\h.DictOfH (tupleKind (g7 P w)) a xs:=sZ ok (.inl e)
end
def hO (H:aC) (a:Addr) (y:V) (r:e6):Prop :=
 (∃ kvs k,c8 H a (.bW kvs)/\y=c_ k/\r=b7 kvs k)\/∃ kvs k b,c8 H a (.eK kvs)/\y=.ref b/\H b=some (.tup (k.map c_))/\r=b7 kvs k
def nA (H:aC) (a:Addr) (y v:V) (H':aC):Prop :=
 (∃ kvs k,H a=some (.bW kvs)/\y=c_ k/\kvs.length<sizeLine/\H'=upd H a (.bW (putK kvs k v))) \/
 ∃ kvs k b,H a=some (.eK kvs)/\y=.ref b/\H b=some (.tup (k.map c_))/\kvs.length<sizeLine/\H'=upd H a (.eK (putK kvs k v))
theorem hO.k {k:Key} (e:H a=some (.bW kvs)):hO H a (c_ k) (b7 kvs k):=.inl #[kvs,k,.inl e,Y,Y]
theorem hO.t {k:List Key} (e:H a=some (.eK kvs)) (c:H b=some (.tup (k.map c_))):hO H a (.ref b) (b7 kvs k):=.inr #[kvs,k,b,.inl e,Y,c,Y]
theorem nA.k {k:Key} (e:H a=some (.bW kvs)) (b:kvs.length<sizeLine):nA H a (c_ k) v (upd H a (.bW (putK kvs k v))):=.inl #[kvs,k,e,Y,b,Y]
theorem nA.t {k:List Key} (e:H a=some (.eK kvs)) (c:H b=some (.tup (k.map c_))) (d:kvs.length<sizeLine) :
  nA H a (.ref b) v (upd H a (.eK (putK kvs k v))):=.inr #[kvs,k,b,e,Y,c,d,Y]
section
variable {X:a5} {pins:eP} {σ:St} {H:aC} {s:Shared} {a:Addr} {y v:V} {u r:Value} {o:e6} {A:Around} {E:dc}
theorem Inv.big (I:Inv X pins σ H s):sysModules<s.heap.objs.size:=by
 have h:=(I.mod.glob.keeps I.aN).lt;exact Nat.lt_trans .aw h
theorem Cz (j:A.units+1<cLine) (I:Inv X pins σ H s) (g:hO H a y (some v)) (d:RelV y u) (h:∀ cm s',Inv X pins σ H s'->RelV v cm->Q cm s') :
  wpAny (model X.prog X.w) A (getItem (.ref a) u) Q E s:=by
 rcases g with ⟨kvs,k,e,c,l⟩|⟨kvs,k,b,e,c,f,l⟩
 ·subst c;obtain ⟨z,hd,vs,rel,dd⟩:=mC I.aS e;obtain ⟨cm,hw,cU⟩:=fP.some_of (by rw [l];exact rel.val k);exact wpAny_getItem_of (qO d) dd.mapOf hw (h cm _ (I.tok _) cU)
 ·subst c;cases d;obtain ⟨z,hd,xs,rel,dd⟩:=sZ I.aS e;obtain ⟨cm,hw,cU⟩:=fP.some_of (by rw [l];exact rel.val k);obtain ⟨p,ar,i⟩:=tC.mp hw;refine wpAny_getItem_heap (wA j) (ti I.aS f) dd ar ?_;rw [i];exact h cm _ (I.tok _) cU
theorem Sn (i:A.units+1<cLine) (I:Inv X pins σ H s) (g:hO H a y o) (d:RelV y u) (h:∀ s',Inv X pins σ H s'->Q (.bool o.isSome) s') :
  wpAny (model X.prog X.w) A (compareOp .In u (.ref a)) Q E s:=by
 rcases g with ⟨kvs,k,e,c,l⟩|⟨kvs,k,b,e,c,f,l⟩
 ·subst c;obtain ⟨z,hd,vs,rel,dd⟩:=mC I.aS e;refine wpAny_in_of (qO d) hd dd.mapOf ?_;rw [<-(rel.val k).t2,<-l];exact h _ (I.tok _)
 ·subst c;cases d;obtain ⟨z,hd,xs,rel,dd⟩:=sZ I.aS e;refine wpAny_in_heap (wA i) (ti I.aS f) hd dd ?_;have q:=(rel.val k).t2;rw [Option.isSome_map] at q;rw [<-q,<-l];exact h _ (I.tok _)
theorem HG (i:A.units+1<cLine) (I:Inv X pins σ H s) (g:hO H a y o) (d:RelV y u) (h:∀ s',Inv X pins σ H s'->Q (.bool (!o.isSome)) s') :
  wpAny (model X.prog X.w) A (compareOp .NotIn u (.ref a)) Q E s:=by
 rcases g with ⟨kvs,k,e,c,l⟩|⟨kvs,k,b,e,c,f,l⟩
 ·subst c;obtain ⟨z,hd,vs,rel,dd⟩:=mC I.aS e;refine wpAny_notIn_of (qO d) hd dd.mapOf ?_;rw [<-(rel.val k).t2,<-l];exact h _ (I.tok _)
 ·subst c;cases d;obtain ⟨z,hd,xs,rel,dd⟩:=sZ I.aS e;refine wpAny_notIn_heap (wA i) (ti I.aS f) hd dd ?_;have q:=(rel.val k).t2;rw [Option.isSome_map] at q;rw [<-q,<-l];exact h _ (I.tok _)
theorem BJ (I:Inv X pins σ H s) (c:r_ (H a)) (aA:Heap.SameBut a s.heap h') (he:∃ q,h'.get? a=some q) (new:eg X.prog X.w (upd H a bQ) h' a bQ) :
  Inv X pins σ (upd H a bQ) { s with heap:=h',toks:=t' } :=
 I.write c (.inl Y) (λ b q ae z=>(aA.2 b ae).trans z) he new
theorem Bg (z:kvs.length<=sizeLine) (hd:(a==sysModules)=.f) (rel:fz kvs vs) (dd:h'.DictOf (g7 P w) a vs) :
  eg P w H' h' a (.bW kvs):=#[z,hd,vs,rel,dd]
theorem CA (G:A.units+1<cLine) (I:Inv X pins σ H s) (g:nA H a y v H') (t:RelV y u) (p:RelV v r) (h:∀ s',Inv X pins σ H' s'->Q () s') :
  wpAny (model X.prog X.w) A (setItem (.ref a) u r) Q E s:=by
 rcases g with ⟨kvs,k,e,i,l,f⟩|⟨kvs,k,b,e,i,m,l,f⟩
 ·subst i f;obtain ⟨z,hd,vs,rel,dd⟩:=qN I.aS e;have J:vs.length<=sizeLine:=by rw [<-rel.length];exact z
  have j:(putK kvs k v).length<=sizeLine:=by have:=C2 kvs k v;omega
  refine wpAny_setItem_pairs (qO t) dd λ h' ju aA=>h _ ?_
  have he:∃ q,h'.get? a=some q:=let ⟨q,_,_,d,_⟩:=ju;⟨q,d⟩
  exact BJ I (by rw [e];exact True.intro) aA he (Bg j hd (rel.put k p) ju)
 ·subst i f;cases t;obtain ⟨z,hd,xs,rel,dd⟩:=Tr I.aS e;have J:xs.length<=sizeLine:=by rw [<-Paired.length rel];exact z
  have j:(putK kvs k v).length<=sizeLine:=by have:=C2 kvs k v;omega
  refine wpAny_setItem_heap (wA G) (ti I.aS m) dd λ h' ju aA=>h _ ?_
  obtain ⟨q,ah,x,d,ai,B,C,_,D⟩:=ju;refine BJ I (by rw [e];exact True.intro) aA #[q,d] #[j,hd,_,(rel.put k m p).keeps λ c ys n=>?_,q,ah,x,d,ai,B,C,D];rw [a3 (cq n e (λ z=>nomatch z))];exact n
end
section
variable {X:a5} {pins:eP} {σ:St} {H:aC} {s:Shared} {a:Addr} {kvs:List (Key×V)} {k:Key} {u:Value} {A:Around} {E:dc}
theorem Tq (I:Inv X pins σ H s) (e:H a=some (.bW kvs)) (b:RelV (c_ k) u) (l:b7 kvs k=some v) (hm:more=[]\/∃ x,more=[x])
  (h:∀ cm s',Inv X pins σ (upd H a (.bW (mD kvs k))) s'->RelV v cm->Q cm s'):wpAny (model X.prog X.w) A (call (.builtin "dict.pop") (.ref a::u::more)) Q E s:=by
 obtain ⟨z,hd,vs,rel,dd⟩:=qN I.aS e;obtain ⟨cm,hw,cU⟩:=fP.some_of (by rw [<-l];exact rel.val k);have ar:(keyPart u).isSome=.t:=by
  cases k with
  | inl i=>obtain ⟨t,q⟩:=b;subst q;rfl
  | inr x=>obtain ⟨t,q⟩:=b;subst q;rfl
 have au:argsOk "dict.pop" ⟨.ref a::u::more,[]⟩:=by
  rcases hm with q|⟨x,q⟩
  ·subst q;exact PySem.F.args_dict_pop_2 _ _
  ·subst q;exact PySem.F.args_dict_pop_3 _ _ _
 refine tD Bw dd.typeIs PySem.F.entry_dict_pop au (meets_dict_pop_there (g7 X.prog X.w) a (qO b) more hm ar)
  #[vs,cm,dd,by rw [<-rel.length];exact z,hw,λ h' ju aA=>h cm _ ?_ cU]
 have he:∃ q,h'.get? a=some q:=let ⟨q,_,_,c,_⟩:=ju;⟨q,c⟩
 exact BJ I (by rw [e];exact True.intro) aA he (Bg (dT (W8 kvs k) z) hd (rel.drop k) ju)
theorem Gl (I:Inv X pins σ H s) (e:c8 H a (.bW kvs)) (h:∀ t s',Inv X pins σ H s'->Q (.int kvs.length t) s'):wpAny (model X.prog X.w) A (call (.builtin "len") [.ref a]) Q E s:=by
 obtain ⟨z,hd,vs,rel,dd⟩:=mC I.aS e;refine call_len_dict hd dd (by rw [<-rel.length];rw [b8] at z;omega) ?_;rw [<-rel.length];exact h _ _ (I.tok _)
end
def vz (i:Expr):Prop:=∀ b a,subscripted i .f b a=operate [b,a] (getItem b a)
theorem B2 {id:String}
  (a:typeLookup (.type T) "__getitem__" = pure (some (.builtin id))) (aA:vz slice)
  (h:wpAny (model prog w) A (eval value env) (λ o s₁=>wpAny (model prog w) A (eval slice env) (λ i s₂=>s₂.TypeIs o T/\wpAny (model prog w) A (getItem o i) Q E s₂) E s₁) E s) :
  wpAny (model prog w) A (eval (.Subscript value slice pos) env) Q E s:=by
 refine Subscript_ (eU h (λ o s₁ h₁=>eU h₁ (λ i s₂ h₂=>?_) λ Z Z x=>x) λ Z Z x=>x);obtain ⟨bA,h₂⟩:=h₂;refine az ?_;rw [getitemInPython_of_ne bA.not_modules];refine az (vX bA a ?_);have fin:wpAny (model prog w) A (subscripted slice .f o i) (λ r s₃=>wpAny (model prog w) A (letTemporaryGo value o r>>=λ Z=>pure r) Q E s₃) E s₂:=by
  rw [aA o i];exact wpAny_operating (eU h₂ (λ r s₃ h₃=>az (wpAny_letTemporaryGo (bl h₃))) λ Z Z x=>x)
 exact bl (az fin)
theorem C0 {σ:St} (I:Inv X pins σ H s) (g:hO H a y o):s.TypeIs (.ref a) "dict" := by
 rcases g with ⟨kvs,k,e,_,_⟩|⟨kvs,k,b,e,_,_,_⟩
 ·obtain ⟨_,_,vs,_,dd⟩:=mC I.aS e;exact dd.typeIs
 ·obtain ⟨_,_,xs,_,dd⟩:=sZ I.aS e;exact dd.typeIs
theorem W9 (h:Heap) (ae:sysModules<h.objs.size):eg P w H (h.push { cls:=.type "dict", data:=.dict #[] }) h.objs.size (.eK []) :=
 #[fE _,nN.mpr (eT (cR ae)),[],.nil,_,#[],0,cN _ Y,#[Y,Y,Y],Y,Y,List.nodup_nil]
def Vg:TE:=λ Z H Q=>∀ p,H p=.n->Q (.ref p) (upd H p (.eK []))
section
variable {X:a5} {pos:Pos}
theorem XI:bG X (.Dict [] [] pos) Vg:=λ pins s σ H Q I h =>
 wpAny_Dict_empty #[.ref s.heap.objs.size,_,I.laid (λ Z Z q=>bo _ q) (bL _) (W9 s.heap I.big),Y,h _ (I.aS.fresh (bL _))]
end
theorem fH {st:Stmt}:e0 X st Hq:=#[XU]
noncomputable def r8 (a:Addr):g_ :=
 #[λ i H=>∃ xs x,H a=some (.lst xs)/\xs[i]?=some x,
 λ i H v H'=>∃ p,H p=.n/\v=.ref p/\∃ x,H'=upd H p (.tup [.int i,x])/\∀ xs,H a=some (.lst xs)->xs[i]?=some x,
 λ i H=>∃ xs,H a=some (.lst xs)/\xs.length<=i]
theorem Zo {K:aT} (sz:kE bu=.t) (B:e≠it) :
  Turn P w K DD bu (r8 a) [e,it] e (λ i h=>(∃ old,IsEnum h e it (i:Int) old)/\h.IsListIter it a i) where
 mem:=dI
 obj:=λ i h st c j=>by
  obtain ⟨⟨old,af⟩,⟨y,b,_,S⟩⟩:=st;have D:∀ {o:Obj} {vs:ec},o.data=.fields vs->∀ v,o.data≠.cell v:=λ e v q=>by rw [e] at q;cases q
  simp only [b5,dA,dB] at j;rcases j with rfl|rfl
  ·exact #[_,af,D Y]
  ·exact #[_,b,D S]
 keep:=λ i h h' st k=>by
  obtain ⟨⟨old,af⟩,⟨y,b,oD⟩⟩:=st;exact #[#[old,k _ .zs _ af],#[y,k _ .zs _ b,oD]]
 item:=by
  intro X r hw p su j i pins s σ H E I hf st u;subst r hw p;obtain ⟨⟨old,af⟩,b⟩:=st;obtain ⟨xs,x,l,C⟩:=u;obtain ⟨z,sD,n,G,hlen,m⟩:=I.fQ l;obtain ⟨J,T,sJ⟩:=G.get C;refine wpAny_pyNext_enum_item af b (#[_,m,Y,n,Y]) (by simpa using T) B λ g M N O fA Q=>?_
  refine #[_,Y,?_];have elt:=bZ af;cases bu with
  | Tuple ah gM pp =>
   refine wpAny_letOwnedTupleGo_enum M λ aU R A=>?_
   have new:=A.extBut _ _ (hq elt) O;have L:Inv X pins σ (upd H s.heap.objs.size (.tup [.int i,x])) { s with heap:=aU,toks:=s.toks+1 }:=by
    refine I.CR (λ c o d f=>?_) hf (bL _) #[by show 2<=sizeLine;decide,[.int i s.toks,J],.cons #[_,Y] (.cons sJ .nil),#[_,new,Y,#[0,Y],Y]];simp only [b5,dA,dB,not_or] at d;exact A.extBut c o d.1 (Q c o d.1 d.2 f)
   refine #[.ref s.heap.objs.size,_,L,Y,#[_,I.fresh,Y,x,Y,λ Fo aO=>?_],#[#[J,?_],N.extBut A.extBut B.symm],λ c t=>?_]
   ·rw [l] at aO;cases aO;exact C
   ·rw [show (i+1:Nat)=i+1 by omega];exact R
   ·obtain ⟨o,f⟩:∃ o,s.heap.get? c=some o:=by
     simp only [b5,dA,dB] at t;rcases t with rfl|rfl
     ·exact #[_,af]
     ·obtain ⟨y,Z,_⟩:=b;exact #[_,Z]
    rw [a3 (cR (bZ f))];exact (hf c t).1
  | _=>exact absurd sz dP
 done:=by
  intro X r hw p su j i pins s σ H E I hf st u;subst r hw p;obtain ⟨⟨old,af⟩,b⟩:=st;obtain ⟨xs,l,eO⟩:=u;obtain ⟨z,sD,n,G,hlen,m⟩:=I.fQ l;refine ff.W_ (I.f9 j) af b (#[_,m,Y,n,Y]) (by simp;omega) λ g up=>#[Y,?_]
  refine I.B5 (λ c o d f=>?_) hf;simp only [b5,dA,dB,not_or] at d;exact up c o d.2 f
 self:=λ _ _ _ _ _ st h=>by
  obtain ⟨⟨old,af⟩,_⟩:=st;exact wpAny_pyIter_enum af h
section
variable {X:a5} {bu:Expr}
def Gr (aP:dh):TI:=λ σ H R=>aP σ H λ vs H1=>∃ a xs,vs=[.ref a]/\H1 a=some (.lst xs)/\R (r8 a) H1
theorem V1 (m:kE bu=.t) (l:cI X "enumerate") (hm:X.mg "enumerate" = .n) (au:fK X [d] aP) (aA:starEach [d] X.env=[(.f,eval d X.env)]:=by rfl)
  (ae:bootBuiltins "enumerate" = some (.type "enumerate"):=by decide +kernel):hz X bu (.Call (.Name "enumerate" p) [d] [] pos) (Gr aP):=by
 intro pins s σ H R I h;refine Call_ (kr I l hm ae (nP (a8 (au pos pins s σ H _ I h) ?_) aA Y));rintro us s1 ⟨vs,H1,b,r,aO⟩;obtain ⟨a,xs,e,o,q⟩:=aO;subst e;obtain ⟨x,rfl,t⟩:=vals1 r;cases t;obtain ⟨z,v,n,w,hlen,k⟩:=b.fQ o;refine call_enumerate_1 k λ g i u y up=>?_
 refine wpAny_pyIter_enum i ?_;have j:=b.kept (t':=s1.toks) up;refine #[_,[s1.heap.objs.size+1,s1.heap.objs.size],_,_,H1,Y,j,Zo m (hq (mG _)),#[#[_,i],u],λ c f=>?_,q];have big:s1.heap.objs.size<=c:=by
  simp only [b5,dA,dB] at f;rcases f with rfl|rfl
  ·exact lF _ _
  ·exact bL _
 exact b.nB big (b.aS.fresh big)
theorem w3 (c:kE bu=.t) (b:cI X "enumerate") (hm:X.mg "enumerate" = .n) (au:dM X [a] aP) (aA:starEach [a] X.env=[(.f,eval a X.env)]:=by rfl)
  (ae:bootBuiltins "enumerate" = some (.type "enumerate"):=by decide +kernel):iJ X bu (.Call (.Name "enumerate" p) [a] [] pos) (Gr aP):=#[V1 c b hm au.o aA ae]
end
theorem xc {g:fp} {aQ:c9} {D:Ends} (Pv:Nat->St->aC->Prop) (h0:Pv 0 σ H) (f:∀ i σ H,i<=xs.length->Pv i σ H->H a=some (.lst xs))
  (aA:∀ i x p σ H,xs[i]?=some x->H p=.n->Pv i σ H->g (.ref p) σ (upd H p (.tup [.int (i:Int),x])) λ σ2 ao=>aQ { D with bg:=Pv (i+1),cG:=Pv (i+1),aN:=D.bg } σ2 ao) (hd:∀ σ H,Pv xs.length σ H->D.bg σ H) :
  ∃ W:Nat->Nat->St->aC->Prop,(∃ m,W 0 m σ H)/\∀ i m σ H,W i m σ H ->
   ((r8 a).stop i H/\D.bg σ H)\/((r8 a).go i H/\∃ N,(∀ σ' H',N σ' H'->∃ d,d<m/\W (i+1) d σ' H')/\∀ x H',(r8 a).gR i H x H'->g x σ H' λ σ2 ao=>aQ { D with bg:=N,cG:=N,aN:=D.bg } σ2 ao):=by
 refine #[λ i m σ H=>m=xs.length-i/\i<=xs.length/\Pv i σ H,#[_,Y,fE _,h0],?_];rintro i m σ H ⟨rfl,av,p⟩;have b:=f i σ H av p;by_cases c:i<xs.length
 ·refine .inr #[#[xs,xs[i],b,by simp [c]],Pv (i+1),λ σ' H' k=>#[xs.length-(i+1),.ak,Y,c,k],λ v H' l=>?_];obtain ⟨q,h,rfl,x,rfl,j⟩:=l;exact aA i x q σ H (j xs b) h p
 ·have e:i=xs.length:=by omega
  refine .inl #[#[xs,b,.ak],hd σ H (e ▸ p)]
section
variable {X:a5}
theorem Vy (r:A.handled=.n)
  (f:s.heap.IsTuple l vs.toArray) (av:IntsAre vs ns) (x:0<ns.length)
  (h:∀ h' M (t:Tok) a6,(∀ b o,s.heap.get? b=some o->h'.get? b=some o)->M∈ns->(∀ a,a∈ns->M<=a)->Q (.int M t) { s with heap:=h',toks:=a6 }) :
  wpAny (model prog w) A (call (.builtin "min") [.ref l]) Q E s:=by
 obtain ⟨xs,e⟩:=av.allInts.items;have g:ns=xs.toList.map (·.1):=by rw [<-av.numsOf,<-nums_intItems,<-e]
 have y:0<xs.size:=by
  have m:=x;rw [g,bb,eV] at m;exact m
 rw [e] at f;have n:l<s.heap.objs.size:=by obtain ⟨_,e,_⟩:=f;exact bZ e
 refine call_min_walk (nM f ?_);refine #[_,_,_,_,_,_,_,Y,Walks.tuple (A:=A.in1) r _ l (cR n) (intItems xs),#[#[_,cN _ Y,Y,Y],f.push _],λ c d=>?_,by simpa [intItems] using y,CmpOf.ints_lt (numAt xs) (λ Z Z=>mI),λ v h' a6 q ay=>?_]
 ·show c<(s.heap.push _).objs.size;rw [fj];rcases b5.mp d with rfl|d
  ·exact mG _
  ·rcases b5.mp d with rfl|d
   ·exact mH n
   ·cases d
 ·have aM:(intItems xs)[argBest (λ i j=>decide (numAt xs i<numAt xs j)) (xs.size-1)]?=some v:=by simpa [intItems] using q
  obtain ⟨t,rfl⟩:=mI aM;obtain ⟨af,ai⟩:=argBest_lt (numAt xs) (xs.size-1);refine h _ _ t a6 (λ b o k=>ay b o (λ hm=>?_) (bo _ k)) ?_ λ a au=>?_
  ·rcases b5.mp hm with p|hm
   ·exact absurd (p ▸ bZ k) (gZ _)
   ·cases hm
  ·rw [g,numAt_eq];exact getD_mem (by rw [bb,eV];omega)
  ·rw [g] at au;obtain ⟨j,u,rfl⟩:=mem_getD au;rw [bb,eV] at u;rw [<-numAt_eq];exact ai j .ak
theorem JQ (b:X.calm=.t):dG X (.builtin "min") (λ xs H Q=>∃ (p:Addr) (ns:bp),xs=[.ref p]/\aL X.K H p (ns.map V.int)/\ns≠[]/\∀ M,M∈ns->(∀ a,a∈ns->M<=a)->Q (.int M) H):=by
 intro pins s σ H xs us Q I r h;obtain ⟨p,ns,rfl,d,c,q⟩:=h;obtain ⟨u,rfl,i⟩:=vals1 r;cases i;obtain ⟨l,g,bw,j⟩:=I.tuple d;refine Vy (I.ok.hd.1 b) bw (intsAre_of g) (by cases ns with|nil=>exact absurd Y c|cons=>simp) λ h' M t a6 k e f=>?_
 exact #[.int M,H,I.kept k,#[_,Y],q M e f]
theorem Yw (f:X.calm=.t):dG X (.builtin "min") (λ xs H Q=>∃ (p:Addr) (ns:bp),xs=[.ref p]/\aK X.K H p (ns.map V.int)/\ns≠[]/\∀ M,M∈ns->(∀ a,a∈ns->M<=a)->Q (.int M) H):=by
 intro pins s σ H xs us Q I r h;obtain ⟨p,ns,rfl,k,i,q⟩:=h;obtain ⟨u,rfl,n⟩:=vals1 r;cases n;obtain ⟨w,m,bw,o⟩:=I.list k;have d:=bw.isList;have av:=intsAre_of m;obtain ⟨xs,e⟩:=av.allInts.items;have b:ns=xs.toList.map (·.1):=by rw [<-av.numsOf,<-nums_intItems,<-e]
 have l:0<xs.size:=by
  have c:0<ns.length:=by cases ns with|nil=>exact absurd rfl i|cons=>simp
  rw [b,bb,eV] at c;exact c
 rw [e] at d;refine min_intList (I.ok.hd.1 f) d l λ v h' a6 aM ay=>?_
 obtain ⟨t,rfl⟩:=mI aM;obtain ⟨af,ai⟩:=argBest_lt (numAt xs) (xs.size-1);refine #[.int _,H,I.kept ay,#[_,Y],q _ ?_ λ a au=>?_]
 ·rw [b,numAt_eq];exact getD_mem (by rw [bb,eV];omega)
 ·rw [b] at au;obtain ⟨j,g,rfl⟩:=mem_getD au;rw [bb,eV] at g;rw [<-numAt_eq];exact ai j .ak
end
end bt
namespace ig
open PySem PySem.W PyProof.Rows
noncomputable def ev {α : Type} (f:Nat->Nat->Bool):KasT α -> α
 | .ret a=>a
 | .ask i j k=>ev f (k (f i j))
def In {α : Type} (n:Nat) (P : α -> Prop):KasT α -> Prop
 | .ret a=>P a
 | .ask i j k=>i<n/\j<n/\∀ b,In n P (k b)
theorem In.bind {f: α -> KasT β}:∀ t,In n P t->(∀ a,P a->In n R (f a))->In n R (t.bind f)
 | .ret a,h,hf=>hf a h
 | .ask i j k,h,hf=>#[h.1,h.2.1,λ b=>In.bind (k b) (h.2.2 b) hf]
theorem In.mono {R: α -> Prop} (c:∀ a,P a->R a):∀ t,In n P t->In n R t
 | .ret a,h=>c a h
 | .ask i j k,h=>#[h.1,h.2.1,λ b=>In.mono c (k b) (h.2.2 b)]
theorem In.ev {P: α -> Prop}:∀ t,In n P t->P (ig.ev f t)
 | .ret _,h=>h
 | .ask i j k,h=>In.ev (k (f i j)) (h.2.2 _)
theorem GP {Q: α -> Shared->Prop} (a:∀ i j C,i<n->j<n->C (f i j) s->cmp i j C s) :
  ∀ t,In n P t->Q (ig.ev f t) s->t.kasWp cmp Q s
 | .ret _,_,q=>q
 | .ask i j k,h,q=>a i j _ h.1 h.2.1 (GP a (k (f i j)) (h.2.2 _) q)
def eR (n:Nat) (p:Array Nat):Prop:=p.toList.Perm (List.range n)
theorem eR.lt (h:eR n p) (aB:0<n) (k):p.getD k 0<n:=by
 by_cases ay:k<p.size
 ·have e:p.getD k 0=p.toList[k]'(by simpa using ay):=by simp [Array.getD,ay]
  rw [e];exact mJ.mp (h.mem_iff.mp (kv _))
 ·have e:p.getD k 0=0:=by simp [Array.getD,ay]
  rw [e];exact aB
theorem eR.perm (h:eR n p) (a:q.Perm p):eR n q:=(Array.perm_iff_toList_perm.mp a).trans h
theorem eR.rev (h:eR n p) (i j):eR n (kas_rev p i j):=h.perm (mirror_perm _ _ _ _)
theorem eR.PG (h:eR n p) (i j):eR n (bubble p i j):=h.perm (bubble_perm _ _ _)
section
variable {n:Nat} (aB:0<n)
include aB
theorem Be (h:eR n p):∀ f m,In n (λ Z=>True) (kas_asc p f m)
 | 0,_=>trivial
 | f+1,m=>#[h.lt aB _,h.lt aB _,λ b=>by
  cases b with
  | true=>exact trivial
  | false=>exact Be h f (m+1)]
theorem wU:∀ f p m q,eR n p->In n (λ r=>eR n r.1) (kas_desc f p m q)
 | 0,p,_,_,h=>h
 | f+1,p,m,q,h=>#[h.lt aB _,h.lt aB _,λ b=>by
  cases b with
  | true =>
   show In n _ (if q>0 then _ else _);split
   ·exact wU f _ _ _ (h.rev _ _)
   ·exact wU f _ _ _ h
  | false =>
   refine #[h.lt aB _,h.lt aB _,λ d=>?_];cases d with
   | true=>exact h
   | false=>exact wU f _ _ _ h]
theorem Js (h:eR n p) (a b):In n (λ r=>eR n r.2) (kas_tail3 a b p):=(Be aB (h.rev _ _) _ _).bind _ λ Z Z=>h.rev _ _
theorem Lz (h:eR n p) (a b):In n (λ r=>eR n r.2) (kas_descPart a b p):=(wU aB _ p _ _ h).bind _ λ r c=>by
 split
 ·exact Js aB (c.rev _ _) _ _
 ·exact Js aB c _ _
theorem W5 (h:eR n p) (b):In n (λ r=>eR n r.2) (kas_count b p):=(Be aB h _ _).bind _ λ m Z=>by
 split
 ·exact h
 ·split
  ·refine #[h.lt aB _,h.lt aB _,λ c=>?_];cases c with
   | true=>exact h
   | false=>exact Lz aB (h.rev _ _) _ _
  ·exact Lz aB h _ _
theorem Cg (h:eR n p) (k):∀ f l r,In n (λ Z=>True) (kas_place p k f l r)
 | 0,_,_=>trivial
 | f+1,l,r=>by
  show In n _ (if l ≥ r then _ else _);split
  ·exact trivial
  ·refine #[h.lt aB _,h.lt aB _,λ c=>?_];cases c with
   | true=>exact Cg h k f _ _
   | false=>exact Cg h k f _ _
theorem GV:∀ f p k,eR n p->In n (eR n) (kas_bin f p k)
 | 0,p,_,h=>h
 | f+1,p,k,h=>(Cg aB h k k 0 k).bind _ λ l Z=>GV f _ _ (h.PG _ _)
theorem Ic:In n (eR n) (kas_sort n):=(W5 aB (List.Perm.refl _) n).bind _ λ r a=>by
 split
 ·exact GV aB _ _ _ a
 ·exact a
end
noncomputable def gd (ns:ed):eQ:=if ns.length<2 then List.range ns.length else (ev (λ i j=>c7.lexLt (ns.getD i []) (ns.getD j [])) (kas_sort ns.length)).toList
theorem p0 (ns):(gd ns).Perm (List.range ns.length):=by
 unfold gd;split
 ·exact List.Perm.refl _
 ·exact In.ev _ (Ic .ak)
theorem Nt {α: Type} (l) (d : α):(List.range l.length).map (λ i=>l.getD i d)=l:=by
 refine wB .zs λ i af ai=>?_
 simp [ai]
theorem Yf {α: Type} {l:List α} {d: α} (h:l.length=ns.length):((gd ns).map λ i=>l.getD i d).Perm l:=by
 have:=(p0 ns).map (λ i=>l.getD i d);rw [<-h,Nt] at this;exact this
theorem Ij (h:i∈gd ns):i<ns.length:=mJ.mp ((p0 ns).mem_iff.mp h)
section
variable {prog:Program} {w:World} {A:Around} {E:dc} {s:Shared}
theorem G6:∀ {us vs:List Value} {ns ms:bp} (i:Nat) (fin:Bool),IntsAre us ns->IntsAre vs ms->fin=decide (ns.length<ms.length)->Q (c7.lexLt ns ms) s->KatLex prog w A b fin Q (us.zip vs) i s
 | _,_,_,_,i,fin,.nil,.nil,e,q=>by subst e;exact q
 | _,_,_,_,i,fin,.nil,.cons _ _ _,e,q=>by
  subst e;rw [c7.abC] at q;rw [bP .zs];exact q
 | _,_,_,_,i,fin,.cons _ _ _,.nil,e,q=>by
  subst e;rw [c7.abB] at q;rw [cK .zs];exact q
 | _,_,_,_,i,fin,.cons x t af,.cons y u ai,e,q=>by
  rw [List.zip_cons_cons];refine kat_cons ((Bs x t y u) prog w _ _ ?_);rw [c7.ZQ] at q;by_cases a:x=y
  ·rw [if_pos a] at q;rw [show (x==y)=.t by simp [a]];exact kat_yes (G6 (i+1) fin af ai (by rw [e];simp) q)
  ·rw [if_neg a] at q;rw [show (x==y)=.f by simp [a]];refine kat_no ?_;cases ae:(b&&i==0) with
   | true=>exact oneLt_int q
   | false=>exact kat_one _ _ (PyProof.Rows.lt_int q)
def mw (h:Heap) (vs:List Value) (ns:ed):Prop:=vs.length=ns.length/\∀ i,i<vs.length->∃ a o xs n,vs.getD i .none=.ref a/\h.get? a=some o/\o.cls=.type "tuple" /\ o.data=.seq xs n/\IntsAre xs.toList (ns.getD i [])/\ns.getD i []≠[]
theorem mw.kept (t:mw h vs ns) (k:∀ b o,b≠c->h.get? b=some o->h'.get? b=some o) (j:∀ o,h.get? c=some o->o.cls≠.type "tuple"):mw h' vs ns:=by
 refine #[t.1,λ i av=>?_];obtain ⟨a,o,xs,n,af,ai,d,e,f,g⟩:=t.2 i av;exact #[a,o,xs,n,af,k a o (λ z=>j o (z ▸ ai) d) ai,d,e,f,g]
theorem mw.ET:∀ {vs:List Value} {ns:ed},mw h vs ns->∃ aj,KatTups h vs aj/\aj.length=vs.length/\∀ v∈aj,∃ i t,v=Value.int i t
 | [],_,_=>#[[],trivial,Y,λ v aM=>by cases aM]
 | v::vs,[],t=>by have:=t.1;simp at this
 | v::vs,m::ns,t=>by
  obtain ⟨aj,k1,k2,k3⟩:=mw.ET #[by simpa using t.1,λ i av=>by
   obtain ⟨a,o,xs,n,af,ai,c,d,e,g⟩:=t.2 (i+1) (by simp;omega);exact #[a,o,xs,n,by simpa using af,ai,c,d,by simpa using e,by simpa using g]]
  obtain ⟨a,o,xs,n,af,ai,c,d,e,g⟩:=t.2 0 .zs;have k:v=.ref a:=by simpa using af
  have b:IntsAre xs.toList m:=by simpa using e
  have l:m≠[]:=by simpa using g
  cases j:xs.toList with
  | nil =>
   rw [j] at b;cases b;exact absurd rfl l
  | cons f r =>
   rw [j] at b;refine #[f::aj,?_,by simp [k2],λ u p=>?_]
   ·rw [k];refine KatTups.cons ai c d ?_ k1;rw [<-Array.getElem?_toList,j];rfl
   ·rcases b5.mp p with z|z
    ·subst z;cases b with
     | cons _ _ _=>exact #[_,_,Y]
    ·exact k3 u z
theorem YW (m:s.heap.get? a=some (seqObj "list" vs.toArray n)) (T:mw s.heap vs ns) (N:vs.length<64)
  (h:∀ h' c,h'.get? a=some (seqObj "list" (List.toArray ((gd ns).map λ i=>vs.getD i Value.none)) c)->(∀ b o,b≠a->s.heap.get? b=some o->h'.get? b=some o)->P (.done (.ret .none)) { s with heap:=h' }) :
  wpAny (model prog w) A (Builtin.«list.sort» ⟨[.ref a],[]⟩) P E s:=by
 have au:=bZ m;have s1:=pq s.heap a (Obj.mapSeq λ _=>(#[]));obtain ⟨l,D⟩:∃ l,(s.heap.update a (Obj.mapSeq λ _=>(#[]))).get? a=some (seqObj "list" #[] l):=#[_,get?_update_seq m λ _=>#[]]
 have aW:∀ b o,b≠a->s.heap.get? b=some o->(((s.heap.update a (Obj.mapSeq λ _=>(#[]))).push (seqObj "tuple" vs.toArray 0)).push (seqObj "list" #[] 0)).get? b=some o:=λ b o nb e=>bo _ (bo _ ((s1.2 b nb).trans e))
 have k:(((s.heap.update a (Obj.mapSeq λ _=>(#[]))).push (seqObj "tuple" vs.toArray 0)).push (seqObj "list" #[] 0)).get? a=some (seqObj "list" #[] l):=bo _ (bo _ D);have q:=T.kept aW λ o e z=>by
  rw [m] at e;cases e;have y:= z;injection y with y;exact absurd y .aw
 rw [list_sort_plain];refine az (listItems_at m Y ?_);refine az (listUpdate_at m Y ?_ (by rw [dj,b8];omega) (fE _));refine az (seqEpoch_at D Y ?_);refine az (wpAny_newTuple ?_ (by show vs.length<=_;rw [b8];omega));refine az (wC ?_ (fE _));refine eS ?_;show wpAny (model prog w) A _ P E { s with heap:=((s.heap.update a (Obj.mapSeq λ _=>(#[]))).push (seqObj "tuple" vs.toArray 0)).push (seqObj "list" #[] 0) };dsimp only;generalize adb:((s.heap.update a (Obj.mapSeq λ _=>(#[]))).push (seqObj "tuple" vs.toArray 0)).push (seqObj "list" #[] 0)=g at aW k q ⊢;have fin:∀ out:ec,out.size<=64->out=List.toArray ((gd ns).map λ i=>vs.getD i Value.none)->∃ c,(g.update a (Obj.mapSeq λ _=>out)).get? a=some (seqObj "list" (List.toArray ((gd ns).map λ i=>vs.getD i Value.none)) c)/\∀ b o,b≠a->s.heap.get? b=some o->(g.update a (Obj.mapSeq λ _=>out)).get? b=some o:=by
  intro out _ e;obtain ⟨u,S⟩:∃ u,(g.update a (Obj.mapSeq λ _=>out)).get? a=some (seqObj "list" out u):=#[_,get?_update_seq k λ _=>out]
  have s2:=pq g a (Obj.mapSeq λ _=>out);exact #[u,by rw [S,e],λ b o nb M=>(s2.2 b nb).trans (aW b o nb M)]
 by_cases ai:vs.toArray.size<2
 ·have x:vs.length<2:=by simpa using ai
  rw [if_pos ai,if_pos ai];refine az (bl ?_);rw [StateT.run_pure];refine az (bl ?_);dsimp only;have d:(arrOf (SortSt.mk' general' (vs.toArray.zip vs.toArray) #[] 7 .n)).map (·.2)=List.toArray ((gd ns).map λ i=>vs.getD i Value.none):=by
   have l:(arrOf (SortSt.mk' general' (vs.toArray.zip vs.toArray) #[] 7 .n)).map (·.2)=vs.toArray:=by
    show (vs.toArray.zip vs.toArray).map (·.2)=vs.toArray;apply wt.mp;simp [List.map_snd_zip]
   have L:gd ns=List.range vs.length:=by
    unfold gd;rw [<-T.1,if_pos x]
   rw [l,L,Nt]
  refine az (seqEpoch_at k Y ?_);refine az (listUpdate_at k Y ?_ (fE _) (by rw [d,dj,bb,(p0 ns).length_eq,i9,<-T.1,b8];omega));simp only [bne_self_eq_false,Bool.false_eq_true,if_false];obtain ⟨c,g1,g2⟩:=fin _ (by rw [d,dj,bb,(p0 ns).length_eq,i9,<-T.1];omega) d;exact bl (h _ c g1 g2)
 ·have x:2<=vs.length:=by
   have:¬ vs.length<2:=by simpa using ai
   omega
  rw [if_neg ai,if_neg ai];obtain ⟨aj,k1,k2,k3⟩:=q.ET;refine az (kat_kind (T:=.type "int") k1 .ak (λ v aM=>?_) .aw ?_)
  ·obtain ⟨i,t,rfl⟩:=k3 v aM;exact Looks.of_pure rfl
  refine az (eU (kat_run (κ := tuples' (Value.type "int" != Value.type "tuple")) (s:={ s with heap:=g }) (Q:=λ r s'=>∃ p:Array Nat,s'={ s with heap:=g }/\p.toList=gd ns/\arrOf r=p.map (kas_item (vs.toArray.zip vs.toArray))/\failedOf r=.n)
   (G:=λ p s'=>s'={ s with heap:=g }/\p.toList=gd ns) Y x N (λ X r s' a1 a2 J B=>#[X,B.1,B.2,a2,J]) ?_) ?_ λ _ _ e=>e)
  ·refine GP (n:=vs.length) (P:=eR vs.length) (f:=λ i j=>c7.lexLt (ns.getD i []) (ns.getD j [])) (λ i j C av aU O=>?_) _ (Ic .ak) #[Y,?_]
   ·obtain ⟨a1,yJ,r3,kT,aO,Z,iL,jn,H,_⟩:=q.2 i av;obtain ⟨a2,rX,adl,yG,oC,r0,uL,oD,I,_⟩:=q.2 j aU;unfold kas_ask;rw [aO,oC];refine kat_lt Z jn r0 oD (G6 0 _ H I ?_ O);rw [<-eV,<-eV,H.length,I.length]
   ·unfold gd;rw [<-T.1,if_neg .ak]
  rintro ⟨⟨⟩,r⟩ s' ⟨p,rfl,ar,R,hf⟩;dsimp only;have d:=kat_snds (ks:=vs) rfl R;rw [ar] at d;refine az (seqEpoch_at k Y ?_);refine az (listUpdate_at k Y ?_ (fE _) (by rw [d,dj,bb,(p0 ns).length_eq,i9,<-T.1,b8];omega));rw [hf];simp only [bne_self_eq_false,Bool.false_eq_true,if_false];obtain ⟨c,g1,g2⟩:=fin _ (by rw [d,dj,bb,(p0 ns).length_eq,i9,<-T.1];omega) d;exact bl (h _ c g1 g2)
theorem WC (u:s.heap.IsList l vs.toArray) (T:mw s.heap vs ns) (t:vs.length<64)
  (h:∀ h' c,h'.get? (s.heap.objs.size+1)=some (seqObj "list" (List.toArray ((gd ns).map λ i=>vs.getD i Value.none)) c)->(∀ b o,s.heap.get? b=some o->h'.get? b=some o)->Q (.ref (s.heap.objs.size+1)) { s with heap:=h' }) :
  wpAny (model prog w) A (call (.builtin "sorted") [.ref l]) Q E s:=by
 refine Calls.call_function_entry kind_sorted plain_sorted entry_sorted (args_sorted1 _) ?_;refine az (bl ?_);refine az (collect_list u ?_ (by rw [b8];omega));refine az (wC ?_ (by rw [b8];omega));have f:((s.heap.push (seqObj "list" #[] 0)).update s.heap.objs.size (Obj.mapSeq (· ++ vs.toArray))).objs.size=s.heap.objs.size+1:=by
  rw [Heap.size_update,size_push']
 have j:(((s.heap.push (seqObj "list" #[] 0)).update s.heap.objs.size (Obj.mapSeq (· ++ vs.toArray))).push (seqObj "list" vs.toArray 0)).get? (s.heap.objs.size+1)=some (seqObj "list" vs.toArray 0):=by
  rw [<-f];exact cN _ rfl
 have keep:∀ b o,s.heap.get? b=some o->(((s.heap.push (seqObj "list" #[] 0)).update s.heap.objs.size (Obj.mapSeq (· ++ vs.toArray))).push (seqObj "list" vs.toArray 0)).get? b=some o:=λ b o q=>by
  have d:=bZ q;rw [Heap.get?_push_ne _ _ _ (by rw [f];exact cR (mH d)),Heap.get?_update_ne _ _ _ _ (cR d),Heap.get?_push_ne _ _ _ (cR d)];exact q
 rw [f];refine az (eS (iD slot_list_sort #[_,j,Y] entry_list_sort ?body (args_list_sort _)))
 case body =>
  refine YW j ?_ t λ h' c g1 g2=>#[_,Y,bl #[_,Y,h h' c g1 λ b o e=>g2 b o (λ z=>?_) (keep b o e)]]
  ·refine #[T.1,λ i av=>?_];obtain ⟨a,o,xs,n,af,ai,k,m,p,r⟩:=T.2 i av;exact #[a,o,xs,n,af,keep a o ai,k,m,p,r]
  ·have g:=e;rw [z] at g;exact absurd (bZ g) (Nat.not_lt.mpr (kn _))
end
end ig
namespace bt
open PySem PySem.Spec PyProof.Rows
def sS (H:aC) (x:V) (c:bp):Prop:=∃ a,x=.ref a/\H a=some (.tup (c.map V.int))
def cO (H:aC) (xs:bj) (cs:ed):Prop:=xs.length=cs.length/\∀ (i:Nat) x,xs[i]?=some x->∃ c,cs[i]?=some c/\sS H x c
theorem Vals.getD_map {ag:eQ} (r:Vals xs us) (h:∀ i∈ag,i<xs.length):Vals (ag.map λ i=>xs.getD i .aX) (ag.map λ i=>us.getD i Value.none):=by
 induction ag with
 | nil=>exact .nil
 | cons p ag c =>
  have ar:=h p dI;have a:=cV ar;obtain ⟨u,b,d⟩:=r.get a;refine .cons ?_ (c λ i av=>h i (dJ _ av));show RelV (xs.getD p .aX) (us.getD p Value.none);rw [gF,gF,a,b];exact d
section
variable {X:a5}
theorem WN {σ:St} (I:Inv X pins σ H s) (r:Vals xs us) (h:cO H xs ns) (j:∀ c∈ns,c≠[]):ig.mw s.heap us ns:=by
 refine #[by rw [<-r.length];exact h.1,λ i av=>?_];have d:i<xs.length:=by rw [r.length];exact av
 obtain ⟨c,b,a,f,au⟩:=h.2 i _ (cV d);obtain ⟨u,l,e⟩:=r.get (cV d);rw [f] at e;cases e;obtain ⟨m,p,⟨o,k,g,n,hd⟩,_⟩:=I.tuple (aL.of au);refine #[a,o,m.toArray,n,by rw [gF,l];rfl,k,g,hd,?_,?_]
 ·rw [gF,b];exact intsAre_of p
 ·rw [gF,b];exact j c (cg b)
theorem Mf:dG X (.builtin "sorted") (λ vs H Q=>∃ l xs ns,vs=[.ref l]/\H l=some (.lst xs)/\cO H xs ns/\(∀ c∈ns,c≠[])/\xs.length<64/\e7 (.lst ((ig.gd ns).map λ i=>xs.getD i .aX)) H Q):=by
 intro pins s σ H xs us Q I r h;obtain ⟨l,xs,ns,rfl,e,a,f,j,q⟩:=h;obtain ⟨u,rfl,g⟩:=vals1 r;cases g;obtain ⟨z,k,n,b,hlen,d⟩:=I.fQ e;refine ig.WC (#[_,d,Y,n,Y]) (WN I b a f) .ak λ h' c g1 g2=>?_
 have ar:s.heap.objs.size<=s.heap.objs.size+1:=kn _;refine #[.ref (s.heap.objs.size+1),_,I.laid g2 ar (show eg X.prog X.w _ h' _ (.lst ((ig.gd ns).map λ i=>xs.getD i .aX)) from #[?_,_,c,b.getD_map λ i av=>by rw [a.1];exact ig.Ij av,g1]),Y,q.at _ (I.aS.fresh ar)];rw [bb,(ig.p0 ns).length_eq,i9,<-a.1];exact z
end
end bt
namespace kM
open PySem PyProof.Rows
theorem aby (o) (f):(Obj.mapFields f o).dict=o.dict:=by
 unfold Obj.mapFields;split<;>rfl
inductive Rec (h:Heap) (e:Addr) (C:Value) (d:Option Addr) (head:Value):Prop
 |mk (b1 vs):h.get? e=some b1->b1.cls=C->b1.dict=d->b1.data=.fields vs->vs[1]?=some head->vs[2]?=some .none->Rec h e C d head
def Ent (h:Heap) (T:Addr) (fl:Value):Prop:=∃ a bH,h.get? T=some a/\a.data=.fields bH/\bH[3]?=some fl
noncomputable abbrev ma (l:List Env):List Addr:=l.filterMap (·.frame)
def hv (L F:List Addr) (h h':Heap):Prop:=(∀ b o,b∉L->b∉F->h.get? b=some o->h'.get? b=some o)/\∀ b o,b∉L->b∈F->h.get? b=some o->∃ cB,h'.get? b=some { o with slots:=cB }
theorem hv.trans (x:hv L F h af) (y:hv c F af ai):hv (L++c) F h ai:=by
 refine #[λ b o nl a e=>?_,λ b o nl hf e=>?_]
 ·exact y.1 b o (λ z=>nl (iE _ z)) a (x.1 b o (λ z=>nl (pv _ z)) a e)
 ·obtain ⟨cB,d⟩:=x.2 b o (λ z=>nl (pv _ z)) hf e;obtain ⟨g,f⟩:=y.2 b _ (λ z=>nl (iE _ z)) hf d;exact #[g,f]
section
variable {M:Model} {A:Around} {E:dc} {s:Shared}
theorem G0
  (t:A.frames=some (env::outer)) (k:s.heap.FunFrames base (env::outer)) (hf:env.frame=some L)
  (he:s.heap.get? e=some b1) (hd:b1.data=.fields vs) (l:1<vs.size) (ai:vs[2]?=some .none)
  (h:∀ h' T,s.heap.get? T=.n->hv [e] (ma (env::outer)) s.heap h'->Rec h' e b1.cls b1.dict (.ref T)->Ent h' T (rawInt L)->Q () { s with heap:=h' }) :
  wpAny M A (do let a ← frameOf env;let bw ← entryPlaceOf L w;let b ← EntryCells.newEntry head a .none (rawInt L) .none bw;setField (.ref e) 1 b) Q E s:=by
 have r:e∉ma (env::outer):=λ hm=>by
  obtain ⟨_,o,c,u⟩:=k.mem hm;rw [he] at c;injection c with c;subst c;exact u vs hd
 refine az (wpAny_frameOf_fun t k hf λ af d=>?_);refine az (wpAny_entryPlaceOf λ bw cu=>?_);refine az (lp ?_ (cu.sizeOk5 _ _ _ _ _));have i:=(d.2.1 e r).trans he;have j:=bo { cls:=.type "traceback", dict:=.n,data:=.fields ([head,.ref L,.none,rawInt L,.none]++(if bw.isEmpty then List.replicate 6 Value.none else bw)).toArray } i;have n:=hq (bZ i);have g:=pl hd (·.setIfInBounds 1 (Value.ref af.objs.size));have p:=lq (Obj.mapFields (·.setIfInBounds 1 (Value.ref af.objs.size))) j (ta g);refine qR j hd l (h _ af.objs.size ?_ #[λ b o nl v q=>?_,λ b o nl ae q=>?_] #[_,_,p,Obj.cls_mapFields _ _,aby _ _,g,by simp [l],by simp [ai]] #[_,_,(hT _ _ (eT n)).trans (cN af Y),Y,?_])
 ·cases q:s.heap.get? af.objs.size with
  | none=>rfl
  | some o=>have:=bZ q;rw [<-d.1] at this;exact absurd this (gZ _)
 ·have f:b≠e:=λ z=>nl (by rw [z];exact dH.mpr Y)
  rw [hT _ _ (eT f)];exact bo _ ((d.2.1 b v).trans q)
 ·have f:b≠e:=λ z=>nl (by rw [z];exact dH.mpr Y)
  obtain ⟨cB,m⟩:=d.2.2 b o q;refine #[cB,?_];rw [hT _ _ (eT f)];exact bo _ m
 ·(rcases cu with rfl|⟨_,_,_,_,_,_,_,rfl⟩<;>simp)
theorem Xy
  (a:A.frames=some (env::outer)) (b:s.heap.FunFrames base (env::outer)) (hf:env.frame=some L) (c:Rec s.heap e C d .none)
  (h:∀ h' T,s.heap.get? T=.n->hv [e] (ma (env::outer)) s.heap h'->Rec h' e C d (.ref T)->Ent h' T (rawInt L)->Q () { s with heap:=h' }):wpAny M A (noteFrame (.ref e) env) Q E s:=by
 obtain ⟨b1,vs,he,rfl,rfl,hd,af,ai⟩:=c;unfold noteFrame;simp only [hf];refine az (d4 he hd af ?_);rw [if_neg (show ¬ ((Value.none != Value.none)=.t) by decide)];exact G0 a b hf he hd (wD.mp af).1 ai h
theorem VH
  (l:A.frames=some (env::outer)) (m:s.heap.FunFrames base (env::outer)) (hf:env.frame=some L) (p:Rec s.heap e C d (.ref T0)) (aI:Ent s.heap T0 .none) (n:T0≠e)
  (h:∀ h' T,s.heap.get? T=.n->hv [e,T0] (ma (env::outer)) s.heap h'->Rec h' e C d (.ref T)->Ent h' T (rawInt L)->Q () { s with heap:=h' }):wpAny M A (noteFrame (.ref e) env) Q E s:=by
 obtain ⟨b1,vs,he,rfl,rfl,hd,af,ai⟩:=p;obtain ⟨w,bH,bA,c,j⟩:=aI;unfold noteFrame;simp only [hf];refine az (d4 he hd af ?_);rw [if_pos .zs];refine az (d4 bA c j ?_);rw [if_neg (by simp [rawInt])];refine az (qR bA c (wD.mp j).1 ?_);have other:∀ b,b≠T0->(s.heap.update T0 (Obj.mapFields (·.setIfInBounds 3 Value.none))).get? b=s.heap.get? b:=λ b ae=>hT _ _ (eT ae)
 have v:∀ b o,s.heap.get? b=some o->(∀ vs,o.data≠.fields vs)->b≠T0:=λ b o ae f q=>by
  rw [q,bA] at ae;injection ae with ae;subst ae;exact f bH c
 refine G0 l (m.of_keeps λ b o ae f=>#[o,(other b (v b o ae f)).trans ae,Y]) hf ((other e (eT n)).trans he) hd (wD.mp af).1 ai λ h' T a k r t=>?_
 refine h h' T ?_ #[λ b o nl u q=>?_,λ b o nl ae q=>?_] r t
 ·cases q:s.heap.get? T with
  | none=>rfl
  | some o =>
   by_cases z:T=T0
   ·have g:=lq (Obj.mapFields (·.setIfInBounds 3 Value.none)) bA (ta (pl c _));rw [<-z] at g;rw [z] at a;rw [z] at g;rw [g] at a;cases a
   ·rw [other T z,q] at a;cases a
 ·have i:b≠T0:=λ z=>nl (by rw [z];simp)
  exact k.1 b o (λ z=>nl (by rw [dH.mp z];simp)) u ((other b i).trans q)
 ·have i:b≠T0:=λ z=>nl (by rw [z];simp)
  exact k.2 b o (λ z=>nl (by rw [dH.mp z];simp)) ae ((other b i).trans q)
theorem land (k:Rec s.heap e C d (.ref T)) (aI:Ent s.heap T fl) (j:T≠e) (l:∀ b∈F,b≠T)
  (h:∀ h',hv [T] F s.heap h'->Rec h' e C d (.ref T)->Ent h' T .none->Q () { s with heap:=h' }):wpAny M A (setFlight (.ref e) .n) Q E s:=by
 obtain ⟨b1,vs,he,g,i,hd,af,ai⟩:=k;obtain ⟨m,bH,bA,a,f⟩:=aI;have c:=(wD.mp f).1;refine az (d4 he hd af ?_);rw [if_pos .zs];refine qR bA a c (h _ #[λ b o nl Z q=>(hT _ _ (λ z=>nl (by rw [z];exact dH.mpr Y))).trans q,λ b o nl Z q=>#[o.slots,(hT _ _ (λ z=>nl (by rw [z];exact dH.mpr Y))).trans q]]
  #[b1,vs,(hT _ _ j).trans he,g,i,hd,af,ai] #[_,_,lq _ bA (ta (pl a _)),pl a _,by simp [c]])
def te (h:Heap) (e:Addr) (head:Value) (L:List Addr):Prop:=(head=.none/\L=[])\/∃ T,head=.ref T/\Ent h T .none/\T≠e/\L=[T]
theorem TF
  (a:A.frames=some (env::outer)) (b:s.heap.FunFrames base (env::outer)) (hf:env.frame=some L) (c:Rec s.heap e C d head) (f:te s.heap e head g)
  (h:∀ h' T,s.heap.get? T=.n->hv (e::g) (ma (env::outer)) s.heap h'->Rec h' e C d (.ref T)->Ent h' T (rawInt L)->Q () { s with heap:=h' }):wpAny M A (noteFrame (.ref e) env) Q E s:=by
 rcases f with ⟨rfl,rfl⟩|⟨T0,rfl,aI,i,rfl⟩
 ·exact Xy a b hf c h
 ·exact VH a b hf c aI i h
theorem landed
  (j:A.frames=some (env::outer)) (c:s.heap.FunFrames base (env::outer)) (hf:env.frame=some L) (g:Rec s.heap e C d head) (l:te s.heap e head m)
  (h:∀ h' T,s.heap.get? T=.n->T≠e->hv (e::m) (ma (env::outer)) s.heap h'->Rec h' e C d (.ref T)->Ent h' T .none->Q () { s with heap:=h' }) :
  wpAny M A (noteFrame (.ref e) env) (λ Z s'=>wpAny M A (setFlight (.ref e) .n) Q E s') E s:=by
 refine TF j c hf g l λ af T bA k1 p t1=>?_
 have a:T≠e:=λ z=>by
  obtain ⟨b1,_,he,_⟩:=g;rw [z,he] at bA;cases bA
 have i:∀ b∈ma (env::outer),b≠T:=λ b ae z=>by
  obtain ⟨_,o,f,_⟩:=c.mem ae;rw [z,bA] at f;cases f
 refine land p t1 a i λ ai k2 r t=>?_
 have k:=k1.trans k2;refine h ai T bA a #[λ b o nl n q=>k.1 b o (λ z=>?_) n q,λ b o nl ae q=>k.2 b o (λ z=>?_) ae q] r t
 all_goals
  rcases i1.mp z with z|z
  ·exact nl z
  ·rw [dH.mp z,bA] at q;cases q
theorem leave
  (a:A.frames=some (env::outer)) (c:s.heap.FunFrames base (env::outer)) (hf:env.frame=some L) (g:Rec s.heap e C d head) (b:te s.heap e head f)
  (h:∀ h' T,s.heap.get? T=.n->T≠e->hv (e::f) (ma (env::outer)) s.heap h'->Rec h' e C d (.ref T)->Ent h' T .none->Q () { s with heap:=h' }):wpAny M A (leaving env (.ref e)) Q E s:=by
 exact az (landed a c hf g b h)
end
end kM
namespace bt
open PySem PySem.Spec PyProof.Rows kM
theorem eg.some {P:Program} {w:World} {H:aC} {h:Heap} {a:Addr} {o:fe} (x:eg P w H h a o):∃ bQ,h.get? a=some bQ:=by
 cases o with
 | lst xs=>obtain ⟨_,_,_,_,e⟩:=x;exact #[_,e]
 | tup xs=>obtain ⟨_,_,_,bQ,e,_⟩:=x;exact #[_,e]
 | bW kvs=>obtain ⟨_,_,_,_,o,_,_,e,_⟩:=x;exact #[_,e]
 | eK kvs=>obtain ⟨_,_,_,_,o,_,_,e,_⟩:=x;exact #[_,e]
 | set S n=>obtain ⟨o,_,_,_,e,_⟩:=x;exact #[_,e]
 | ins C aE aj=>obtain ⟨_,_,_,e,_⟩:=x;exact #[_,e]
 | own y=>obtain ⟨_,e⟩:=x;exact #[_,e]
 | ia aj=>obtain ⟨_,⟨_,_,_,e,_⟩,_⟩:=x;exact #[_,e]
 | oX lo av=>obtain ⟨_,_,_,e⟩:=x;exact #[_,e]
 | hL bQ u=>obtain ⟨e,_⟩:=x;exact #[_,e]
 | mr ag=>exact #[_,(show h.get? a=Option.some _ from x)]
 | met f y=>exact #[_,(show h.get? a=Option.some _ from x)]
 | ext φ => obtain ⟨_,⟨_,e⟩,_⟩:=x;exact #[_,e]
theorem dt.gone (x:dt P w H h) (e:h.get? a=.n):H a=.n:=by
 cases q:H a with
 | none=>rfl
 | some o =>
  obtain ⟨bQ,z⟩:=(x a o q).some;rw [e] at z;cases z
theorem dt.lL (x:dt P w H h) (k:hv L F h h') (d:∀ b∈L,H b=.n) (c:∀ b∈F,H b=.n):dt P w H h':=λ a o e=>
 (x a o e).hQ (λ b u ae q=>by
  have aB:H b≠.n:=by
   rcases ae with rfl|z
   ·rw [e];simp
   ·rw [z];simp
  exact k.1 b u (λ z=>aB (d b z)) (λ z=>aB (c b z)) q) (λ Z q=>q) λ Z Z q=>q
theorem eC.lL (u:eC aj [] aR H h0 h) (k:hv L F h h') (j:∀ b∈L,h0.get? b=.n) (i:∀ b∈F,b∈aj\/h0.get? b=.n):eC aj [] aR H h0 h':=by
 have c:∀ b o,h0.get? b=some o->b∉L:=λ b o e z=>by rw [j b z] at e;cases e
 refine #[λ b o e n f bg=>?_,λ b o e n hf bg=>?_,u.free,λ b o e bg=>?_,u.iW,u.iy,u.iV]
 ·refine k.1 b o (c b o e) (λ z=>?_) (u.keep b o e n f bg);rcases i b z with z|z
  ·exact f z
  ·rw [z] at e;cases e
 ·obtain ⟨cB,a⟩:=u.slot b o e n hf bg;by_cases ae:b∈F
  ·obtain ⟨g,d⟩:=k.2 b _ (c b o e) ae a;exact #[g,d]
  ·exact #[cB,k.1 b _ (c b o e) ae a]
 ·obtain ⟨er,a⟩:=u.there b o e bg;by_cases ae:b∈F
  ·obtain ⟨g,d⟩:=k.2 b _ (c b o e) ae a;exact #[_,d]
  ·exact #[_,k.1 b _ (c b o e) ae a]
inductive f6 (P:Program) (w:World):kb
 |mk {outer H s E ev s'} (e T C:Addr) (d:Option Addr) (H':aC):ev=.ref e->s'.os=s.os->AllBare s'.gens->eC (eF outer) [] H H' s.heap s'.heap->dt P w H' s'.heap->s.heap.get? e=.n->s.heap.get? T=.n->T≠e->H' e=.n->H' T=.n->Rec s'.heap e (.ref C) d (.ref T)->Ent s'.heap T .none->E (.ref C) d H'->f6 P w outer H s E ev s'
structure ef (X:a5) (pins:eP) (e:Addr):Prop where
 s0:X.s₀.heap.get? e=.n
 loc:e≠X.env.locals
 cell:∀ x c,X.env.cells.lookup x=some c->c≠e
 pin:∀ p∈X.hE++pins,p.1≠e
theorem ef.of {σ:St} (I:Inv X pins σ H s) (d:X.ex=[]) (h:s.heap.get? e=.n):ef X pins e:=by
 refine #[?_,?_,λ x c b z=>?_,λ p ar z=>?_]
 ·cases q:X.s₀.heap.get? e with
  | none=>rfl
  | some o =>
   obtain ⟨er,z⟩:=I.base.there e o q (by rw [d];simp);rw [h] at z;cases z
 ·intro z;obtain ⟨m,⟨o,_,_,a,_⟩,_⟩:=I.loc;rw [z,a] at h;cases h
 ·obtain ⟨v,o,a,_⟩:=I.cell x c b;rw [<-z,a] at h;cases h
 ·obtain ⟨a,_⟩:=I.pin p ar;rw [<-z,a] at h;cases h
def oM (X:a5) (E:dZ):Prop:=∀ pins (σ:St) H s (e C) d head a,Inv X pins σ H s->ef X pins e->H e=.n ->
 Rec s.heap e (.ref C) d head->te s.heap e head a->(∀ b∈a,ef X pins b/\H b=.n)->E (.ref C) d H->X.ct (.ref e) s
theorem GA (a:X.ex=[]) (k:oM X E):Passes (f6 X.prog X.w) X E:=by
 rintro pins σ H s ev s' I ⟨e,T,C,d,H',rfl,j,i,u,aS,g,f,m,c,c7,l,aI,h⟩;exact k pins σ H' s' e C d (.ref T) [T] (I.AR j u aS i λ b ae=>absurd ae .zs) (ef.of I a g) c l (.inr #[T,Y,aI,m,Y]) (λ b ae=>by rw [dH.mp ae];exact #[ef.of I a f,c7]) h
theorem pF {K:aT} :
  oM (ix (f6 P w) P w K mg base N qual scope f cd A outer s0 aR E) E:=by
 intro pins σ H s e C d head p I c a l k g i;have j:∀ b∈ma (envOfC qual scope s0.heap.objs.size f cd::outer),H b=.n:=I.tO;refine leave I.ok.frames I.stack rfl l k λ h' T bA m h n t1=>#[e,T,C,d,H,Y,I.os,I.bare,?_,?_,c.s0,(ef.of I Y bA).s0,m,a,I.aS.gone bA,n,t1,i]
 ·refine (show eC (eF outer) [] aR H s0.heap s.heap from I.base).lL h (λ b ae=>?_) (λ b ae=>?_)
  ·rcases b5.mp ae with z|z
   ·rw [z];exact c.s0
   ·exact (g b z).1.s0
  ·rcases b5.mp ae with z|z
   ·refine .inr ?_;cases q:s0.heap.get? b with
    | none=>rfl
    | some o=>have:=bZ q;rw [z] at this;exact absurd this (gZ _)
   ·exact .inl z
 ·refine I.aS.lL h (λ b ae=>?_) j;rcases b5.mp ae with z|z
  ·rw [z];exact a
  ·exact (g b z).2
theorem jE {K:aT} :
  Passes (f6 P w) (ix (f6 P w) P w K mg base N qual scope f cd A outer s0 aR E) E:=GA rfl pF
abbrev ih:List Value:=[.type "ValueError", .type "Exception", .type "BaseException", .type "object"]
structure jz (K:aT) (mg:Str->cE) (x:Str) (C:Addr):Prop where
 at_:mg x=some (.ref C)
 is:PySem.W.excIn K C ih "ValueError.__new__" = .t
set_option tactic.hygienic true in
theorem jz.own {K:aT} (c:jz K mg x C) (X:K.In h):OwnCls x C ih "ValueError.__new__" mg h:=by
 obtain ⟨e,q⟩:=c;refine #[e,?_];unfold PySem.W.excIn at q;split at q
 ·rename_i dd cd cB d;split at q
  ·rename_i i bm k0 k1 k2 k3 n k5 hm aA;simp only [eX,i2,Bool.not_eq_true'] at q;obtain ⟨⟨⟨⟨⟨rfl,rfl⟩,a⟩,aI⟩,aS⟩,b⟩:=q;obtain ⟨nm,bs,mro,ns,g,hd,sn,sub,ab,col,del⟩:=cd;subst hm a;have f:cB=[k0,k1,k2,k3,some (.builtin "ValueError.__new__"),k5].toArray:=by
    obtain ⟨l⟩:=cB;simp only at aA;rw [aA]
   subst f;exact #[bm,ns,nm,g,bs,hd,sn,sub,ab,col,dd,k0,k1,k2,k3,k5,_,X _ _ d,.of_isNs (Bx X aS),PySem.W.nsMap_none_of_in X aS b,PySem.W.tail_of_in X aI]
  ·cases q
 ·cases q
def U8 (C:Addr) (E:dZ) (aP:dh):c9:=λ _ σ H=>aP σ H λ vs H1=>vs.length<=sizeLine/\E (.ref C) .n H1
theorem tU (k:oM X E) (w:X.ex=[]) (m:X.calm=.t) (c:jz X.K X.mg x C) (p:cI X x) (au:dM X (a::ah) aP) (v:noStar a=.t:=by rfl)
  (cu:(backTo cF (starEach ah X.env)).any (·.1)=.f:=by rfl) (hd:(x==("__debug__" : Str))=.f:=by decide):e0 X (.Raise (some (.Call (.Name x np) (a::ah) [] cF)) .n pos) (U8 C E aP):=#[by
 intro pins s σ H D I h;obtain ⟨ck,N,nm,q,bs,hdct,sn,sub,ab,col,dd,k0,k1,k2,k3,k5,mN,i,l,u,T⟩:=(c.own I.mod.hN).obj;have he:=p6 v ah X.env;refine wpAny_Raise_call_subT (nm:=nm) (q:=q) (N:=N) (bs:=bs) (hdct:=hdct) (sn:=sn) (sub:=sub) (ab:=ab) (col:=col) (dd:=dd) (k0:=k0) (k1:=k1) (k2:=k2) (k3:=k3) (k5:=k5)
  wF (T.hasType wF.hasBase) (I.ok.hd.1 m) (by rw [he];show (.f||(backTo cF (starEach ah X.env)).any (·.1))=.f;rw [cu];rfl) u (jS I p c.at_ #[Y,?_] hd)
 have f:=au.o cF pins s σ H _ I h;rw [he] at f ⊢;refine tw (a8 f ?_);rintro us s1 ⟨vs,H1,d,r,y,j⟩;refine #[Y,by rw [<-r.length];exact y,d.aN _ _ i,l.keeps d.aN,T.keeps d.aN,λ h' e hm=>?_]
 ·have g:=d.kept (t':=s1.toks) hm.keeps;obtain ⟨t,n,_,_⟩:=hm.there;refine k pins σ H1 _ e C .n .none [] g (ef.of d w hm.new) (d.aS.gone hm.new) #[_,_,n,Y,Y,Y,Y,Y] (.inl #[Y,Y]) (λ b ae=>absurd ae .zs) j]
end bt
namespace PySem
section
variable {M:Model} {A:Around} {E:dc}
variable {nm q E0 aH:Str} {C N D Dx:Addr} {bs bm D9 uW:List Value} {hdct Gn:Bool} {sn Fe:b2} {sub F8:List Value} {ab D8:Bool} {col Fy:Option Bool} {dd ju:Option Addr} {k0 k1 k2 k3 k5 yA c2 dF DL DM:cE} {newId Uo:String}
theorem aci {os:OsState}
  (b:h.get? C=some (excClassObj nm q C N bs bm hdct sn sub ab col dd k0 k1 k2 k3 k5 newId)) (a:h.get? D=some (excClassObj E0 aH D Dx D9 uW Gn Fe F8 D8 Fy ju yA c2 dF DL DM Uo))
  (he:h.get? e=some b1) (k:b1.cls=.ref C) (c:uW.contains (.type "BaseException")=.t) (f9:bm.contains (.ref D)=.t)
  (l:Q .t ⟨h,g,d,t,os⟩):wpAny M A (excMatches (.ref e) (.ref D)) Q E ⟨h,g,d,t,os⟩:=by
 have i:(Value.ref D::uW).contains (.type "BaseException")=.t:=by rw [tE,c,Bool.or_true]
 have j:(Value.ref C::bm).contains (.ref D)=.t:=by rw [tE,f9,Bool.or_true]
 have f:=tc_notTuple
 repeat (first|(with_reducible refine tF he ?_;rw [k])|with_reducible refine tF a ?_|(with_reducible refine wG a ?_;rw [i])|(with_reducible refine wG b ?_;rw [j])|wp_step)
 exact l
end
end PySem
namespace bt
open PySem PySem.Spec PyProof.Rows kM
theorem Inv.lL {σ:St} (I:Inv X pins σ H s) (t:X.ex=[]) (g:hv L (eF X.stack) s.heap h') (f:∀ b∈L,ef X pins b/\H b=.n) :
  Inv X pins σ H { s with heap:=h' }:=by
 have one:∀ b o,b∉L->s.heap.get? b=some o->∃ cB,h'.get? b=some { o with slots:=cB }:=λ b o nl e=>by
  by_cases ae:b∈eF X.stack
  ·exact g.2 b o nl ae e
  ·exact #[o.slots,g.1 b o nl ae e]
 refine #[I.ok,I.os,I.bare,?_,?_,λ x c e=>?_,I.free,I.fT,λ p ar=>?_,I.aS.lL g (λ b ae=>(f b ae).2) I.tO,I.len]
 ·rw [t];have u:=I.base;rw [t] at u;refine u.lL g (λ b ae=>(f b ae).1.s0) λ b ae=>?_
  rcases b5.mp (I.pE b ae) with z|z
  ·refine .inr ?_;cases q:X.s₀.heap.get? b with
   | none=>rfl
   | some o =>
    have:=fi (bZ q) I.ok.above;rw [z] at this;exact absurd this (gZ _)
  ·exact .inl z
 ·obtain ⟨m,⟨o,ah,B,D,r⟩,C⟩:=I.loc;obtain ⟨cB,A⟩:=one X.env.locals o (λ z=>(f _ z).1.loc Y) D;refine #[m,#[_,ah,B,A,r],λ i x v a b c=>?_];obtain ⟨u,E,l⟩:=C i x v a b c;refine #[u,E,?_];rcases l with l|⟨k,c,e,fs,j,hd⟩
  ·exact .inl l
  ·obtain ⟨G,h⟩:=one c fs (λ z=>(f _ z).1.cell x c e Y) j;exact .inr #[k,c,e,_,h,hd]
 ·obtain ⟨v,fs,j,hd⟩:=I.cell x c e;obtain ⟨G,h⟩:=one c fs (λ z=>(f _ z).1.cell x c e Y) j;exact #[v,_,h,hd]
 ·obtain ⟨e,n,ne,w,d⟩:=I.pin p ar;refine #[g.1 p.1 p.2 (λ z=>(f _ z).1.pin p ar Y) (λ z=>?_) e,n,ne,w,d];rcases b5.mp (I.pE p.1 z) with y|y
  ·exact ne y
  ·exact w y
theorem Kz {σ:St} (I:Inv X pins σ H s) (C:X.N.Nodup) (av:X.N[i]?=some x) (ay:X.env.scope.names.lookup x=some .local) (aM:σ[i]?=some (some v))
  (h:∀ s',Inv X pins (σ.set i .n) H s'->Q () s'):wpAny M A (unbindName X.env x) Q E s:=by
 obtain ⟨m,aB,w⟩:=id I.loc;have D:(X.env.scope.kind==.class||(X.env.scope.kind==.module&&X.env.locals != X.env.globals))=.f:=by rw [I.ok.kind];rfl
 obtain ⟨u,_,lk⟩:=w i x v av aM (.inl ay);have hm:m x=some u:=by
  rcases lk with ⟨_,e⟩|⟨k,_⟩
  ·exact e
  ·have dN:X.env.scope.names.lookup x=some .cell\/X.env.scope.names.lookup x=some .free:=k;rw [ay] at dN;rcases dN with z|z<;>cases z
 refine wpAny_unbindName_local ay aB hm D λ h' cm G aA=>?_
 obtain ⟨T,_,_,S,_⟩:=id aB;have t:∀ b o,X.s₀.heap.get? b=some o->b≠X.env.locals:=λ b o e=>cR (fi (bZ e) I.ok.above)
 refine h _ #[I.ok,I.os,I.bare,#[λ b o e n ae f=>?_,λ b o e n ae f=>?_,I.base.free,λ b o e f=>?_,I.base.iW,I.base.iy,I.base.iV],#[_,G,λ j y P a g B=>?_],λ y c e=>?_,I.free,I.fT,λ p ar=>?_,?_,?_]
 ·exact (aA.2 b (t b o e)).trans (I.base.keep b o e n ae f)
 ·obtain ⟨cB,a⟩:=I.base.slot b o e n ae f;exact #[cB,(aA.2 b (t b o e)).trans a]
 ·obtain ⟨er,a⟩:=I.base.there b o e f;exact #[er,(aA.2 b (t b o e)).trans a]
 ·by_cases r:j=i
  ·subst r;have hiσ:=(dK.mp aM).1;rw [pw hiσ] at g;cases g
  ·rw [List.getElem?_set_ne (eT r)] at g;obtain ⟨O,L,q⟩:=w j y P a g B;refine #[O,L,?_];rcases q with ⟨k,e⟩|⟨k,c,e,z⟩
   ·refine .inl #[k,?_];have:y≠x:=λ e=>r (Ce C a (e ▸ av))
    simp [this,e]
   ·exact .inr #[k,c,e,z.sameBut aA (I.l8 y c e)]
 ·obtain ⟨R,z⟩:=I.cell y c e;exact #[R,z.sameBut aA (I.l8 y c e)]
 ·obtain ⟨e,n,ne,J,d⟩:=I.pin p ar;exact #[(aA.2 p.1 ne).trans e,n,ne,J,d]
 ·intro b bQ e;refine (I.aS b bQ e).hQ (λ c cm l q=>(aA.2 c ?_).trans q) (λ Z q=>q) λ Z Z q=>q
  rintro rfl;rcases l with rfl|l
  ·rw [I.free] at e;cases e
  ·rw [I.free] at l;cases l
 ·rw [pI];exact I.len
noncomputable def mx (e C:Addr) (d:Option Addr):fe:=.ext λ h=>∃ b1 vs,h.get? e=some b1/\b1.cls=.ref C/\b1.dict=d/\b1.data=.fields vs/\vs[2]?=some .none
theorem Rec.ok (r:Rec h e (.ref C) d head):eg P w H h e (mx e C d):=by
 obtain ⟨b1,vs,he,g,hd,hf,_,ai⟩:=r;refine #[#[b1,vs,he,g,hd,hf,ai],#[_,he],?_];rintro af ai ⟨i,j,a,b,c,f⟩ k;exact #[i,j,k _ a,b,c,f]
theorem Inv.known {σ:St} (I:Inv X pins σ H s) (h:X.ex=[]) (g:ef X pins e) (he:H e=.n) (ok:eg X.prog X.w (upd H e o) s.heap e o) (j:∀ b∈eF X.stack,b≠e):Inv X pins σ (upd H e o) s:=by
 have i:∀ b bQ,X.s₀.heap.get? b=some bQ->b≠e:=λ b bQ q z=>by rw [z,g.s0] at q;cases q
 refine #[I.ok,I.os,I.bare,#[I.base.keep,I.base.slot,λ b bQ q n h=>by rw [a3 (i b bQ q)];exact I.base.free b bQ q n h,I.base.there,λ b xs q=>?_,λ b bQ u q=>?_,λ b ag q=>?_],I.loc,I.cell,?_,λ x c q=>?_,λ p ar=>?_,λ b bQ q=>?_,I.len]
 ·have:=I.base.iW b xs q;rw [a3 (b0 this he)];exact this
 ·have:=I.base.iy b bQ u q;rw [a3 (b0 this he)];exact this
 ·obtain ⟨m,this⟩:=I.base.iV b ag q;exact #[m,by rw [a3 (b0 this he)];exact this]
 ·rw [a3 (eT g.loc)];exact I.free
 ·rw [a3 (g.cell x c q)];exact I.fT x c q
 ·obtain ⟨a,b,c,d,f⟩:=I.pin p ar;exact #[a,by rw [a3 (g.pin p ar)];exact b,c,d,f]
 ·by_cases z:b=e
  ·subst z;rw [bc] at q;cases q;exact ok
  ·rw [a3 z] at q;refine (I.aS b bQ q).hQ (λ Z Z Z q=>q) (λ c q=>?_) λ c xs q=>?_
   ·rw [a3 (b0 q he)];exact q
   ·rw [a3 (b0 q he)];exact q
noncomputable abbrev iC (X:a5) (pins:eP) (W:dc):a5 :=
 { X with hE:=X.hE++pins,ct:=λ e s1=>wpAny (model X.prog X.w) X.A (noteFrame e X.env) (λ Z s2=>wpAny (model X.prog X.w) X.A (setFlight e .n) (λ Z s3=>W e s3) X.ct s2) X.ct s1 }
noncomputable abbrev i0 (X:a5) (e:Addr):a5:={ X with A:=X.A.mark (some (.ref e)),calm:=.f,warm:=.f,ct:=λ Z Z=>False }
section
variable {X:a5} {pins qQ:eP} {σ:St} {H:aC} {s:Shared} {W:dc} {e:Addr}
theorem a5.Ok.s_ (ok:X.Ok):(iC X pins W).Ok :=
 #[ok.mod,ok.kind,ok.glob,ok.blt,ok.above,ok.inj,ok.has,ok.kZ,ok.hd,ok.frames,ok.mq,ok.oO,ok.bs,ok.hg,ok.lh,ok.my,ok.gc,ok.il]
theorem a5.Ok.fm (ok:(iC X pins W).Ok):X.Ok :=
 #[ok.mod,ok.kind,ok.glob,ok.blt,ok.above,ok.inj,ok.has,ok.kZ,ok.hd,ok.frames,ok.mq,ok.oO,ok.bs,ok.hg,ok.lh,ok.my,ok.gc,ok.il]
theorem a5.Ok.wj (ok:X.Ok):(i0 X e).Ok :=
 #[ok.mod,ok.kind,ok.glob,ok.blt,ok.above,ok.inj,ok.has,ok.kZ,#[λ h=>(nomatch h),λ h=>(nomatch h)],ok.frames,ok.mq,ok.oO,ok.bs,ok.hg,ok.lh,ok.my,ok.gc,ok.il]
theorem Inv.s_ (I:Inv X pins σ H s):Inv (iC X pins W) [] σ H s :=
 #[I.ok.s_,I.os,I.bare,I.base,I.loc,I.cell,I.free,I.fT,λ p ar=>I.pin p (by rw [nQ] at ar;exact ar),I.aS,I.len]
theorem Inv.fm (I:Inv (iC X pins W) qQ σ H s):Inv X pins σ H s :=
 #[I.ok.fm,I.os,I.bare,I.base,I.loc,I.cell,I.free,I.fT,λ p ar=>I.pin p (pv _ ar),I.aS,I.len]
theorem Inv.wj (I:Inv X pins σ H s):Inv (i0 X e) pins σ H s:=#[I.ok.wj,I.os,I.bare,I.base,I.loc,I.cell,I.free,I.fT,I.pin,I.aS,I.len]
theorem Inv.ob (ok:X.Ok) (I:Inv (i0 X e) pins σ H s):Inv X pins σ H s:=#[ok,I.os,I.bare,I.base,I.loc,I.cell,I.free,I.fT,I.pin,I.aS,I.len]
theorem ef.fm (f:ef (iC X pins W) qQ b):ef X pins b:=#[f.s0,f.loc,f.cell,λ p ar=>f.pin p (pv _ ar)]
end
theorem WR (i:X.ex=[]) (c:X.stack=X.env::X.outer) (hf:X.env.frame=some X.env.locals)
  (l:∀ (σ:St) H s e C T d,Inv X pins σ H s->ef X pins e->H e=.n->Rec s.heap e (.ref C) d (.ref T)->Ent s.heap T .none->T≠e->ef X pins T->H T=.n->E (.ref C) d H->W (.ref e) s):oM (iC X pins W) E:=by
 intro qQ σ H s e C d head o I g f q n h k;have a:=I.fm;have m:X.A.frames=some (X.env::X.outer):=by rw [<-c];exact a.ok.frames
 have p:s.heap.FunFrames X.base (X.env::X.outer):=by rw [<-c];exact a.stack
 refine landed m p hf q n λ h' T bA u r v t1=>?_
 have t:hv (e::o) (eF X.stack) s.heap h':=by rw [c];exact r
 have j:=a.lL i t λ b ae=>by
  rcases b5.mp ae with z|z
  ·rw [z];exact #[g.fm,f]
  ·exact #[(h b z).1.fm,(h b z).2]
 exact l σ H _ e C T d j g.fm f v t1 u (ef.of a i bA) (a.aS.gone bA) k
structure Under (K:aT) (C F:Addr):Prop where
 is:PySem.W.excIn K C ih "ValueError.__new__" = .t
 EM:PySem.W.mroIn K C (.ref F)=some .t
 ne:C≠F
def Th (K:aT) (F:Addr) (i:Nat) (E:dZ) (aQ bH:c9):c9:=λ D σ H=>aQ D σ H/\∀ C d H1,E (.ref C) d H1->Under K C F/\∀ e (σ1:St),H1 e=.n->i<σ1.length ->
 bH { bg:=λ σ2 ao=>D.bg ((σ2.set i (some .aX)).set i .n) ao,jo:=D.jo,aN:=λ σ2 ao=>D.aN ((σ2.set i (some .aX)).set i .n) ao,cG:=λ σ2 ao=>D.cG ((σ2.set i (some .aX)).set i .n) ao } (σ1.set i (some (.ref e))) (upd H1 e (mx e C d))
set_option tactic.hygienic true in
theorem UX (B:X.ex=[]) (mf:X.stack=X.env::X.outer) (hf:X.env.frame=some X.env.locals) (P:jz X.K X.mg x F) (kR:cI X x)
  (p:X.N.Nodup) (av:X.N[i]?=some n) (ay:X.env.scope.names.lookup n=some .local)
  (ae:∀ pins W,oM (iC X pins W) E->f7 (iC X pins W) body aQ) (aA:∀ e,f7 (i0 X e) (l::J) bH) (hd:(x==("__debug__" : Str))=.f:=by decide) :
  e0 X (.Try body [.ExceptHandler (some (.Name x np)) (some n) (l::J) t] [] [] pos) (Th X.K F i E aQ bH):=#[by
 rintro pins s σ H D I ⟨af,ai⟩;refine wpAny_Try_except ?_;have yx:∀ σ H s e C T d,Inv X pins σ H s->ef X pins e->H e=.n->Rec s.heap e (.ref C) d (.ref T)->Ent s.heap T .none->T≠e->ef X pins T->H T=.n->E (.ref C) d H ->
   wpAny (model X.prog X.w) X.A (handleBy (.ref e) X.env [.ExceptHandler (some (.Name x np)) (some n) (l::J) t]) (gJ X pins D) X.ct s:=by
  intro σ H s e C T d I DF L R aI z4 OM c7 rR;obtain ⟨aU,zU⟩:=ai C d H rR;have hiσ:i<σ.length:=by rw [I.len];exact (dK.mp av).1
  refine wpAny_handleBy_cons (codeAny_handlers_test (v5 I.ok.kind kR (Ba (by rw [I.ok.glob];exact I.mod.glob.keeps I.aN) P.at_ ?_) hd)) (by intro q;cases q);obtain ⟨bm,N,nm,q,bs,hdct,sn,sub,ab,col,dd,k0,k1,k2,k3,k5,mN,Q,adA,adG,yg⟩:=((jz.own (mg:=λ _=>some (.ref C)) (x:=x) #[Y,aU.is]) I.cT).obj;obtain ⟨uW,Dx,E0,aH,D9,Gn,Fe,F8,D8,Fy,ju,yA,c2,dF,DL,DM,adT,PW,aeb,aef,PD⟩:=(P.own I.cT).obj;obtain ⟨b1,vs,he,zE,Qg,Qi,QR⟩:=id R;have f9:bm.contains (.ref F)=.t:=by
   have m:=aU.EM;unfold PySem.W.mroIn at m;obtain ⟨cd,a,b⟩:=q0.mp m;unfold PySem.W.clsIn at a;split at a
   ·rename_i j;have z:=I.cT _ _ j;rw [Q] at z;cases z;cases a;split at b
    ·cases b
    ·have O:=dS b;rw [tE] at O;rcases Bool.or_eq_true_iff.mp O with y|y
     ·have:=i2.mp y;injection this with this;exact absurd this.symm aU.ne
     ·exact y
   ·cases a
  refine aci Q PW he zE (PD.hasType wF.hasBase) f9 ?_;refine codeAny_handlers_suite_as ?_;refine land (F:=eF X.stack) R aI z4 (λ b ae z=>?_) λ h' yC S t1=>?_
  ·obtain ⟨_,o,j,r⟩:=I.stack.mem ae;obtain ⟨O9,Ag,bA,zG,_⟩:=aI;rw [z,bA] at j;injection j with j;subst j;exact r Ag zG
  have M:=I.lL B yC λ b ae=>by rw [dH.mp ae];exact #[OM,c7]
  have uv:=M.known B DF L (Rec.ok S) λ b ae z=>by
   obtain ⟨_,o,j,r⟩:=M.stack.mem ae;obtain ⟨RI,Ak,sm,_,_,zF,_⟩:=S;rw [z] at j;have:=sm.symm.trans j;injection this with this;subst this;exact r Ak zF
  refine rq uv p av (.inl ay) (v:=.ref e) Y (λ s2 Og=>?_) (.inr ay);refine eU ((aA e).o pins s2 _ _ _ Og.wj (zU e σ L hiσ)) (λ f s3 k=>?_) λ _ _ z=>z.elim
  have fin:∀ σ3 c (Z:Flow->Shared->Prop) , Inv X pins σ3 c s3->(∀ s5,Inv X pins ((σ3.set i (some .aX)).set i .n) c s5->Z f s5) ->
    wpAny (model X.prog X.w) X.A (do bindName X.env n .none;unbindBehindTheSuite X.env n t) (λ _ s5=>Z f s5) X.ct s3:=by
   intro σ3 c Z g yy;have zM:i<σ3.length:=by rw [g.len];exact (dK.mp av).1
   refine az (wpAny_bindName (rq g p av (.inl ay) (v:=.aX) Y (λ s4 uw=>?_) (.inr ay)));exact lD (Kz uw p av ay (pw zM) λ s5 h=>yy s5 h)
  cases f with
  | next =>
   obtain ⟨σ3,c,g,q⟩:=k;exact fin σ3 c (gJ X pins D) (g.ob I.ok) λ s5 h=>#[_,_,h,q]
  | brk =>
   obtain ⟨σ3,c,g,q⟩:=k;exact fin σ3 c (gJ X pins D) (g.ob I.ok) λ s5 h=>#[_,_,h,q]
  | cont =>
   obtain ⟨σ3,c,g,q⟩:=k;exact fin σ3 c (gJ X pins D) (g.ob I.ok) λ s5 h=>#[_,_,h,q]
  | ret u =>
   obtain ⟨v,σ3,c,g,G,q⟩:=k;exact fin σ3 c (gJ X pins D) (g.ob I.ok) λ s5 h=>#[v,_,_,h,G,q]
 have y1:oM (iC X pins λ e s3=>wpAny (model X.prog X.w) X.A (handleBy e X.env [.ExceptHandler (some (.Name x np)) (some n) (l::J) t]) (gJ X pins D) X.ct s3) E:=WR B mf hf yx;refine eU ((ae pins _ y1).o [] s σ H D I.s_ af) (λ f s1 k=>?_) λ _ _ z=>z
 cases f with
 | next =>
  obtain ⟨σ3,c,g,q⟩:=k;exact px #[σ3,c,g.fm,q]
 | brk =>
  obtain ⟨σ3,c,g,q⟩:=k;exact #[σ3,c,g.fm,q]
 | cont =>
  obtain ⟨σ3,c,g,q⟩:=k;exact #[σ3,c,g.fm,q]
 | ret u =>
  obtain ⟨v,σ3,c,g,G,q⟩:=k;exact #[v,σ3,c,g.fm,G,q]]
theorem gy.ke {K:aT} {st:Stmt} (F:gy K x qual st f fd) (S:bF N ag (bk st)) (len:∀ vs H Q E,sp vs H Q E->vs.length=ag.length)
  (c:∀ a0 A outer s H vs Q E,c6 k (A.deeper (envOfC qual (bk st) s.heap.objs.size f a0))->sp vs H Q E ->
   ∃ t,f7 (ix (f6 P w) P w K mg base N qual (bk st) f a0 A outer s H E) (jR st) t/\t { bg:=λ Z H'=>Q .aX H',jo:=Q } (start N vs) H):dO P w K mg base (f6 P w) (k+1) f fd ag sp:=by
 obtain ⟨fs,cZ,c_,doc,pm,an,a0,cG,mm,rfl,lk,d⟩:=F.ex;exact Gm lk d S len λ A outer s H vs Q E e g=>let ⟨t,a,b⟩:=c a0 A outer s H vs Q E e g;⟨t,a.o,b⟩
end bt
namespace PySem.W
open PySem PySem.Spec PySem.Calls PyProof.Rows
section
variable {prog:Program} {w:World} {A:Around} {E:dc} {s:Shared} {K:Frag} {x C:Addr} {l0:Obj} {cZ:Option Obj}
theorem abc (b:(clsIn K C).isSome=.t) (au:findIn K (.ref C) name=some (some a)) (c:specialIn K a "__get__" = some (some g)) (aI:takesIn K a=some .t):findObj K C cZ name=some (.bind g a):=by
 obtain ⟨cd,b⟩:=tc.mp b;unfold findObj;rw [b,Option.bind_some,au,Option.bind_some];simp [c,aI]
structure iv (K:Frag) (C:Addr):Prop where
 cls:(clsIn K C).isSome=.t
 ga:findIn K (.ref C) "__getattribute__" = some (some (.builtin "BaseException.__getattribute__"))
 DI:findIn K (.ref C) "__getattr__" = some .n
 at_:findIn K (.ref C) "__class__" = some (some (.builtin "object.__class__"))
 get:specialIn K (.builtin "object.__class__") "__get__" = some (some (.builtin "getset_descriptor.__get__"))
 a6:takesIn K (.builtin "object.__class__")=some .t
 bQ:mroIn K C (.type "object")=some .t
 be:mroIn K C (.type "BaseException")=some .t
theorem Yq (X:K.In s.heap) (I:InstAt s.heap x l0 C cZ) (c:iv K C) (h:Q (.done (.ret (.ref C))) s) :
  wpAny (model prog w) A (Builtin.«object.__getattribute__» ⟨[.ref x,.str "__class__" a6],[]⟩) Q E s:=by
 obtain ⟨e,g,d,t,os⟩:=s;have a:=I.type (M:=model prog w);have b:=looks_find (M:=model prog w) X I (abc c.cls c.at_ c.get c.a6);refine az (bl (az (bl (az (a.at (az (b.at ?_)))))));exact az (eS (ko (class_get X I c.bQ (bl h))))
theorem Jx (X:K.In s.heap) (I:InstAt s.heap x l0 C cZ) (c:iv K C) (h:Q () s):wpAny (model prog w) A (checkBuiltinCall "BaseException.__getattribute__" ⟨[.ref x,e],[]⟩) Q E s:=by
 have ay:builtinKind "BaseException.__getattribute__" = some .slot:=by decide +kernel
 have i:splitId "BaseException.__getattribute__" = some ("BaseException", "__getattribute__"):=by decide +kernel
 have au:=F.args_bexc_ga (.ref x) e;obtain ⟨f,g,d,t,os⟩:=s;have a:=I.type (M:=model prog w);have b:=looks_mroIn (M:=model prog w) X c.be;refine az ?_;refine az (a.at (b.at ?_))
 repeat (first|assumption|wp_step)
theorem Yp (X:K.In s.heap) (I:InstAt s.heap x l0 C cZ) (c:iv K C) (h:Q (some (.ref C)) { s with toks:=s.toks+1 }):wpAny (model prog w) A (getAttr? (.ref x) "__class__") Q E s:=by
 obtain ⟨f,g,d,t,os⟩:=s;have a:=I.type (M:=model prog w);have b:=tG (M:=model prog w) X c.ga;have bt:=tG (M:=model prog w) X c.DI;have e:=wH.ga.bind (.ref x);refine az (wpAny_mkText (az (lu (eS (az (a.at (az (b.at ?_))))))));refine az (bt.at (az (lu (eS ?_))));show wpAny _ _ (boundAndCalled _ _ _) _ _ _
 repeat (any_goals (wp_step))
 refine tH wH.ga.plain PySem.F.entry_bexc_ga (Jx X I c (Yq X I c ?_));exact handed_on rfl (bl h)
def Sh (x C:Addr) (h:Heap):Prop:=∃ l0 cZ,InstAt h x l0 C cZ
set_option tactic.hygienic true in
theorem Xq (c:iv K C):KitX K (.ref x) (.ref C) (Sh x C) where
 ty:=λ _ _ _ ⟨_,_,I⟩=>I.type
 it:=λ Z Z X Z=>by
  obtain ⟨g,a⟩:=tc.mp c.cls;unfold clsIn at a;split at a
  ·rename_i d i f l b;intro m p o s' k q;exact az (wpAny_loadPart (k _ _ (X _ _ b)) (bl q))
  ·cases a
 ne:=λ h t dd r n cB X j=>by
  obtain ⟨g,a⟩:=tc.mp c.cls;refine mR.mpr λ q=>?_
  have e:=Value.ref.inj (i2.mp q);subst e;unfold clsIn at a;split at a
  ·rename_i d i f l b;have z:=(X _ _ b).symm.trans j;cases z
  ·cases a
 ca:=λ X ⟨_,_,I⟩ k=>Yp X I c k
end
end PySem.W
namespace bt
open PySem PySem.Spec PyProof.Rows kM
noncomputable def Sl:V->cE
 | .ref a=>some (.ref a)
 | .ty T=>some (.type T)
 | _=>.n
inductive AG (K:aT):bj->aC->cj->Prop
 |mk {xs H Q} (e C c uC b):xs=[.ref e,c]->H e=some (mx e C .n)->Sl c=some uC->PySem.W.iv K C->PySem.W.kitOne K (.ref C) uC=some b->Q (.aJ b) H->AG K xs H Q
theorem iG:dG X (.builtin "isinstance") (AG X.K):=by
 intro pins s σ H xs us Q I r h;obtain ⟨e,C,c,uC,b,rfl,he,d,e4,ay,q⟩:=h;obtain ⟨u,cm,rfl,i,rc⟩:=vals2 r;cases i;have hw:cm=uC:=by
  cases c with
  | ref a=>cases d;exact rc
  | ty T=>cases d;exact rc
  | _=>cases d
 subst hw;obtain ⟨⟨b1,vs,af,ai,f,g,_⟩,_,_⟩:=(I.aS e _ he)
 refine jH (PySem.W.Xq e4) I.cT #[b1,.n,af,ai,?_,?_] ay (λ z=>?_) λ a6=>#[.aJ b,H,I.tok _,Y,q]
 ·unfold PySem.W.notCls;rw [g]
 ·rw [f];trivial
 ·cases z
structure gV (k:Nat) (A:Around):Prop where
 ep:A.depth+3*k+5<recursionLimit
 un:A.units+16*k+200<cLine
theorem c6.u (r:c6 k A):gV k A:=#[r.ep,r.un]
theorem c6.mark (r:c6 k A) (e):gV k (A.mark e):=#[r.ep,r.un]
theorem gV.mono (r:gV k A) (h:j<=k):gV j A:=#[by have:=r.ep;omega,by have:=r.un;omega]
theorem gV.deeper (r:gV (k+1) A) (env):gV k (A.deeper env) :=
 #[by have:=r.ep;show A.depth+1+3*k+5<_;omega,by have:=r.un;show A.units+3+16*k+200<_;omega]
theorem gV.depth (r:gV k A):A.depth<recursionLimit:=by have:=r.ep;omega
structure AO (P:Program) (w:World) (K:aT) (mg:Str->cE) (base:Heap) (k:Nat) (f:Addr) (fd:FuncData) (ag:b2) (sp:bz):Prop where
 len:∀ vs H Q E,sp vs H Q E->vs.length=ag.length
 run:∀ (A:Around) (outer:List Env) (s:Shared) (H:aC) (args:Args) (us:List Value) (vs:bj) (Q:cj) (E:dZ),gV k A->kg P w K mg base A outer s H->BindsTo s fd args (ag.zip us)->Vals vs us->sp vs H Q E ->
  codeAny (model P w) A (.call (.ref f) args) (x7 bY outer P w H s Q E) s
noncomputable abbrev uY (P:Program) (w:World) (K:aT) (mg:Str->cE) (base:Heap) (N:b2) (qual:Str) (scope:Scope) (f:Addr) (cd:Value) (A:Around) (outer:List Env) (s:Shared) (H:aC) (E:dZ):a5 :=
 { ix bY P w K mg base N qual scope f cd A outer s H E with calm:=.f,warm:=.f,ct:=λ Z Z=>False }
theorem ZM {K:aT}
  (S:bF N ag scope) (a:kg P w K mg base A outer s H) (b:vs.length=ag.length) (r:Vals vs us)
  (x:InCallC s s.heap.objs.size (bindL (envOfC qual scope s.heap.objs.size f cd).kindOf (ag.zip us) λ Z=>.n) (cellsFrom (s.heap.objs.size+1) scope.names []) (bindC (envOfC qual scope s.heap.objs.size f cd).kindOf (ag.zip us) λ Z=>.n) s1) :
  Inv (uY P w K mg base N qual scope f cd A outer s H E) [] (start N vs) H s1:=by
 have I:Inv (ix bY P w K mg base N qual scope f cd ({ A with handled:=.n }) outer s H E) [] (start N vs) H s1:=CC S rfl #[a.frames,a.mod,a.bs,a.hg,a.gc,a.il,a.aS,a.bare] b r x;have ok:=I.ok;exact #[#[ok.mod,ok.kind,ok.glob,ok.blt,ok.above,ok.inj,ok.has,ok.kZ,#[λ h=>(nomatch h),λ h=>(nomatch h)],ok.frames,ok.mq,ok.oO,ok.bs,ok.hg,ok.lh,ok.my,ok.gc,ok.il],I.os,I.bare,I.base,I.loc,I.cell,I.free,I.fT,I.pin,I.aS,I.len]
theorem gy.RJ {K:aT} {st:Stmt} (F:gy K x qual st f fd) (S:bF N ag (bk st)) (len:∀ vs H Q E,sp vs H Q E->vs.length=ag.length)
  (i:∀ a0 A outer s H vs Q E,gV k (A.deeper (envOfC qual (bk st) s.heap.objs.size f a0))->sp vs H Q E ->
   ∃ t,f7 (uY P w K mg base N qual (bk st) f a0 A outer s H E) (jR st) t/\t { bg:=λ Z H'=>Q .aX H',jo:=Q } (start N vs) H):AO P w K mg base (k+1) f fd ag sp:=by
 obtain ⟨fs,cZ,c_,doc,pm,an,a0,cG,mm,rfl,lk,j⟩:=F.ex;refine #[len,λ A outer s H args us vs Q E g a ae r h=>?_];have m:=len _ _ _ _ h;have d:=a.mod.hN.keeps λ b o e=>(a.bs b o e).1
 have lim:=a.mod.nolimit.keeps λ b o e=>(a.bs b o e).1
 have l:∀ y∈ag.zip us,(bk st).names.lookup y.1=some .local\/((bk st).names.lookup y.1=some .cell/\((cellsFrom (s.heap.objs.size+1) (bk st).names []).lookup y.1).isSome=.t):=λ ⟨n,v⟩ z=>by
  rcases S.par n (mL z).1 with q|q
  ·exact .inl q
  ·exact .inr #[q,v8 _ _ _ (.inl q)]
 refine Bp g.depth (d _ _ lk) rfl S.co S.gen rfl (Bq d j) (ae _ _ _ _ ?_);refine Br S.kind l λ env he s1 x=>?_
 subst he;refine #[lim.keeps x.toInCall.keep,codeAny_func ?_];obtain ⟨t,aI,p⟩:=i a0 A outer s H vs Q E (g.deeper _) h;have I:Inv (uY P w K mg base N qual (bk st) f a0 A outer s H E) [] (start N vs) H s1:=ZM S a m r x;refine eU (aI.o [] s1 (start N vs) H _ I p) (λ fl s' aA=>?_) λ e s' aA=>aA.elim
 have fin:∀ {σ':St} {H':aC} {v:V} {u:Value},Inv (uY P w K mg base N qual (bk st) f a0 A outer s H E) [] σ' H' s'->RelV v u->Q v H'->p9 outer P w H s Q u s' :=
  λ {σ' H' v u} J c q=>#[v,H',J.os,J.bare,J.base,J.aS,c,q]
 cases fl with
 | ret u =>
  obtain ⟨v,σ',H',J,c,q⟩:=aA;exact fin J c q
 | next =>
  obtain ⟨σ',H',J,q⟩:=aA;exact fin (v:=V.aX) J rfl q
 | brk =>
  obtain ⟨_,_,_,q⟩:=aA;exact False.elim q
 | cont =>
  obtain ⟨_,_,_,q⟩:=aA;exact False.elim q
section
variable {X:a5} {k:Nat} {f:Addr} {fd:FuncData} {ag:b2} {sp:bz} {x:Str} {p pos:Pos} {e:Expr} {ah:List Expr} {t:dh}
theorem X7 (F:AO X.prog X.w X.K X.mg X.base k f fd ag sp) (j:gV k X.A) (g:cI X x) (hm:X.mg x=some (.ref f)) (ay:PySem.W.keepIn X.K (.ref f)=.t) (ae:Binds X.K fd ag [])
  (au:dM X (e::ah) t) (d:(x==("__debug__" : Str))=.f:=by decide) (l:noStar e=.t:=by rfl) (cu:(backTo pos (starEach ah X.env)).any (·.1)=.f:=by rfl) :
  a7 X (.Call (.Name x p) (e::ah) [] pos) (nK sp [] gs t):=#[by
 intro pins s σ H Q I h;refine kp (jS I g hm ?_ d);refine pB I.ok.mod.hN ay (a8 (au.o pos pins s σ H _ I h) ?_) (p6 l ah X.env) cu;rintro us s1 ⟨vs,H1,b,r,q⟩;refine #[b.cT,?_];have c:=r.append .nil;have i:(us++[]).length=ag.length:=by rw [<-c.length];exact F.len _ _ _ _ q
 refine ko (jI (F.run X.A X.stack s1 H1 #[us,[]] (us++[]) (vs++[]) Q gs j b.o2 (ae s1 us b.cT i) c q) λ r s' a=>?_);cases r with
 | error e=>exact False.elim a
 | ok fl =>
  cases fl with
  | ret u=>exact b.after a
  | next=>exact False.elim a
  | brk=>exact False.elim a
  | cont=>exact False.elim a]
end
open PySem PySem.Spec PySem.SeqAt PyProof.Rows kM
theorem Mh (k):∀ bs:List Bool,(bs.map Value.bool).countP (isBoolOf k)=bs.count k
 | []=>rfl
 | b::bs=>by
  rw [fv,List.countP_cons,List.count_cons,Mh k bs];rfl
theorem IG (k) (bs:List Bool) (y) (a:y∈bs.map Value.bool) (A) (s):EqAt A s y (.bool k) (isBoolOf k y):=by
 obtain ⟨b,_,rfl⟩:=c0.mp a;exact EqAt.bool_bool b k
section
variable {X:a5}
def Wq:V->bj->aC->cj->Prop:=λ x vs H Q=>∃ (l:Addr) (bs:List Bool) (k:Bool),x=.ref l/\vs=[.aJ k]/\H l=some (.lst (bs.map V.aJ))/\Q (.int (bs.count k)) H
theorem YY:l6 X "list.count" Wq:=by
 intro pins s σ H x vs v us Q I f d h;obtain ⟨l,bs,k,rfl,rfl,a,q⟩:=h;cases f;obtain ⟨u,rfl,c⟩:=d.one;cases c;obtain ⟨z,i,n,r,g,e⟩:=I.fQ a;cases w9 r;refine jM PySem.F.slot_list_count #[_,e,Y] PySem.F.entry_list_count (PySem.F.args_list_count_2 _ _) (list_countAt l _ n .n #[] (.bool k) (isBoolOf k)) #[e,λ y b=>IG k bs y (by simpa using b) _ _,?_];refine #[.int (bs.count k),H,I.tok _,#[s.toks,?_],q];rw [show (bs.map Value.bool).toArray.toList=bs.map Value.bool from rfl,Mh]
def Wr:V->bj->aC->cj->Prop:=λ x vs H Q=>∃ (l:Addr) (bs:List Bool) (k:Bool) (j:Nat),x=.ref l/\vs=[.aJ k]/\H l=some (.lst (bs.map V.aJ))/\bs[j]?=some k/\(∀ m,m<j->bs[m]?=some (!k))/\bs.length<=1000/\Q (.int j) H
theorem YZ:l6 X "list.index" Wr:=by
 intro pins s σ H x vs v us Q I p o h;obtain ⟨l,bs,k,j,rfl,rfl,c,a,ae,w,q⟩:=h;cases p;obtain ⟨u,rfl,i⟩:=o.one;cases i;obtain ⟨z,A,n,r,t,e⟩:=I.fQ c;cases w9 r;have b:=(dK.mp a).1;refine jM PySem.F.slot_list_index #[_,e,Y] PySem.F.entry_list_index (PySem.F.args_list_index_2 _ _)
  (list_indexAt l _ n .n #[] (.bool k) (isBoolOf k) j (by simpa using b) .ak ?_ ?_) #[e,λ y g=>IG k bs y (by simpa using g) _ _,#[.int j,H,I.tok _,#[s.toks,Y],q]]
 ·have:bs[j]=k:=by rw [cV b] at a;exact dS a
  simp [isBoolOf,this]
 ·intro m hm d;have ai:=ae m d;have f:m<bs.length:=by omega
  have:bs[m] = !k:=by rw [cV f] at ai;exact dS ai
  simp [isBoolOf,this]
end
section
variable {K:aT} {a b D:Addr} {js:List (Option Nat)} {g:fp} {bx:TE} {σ:St} {H1:aC} {Q:cj}
theorem W4 (aB:min xs.length ys.length<=sizeLine) (Pv:Nat->St->aC->bj->Prop) (h0:Pv 0 (pick js σ) (upd H1 D (.lst [])) [])
  (j:∀ i σ' H' zs,H' D=some (.lst zs)->Pv i σ' H' zs->aL K H' a xs/\aL K H' b ys)
  (aA:∀ i x y p σ' H' zs (R:St->V->aC->Prop),xs[i]?=some x->ys[i]?=some y->H' p=.n->H' D=some (.lst zs)->zs.length=i->Pv i σ' H' zs->(∀ σ2 z e,e D=some (.lst zs)->Pv (i+1) σ2 (upd e D (.lst (zs++[z]))) (zs++[z])->R σ2 z e) ->
   g (.ref p) σ' (upd H' p (.tup [x,y])) λ σ2 l=>bx σ2 l λ z e=>R σ2 z e)
  (r:∀ σ' H' zs,H' D=some (.lst zs)->zs.length=min xs.length ys.length->Pv (min xs.length ys.length) σ' H' zs->Q (.ref D) H'):gf (oJ K a b) D js g h1 bx σ H1 Q:=by
 refine ry aB Pv h0 (λ i σ' H' zs av d p=>?_) (λ σ' H' zs d m c=>#[?_,r σ' H' zs d m c]) λ i σ' H' zs x ao R av d u p s k=>?_
 ·obtain ⟨f,h⟩:=j i σ' H' zs d p;have af:i<xs.length:=by omega
  have ai:i<ys.length:=by omega
  exact #[xs,ys,xs[i],ys[i],f,h,by simp [af],by simp [ai]]
 ·obtain ⟨f,h⟩:=j _ σ' H' zs d c;exact #[xs,ys,f,h,.ak]
 ·obtain ⟨f,h⟩:=j i σ' H' zs d p;obtain ⟨q,o,rfl,v,w,rfl,t⟩:=s;obtain ⟨ex,n⟩:=t xs ys f h;exact aA i v w q σ' H' zs R ex n o d u p k
end
theorem De {K:aT} (ar:pick js σ=o::σ0) (aB:xs.length<=sizeLine) (b:H1 D=.n) (d:aL K H1 a xs)
  (aA:∀ x H' R,ax H1 H'->x∈xs->R (f x) H'->bx (some x::σ0) H' R) (q:Q (.ref D) (upd H1 D (.lst (xs.map f)))):gf (nr K a) D js (e8 0) h1 bx σ H1 Q:=by
 refine tQ aB (λ i σ' H' ys=>(∃ u,σ'=u::σ0)/\ys=(xs.take i).map f/\H'=upd H1 D (.lst ys)) #[#[o,ar],Y,Y] ?_ ?_ ?_
 ·rintro i σ' H' ys _ _ ⟨_,rfl,rfl⟩;exact d.w8 b
 ·rintro i x σ' H' ys R c _ _ ⟨⟨u,rfl⟩,rfl,rfl⟩ k;refine aA x _ _ (cb.ax.new b) (cg c) (k _ _ _ bc #[#[_,Y],(p7 c).symm,B6])
 ·rintro σ' H' ys _ _ ⟨_,rfl,rfl⟩;rw [ky];exact q
theorem jT {K:aT} (a:X.K=K) (b:X.warm=.t) (h:qp X ah t) (aB:(assignEach ah X.env).length=n:=by rfl) (c:(assignEach ah X.env).findIdx? (·.1)=.n:=by rfl):jf X (.Tuple ah k pos) (nC K n t):=by
 subst a;exact hs b h aB c
def Tg (c:TT) (t u:c9):c9:=λ D σ H=>∃ J,(c σ H λ b H1=>if b=.t then t { D with bg:=J } σ H1 else u { D with bg:=J } σ H1)/\∀ σ' H',J σ' H'->D.bg σ' H'
theorem qW (e:h5 X c cS) (au:f7 X a t) (ae:f7 X b u):e0 X (.If c a b pos) (Tg cS t u):=#[by
 rintro pins s σ H D I ⟨J,af,ai⟩;refine a8 ((bM e au ae).o pins s σ H { D with bg:=J } I af) λ f s' aA=>?_
 cases f with
 | next=>obtain ⟨σ',H',d,q⟩:=aA;exact #[σ',H',d,ai σ' H' q]
 | brk=>exact aA
 | cont=>exact aA
 | ret u=>exact aA]
end bt
namespace PySem.W
theorem CT (h:mroIn K C b=some r):(clsIn K C).isSome=.t:=by
 obtain ⟨cd,a,_⟩:=q0.mp h;rw [a];rfl
theorem Xp:kitOne K (.ref C) (.ref C)=some .t:=by
 unfold kitOne;rw [if_pos .zs]
theorem YS (ty:typeIn K (.ref D)=some (.type "type")) (mo:mroIn K D (.type "object")=some .t) (m:mroIn K C (.ref D)=some .f) (n:C≠D):kitOne K (.ref C) (.ref D)=some .f:=by
 unfold kitOne;rw [if_neg (λ z=>n (by have:=i2.mp z;injection this))];show (if ((clsIn K D).isSome&&typeIn K (.ref D)==some (.type "type"))=.t then subIn K (.ref C) (.ref D) else .n)=_;rw [CT mo,ty];exact m
theorem Vu (m:mroIn K C (.type "ValueError")=some .t):kitOne K (.ref C) (.type "ValueError")=some .t:=by
 unfold kitOne;rw [if_neg (λ z=>by cases i2.mp z)];show (if kitMeta "ValueError" = .t then subIn K (.ref C) (.type "ValueError") else .n)=_;rw [if_pos (by decide +kernel)];exact m
end PySem.W
namespace cA
noncomputable def lg (p:Nat):Nat->Nat->Nat
 | 0,_=>0
 | f+1,n=>if 2<=p/\1<=n/\n%p=0 then lg p f (n/p)+1 else 0
theorem JS (p):∀ f n,n<=f->lg p (f+1) n=lg p f n
 | 0,n,h=>by
  obtain rfl:n=0:=by omega
  exact if_neg (λ z=>by omega)
 | f+1,n,h=>by
  show (if 2<=p/\1<=n/\n%p=0 then lg p (f+1) (n/p)+1 else 0)=if 2<=p/\1<=n/\n%p=0 then lg p f (n/p)+1 else 0
  by_cases q:2<=p/\1<=n/\n%p=0
  ·rw [if_pos q,if_pos q,JS p f (n/p) (by have:=lH q.2.1 q.1;omega)]
  ·rw [if_neg q,if_neg q]
theorem BH (p n):∀ k,lg p (n+k) n=lg p n n
 | 0=>rfl
 | k+1=>by rw [show n+(k+1)=(n+k)+1 from rfl,JS p (n+k) n .ak];exact BH p n k
noncomputable def cnt (p:Nat) (n:Nat):Nat:=lg p n n
theorem HE (p n):cnt p n=if 2<=p/\1<=n/\n%p=0 then cnt p (n/p)+1 else 0:=by
 have e:cnt p n=lg p (n+1) n:=(BH p n 1).symm;rw [e];show (if 2<=p/\1<=n/\n%p=0 then lg p n (n/p)+1 else 0)=_;by_cases q:2<=p/\1<=n/\n%p=0
 ·rw [if_pos q,if_pos q];have lt:=lH q.2.1 q.1;have:=BH p (n/p) (n-n/p);rw [show n/p+(n-n/p)=n by omega] at this;rw [this];rfl
 ·rw [if_neg q,if_neg q]
theorem wR (ar:2<=p) (aB:1<=n) (h:n%p=0):cnt p n=cnt p (n/p)+1:=by
 rw [HE p n,if_pos #[ar,aB,h]]
theorem q9 (h:n%p≠0):cnt p n=0:=by
 rw [HE,if_neg λ z=>h z.2.2]
noncomputable def iX:eQ->Nat->eQ
 | [],_=>[]
 | p::ag,n=>cnt p n::iX ag (strip p n)
theorem Mi:∀ ag n,(iX ag n).length=ag.length
 | [],_=>rfl
 | p::ag,n=>by simp only [iX,fW,Mi ag]
theorem KP:∀ (ag:eQ) i p n,ag[i]?=some p->iX (ag.take (i+1)) n=iX (ag.take i) n++[cnt p (fG (ag.take i) n)]
 | [],_,_,_,h=>by cases h
 | q::ag,0,p,n,h=>by
  have z:=dS h;subst z;rfl
 | q::ag,i+1,p,n,h=>by
  show cnt q n::iX (ag.take (i+1)) (strip q n)=cnt q n::(iX (ag.take i) (strip q n)++[cnt p (fG (ag.take i) (strip q n))]);rw [KP ag i p (strip q n) h]
theorem B9 (ar:2<=p):∀ n,1<=n->n=p ^ cnt p n*strip p n:=by
 intro n
 induction n using Nat.strongRecOn with
 | _ n b =>
  intro aB;by_cases h:n%p=0
  ·have af:=rz aB h;have e:=b (n/p) (lH aB ar) af;rw [wR ar aB h,ru ar aB h,Nat.pow_succ];have a:=(Nat.mul_div_cancel' (pK h)).symm
   calc n=p*(n/p):=a
    _=p*(p ^ cnt p (n/p)*strip p (n/p)):=by rw [<-e]
    _=p ^ cnt p (n/p)*p*strip p (n/p):=by rw [<-n2,nY p]
  ·rw [q9 h,p2 h,Nat.pow_zero,Nat.one_mul]
theorem GY (ar:2<=p):∀ e r,1<=r->r%p≠0->cnt p (p ^ e*r)=e
 | 0,r,_,h=>by rw [Nat.pow_zero,Nat.one_mul,q9 h]
 | e+1,r,a,h=>by
  have b:p ^ (e+1)*r=p*(p ^ e*r):=by rw [Nat.pow_succ,nY (p ^ e) p,n2]
  have c:1<=p ^ e*r:=Nat.mul_pos (tB .ak) a;rw [b,wR ar (Nat.mul_pos .ak c) (Nat.mul_mod_right p _),Nat.mul_div_cancel_left _ .ak,GY ar e r a h]
theorem Yy (ar:2<=p) (e:2<=q) (c:Nat.Coprime p q) (aB:1<=n):cnt p (strip q n)=cnt p n:=by
 have b:=B9 ar n aB;have d:=B9 e n aB;have aA:=t6 e n aB;have m:=t6 ar n aB;have f:=Zl ar n aB;have g:Nat.Coprime (p ^ cnt p n) (q ^ cnt q n):=Nat.Coprime.pow _ _ c;have hd:p ^ cnt p n∣strip q n:=by
  have:p ^ cnt p n∣q ^ cnt q n*strip q n:=by rw [<-d];exact #[strip p n,b]
  exact g.dvd_of_dvd_mul_left this
 obtain ⟨r,a⟩:=hd;have k:1<=r:=by
  rcases Nat.eq_zero_or_pos r with z|z
  ·rw [z,Nat.mul_zero] at a;omega
  ·exact z
 have l:r%p≠0:=λ z=>by
  obtain ⟨t,aI⟩:=pK z;have h:n=p ^ cnt p n*(p*(t*q ^ cnt q n)):=by
   calc n=q ^ cnt q n*strip q n:=d
    _=q ^ cnt q n*(p ^ cnt p n*(p*t)):=by rw [a,aI]
    _=p ^ cnt p n*(p*(t*q ^ cnt q n)):=by
     rw [nY (q ^ cnt q n),n2,n2,nY t]
  have i:p ^ cnt p n*strip p n=p ^ cnt p n*(p*(t*q ^ cnt q n)):=by rw [<-b];exact h
  have j:=Nat.eq_of_mul_eq_mul_left (tB .ak) i;rw [j,Nat.mul_mod_right] at f;exact f rfl
 rw [a,GY ar _ r k l]
theorem JX:∀ ag,(∀ p∈ag,2<=p)->ag.Pairwise Nat.Coprime->∀ n,1<=n->iX ag n=ag.map λ p=>cnt p n
 | [],_,_,_,_=>rfl
 | p::ag,h,b,n,aB=>by
  have ar:=h p dI;rw [List.pairwise_cons] at b;show cnt p n::iX ag (strip p n)=cnt p n::ag.map λ q=>cnt q n
  rw [JX ag (λ q a=>h q (dJ _ a)) b.2 (strip p n) (t6 ar n aB)];congr 1;refine q1 λ q a=>?_
  exact Yy (h q (dJ _ a)) ar (b.1 q a).symm aB
noncomputable def g4 (n:Nat):eQ:=cL.map λ p=>cnt p n
theorem LI (aB:1<=n):g4 n=iX cL n:=(JX cL i8 xw n aB).symm
noncomputable def chg (n d:Nat):bp:=List.zipWith (λ a b:Nat=>a-b) (g4 n) (g4 d)
theorem CS (n d):(chg n d).length=10:=by simp [chg,g4,cL]
noncomputable def dQ (c p:bp):Bool:=(c.zip p).all λ x=>decide (0<=x.2+x.1)
noncomputable def b_:ed->bp->Option Nat
 | [],_=>.n
 | c::r,p=>if dQ c p=.t then some 0 else (b_ r p).map (· + 1)
noncomputable def bK (p c:bp) (m:Int):bp:=List.zipWith (λ a b=>a+m*b) p c
noncomputable def nn (p:bp):Bool:=p.all λ x=>decide (0<=x)
theorem t8 (ar:p.length=10) (a:c.length=10):(bK p c m).length=10:=by simp [bK,ar,a]
def oK (rows:ed):Prop:=∀ c∈rows,c.length=10
theorem mW:∀ {rows:ed} {p:bp} {i:Nat},b_ rows p=some i->∃ c,rows[i]?=some c/\dQ c p=.t/\i<rows.length
 | [],_,_,h=>by cases h
 | c::r,p,i,h=>by
  unfold b_ at h;by_cases a:dQ c p=.t
  ·rw [if_pos a] at h;cases h;exact #[c,Y,a,.zs]
  ·rw [if_neg a] at h;cases e:b_ r p with
   | none=>rw [e] at h;cases h
   | some j =>
    rw [e] at h;have d:=dS h;subst d;obtain ⟨b,af,ai,f⟩:=mW e;exact #[b,by simpa using af,ai,by simp;omega]
theorem wW:∀ rows p i,(∀ j,j<i->∀ c,rows[j]?=some c->dQ c p=.f)->(∀ c,rows[i]?=some c->dQ c p=.t)->i<rows.length->b_ rows p=some i
 | [],_,_,_,_,h=>by simp at h
 | c::r,p,0,_,h,_=>by
  unfold b_;rw [if_pos (h c Y)]
 | c::r,p,i+1,h,h',b=>by
  have h0:=h 0 .ak c rfl;unfold b_;rw [h0,if_neg .aw,wW r p i (λ j d a e=>h (j+1) .ak a (by simpa using e)) (λ a e=>h' a (by simpa using e)) (by simpa using b)];rfl
theorem CB:∀ rows p,(∀ (j:Nat) c,rows[j]?=some c->dQ c p=.f)->b_ rows p=.n
 | [],_,_=>rfl
 | c::r,p,h=>by
  unfold b_;rw [h 0 c rfl,if_neg .aw,CB r p λ j a e=>h (j+1) a (by simpa using e)];rfl
noncomputable def ew (rows:ed) (p:bp):Option bp:=(b_ rows p).map λ i=>bK p (rows.getD i []) 1
noncomputable def goN (rows:ed):Nat->bp->Option bp
 | 0,p=>some p
 | k+1,p=>(goN rows k p).bind (ew rows)
noncomputable def fw (rows:ed) (p:bp) (i:Nat):Option bp :=
 if nn (bK p (rows.getD i []) (-1))=.t/\b_ rows (bK p (rows.getD i []) (-1))=some i then some (bK p (rows.getD i []) (-1)) else .n
noncomputable def i5 (rows:ed) (p:bp):ed:=(List.range rows.length).filterMap (fw rows p)
theorem xo (rows) (p):(i5 rows p).length<=rows.length:=by
 have:=By (fw rows p) (List.range rows.length);rw [i9] at this;exact this
theorem VA (ar:p.length=10) (a:c.length=10):bK (bK p c (-1)) c 1=p:=by
 refine wB (by simp [bK,ar,a]) λ i af ai=>?_
 simp only [bK,List.getElem_zipWith];omega
theorem g0:nn p=.t ↔ ∀ x∈p,0<=x:=by simp [nn]
theorem tY:dQ c p=.t ↔ ∀ (i:Nat) a b,c[i]?=some a->p[i]?=some b->0<=b+a:=by
 unfold dQ;rw [gp];constructor
 ·intro h i a b af ai;have e:(c.zip p)[i]?=some (a,b):=by rw [lI];exact #[af,ai]
  exact cM (h _ (cg e))
 ·intro h x d;obtain ⟨i,av⟩:=g6 d;obtain ⟨a,b⟩:=x;rw [lI] at av;exact bP (h i a b av.1 av.2)
theorem VF (h:dQ c p=.t):nn (bK p c 1)=.t:=by
 rw [g0];intro x d;obtain ⟨i,av⟩:=g6 d;unfold bK at av;rw [jP] at av;obtain ⟨b,a,af,ai,rfl⟩:=av;have:=tY.mp h i a b ai af;omega
theorem ra {rows:ed} (h:rows[i]?=some c):rows.getD i []=c:=by
 rw [gF,h];rfl
theorem ts (h:b_ rows p=some i) (a:rows[i]?=some c):ew rows p=some (bK p c 1):=by
 unfold ew;rw [h,<-ra a];rfl
theorem Yg (h:b_ rows p=.n):ew rows p=.n:=by
 unfold ew;rw [h];rfl
theorem Cq (h:ew rows p=some q):∃ i c,b_ rows p=some i/\rows[i]?=some c/\dQ c p=.t/\q=bK p c 1:=by
 unfold ew at h;cases e:b_ rows p with
 | none=>rw [e] at h;cases h
 | some i =>
  rw [e] at h;obtain ⟨c,af,ai,_⟩:=mW e;have a:bK p (rows.getD i []) 1=q:=dS h;rw [ra af] at a;exact #[i,c,Y,af,ai,a.symm]
theorem Vb (b:oK rows) (ar:p.length=10) (h:ew rows p=some q):q.length=10/\nn q=.t:=by
 obtain ⟨i,c,_,ai,a,rfl⟩:=Cq h;exact #[t8 ar (b c (cg ai)),VF a]
set_option tactic.hygienic true in
theorem JI (c:oK rows) (ar:q.length=10) (h:p∈i5 rows q):ew rows p=some q/\p.length=10/\nn p=.t:=by
 obtain ⟨i,av,h⟩:=pA.mp h;have b:=mJ.mp av;have a:=cV b;have cC:=c _ (kv b);unfold fw at h;rw [ra a] at h;split at h
 ·rename_i z;have h':=dS h;rw [h'] at z;refine #[?_,by rw [<-h'];exact t8 ar cC,z.1];rw [ts z.2 a,<-h',VA ar cC]
 ·cases h
theorem lA (a:oK rows) (ar:p.length=10) (aB:nn p=.t):∀ {k:Nat} {q:bp},goN rows k p=some q->q.length=10/\nn q=.t
 | 0,q,h=>by cases h;exact #[ar,aB]
 | k+1,q,h=>by
  obtain ⟨r,af,ai⟩:=q0.mp h;exact Vb a (lA a ar aB af).1 ai
noncomputable def ft (rows:ed):Nat->bp->eQ
 | 0,_=>[]
 | k+1,p=>match b_ rows p with
  | none=>[]
  | some i=>i::ft rows k (bK p (rows.getD i []) 1)
theorem Cr (h:b_ rows p=.n):∀ k,ft rows k p=[]
 | 0=>rfl
 | k+1=>by simp only [ft,h]
theorem Cs (h:b_ rows p=some i) (a:rows[i]?=some c) (k):ft rows (k+1) p=i::ft rows k (bK p c 1):=by
 simp only [ft,h];rw [ra a]
theorem B3 (rows):∀ k p,(ft rows k p).length<=k
 | 0,_=>bL _
 | k+1,p=>by
  cases h:b_ rows p with
  | none=>rw [Cr h];simp
  | some i =>
   obtain ⟨c,a,_,_⟩:=mW h;rw [Cs h a];have:=B3 rows k (bK p c 1);simp;omega
theorem J0 (rows):∀ k p,goN rows (k+1) p=(ew rows p).bind (goN rows k)
 | 0,p=>by
  show ew rows p=(ew rows p).bind λ q=>some q
  cases ew rows p<;>rfl
 | k+1,p=>by
  show (goN rows (k+1) p).bind (ew rows)=(ew rows p).bind λ q=>(goN rows k q).bind (ew rows)
  rw [J0 rows k p];cases ew rows p<;>rfl
theorem Bo (rows):∀ k p,∃ q,goN rows (ft rows k p).length p=some q
 | 0,p=>#[p,Y]
 | k+1,p=>by
  cases h:b_ rows p with
  | none=>exact #[p,by rw [Cr h];rfl]
  | some i =>
   obtain ⟨c,a,_,_⟩:=mW h;obtain ⟨q,b⟩:=Bo rows k (bK p c 1);refine #[q,?_];rw [Cs h a,fW,J0,ts h a];exact b
theorem W3 (h:mX i j=.t) (ar:p∈cL):cnt p i=0\/cnt p j=0:=by
 have:=LG.mp h p ar;by_cases af:p∣i
 ·refine .inr (q9 λ z=>this #[af,pK z])
 ·exact .inl (q9 λ z=>af (pK z))
noncomputable def eG (l:eQ):bp:=l.map λ n:Nat=>n
theorem Zv (h:mX i j=.t) (aB:nn p=.t):nn (List.zipWith (λ x y=>x-y) p (eG (g4 j)))=dQ (chg i j) p:=by
 have e:∀ (k:Nat) a b,(chg i j)[k]?=some a->p[k]?=some b->∃ c,(eG (g4 j))[k]?=some c/\(0<=b-c ↔ 0<=b+a):=by
  intro k a b af ai;unfold chg at af;rw [jP] at af;obtain ⟨x,y,d,f,rfl⟩:=af;refine #[y,by unfold eG;rw [dg,f];rfl,?_];unfold g4 at d f;rw [dg] at d f;cases ar:cL[k]? with
  | none=>rw [ar] at d;cases d
  | some q =>
   rw [ar] at d f;have ex:cnt q i=x:=dS d;have n:cnt q j=y:=dS f;have r:=g0.mp aB b (cg ai);rcases W3 h (cg ar) with z|z
   ·rw [z] at ex;omega
   ·rw [z] at n;omega
 rw [qT,g0,tY];constructor
 ·intro h k a b af ai;obtain ⟨c,g,iff⟩:=e k a b af ai;refine iff.mp (h _ ?_);have:(List.zipWith (λ x y=>x-y) p (eG (g4 j)))[k]?=some (b-c):=by rw [jP];exact #[b,c,ai,g,Y]
  exact cg this
 ·intro h x d;obtain ⟨k,ay⟩:=g6 d;rw [jP] at ay;obtain ⟨b,c,ae,g,rfl⟩:=ay;have o:=(dK.mp g).1;have m:k<(chg i j).length:=by rw [CS];simpa [eG,g4,cL] using o
  obtain ⟨s,l,iff⟩:=e k _ b (cV m) ae;rw [g] at l;cases l;exact iff.mpr (h k _ b (cV m) ae)
end cA
namespace bt
open PySem PyProof.Rows
theorem rk:bootBuiltins "sorted" = some (.builtin "sorted"):=by decide +kernel
end bt
namespace cb
open PySem bt cA
noncomputable abbrev tupI (c:bp):fe:=.tup (c.map V.int)
theorem _root_.bt.sS.same (h:sS H x c) (s:ax H H'):sS H' x c:=by
 obtain ⟨a,e,au⟩:=h;exact #[a,e,s _ _ au]
theorem _root_.bt.cO.same (h:cO H xs cs) (s:ax H H'):cO H' xs cs:=#[h.1,λ i x e=>by
 obtain ⟨c,a,r⟩:=h.2 i x e;exact #[c,a,r.same s]]
theorem _root_.bt.cO.but (h:cO H xs cs) (f:H l=some (.lst ys)) (s:br l H H'):cO H' xs cs:=#[h.1,λ i x e=>by
 obtain ⟨c,d,a,b,au⟩:=h.2 i x e;exact #[c,d,a,b,s _ _ (cq au f (by intro z;cases z)) au]]
theorem _root_.bt.cO.nil:cO H [] []:=#[Y,λ i x e=>by cases e]
theorem _root_.bt.cO.app (h:cO H xs cs) (g:cO H ys ds):cO H (xs++ys) (cs++ds):=by
 refine #[by rw [dn,dn,h.1,g.1],λ i x e=>?_];by_cases av:i<xs.length
 ·rw [jJ av] at e;obtain ⟨c,a,r⟩:=h.2 i x e;exact #[c,by rw [jJ (by rw [<-h.1];exact av)];exact a,r]
 ·rw [kq .ak] at e;obtain ⟨c,a,r⟩:=g.2 _ x e;exact #[c,by rw [kq (by rw [<-h.1];omega),<-h.1];exact a,r]
theorem _root_.bt.cO.one (h:sS H x c):cO H [x] [c]:=by
 refine #[Y,λ i y e=>?_];cases i with
 | zero=>cases e;exact #[c,Y,h]
 | succ i=>cases e
theorem _root_.bt.cO.at {i:Nat} (h:cO H xs cs) (e:xs[i]?=some x):∃ c a,cs[i]?=some c/\x=.ref a/\H a=some (tupI c):=by
 obtain ⟨c,d,a,b,au⟩:=h.2 i x e;exact #[c,a,d,b,au]
theorem _root_.bt.cO.of {i:Nat} (h:cO H xs cs) (e:cs[i]?=some c):∃ x a,xs[i]?=some x/\x=.ref a/\H a=some (tupI c):=by
 have av:=(dK.mp e).1;have d:xs[i]?=some (xs[i]'(by rw [h.1];exact av)):=cV _;obtain ⟨g,a,b,f,au⟩:=h.at d;rw [e] at b;cases b;exact #[_,a,d,f,au]
noncomputable def iU (ns:ed):ed:=(ig.gd ns).map λ i=>ns.getD i []
theorem xm (ns):(iU ns).Perm ns:=ig.Yf rfl
theorem _root_.bt.cO.Ff (h:cO H xs ns):cO H ((ig.gd ns).map λ i=>xs.getD i .aX) (iU ns):=by
 refine #[by unfold iU;rw [bb,bb],λ i x e=>?_];rw [dg] at e;cases ar:(ig.gd ns)[i]? with
 | none=>rw [ar] at e;cases e
 | some j =>
  rw [ar] at e;have a:=ig.Ij (cg ar);have b:xs[j]?=some (xs[j]'(by rw [h.1];exact a)):=cV _;have ex:xs.getD j .aX=x:=dS e;rw [gF,b] at ex;obtain ⟨c,d,r⟩:=h.2 j _ b;have Ee:xs[j]'(by rw [h.1];exact a)=x:=ex;rw [Ee] at r;refine #[c,?_,r];unfold iU;rw [dg,ar];show some (ns.getD j [])=some c;rw [gF,d];rfl
noncomputable def gT:Option Nat->V
 | none=>.aX
 | some i=>.int (i:Int)
def d0 (H:aC) (xs:bj) (aj:cX):Prop:=xs.length=aj.length/\∀ (k:Nat) x,xs[k]?=some x->∃ i j c,aj[k]?=some (i,j)/\x=.ref c/\H c=some (.tup [.int i,.int j])/\ey i j=.t
theorem d0.same (h:d0 H xs aj) (s:ax H H'):d0 H' xs aj:=#[h.1,λ k x e=>by
 obtain ⟨i,j,c,af,ai,a,b⟩:=h.2 k x e;exact #[i,j,c,af,ai,s _ _ a,b]]
theorem d0.but (h:d0 H xs aj) (d:H l=some (.lst ys)) (s:br l H H'):d0 H' xs aj:=#[h.1,λ k x e=>by
 obtain ⟨i,j,c,af,ai,a,b⟩:=h.2 k x e;exact #[i,j,c,af,ai,s _ _ (cq a d (by intro z;cases z)) a,b]]
theorem BM:∀ {xs:bj},(∀ x∈xs,∃ (c:Addr) (i j:Int),x=.ref c/\H c=some (.tup [.int i,.int j])/\ey i j=.t)->∃ aj,d0 H xs aj
 | [],_=>#[[],Y,λ k x e=>by cases e]
 | x::xs,h=>by
  obtain ⟨c,i,j,af,ai,a⟩:=h x dI;obtain ⟨aj,f1,f2⟩:=BM λ y b=>h y (dJ _ b)
  refine #[(i,j)::aj,by simp [f1],λ k y e=>?_];cases k with
  | zero=>cases e;exact #[i,j,c,Y,af,ai,a]
  | succ k=>exact f2 k y (by simpa using e)
noncomputable def rowsOf (aj:cX):ed:=aj.map λ f=>chg f.1.toNat f.2.toNat
theorem iH (aj):oK (rowsOf aj):=λ c a=>by
 obtain ⟨f,_,rfl⟩:=c0.mp a;exact CS _ _
theorem kG (aj):(rowsOf aj).length=aj.length:=bb _
theorem C1 (h:ey i j=.t):(1<=i/\g9 i.toNat=1)/\(1<=j/\g9 j.toNat=1):=by
 unfold ey gk at h;simp only [eX,n4] at h;exact #[#[h.1.1.1.1,h.1.1.2],#[h.1.2.1.1,h.1.2.2]]
theorem MN {f:Int->Int->Int} (a:xs[i]?=some x) (b:ys[i]?=some y):(List.zipWith f xs ys).take (i+1)=(List.zipWith f xs ys).take i++[f x y]:=by
 have c:(List.zipWith f xs ys)[i]?=some (f x y):=by rw [jP];exact #[x,y,a,b,Y]
 rw [jN,c];rfl
theorem ue (aB:min xs.length ys.length<=sizeLine) (ar:∃ u v,pick js σ=u::v::σ0) (g:H1 D=.n)
  (au:H1 a=some (tupI xs)) (ae:H1 b=some (tupI ys))
  (aA:∀ x y H' R,x∈xs->y∈ys->R (.int (f x y)) H'->bx (some (.int x)::some (.int y)::σ0) H' R)
  (q:∀ H',ax H1 H'->H' D=some (.lst ((List.zipWith f xs ys).map V.int))->Q (.ref D) H'):gf (oJ K a b) D js (nC K 2 (kl (e8 0) (kl (e8 1) qH))) h1 bx σ H1 Q:=by
 obtain ⟨r,v0,ar⟩:=ar;refine W4 (by rw [bb,bb];exact aB) (λ i σ' H' zs=>(∃ u v,σ'=u::v::σ0)/\ax H1 H'/\zs=((List.zipWith f xs ys).take i).map V.int) #[#[r,v0,ar],ax.new g,Y] (λ i σ' H' zs _ ⟨_,s',_⟩=>#[aL.of (s' _ _ au),aL.of (s' _ _ ae)]) ?_ ?_
 ·rintro i x y p σ' H' zs R k l ar d m ⟨⟨u,v,rfl⟩,s',rfl⟩ n;obtain ⟨x,rfl,h⟩:=gH k;obtain ⟨y,rfl,j⟩:=gH l;refine #[p,_,Y,aL.of bc,Y,_,_,Y,_,_,Y,Y,?_];refine aA x y _ _ (cg h) (cg j) (n _ _ _ ?_ #[#[_,_,Y],?_,?_])
  ·rw [a3 (b0 d ar)];exact d
  ·intro c o e;rw [a3 (b0 e g),a3 (b0 (s' c o e) ar)];exact s' c o e
  ·rw [MN h j,ht];rfl
 ·rintro σ' H' zs d m ⟨_,s',rfl⟩;refine q H' s' ?_;rw [d,bb,bb,hU (by rw [q2];exact bL _)]
end cb
namespace bt
open PySem PySem.Spec PyProof.Rows
noncomputable def vy (a b:Addr):g_ :=
 #[λ i H=>∃ xs ys x y,H a=some (.lst xs)/\H b=some (.lst ys)/\xs[i]?=some x/\ys[i]?=some y,
 λ i H v H'=>∃ p,H p=.n/\v=.ref p/\∃ x y,H'=upd H p (.tup [x,y])/\∀ xs ys,H a=some (.lst xs)->H b=some (.lst ys)->xs[i]?=some x/\ys[i]?=some y,
 λ i H=>∃ xs ys,H a=some (.lst xs)/\H b=some (.lst ys)/\(xs.length<=i\/ys.length<=i)]
section
variable {X:a5} {bu:Expr}
theorem Turn.imp {K:aT} (T:Turn P w K c bu J a_ it gx) (af:∀ i H,f.go i H->J.go i H) (ai:∀ i H x H',J.gR i H x H'->f.gR i H x H') (j:∀ i H,f.stop i H->J.stop i H):Turn P w K c bu f a_ it gx :=
 #[T.mem,T.obj,T.keep,λ X a b c d e i pins s σ H E I hf st g=>a8 (T.item X a b c d e i pins s σ H E I hf st (af _ _ g)) λ r s1 ⟨u,h,k⟩=>#[u,h,a8 k λ _ s2 ⟨x,H',l,m,n,o⟩=>#[x,H',l,m,ai _ _ _ _ n,o]],
  λ X a b c d e i pins s σ H E I hf st g=>T.done X a b c d e i pins s σ H E I hf st (j _ _ g),T.self]
def Tv (aP:dh):TI:=λ σ H R=>aP σ H λ vs H1=>∃ a b xs ys,vs=[.ref a,.ref b]/\H1 a=some (.lst xs)/\H1 b=some (.lst ys)/\R (vy a b) H1
theorem BW (v:kE bu=.t) (u:cI X "zip") (hm:X.mg "zip" = .n) (au:dM X [j,g] aP) (aA:starEach [j,g] X.env=[(.f,eval j X.env),(.f,eval g X.env)]:=by rfl) (k:starEach [g] X.env=[(.f,eval g X.env)]:=by rfl)
  (ae:bootBuiltins "zip" = some (.type "zip"):=by decide +kernel):iJ X bu (.Call (.Name "zip" p) [j,g] [] pos) (Tv aP):=#[by
 intro pins s σ H R I h;refine Call_ (kr I u hm ae (nP (a8 (au.o pos pins s σ H _ I h) ?_) (by rw [aA,k]) (by rw [k];rfl)));rintro us s1 ⟨vs,H1,l,w,aO⟩;obtain ⟨a,b,xs,ys,e,c,f,q⟩:=aO;subst e;obtain ⟨B,C,rfl,z,A⟩:=vals2 w;cases z;cases A;exact Hv (p1:=.t) (aO:=.t) (J:=vy a b) l (aK.of c) (aK.of f) (λ d=>(Ky v d).imp (λ i H ⟨xs,ys,x,y,c,f,r⟩=>#[xs,ys,x,y,aK.of c,aK.of f,r]) (λ i H x H' ⟨n,a1,a2,x,y,m,t⟩=>#[n,a1,a2,x,y,m,λ xs ys c f=>t xs ys (aK.of c) (aK.of f)]) (λ i H ⟨xs,ys,c,f,r⟩=>#[xs,ys,aK.of c,aK.of f,r])) q]
end
theorem YB (aB:min xs.length ys.length<=sizeLine) (Pv:Nat->St->aC->bj->Prop) (h0:Pv 0 (pick js σ) (upd H1 D (.lst [])) [])
  (j:∀ i σ' H' zs,H' D=some (.lst zs)->Pv i σ' H' zs->H' a=some (.lst xs)/\H' b=some (.lst ys))
  (aA:∀ i x y p σ' H' zs (R:St->V->aC->Prop),xs[i]?=some x->ys[i]?=some y->H' p=.n->H' D=some (.lst zs)->zs.length=i->Pv i σ' H' zs->(∀ σ2 z e,e D=some (.lst zs)->Pv (i+1) σ2 (upd e D (.lst (zs++[z]))) (zs++[z])->R σ2 z e) ->
   g (.ref p) σ' (upd H' p (.tup [x,y])) λ σ2 l=>bx σ2 l λ z e=>R σ2 z e)
  (r:∀ σ' H' zs,H' D=some (.lst zs)->zs.length=min xs.length ys.length->Pv (min xs.length ys.length) σ' H' zs->Q (.ref D) H'):gf (vy a b) D js g h1 bx σ H1 Q:=by
 refine ry aB Pv h0 (λ i σ' H' zs av d p=>?_) (λ σ' H' zs d m c=>#[?_,r σ' H' zs d m c]) λ i σ' H' zs x ao R av d u p s k=>?_
 ·obtain ⟨f,h⟩:=j i σ' H' zs d p;have af:i<xs.length:=by omega
  have ai:i<ys.length:=by omega
  exact #[xs,ys,xs[i],ys[i],f,h,by simp [af],by simp [ai]]
 ·obtain ⟨f,h⟩:=j _ σ' H' zs d c;exact #[xs,ys,f,h,.ak]
 ·obtain ⟨f,h⟩:=j i σ' H' zs d p;obtain ⟨q,o,rfl,v,w,rfl,t⟩:=s;obtain ⟨ex,n⟩:=t xs ys f h;exact aA i v w q σ' H' zs R ex n o d u p k
end bt
namespace cb
open PySem bt cA
noncomputable def sC:V->Bool
 | .str _=>.t
 | _=>.f
section
variable {K:aT} {H:aC} {v:V}
theorem nI (k:eH H v):∃ t,gS K H v t/\PySem.W.kitOne K t (.type "str")=some (sC v):=by
 cases v with
 | aX=>exact #[_,.aX,by kernel_rfl]
 | aJ b=>exact #[_,.aJ b,by kernel_rfl]
 | int i=>exact #[_,.int i,by kernel_rfl]
 | str x=>exact #[_,.str x,by kernel_rfl]
 | ref a =>
  rcases k with ⟨xs,e⟩|⟨xs,e⟩|⟨kvs,e⟩
  ·exact #[_,.tup e,by kernel_rfl]
  ·exact #[_,.lst e,by kernel_rfl]
  ·exact #[_,.bW e,by kernel_rfl]
 | _=>exact False.elim k
end
end cb
namespace DA
open PySem PyProof.Rows
section
variable {prog:Program} {w:World} {A:Around} {E:dc} {h:Heap} {g:Array GenState} {d:Drawn} {t:Nat} {os:OsState}
variable {nm q:Str} {C N:Addr} {bs bm oN:List Value} {hdct:Bool} {sn:b2} {sub:List Value} {ab:Bool} {col:Option Bool} {dd:Option Addr} {k0 k1 k2 k3 k5:cE} {B newId wa:String}
theorem Zs (F:ExcBaseFacts B newId wa oN) (T:OwnTail h oN bm)
  (a:h.get? C=some (excClassObj nm q C N bs bm hdct sn sub ab col dd k0 k1 k2 k3 k5 newId)) (aB:h.Ns N mN) (av:mN "__init__" = some (.ref gK))
  (k:h.get? gK=some kU) (l:kU.cls=.type "function")
  (m:∀ h' e,Heap.MadeExcOf h h' e (.ref C) rest ->
   wpAny (model prog w) A (call (.ref gK) (.ref e::rest)) (λ r s'=>r=.none/\Q (.done (.ret (.ref e))) s') E ⟨h',g,d,t,os⟩) (hrest:rest.length<=sizeLine) :
  wpAny (model prog w) A (Builtin.«type.__call__» ⟨.ref C::rest,[]⟩) Q E ⟨h,g,d,t,os⟩:=by
 repeat (wp_step)
 refine codeAny_call_builtin_code (Bz _ F.quiet) (wpAny_check_new_subT F T a ?_);refine codeAny_exc_new_subT F T a ?_ hrest;have hC₁:=bo { cls:=.ref C,data:=.fields [.ref h.objs.size,.none,.none,.none,.bool .f,.none].toArray }
  (bo { cls:=.type "tuple", data:=.seq rest.toArray } a)
 have hfI₁:=bo { cls:=.ref C,data:=.fields [.ref h.objs.size,.none,.none,.none,.bool .f,.none].toArray }
  (bo { cls:=.type "tuple", data:=.seq rest.toArray } k)
 have hn₁:((h.push { cls:=.type "tuple", data:=.seq rest.toArray }).push { cls:=.ref C,data:=.fields [.ref h.objs.size,.none,.none,.none,.bool .f,.none].toArray }).Ns N mN :=
  let ⟨o,ah,f,e,r⟩:=aB;⟨o,ah,f,bo _ (bo _ e),r⟩
 have c:((h.push { cls:=.type "tuple", data:=.seq rest.toArray }).push
   { cls:=.ref C,data:=.fields [.ref h.objs.size,.none,.none,.none,.bool .f,.none].toArray }).get? (h.objs.size+1)=some
   { cls:=.ref C,data:=.fields [.ref h.objs.size,.none,.none,.none,.bool .f,.none].toArray }:=by heap_get
 have j:(Value.ref C::bm).contains (.ref C)=.t:=by simp
 have T₁:=T.keeps (h':=(h.push { cls:=.type "tuple", data:=.seq rest.toArray }).push { cls:=.ref C,data:=.fields [.ref h.objs.size,.none,.none,.none,.bool .f,.none].toArray })
  λ b o e=>bo _ (bo _ e)
 repeat (first|with_reducible refine tF c ?_|(with_reducible refine wG hC₁ ?_;rw [j])|wp_step)
 refine wpAny_typeLookup_tail hC₁ hn₁ T₁ F.mroIs F.init.lookup ?_;rw [av];refine eS (az ?_);refine az (pG #[_,hfI₁,l] ?_);rw [if_pos .aw];refine bl (az (eU (m _ (h.objs.size+1) #[λ b o ae=>bo _ (bo _ ae),vZ (kn _),h.objs.size,c,vZ (bL _),?_]) (λ r s' n=>?_) λ Z Z x=>x))
 ·exact bo _ (Heap.get?_push_at Y Y)
 ·obtain ⟨rfl,i⟩:=n
  wp_walk
  exact i
theorem call_exc (F:ExcBaseFacts B newId wa oN) (T:OwnTail h oN bm)
  (a:h.get? C=some (excClassObj nm q C N bs bm hdct sn sub ab col dd k0 k1 k2 k3 k5 newId)) (aB:h.Ns N mN) (av:mN "__init__" = some (.ref gK))
  (b:h.get? gK=some kU) (c:kU.cls=.type "function")
  (f:∀ h' e,Heap.MadeExcOf h h' e (.ref C) rest ->
   wpAny (model prog w) (A.under (.builtin "type.__call__" ⟨.ref C::rest,[]⟩)) (call (.ref gK) (.ref e::rest)) (λ r s'=>r=.none/\Q (.ref e) s') E ⟨h',g,d,t,os⟩) (hrest:rest.length<=sizeLine) :
  wpAny (model prog w) A (call (.ref C) rest) Q E ⟨h,g,d,t,os⟩:=by
 have f1:=tc_lookup;have f2:=tc_bind (.ref C);have bA:(⟨h,g,d,t,os⟩:Shared).TypeIs (.ref C) "type" := #[_,a,Y]
 refine ko (codeAny_of_tree ?_)
 repeat (any_goals (wp_step))
 refine #[Y,?_];refine codeAny_call_builtin_at (Bz _ (by decide +kernel)) entry_typeCall (wpAny_check_type_call_sub a (Zs (hrest:=hrest) F T a aB av b c λ h' e hm=>?_));exact f h' e hm
end
section
variable {M:Model} {A:Around} {E:dc} {env:Env}
variable {nm q:Str} {C N:Addr} {bs bm:List Value} {hdct:Bool} {sn:b2} {sub:List Value} {ab:Bool} {col:Option Bool} {dd:Option Addr} {k0 k1 k2 k3 k5:cE} {newId:String}
theorem abN (c:bm.contains (.type "BaseException")=.t) (i:A.handled=.n)
  (h:wpAny M A x (λ v s₁=>∃ e t aE,v=.ref e/\s₁.heap.get? C=some (excClassObj nm q C N bs bm hdct sn sub ab col dd k0 k1 k2 k3 k5 newId) /\
   s₁.heap.get? e=some { cls:=.ref C,dict:=aE,data:=.fields [.ref t,.none,.none,.none,.bool .f,.none].toArray }/\E (.ref e) s₁) E s) :
  wpAny M A (raiseStmt env (some x) .n) Q E s:=by
 have f:(Value.ref C::bm).contains (.type "BaseException")=.t:=by rw [tE,c,Bool.or_true]
 refine az (eU h (λ v s₁ h₁=>?_) λ Z Z x=>x);obtain ⟨e,t,aE,rfl,a,he,b⟩:=h₁;obtain ⟨ar,g,d,a6,os⟩:=s₁
 repeat (first|with_reducible refine tF he ?_|with_reducible refine tF a ?_|(with_reducible refine wG a ?_;rw [f])|wp_step)
 exact wpAny_raiseNew_none i b
end
section
variable {prog:Program} {w:World} {A:Around} {E:dc} {s:Shared} {env:Env}
variable {nm q:Str} {C N:Addr} {bs bm oN:List Value} {hdct:Bool} {sn:b2} {sub:List Value} {ab:Bool} {col:Option Bool} {dd:Option Addr} {k0 k1 k2 k3 k5:cE} {B newId wa:String}
theorem Z_ (F:ExcBaseFacts B newId wa oN)
  (m:bm.contains (.type "BaseException")=.t) (p:A.handled=.n) (y:(backTo cF (starEach args env)).any (·.1)=.f) (av:mN "__init__" = some (.ref gK)) (o:kU.cls=.type "function")
  (h:wpAny (model prog w) A (eval (.Name x np) env) (λ f s₁=>f=.ref C/\wpAny (model prog w) A (evalArgs (.ref C) .t (backTo cF (starEach args env)) [])
   (λ a s₂=>a.kw=[]/\a.pos.length<=sizeLine/\s₂.heap.get? C=some (excClassObj nm q C N bs bm hdct sn sub ab col dd k0 k1 k2 k3 k5 newId)/\s₂.heap.Ns N mN/\OwnTail s₂.heap oN bm/\s₂.heap.get? gK=some kU /\
    ∀ h' e,Heap.MadeExcOf s₂.heap h' e (.ref C) a.pos->wpAny (model prog w) (A.under (.builtin "type.__call__" ⟨.ref C::a.pos,[]⟩)) (call (.ref gK) (.ref e::a.pos))
     (λ r s'=>r=.none/\s'.heap.get? C=some (excClassObj nm q C N bs bm hdct sn sub ab col dd k0 k1 k2 k3 k5 newId)/\(∃ t aE,s'.heap.get? e=some { cls:=.ref C,dict:=aE,data:=.fields [.ref t,.none,.none,.none,.bool .f,.none].toArray })/\E (.ref e) s') E { s₂ with heap:=h' }) E s₁) E s) :
  wpAny (model prog w) A (exec (.Raise (some (.Call (.Name x np) args [] cF)) .n pos) env) Q E s:=by
 rw [arm_exec_Raise]
 (refine az (nL (abN (C:=C) (nm:=nm) (q:=q) (N:=N) (bs:=bs) (bm:=bm) (hdct:=hdct) (sn:=sn) (sub:=sub) (ab:=ab) (col:=col) (dd:=dd) (k0:=k0) (k1:=k1) (k2:=k2) (k3:=k3) (k5:=k5) (newId:=newId) m p ?_));refine az (eU (wpAny_Call_ofName (eU h (λ f s₁ h₁=>?_) λ Z Z x=>x)) (λ v s₃ h₃=>az (nL (bl h₃))) λ Z Z x=>x))
 obtain ⟨rfl,h₁⟩:=h₁;refine az (eS (eU h₁ (λ a s₂ h₂=>az (nL ?_)) λ Z Z x=>x));obtain ⟨apos,i⟩:=a;obtain ⟨u,hlen,b,aB,T,n,h₂⟩:=h₂;obtain rfl:i=[]:=u;obtain ⟨ar,g,d,a6,os⟩:=s₂;simp only [y];refine az (wpAny_keeperOf_exc b ?_);refine az (call_exc (hrest:=hlen) F T b aB av n o λ h' e hm=>eU (h₂ h' e hm) (λ r s' c=>#[c.1,?_]) λ Z Z z=>z);obtain ⟨_,j,⟨t,aE,k⟩,l⟩:=c;refine az (eS (wpAny_point (bl ?_)));exact #[e,t,aE,Y,j,k,l]
end
end DA
namespace PySem.W
open PySem PySem.Spec PySem.Calls PyProof.Rows Builtin.ObjectAttr
theorem Wu (self):refuseLoop self "__setattr__" bt.ih=pure ():=by kernel_rfl
section
variable {prog:Program} {w:World} {A:Around} {E:dc} {R:Result->Shared->Prop} {s:Shared} {K:Frag} {x C:Addr} {l0:Obj} {cZ:Option Obj} {cd:ClassData}
theorem Y5 {name:Str} {a6:Tok} {v:Value} {r:cE} (X:K.In s.heap) (I:InstAt s.heap x l0 C cZ) (j:clsIn K C=some cd) (k:cd.mro=.ref C::.ref Fr::bt.ih) (l:mroIn K C (.type "object")=some .t) (aI:takerIn K C name=some r)
  (h:∀ b,wpAny (model prog w) A.in1 (match r with|some a=>setByDescriptor a (.ref x) v|none=>storeInOwnDict (.ref x) (.ref C) (.str name a6) name v b)
   (λ fin s'=>match fin with| .done f=>R (.ok f) s'| .again d=>d.quiet=.t/\codeAny (model prog w) A d R s') (λ e s'=>R (.error e) s') s) :
  codeAny (model prog w) A (.call (.builtin "object.__setattr__") ⟨[.ref x,.str name a6,v],[]⟩) R s:=by
 have c:=PySem.F.store_object;have sub:Looks (model prog w) s.heap (isInstance (.ref x) (.type "object")) .t:=I.type.andThen (looks_mroIn X l);refine tH c.slot.plain c.entry (@check_slot (model prog w) _ _ s "object.__setattr__" "object" "__setattr__" (.ref x) [.str name a6,v] [] _ c.kind c.split sub (c.args (.ref x) (.str name a6) v) ?_);obtain ⟨attr,au,g⟩:=q0.mp aI;have hm:Looks (model prog w) s.heap (mroOf (.ref C)) cd.mro:=(looks_clsIn X j).andThen .now;have i:Looks (model prog w) s.heap (storeTaker? attr) r:=by
  cases attr with
  | none=>cases g;exact .now
  | some a =>
   obtain ⟨b,ae,rfl⟩:=tC.mp g;refine (looks_takesIn X ae).andThen ?_;cases b<;>exact .now
 rw [osa_eq,refuse_eq];refine az (az (I.type.here (az (hm.here ?_))));rw [k,refuseLoop_ref,refuseLoop_ref,Wu];refine bl (az (I.type.here (az ((tG X au).here (az (i.here ?_))))));exact h _
theorem Wy (X:K.In s.heap) (a:s.heap.get? x=some ⟨.ref C,.n,.fields vs,#[]⟩) (d:clsIn K C=some cd) (p:cd.mro=.ref C::.ref Fr::bt.ih) (hd:cd.hasDict=.t)
  (r:mroIn K C (.type "object")=some .t) (aA:findIn K (.ref C) "__setattr__" = some (some (.builtin "object.__setattr__"))) (aI:takerIn K C name=some .n)
  (h:∀ h' aE a6,s.heap.get? aE=.n->h'.get? x=some ⟨.ref C,some aE,.fields vs,#[]⟩->h'.Ns1 aE (λ y=>if y=name then some v else .n)->(∀ b o,b≠x->s.heap.get? b=some o->h'.get? b=some o)->Q () { s with heap:=h',toks:=a6 }) :
  wpAny (model prog w) A (setAttr (.ref x) name v) Q E s:=by
 have I:InstAt s.heap x ⟨.ref C,.n,.fields vs,#[]⟩ C .n:=#[a,Y,Y,trivial]
 refine set_plain X I aA (Y5 X I d p r aI λ b=>?_);refine az (bl (az (az (wpAny_loadPart a (az (PySem.W.Looks.here (PySem.W.looks_clsIn X d) ?_))))));rw [hd];rw [if_neg .zs];have k:=bZ a;have j:(s.heap.push { cls:=.type "dict", data:=.dict #[] }).get? x=some ⟨.ref C,.n,.fields vs,#[]⟩:=bo _ a;refine az (wpAny_alloc (az (wpAny_update j ?_)));refine bl ?_;have c:Heap.SameBut x (s.heap.push { cls:=.type "dict", data:=.dict #[] }) ((s.heap.push { cls:=.type "dict", data:=.dict #[] }).update x λ o=>{ o with dict:=some s.heap.objs.size }):=pq _ _ _;have i:((s.heap.push { cls:=.type "dict", data:=.dict #[] }).update x λ o=>{ o with dict:=some s.heap.objs.size }).get? x=some ⟨.ref C,some s.heap.objs.size,.fields vs,#[]⟩:=lq _ j rfl;generalize ((s.heap.push { cls:=.type "dict", data:=.dict #[] }).update x λ o=>{ o with dict:=some s.heap.objs.size })=af at c i ⊢;have m:=(c.2 _ (hq k)).trans (cN _ Y);have u:=Heap.Ns1.of_empty #[_,#[],_,m,Y,(λ e he=>absurd he .zs),λ Z=>rfl];refine az (bl (az ?_));refine wpAny_nsSet1 u λ h' f g=>?_
 obtain ⟨D,B,z,q,n,l⟩:=f.count (PySem.Within.cons (ns:=[]) name v (λ y t=>absurd Y t));refine az (wpAny_lookBehind q (by rw [n];exact pastItsLine_dict (dT l (by show 1<=sizeLine+1;decide))) ?_);refine bl (h h' s.heap.objs.size _ (vZ (bL _)) ((g.2 _ (cR k)).trans i) f λ b o nb e=>?_);have aJ:=bZ e;exact (g.2 _ (cR aJ)).trans ((c.2 _ nb).trans (bo _ e))
theorem Vq (X:K.In s.heap) (I:InstAt s.heap x l0 C cZ) (c:iv K C) (hf:findObj K C cZ name=some (.value v)) (i:handedIn v=.t) (h:Q v { s with toks:=s.toks+1 }) :
  wpAny (model prog w) A (getAttr (.ref x) name expr) Q E s:=by
 obtain ⟨k,g,d,t,os⟩:=s;have a:=I.type (M:=model prog w);have b:=tG (M:=model prog w) X c.ga;have bt:=tG (M:=model prog w) X c.DI;have e:=looks_find (M:=model prog w) X I hf;have j:=wH.ga.bind (.ref x);refine az (wpAny_mkText (eS (az (a.at (az (b.at ?_))))));refine az (bt.at (az (lu (eS ?_))));have f:callGetattribute (.ref x) (.str name t) (.builtin "BaseException.__getattribute__") expr=boundAndCalled (.builtin "BaseException.__getattribute__") (.ref x) (.str name t):=by
  cases expr<;>rfl
 rw [f]
 repeat (any_goals (wp_step))
 refine tH wH.ga.plain PySem.F.entry_bexc_ga (Jx X I c ?_);refine az (bl (az (bl (az (a.at (az (e.at ?_)))))));refine bl ?_;show wpAny _ _ (handedOut v) _ _ _;rw [handedOut_of i];exact bl h
end
end PySem.W
namespace bt
open PySem PySem.Spec PyProof.Rows kM
structure kL (K:aT) (mg:Str->cE) (x:Str) (C Fr gK:Addr):Prop where
 at_:mg x=some (.ref C)
 bQ:∃ nm q N bs sn sub ab col dd k0 k1 k2 k3 k5,K.lookup C=some (excClassObj nm q C N bs (.ref Fr::ih) .t sn sub ab col dd k0 k1 k2 k3 k5 "ValueError.__new__")/\PySem.W.nsOkIn K N=.t/\PySem.W.nsIn K N "__init__" = some (some (.ref gK))
 fr:PySem.W.excIn K Fr ih "ValueError.__new__" = .t
 e4:PySem.W.iv K C
 yQ:PySem.W.findIn K (.ref C) "__setattr__" = some (some (.builtin "object.__setattr__"))
 fn:∃ kU,K.lookup gK=some kU/\kU.cls=.type "function"
theorem kL.cls {K:aT} (c:kL K mg x C Fr gK):∃ cd,PySem.W.clsIn K C=some cd/\cd.mro=.ref C::.ref Fr::ih/\cd.hasDict=.t:=by
 obtain ⟨nm,q,N,bs,sn,sub,ab,col,dd,k0,k1,k2,k3,k5,h,_⟩:=c.bQ;have e:PySem.W.clsIn K C=(match K.lookup C with|some ⟨_,_,.cls cd,_⟩=>some cd|_=>.n):=rfl;rw [h] at e;exact #[_,e,Y,Y]
theorem kL.hd {K:aT} (c:kL K mg x C Fr gK):PySem.W.hasDictIn K C=.t:=by
 obtain ⟨cd,af,_,a⟩:=c.cls;unfold PySem.W.hasDictIn;rw [af];exact a
theorem kL.tail {K:aT} (c:kL K mg x C Fr gK) (X:K.In h):OwnTail h ih (.ref Fr::ih):=by
 obtain ⟨ck,N,nm,q,bs,hdct,sn,sub,ab,col,dd,k0,k1,k2,k3,k5,mN,a,b,d,T⟩:=(jz.own (mg:=λ Z=>some (.ref Fr)) (x:=x) #[Y,c.fr] X).obj;exact .own a b d .base
set_option tactic.hygienic true in
theorem Z0 {K:aT} (X:K.In h) (G:h.Ns N mg) (e:PySem.W.nsIn K N n=some (some v)):mg n=some v:=by
 obtain ⟨o,ah,b,a,hd,_,hf⟩:=G;unfold PySem.W.nsIn at e;split at e
 ·rename_i c d f b3 cB q;have:=X _ _ q;rw [a] at this;cases this;cases hd;split at e
  ·rename_i y he;rw [<-hf];unfold nsFind findBy;rw [<-Array.find?_toList,he];exact dS e
  ·split at e<;>cases e
 ·cases e
noncomputable def jB (e C:Addr) (d:Option Addr) (t:Addr):fe:=.ext λ h=>h.get? e=some { cls:=.ref C,dict:=d,data:=.fields [.ref t,.none,.none,.none,.bool .f,.none].toArray }
theorem HK (he:h.get? e=some { cls:=.ref C,dict:=d,data:=.fields [.ref t,.none,.none,.none,.bool .f,.none].toArray }):eg P w H h e (jB e C d t) :=
 #[he,#[_,he],λ af ai a k=>k _ a]
theorem Inv.forget {σ:St} (I:Inv X pins σ H s) (g:∀ b,b≠e->H' b=H b) (h0:H' e=.n) (h:(∀ xs,H e≠some (.tup xs))/\(∀ o u,H e≠some (.hL o u))/\(∀ ag,H e≠some (.mr ag))/\∀ b,H e≠some (.own b)):Inv X pins σ H' s:=by
 have le:∀ b,H b=.n->H' b=.n:=λ b n=>by
  by_cases z:b=e
  ·rw [z];exact h0
  ·rw [g b z];exact n
 refine #[I.ok,I.os,I.bare,#[I.base.keep,I.base.slot,λ b bQ q n h=>le b (I.base.free b bQ q n h),I.base.there,λ b xs q=>?_,λ b bQ u q=>?_,λ b ag q=>?_],I.loc,I.cell,le _ I.free,λ x c q=>le _ (I.fT x c q),λ p ar=>?_,λ b bQ q=>?_,I.len]
 ·have:=I.base.iW b xs q;rw [g b λ z=>h.1 xs (z ▸ this)];exact this
 ·have:=I.base.iy b bQ u q;rw [g b λ z=>h.2.1 bQ u (z ▸ this)];exact this
 ·obtain ⟨m,this⟩:=I.base.iV b ag q;exact #[m,by rw [g b λ z=>h.2.2.1 _ (z ▸ this)];exact this]
 ·obtain ⟨a,b,c,d,f⟩:=I.pin p ar;exact #[a,le _ b,c,d,f]
 ·by_cases z:b=e
  ·rw [z,h0] at q;cases q
  ·rw [g b z] at q;refine (I.aS b bQ q).hQ (λ Z Z Z q=>q) (λ c q=>?_) λ c xs q=>?_
   ·rw [g c λ z=>h.2.2.2 _ (z ▸ q)];exact q
   ·rw [g c λ z=>h.1 _ (z ▸ q)];exact q
def B1 (C:Addr) (f:Str):bz:=λ vs H Q Z=>∃ (e t:Addr) (v:V),vs=[.ref e,v]/\H e=some (jB e C .n t)/\∀ aE,H aE=.n->Q .aX (upd (upd H e (jB e C (some aE) t)) aE (.ia [(f,v)]))
def Wx (C:Addr) (f:Str) (E:dZ) (aP:dh):c9:=λ _ σ H=>aP σ H λ vs H1=>∃ v,vs=[v]/\∀ aE ao,ax H1 ao->ao aE=some (.ia [(f,v)])->E (.ref C) (some aE) ao
theorem Zf (k:oM X E) (Q:X.ex=[]) (dE:X.calm=.t) (c:kL X.K X.mg x C Fr gK) (F:dO X.prog X.w X.K X.mg X.base bY gM gK fd ag (B1 C f)) (e1:c6 (gM+1) X.A) (ae:Binds X.K fd ag [])
  (kR:cI X x) (au:dM X [a] aP) (mf:noStar a=.t:=by rfl) (cu:(backTo cF (starEach [] X.env)).any (·.1)=.f:=by rfl) (hd:(x==("__debug__" : Str))=.f:=by decide):e0 X (.Raise (some (.Call (.Name x np) [a] [] cF)) .n pos) (Wx C f E aP):=#[by
 intro pins s σ H D I h;obtain ⟨nm,q,N,bs,sn,sub,ab,col,dd,k0,k1,k2,k3,k5,G,J,P2⟩:=c.bQ;obtain ⟨kU,P0,P1⟩:=c.fn;have he:=p6 mf [] X.env;have Qu:=Z0 I.mod.hN (.of_isNs (Bx I.mod.hN J)) P2;refine DA.Z_ (C:=C) (nm:=nm) (q:=q) (N:=N) (bs:=bs) (bm:=.ref Fr::ih) (hdct:=.t) (sn:=sn) (sub:=sub) (ab:=ab) (col:=col) (dd:=dd) (k0:=k0) (k1:=k1) (k2:=k2) (k3:=k3) (k5:=k5)
  wF (mN:=X.base.nsMap N) (by rfl) (I.ok.hd.1 dE) (by rw [he];show (.f||(backTo cF (starEach [] X.env)).any (·.1))=.f;rw [cu];rfl) Qu P1 (jS I kR c.at_ #[Y,?_] hd)
 have L:=au.o cF pins s σ H _ I h;rw [he] at L ⊢;refine tw (a8 L ?_);rintro us s1 ⟨vs,H1,d,r,v,ev,Z⟩;subst ev;obtain ⟨u,rfl,yP⟩:=vals1 r;have uG:X.base.Ns N (X.base.nsMap N):=.of_isNs (Bx I.mod.hN J);refine #[Y,(by show 1<=sizeLine;decide),d.cT _ _ G,uG.keeps d.aN,c.tail d.cT,d.cT _ _ P0,λ h' e hm=>?_];obtain ⟨t,sm,_,_⟩:=hm.there;have S:Inv X pins σ H1 { s1 with heap:=h' }:=d.kept hm.keeps;have B:=ef.of d Q hm.new;have m:=d.aS.gone hm.new;have Rv:∀ b∈eF X.stack,b≠e:=λ b ae z=>by
  obtain ⟨_,o,M,_⟩:=d.stack.mem ae;rw [z,hm.new] at M;cases M
 have n:=S.known Q B m (HK sm) Rv;have r0:Vals [V.ref e,v] [Value.ref e,u]:=.cons Y (.cons yP .nil);have P:B1 C f [V.ref e,v] (upd H1 e (jB e C .n t)) (λ R ao=>R=.aX/\∃ aE,upd H1 e (jB e C .n t) aE=.n/\ao=upd (upd (upd H1 e (jB e C .n t)) e (jB e C (some aE) t)) aE (.ia [(f,v)])) gs :=
  #[e,t,v,Y,bc,λ aE g=>#[Y,aE,g,Y]]
 have eO:([Value.ref e,u]++[]).length=ag.length:=by
  have aU:=F.len _ _ _ _ P;rw [<-aU];rfl
 refine ko (jI (F.run _ X.stack _ _ #[[Value.ref e,u],[]] [Value.ref e,u] [V.ref e,v] _ gs (e1.make C [u] []) (n.o2.make C [u] []) (ae _ [Value.ref e,u] n.cT eO) r0 P) λ r s' j=>?_);cases r with
 | error e=>exact False.elim j
 | ok fl =>
  cases fl with
  | next=>exact False.elim j
  | brk=>exact False.elim j
  | cont=>exact False.elim j
  | ret adj =>
   obtain ⟨R,H',p,Pg,ev,aE,g,y⟩:=n.after j;subst ev;have l:aE≠e:=λ z=>by rw [z,bc] at g;cases g
   have Sz:H1 aE=.n:=by rw [a3 l] at g;exact g
   have i:H' e=some (jB e C (some aE) t):=by rw [y,a3 (eT l),bc]
   have O:s'.heap.get? e=some { cls:=.ref C,dict:=some aE,data:=.fields [.ref t,.none,.none,.none,.bool .f,.none].toArray }:=(p.aS e _ i).1;have T:Inv X pins σ (upd H1 aE (.ia [(f,v)])) s':=by
    refine p.forget (e:=e) (λ b nb=>?_) ?_ #[λ xs z=>?_,λ o u z=>?_,λ ag z=>?_,λ b z=>?_]
    ·rw [y];by_cases z:b=aE
     ·rw [z,bc,bc]
     ·rw [a3 z,a3 z,a3 nb,a3 nb]
    ·rw [a3 (eT l)];exact m
    ·rw [i] at z;cases z
    ·rw [i] at z;cases z
    ·rw [i] at z;cases z
    ·rw [i] at z;cases z
   refine #[Pg,p.cT _ _ G,#[t,some aE,O],?_];refine k pins σ _ s' e C (some aE) .none [] T B (by rw [a3 (eT l)];exact m) #[_,_,O,Y,Y,Y,Y,Y] (.inl #[Y,Y]) (λ b ae=>absurd ae .zs) (Z aE _ (cb.ax.new Sz) bc)]
structure GS (K:aT) (C F:Addr):Prop where
 bQ:∃ nm q N bs bm hdct sn sub ab col dd k0 k1 k2 k3 k5,K.lookup C=some (excClassObj nm q C N bs bm hdct sn sub ab col dd k0 k1 k2 k3 k5 "ValueError.__new__")
 EM:PySem.W.mroIn K C (.ref F)=some .t
 ne:C≠F
def TS (K:aT) (to fg:TE) (f:Str):c9:=λ D σ H=>fg σ H λ y H1=>to σ H1 λ x ao=>∃ (e C Fr t:Addr) (cd:ClassData),x=.ref e/\ao e=some (jB e C .n t)/\PySem.W.clsIn K C=some cd/\cd.mro=.ref C::.ref Fr::ih/\cd.hasDict=.t /\
 PySem.W.mroIn K C (.type "object")=some .t/\PySem.W.findIn K (.ref C) "__setattr__" = some (some (.builtin "object.__setattr__"))/\PySem.W.takerIn K C f=some .n/\∀ aE,ao aE=.n->D.bg σ (upd (upd ao e (jB e C (some aE) t)) aE (.ia [(f,y)]))
theorem Wn (k:X.ex=[]) (au:a7 X o aP) (aM:a7 X value fg) (aA:swapsWith value (some (.Attribute o f pos')) pos.line X.env=pure .f):e0 X (.Assign [.Attribute o f pos'] value pos) (TS X.K aP fg f):=#[by
 intro pins s σ H D I h;refine plainObj_wpAny_Assign_Attribute (a8 (aM.o pins s σ H _ I h) ?_) aA;rintro u s1 ⟨y,H1,m,L,q⟩;refine a8 (au.o pins s1 σ H1 _ m q) ?_;rintro E s2 ⟨x,ao,a,J,e,C,Fr,t,cd,ex,he,r,v,hd,w,A,aI,G⟩;subst ex;obtain rfl:E=Value.ref e:=J;have j:=(a.aS e _ he).1;refine PySem.W.Wy a.cT j r v hd w A aI λ h' aE a6 c l aB ay=>?_
 have n:Inv X pins σ (upd ao e (jB e C (some aE) t)) { s2 with heap:=h',toks:=a6 }:=a.write (by rw [he];trivial) (.inl Y) ay #[_,l] (HK l);have d:=a.aS.gone c;have B:aE≠e:=λ z=>by rw [z,j] at c;cases c
 have fd:=ef.of a k c;have p:Inv X pins σ (upd (upd ao e (jB e C (some aE) t)) aE (.ia [(f,y)])) { s2 with heap:=h',toks:=a6 }:=by
  refine n.known k fd (by rw [a3 B];exact d) #[_,aB,λ g=>?_] λ b ae z=>?_
  ·by_cases z:g=f
   ·have ae:=i2.mpr z;simp only [List.lookup,ae,if_pos z];exact L
   ·have ae:=nN.mpr z;simp only [List.lookup,ae,if_neg z];trivial
  ·obtain ⟨_,o,i,_⟩:=a.stack.mem ae;rw [z,c] at i;cases i
 exact #[σ,_,p,G aE d]]
def GH (K:aT) (aP:TE) (f:Str):TE:=λ σ H Q=>aP σ H λ x H1=>∃ (e C aE:Addr) (aj:List (Str×V)) (v:V),x=.ref e/\H1 e=some (mx e C (some aE))/\H1 aE=some (.ia aj)/\PySem.W.iv K C/\PySem.W.hasDictIn K C=.t/\PySem.W.findIn K (.ref C) f=some .n/\aj.lookup f=some v/\Q v H1
theorem Xa {σ:St} (I:Inv X pins σ H s) (he:H e=some (mx e C (some aE))) (hd:H aE=some (.ia aj)) :
  ∃ (b1:Obj) (da:Str->cE) (cZ:Obj),PySem.W.InstAt s.heap e b1 C (some cZ)/\(∀ name,PySem.W.lookIn name cZ=some (da name))/\∀ f,fP (aj.lookup f) (da f):=by
 obtain ⟨⟨b1,vs,af,ai,a,b,_⟩,_,_⟩:=(I.aS e _ he)
 obtain ⟨da,aB,g⟩:=(I.aS aE _ hd)
 obtain ⟨cZ,d,c⟩:=J8 aB;refine #[b1,da,cZ,#[af,ai,?_,?_],c,g]
 ·unfold PySem.W.notCls;rw [b]
 ·rw [a];exact d
theorem Wi (he:a7 X e aP) (ae:attributeBase e f X.env (eval e X.env)=eval e X.env):a7 X (.Attribute e f pos) (GH X.K aP f):=#[by
 intro pins s σ H Q I h;refine HC ae (a8 (he.o pins s σ H _ I h) ?_);rintro u s1 ⟨x,H1,b,p,a,C,aE,aj,v,ex,g,i,e4,j,au,l,q⟩;subst ex;obtain rfl:u=Value.ref a:=p;obtain ⟨b1,da,cZ,J,k,m⟩:=Xa b g i;have c:=m f;rw [l] at c;obtain ⟨r,n,d⟩:=c.some_of;exact PySem.W.Vq b.cT J e4 (PySem.W.findObj_own j au Y (by rw [k,n])) (J2 d) #[v,H1,b.tok _,d,q]]
theorem I7 {K:aT} (a:X.K=K) (he:a7 X e aP) (ae:attributeBase e f X.env (eval e X.env)=eval e X.env):a7 X (.Attribute e f pos) (GH K aP f):=by
 subst a;exact Wi he ae
structure qM (P:Program) (w:World) (K:aT) (mg:Str->cE) (base:Heap) (k:Nat) (f:Addr) (fd:FuncData) (ag:b2) (sp:bz):Prop where
 len:∀ vs H Q E,sp vs H Q E->vs.length=ag.length
 run:∀ (A:Around) (outer:List Env) (s:Shared) (H:aC) (args:Args) (us:List Value) (vs:bj) (Q:cj) (E:dZ),gV k A->qD A s.heap H (eF outer) []->kg P w K mg base A outer s H->BindsTo s fd args (ag.zip us)->Vals vs us->sp vs H Q E ->
  codeAny (model P w) A (.call (.ref f) args) (x7 bY outer P w H s Q E) s
theorem qM.fn {K:aT} (F:qM P w K mg base k f fd ag sp):dO P w K mg base cx k f fd ag sp :=
 #[F.len,λ A outer s H args us vs Q E b c ae r d=>jI (F.run A outer s H args us vs Q E b.u (.inl b.hd) c ae r d) λ z s' a=>by
  cases z with
  | error e=>exact False.elim a
  | ok fl=>cases fl<;>exact a]
noncomputable abbrev uX (P:Program) (w:World) (K:aT) (mg:Str->cE) (base:Heap) (N:b2) (qual:Str) (scope:Scope) (f:Addr) (cd:Value) (A:Around) (outer:List Env) (s:Shared) (H:aC) (E:dZ):a5 :=
 { ix bY P w K mg base N qual scope f cd A outer s H E with calm:=.f,warm:=.t,ct:=λ Z Z=>False }
theorem ZL {K:aT}
  (S:bF N ag scope) (b:qD A s.heap H (eF outer) []) (a:kg P w K mg base A outer s H) (c:vs.length=ag.length) (r:Vals vs us)
  (x:InCallC s s.heap.objs.size (bindL (envOfC qual scope s.heap.objs.size f cd).kindOf (ag.zip us) λ Z=>.n) (cellsFrom (s.heap.objs.size+1) scope.names []) (bindC (envOfC qual scope s.heap.objs.size f cd).kindOf (ag.zip us) λ Z=>.n) s1) :
  Inv (uX P w K mg base N qual scope f cd A outer s H E) [] (start N vs) H s1:=by
 have I:Inv (ix bY P w K mg base N qual scope f cd ({ A with handled:=.n }) outer s H E) [] (start N vs) H s1:=CC S rfl #[a.frames,a.mod,a.bs,a.hg,a.gc,a.il,a.aS,a.bare] c r x;have ok:=I.ok;exact #[#[ok.mod,ok.kind,ok.glob,ok.blt,ok.above,ok.inj,ok.has,ok.kZ,#[λ h=>(nomatch h),λ Z=>b],ok.frames,ok.mq,ok.oO,ok.bs,ok.hg,ok.lh,ok.my,ok.gc,ok.il],I.os,I.bare,I.base,I.loc,I.cell,I.free,I.fT,I.pin,I.aS,I.len]
theorem gy.iR {K:aT} {st:Stmt} (F:gy K x qual st f fd) (S:bF N ag (bk st)) (len:∀ vs H Q E,sp vs H Q E->vs.length=ag.length)
  (i:∀ a0 A outer s H vs Q E,gV k (A.deeper (envOfC qual (bk st) s.heap.objs.size f a0))->sp vs H Q E ->
   ∃ t,f7 (uX P w K mg base N qual (bk st) f a0 A outer s H E) (jR st) t/\t { bg:=λ Z H'=>Q .aX H',jo:=Q } (start N vs) H):qM P w K mg base (k+1) f fd ag sp:=by
 obtain ⟨fs,cZ,c_,doc,pm,an,a0,cG,mm,rfl,lk,j⟩:=F.ex;refine #[len,λ A outer s H args us vs Q E g l a ae r h=>?_];have p:=len _ _ _ _ h;have d:=a.mod.hN.keeps λ b o e=>(a.bs b o e).1
 have lim:=a.mod.nolimit.keeps λ b o e=>(a.bs b o e).1
 have m:∀ y∈ag.zip us,(bk st).names.lookup y.1=some .local\/((bk st).names.lookup y.1=some .cell/\((cellsFrom (s.heap.objs.size+1) (bk st).names []).lookup y.1).isSome=.t):=λ ⟨n,v⟩ B=>by
  rcases S.par n (mL B).1 with q|q
  ·exact .inl q
  ·exact .inr #[q,v8 _ _ _ (.inl q)]
 refine Bp g.depth (d _ _ lk) rfl S.co S.gen rfl (Bq d j) (ae _ _ _ _ ?_);refine Br S.kind m λ env he s1 x=>?_
 subst he;refine #[lim.keeps x.toInCall.keep,codeAny_func ?_];obtain ⟨t,aI,z⟩:=i a0 A outer s H vs Q E (g.deeper _) h;have I:Inv (uX P w K mg base N qual (bk st) f a0 A outer s H E) [] (start N vs) H s1:=ZL S l a p r x;refine eU (aI.o [] s1 (start N vs) H _ I z) (λ fl s' aA=>?_) λ e s' aA=>aA.elim
 have fin:∀ {σ':St} {H':aC} {v:V} {u:Value},Inv (uX P w K mg base N qual (bk st) f a0 A outer s H E) [] σ' H' s'->RelV v u->Q v H'->p9 outer P w H s Q u s' :=
  λ {σ' H' v u} J c q=>#[v,H',J.os,J.bare,J.base,J.aS,c,q]
 cases fl with
 | ret u =>
  obtain ⟨v,σ',H',J,c,q⟩:=aA;exact fin J c q
 | next =>
  obtain ⟨σ',H',J,q⟩:=aA;exact fin (v:=V.aX) J rfl q
 | brk =>
  obtain ⟨_,_,_,q⟩:=aA;exact False.elim q
 | cont =>
  obtain ⟨_,_,_,q⟩:=aA;exact False.elim q
section
variable {X:a5} {k:Nat} {f:Addr} {fd:FuncData} {ag:b2} {sp:bz} {x:Str} {p pos:Pos} {e:Expr} {ah:List Expr} {t:dh}
theorem h3 (F:qM X.prog X.w X.K X.mg X.base k f fd ag sp) (l:gV k X.A) (hw:X.warm=.t) (i:cI X x) (hm:X.mg x=some (.ref f)) (ay:PySem.W.keepIn X.K (.ref f)=.t) (ae:Binds X.K fd ag [])
  (au:dM X (e::ah) t) (g:(x==("__debug__" : Str))=.f:=by decide) (m:noStar e=.t:=by rfl) (cu:(backTo pos (starEach ah X.env)).any (·.1)=.f:=by rfl) :
  a7 X (.Call (.Name x p) (e::ah) [] pos) (nK sp [] gs t):=#[by
 intro pins s σ H Q I h;refine kp (jS I i hm ?_ g);refine pB I.ok.mod.hN ay (a8 (au.o pos pins s σ H _ I h) ?_) (p6 m ah X.env) cu;rintro us s1 ⟨vs,H1,a,r,q⟩;refine #[a.cT,?_];have d:=r.append .nil;have j:(us++[]).length=ag.length:=by rw [<-d.length];exact F.len _ _ _ _ q
 refine ko (jI (F.run X.A X.stack s1 H1 #[us,[]] (us++[]) (vs++[]) Q gs l (a.Er hw λ b ae=>absurd ae .zs) a.o2 (ae s1 us a.cT j) d q) λ r s' c=>?_);cases r with
 | error e=>exact False.elim c
 | ok fl =>
  cases fl with
  | ret u=>exact a.after c
  | next=>exact False.elim c
  | brk=>exact False.elim c
  | cont=>exact False.elim c]
def Vc (x:Addr) (sp:bz) (t:dh):TE:=λ σ H Q=>t σ H λ vs H1=>(∃ C d,H1 x=some (mx x C d))/\∀ ao,ao x=.n->(∀ b,b≠x->ao b=H1 b)->sp (vs++[]) ao Q gs
theorem X6 (F:qM X.prog X.w X.K X.mg X.base k f fd ag sp) (v:gV k (i0 X y).A) (J:X.ex=[]) (m:cI (i0 X y) x) (hm:X.mg x=some (.ref f)) (ay:PySem.W.keepIn X.K (.ref f)=.t) (ae:Binds X.K fd ag [])
  (au:dM (i0 X y) (e::ah) t) (l:(x==("__debug__" : Str))=.f:=by decide) (B:noStar e=.t:=by rfl) (cu:(backTo pos (starEach ah X.env)).any (·.1)=.f:=by rfl) :
  a7 (i0 X y) (.Call (.Name x p) (e::ah) [] pos) (Vc y sp t):=#[by
 intro pins s σ H Q I h;refine kp (jS I m hm ?_ l);refine pB I.ok.mod.hN ay (a8 (au.o pos pins s σ H _ I h) ?_) (p6 B ah X.env) cu;rintro us s1 ⟨vs,H1,a,r,⟨C,d,he⟩,E⟩;refine #[a.cT,?_];have q:=E (λ b=>if b=y then .n else H1 b) (if_pos Y) λ b nb=>if_neg nb
 have g:Inv (i0 X y) pins σ (λ b=>if b=y then .n else H1 b) s1:=by
  refine a.forget (λ b nb=>if_neg nb) (if_pos Y) #[λ xs z=>?_,λ o u z=>?_,λ ag z=>?_,λ b z=>?_]
  ·rw [he] at z;cases z
  ·rw [he] at z;cases z
  ·rw [he] at z;cases z
  ·rw [he] at z;cases z
 have bQ:∃ b1 vs,s1.heap.get? y=some b1/\b1.cls=.ref C/\b1.dict=d/\b1.data=.fields vs/\vs[2]?=some .none:=(a.aS y _ he).1;obtain ⟨b1,G,af,_,_,ai,j⟩:=bQ;have D:y∉eF X.stack:=λ z=>by
  have:=a.tO y z;rw [he] at this;cases this
 have hd:qD (i0 X y).A s1.heap (λ b=>if b=y then .n else H1 b) (eF (i0 X y).stack) [] :=
  .inr #[y,b1,G,Y,af,if_pos Y,D,.zs,ai,j]
 have i:=r.append .nil;have n:(us++[]).length=ag.length:=by rw [<-i.length];exact F.len _ _ _ _ q
 refine ko (jI (F.run (i0 X y).A X.stack s1 _ #[us,[]] (us++[]) (vs++[]) Q gs v hd g.o2 (ae s1 us a.cT n) i q) λ r s' c=>?_);cases r with
 | error e=>exact False.elim c
 | ok fl =>
  cases fl with
  | ret u=>exact g.after c
  | next=>exact False.elim c
  | brk=>exact False.elim c
  | cont=>exact False.elim c]
end
def vB (X:a5) (E:St->dZ):Prop:=∀ pins (σ:St) H s (e C) d head a,Inv X pins σ H s->ef X pins e->H e=.n ->
 Rec s.heap e (.ref C) d head->te s.heap e head a->(∀ b∈a,ef X pins b/\H b=.n)->E σ (.ref C) d H->X.ct (.ref e) s
theorem Yr (i:X.ex=[]) (c:X.stack=X.env::X.outer) (hf:X.env.frame=some X.env.locals)
  (l:∀ (σ:St) H s e C T d,Inv X pins σ H s->ef X pins e->H e=.n->Rec s.heap e (.ref C) d (.ref T)->Ent s.heap T .none->T≠e->ef X pins T->H T=.n->E σ (.ref C) d H->W (.ref e) s)   : vB (iC X pins W) E:=by
 intro qQ σ H s e C d head o I g f q n h k;have a:=I.fm;have m:X.A.frames=some (X.env::X.outer):=by rw [<-c];exact a.ok.frames
 have p:s.heap.FunFrames X.base (X.env::X.outer):=by rw [<-c];exact a.stack
 refine landed m p hf q n λ h' T bA u r v t1=>?_
 have t:hv (e::o) (eF X.stack) s.heap h':=by rw [c];exact r
 have j:=a.lL i t λ b ae=>by
  rcases b5.mp ae with z|z
  ·rw [z];exact #[g.fm,f]
  ·exact #[(h b z).1.fm,(h b z).2]
 exact l σ H _ e C T d j g.fm f v t1 u (ef.of a i bA) (a.aS.gone bA) k
def WH (sp:bz) (E:St->dZ) (t:dh):TE:=λ σ H Q=>t σ H λ vs H1=>sp (vs++[]) H1 Q (E σ)
section
variable {X:a5} {k:Nat} {f:Addr} {fd:FuncData} {ag:b2} {sp:bz} {x:Str} {p pos:Pos} {e:Expr} {ah:List Expr} {t:dh} {E:St->dZ}
theorem Zb (F:dO X.prog X.w X.K X.mg X.base (f6 X.prog X.w) k f fd ag sp) (G:c6 k X.A) (g:X.ex=[]) (d7:vB X E) (y:cI X x) (hm:X.mg x=some (.ref f)) (ay:PySem.W.keepIn X.K (.ref f)=.t) (ae:Binds X.K fd ag [])
  (au:dM X (e::ah) t) (v:(x==("__debug__" : Str))=.f:=by decide) (L:noStar e=.t:=by rfl) (cu:(backTo pos (starEach ah X.env)).any (·.1)=.f:=by rfl) :
  a7 X (.Call (.Name x p) (e::ah) [] pos) (WH sp E t):=#[by
 intro pins s σ H Q I h;refine kp (jS I y hm ?_ v);refine pB I.ok.mod.hN ay (a8 (au.o pos pins s σ H _ I h) ?_) (p6 L ah X.env) cu;rintro us s1 ⟨vs,H1,a,r,q⟩;refine #[a.cT,?_];have i:=r.append .nil;have B:(us++[]).length=ag.length:=by rw [<-i.length];exact F.len _ _ _ _ q
 refine ko (jI (F.run X.A X.stack s1 H1 #[us,[]] (us++[]) (vs++[]) Q (E σ) G a.o2 (ae s1 us a.cT B) i q) λ r s' c=>?_);cases r with
 | error ev =>
  obtain ⟨e,T,C,d,H',rfl,D,z,u,aS,m,l,M,j,c7,J,aI,n⟩:=c;exact d7 pins σ H' s' e C d (.ref T) [T] (a.AR D u aS z λ b ae=>absurd ae .zs) (ef.of a g m) j J (.inr #[T,Y,aI,M,Y]) (λ b ae=>by rw [dH.mp ae];exact #[ef.of a g l,c7]) n
 | ok fl =>
  cases fl with
  | ret u=>exact a.after c
  | next=>exact False.elim c
  | brk=>exact False.elim c
  | cont=>exact False.elim c]
end
def Hy (K:aT) (F:Addr) (aU:Addr->Prop):Prop:=∀ C,aU C->∀ M A E Q s e b1,K.In s.heap->s.heap.get? e=some b1->b1.cls=.ref C->Q .t s->wpAny M A (excMatches (.ref e) (.ref F)) Q E s
def T2 (aU:Addr->Prop) (i:Nat) (E:St->dZ) (aQ:c9) (bH:Addr->c9):c9:=λ D σ H=>aQ D σ H/\∀ C d H1 σ1,E σ1 (.ref C) d H1->aU C/\∀ e,H1 e=.n->i<σ1.length ->
 bH e { bg:=λ σ2 ao=>D.bg ((σ2.set i (some .aX)).set i .n) ao,jo:=D.jo,aN:=λ σ2 ao=>D.aN ((σ2.set i (some .aX)).set i .n) ao,cG:=λ σ2 ao=>D.cG ((σ2.set i (some .aX)).set i .n) ao } (σ1.set i (some (.ref e))) (upd H1 e (mx e C d))
theorem Wo (r:X.ex=[]) (mf:X.stack=X.env::X.outer) (hf:X.env.frame=some X.env.locals) (Q:X.mg x=some (.ref F)) (OT:Hy X.K F aU) (kR:cI X x)
  (l:X.N.Nodup) (av:X.N[i]?=some n) (ay:X.env.scope.names.lookup n=some .local)
  (ae:∀ pins W,vB (iC X pins W) E->f7 (iC X pins W) body aQ) (aA:∀ e,f7 (i0 X e) (k::y) (bH e)) (hd:(x==("__debug__" : Str))=.f:=by decide) :
  e0 X (.Try body [.ExceptHandler (some (.Name x np)) (some n) (k::y) p] [] [] pos) (T2 aU i E aQ bH):=#[by
 rintro pins s σ H D I ⟨af,ai⟩;refine wpAny_Try_except ?_;have yx:∀ σ H s e C T d,Inv X pins σ H s->ef X pins e->H e=.n->Rec s.heap e (.ref C) d (.ref T)->Ent s.heap T .none->T≠e->ef X pins T->H T=.n->E σ (.ref C) d H ->
   wpAny (model X.prog X.w) X.A (handleBy (.ref e) X.env [.ExceptHandler (some (.Name x np)) (some n) (k::y) p]) (gJ X pins D) X.ct s:=by
  intro σ H s e C T d I S B J aI z4 R c7 rR;obtain ⟨OU,zU⟩:=ai C d H σ rR;have hiσ:i<σ.length:=by rw [I.len];exact (dK.mp av).1
  refine wpAny_handleBy_cons (codeAny_handlers_test (v5 I.ok.kind kR (Ba (by rw [I.ok.glob];exact I.mod.glob.keeps I.aN) Q ?_) hd)) (by intro q;cases q);obtain ⟨b1,vs,he,zE,Qg,Qi,QR⟩:=id J;refine OT C OU _ _ _ _ _ _ _ I.cT he zE ?_;refine codeAny_handlers_suite_as ?_;refine land (F:=eF X.stack) J aI z4 (λ b ae z=>?_) λ h' yC L t1=>?_
  ·obtain ⟨_,o,j,m⟩:=I.stack.mem ae;obtain ⟨O9,Ag,bA,zG,_⟩:=aI;rw [z,bA] at j;injection j with j;subst j;exact m Ag zG
  have G:=I.lL r yC λ b ae=>by rw [dH.mp ae];exact #[R,c7]
  have M:=G.known r S B (Rec.ok L) λ b ae z=>by
   obtain ⟨_,o,j,m⟩:=G.stack.mem ae;obtain ⟨RI,Ak,sm,_,_,zF,_⟩:=L;rw [z] at j;have:=sm.symm.trans j;injection this with this;subst this;exact m Ak zF
  refine rq M l av (.inl ay) (v:=.ref e) Y (λ s2 O=>?_) (.inr ay);refine eU ((aA e).o pins s2 _ _ _ O.wj (zU e B hiσ)) (λ f s3 h=>?_) λ _ _ z=>z.elim
  have fin:∀ σ3 a (Z:Flow->Shared->Prop) , Inv X pins σ3 a s3->(∀ s5,Inv X pins ((σ3.set i (some .aX)).set i .n) a s5->Z f s5) ->
    wpAny (model X.prog X.w) X.A (do bindName X.env n .none;unbindBehindTheSuite X.env n p) (λ _ s5=>Z f s5) X.ct s3:=by
   intro σ3 a Z c yy;have zM:i<σ3.length:=by rw [c.len];exact (dK.mp av).1
   refine az (wpAny_bindName (rq c l av (.inl ay) (v:=.aX) Y (λ s4 P=>?_) (.inr ay)));unfold unbindBehindTheSuite;exact lD (Kz P l av ay (pw zM) λ s5 g=>yy s5 g)
  cases f with
  | next =>
   obtain ⟨σ3,a,c,q⟩:=h;exact fin σ3 a (gJ X pins D) (c.ob I.ok) λ s5 g=>#[_,_,g,q]
  | brk =>
   obtain ⟨σ3,a,c,q⟩:=h;exact fin σ3 a (gJ X pins D) (c.ob I.ok) λ s5 g=>#[_,_,g,q]
  | cont =>
   obtain ⟨σ3,a,c,q⟩:=h;exact fin σ3 a (gJ X pins D) (c.ob I.ok) λ s5 g=>#[_,_,g,q]
  | ret u =>
   obtain ⟨v,σ3,a,c,t,q⟩:=h;exact fin σ3 a (gJ X pins D) (c.ob I.ok) λ s5 g=>#[v,_,_,g,t,q]
 have y1:vB (iC X pins λ e s3=>wpAny (model X.prog X.w) X.A (handleBy e X.env [.ExceptHandler (some (.Name x np)) (some n) (k::y) p]) (gJ X pins D) X.ct s3) E:=Yr r mf hf yx;refine eU ((ae pins _ y1).o [] s σ H D I.s_ af) (λ f s1 h=>?_) λ _ _ z=>z
 cases f with
 | next =>
  obtain ⟨σ3,a,c,q⟩:=h;exact px #[σ3,a,c.fm,q]
 | brk =>
  obtain ⟨σ3,a,c,q⟩:=h;exact #[σ3,a,c.fm,q]
 | cont =>
  obtain ⟨σ3,a,c,q⟩:=h;exact #[σ3,a,c.fm,q]
 | ret u =>
  obtain ⟨v,σ3,a,c,t,q⟩:=h;exact #[v,σ3,a,c.fm,t,q]]
theorem ZW {K:aT} (c:kL K mg x C Fr gK):Hy K C (λ D=>D=C):=by
 rintro _ rfl M A E Q s e b1 X he a b;obtain ⟨nm,q,N,bs,sn,sub,ab,col,dd,k0,k1,k2,k3,k5,h,_⟩:=c.bQ;obtain ⟨f,g,d,t,os⟩:=s;refine wpAny_excMatches_sub_self (X _ _ h) he a ?_ b;rw [tE,show ih.contains (.type "BaseException")=.t by decide +kernel,Bool.or_true]
open PySem PySem.Spec PyProof.Rows kM PySem.W
open PySem PySem.Spec PySem.Calls PyProof.Rows
def Ss (n:Nat) (t:oL):fp:=λ v σ H Q=>∃ a xs,v=.ref a/\H a=some (.lst xs)/\xs.length=n/\t xs σ H Q
theorem Hj (g:X.calm=.t) (h:qp X ah t)
  (aB:(assignEach ah X.env).length=n:=by rfl) (l:(assignEach ah X.env).findIdx? (·.1)=.n:=by rfl):jf X (.Tuple ah k pos) (Ss n t):=#[by
 intro pins s σ H v u Q I r hw;obtain ⟨a,xs,f,j,i,hw⟩:=hw;subst f;cases r;obtain ⟨w,c,p,x⟩:=I.list (aK.of j);rw [assign_Tuple];refine az (nL ?_);unfold unpack;have m:(assignEach ah X.env).length=w.toArray.size:=by simp [aB,<-i,c.length]
 rw [m,l];refine az (eS (PySem.W.kun_itemsOf (I.ok.hd.1 g) p.isList λ h' q=>?_));have d:=I.kept (t':=s.toks) λ b o e=>q b o (cR (bZ e)) e
 exact h.o pins _ σ H xs _ Q d (by simpa using c) hw]
theorem tN {x: α} (aB:xs.length=n+1) (h:xs[n]?=some x):es xs (-1)=some x:=by
 have e:xs=xs.take n++[x]:=by
  have af:xs.take (n+1)=xs:=hU .ak;rw [jN,h] at af;exact af.symm
 rw [e];exact IC _ _
end bt
namespace cA
theorem IM (h:goN rows n p=some r) (hf:b_ rows r=.n):∀ j,goN rows (n+1+j) p=.n
 | 0=>by
  show (goN rows n p).bind (ew rows)=.n;rw [h];exact Yg hf
 | j+1=>by
  show (goN rows (n+1+j) p).bind (ew rows)=.n;rw [IM h hf j];rfl
theorem p4 (h:goN rows n p=some r) (hf:b_ rows r=.n) (hm:goN rows m p=some q):m<=n:=by
 by_cases z:m<=n
 ·exact z
 ·obtain ⟨j,a⟩:∃ j,m=n+1+j:=#[m-n-1,.ak]
  rw [a,IM h hf j] at hm;cases hm
theorem IP (h:goN rows n p=some r) (hf:b_ rows r=.n) (hm:goN rows m p=some q) (a:b_ rows q=.n):n=m:=Nat.le_antisymm (p4 hm a h) (p4 h hf hm)
def AP (rows:ed) (m:Nat) (ag:bp) (rws:ed):Prop:=rws.length=(ft rows m ag).length+1/\(∀ i,i<rws.length->rws[i]?=goN rows i ag)/\((ft rows m ag).length=m\/∃ cur,goN rows (ft rows m ag).length ag=some cur/\b_ rows cur=.n)
theorem tS (l):(eG l).length=l.length:=by unfold eG;rw [bb]
end cA
namespace bt
open PySem PySem.Spec PyProof.Rows
noncomputable abbrev Itm (K:aT) (a b:Addr):g_:=oI .f .t K a b
abbrev Tw (K:aT) (aP:dh):TI:=AZ .f .t K aP
theorem H5 (e:kE bu=.t) (c:cI X "zip") (hm:X.mg "zip" = .n) (au:dM X [b,a] aP) (aA:starEach [b,a] X.env=[(.f,eval b X.env),(.f,eval a X.env)]:=by rfl) (d:starEach [a] X.env=[(.f,eval a X.env)]:=by rfl)
  (ae:bootBuiltins "zip" = some (.type "zip"):=by decide +kernel):iJ X bu (.Call (.Name "zip" p) [b,a] [] pos) (Tw X.K aP):=#[HW e c hm au.o aA d ae]
theorem Xd {K:aT} {g:fp} {aQ:c9} {D:Ends} (Pv:Nat->St->aC->Prop) (h0:Pv 0 σ H) (d:∀ i σ H,i<=min xs.length ys.length->Pv i σ H->aL K H a xs/\aK K H b ys)
  (aA:∀ i x y p σ H,xs[i]?=some x->ys[i]?=some y->H p=.n->Pv i σ H->g (.ref p) σ (upd H p (.tup [x,y])) λ σ2 ao=>aQ { D with bg:=Pv (i+1),cG:=Pv (i+1),aN:=D.bg } σ2 ao) (hd:∀ σ H,Pv (min xs.length ys.length) σ H->D.bg σ H) :
  ∃ W:Nat->Nat->St->aC->Prop,(∃ m,W 0 m σ H)/\∀ i m σ H,W i m σ H ->
   ((Itm K a b).stop i H/\D.bg σ H)\/((Itm K a b).go i H/\∃ N,(∀ σ' H',N σ' H'->∃ c,c<m/\W (i+1) c σ' H')/\∀ x H',(Itm K a b).gR i H x H'->g x σ H' λ σ2 ao=>aQ { D with bg:=N,cG:=N,aN:=D.bg } σ2 ao) :=
 IH Pv h0 d aA hd
open PySem PySem.Spec PyProof.Rows cb
noncomputable def fL (c:bp):List Key:=c.map λ i=>(Sum.inl i)
theorem Bk (c):(fL c).map c_=c.map V.int:=by
 unfold fL;rw [fa];rfl
theorem Ue (h:fL a=fL b):a=b:=by
 have:=Bk a;rw [h,Bk] at this;exact (List.map_inj_right (λ x y e=>by injection e)).mp this.symm
theorem BP {H:aC} (h:H b=some (tupI c)):H b=some (.tup ((fL c).map c_)):=by rw [Bk];exact h
section
variable {X:a5}
theorem Hb (e:X.A.units+1<cLine):cQ X (compareOp .In) (λ y x H Q=>∃ b d c kvs,y=.ref b/\x=.ref d/\H b=some (tupI c)/\H d=some (.eK kvs)/\Q (.aJ (b7 kvs (fL c)).isSome) H):=by
 intro pins s σ H y x u v Q I g f h;obtain ⟨b,d,c,kvs,rfl,rfl,ae,hd,q⟩:=h;cases f;exact Sn e I (hO.t hd (BP ae)) g λ s3 a=>#[.aJ _,H,a,Y,q]
def Vd (a ty:TE):TE:=λ σ H Q=>a σ H λ x H1=>ty σ H1 λ y ao=>∃ d b c kvs v,x=.ref d/\y=.ref b/\ao d=some (.eK kvs)/\ao b=some (tupI c)/\b7 kvs (fL c)=some v/\Q v ao
theorem w2 (k:X.A.units+1<cLine) (j:a7 X o p) (av:a7 X i ty) (aA:vz i):a7 X (.Subscript o i pos) (Vd p ty):=#[by
 intro pins s σ H Q I h;refine B2 BA.lookup aA (a8 (j.o pins s σ H _ I h) ?_);rintro u s1 ⟨x,H1,e,m,aO⟩;refine a8 (av.o pins s1 σ H1 _ e aO) ?_;rintro r s2 ⟨y,ao,a,n,l⟩;obtain ⟨d,b,c,kvs,v,rfl,rfl,hd,ae,aM,q⟩:=l;obtain rfl:u=Value.ref d:=m;have g:hO ao d (.ref b) (some v):=by rw [<-aM];exact hO.t hd (BP ae)
 exact #[C0 a g,Cz k a g n λ cm s3 f cU=>#[v,ao,f,cU,q]]]
def U5 (f ty fg:TE):c9:=λ D σ H=>fg σ H λ v H1=>f σ H1 λ x ao=>ty σ ao λ y a=>∃ d b c kvs,x=.ref d/\y=.ref b/\a d=some (.eK kvs)/\a b=some (tupI c)/\kvs.length<sizeLine/\∀ e,cb.br d a e->e d=some (.eK (putK kvs (fL c) v))->D.bg σ e
theorem H6 (l:X.A.units+1<cLine) (k:a7 X o B) (av:a7 X i ty) (aM:a7 X value fg) (aA:swapsWith value (some (.Subscript o i pos')) pos.line X.env=pure .f) :
  e0 X (.Assign [.Subscript o i pos'] value pos) (U5 B ty fg):=#[by
 intro pins s σ H D I h;refine BB (a8 (aM.o pins s σ H _ I h) ?_) aA;rintro r s1 ⟨v,H1,a,p,aO⟩;refine a8 (k.o pins s1 σ H1 _ a aO) ?_;rintro u s2 ⟨x,ao,e,w,m⟩;refine a8 (av.o pins s2 σ ao _ e m) ?_;rintro E s3 ⟨y,C,f,z,n⟩;obtain ⟨d,b,c,kvs,rfl,rfl,hd,ae,j,q⟩:=n;obtain rfl:u=Value.ref d:=w;exact CA l f (nA.t hd (BP ae) j) z p λ s4 g=>#[σ,_,g,q _ cb.br.upd bc]]
def WJ:TE:=λ Z H Q=>e7 (.eK []) H Q
theorem I6:a7 X (.Dict [] [] pos) WJ:=#[λ pins s σ H Q I h=>XI pins s σ H Q I (e7.at h)]
end
theorem L8 (h:d≠c):b7 (putK kvs (fL c) y) (fL d)=b7 kvs (fL d):=by
 rw [xi,if_neg λ e=>h (Ue e)]
theorem Nl:b7 (putK kvs (fL c) y) (fL c)=some y:=by
 rw [xi,if_pos rfl]
noncomputable def sP:V->Bool
 | .int _=>.t
 | .str _=>.t
 | _=>.f
theorem YG (h:sP x=.t) (a:RelV x u) (b:RelV x v):SeqAt.EqAt A s u v .t:=by
 cases x with
 | int i =>
  obtain ⟨t,rfl⟩:=a;obtain ⟨t',rfl⟩:=b;have:=Bs (A:=A) (s:=s) i t i t';rw [beq_self_eq_true] at this;exact this
 | str i =>
  obtain ⟨t,rfl⟩:=a;obtain ⟨t',rfl⟩:=b;have:=SeqAt.EqAt.str_str (A:=A) (s:=s) i t i t';rw [beq_self_eq_true] at this;exact this
 | _=>cases h
theorem KO (aA:∀ x∈xs,sP x=.t) (b:Vals xs us) (e:Vals xs vs) (j) (af) (ai:j<vs.toArray.size):SeqAt.EqAt A s us.toArray[j] vs.toArray[j] .t:=by
 have c:=b.length;have a:j<xs.length:=by rw [c];simpa using af
 obtain ⟨u,d,f⟩:=b.get (cV a);obtain ⟨v,aM,g⟩:=e.get (cV a);have k1:us.toArray[j]=u:=by
  have:us[j]?=some us.toArray[j]:=by simp
  rw [d] at this;exact (dS this).symm
 have k2:vs.toArray[j]=v:=by
  have:vs[j]?=some vs.toArray[j]:=by simp
  rw [aM] at this;exact (dS this).symm
 rw [k1,k2];exact YG (aA _ (kv a)) f g
section
variable {X:a5}
inductive A4:V->V->aC->cj->Prop
 |mk {x y H Q} (p xs i v):x=.ref p->y=.int i->H p=some (.lst xs)->0<=i->xs[i.toNat]?=some v->Q v H->A4 x y H Q
theorem Xg:Fu X A4:=by
 intro pins s σ H x y k j Q I c d h;obtain ⟨p,xs,i,z,rfl,rfl,b,h0,he,q⟩:=h;cases c;obtain ⟨t,rfl⟩:=d;obtain ⟨g,r,bw,f⟩:=I.list (aK.of b);obtain ⟨w,a,cU⟩:=r.get he;have e:=r.length;have aB:=pC;have av:=(dK.mp he).1;exact wpAny_getItem_list bw.isList h0 .ak (by simpa using a) #[z,H,I,cU,q]
theorem Wm (c:a7 X o to) (av:a7 X i d) (he:a7 X e bx)
  (au:∀ b a new,augStore i b a new=(do holding [new,b,a] (setItem b a new);release [new,b,a] [];pure .next):=by intros;rfl):e0 X (.AugAssign (.Subscript o i Gj) .Add e pos) (GF to d bx A4 (EO λ i j=>i+j) A5):=#[V8 c.o av.o Xg he.o Ud set_list au]
end
end bt
namespace cA
inductive p_ where
 | round (b l:Nat)
 | rests (n:Nat) (c:bp)
 | iB
def qn (rows:ed) (p:bp) (k:Nat):Prop:=∀ i j,i<j->j<k->goN rows i p≠goN rows j p
def nE (rows:ed) (m:Nat) (p:bp):p_->Prop
 | .round b l=>1<=l/\b+l<=m/\(∃ c,goN rows b p=some c/\goN rows (b+l) p=some c)/\qn rows p (b+l)
 | .rests n c=>n<=m/\goN rows n p=some c/\b_ rows c=.n
 | .iB=>(∃ c,goN rows (m+1) p=some c)/\qn rows p (m+1)
theorem J1 (h:goN rows a p=goN rows b p):∀ k,goN rows (a+k) p=goN rows (b+k) p
 | 0=>h
 | k+1=>by
  show (goN rows (a+k) p).bind (ew rows)=(goN rows (b+k) p).bind (ew rows);rw [J1 h k]
theorem HT (d:a<b) (h:goN rows a p=goN rows b p) (ae:b<=n) (aB:goN rows n p=some c) (hf:b_ rows c=.n):False:=by
 have e:=J1 h (n-b);rw [show b+(n-b)=n by omega,aB] at e;have:=IP e hf aB hf;omega
theorem nE.uniq {x y:p_} (h:nE rows m p x) (g:nE rows m p y):x=y:=by
 cases x with
 | round b l=>
  obtain ⟨af,ai,⟨c,f,j⟩,r⟩:=h;cases y with
  | round e k=>
   obtain ⟨g1,g2,⟨d,g3,i⟩,o⟩:=g;have k1:¬ b+l<e+k:=λ z=>o b (b+l) .ak z (by rw [f,j])
   have k2:¬ e+k<b+l:=λ z=>r e (e+k) .ak z (by rw [g3,i])
   have k3:b+l=e+k:=by omega
   rw [k3,i] at j;cases j;have ng:¬ b<e:=λ z=>o b e z .ak (by rw [f,g3])
   have k5:¬ e<b:=λ z=>r e b z .ak (by rw [f,g3])
   have:b=e:=by omega
   subst this;have:l=k:=by omega
   rw [this]
  | rests n q=>obtain ⟨g1,g2,g3⟩:=g;exact (HT (a:=b) .ak (by rw [f,j]) (p4 g2 g3 j) g2 g3).elim
  | iB=>exact (g.2 b (b+l) .ak .ak (by rw [f,j])).elim
 | rests n c=>
  obtain ⟨af,ai,f⟩:=h;cases y with
  | round b l=>obtain ⟨g1,g2,⟨q,g3,i⟩,o⟩:=g;exact (HT (a:=b) .ak (by rw [g3,i]) (p4 ai f i) ai f).elim
  | rests b3 q=>obtain ⟨g1,g2,g3⟩:=g;have:=IP ai f g2 g3;subst this;rw [ai] at g2;cases g2;rfl
  | iB=>obtain ⟨⟨d,g⟩,_⟩:=g;have:=p4 ai f g;omega
 | iB=>cases y with
  | round b l=>obtain ⟨g1,g2,⟨q,g3,i⟩,o⟩:=g;exact (h.2 b (b+l) .ak .ak (by rw [g3,i])).elim
  | rests n c=>obtain ⟨⟨d,h⟩,_⟩:=h;obtain ⟨g1,g2,g3⟩:=g;have:=p4 g2 g3 h;omega
  | iB=>rfl
theorem Va (h:b_ rows p=some k):∃ q,ew rows p=some q:=by
 unfold ew;rw [h];exact #[_,Y]
noncomputable abbrev hi (x y:Int):Int:=x-y
noncomputable abbrev gz (x y:Int):Int:=if y<x then y else x
theorem AS:∀ s t,(List.zipWith hi s (List.zipWith gz s t)).map Int.toNat=ups (List.zipWith hi s t)
 | [],_=>rfl
 | _::_,[]=>rfl
 | x::s,y::t=>by
  show (x-gz x y).toNat::(List.zipWith hi s (List.zipWith gz s t)).map Int.toNat=(x-y).toNat::ups (List.zipWith hi s t);rw [AS s t];congr 1;unfold gz;split<;>omega
theorem AU:∀ s t,(List.zipWith hi t (List.zipWith gz s t)).map Int.toNat=downs (List.zipWith hi s t)
 | [],[]=>rfl
 | [],_::_=>rfl
 | _::_,[]=>rfl
 | x::s,y::t=>by
  show (y-gz x y).toNat::(List.zipWith hi t (List.zipWith gz s t)).map Int.toNat=(-(x-y)).toNat::downs (List.zipWith hi s t);rw [AU s t];congr 1;unfold gz;split<;>omega
theorem Iq:∀ s t,(∀ e∈t,0<=e)->(ups (List.zipWith hi s t)).sum<=(ups s).sum
 | [],_,_=>by simp [ups]
 | _::_,[],_=>by simp [ups]
 | x::s,y::t,h=>by
  have af:=h y dI;have ai:=Iq s t λ e he=>h e (dJ _ he)
  show ((x-y).toNat::ups (List.zipWith hi s t)).sum<=(x.toNat::ups s).sum;rw [n3,n3];omega
theorem JV:∀ s t,(∀ e∈s,0<=e)->(downs (List.zipWith hi s t)).sum<=(ups t).sum
 | [],_,_=>by simp [downs]
 | _::_,[],_=>by simp [downs]
 | x::s,y::t,h=>by
  have af:=h x dI;have ai:=JV s t λ e he=>h e (dJ _ he)
  show ((-(x-y)).toNat::downs (List.zipWith hi s t)).sum<=(y.toNat::ups t).sum;rw [n3,n3];omega
theorem HP:∀ {l:eQ} {x:Nat},x∈l->x<=l.sum
 | [],_,h=>by cases h
 | y::r,x,h=>by
  rw [n3];rcases b5.mp h with z|z
  ·omega
  ·have:=HP z;omega
theorem Ua (h:e∈List.zipWith hi s (List.zipWith gz s t)):0<=e:=by
 obtain ⟨k,ay⟩:=g6 h;rw [jP] at ay;obtain ⟨x,m,b,hm,rfl⟩:=ay;rw [jP] at hm;obtain ⟨d,y,a,c,rfl⟩:=hm;rw [b] at a;cases a;show 0<=x-gz x y;unfold gz;split<;>omega
theorem Ub (h:e∈List.zipWith hi t (List.zipWith gz s t)):0<=e:=by
 obtain ⟨k,ay⟩:=g6 h;rw [jP] at ay;obtain ⟨y,m,b,hm,rfl⟩:=ay;rw [jP] at hm;obtain ⟨x,d,c,a,rfl⟩:=hm;rw [b] at a;cases a;show 0<=y-gz x y;unfold gz;split<;>omega
theorem GW {l:bp} (h0:∀ e∈l,0<=e) (h:(l.map Int.toNat).sum<=n) (aB:n<=1000):∀ e∈l,0<=e/\e<2 ^ 62:=λ e he=>by
 have:=HP (mS (f:=Int.toNat) he);have:=h0 e he;omega
end cA
namespace cb
open PySem bt cA
theorem Dm (aB:min xs.length ys.length<=sizeLine) (ar:∃ u v,pick js σ=u::v::σ0) (g:H1 D=.n)
  (au:H1 a=some (.lst (xs.map V.int))) (ae:H1 b=some (.lst (ys.map V.int)))
  (aA:∀ x y H' R,x∈xs->y∈ys->R (.int (f x y)) H'->bx (some (.int x)::some (.int y)::σ0) H' R)
  (q:∀ H',ax H1 H'->H' D=some (.lst ((List.zipWith f xs ys).map V.int))->Q (.ref D) H'):gf (vy a b) D js (nC K 2 (kl (e8 0) (kl (e8 1) qH))) h1 bx σ H1 Q:=by
 obtain ⟨r,v0,ar⟩:=ar;refine YB (by rw [bb,bb];exact aB) (λ i σ' H' zs=>(∃ u v,σ'=u::v::σ0)/\ax H1 H'/\zs=((List.zipWith f xs ys).take i).map V.int) #[#[r,v0,ar],ax.new g,Y] (λ i σ' H' zs _ ⟨_,s',_⟩=>#[s' _ _ au,s' _ _ ae]) ?_ ?_
 ·rintro i x y p σ' H' zs R k l ar d m ⟨⟨u,v,rfl⟩,s',rfl⟩ n;obtain ⟨x,rfl,h⟩:=gH k;obtain ⟨y,rfl,j⟩:=gH l;refine #[p,_,Y,aL.of bc,Y,_,_,Y,_,_,Y,Y,?_];refine aA x y _ _ (cg h) (cg j) (n _ _ _ ?_ #[#[_,_,Y],?_,?_])
  ·rw [a3 (b0 d ar)];exact d
  ·intro c o e;rw [a3 (b0 e g),a3 (b0 (s' c o e) ar)];exact s' c o e
  ·rw [MN h j,ht];rfl
 ·rintro σ' H' zs d m ⟨_,s',rfl⟩;refine q H' s' ?_;rw [d,bb,bb,hU (by rw [q2];exact bL _)]
def Fp (a l:Addr) (H H':aC):Prop:=∀ c o,c≠a->c≠l->H c=some o->H' c=some o
end cb
namespace bt
open PySem PySem.Spec PyProof.Rows
theorem XW
  (p:X.N.Nodup) (w:X.N[G]?=some x0) (E:Loc X.env.scope x0)
  (C:wQ X scope cl N js) (q:X.warm=.t) (av:hz X bu iter P)
  (u:∀ a_ pins s H,je (fX X scope cl N a_ pins s H λ Z Z=>False) bu g)
  (aI:∀ a_ pins s H,nt (fX X scope cl N a_ pins s H λ Z Z=>False) cs cS)
  (he:∀ a_ pins s H,bG (fX X scope cl N a_ pins s H λ Z Z=>False) elt bx)
  (B:swapsWith (.ListComp elt [#[bu,iter,cs,0]] scope cF) (some (.Name x0 pos')) pos.line X.env=pure .t)
  (aA:∀ x,foldedSetIterable iter X.env x=pure x:=by intro _;rfl) (t:X.fn x0=.t\/X.env.scope.names.lookup x0=some .local:=by first|exact .inl Y|exact .inr Y|assumption):hA X (.Assign [.Name x0 pos'] (.ListComp elt [#[bu,iter,cs,0]] scope cF) pos) (mA (pj js P g cS bx) (e8 G)):=by
 intro pins s σ H Q I h;rw [exec_Assign_Name_used _ _ _ _ B];refine az (nL (az ?_));refine az (eU (JT C q av u aI he aA I h λ D a c S m r d l aB L=>?_) (λ Z s' y=>bl (bl y)) λ Z Z e=>e);refine wpAny_assign_Name (Kw (v:=.ref D) d p w E Y (λ T f A=>?_) t);obtain ⟨i,O,n⟩:=A;obtain ⟨f0,f1,R,j,f4,k⟩:=l;have J:a≠i:=by
  rcases n with z|z
  ·rw [z];exact f1
  ·exact (f4 _ _ z).symm
 refine #[m,aB.sameBut O J,λ h' M=>#[_,c,?_,L]];exact f.turned (λ b o ae e=>(M.2 b ae).trans e) f0 f1 j f4 k
theorem V_
  (a:X.N.Nodup) (f:X.N[j]?=some x0) (i:Loc X.env.scope x0)
  (C:nR X scope cl N js) (b:X.warm=.t) (av:hz X bu iter k)
  (e:∀ a_ pins s H,je (i6 X scope cl N a_ pins s H λ Z Z=>False) bu g)
  (aI:∀ a_ pins s H,nt (i6 X scope cl N a_ pins s H λ Z Z=>False) cs cS)
  (he:∀ a_ pins s H,bG (i6 X scope cl N a_ pins s H λ Z Z=>False) elt bx)
  (h:swapsWith (.ListComp elt [#[bu,iter,cs,0]] scope cF) (some (.Name x0 pos')) pos.line X.env=pure .t)
  (aA:∀ x,foldedSetIterable iter X.env x=pure x:=by intro _;rfl) (d:X.fn x0=.t\/X.env.scope.names.lookup x0=some .local:=by first|exact .inl Y|exact .inr Y|assumption):hA X (.Assign [.Name x0 pos'] (.ListComp elt [#[bu,iter,cs,0]] scope cF) pos) (mA (pj js k g cS bx) (e8 j)) :=
 XW a f i C.c b av (λ a_ pins s H=>by rw [q_ C.nT];exact e a_ pins s H) (λ a_ pins s H=>by rw [q_ C.nT];exact aI a_ pins s H) (λ a_ pins s H=>by rw [q_ C.nT];exact he a_ pins s H) h aA d
theorem w6
  (e:X.N.Nodup) (k:X.N[i]?=some x0) (m:Loc X.env.scope x0)
  (C:nR X scope cl N js) (f:X.warm=.t) (av:iJ X bu iter n)
  (j:∀ a_ pins s H,jf (i6 X scope cl N a_ pins s H λ Z Z=>False) bu g)
  (aI:∀ a_ pins s H,uQ (i6 X scope cl N a_ pins s H λ Z Z=>False) cs cS)
  (he:∀ a_ pins s H,a7 (i6 X scope cl N a_ pins s H λ Z Z=>False) elt bx)
  (l:swapsWith (.ListComp elt [#[bu,iter,cs,0]] scope cF) (some (.Name x0 pos')) pos.line X.env=pure .t:=by rfl)
  (aA:∀ x,foldedSetIterable iter X.env x=pure x:=by intro _;rfl) (h:X.fn x0=.t\/X.env.scope.names.lookup x0=some .local:=by first|exact .inl Y|exact .inr Y|assumption):e0 X (.Assign [.Name x0 pos'] (.ListComp elt [#[bu,iter,cs,0]] scope cF) pos) (mA (pj js n g cS bx) (e8 i)) :=
 #[V_ e k m C f av.o (λ a b c d=>(j a b c d).o) (λ a b c d=>(aI a b c d).o) (λ a b c d=>(he a b c d).o) l aA h]
end bt
namespace rO
open PySem PyProof.Rows jg
abbrev gD (h:Heap) (T:Addr) (a b c:Value):Prop:=h.get? T=some { cls:=.type "tuple", data:=.seq [a,b,c].toArray }
theorem ee {m:Nat} (h:k≠m):n+k≠n+m:=by omega
theorem j9 (h:0<k):n≠n+k:=by omega
theorem qf (h:0<k):n+k≠n:=by omega
theorem ck {k:Nat} (h:t<n):t≠n+k:=by omega
section
variable {prog:Program} {w:World} {A:Around} {E:dc} {s:Shared}
theorem AN (bA:gD s.heap T a b c)
  (h:∀ h',h'.get? T=some { cls:=.type "tuple", data:=.seq (([a,b,c].toArray:ec).setIfInBounds k x) }->Heap.SameBut T s.heap h'->Q () { s with heap:=h' }) :
  wpAny (model prog w) A (updateSeq T (·.setIfInBounds k x)) Q E s:=by
 refine wI bA rfl (h _ ?_ (pq ..));rw [lq _ bA rfl];simp [Obj.mapSeq]
theorem Cu {Q:dc} (Z:t1<n) (bt:G<n) (i:t3<n)
  (m:IsZip s.heap (n+5) (n+3) (n+4) .none) (y5:gD s.heap (n+3) (.ref n) (.ref (n+1)) (.ref (n+2))) (y6:gD s.heap (n+4) a b c)
  (rT:s.heap.IsTupleIter n t1 k) (yz:s.heap.IsTupleIter (n+1) G k) (OV:s.heap.IsTupleIter (n+2) t3 k) (fB:s.heap.IsTuple t1 xs) (ox:s.heap.IsTuple G ys) (oy:s.heap.IsTuple t3 zs) (ex:xs[k]?=some x) (yo:ys[k]?=some y) (OJ:zs[k]?=some v)
  (q:∀ g,IsZip g (n+5) (n+3) (n+4) (rawInt s.heap.objs.size)->gD g (n+4) x y v->g.IsTupleIter n t1 (k+1)->g.IsTupleIter (n+1) G (k+1)->g.IsTupleIter (n+2) t3 (k+1)->gD g s.heap.objs.size x y v ->
   (∀ c o,c≠n+5->c≠n+4->c≠n->c≠n+1->c≠n+2->s.heap.get? c=some o->g.get? c=some o)->Q (.ref s.heap.objs.size) { s with heap:=g }) :
  wpAny (model prog w) A (Builtin.«zip.__next__» ⟨[.ref (n+5)],[]⟩) (λ fin s'=>∃ v,fin=.done (.ret v)/\Q v s') E s:=by
 show wpAny _ _ (field (.ref (n+5)) 2>>=_) _ _ _;refine az (d4 m Y Y ?_);refine az (d4 m Y Y (az (gm y5 Y ?_)));refine az ?_;refine az (d4 m Y Y (bl ?_));refine az (lr (az (d4 m Y Y (az (kx m .zs λ g1 J s1=>?_)))));replace J:IsZip g1 (n+5) (n+3) (n+4) .ellipsis:=J;refine az ?_;refine az (az (lD ?_));refine az (pull (rT.extBut s1.extBut (j9 .aw)) (fB.extBut s1.extBut (ck Z)) ex λ g2 QY s2=>bl ?_);have R:=s2.extBut _ _ (qf .aw) (s1.extBut _ _ (ee .aw) y6);refine az (gm R Y (az (AN R λ g3 H s3=>?_)));replace H:gD g3 (n+4) x b c:=H;refine az (lE (bl (az (az (lD ?_)))));have QZ:=((yz.extBut s1.extBut (ee .aw)).extBut s2.extBut (qf .aw)).extBut s3.extBut (ee .aw);have z2:=((ox.extBut s1.extBut (ck bt)).extBut s2.extBut (cR bt)).extBut s3.extBut (ck bt);refine az (pull QZ z2 yo λ kO SX s4=>bl ?_);have S:=s4.extBut _ _ (ee .aw) H;refine az (gm S Y (az (AN S λ nd I s5=>?_)));replace I:gD nd (n+4) x y c:=I;refine az (lE (bl (az (az (lD ?_)))));have Q0:=((((OV.extBut s1.extBut (ee .aw)).extBut s2.extBut (qf .aw)).extBut s3.extBut (ee .aw)).extBut s4.extBut (ee .aw)).extBut s5.extBut (ee .aw);have Ri:=((((oy.extBut s1.extBut (ck i)).extBut s2.extBut (cR i)).extBut s3.extBut (ck i)).extBut s4.extBut (ck i)).extBut s5.extBut (ck i);refine az (pull Q0 Ri OJ λ yr SY f=>bl ?_);have T:=f.extBut _ _ (ee .aw) I;refine az (gm T Y (az (AN T λ d t h=>?_)));replace t:gD d (n+4) x y v:=t;refine az (lE (bl (bl (az (gm t Y (az (wpAny_newTuple ?_)))))));have fN:d.objs.size=s.heap.objs.size:=by rw [h.1,f.1,s5.1,s4.1,s3.1,s2.1,s1.1]
 have X:=h.extBut _ _ (ee .aw) (f.extBut _ _ (ee .aw) (s5.extBut _ _ (ee .aw) (s4.extBut _ _ (ee .aw) (s3.extBut _ _ (ee .aw) (s2.extBut _ _ (qf .aw) J)))));have Sa:∀ c o,c≠n+5->c≠n+4->c≠n->c≠n+1->c≠n+2->s.heap.get? c=some o->d.get? c=some o:=λ c o p j z B C aH =>
  h.extBut _ _ j (f.extBut _ _ C (s5.extBut _ _ j (s4.extBut _ _ B (s3.extBut _ _ j (s2.extBut _ _ z (s1.extBut _ _ p aH))))))
 have Q8:=((((QY.extBut s3.extBut (j9 .aw)).extBut s4.extBut (j9 .aw)).extBut s5.extBut (j9 .aw)).extBut f.extBut (j9 .aw)).extBut h.extBut (j9 .aw);have Q9:=((SX.extBut s5.extBut (ee .aw)).extBut f.extBut (ee .aw)).extBut h.extBut (ee .aw);have Q_:=SY.extBut h.extBut (ee .aw);have aU:=bZ X;refine az ?_;have Sd:IsZip (d.push { cls:=.type "tuple", data:=.seq [x,y,v].toArray }) (n+5) (n+3) (n+4) .ellipsis:=bo _ X;refine az (kx Sd .zs λ OQ L O=>?_);replace L:IsZip OQ (n+5) (n+3) (n+4) (rawInt d.objs.size):=L;refine kx L .zs λ D u P=>?_
 replace u:IsZip D (n+5) (n+3) (n+4) (rawInt d.objs.size):=u;have l:∀ c o,c≠n+5->d.get? c=some o->D.get? c=some o:=λ c o M aH=>P.extBut _ _ M (O.extBut _ _ M (bo _ aH))
 have N:=P.extBut _ _ (hq aU) (O.extBut _ _ (hq aU) (cN _ Y));rw [fN] at u N;refine bl #[_,Y,?_];rw [fN];refine q D u (l _ _ (ee .aw) t) ?_ ?_ ?_ N λ c o p j z B C aH=>l c o p (Sa c o p j z B C aH)
 ·obtain ⟨o,e,r⟩:=Q8;exact #[o,l _ _ (j9 .aw) e,r]
 ·obtain ⟨o,e,r⟩:=Q9;exact #[o,l _ _ (ee .aw) e,r]
 ·obtain ⟨o,e,r⟩:=Q_;exact #[o,l _ _ (ee .aw) e,r]
theorem Cv {a b c:Value} (hd:ff.In A s.heap) (l:t1<n)
  (d:IsZip s.heap (n+5) (n+3) (n+4) .none) (v:gD s.heap (n+3) (.ref n) (.ref (n+1)) (.ref (n+2)))
  (p:s.heap.IsTupleIter n t1 k) (r:s.heap.IsTuple t1 xs) (ex:xs[k]?=.n)
  (q:∀ g e,(∀ c o,c≠n+5->c≠n+4->c≠n->c≠n+1->c≠n+2->s.heap.get? c=some o->g.get? c=some o)->(∃ o,g.get? e=some o/\o.cls=.type "StopIteration")->E (.ref e) { s with heap:=g }) :
  wpAny (model prog w) A (Builtin.«zip.__next__» ⟨[.ref (n+5)],[]⟩) Q E s:=by
 show wpAny _ _ (field (.ref (n+5)) 2>>=_) _ _ _;refine az (d4 d Y Y ?_);refine az (d4 d Y Y (az (gm v Y ?_)));refine az ?_;refine az (d4 d Y Y (bl ?_));refine az (lr (az (d4 d Y Y (az (kx d .zs λ g1 h s1=>?_)))));replace h:IsZip g1 (n+5) (n+3) (n+4) .ellipsis:=h;refine az ?_;refine az (az (lD ?_));have m:=hd.but d (λ vs e=>by injection e with e;subst e;exact λ z=>nomatch z) s1.extBut;refine az (XZ m (p.extBut s1.extBut (j9 .aw)) (r.extBut s1.extBut (ck l)) ex ?_);rintro g2 e s2 ⟨b1,f,coe⟩;have j:=s2 _ _ (qf .aw) h;have u:e≠n+5:=λ y=>by
  subst y;rw [j] at f;cases f;simp at coe
 exact kx j .zs λ g3 Z s3=>q g3 e (λ c o i Z t Z Z y=>s3.extBut _ _ i (s2 _ _ t (s1.extBut _ _ i y))) #[b1,s3.extBut _ _ u f,coe]
theorem next_item (f:t1<n) (bt:d<n) (h:t3<n)
  (e:IsZip s.heap (n+5) (n+3) (n+4) .none) (J:gD s.heap (n+3) (.ref n) (.ref (n+1)) (.ref (n+2))) (L:gD s.heap (n+4) a b c)
  (B:s.heap.IsTupleIter n t1 k) (C:s.heap.IsTupleIter (n+1) d k) (D:s.heap.IsTupleIter (n+2) t3 k) (G:s.heap.IsTuple t1 xs) (H:s.heap.IsTuple d ys) (I:s.heap.IsTuple t3 zs) (ex:xs[k]?=some x) (u:ys[k]?=some y) (z:zs[k]?=some v)
  (q:∀ g,IsZip g (n+5) (n+3) (n+4) (rawInt s.heap.objs.size)->gD g (n+4) x y v->g.IsTupleIter n t1 (k+1)->g.IsTupleIter (n+1) d (k+1)->g.IsTupleIter (n+2) t3 (k+1)->gD g s.heap.objs.size x y v ->
   (∀ c o,c≠n+5->c≠n+4->c≠n->c≠n+1->c≠n+2->s.heap.get? c=some o->g.get? c=some o)->Q (some (.ref s.heap.objs.size)) { s with heap:=g }):wpAny (model prog w) A (pyNext (.ref (n+5))) Q E s:=by
 have ty:s.TypeIs (.ref (n+5)) "zip" := #[_,e,Y]
 refine az (lu (jG ty nZ (iD nZ ty wu ?_ (wx _))));exact Cu f bt h e J L B C D G H I ex u z λ g i j l m p r t=>bl (q g i j l m p r t)
theorem CI {a b c:Value} (hd:ff.In A s.heap) (f:t1<n)
  (d:IsZip s.heap (n+5) (n+3) (n+4) .none) (l:gD s.heap (n+3) (.ref n) (.ref (n+1)) (.ref (n+2)))
  (i:s.heap.IsTupleIter n t1 k) (j:s.heap.IsTuple t1 xs) (ex:xs[k]?=.n)
  (q:∀ g,(∀ c o,c≠n+5->c≠n+4->c≠n->c≠n+1->c≠n+2->s.heap.get? c=some o->g.get? c=some o)->Q .n { s with heap:=g }):wpAny (model prog w) A (pyNext (.ref (n+5))) Q E s:=by
 have ty:s.TypeIs (.ref (n+5)) "zip" := #[_,d,Y]
 refine az (lu (jG ty nZ (iD nZ ty wu ?_ (wx _))));refine Cv (a:=a) (b:=b) (c:=c) hd f d l i j ex ?_;rintro g e up ⟨b1,h,coe⟩
 exact az (ps #[b1,h,coe] tb (bl (q _ up)))
end
theorem abV (a b c):checkTypeCall "zip" ⟨[a,b,c],[]⟩=pure ():=by kernel_rfl
theorem abd (a b c):checkBuiltinCall "zip.__new__" ⟨[.type "zip", a,b,c],[]⟩=pure ():=by kernel_rfl
theorem acH (a b c d):argsOk "object.__init__" ⟨[a,b,c,d],[]⟩:=by
 unfold argsOk;rw [signature?_of (n:=['_','_','t','i','n','i','_','_']) (by kernel_rfl) F.owner_object];kernel_rfl
noncomputable abbrev gP (h:Heap) (t:Addr):Heap:=h.push { cls:=.type "tuple_iterator", data:=.fields [.ref t,.int 0 0].toArray }
noncomputable abbrev mi (h:Heap) (t1 a t3:Addr):Heap:=gP (gP (gP h t1) a) t3
noncomputable abbrev mj (h:Heap) (t1 a t3:Addr):Heap:=(mi h t1 a t3).push { cls:=.type "tuple", data:=.seq [.ref h.objs.size,.ref (gP h t1).objs.size,.ref (gP (gP h t1) a).objs.size].toArray }
noncomputable abbrev kd (h:Heap) (t1 a t3:Addr):Heap:=(mj h t1 a t3).push { cls:=.type "tuple", data:=.seq [.none,.none,.none].toArray }
noncomputable abbrev oW (h:Heap) (t1 a t3:Addr):Heap:=(kd h t1 a t3).push { cls:=.type "zip", data:=.fields [.none,.bool .f,.bool .f,.ref (mi h t1 a t3).objs.size,.ref (mj h t1 a t3).objs.size].toArray }
theorem CF (t1 a t3) (xs ys zs):Meets (Builtin.«zip.__new__» ⟨[.type "zip", .ref t1,.ref a,.ref t3],[]⟩) (λ Z R s=>s.heap.IsTuple t1 xs/\s.heap.IsTuple a ys/\s.heap.IsTuple t3 zs/\R (.ok (.ret (.ref (kd s.heap t1 a t3).objs.size))) { s with heap:=oW s.heap t1 a t3 }) :=
 .of_wp λ prog w A R s h=>by
  obtain ⟨c,b,dd,tt,d⟩:=s;obtain ⟨a1,a2,e,h⟩:=h;have sub:=sub_zip;have f:=a1;have g:Heap.IsTuple (Shared.heap ⟨gP c t1,b,dd,tt,d⟩) a ys:=wy a2 _;have i:Heap.IsTuple (Shared.heap ⟨gP (gP c t1) a,b,dd,tt,d⟩) t3 zs:=wy (wy e _) _
  wp_walk using nM f,nM g,nM i
  exact #[_,Y,h]
section
variable {prog:Program} {w:World} {A:Around} {E:dc} {s:Shared}
theorem make (a1:s.heap.IsTuple t1 xs) (a2:s.heap.IsTuple a ys) (k:s.heap.IsTuple t3 zs)
  (q:∀ g,IsZip g (s.heap.objs.size+5) (s.heap.objs.size+3) (s.heap.objs.size+4) .none->gD g (s.heap.objs.size+3) (.ref s.heap.objs.size) (.ref (s.heap.objs.size+1)) (.ref (s.heap.objs.size+2))->gD g (s.heap.objs.size+4) .none .none .none ->
   g.IsTupleIter s.heap.objs.size t1 0->g.IsTupleIter (s.heap.objs.size+1) a 0->g.IsTupleIter (s.heap.objs.size+2) t3 0->(∀ c o,s.heap.get? c=some o->g.get? c=some o)->Q (.ref (s.heap.objs.size+5)) { s with heap:=g }) :
  wpAny (model prog w) A (call (.type "zip") [.ref t1,.ref a,.ref t3]) Q E s:=by
 refine callType_new F.called_zip .aw (abV _ _ _) (abd _ _ _) (λ obj=>acH obj _ _ _) F.entry_zip_new (CF t1 a t3 xs ys zs) #[a1,a2,k,?_];have b:(gP s.heap t1).objs.size=s.heap.objs.size+1:=fj ..;have d:(gP (gP s.heap t1) a).objs.size=s.heap.objs.size+2:=by rw [fj,b]
 have e:(mi s.heap t1 a t3).objs.size=s.heap.objs.size+3:=by rw [fj,d]
 have f:(mj s.heap t1 a t3).objs.size=s.heap.objs.size+4:=by rw [fj,e]
 have i:(kd s.heap t1 a t3).objs.size=s.heap.objs.size+5:=by rw [fj,f]
 have h:(oW s.heap t1 a t3).get? (kd s.heap t1 a t3).objs.size=some _:=cN _ rfl;have j:(oW s.heap t1 a t3).get? (mj s.heap t1 a t3).objs.size=some _:=bo _ (cN _ Y);have qh:(oW s.heap t1 a t3).get? (mi s.heap t1 a t3).objs.size=some _:=bo _ (bo _ (cN _ Y));have l1:(oW s.heap t1 a t3).get? (gP (gP s.heap t1) a).objs.size=some _:=bo _ (bo _ (bo _ (cN _ Y)));have eE:(oW s.heap t1 a t3).get? (gP s.heap t1).objs.size=some _:=bo _ (bo _ (bo _ (bo _ (cN _ Y))));have p1:(oW s.heap t1 a t3).get? s.heap.objs.size=some _:=bo _ (bo _ (bo _ (bo _ (bo _ (cN _ Y)))));rw [e,f,i] at h;rw [b,d,e] at qh;rw [f] at j;rw [d] at l1;rw [b] at eE;rw [i];exact #[#[_,h,Y],q _ h qh j #[_,p1,Y,Y] #[_,eE,Y,Y] #[_,l1,Y,Y] λ c o y=>bo _ (bo _ (bo _ (bo _ (bo _ (bo _ y)))))]
end
end rO
namespace bt
open PySem PySem.Spec PyProof.Rows rO
noncomputable def r7 (K:aT) (a b c:Addr):g_ :=
 #[λ i H=>∃ xs ys zs x y v,aL K H a xs/\aL K H b ys/\aL K H c zs/\xs[i]?=some x/\ys[i]?=some y/\zs[i]?=some v,
 λ i H w H'=>∃ p,H p=.n/\w=.ref p/\∃ x y v,H'=upd H p (.tup [x,y,v])/\∀ xs ys zs,aL K H a xs->aL K H b ys->aL K H c zs->xs[i]?=some x/\ys[i]?=some y/\zs[i]?=some v,
 λ i H=>∃ xs,aL K H a xs/\xs.length<=i]
theorem Zq {K:aT} (sz:kE bu=.t) (Q:a<n) (bt:b<n) (Om:c<n) :
  Turn P w K DD bu (r7 K a b c) [n+5,n+4,n,n+1,n+2,n+3] (n+5) (λ i h=>IsZip h (n+5) (n+3) (n+4) .none/\gD h (n+3) (.ref n) (.ref (n+1)) (.ref (n+2))/\(∃ u v w,gD h (n+4) u v w)/\h.IsTupleIter n a i/\h.IsTupleIter (n+1) b i/\h.IsTupleIter (n+2) c i) where
 mem:=dI
 obj:=λ i h st ov r=>by
  obtain ⟨af,ai,⟨u,v,cm,j⟩,⟨J,f,_,lU⟩,⟨L,l,_,kN⟩,⟨M,m,_,Oz⟩⟩:=st;have t:∀ {o:Obj} {vs:ec},o.data=.fields vs->∀ v,o.data≠.cell v:=λ e v q=>by rw [e] at q;cases q
  have Z:∀ {o:Obj} {vs:ec} {n:Nat},o.data=.seq vs n->∀ v,o.data≠.cell v:=λ e v q=>by rw [e] at q;cases q
  simp only [b5,dA,dB] at r;rcases r with rfl|rfl|rfl|rfl|rfl|rfl
  ·exact #[_,af,t Y]
  ·exact #[_,j,Z Y]
  ·exact #[_,f,t lU]
  ·exact #[_,l,t kN]
  ·exact #[_,m,t Oz]
  ·exact #[_,ai,Z Y]
 keep:=λ i h h' st k=>by
  obtain ⟨af,ai,⟨u,v,cm,j⟩,⟨J,f,oD⟩,⟨L,l,yN⟩,⟨M,m,Pc⟩⟩:=st;exact #[k _ .zs _ af,k _ .zs _ ai,#[u,v,cm,k _ .zs _ j],#[J,k _ .zs _ f,oD],#[L,k _ .zs _ l,yN],#[M,k _ .zs _ m,Pc]]
 item:=by
  intro X C hw B su r i pins s σ H E I hf st G;subst C hw B;obtain ⟨af,ai,⟨u,v,cm,j⟩,f,l,m⟩:=st;obtain ⟨xs,ys,zs,x,y,z,A,DR,DS,S,T,aU⟩:=G;obtain ⟨sD,O,N,_⟩:=I.tuple A;obtain ⟨ER,cU,O_,_⟩:=I.tuple DR;obtain ⟨adN,RZ,pc,_⟩:=I.tuple DS;obtain ⟨yV,zl,sJ⟩:=O.get S;obtain ⟨yW,zm,z9⟩:=cU.get T;obtain ⟨Pn,PJ,RY⟩:=RZ.get aU;refine rO.next_item Q bt Om af ai j f l m N O_ pc (by simpa using zl) (by simpa using zm) (by simpa using PJ) λ g hB ou j4 fA ha DB R=>?_
  refine #[_,Y,?_];have An:=bZ af;cases bu with
  | Tuple ah gM pp =>
   refine wpAny_letOwnedTupleGo_zip hB λ yq qc p=>?_
   have new:=p.extBut _ _ (hq An) DB;have Of:Inv X pins σ (upd H s.heap.objs.size (.tup [x,y,z])) { s with heap:=yq }:=by
    refine I.CR (λ c o d e=>?_) hf (bL _) #[by show 3<=sizeLine;decide,[yV,yW,Pn],.cons sJ (.cons z9 (.cons RY .nil)),#[_,new,Y,#[0,Y],Y]];simp only [b5,dA,dB,not_or] at d;exact p.extBut c o d.1 (R c o d.1 d.2.1 d.2.2.1 d.2.2.2.1 d.2.2.2.2.1 e)
   have zu:=p.extBut _ _ (ee .aw) (R _ _ (ee .aw) (ee .aw) (qf .aw) (ee .aw) (ee .aw) ai);refine #[.ref s.heap.objs.size,_,Of,Y,#[_,I.fresh,Y,x,y,z,Y,λ Fo qC aea aO hF iL=>#[by rw [I.t7 aO A];exact S,by rw [I.t7 hF DR];exact T,by rw [I.t7 iL DS];exact aU]],#[qc,zu,#[_,_,_,p.extBut _ _ (ee .aw) ou],j4.extBut p.extBut (j9 .aw),fA.extBut p.extBut (ee .aw),ha.extBut p.extBut (ee .aw)],λ c D=>?_];obtain ⟨o,ow,_⟩:∃ o,s.heap.get? c=some o/\True:=by
    simp only [b5,dA,dB] at D;rcases D with rfl|rfl|rfl|rfl|rfl|rfl
    ·exact #[_,af,trivial]
    ·exact #[_,j,trivial]
    ·obtain ⟨J,kO,_⟩:=f;exact #[_,kO,trivial]
    ·obtain ⟨L,nd,_⟩:=l;exact #[_,nd,trivial]
    ·obtain ⟨M,yr,_⟩:=m;exact #[_,yr,trivial]
    ·exact #[_,ai,trivial]
   rw [a3 (cR (bZ ow))];exact (hf c D).1
  | _=>exact absurd sz dP
 done:=by
  intro X C hw B su r i pins s σ H E I hf st G;subst C hw B;obtain ⟨af,ai,⟨u,v,cm,j⟩,f,l,m⟩:=st;obtain ⟨xs,A,eO⟩:=G;obtain ⟨sD,O,N,_⟩:=I.tuple A;have h6:=O.length;refine rO.CI (a:=.none) (b:=.none) (c:=.none) (I.f9 r) Q af ai f N (by simp;omega) λ g up=>#[Y,?_]
  refine I.B5 (λ c o d e=>?_) hf;simp only [b5,dA,dB,not_or] at d;exact up c o d.1 d.2.1 d.2.2.1 d.2.2.2.1 d.2.2.2.2.1 e
 self:=λ _ _ _ _ _ st h=>wz st.1 h
section
variable {X:a5} {bu:Expr}
theorem vals3 (h:Vals [x,y,z] us):∃ u v w,us=[u,v,w]/\RelV x u/\RelV y v/\RelV z w:=by
 cases h with
 | cons af h =>
  cases h with
  | cons ai h =>
   cases h with
   | cons a h =>
    cases h;exact #[_,_,_,Y,af,ai,a]
def Tu (K:aT) (aP:dh):TI:=λ σ H R=>aP σ H λ vs H1=>∃ a b c,vs=[.ref a,.ref b,.ref c]/\(∃ xs,aL K H1 a xs)/\(∃ ys,aL K H1 b ys)/\(∃ zs,aL K H1 c zs)/\R (r7 K a b c) H1
theorem Wl (v:kE bu=.t) (u:cI X "zip") (hm:X.mg "zip" = .n) (au:dM X [j,f,i] aP) (aA:starEach [j,f,i] X.env=[(.f,eval j X.env),(.f,eval f X.env),(.f,eval i X.env)]:=by rfl) (l:starEach [f,i] X.env=[(.f,eval f X.env),(.f,eval i X.env)]:=by rfl)
  (ae:bootBuiltins "zip" = some (.type "zip"):=by decide +kernel):iJ X bu (.Call (.Name "zip" p) [j,f,i] [] pos) (Tu X.K aP):=#[by
 intro pins s σ H R I h;refine Call_ (kr I u hm ae (nP (a8 (au.o pos pins s σ H _ I h) ?_) (by rw [aA,l]) (by rw [l];rfl)));rintro us s1 ⟨vs,H1,d,B,aO⟩;obtain ⟨a,b,c,e,⟨xs,y⟩,⟨ys,z⟩,⟨zs,A⟩,q⟩:=aO;subst e;obtain ⟨T,aU,Z,rfl,C,D,rc⟩:=vals3 B;cases C;cases D;cases rc;obtain ⟨N,Q,m,_⟩:=d.tuple y;obtain ⟨O,cU,n,_⟩:=d.tuple z;obtain ⟨P,S,pc,_⟩:=d.tuple A;have w:a<s1.heap.objs.size:=by obtain ⟨o,e,_⟩:=m;exact bZ e
 have x:b<s1.heap.objs.size:=by obtain ⟨o,e,_⟩:=n;exact bZ e
 have lc:c<s1.heap.objs.size:=by obtain ⟨o,e,_⟩:=pc;exact bZ e
 refine rO.make m n pc λ g r E G J L M up=>?_
 refine wz r ?_;have t:=d.kept (t':=s1.toks) up;refine #[_,[s1.heap.objs.size+5,s1.heap.objs.size+4,s1.heap.objs.size,s1.heap.objs.size+1,s1.heap.objs.size+2,s1.heap.objs.size+3],_,_,H1,Y,t,Zq v w x lc,#[r,E,#[_,_,_,G],J,L,M],λ c k=>?_,q];have big:s1.heap.objs.size<=c:=by
  simp only [b5,dA,dB] at k;rcases k with rfl|rfl|rfl|rfl|rfl|rfl
  ·exact lF _ _
  ·exact lF _ _
  ·exact bL _
  ·exact lF _ _
  ·exact lF _ _
  ·exact lF _ _
 exact d.nB big (d.aS.fresh big)]
end
theorem Xc {K:aT} {g:fp} {aQ:c9} {D:Ends} (h:xs.length=ys.length) (A:xs.length=zs.length) (Pv:Nat->St->aC->Prop) (h0:Pv 0 σ H) (s:∀ i σ H,i<=xs.length->Pv i σ H->aL K H a xs/\aL K H b ys/\aL K H c zs)
  (aA:∀ i x y z p σ H,xs[i]?=some x->ys[i]?=some y->zs[i]?=some z->H p=.n->Pv i σ H->g (.ref p) σ (upd H p (.tup [x,y,z])) λ σ2 ao=>aQ { D with bg:=Pv (i+1),cG:=Pv (i+1),aN:=D.bg } σ2 ao) (hd:∀ σ H,Pv xs.length σ H->D.bg σ H) :
  ∃ W:Nat->Nat->St->aC->Prop,(∃ m,W 0 m σ H)/\∀ i m σ H,W i m σ H ->
   ((r7 K a b c).stop i H/\D.bg σ H)\/((r7 K a b c).go i H/\∃ N,(∀ σ' H',N σ' H'->∃ j,j<m/\W (i+1) j σ' H')/\∀ x H',(r7 K a b c).gR i H x H'->g x σ H' λ σ2 ao=>aQ { D with bg:=N,cG:=N,aN:=D.bg } σ2 ao):=by
 refine #[λ i m σ H=>m=xs.length-i/\i<=xs.length/\Pv i σ H,#[_,Y,fE _,h0],?_];rintro i m σ H ⟨rfl,av,p⟩;obtain ⟨d,k,l⟩:=s i σ H av p;by_cases f:i<xs.length
 ·have ai:i<ys.length:=by omega
  have r:i<zs.length:=by omega
  refine .inr #[#[xs,ys,zs,xs[i],ys[i],zs[i],d,k,l,by simp [f],by simp [ai],by simp [r]],Pv (i+1),λ σ' H' u=>#[xs.length-(i+1),.ak,Y,f,u],λ v H' w=>?_];obtain ⟨q,t,rfl,x,y,z,rfl,h⟩:=w;obtain ⟨ex,n,o⟩:=h xs ys zs d k l;exact aA i x y z q σ H ex n o t p
 ·have e:i=xs.length:=by omega
  refine .inl #[#[xs,d,.ak],hd σ H (e ▸ p)]
end bt
namespace Fs
open PySem PyProof.Rows
section
variable {prog:Program} {w:World} {A:Around} {R:Result->Shared->Prop} {I:Addr} {a_ wr:List Addr} {n:Nat} {P:Nat->Value->Prop} {St:Nat->Heap->Prop}
theorem more (W:Walks prog w A.in1 I a_ wr n P St) (f) (M:CmpOf prog w A.in1 .Lt P f) (S) (D:S∉a_) (kw) :
  ∀ k j s a c,n-(j+1)=k->j+1<=n->St (j+1) s.heap->P (argBest f j) a ->
  s.heap.get? S=some { cls:=.type "list", dict:=.n,data:=.seq [a,a].toArray c,slots:=#[] } ->
  (∀ v h' a6,P (argBest f (n-1)) v->(∀ b o,b∉wr->b≠S->s.heap.get? b=some o->h'.get? b=some o)->R (.ok (.ret v)) { s with heap:=h',toks:=a6 }) ->
  codeAny (model prog w) A (.builtin "min.loop" ⟨[.ref I,.none,.ref S],kw⟩) R s:=by
 have E:S∉wr:=λ h=>D (W.sub _ h)
 have G:(toString "min" ++ toString ".loop") = "min.loop" := by decide
 intro k
 induction k with
 | zero =>
  intro j s a c ay N y p l q;have f9:j+1=n:=by omega
  refine lG wJ ?_;rw [n0 mT _];refine az (gm l Y ?_);refine az (q3 (W.done s _ _ (f9 ▸ y) λ h' a6 i=>?_));have m:=i S _ E l;refine az ?_;refine wI m rfl (az (lE (bl ?_)));refine q a _ a6 (by rw [<-f9];exact p) λ b o d g e=>(hT _ _ (eT g)).trans (i b o d e)
 | succ k J =>
  intro j s a c ay N y p l q;have x:j+1<n:=by omega
  refine lG wJ ?_;rw [n0 mT _];refine az (gm l Y ?_);refine az (q3 (W.item (j+1) s _ _ x y λ v h' a6 C H i=>?_));have m:=i S _ E l;show wpAny _ A.in1 (tryCatch (holding [v,v] (richCompare .Lt v a>>=_)) _>>=_) _ _ _;refine az (q3 (eS (az (M (j+1) (argBest f j) v a _ _ _ C p ?_))));refine az (eS (nO ?_));refine az (lE (bl ?_));cases ae:f (j+1) (argBest f j) with
  | true =>
   refine az ?_;refine wI m rfl (az (lE ?_));rw [G];refine bl #[n1 mT _,J (j+1) _ v _ .ak x (W.frame _ _ _ H λ b L o e=>?_) (by simp only [argBest,ae,if_true];exact C) (lq _ m Y)
    λ B r z t u=>?_]
   ·exact (hT _ _ (λ h=>D (by rw [h];exact L))).trans e
   ·exact q B r z t λ b o d g e=>u b o d g ((hT _ _ (eT g)).trans (i b o d e))
  | false =>
   refine az (lE ?_);rw [G];refine bl #[n1 mT _,J (j+1) _ a c .ak x H (by simp only [argBest,ae,Bool.false_eq_true,if_false];exact p) m λ B r z t u=>?_];exact q B r z t λ b o d g e=>u b o d g (i b o d e)
theorem first (W:Walks prog w A.in1 I a_ wr n P St) (a) (u:CmpOf prog w A.in1 .Lt P a) (S) (d:S∉a_) (kw) (aB:0<n) (z:St 0 s.heap)
  (f:s.heap.get? S=some { cls:=.type "list", dict:=.n,data:=.seq #[] c,slots:=#[] })
  (q:∀ v h' a6,P (argBest a (n-1)) v->(∀ b o,b∉wr->b≠S->s.heap.get? b=some o->h'.get? b=some o)->R (.ok (.ret v)) { s with heap:=h',toks:=a6 }) :
  codeAny (model prog w) A (.builtin "min.loop" ⟨[.ref I,.none,.ref S],kw⟩) R s:=by
 have r:S∉wr:=λ h=>d (W.sub _ h)
 have y:(toString "min" ++ toString ".loop") = "min.loop" := by decide
 refine lG wJ ?_;rw [n0 mT _];refine az (gm f Y ?_);refine az (q3 (W.item 0 s _ _ aB z λ v h' a6 m B k=>?_));have g:=k S _ r f;show wpAny _ A.in1 (updateSeq S (λ Z=>[v,v].toArray)>>=_) _ _ _;refine az ?_;refine wI g rfl ?_;rw [y];refine bl #[n1 mT _,more W a u S d kw _ 0 _ v _ Y aB (W.frame _ _ _ B λ b t o e=>?_) m (lq _ g Y) λ D l C p x=>?_]
 ·exact (hT _ _ (λ h=>d (by rw [h];exact t))).trans e
 ·exact q D l C p λ b o j i e=>x b o j i ((hT _ _ (eT i)).trans (k b o j e))
theorem empty (W:Walks prog w A.in1 I a_ wr n P St) (S) (g:S∉a_) (d) (aB:n=0) (k:St 0 s.heap)
  (f:s.heap.get? S=some { cls:=.type "list", dict:=.n,data:=.seq #[] c,slots:=#[] })
  (a:∀ h' a6,(∀ b o,b∉wr->b≠S->s.heap.get? b=some o->h'.get? b=some o)->R (.ok (.ret d)) { s with heap:=h',toks:=a6 }) :
  codeAny (model prog w) A (.builtin "min.loop" ⟨[.ref I,.none,.ref S],[("default", d)]⟩) R s:=by
 have l:S∉wr:=λ h=>g (W.sub _ h)
 subst aB;refine lG wJ ?_;rw [n0 mT _];refine az (gm f Y ?_);refine az (q3 (W.done s _ _ k λ h' a6 j=>?_));refine az (lr (bl ?_));exact a h' a6 λ b o i m e=>j b o i e
end
section
variable {prog:Program} {w:World} {A:Around} {E:dc} {s:Shared}
theorem Vj {id:String} {b:Builtin} {args:List Value} {kw:List (Str×Value)} {Q:dc} (ay:builtinKind id=.n) (ar:plainId id=.t)
  (ae:entryFor table id=some b) (au:argsOk id ⟨args,kw⟩)
  (c:wpAny (model prog w) A.in1 (b ⟨args,kw⟩) (λ fin s'=>match fin with
   | .done f=>(match (Except.ok f:Result) with| .ok (.ret v)=>Q v s'| .ok _=>False| .error e=>E e s')
   | .again a=>a.quiet=.t/\codeAny (model prog w) A a (λ r s'=>match r with| .ok (.ret v)=>Q v s'| .ok _=>False| .error e=>E e s') s') E s) :
  wpAny (model prog w) A (call (.builtin id) args kw) Q E s:=by
 refine ko (tH ar ae ?_);simp only [checkBuiltinCall,ay];cases d:Manifest.signature? id with
 | none=>exact bl c
 | some sig =>
  simp only [argsOk,d] at au;have ai:=au;exact wpAny_of_eq ai c
theorem Zz (a d):argsOk "min" ⟨[a],[("default", d)]⟩:=by kernel_rfl
theorem W2 (d):Builtin.Builtins.bindParams "min" ["key", "default"] 0 ⟨[],[("default", d)]⟩=pure [.n,some d]:=by kernel_rfl
theorem JR
  (h:wpAny (model prog w) A.in1 (pyIter x) (λ it s₂=>∃ I a_ wr n P St a,it=.ref I/\Walks prog w A.in1 I a_ wr n P St/\St 0 s₂.heap/\(∀ b∈a_,b<s₂.heap.objs.size)/\CmpOf prog w A.in1 .Lt P a /\
   (0<n->∀ v h' a6,P (argBest a (n-1)) v->(∀ b o,b∉wr->s₂.heap.get? b=some o->h'.get? b=some o)->Q v { s₂ with heap:=h',toks:=a6 }) /\
   (n=0->∀ h' a6,(∀ b o,b∉wr->s₂.heap.get? b=some o->h'.get? b=some o)->Q d { s₂ with heap:=h',toks:=a6 })) E s) :
  wpAny (model prog w) A (call (.builtin "min") [x] [("default", d)]) Q E s:=by
 have p:(toString "min" ++ toString ".loop") = "min.loop" := by decide
 refine Vj F.kind_min F.plain_min F.entry_min (Zz _ _) ?_;refine az (wpAny_of_eq (W2 d) ?_);refine az (bl ?_);refine az (eU h (λ it s₂ h₂=>?_) λ Z Z e=>e);obtain ⟨I,a_,wr,n,P,St,a,rfl,W,g,m,l,j,k⟩:=h₂;refine az (lp ?_);have f:s₂.heap.objs.size∉a_:=λ hm=>gZ _ (m _ hm)
 rw [p];by_cases aB:0<n
 ·refine bl #[n1 mT _,first W a l s₂.heap.objs.size f _ aB (W.frame _ _ _ g λ b Z o e=>bo _ e) (cN _ Y) λ v h' a6 i ay=>?_];exact j aB v h' a6 i λ b o c e=>ay b o c (cR (bZ e)) (bo _ e)
 ·refine bl #[n1 mT _,empty W s₂.heap.objs.size f d .ak (W.frame _ _ _ g λ b Z o e=>bo _ e) (cN _ Y) λ h' a6 ay=>?_];exact k .ak h' a6 λ b o c e=>ay b o c (cR (bZ e)) (bo _ e)
theorem min_list (f:ff.In A s.heap) (k:s.heap.IsList l (intItems xs))
  (h:0<xs.size->∀ v h' a6,(intItems xs)[argBest (λ i j=>decide (numAt xs i<numAt xs j)) (xs.size-1)]?=some v->(∀ b o,s.heap.get? b=some o->h'.get? b=some o)->Q v { s with heap:=h',toks:=a6 })
  (h0:xs.size=0->∀ h' a6,(∀ b o,s.heap.get? b=some o->h'.get? b=some o)->Q d { s with heap:=h',toks:=a6 }) :
  wpAny (model prog w) A (call (.builtin "min") [.ref l] [("default", d)]) Q E s:=by
 rcases f with f|⟨x,l0,vs,af,ai,m,n⟩
 rotate_left
 ·have lt:=bZ ai;refine JR (iter_intList k λ s₂ e st a g=>?_);subst e;refine #[_,_,_,_,_,_,_,Y,ff.Zu (A:=A.in1) af m n _ l g (cR lt) (intItems xs),#[st.1,st.2,bo _ ai],λ b ae=>?_,CmpOf.ints_lt (numAt xs) (λ Z Z=>mI),λ aB v h' a6 c ay=>?_,λ aB h' a6 ay=>?_]
  ·simp only [b5,dA,dB] at ae;rcases ae with ae|ae|ae
   ·exact a b (by rw [ae];exact dI ..)
   ·exact a b (by rw [ae];exact dJ _ (dI ..))
   ·rw [ae];rw [fj];exact mH lt
  ·exact h (by simpa [intItems] using aB) v h' a6 (by simpa [intItems] using c) (old_kept ay)
  ·exact h0 (by simpa [intItems] using aB) h' a6 (old_kept ay)
 refine JR (iter_intList k λ s₂ e st a g=>?_);subst e;refine #[_,_,_,_,_,_,_,Y,Walks.list (A:=A.in1) f _ l g (intItems xs),st,a,CmpOf.ints_lt (numAt xs) (λ Z Z=>mI),λ aB v h' a6 c ay=>?_,λ aB h' a6 ay=>?_]
 ·exact h (by simpa [intItems] using aB) v h' a6 (by simpa [intItems] using c) (old_kept ay)
 ·exact h0 (by simpa [intItems] using aB) h' a6 (old_kept ay)
end
end Fs
namespace bt
open PySem PySem.Spec PyProof.Rows
section
variable {X:a5}
def T1 (K:aT) (aP:dh):TE:=λ σ H Q=>aP σ H λ xs H1=>∃ (p:Addr) (ns:bp),xs=[.ref p]/\aK K H1 p (ns.map V.int)/\(ns=[]->Q .aX H1)/\∀ M,M∈ns->(∀ a,a∈ns->M<=a)->Q (.int M) H1
theorem H4 {j} (m:X.warm=.t) (n:cI X "min") (hm:X.mg "min" = .n) (ae:bootBuiltins "min" = some (.builtin "min")) (au:dM X [e] aP) (af:starEach [e] X.env=[(.f,eval e X.env)]:=by rfl) :
  a7 X (.Call (.Name "min" p) [e] [#[some "default", .Constant .none j J,G]] pos) (T1 X.K aP):=#[by
 intro pins s σ H Q I h;refine kp (kr I n hm ae ?_ .aw .aw);have i:backTo pos (starEach [e] X.env)=(.f,eval e X.env)::backTo pos (starEach [] X.env):=by rw [af];rfl
 refine callWith_kw ?_ i (by rw [af];rfl) Y rfl;refine a8 (au.o pos pins s σ H _ I h) ?_;rintro us s1 ⟨vs,H1,g,A,aO⟩
 obtain ⟨l,ns,rfl,r,w,y⟩:=aO;obtain ⟨u,rfl,C⟩:=vals1 A;cases C;refine kws_cons (a8 (He pins s1 σ H1 (λ x ao=>x=.aX/\ao=H1) g #[Y,Y]) ?_);rintro v s2 ⟨x,ao,b,B,ex,k⟩;refine kws_nil ?_;subst ex;subst k;cases B;obtain ⟨E,z,bw,D⟩:=b.list r;have d:=bw.isList;have av:=intsAre_of z;obtain ⟨xs,e⟩:=av.allInts.items;have c:ns=xs.toList.map (·.1):=by rw [<-av.numsOf,<-nums_intItems,<-e]
 rw [e] at d;refine Fs.min_list (b.f9 m) d (λ f v h' a6 aM ay=>?_) (λ f h' a6 ay=>?_)
 ·obtain ⟨t,rfl⟩:=mI aM;obtain ⟨af,ai⟩:=argBest_lt (numAt xs) (xs.size-1);refine #[.int _,_,b.kept ay,#[_,Y],y _ ?_ λ a au=>?_]
  ·rw [c,numAt_eq];exact getD_mem (by rw [bb,eV];omega)
  ·rw [c] at au;obtain ⟨j,q,rfl⟩:=mem_getD au;rw [bb,eV] at q;rw [<-numAt_eq];exact ai j .ak
 ·refine #[.aX,_,b.kept ay,Y,w ?_];rw [c];have:=Hu (by rw [eV];exact f);rw [this];rfl]
end
end bt
namespace cb
open PySem bt cA
noncomputable def vQ (t:Int->Int->Bool) (f:Int->Int->Int) (xs ys:bp):bp:=((xs.zip ys).filter λ p=>t p.1 p.2).map λ p=>f p.1 p.2
theorem ZP {t:Int->Int->Bool} {f:Int->Int->Int} {l:cX} (h:l[i]?=some p):((l.take (i+1)).filter λ p=>t p.1 p.2).map (λ p=>f p.1 p.2)=((l.take i).filter λ p=>t p.1 p.2).map (λ p=>f p.1 p.2)++(if t p.1 p.2=.t then [f p.1 p.2] else []):=by
 rw [jN,h];congr 1;by_cases z:t p.1 p.2=.t
 ·simp [z]
 ·simp [z]
theorem aap (aB:min xs.length ys.length<=sizeLine) (ar:∃ u v,pick js σ=u::v::σ0) (n:H1 D=.n)
  (au:H1 a=some (tupI xs)) (ae:H1 b=some (tupI ys))
  (aI:∀ x y H' R,x∈xs->y∈ys->R (t x y) H'->cS (some (.int x)::some (.int y)::σ0) H' R)
  (aA:∀ x y H' R,x∈xs->y∈ys->t x y=.t->R (.int (f x y)) H'->bx (some (.int x)::some (.int y)::σ0) H' R)
  (q:∀ H',ax H1 H'->H' D=some (.lst ((vQ t f xs ys).map V.int))->Q (.ref D) H'):gf (oJ K a b) D js (nC K 2 (kl (e8 0) (kl (e8 1) qH))) cS bx σ H1 Q:=by
 obtain ⟨E,v0,ar⟩:=ar;have C:(xs.zip ys).length=min xs.length ys.length:=List.length_zip;refine B_ aB (λ i σ' H' zs=>(∃ u v,σ'=u::v::σ0)/\ax H1 H'/\H' D=some (.lst zs)/\zs.length<=i/\zs=((((xs.zip ys).take i).filter λ p=>t p.1 p.2).map λ p=>f p.1 p.2).map V.int) #[#[E,v0,ar],ax.new n,bc,bL _,Y] (λ i σ' H' zs _ ⟨_,_,d,m,_⟩=>#[d,m]) (λ i σ' H' zs av ⟨_,s',_⟩=>?_) (λ σ' H' zs ⟨_,s',d,_,e⟩=>#[?_,?_]) ?_
 ·refine #[_,_,.int xs[i],.int ys[i],aL.of (s' _ _ au),aL.of (s' _ _ ae),?_,?_]
  ·rw [dg,cV .ak];rfl
  ·rw [dg,cV .ak];rfl
 ·exact #[_,_,aL.of (s' _ _ au),aL.of (s' _ _ ae),by rw [bb,bb];omega]
 ·refine q H' s' ?_;rw [d,e,<-C,ky];rfl
 ·rintro i σ' H' zs v ao av ⟨⟨u,v,rfl⟩,s',d,m,e⟩ ⟨p,r,rfl,x,y,rfl,z⟩;obtain ⟨w,A⟩:=z _ _ (aL.of (s' _ _ au)) (aL.of (s' _ _ ae));obtain ⟨x,rfl,j⟩:=gH w;obtain ⟨y,rfl,k⟩:=gH A;have B:(xs.zip ys)[i]?=some (x,y):=by rw [lI];exact #[j,k]
  have s:=ZP (t:=t) (f:=f) B;refine #[p,_,Y,aL.of bc,Y,_,_,Y,_,_,Y,Y,?_];have g:(upd H' p (.tup [.int x,.int y])) D=some (.lst zs):=by rw [a3 (b0 d r)];exact d
  have s2:ax H1 (upd H' p (.tup [.int x,.int y])):=ax.more s' r;refine aI x y _ _ (cg j) (cg k) ?_;cases h:t x y with
  | true =>
   refine aA x y _ _ (cg j) (cg k) h #[g,#[_,_,Y],?_,bc,?_,?_]
   ·intro c o l;rw [a3 (b0 l n)];exact s2 c o l
   ·rw [dn];show zs.length+1<=i+1;omega
   ·rw [s,e];simp [h]
  | false =>
   refine #[g,#[_,_,Y],s2,g,.ak,?_];rw [s,e];simp [h]
theorem aaK (aB:xs.length<=sizeLine) (ar:∃ u,pick js σ=u::σ0) (j:H1 D=.n)
  (au:H1 a=some (.lst xs))
  (aI:∀ x H' R,ax H1 H'->x∈xs->R (t x) H'->cS (some x::σ0) H' R)
  (aA:∀ x H' R,ax H1 H'->x∈xs->t x=.t->R x H'->bx (some x::σ0) H' R)
  (q:∀ H',ax H1 H'->H' D=some (.lst (xs.filter t))->Q (.ref D) H'):gf (l5 K a) D js (e8 0) cS bx σ H1 Q:=by
 obtain ⟨m,ar⟩:=ar;refine B_ aB (λ i σ' H' zs=>(∃ u,σ'=u::σ0)/\ax H1 H'/\H' D=some (.lst zs)/\zs.length<=i/\zs=(xs.take i).filter t) #[#[m,ar],ax.new j,bc,bL _,Y] (λ i σ' H' zs _ ⟨_,_,b,h,_⟩=>#[b,h]) (λ i σ' H' zs av ⟨_,s',_⟩=>#[_,xs[i],aK.of (s' _ _ au),cV av]) (λ σ' H' zs ⟨_,s',b,_,e⟩=>#[#[_,aK.of (s' _ _ au),bL _],?_]) ?_
 ·refine q H' s' ?_;rw [b,e,ky]
 ·rintro i σ' H' zs x ao av ⟨⟨u,rfl⟩,s',b,h,e⟩ ⟨rfl,l⟩;have f:=l _ (aK.of (s' _ _ au));have k:(xs.take (i+1)).filter t=(xs.take i).filter t++(if t x=.t then [x] else []):=by
   rw [jN,f];congr 1;by_cases z:t x=.t
   ·simp [z]
   ·simp [z]
  refine aI x _ _ s' (cg f) ?_;cases d:t x with
  | true =>
   refine aA x _ _ s' (cg f) d #[b,#[_,Y],?_,bc,?_,?_]
   ·intro c o g;rw [a3 (b0 g j)];exact s' c o g
   ·rw [dn];show zs.length+1<=i+1;omega
   ·rw [k,e];simp [d]
  | false =>
   refine #[b,#[_,Y],s',b,.ak,?_];rw [k,e];simp [d]
end cb
namespace cA
theorem GX (ar:2<=p) (aB:1<=n) (ae:n<=1000000000000):cnt p n<40:=by
 have e:=B9 ar n aB;have af:p ^ cnt p n<=n:=by
  have aA:=t6 ar n aB
  calc p ^ cnt p n<=p ^ cnt p n*strip p n:=Nat.le_mul_of_pos_right _ aA
   _=n:=e.symm
 have ai:2 ^ cnt p n<=p ^ cnt p n:=Nat.pow_le_pow_left ar _;have a:2 ^ cnt p n<2 ^ 40:=by
  have:1000000000000<2 ^ 40:=by decide
  omega
 exact (Nat.pow_lt_pow_iff_right .aw).mp a
def uy (rows:ed):Prop:=∀ c∈rows,∀ x∈c,-40<x/\x<40
theorem T_ (av:1<=i) (d:1<=j) (bi:i<=1000000000000) (c:j<=1000000000000) (h:x∈chg i j) : -40<x/\x<40:=by
 obtain ⟨k,ay⟩:=g6 h;unfold chg at ay;rw [jP] at ay;obtain ⟨a,b,au,ae,rfl⟩:=ay;have hm:=cg au;have e:=cg ae;obtain ⟨p,ar,rfl⟩:=c0.mp hm;obtain ⟨g,f,rfl⟩:=c0.mp e;have:=GX (i8 p ar) av bi;have:=GX (i8 g f) d c;omega
theorem VB {i:Nat} (h:(bK p c t)[i]?=some v):∃ x y,p[i]?=some x/\c[i]?=some y/\v=x+t*y:=by
 unfold bK at h;rw [jP] at h;obtain ⟨x,y,a,b,rfl⟩:=h;exact #[x,y,a,b,Y]
theorem Un {i:Nat} (a:p[i]?=some x) (b:c[i]?=some y):(bK p c t)[i]?=some (x+t*y):=by
 unfold bK;rw [jP];exact #[x,y,a,b,Y]
theorem xb:dQ a (bK p c t)=.t ↔ ∀ (i:Nat) x y z,p[i]?=some x->c[i]?=some y->a[i]?=some z->0<=x+t*y+z:=by
 rw [tY];constructor
 ·intro h i x y z b d e;exact h i z _ e (Un b d)
 ·intro h i z v e aM;obtain ⟨x,y,b,d,rfl⟩:=VB aM;exact h i x y z b d e
theorem aaM (h:dQ a (bK p c t)=.f):∃ (i:Nat) (x y z:Int),p[i]?=some x/\c[i]?=some y/\a[i]?=some z/\x+t*y+z<0:=by
 by_cases z:∃ (i:Nat) (x y z:Int),p[i]?=some x/\c[i]?=some y/\a[i]?=some z/\x+t*y+z<0
 ·exact z
 ·exfalso;have:=xb.mpr λ i x y w b d hw=>by
   by_cases q:0<=x+t*y+w
   ·exact q
   ·exact absurd #[i,x,y,w,b,d,hw,.ak] z
  rw [h] at this;cases this
theorem xD {i:Nat} (b:p[i]?=some x) (d:c[i]?=some y) (e:a[i]?=some z) (h:x+t*y+z<0):dQ a (bK p c t)=.f:=by
 rw [mR];intro w;have:=xb.mp w i x y z b d e;omega
def sY (p c:bp):Option Nat->Prop
 | none=>∀ t:Nat,dQ c (bK p c t)=.t
 | some m=>(∀ t:Nat,t<m->dQ c (bK p c t)=.t)/\dQ c (bK p c m)=.f/\∃ x∈p,(m:Int)<=x
def oY (p c a:bp):Option Nat->Prop
 | none=>∀ t:Nat,dQ a (bK p c t)=.f
 | some m=>(∀ t:Nat,t<m->dQ a (bK p c t)=.f)/\dQ a (bK p c m)=.t/\m<=1000
theorem CG:M∈cb.vQ t f xs ys ↔ ∃ (i:Nat) (x y:Int),xs[i]?=some x/\ys[i]?=some y/\t x y=.t/\M=f x y:=by
 unfold cb.vQ;rw [c0];constructor
 ·rintro ⟨⟨x,y⟩,h,rfl⟩;obtain ⟨af,ai⟩:=hp.mp h;obtain ⟨i,av⟩:=g6 af;rw [lI] at av;exact #[i,x,y,av.1,av.2,ai,Y]
 ·rintro ⟨i,x,y,af,ai,a,rfl⟩;refine #[(x,y),hp.mpr #[?_,a],Y];exact cg (by rw [lI];exact #[af,ai])
noncomputable abbrev s7 (p c:bp):bp:=cb.vQ (λ Z y=>decide (y<0)) (λ x y=>x/(-y)) p c
theorem YT (aB:nn p=.t) (h:s7 p c=[]):sY p c .n:=λ t=>xb.mpr λ i x y z a b d=>by
 rw [b] at d;cases d;have x0:=g0.mp aB x (cg a);by_cases e:y<0
 ·have:x/(-y)∈s7 p c:=CG.mpr #[i,x,y,a,b,bP e,Y];rw [h] at this;cases this
 ·have:=tI (mU t) (show 0<=y by omega);omega
theorem YU (aB:nn p=.t) (h:M∈s7 p c) (hm:∀ a∈s7 p c,M<=a):0<=M/\sY p c (some M.toNat):=by
 obtain ⟨i,x,y,k,m,aI,rfl⟩:=CG.mp h;have u:=cM aI;have x0:=g0.mp aB x (cg k);have f:0<=x/(-y):=Int.ediv_nonneg x0 .ak;refine #[f,λ t r=>xb.mpr λ j d b z l n o=>?_,?_,x,cg k,?_]
 ·rw [n] at o;cases o;have s:=g0.mp aB d (cg l);by_cases q:b<0
  ·have af:=hm (d/(-b)) (CG.mpr #[j,d,b,l,n,bP q,Y]);have ai:(t+1)<=d/(-b):=by omega
   have g:=(Int.le_ediv_iff_mul_le (show 0 < -b by omega)).mp ai;rw [Int.mul_neg,Int.add_mul,Int.one_mul] at g;omega
  ·have:=tI (mU t) (show 0<=b by omega);omega
 ·refine xD k m m ?_;have g:¬ (x/(-y)+1)<=x/(-y):=by omega
  rw [Int.le_ediv_iff_mul_le (show 0 < -y by omega),Int.mul_neg,Int.add_mul,Int.one_mul] at g;have e:=hW f;rw [e];omega
 ·rw [hW f];exact Int.ediv_le_self _ x0
def gA (p c a:bp) (i:Nat) (m:Int):Prop:=0<=m/\m<=1000/\(∀ j,j<i->∀ x y z,p[j]?=some x->c[j]?=some y->a[j]?=some z->0 < -z-x->0<y /\ -z-x<=m*y)/\(m=0\/∃ (j:Nat) (x y z:Int),p[j]?=some x/\c[j]?=some y/\a[j]?=some z/\0<y/\(m-1)*y < -z-x)
theorem gA.start:gA p c a 0 0:=#[Int.le_refl _,.aw,λ j h=>absurd h .ak,.inl Y]
theorem gA.skip {y:Int} (h:gA p c a i m) (n:p[i]?=some x) (q:a[i]?=some z) (l:¬ 0 < -z-x):gA p c a (i+1) m:=by
 obtain ⟨af,ai,g,k⟩:=h;refine #[af,ai,λ j u r s t b o d f=>?_,k];by_cases e:j=i
 ·subst e;rw [n] at b;rw [q] at d;cases b;cases d;exact absurd f l
 ·exact g j .ak r s t b o d f
theorem gA.never {i:Nat} (b:p[i]?=some x) (d:c[i]?=some y) (e:a[i]?=some z) (f:0 < -z-x) (g:y<=0):oY p c a .n:=λ t=>xD b d e (by
 have:=tI (mU t) (show 0 <= -y by omega);rw [Int.mul_neg] at this;omega)
theorem Vk {y:Int} (b:0<l) (a:0<y):l<=(l+y-1)/y*y/\((l+y-1)/y-1)*y<l/\(l+y-1)/y<=l/\0<=(l+y-1)/y:=by
 have af:=Int.lt_ediv_add_one_mul_self (l+y-1) a;have ai:=Int.ediv_mul_le (l+y-1) (show y≠0 by omega);rw [Int.add_mul,Int.one_mul] at af;refine #[.ak,by rw [Int.sub_mul,Int.one_mul];omega,?_,Int.ediv_nonneg .ak .ak];refine Int.ediv_le_of_le_mul a ?_;have:=tI (show 0<=l-1 by omega) (show 0<=y-1 by omega);rw [Int.sub_mul,Int.mul_sub,Int.one_mul,Int.mul_one] at this;omega
theorem gA.more (h:gA p c a i m) (n:p[i]?=some x) (o:c[i]?=some y) (q:a[i]?=some z) (D:0 < -z-x) (g : -z-x<=1000) (k:0<y):gA p c a (i+1) (if (-z-x+y-1)/y>m then (-z-x+y-1)/y else m):=by
 obtain ⟨af,ai,t,B⟩:=h;obtain ⟨v,w,E,A⟩:=Vk D k;by_cases u:(-z-x+y-1)/y>m
 ·rw [if_pos u];refine #[A,.ak,λ j C r l s b d f g=>?_,.inr #[i,x,y,z,n,o,q,k,w]];by_cases e:j=i
  ·subst e;rw [n] at b;rw [o] at d;rw [q] at f;cases b;cases d;cases f;exact #[k,v]
  ·obtain ⟨k1,k2⟩:=t j .ak r l s b d f g;have:=wK (show m<=(-z-x+y-1)/y by omega) (show 0<=l by omega);exact #[k1,.ak]
 ·rw [if_neg u];refine #[af,ai,λ j C r l s b d f g=>?_,B];by_cases e:j=i
  ·subst e;rw [n] at b;rw [o] at d;rw [q] at f;cases b;cases d;cases f;have:=wK (show (-z-x+y-1)/y<=m by omega) (show 0<=y by omega);exact #[k,.ak]
  ·exact t j .ak r l s b d f g
theorem gA.less (h:gA p c a i m) {t:Nat} (aI:(t:Int)<m):dQ a (bK p c t)=.f:=by
 obtain ⟨af,ai,g,b⟩:=h;rcases b with z|⟨j,x,y,z,d,e,f,k,hm⟩
 ·omega
 ·refine xD d e f ?_;have:=wK (show t<=m-1 by omega) (show 0<=y by omega);omega
theorem gA.yes (h:gA p c a i m) (hf:dQ a (bK p c m)=.t):oY p c a (some m.toNat):=by
 have af:=h.1;have ai:=h.2.1;refine #[λ t aI=>h.less .ak,by rw [hW af];exact hf,.ak]
theorem gA.no (ar:p.length=10) (h:gA p c a 10 m) (hf:dQ a (bK p c m)=.f):oY p c a .n:=λ t=>by
 by_cases aI:t<m
 ·exact h.less aI
 ·obtain ⟨i,x,y,z,b,d,e,k⟩:=aaM hf;obtain ⟨af,ai,f,j⟩:=h;refine xD b d e ?_;have av:i<10:=by
   have:=(dK.mp b).1;omega
  by_cases g:0 < -z-x
  ·obtain ⟨k1,k2⟩:=f i av x y z b d e g;omega
  ·have l:y<0:=by
    by_cases q:y<0
    ·exact q
    ·have:=tI af (show 0<=y by omega);omega
   have:=wK (show m<=t by omega) (show 0 <= -y by omega);rw [Int.mul_neg,Int.mul_neg] at this;omega
def zc (rows:ed) (p c:bp) (k:Nat):Option Nat->Prop
 | none=>∀ t:Nat,b_ rows (bK p c t)=some k
 | some T=>(∀ t:Nat,t<T->b_ rows (bK p c t)=some k)/\b_ rows (bK p c T)≠some k
theorem KQ:∀ {rows:ed} {p:bp} {i:Nat},b_ rows p=some i->∀ j,j<i->∀ a,rows[j]?=some a->dQ a p=.f
 | [],_,_,h=>by cases h
 | c::r,p,i,h=>by
  unfold b_ at h;by_cases b:dQ c p=.t
  ·rw [if_pos b] at h;cases h;intro j d;omega
  ·rw [if_neg b] at h;cases e:b_ r p with
   | none=>rw [e] at h;cases h
   | some f =>
    rw [e] at h;have av:f+1=i:=dS h;subst av;intro j d a au;cases j with
    | zero=>cases au;exact mR.mpr b
    | succ j=>exact KQ e j .ak a (by simpa using au)
theorem wX (ay:rows[k]?=some c):b_ rows q=some k ↔ dQ c q=.t/\∀ j,j<k->∀ a,rows[j]?=some a->dQ a q=.f:=by
 constructor
 ·intro h;obtain ⟨b,af,ai,_⟩:=mW h;rw [ay] at af;cases af;exact #[ai,KQ h]
 ·rintro ⟨af,ai⟩;exact wW rows q k ai (λ b e=>by rw [ay] at e;cases e;exact af) (dK.mp ay).1
theorem WE (ay:rows[k]?=some c) (L:sY p c o) (F:∀ j,j<k->∀ a,rows[j]?=some a->∃ q,os[j]?=some q/\oY p c a q) (h:(o::os).filterMap id=[]):zc rows p c k .n:=λ t=>by
 have no:∀ q∈o::os,q=.n:=λ q b=>by
  cases q with
  | none=>rfl
  | some T =>
   have:T∈(o::os).filterMap id:=pA.mpr #[some T,b,Y];rw [h] at this;cases this
 refine (wX ay).mpr #[?_,λ j d a au=>?_]
 ·have:=no o dI;subst this;exact L t
 ·obtain ⟨q,b,f⟩:=F j d a au;have:=no q (dJ _ (cg b));subst this;exact f t
theorem WG (ay:rows[k]?=some c) (n:os.length=k) (L:sY p c o) (F:∀ j,j<k->∀ a,rows[j]?=some a->∃ q,os[j]?=some q/\oY p c a q) (h:T∈(o::os).filterMap id) (hm:∀ a∈(o::os).filterMap id,T<=a):zc rows p c k (some T)/\((∃ x∈p,(T:Int)<=x)\/T<=1000):=by
 have at_:∀ q b,q∈o::os->q=some b->T<=b:=λ q b i e=>hm b (pA.mpr #[q,i,by rw [e];rfl])
 obtain ⟨q,i,e⟩:=pA.mp h;have eq:=e;subst eq;have mb:=(dK.mp ay).1;have first:∀ t,t<T->b_ rows (bK p c t)=some k:=λ t aI=>by
  refine (wX ay).mpr #[?_,λ j d a au=>?_]
  ·cases o with
   | none=>exact L t
   | some m=>exact L.1 t (by have:=at_ _ m dI rfl;omega)
  ·obtain ⟨aH,g,f⟩:=F j d a au;cases aH with
   | none=>exact f t
   | some m=>exact f.1 t (by have:=at_ _ m (dJ _ (cg g)) rfl;omega)
 rcases b5.mp i with z|z
 ·subst z;exact #[#[first,λ y=>by have:=((wX ay).mp y).1;rw [L.2.1] at this;cases this],.inl L.2.2]
 ·obtain ⟨j,d⟩:=g6 z;have l:j<k:=by
   have:=(dK.mp d).1;omega
  obtain ⟨aH,g,f⟩:=F j l _ (cV .ak);rw [d] at g;cases g;exact #[#[first,λ y=>by have:=((wX ay).mp y).2 j l _ (cV .ak);rw [f.2.1] at this;cases this],.inr f.2.2]
theorem Vz (s t) (ar:p.length=10) (a:c.length=10):bK (bK p c s) c t=bK p c (s+t):=by
 refine wB (by simp [bK,ar,a]) λ i af ai=>?_
 simp only [bK,List.getElem_zipWith];rw [Int.add_mul];omega
theorem Cd (ar:p.length=10) (a:c.length=10):bK p c 0=p:=by
 refine wB (by simp [bK,ar,a]) λ i af ai=>?_
 simp only [bK,List.getElem_zipWith];omega
theorem HL (rows) (a) (p):∀ b,goN rows (a+b) p=(goN rows a p).bind (goN rows b)
 | 0=>by
  cases goN rows a p<;>rfl
 | b+1=>by
  show (goN rows (a+b) p).bind (ew rows)=(goN rows a p).bind λ q=>(goN rows b q).bind (ew rows)
  rw [HL rows a p b];cases goN rows a p<;>rfl
theorem G2 (ay:rows[k]?=some c) (ar:p.length=10) (a:c.length=10):∀ s,(∀ t:Nat,t<s->b_ rows (bK p c t)=some k)->goN rows s p=some (bK p c s)
 | 0,_=>by
  show some p=_;rw [show ((0:Nat):Int)=0 from rfl,Cd ar a]
 | s+1,h=>by
  show (goN rows s p).bind (ew rows)=_;rw [G2 ay ar a s λ t aI=>h t .ak];show ew rows (bK p c s)=_;rw [ts (h s .ak) ay,Vz _ _ ar a];rfl
theorem IK (h:goN rows a p=some q) (ay:rows[k]?=some c) (ar:q.length=10) (b:c.length=10) (aA:∀ t:Nat,t<s->b_ rows (bK q c t)=some k):goN rows (a+s) p=some (bK q c s):=by
 rw [HL,h];exact G2 ay ar b s aA
end cA
namespace bt
open PySem PySem.Spec PyProof.Rows
section
variable {X:a5} {bu:Expr}
theorem XC (g:X.A.units+1<cLine):cQ X (compareOp .Eq) (λ x y H Q=>∃ (a b:Addr) (xs:bj),x=.ref a/\y=.ref b/\H a=some (.lst xs)/\H b=some (.lst [])/\Q (.aJ (decide (xs.length=0))) H):=by
 intro pins s σ H x y v u Q I t B h;obtain ⟨a,b,xs,rfl,rfl,au,ae,q⟩:=h;cases t;cases B;obtain ⟨z,d,n,p,_,l⟩:=I.fQ au;obtain ⟨C,i,b3,r,_,m⟩:=I.fQ ae;have f:=p.length;have o:=r.length;have p1:s.heap.IsList a d.toArray:=#[_,l,Y,n,Y]
 have eE:s.heap.IsList b i.toArray:=#[_,m,Y,b3,Y]
 have k:i.toArray.size=0:=by rw [dj,<-o];rfl
 by_cases h0:xs.length=0
 ·rw [bP h0] at q;have c:d.toArray.size=0:=by rw [dj,<-f];exact h0
  have:=SeqAt.RcAt.lists (e:=λ Z=>.t) p1 eE (by rw [c,k]) (pn g) λ j af Z=>absurd af .ak
  rw [c] at this;exact this X.prog X.w _ _ #[.aJ _,H,I,Y,q]
 ·rw [cK h0] at q;have c:d.toArray.size≠0:=by rw [dj,<-f];exact h0
  have:=SeqAt.RcAt.lists_lengths p1 eE (by rw [k];simpa using c) (pn g);exact this X.prog X.w _ _ #[.aJ _,H,I,Y,q]
end
theorem Cx (aB:n<=sizeLine) (Pv:Nat->St->aC->bj->Prop) (h0:Pv 0 (pick js σ) (upd H1 D (.lst [])) [])
  (ar:∀ i σ' H' ys,i<=n->Pv i σ' H' ys->H' D=some (.lst ys)/\ys.length<=i) (d:∀ i σ' H' ys,i<n->Pv i σ' H' ys->J.go i H') (e:∀ σ' H' ys,Pv n σ' H' ys->J.stop n H'/\Q (.ref D) H')
  (aA:∀ i σ' H' ys x ao,i<n->Pv i σ' H' ys->J.gR i H' x ao->g x σ' ao λ σ2 c=>cS σ2 c λ k a=>
   if k=.t then bx σ2 a λ y b=>b D=some (.lst ys)/\Pv (i+1) σ2 (upd b D (.lst (ys++[y]))) (ys++[y]) else a D=some (.lst ys)/\Pv (i+1) σ2 a ys):gf J D js g cS bx σ H1 Q:=B_ aB Pv h0 ar d e aA
theorem YC {K:aT} (aB:min xs.length ys.length<=sizeLine) (Pv:Nat->St->aC->bj->Prop) (h0:Pv 0 (pick js σ) (upd H1 D (.lst [])) [])
  (j:∀ i σ' H' zs,H' D=some (.lst zs)->Pv i σ' H' zs->aL K H' a xs/\aK K H' b ys)
  (aA:∀ i x y p σ' H' zs (R:St->V->aC->Prop),xs[i]?=some x->ys[i]?=some y->H' p=.n->H' D=some (.lst zs)->zs.length=i->Pv i σ' H' zs->(∀ σ2 z e,e D=some (.lst zs)->Pv (i+1) σ2 (upd e D (.lst (zs++[z]))) (zs++[z])->R σ2 z e) ->
   g (.ref p) σ' (upd H' p (.tup [x,y])) λ σ2 l=>bx σ2 l λ z e=>R σ2 z e)
  (r:∀ σ' H' zs,H' D=some (.lst zs)->zs.length=min xs.length ys.length->Pv (min xs.length ys.length) σ' H' zs->Q (.ref D) H'):gf (Itm K a b) D js g h1 bx σ H1 Q:=by
 refine ry aB Pv h0 (λ i σ' H' zs av d p=>?_) (λ σ' H' zs d m c=>#[?_,r σ' H' zs d m c]) λ i σ' H' zs x ao R av d u p s k=>?_
 ·obtain ⟨f,h⟩:=j i σ' H' zs d p;have af:i<xs.length:=by omega
  have ai:i<ys.length:=by omega
  exact #[xs,ys,xs[i],ys[i],f,h,by simp [af],by simp [ai]]
 ·obtain ⟨f,h⟩:=j _ σ' H' zs d c;exact #[xs,ys,f,h,.ak]
 ·obtain ⟨f,h⟩:=j i σ' H' zs d p;obtain ⟨q,o,rfl,v,w,rfl,t⟩:=s;obtain ⟨ex,n⟩:=t xs ys f h;exact aA i v w q σ' H' zs R ex n o d u p k
open PySem PySem.Spec PySem.SeqAt PyProof.Rows
section
variable {X:a5}
theorem Vx (r:A.handled=.n)
  (f:s.heap.IsTuple l vs.toArray) (av:IntsAre vs ns) (x:0<ns.length)
  (h:∀ h' M (t:Tok) a6,(∀ b o,s.heap.get? b=some o->h'.get? b=some o)->M∈ns->(∀ a,a∈ns->a<=M)->Q (.int M t) { s with heap:=h',toks:=a6 }) :
  wpAny (model prog w) A (call (.builtin "max") [.ref l]) Q E s:=by
 obtain ⟨xs,e⟩:=av.allInts.items;have g:ns=xs.toList.map (·.1):=by rw [<-av.numsOf,<-nums_intItems,<-e]
 have y:0<xs.size:=by
  have m:=x;rw [g,bb,eV] at m;exact m
 rw [e] at f;have n:l<s.heap.objs.size:=by obtain ⟨_,e,_⟩:=f;exact bZ e
 refine call_max_walk (nM f ?_);refine #[_,_,_,_,_,_,_,Y,Walks.tuple (A:=A.in1) r _ l (cR n) (intItems xs),#[#[_,cN _ Y,Y,Y],f.push _],λ c d=>?_,by simpa [intItems] using y,CmpOf.ints_gt (numAt xs) (λ Z Z=>mI),λ v h' a6 q ay=>?_]
 ·show c<(s.heap.push _).objs.size;rw [fj];rcases b5.mp d with rfl|d
  ·exact mG _
  ·rcases b5.mp d with rfl|d
   ·exact mH n
   ·cases d
 ·have aM:(intItems xs)[argBest (λ i j=>decide (numAt xs i>numAt xs j)) (xs.size-1)]?=some v:=by simpa [intItems] using q
  obtain ⟨t,rfl⟩:=mI aM;obtain ⟨af,ai⟩:=argBest_gt (numAt xs) (xs.size-1);refine h _ _ t a6 (λ b o k=>ay b o (λ hm=>?_) (bo _ k)) ?_ λ a au=>?_
  ·rcases b5.mp hm with p|hm
   ·exact absurd (p ▸ bZ k) (gZ _)
   ·cases hm
  ·rw [g,numAt_eq];exact getD_mem (by rw [bb,eV];omega)
  ·rw [g] at au;obtain ⟨j,u,rfl⟩:=mem_getD au;rw [bb,eV] at u;rw [<-numAt_eq];exact ai j .ak
theorem JO (b:X.calm=.t):dG X (.builtin "max") (λ xs H Q=>∃ (p:Addr) (ns:bp),xs=[.ref p]/\aL X.K H p (ns.map V.int)/\ns≠[]/\∀ M,M∈ns->(∀ a,a∈ns->a<=M)->Q (.int M) H):=by
 intro pins s σ H xs us Q I r h;obtain ⟨p,ns,rfl,d,c,q⟩:=h;obtain ⟨u,rfl,i⟩:=vals1 r;cases i;obtain ⟨l,g,bw,j⟩:=I.tuple d;refine Vx (I.ok.hd.1 b) bw (intsAre_of g) (by cases ns with|nil=>exact absurd Y c|cons=>simp) λ h' M t a6 k e f=>?_
 exact #[.int M,H,I.kept k,#[_,Y],q M e f]
end
end bt
namespace uR
open PySem PyProof.Rows
theorem Up:typeLookup (.type "list_reverseiterator") (Str.ofString "__len__")=pure .n:=by rw [typeLookup_type,builtinLookup_eq_fast];kernel_rfl
theorem Xj:typeLookup (.type "list_reverseiterator") (Str.ofString "__length_hint__")=pure (some (.builtin "list_reverseiterator.__length_hint__")):=by rw [typeLookup_type,builtinLookup_eq_fast];kernel_rfl
theorem sub_self:isSubtype (.type "list_reverseiterator") (.type "list_reverseiterator")=pure .t:=by rw [isSubtype_type];kernel_rfl
section
variable {prog:Program} {w:World} {A:Around} {E:dc} {s:Shared}
abbrev yc (items:ec):Nat->Value->Prop:=λ i v=>items[items.size-1-i]?=some v
theorem extend {R:Result->Shared->Prop} (u:A.handled=.n) (I l:Addr) (x:l≠I) (items:ec) (S:Addr) (res:Value) (c₀:Nat) (m:s.heap.get? S=some { cls:=.type "list", data:=.seq #[] c₀ })
  (h:S≠I) (q:S≠l) (d:s.heap.IsRevIter I l ((items.size:Int)-1)) (v:s.heap.IsList l items)
  (k:∀ h' a6 c a,(∀ b o,b≠S->b≠I->s.heap.get? b=some o->h'.get? b=some o)->h'.get? S=some { cls:=.type "list", dict:=.n,data:=.seq c a,slots:=#[] } ->
   ItemsOf (yc items) c items.size->R (.ok (.ret res)) { s with heap:=h',toks:=a6 }) (aB:items.size<=sizeLine) :
  wpAny (model prog w) A.in1 (Builtin.List.listExtendWith (.ref S) (.ref I) res)
   (λ fin s'=>match fin with| .done f=>R (.ok f) s'| .again a=>a.quiet=.t/\codeAny (model prog w) A a R s') (λ e s'=>R (.error e) s') s:=by
 have p:S∉[I,l]:=by simp [h,q]
 have bA:=d.typeIs;refine az (pG bA ?_);have af:Builtin.List.listSameRef (.ref S) (.ref I)=.f:=by simp [Builtin.List.listSameRef,h]
 have ai:(Value.type "list_reverseiterator" == Value.type "list")=.f:=by decide
 have j:(Value.type "list_reverseiterator" == Value.type "tuple")=.f:=by decide
 simp only [af,ai,j,Bool.or_false,Bool.false_eq_true,if_false];refine az (wpAny_pyIter_revIter d ?_);refine az (eS ?_);refine az (vX bA Up ?_);refine az (vX bA Xj ?_)
 wp_delta
 refine az (ps bA sub_self ?_);rw [if_neg (by decide:¬ (!.t)=.t)];dsimp only;rw [if_pos (by decide +kernel)];rw [if_neg (by decide +kernel)];refine bl ?_;rw [if_neg (by decide +kernel)];have W:=(Walks.listRev (prog:=prog) (w:=w) (A:=A.in1) u I l x items).toS;refine bl #[n1 F.plain_extend_loop _,codeAny_extend_loopS W aB _ p _ items.size 0 _ _ _ Y (fE _) #[fE _,by simpa using d,v] m (ItemsOf.nil _) λ s' c a hm n r=>?_];rw [Moved.eq_with hm];refine k s'.heap s'.toks c a (λ b bQ ae t e=>hm.heap b bQ (λ g=>?_) e) n r;rcases b5.mp g with i|g
 ·exact ae i
 ·exact t (dH.mp g)
end
end uR
namespace cb
open PySem bt cA
theorem xY (i):(List.range (i+1)).filter t=(List.range i).filter t++(if t i=.t then [i] else []):=by
 rw [List.range_succ,List.filter_append];congr 1;by_cases z:t i=.t
 ·simp [z]
 ·simp [z]
end cb
namespace bt
open PySem PySem.Spec PyProof.Rows
noncomputable def y_ (x:Str):g_:=#[λ i Z=>i<x.cps.size,λ i H y H'=>H'=H/\∃ c,x.cps[i]?=some c/\y=.str ⟨[c].toArray⟩,λ i Z=>x.cps.size<=i]
theorem Yj (y:c=.t) {K:aT} (x) (t) (it):Turn P w K c bu (y_ x) [it] it (λ i h=>h.IsStrIter it "str_ascii_iterator" x t i) where
 mem:=by simp
 obj:=λ i h st b ae=>by
  have e:b=it:=by simpa using ae
  subst e;obtain ⟨o,e,c,d⟩:=st;exact #[o,e,λ v z=>by rw [d] at z;cases z]
 keep:=λ i h h' st k=>by
  obtain ⟨o,e,c,d⟩:=st;exact #[o,k it .zs o e,c,d]
 item:=by
  intro X j hw g m u i pins s σ H E I hf st l;subst j hw g;have av:=l;have n:=Array.getElem?_eq_getElem av;obtain ⟨f0,f1,f2,a,f4,f⟩:=hf it .zs;refine wpAny_pyNext_ascii_item st n λ h' p A=>?_
  have q:Inv X pins σ H { s with heap:=h',toks:=s.toks+1 }:=I.turned (λ b o ae e=>(A.2 b (by simpa using ae)).trans e) f0 f1 a f4 f;obtain ⟨o,e,c,d⟩:=id p;exact #[_,Y,vN e c d .aw #[.str #[[x.cps[i]].toArray],H,q,#[_,Y],#[Y,_,n,Y],p,λ b ae=>(hf b ae).1]]
 done:=by
  intro X j hw g m u i pins s σ H E I hf st l;subst j hw g;have av:=l;obtain ⟨f0,f1,f2,a,f4,f⟩:=hf it .zs;exact wpAny_pyNext_ascii_end (I.ok.hd.1 (m.trans y)) st (Array.getElem?_eq_none av) λ h' r=>#[Y,I.turned (λ b o ae e=>r b o ae e) f0 f1 a f4 f]
 self:=λ Z Z Z Z Z st h=>wpAny_pyIter_striter_ascii st h
section
variable {X:a5} {bu:Expr}
def FL (ck:TE):TI:=λ σ H R=>ck σ H λ v H1=>∃ x,v=.str x/\x.cps.all (· < 128)=.t/\R (y_ x) H1
theorem UH (d:bG X l ck) (c:X.calm=.t:=by rfl):hz X bu l (FL ck):=by
 intro pins s σ H R I h;refine a8 (d pins s σ H _ I h) ?_;rintro v s1 ⟨y,H1,a,f,aO⟩
 obtain ⟨x,e,au,q⟩:=aO;subst e;obtain ⟨t,rfl⟩:=f
 refine wpAny_pyIter_ascii au ?_;refine #[s1.heap.objs.size,[s1.heap.objs.size],_,_,H1,Y,a.kept λ b o e=>bo _ e,Yj c x t _,#[_,cN _ Y,Y,Y],λ b ae=>?_,q];have e:b=s1.heap.objs.size:=by simpa using ae
 subst e;exact a.nB (bL _) (a.aS.fresh (bL _))
theorem we (b:a7 X l ck) (a:X.calm=.t:=by rfl):iJ X bu l (FL ck):=#[UH b.o a]
theorem ea:cQ X (binaryOp .Add) (λ x y H Q=>∃ a b,x=.str a/\y=.str b/\a.length+b.length<=sizeLine/\Q (.str (a++b)) H):=by
 intro pins s σ H x y v u Q I d e h;obtain ⟨a,b,rfl,rfl,c,q⟩:=h;obtain ⟨t,rfl⟩:=d
 obtain ⟨t',rfl⟩:=e
 exact add_str (λ t' a6=>#[.str _,H,I.tok _,#[_,Y],q]) c
end
end bt
namespace cb
open PySem bt cA
theorem xj (aB:x.cps.size<=sizeLine) (ar:∃ u,pick js σ=u::σ0) (h:H1 D=.n)
  (aI:∀ i c H' R,ax H1 H'->x.cps[i]?=some c->(∀ ao,ax H' ao->R (t i) ao)->cS (some (.str ⟨[c].toArray⟩)::σ0) H' R)
  (aA:∀ i c H' R,ax H1 H'->x.cps[i]?=some c->t i=.t->(∀ ao,ax H' ao->R (f i) ao)->bx (some (.str ⟨[c].toArray⟩)::σ0) H' R)
  (q:∀ H',ax H1 H'->H' D=some (.lst (((List.range x.cps.size).filter t).map f))->Q (.ref D) H'):gf (y_ x) D js (e8 0) cS bx σ H1 Q:=by
 obtain ⟨k,ar⟩:=ar;refine Cx aB (λ i σ' H' zs=>(∃ u,σ'=u::σ0)/\ax H1 H'/\H' D=some (.lst zs)/\zs.length<=i/\zs=((List.range i).filter t).map f) #[#[k,ar],ax.new h,bc,bL _,Y] (λ i σ' H' zs _ ⟨_,_,a,g,_⟩=>#[a,g]) (λ i σ' H' zs av _=>av) (λ σ' H' zs ⟨_,s',a,_,e⟩=>#[bL _,?_]) ?_
 ·refine q H' s' ?_;rw [a,e]
 ·rintro i σ' H' zs v ao av ⟨⟨u,rfl⟩,s',a,g,e⟩ ⟨rfl,c,j,rfl⟩;refine aI i c _ _ s' j λ l s3=>?_
  cases b:t i with
  | true =>
   refine aA i c _ _ (s'.trans s3) j b λ m s4=>#[s4 _ _ (s3 _ _ a),#[_,Y],?_,bc,?_,?_]
   ·intro c o d;rw [a3 (b0 d h)];exact s4 _ _ (s3 _ _ (s' c o d))
   ·rw [dn];show zs.length+1<=i+1;omega
   ·rw [xY,e];simp [b]
  | false =>
   refine #[s3 _ _ a,#[_,Y],s'.trans s3,s3 _ _ a,.ak,?_];rw [xY,e];simp [b]
end cb
namespace bt
open PySem PySem.Spec PyProof.Rows cb
section
variable {X:a5} {cx:kb} {k:Nat} {f C:Addr} {fd:FuncData} {ag:b2} {sp:bz} {di:bj} {ds:List Value} {E:dZ} {x m fl:Str} {p pos apos pos':Pos} {e o value:Expr} {ah:List Expr} {aP fg:TE} {t:dh}
theorem hr (he:a7 X e aP) (ae:attributeBase e fl X.env (eval e X.env)=eval e X.env):a7 X (.Attribute e fl pos) (Ga X.K aP fl):=#[Uw he.o ae]
theorem tq (au:a7 X o aP) (aM:a7 X value fg) (aA:swapsWith value (some (.Attribute o fl pos')) pos.line X.env=pure .f):e0 X (.Assign [.Attribute o fl pos'] value pos) (F4 X.K aP fg fl):=#[UL au.o aM.o aA]
theorem hY {bw:Sem Bool} (he:a7 X o aP) (c:hH X.K C) (hm:Meth X.K C m f) (F:dO X.prog X.w X.K X.mg X.base cx k f fd ag sp) (b:c6 k X.A) (ae:Binds X.K fd ag ds) (hd:Vals di ds) (g:Passes cx X E) (au:dM X (e::ah) t)
  (d:starEach (e::ah) X.env=(.f,eval e X.env)::starEach ah X.env:=by rfl) (cu:(backTo pos (starEach ah X.env)).any (·.1)=.f:=by rfl)
  (aI:eval (.Call (.Attribute o m apos) (e::ah) [] pos) X.env=(do
   let a ← eval o X.env
   standAt apos.atName
   let (f,first) ← holding [a] (getMethod a m bw)
   callWith pos f first (backTo pos (starEach (e::ah) X.env)) (backToKw pos (keywordEach [] X.env))):=by rfl) :
  a7 X (.Call (.Attribute o m apos) (e::ah) [] pos) (vV C m sp di E aP t):=#[VY he.o c hm F b ae hd g au.o d cu aI]
theorem I9 {bw:Sem Bool} (he:a7 X o aP) (c:hH X.K C) (hm:Meth X.K C m f) (F:dO X.prog X.w X.K X.mg X.base cx k f fd ag sp) (b:c6 k X.A) (ae:Binds X.K fd ag ds) (hd:Vals di ds) (d:Passes cx X E)
  (aI:eval (.Call (.Attribute o m apos) [] [] pos) X.env=(do
   let a ← eval o X.env
   standAt apos.atName
   let (f,first) ← holding [a] (getMethod a m bw)
   callWith pos f first (backTo pos (starEach [] X.env)) (backToKw pos (keywordEach [] X.env))):=by rfl) :
  a7 X (.Call (.Attribute o m apos) [] [] pos) (vV C m sp di E aP lj):=#[XO he.o c hm F b ae hd d aI]
theorem Wk (M:qa X.K C f) (F:dO X.prog X.w X.K X.mg X.base cx k f fd ag sp) (c:c6 (k+1) X.A) (b:cI X x) (hm:X.mg x=some (.ref C)) (ae:Binds X.K fd ag ds) (hd:Vals di ds) (d:Passes cx X E)
  (au:dM X (e::ah) t) (a:(x==("__debug__" : Str))=.f:=by decide) (he:starEach (e::ah) X.env=(.f,eval e X.env)::starEach ah X.env:=by rfl) (cu:(backTo pos (starEach ah X.env)).any (·.1)=.f:=by rfl) :
  a7 X (.Call (.Name x p) (e::ah) [] pos) (vU C sp di E t):=#[VX M F c b hm ae hd d au.o a he cu]
theorem I8 (M:qa X.K C f) (F:dO X.prog X.w X.K X.mg X.base cx k f fd ag sp) (c:c6 (k+1) X.A) (b:cI X x) (hm:X.mg x=some (.ref C)) (ae:Binds X.K fd ag ds) (hd:Vals di ds) (d:Passes cx X E)
  (a:(x==("__debug__" : Str))=.f:=by decide):a7 X (.Call (.Name x p) [] [] pos) (vU C sp di E lj):=#[XN M F c b hm ae hd d a]
end
noncomputable abbrev cc (x:Str):Key:=Sum.inr x
section
variable {X:a5}
theorem KW (b:X.A.units+1<cLine):cQ X (compareOp .NotIn) (λ y x H Q=>∃ (n:Str) (d:Addr) (kvs:List (Key×V)),y=.str n/\x=.ref d/\H d=some (.bW kvs)/\Q (.aJ (!(b7 kvs (cc n)).isSome)) H):=by
 intro pins s σ H y x u v Q I e c h;obtain ⟨n,d,kvs,rfl,rfl,hd,q⟩:=h;cases c;exact HG b I (hO.k (k:=cc n) hd) e λ s3 a=>#[.aJ _,H,a,Y,q]
inductive FW (Q:cj) (x y:V) (ao:aC):Prop
 |mk (d:Addr) (n:Str) (kvs:List (Key×V)) (v:V):x=.ref d->y=.str n->ao d=some (.bW kvs)->b7 kvs (cc n)=some v->Q v ao->FW Q x y ao
def Ve (a ty:TE):TE:=λ σ H Q=>a σ H λ x H1=>ty σ H1 λ y ao=>FW Q x y ao
theorem X8 (f:X.A.units+1<cLine) (e:a7 X o p) (av:a7 X i ty) (aA:vz i):a7 X (.Subscript o i pos) (Ve p ty):=#[by
 intro pins s σ H Q I h;refine B2 BA.lookup aA (a8 (e.o pins s σ H _ I h) ?_);rintro u s1 ⟨x,H1,b,l,aO⟩;refine a8 (av.o pins s1 σ H1 _ b aO) ?_;rintro r s2 ⟨y,ao,a,m,j⟩;obtain ⟨d,n,kvs,v,rfl,rfl,hd,aM,q⟩:=j;obtain rfl:u=Value.ref d:=l;have g:hO ao d (.str n) (some v):=by rw [<-aM];exact hO.k (k:=cc n) hd
 exact #[C0 a g,Cz f a g m λ cm s3 c cU=>#[v,ao,c,cU,q]]]
def U6 (c ty fg:TE):c9:=λ D σ H=>fg σ H λ v H1=>c σ H1 λ x ao=>ty σ ao λ y b=>∃ (d:Addr) (n:Str) (kvs:List (Key×V)),x=.ref d/\y=.str n/\b d=some (.bW kvs)/\kvs.length<sizeLine/\∀ a,cb.br d b a->a d=some (.bW (putK kvs (cc n) v))->D.bg σ a
theorem Cn (j:X.A.units+1<cLine) (g:a7 X o z) (av:a7 X i ty) (aM:a7 X value fg) (aA:swapsWith value (some (.Subscript o i pos')) pos.line X.env=pure .f) :
  e0 X (.Assign [.Subscript o i pos'] value pos) (U6 z ty fg):=#[by
 intro pins s σ H D I h;refine BB (a8 (aM.o pins s σ H _ I h) ?_) aA;rintro r s1 ⟨v,H1,a,p,aO⟩;refine a8 (g.o pins s1 σ H1 _ a aO) ?_;rintro u s2 ⟨x,ao,b,t,l⟩;refine a8 (av.o pins s2 σ ao _ b l) ?_;rintro C s3 ⟨y,B,c,w,m⟩;obtain ⟨d,n,kvs,rfl,rfl,hd,f,q⟩:=m;obtain rfl:u=Value.ref d:=t;exact CA j c (nA.k (k:=cc n) hd f) w p λ s4 e=>#[σ,_,e,q _ cb.br.upd bc]]
def U0:V->bj->aC->cj->Prop:=λ x vs H Q=>∃ (d:Addr) (n:Str) (kvs:List (Key×V)) (v:V),x=.ref d/\vs=[.str n]/\H d=some (.bW kvs)/\b7 kvs (cc n)=some v/\∀ H',cb.br d H H'->H' d=some (.bW (mD kvs (cc n)))->Q v H'
theorem IY:kX X "dict.pop" U0:=by
 intro pins s σ H x vs v us Q I e c h;obtain ⟨d,n,kvs,y,rfl,rfl,hd,aM,q⟩:=h;cases e;obtain ⟨u,rfl,b⟩:=c.one;exact Tq I hd (k:=cc n) b aM (.inl Y) λ cm s' a cU=>#[y,_,a,cU,q _ cb.br.upd bc]
def UZ:V->bj->aC->cj->Prop:=λ x vs H Q=>∃ (d:Addr) (n:Str) (kvs:List (Key×V)),x=.ref d/\vs=[.str n]/\H d=some (.bW kvs)/\Q ((b7 kvs (cc n)).getD .aX) H
theorem Xv:kX X "dict.get" UZ:=by
 intro pins s σ H x vs v us Q I c b h;obtain ⟨d,n,kvs,rfl,rfl,hd,q⟩:=h;cases c;obtain ⟨u,rfl,a⟩:=b.one;obtain ⟨t,rfl⟩:=a
 obtain ⟨_,hm,xs,rel,dd⟩:=qN I.aS hd;refine tD q4 dd.typeIs BC (PySem.F.args_dict_get_2 _ _) (meets_dict_get (g7 X.prog X.w) d (LF X.prog X.w n t) hm) #[_,dd.mapOf,?_];exact #[(b7 kvs (cc n)).getD .aX,H,I.tok _,(rel.val (cc n)).getD Y,q]
theorem Yv:dG X (.builtin "len") (λ xs H Q=>∃ (d:Addr) (kvs:List (Key×V)),xs=[V.ref d]/\H d=some (.bW kvs)/\Q (.int kvs.length) H):=by
 intro pins s σ H xs us Q I r h;obtain ⟨d,kvs,rfl,hd,q⟩:=h;obtain ⟨u,rfl,b⟩:=vals1 r;cases b;exact Gl I (.inl hd) λ t s' a=>#[.int _,H,a,#[t,Y],q]
end
end bt
namespace cb
open PySem bt cA
theorem xq (aB:xs.length<=sizeLine) (ar:∃ u,pick js σ=u::σ0) (j:H1 D=.n)
  (au:H1 a=some (.lst xs)) (b:Nat->aC->bj->Prop) (h0:b 0 (upd H1 D (.lst [])) [])
  (ay:∀ i H' ao zs ys,H' D=some (.lst ys)->b i H' zs->br D H' ao->b i ao zs)
  (aA:∀ i x H' zs R,ax H1 H'->xs[i]?=some x->H' D=some (.lst zs)->zs.length=i->b i H' zs->(∀ z g,ax H' g->b (i+1) g (zs++[z])->R z g)->bx (some x::σ0) H' R)
  (q:∀ H' zs,ax H1 H'->H' D=some (.lst zs)->zs.length=xs.length->b xs.length H' zs->Q (.ref D) H'):gf (l5 K a) D js (e8 0) h1 bx σ H1 Q:=by
 obtain ⟨n,ar⟩:=ar;refine Cx aB (λ i σ' H' zs=>(∃ u,σ'=u::σ0)/\ax H1 H'/\H' D=some (.lst zs)/\zs.length=i/\b i H' zs) #[#[n,ar],ax.new j,bc,Y,h0] (λ i σ' H' zs _ ⟨_,_,d,f,_⟩=>#[d,Nat.le_of_eq f]) (λ i σ' H' zs av ⟨_,s',_⟩=>#[_,xs[i],aK.of (s' _ _ au),cV av]) (λ σ' H' zs ⟨_,s',d,f,e⟩=>#[#[_,aK.of (s' _ _ au),bL _],q H' zs s' d f e]) ?_;rintro i σ' H' zs x ao av ⟨⟨u,rfl⟩,s',d,f,e⟩ ⟨rfl,k⟩;have l:=k _ (aK.of (s' _ _ au));refine aA i x _ zs _ s' l d f e λ z g s4 m=>#[s4 _ _ d,#[_,Y],?_,bc,by rw [dn,f];rfl,ay _ _ _ _ _ (s4 _ _ d) m br.upd]
 intro c o h;rw [a3 (b0 h j)];exact s4 _ _ (s' c o h)
end cb
namespace cA
open PySem PySem.NumText
theorem HO {α: Type} {p: α -> Bool} {l:List α} {x: α} (h:x∈l.filter p):x∈l:=(hp.mp h).1
noncomputable abbrev bB (c:Nat):Str:=#[[c].toArray]
noncomputable abbrev cn (x:Str):eQ:=x.cps.toList
theorem m1 (a b):cn (a++b)=cn a++cn b:=by
 show (a.cps++b.cps).toList=_;rw [Array.toList_append]
theorem pV (a):(cn a).length=a.length:=eV
theorem rj (h:cn a=cn b):a=b:=fD Str.mk (wt.mp h)
theorem Bd (a b c:Str):a++b++c=a++(b++c):=rj (by simp only [m1,tA])
theorem i_ (a):Str.empty++a=a:=rj (by rw [m1];rfl)
theorem len_app (a b:Str):(a++b).length=a.length+b.length:=by rw [<-pV,<-pV,<-pV,m1,dn]
def d8 (c:Nat) (x:Str):Prop:=c∉cn x
theorem d8.app (h:d8 c a) (g:d8 c b):d8 c (a++b):=by
 unfold d8;rw [m1,i1];exact λ z=>z.elim h g
theorem HF:∀ {p q a b:eQ},c∉p->c∉q->p++c::a=q++c::b->p=q/\a=b
 | [],[],a,b,_,_,e=>#[Y,(wL e).2]
 | [],y::q,a,b,_,d,e=>absurd (wL e).1 (λ z=>d (z ▸ dI))
 | x::p,[],a,b,ar,_,e=>absurd (wL e).1 (λ z=>ar (z ▸ dI))
 | x::p,y::q,a,b,ar,d,e=>by
  obtain ⟨f,g⟩:=wL e;obtain ⟨h,i⟩:=HF (λ z=>ar (dJ _ z)) (λ z=>d (dJ _ z)) g;exact #[by rw [f,h],i]
theorem kF (c) (x y) (r):Str.join (bB c) (x::y::r)=x++bB c++Str.join (bB c) (y::r):=rfl
theorem ri (c) (x y) (r):cn (Str.join (bB c) (x::y::r))=cn x++c::cn (Str.join (bB c) (y::r)):=by
 rw [kF,m1,m1,tA];rfl
theorem IQ (c):∀ l m,l≠[]->m≠[]->(∀ p∈l,d8 c p)->(∀ p∈m,d8 c p)->Str.join (bB c) l=Str.join (bB c) m->l=m
 | [],_,h,_,_,_,_=>absurd rfl h
 | _,[],_,h,_,_,_=>absurd rfl h
 | [x],[y],_,_,_,_,e=>fD (λ z=>[z]) e
 | [x],y::z::r,_,_,b,_,e=>by
  exfalso;refine b x (dH.mpr Y) ?_;have a:=fD cn (show x=_ from e);rw [a,ri];simp
 | x::z::r,[y],_,_,_,hm,e=>by
  exfalso;refine hm y (dH.mpr Y) ?_;have a:=fD cn (show y=_ from e.symm);rw [a,ri];simp
 | x::z::r,y::u::t,_,_,b,hm,e=>by
  have a:=fD cn e;rw [ri,ri] at a;obtain ⟨d,f⟩:=HF (b x dI) (hm y dI) a;have g:=IQ c (z::r) (u::t) .zs .zs (λ p ar=>b p (dJ _ ar)) (λ p ar=>hm p (dJ _ ar)) (rj f);rw [rj d,g]
theorem Ye (x y):Txt.split x y≠[]:=by
 unfold Txt.split;split
 ·simp
 ·split
  ·simp
  ·rw [StrLaws.partsBetween_eq];obtain ⟨p,r,e⟩:=StrLaws.partsFrom_ne x y.length 0 (Builtin.Str.occurrences x y 0 x.length (x.length+1));rw [e];simp
theorem t9 (c) (l) (a:l≠[]) (h:∀ p∈l,d8 c p):Txt.split (Str.join (bB c) l) (bB c)=l :=
 IQ c _ l (Ye _ _) a (StrLaws.split_free _ c) h (StrLaws.join_split _ _)
theorem Yk (y) (l):Txt.join y l=Str.join y l:=StrLaws.glued_eq_join y l
theorem join_snoc (c) (w):∀ l,l≠[]->Str.join (bB c) (l++[w])=Str.join (bB c) l++bB c++w
 | [],h=>absurd rfl h
 | [x],_=>rfl
 | x::y::r,_=>by
  have a:=join_snoc c w (y::r) .zs;show Str.join (bB c) (x::y::(r++[w]))=_;rw [kF,kF,show Str.join (bB c) (y::(r++[w]))=Str.join (bB c) (y::r)++bB c++w from a];simp only [Bd]
noncomputable def bE (n:Int):Str:=Str.ofString (toString n)
theorem tj (m:Nat):cn (bE (m:Int))=(Nat.toDigits 10 m).map Char.toNat:=by
 unfold bE cn;rw [Str.ofString_eq_toList];show (Nat.repr m).toList.map Char.toNat=_;rw [Nat.toList_repr]
theorem Vl {c:Char} (h:c.isDigit=.t):48<=c.toNat/\c.toNat<=57:=by
 unfold Char.isDigit at h;rw [eX,n4,n4] at h;exact #[UInt32.le_iff_toNat_le.mp h.1,UInt32.le_iff_toNat_le.mp h.2]
theorem wb (h:0<=n):AllDigits (cn (bE n)):=by
 obtain ⟨m,rfl⟩:=tJ h;intro c a;rw [tj] at a;obtain ⟨ch,b,e⟩:=c0.mp a;rw [<-e];exact Vl (Nat.isDigit_of_mem_toDigits .aw .aw b)
theorem BK:∀ d,d<10->(Nat.digitChar d).toNat=48+d:=by decide
theorem w7 (h:10<=m):Nat.toDigits 10 m=Nat.toDigits 10 (m/10)++[Nat.digitChar (m%10)]:=by
 have hm:m%10<10:=Nat.mod_lt m .aw;have t:=Nat.toDigits_append_toDigits (n:=m/10) .aw .ak hm;rw [Nat.div_add_mod] at t;rw [<-t,q5 hm]
theorem Yh:∀ m,0<m->∃ c r,(Nat.toDigits 10 m).map Char.toNat=c::r/\49<=c:=by
 intro m
 induction m using Nat.strongRecOn with
 | _ m b =>
  intro h0;by_cases h:m<10
  ·rw [q5 h];exact #[(Nat.digitChar m).toNat,[],Y,by rw [BK m h];omega]
  ·obtain ⟨c,r,e,a⟩:=b (m/10) .ak .ak;rw [w7 .ak,ht,e];exact #[c,r++_,Y,a]
theorem Io:∀ k m,m<10 ^ (k+1)->(Nat.toDigits 10 m).length<=k+1
 | 0,m,h=>by
  rw [q5 .ak];exact bL _
 | k+1,m,h=>by
  by_cases af:m<10
  ·rw [q5 af];show 1<=_;omega
  ·have a:=Io k (m/10) (by rw [Nat.div_lt_iff_lt_mul .aw];rw [Nat.pow_succ] at h;exact h);rw [w7 .ak,dn];show _+1<=_;omega
theorem WM (m):digitsVal ((Nat.toDigits 10 m).map Char.toNat)=m:=by
 induction m using Nat.strongRecOn with
 | _ m a =>
  by_cases h:m<10
  ·rw [q5 h];show 0*10+((Nat.digitChar m).toNat-48)=m;rw [BK m h];omega
  ·rw [w7 .ak,ht];show digitsVal (_++[(Nat.digitChar (m%10)).toNat])=m;rw [digitsVal_snoc,a (m/10) .ak,BK _ .ak];omega
theorem HR (h:0<n):∃ c r,cn (bE n)=c::r/\49<=c:=by
 obtain ⟨m,rfl⟩:=tJ (Int.le_of_lt h);rw [tj];exact Yh m .ak
theorem hV (h:0<=n) (aB:n<((10 ^ (k+1):Nat):Int)):(bE n).length<=k+1:=by
 obtain ⟨m,rfl⟩:=tJ h;rw [<-pV,tj,bb];exact Io k m .ak
theorem A2 (h:0<=n):cn (bE n)≠[]:=by
 obtain ⟨m,rfl⟩:=tJ h;rw [tj];by_cases h:m<10
 ·rw [q5 h];simp
 ·rw [w7 .ak];simp
theorem BR (h:0<=n) (a:(bE n).length<=4300):intText? (bE n)=some n:=by
 rw [intText_digits (wb h) (A2 h) a];obtain ⟨m,rfl⟩:=tJ h;show some ((digitsVal (cn (bE (m:Int)))):Int)=_;rw [tj,WM]
theorem kD (h:0<=n) (a:c<48\/57<c):d8 c (bE n):=λ z=>by
 have:=wb h c z;omega
noncomputable def nu (i j:Int):Str:=bE i++bB 47++bE j
theorem Xe (i j):nu i j=Str.join (bB 47) [bE i,bE j]:=rfl
theorem II (av:0<=i) (a:0<=j):d8 32 (nu i j):=((kD av .ak).app (by unfold d8 cn;decide)).app (kD a .ak)
theorem YH (av:0<=i) (a:0<=j):Txt.split (nu i j) (bB 47)=[bE i,bE j]:=by
 rw [Xe];refine t9 47 _ .zs λ p ar=>?_
 simp only [b5,dA,dB] at ar;rcases ar with rfl|rfl
 ·exact kD av .ak
 ·exact kD a .ak
theorem Vn (av:0<=i) (a:0<=j) (af:i<=1000000000000) (ai:j<=1000000000000):(nu i j).length<=27:=by
 have b:=hV (k:=12) av .ak;have c:=hV (k:=12) a .ak;have d:(bB 47).length=1:=rfl;unfold nu;rw [len_app,len_app];omega
noncomputable def fh (p e:Int):Str:=bE p++bB 94++bE e
theorem X3 (i j):fh i j=Str.join (bB 94) [bE i,bE j]:=rfl
theorem X2 (av:0<=i) (a:0<=j):d8 42 (fh i j):=((kD av .ak).app (by unfold d8 cn;decide)).app (kD a .ak)
theorem Za (av:0<=i) (a:0<=j):Txt.split (fh i j) (bB 94)=[bE i,bE j]:=by
 rw [X3];refine t9 94 _ .zs λ p ar=>?_
 simp only [b5,dA,dB] at ar;rcases ar with rfl|rfl
 ·exact kD av .ak
 ·exact kD a .ak
theorem US (i j):0<(fh i j).length:=by
 have a:(bB 94).length=1:=rfl;unfold fh;rw [len_app,len_app];omega
noncomputable def de (l:cX):b2:=(l.filter λ p=>decide (0<p.2)).map λ p=>fh p.1 p.2
theorem Yn (l) (p e):de (l++[(p,e)])=if 0<e then de l++[fh p e] else de l:=by
 unfold de;rw [List.filter_append,ht];by_cases h:0<e
 ·rw [if_pos h];simp [h]
 ·rw [if_neg h];simp [h]
noncomputable def du (l:cX):Str:=if de l=[] then bB 49 else Str.join (bB 42) (de l)
theorem Ca (h:∀ p∈l,0<p.length):Str.join (bB 42) l=Str.empty ↔ l=[]:=by
 constructor
 ·intro e
  match l,h,e with
  | [],_,_=>rfl
  | [x],h,e =>
   have:=h x (dH.mpr Y);rw [show x=Str.empty from e] at this;exact absurd this .aw
  | x::y::r,h,e =>
   have a:=fD cn e;rw [ri] at a;exact absurd a (by show ¬ (_=([]));simp)
 ·intro e;rw [e];rfl
theorem B7:∀ p∈de l,0<p.length:=λ p ar=>by
 obtain ⟨q,_,rfl⟩:=c0.mp ar;exact US _ _
end cA
namespace uR
open PySem PyProof.Rows
section
variable {prog:Program} {w:World} {A:Around} {E:dc} {s:Shared}
theorem Yz (m:A.handled=.n) (n:l≠I) (a:s.heap.IsRevIter I l ((items.size:Int)-1)) (d:s.heap.IsList l items) (aB:items.size<=sizeLine)
  (h:∀ h' a6 acc c,(∀ b o,b≠I->s.heap.get? b=some o->h'.get? b=some o)->h'.get? s.heap.objs.size=some { cls:=.type "list", dict:=.n,data:=.seq acc c,slots:=#[] }->ItemsOf (yc items) acc items.size->R (.ok (.ret (.ref s.heap.objs.size))) { s with heap:=h',toks:=a6 }) :
  codeAny (model prog w) A (.builtin "proto.collect" ⟨[.ref I],[]⟩) R s:=by
 have lt:∀ {b:Addr} {o:Obj},s.heap.get? b=some o->s.heap.objs.size≠b:=λ e=>(cR (bZ e)).symm
 obtain ⟨kU,f,_⟩:=id a;obtain ⟨ol,g,_⟩:=id d;have i:(s.heap.push { cls:=.type "list", data:=.seq #[] }).get? s.heap.objs.size=some { cls:=.type "list", data:=.seq #[] }:=cN _ rfl;refine lG F.entry_proto_collect ?_;rw [n0 F.plain_proto_collect _];refine az (lp ?_);refine bl #[n1 F.plain_list_iadd _,?_];refine lG F.entry_list_iadd ?_;rw [n0 F.plain_list_iadd _];refine extend m I l n items s.heap.objs.size _ 0 i (lt f) (lt g) (a.at λ o e=>bo _ e) (d.at λ o e=>bo _ e) (λ h' a6 acc c aW j k=>?_) aB;exact h h' a6 acc c (λ b o ae e=>aW b o (lt e).symm ae (bo _ e)) j k
theorem ZD (g:A.handled=.n) (i:l≠I) (a:s.heap.IsRevIter I l ((items.size:Int)-1)) (h:s.heap.IsList l items) (aB:items.size<=sizeLine)
  (d:∀ h' a6 acc,(∀ b o,b≠I->s.heap.get? b=some o->h'.get? b=some o)->ItemsOf (yc items) acc items.size->Q acc.toList { s with heap:=h',toks:=a6 }) :
  wpAny (model prog w) A (collect (.ref I)) Q E s:=by
 refine az (wpAny_runValue (Yz g i a h aB λ h' a6 acc c aW e f=>?_));exact az (qL e (bl (d h' a6 acc aW f)))
theorem VG:(Value.type "list_reverseiterator" == Value.type "list" || Value.type "list_reverseiterator" == Value.type "tuple")=.f:=by decide
theorem Vr (g:A.handled=.n) (i:l≠I) (a:s.heap.IsRevIter I l (([Value.str y u].toArray.size:Int)-1)) (h:s.heap.IsList l [.str y u].toArray)
  (f:∀ h' a6,(∀ b o,b≠I->s.heap.get? b=some o->h'.get? b=some o)->Q (.str y u) { s with heap:=h',toks:=a6 }) :
  wpAny (model prog w) A (call (.builtin "str.join") [.str x t,.ref I]) Q E s:=by
 refine ko (tH F.slot_str_join.plain F.entry_str_join ?_);refine F.slot_str_join.check _ _ _ _ _ _ _ _ (pH _ _ _) (F.args_str_join_2 _ _) ?_;rw [join_tree_other];refine az (pG a.typeIs ?_);rw [VG,if_neg dP];refine az (q3 (wpAny_pyIter_revIter a ?_));refine az (ZD g i a h (by show 1<=sizeLine;decide) λ h' a6 acc aW c=>?_);have e:acc.toList=[.str y u]:=by
  have af:acc.size=1:=c.1;have ai:=c.2 0 acc[0] (Array.getElem?_eq_getElem .ak);have d:Value.str y u=acc[0]:=by
   have:([Value.str y u].toArray)[[Value.str y u].toArray.size-1-0]?=some acc[0]:=ai;simpa using this
  apply q6;intro j;cases j with
  | zero=>simp [d,af]
  | succ j =>
   rw [kz (by rw [eV,af];omega),kz .zs]
 rw [e];exact az (lr (bl (f h' a6 aW)))
end
end uR
namespace bt
open PySem PySem.Spec PyProof.Rows cb
theorem KC:∀ l,Vals ((l.map (·.1)).map V.str) (strValues l)
 | []=>.nil
 | (x,t)::l=>.cons #[t,Y] (KC l)
theorem Ik:∀ {ys:b2} {a:List Value},Vals (ys.map V.str) a->StrsAre a ys
 | [],_,.nil=>.nil
 | y::ys,_,.cons r b=>by
  obtain ⟨t,rfl⟩:=r;exact .cons y t (Ik b)
section
variable {X:a5}
theorem BS:cQ X (binaryOp .Mult) (λ x y H Q=>∃ (a:Str) (n:Int),x=.str a/\y=.int n/\(n=0\/n=1)/\Q (.str (if n=1 then a else Str.empty)) H):=by
 intro pins s σ H x y v u Q I c d h;obtain ⟨a,n,rfl,rfl,aB,q⟩:=h;obtain ⟨t,rfl⟩:=c
 obtain ⟨t',rfl⟩:=d
 rcases aB with rfl|rfl
 ·refine SB.mul #[.aw,λ z=>absurd .aw z,λ z=>absurd .aw z] λ b k=>#[.str _,H,I.tok _,#[b,Y],?_]
  exact q
 ·refine SB.mul #[.aw,λ Z z=>absurd z .zs,λ Z z=>absurd z .zs] λ b k=>#[.str _,H,I.tok _,#[b,Y],?_]
  have e:Txt.mul a 1=a:=by
   unfold Txt.mul;rw [if_neg .aw,if_pos .zs]
  rw [e];exact q
inductive rJoin:V->bj->aC->cj->Prop
 |mk {x vs H Q} (y:Str) (a:Addr) (ys:b2):x=.str y->vs=[.ref a]->H a=some (.lst (ys.map V.str))->y.length<=16->(ys.map (·.length)).sum+ys.length<=1048576->Q (.str (Str.join y ys)) H->rJoin x vs H Q
theorem rf:kX X "str.join" rJoin:=by
 intro pins s σ H x vs v us Q I g e h;obtain ⟨y,a,ys,rfl,rfl,au,c,hw,q⟩:=h;obtain ⟨t,rfl⟩:=g
 obtain ⟨u,rfl,d⟩:=e.one;cases d;obtain ⟨z,i,n,f,hlen,b⟩:=I.fQ au;refine join_listW #[_,b,Y,n,Y] (Ik f) c hw λ t' k=>#[.str _,H,I.tok _,#[t',Y],?_]
 rw [cA.Yk];exact q
def Jr (to:TE) (aP:dh):TE:=λ σ H Q=>to σ H λ x H1=>∃ b,x=.str b/\aP σ H1 λ vs ao=>∃ (a:Addr) (y:Str),vs=[.ref a]/\ao a=some (.lst [.str y])/\Q (.str y) ao
theorem Z7 (l:X.calm=.t) (r:cI X "reversed") (hm:X.mg "reversed" = .n) (u:bG X o to) (au:fK X [c] aP) (aA:starEach [c] X.env=[(.f,eval c X.env)]:=by rfl)
  (ae:bootBuiltins "reversed" = some (.type "reversed"):=by decide +kernel)
  (k:attributeBase o "join" X.env (eval o X.env)=eval o X.env:=by rfl)
  (m:((backTo cF (starEach [.Call (.Name "reversed" p) [c] [] pos] X.env)).all (λ x=> !x.1)&&(backToKw cF (keywordEach [] X.env)).all (λ x=>x.1.isSome)
   && decide (([.Call (.Name "reversed" p) [c] [] pos]:List Expr).length+([]:List Keyword).length+(if ([]:List Keyword).isEmpty then 0 else 1)<30))=.t:=by rfl)
  (t:(apos.endLine==cF.line)=.t:=by rfl):bG X (.Call (.Attribute o "join" apos) [.Call (.Name "reversed" p) [c] [] pos] [] cF) (Jr to aP):=by
 intro pins s σ H Q I h;refine Bt k m t rfl (a8 (u pins s σ H _ I h) ?_);rintro v s1 ⟨x,H1,g,B,M,d,aO⟩;subst d;obtain ⟨t0,rfl⟩:=B
 refine #["str", "str.join", kA,pM,pN,pH _ _ _,(λ Z e=>nomatch e),?_];refine wo rfl (tw ?_);refine Calls.spliced_cons ?_;refine Call_ (kr g r hm ae (nP (a8 (au pos pins s1 σ H1 _ g aO) ?_) aA Y));rintro us s2 ⟨vs,ao,f,C,w⟩;obtain ⟨a,y,e,A,q⟩:=w;subst e;obtain ⟨L,rfl,D⟩:=vals1 C;cases D;obtain ⟨z,J,n,E,hlen,d⟩:=f.fQ A;obtain ⟨w0,rfl,G⟩:=vals1 E;obtain ⟨ty,rfl⟩:=G
 have j:s2.heap.IsList a [Value.str y ty].toArray:=#[_,d,Y,n,Y]
 refine call_reversed_list j ?_;refine Calls.spliced_nil ?_;have lt:=cR (bZ d);refine uR.Vr (f.ok.hd.1 l) lt #[_,cN _ Y,Y,Y] (j.at λ o e=>bo _ e) λ h' a6 aW=>?_
 exact #[.str y,ao,f.kept λ b o i=>aW b o (cR (bZ i)) (bo _ i),#[_,Y],q]
theorem Z9 (c:X.calm=.t) (e:cI X "reversed") (hm:X.mg "reversed" = .n) (g:a7 X o to) (au:dM X [a] aP) (aA:starEach [a] X.env=[(.f,eval a X.env)]:=by rfl)
  (ae:bootBuiltins "reversed" = some (.type "reversed"):=by decide +kernel)
  (b:attributeBase o "join" X.env (eval o X.env)=eval o X.env:=by rfl)
  (d:((backTo cF (starEach [.Call (.Name "reversed" p) [a] [] pos] X.env)).all (λ x=> !x.1)&&(backToKw cF (keywordEach [] X.env)).all (λ x=>x.1.isSome)
   && decide (([.Call (.Name "reversed" p) [a] [] pos]:List Expr).length+([]:List Keyword).length+(if ([]:List Keyword).isEmpty then 0 else 1)<30))=.t:=by rfl)
  (f:(apos.endLine==cF.line)=.t:=by rfl):a7 X (.Call (.Attribute o "join" apos) [.Call (.Name "reversed" p) [a] [] pos] [] cF) (Jr to aP):=#[Z7 c e hm g.o au.o aA ae b d f]
def U3:V->bj->aC->cj->Prop:=λ x vs H Q=>∃ a y,x=.str a/\vs=[.str y]/\(y.length==0)=.f/\a.length+2<=sizeLine/\e7 (.lst ((Txt.split a y).map V.str)) H Q
theorem split_len (x y):(Txt.split x y).length<=x.length+2:=by
 unfold Txt.split;split
 ·show 1<=_;omega
 ·split
  ·show 1<=_;omega
  ·have h:=StrLaws.occ_length_le x y 0 x.length (x.length+1);rw [StrLaws.partsBetween_eq];have:∀ w b a,(StrLaws.partsFrom x w a b).length=b.length+1:=by
    intro w b
    induction b with
    | nil=>intro a;rfl
    | cons c r d=>intro a;show (StrLaws.partsFrom x w (c+w) r).length+1=_;rw [d];rfl
   rw [this];omega
theorem CP {σ:St} (I:Inv X pins σ H s) (c:l.length<=sizeLine) (q:e7 (.lst ((l.map (·.1)).map V.str)) H Q) :
  f3 X pins σ Q (.ref s.heap.objs.size) { s with heap:=s.heap.push { cls:=.type "list", data:=.seq (strValues l).toArray },toks:=a6 }:=by
 refine #[.ref s.heap.objs.size,_,I.laid (λ b o a=>bo _ a) (bL _) (show eg X.prog X.w _ _ _ (.lst _) from #[?_,strValues l,0,KC l,cN _ Y]),Y,q.at _ (I.aS.fresh (bL _))];rw [bb,bb];exact c
theorem xd:kX X "str.split" U3:=by
 intro pins s σ H x vs v us Q I d c h;obtain ⟨x,y,rfl,rfl,a,f,q⟩:=h;obtain ⟨t,rfl⟩:=d
 obtain ⟨u,rfl,b⟩:=c.one;obtain ⟨t',rfl⟩:=b
 have hlen:=split_len x y;cases af:(decide (x.length<y.length)||decide (Builtin.Str.strKind x<Builtin.Str.strKind y)) with
 | true =>
  have e:Txt.split x y=[x]:=if_pos af;rw [e] at q;exact jM pO (pH _ _ _) F.entry_str_split (BD _ _) (meets_str_split_cannot_occur x y t t' af) (CP (l:=[(x,t)]) I (by show 1<=sizeLine;decide) q)
 | false =>
  cases hf:(Builtin.Str.occurrences x y 0 x.length (x.length+1)).isEmpty with
  | true =>
   have e:Txt.split x y=[x]:=(if_neg (by rw [af];decide)).trans (if_pos hf);rw [e] at q;exact jM pO (pH _ _ _) F.entry_str_split (BD _ _) (meets_str_split_not_found x y t t' af a hf) (CP (l:=[(x,t)]) I (by show 1<=sizeLine;decide) q)
  | false =>
   have e:Txt.split x y=Builtin.Str.partsBetween x (Builtin.Str.occurrences x y 0 x.length (x.length+1)) y.length:=(if_neg (by rw [af];decide)).trans (if_neg (by rw [hf];decide));rw [e] at q hlen;refine jM pO (pH _ _ _) F.entry_str_split (BD _ _) (meets_str_split_sep x y t t' af a hf .ak .ak) ?_;rw [strsFrom_eq];refine CP I ?_ ?_
   ·have:=fD List.length (numbered_texts s.toks (Builtin.Str.partsBetween x (Builtin.Str.occurrences x y 0 x.length (x.length+1)) y.length));rw [bb] at this;omega
   ·rw [numbered_texts];exact q
theorem JN:dG X (.type "int") (λ xs H Q=>∃ (x:Str) (n:Int),xs=[.str x]/\x.length<=640/\intText? x=some n/\Q (.int n) H):=by
 intro pins s σ H xs us Q I r h;obtain ⟨x,n,rfl,a,aB,q⟩:=h;obtain ⟨u,rfl,b⟩:=vals1 r;obtain ⟨t,rfl⟩:=b
 exact PySem.W.KIN.call_text aB a #[.int n,H,I.tok _,#[_,Y],q]
def s6 (x:V) (y:Str):Prop:=(x=.str y\/∃ i,x=.int i/\i.natAbs.log2<1920/\y=cA.bE i)/\y.length<=1000000
theorem v9 {σ:St} (I:Inv X pins σ H s) (r:RelV x v) (a:s6 x y) (h:∀ t s',Inv X pins σ H s'->R (.str y t) s') :
  wpAny (model X.prog X.w) X.A (formatField v Str.empty) R X.ct s:=by
 obtain ⟨a,b⟩:=a;rcases a with rfl|⟨i,rfl,av,rfl⟩
 ·obtain ⟨t,rfl⟩:=r
  exact wpAny_formatField_str (h _ _ I) (h _ _ (I.tok _)) (by rw [b8];omega)
 ·obtain ⟨t,rfl⟩:=r
  exact wpAny_formatField_int av (h _ _ (I.tok _))
def GI (aP:TE) (y:Str) (aQ:TE):TE:=λ σ H Q=>aP σ H λ x H1=>∃ a,s6 x a/\aQ σ H1 λ z ao=>∃ fN,s6 z fN/\Q (.str (a++y++fN)) ao
theorem VW (au:bG X a aP) (ae:bG X b aQ) (q:y.length<=1000:=by decide) :
  bG X (.JoinedStr [.FormattedValue a (-1) .n p1,.Constant (.str y) j eE,.FormattedValue b (-1) .n l1] pos) (GI aP y aQ):=by
 intro pins s σ H Q I h;refine wpAny_JoinedStr ?_;refine wM (a8 (au pins s σ H _ I h) ?_);rintro v s1 ⟨x,H1,e,m,o,c,aO⟩;refine v9 e m c λ t1 s2 f=>#[o,t1,Y,?_,?_]
 ·rw [cA.i_,b8];have:=c.2;omega
 refine v3 #[y,_,Y,?_,?_]
 ·rw [cA.i_,cA.len_app,b8];have:=c.2;omega
 have g:=f.tok (s2.toks+1);refine wM (a8 (ae pins _ σ H1 _ g aO) ?_);rintro u s4 ⟨z,ao,i,n,fN,d,l⟩;refine v9 i n d λ p s5 k=>#[fN,p,Y,?_,?_]
 ·rw [cA.i_,cA.len_app,cA.len_app,b8];have:=c.2;have:=d.2;omega
 ·refine #[?_,.str _,ao,k.tok _,#[_,Y],?_]
  ·rw [cA.i_,cA.len_app,cA.len_app,b8];have:=c.2;have:=d.2;omega
  ·rw [cA.i_];exact l
theorem Wj (au:a7 X a aP) (ae:a7 X b aQ) (c:y.length<=1000:=by decide) :
  a7 X (.JoinedStr [.FormattedValue a (-1) .n p1,.Constant (.str y) j eE,.FormattedValue b (-1) .n l1] pos) (GI aP y aQ):=#[VW au.o ae.o c]
theorem Hg {K:aT} {id:String} (a:X.K=K) (i:PlainAttrs T) (slot:Slot T name id) (h:typeOf (.builtin id)=pure (.type "method_descriptor")) (hm:kX X id r) (f:a7 X o to) (au:dM X (e::ah) t)
  (b:attributeBase o name X.env (eval o X.env)=eval o X.env:=by rfl)
  (c:((backTo cF (starEach (e::ah) X.env)).all (λ x=> !x.1)&&(backToKw cF (keywordEach [] X.env)).all (λ x=>x.1.isSome)&&decide ((e::ah).length+([]:List Keyword).length+(if ([]:List Keyword).isEmpty then 0 else 1)<30))=.t:=by rfl)
  (d:(apos.endLine==cF.line)=.t:=by rfl) (aA:starEach (e::ah) X.env=(.f,eval e X.env)::starEach ah X.env:=by rfl) (g:(backTo cF (starEach ah X.env)).any (·.1)=.f:=by rfl) :
  a7 X (.Call (.Attribute o name apos) (e::ah) [] cF) (Ae K T r to t):=by
 subst a;exact #[GB i slot h hm f.o au.o b c d aA g]
noncomputable abbrev gv (n:Int):Key:=Sum.inl n
def U4 (c ty fg:TE):c9:=λ D σ H=>fg σ H λ v H1=>c σ H1 λ x ao=>ty σ ao λ y b=>∃ (d:Addr) (n:Int) (kvs:List (Key×V)),x=.ref d/\y=.int n/\b d=some (.bW kvs)/\kvs.length<sizeLine/\∀ a,cb.br d b a->a d=some (.bW (putK kvs (gv n) v))->D.bg σ a
theorem X_ (j:X.A.units+1<cLine) (g:a7 X o z) (av:a7 X i ty) (aM:a7 X value fg) (aA:swapsWith value (some (.Subscript o i pos')) pos.line X.env=pure .f) :
  e0 X (.Assign [.Subscript o i pos'] value pos) (U4 z ty fg):=#[by
 intro pins s σ H D I h;refine BB (a8 (aM.o pins s σ H _ I h) ?_) aA;rintro r s1 ⟨v,H1,a,p,aO⟩;refine a8 (g.o pins s1 σ H1 _ a aO) ?_;rintro u s2 ⟨x,ao,b,t,l⟩;refine a8 (av.o pins s2 σ ao _ b l) ?_;rintro C s3 ⟨y,B,c,w,m⟩;obtain ⟨d,n,kvs,rfl,rfl,hd,f,q⟩:=m;obtain rfl:u=Value.ref d:=t;exact CA j c (nA.k (k:=gv n) hd f) w p λ s4 e=>#[σ,_,e,q _ cb.br.upd bc]]
def UY:V->bj->aC->cj->Prop:=λ x vs H Q=>∃ (d:Addr) (n:Int) (z:V) (kvs:List (Key×V)),x=.ref d/\vs=[.int n,z]/\H d=some (.bW kvs)/\Q ((b7 kvs (gv n)).getD z) H
theorem Xu:kX X "dict.get" UY:=by
 intro pins s σ H x vs v us Q I e a h;obtain ⟨d,n,z,kvs,rfl,rfl,hd,q⟩:=h;cases e;cases a with
 | cons b a =>
 cases a with
 | cons c a =>
 cases a;obtain ⟨t,rfl⟩:=b
 obtain ⟨_,hm,xs,rel,dd⟩:=qN I.aS hd;refine tD q4 dd.typeIs BC (PySem.F.args_dict_get_3 _ _ _) (meets_dict_get_default (g7 X.prog X.w) d (LD X.prog X.w n t) hm _) #[_,dd.mapOf,?_];exact #[_,H,I.tok _,(rel.val (gv n)).getD c,q]
end
end bt
namespace cb
open PySem bt cA
theorem aaL (t) (f) (aB:min xs.length ys.length<=sizeLine) (ar:∃ u v,pick js σ=u::v::σ0) (l:H1 D=.n)
  (au:∀ H',ax H1 H'->aL K H' a xs) (ae:∀ H',ax H1 H'->aL K H' b ys)
  (aI:∀ i x y H' R,ax H1 H'->xs[i]?=some x->ys[i]?=some y->R (t i) H'->cS (some x::some y::σ0) H' R)
  (aA:∀ i x y H' R,ax H1 H'->xs[i]?=some x->ys[i]?=some y->t i=.t->(∀ ao,ax H' ao->R (f i) ao)->bx (some x::some y::σ0) H' R)
  (q:∀ H',ax H1 H'->H' D=some (.lst (((List.range (min xs.length ys.length)).filter t).map f))->Q (.ref D) H'):gf (oJ K a b) D js (nC K 2 (kl (e8 0) (kl (e8 1) qH))) cS bx σ H1 Q:=by
 obtain ⟨w,v0,ar⟩:=ar;refine Cx aB (λ i σ' H' zs=>(∃ u v,σ'=u::v::σ0)/\ax H1 H'/\H' D=some (.lst zs)/\zs.length<=i/\zs=((List.range i).filter t).map f) #[#[w,v0,ar],ax.new l,bc,bL _,Y] (λ i σ' H' zs _ ⟨_,_,d,k,_⟩=>#[d,k]) (λ i σ' H' zs av ⟨_,s',_⟩=>?_) (λ σ' H' zs ⟨_,s',d,_,e⟩=>#[?_,?_]) ?_
 ·exact #[_,_,xs[i]'(by omega),ys[i]'(by omega),au _ s',ae _ s',cV .ak,cV .ak]
 ·exact #[_,_,au _ s',ae _ s',.ak]
 ·refine q H' s' ?_;rw [d,e]
 ·rintro i σ' H' zs v ao av ⟨⟨u,v,rfl⟩,s',d,k,e⟩ ⟨p,m,rfl,x,y,rfl,s⟩;obtain ⟨n,r⟩:=s _ _ (au _ s') (ae _ s');refine #[p,_,Y,aL.of bc,Y,_,_,Y,_,_,Y,Y,?_];have g:(upd H' p (.tup [x,y])) D=some (.lst zs):=by rw [a3 (b0 d m)];exact d
  have s2:ax H1 (upd H' p (.tup [x,y])):=ax.more s' m;refine aI i x y _ _ s2 n r ?_;cases h:t i with
  | true =>
   refine aA i x y _ _ s2 n r h λ z s4=>#[s4 _ _ g,#[_,_,Y],?_,bc,?_,?_]
   ·intro c o j;rw [a3 (b0 j l)];exact s4 _ _ (s2 c o j)
   ·rw [dn];show zs.length+1<=i+1;omega
   ·rw [xY,e];simp [h]
  | false =>
   refine #[g,#[_,_,Y],s2,g,.ak,?_];rw [xY,e];simp [h]
theorem range_getD {α: Type} (d) (l:List α):l=(List.range l.length).map λ i=>l.getD i d:=by
 apply q6;intro i;rcases q7 i l.length with h|h
 ·rw [dg,List.getElem?_range h,cV h];simp [List.getD,h]
 ·rw [kz h,kz (by rw [bb,i9];exact h)]
theorem aaa {α β: Type} (d) (t) (f : α -> β) (l:List α):((List.range l.length).filter λ i=>t (l.getD i d)).map (λ i=>f (l.getD i d))=(l.filter t).map f:=by
 conv=>rhs;rw [range_getD d l]
 rw [List.filter_map,fa];rfl
end cb
namespace bt
open PySem PySem.Spec PyProof.Rows cb
section
variable {X:a5}
theorem Hc:cQ X (compareOp .LtE) (λ x y H Q=>∃ i j,x=.str i/\y=.str j/\Q (.aJ (!decide (cA.cn j<cA.cn i))) H):=by
 intro pins s σ H x y v u Q I a b h;obtain ⟨i,j,rfl,rfl,q⟩:=h;obtain ⟨t,rfl⟩:=a
 obtain ⟨t',rfl⟩:=b
 exact P.le_str #[.aJ _,H,I,Y,q]
end
end bt
namespace cA
open PySem PySem.NumText
instance (x:eQ):Decidable (AllDigits x):=by unfold AllDigits;infer_instance
def r6 (x:Str):Prop:=∀ c∈cn x,c<128
theorem r6.all (h:r6 x):x.cps.all (· < 128)=.t:=by
 rw [Array.all_eq_true'];intro c a;exact bP (h c (v7.mpr a))
theorem J4:∀ {l:b2} {y:Str},y∈l->∀ z∈cn y,z∈cn (Str.join (bB c) l)
 | [],_,h,_,_=>by cases h
 | [x],y,h,z,a=>by
  rw [dH.mp h] at a;exact a
 | x::b::r,y,h,z,a=>by
  rw [ri,i1];rcases b5.mp h with rfl|h'
  ·exact .inl a
  ·exact .inr (dJ _ (J4 h' z a))
noncomputable def mY:bp:=[2,3,5,7,11,13,17,19,23,29]
noncomputable abbrev bS (ah:bp):cX:=mY.zip ah
theorem tm (h:ah.length=10):(bS ah).length=10:=by rw [List.length_zip,h];rfl
theorem UW {i:Nat} (h:(bS ah)[i]?=some (p,e)):mY[i]?=some p/\ah[i]?=some e:=by
 rw [lI] at h;exact h
theorem C4:∀ p∈mY,2<=p/\p<=29:=by decide
noncomputable abbrev Tn:bp:=List.replicate 10 0
noncomputable def iz (l:cX):cX:=l.filter λ p=>decide (0<p.2)
theorem Ct (l):de l=(iz l).map λ p=>fh p.1 p.2:=rfl
theorem It {α β: Type}:∀ (a:List α) (b:List β),List.Sublist ((a.zip b).map (·.1)) a
 | [],_=>by simp
 | x::a,[]=>by simp
 | x::a,y::b=>by simpa using It a b
theorem H2 (ah):((bS ah).map (·.1)).Nodup:=(by decide:mY.Nodup).sublist (It _ _)
theorem Y9 (ah):((iz (bS ah)).map (·.1)).Nodup:=(H2 ah).sublist (List.filter_sublist.map _)
theorem HN:∀ {l:cX} {p e f:Int},(l.map (·.1)).Nodup->(p,e)∈l->(p,f)∈l->e=f
 | [],_,_,_,_,h,_=>by cases h
 | q::l,p,e,f,aB,af,ai=>by
  obtain ⟨c,d⟩:=mK.mp aB;rcases b5.mp af with b|b
  ·rcases b5.mp ai with a|a
   ·rw [<-b] at a;injection a with _ g;exact g.symm
   ·exact absurd (c0.mpr #[(p,f),a,by rw [<-b]]) c
  ·rcases b5.mp ai with a|a
   ·exact absurd (c0.mpr #[(p,e),b,by rw [<-a]]) c
   ·exact HN d b a
theorem TP {ah:bp} (h:ah.length=10) {i:Nat} (av:i<10):(bS ah)[i]?=some (mY[i]'av,ah[i]'(by omega)):=by
 rw [lI];exact #[cV av,cV .ak]
theorem Ys (cC:ah.length=10) (h0:∀ e∈ah,0<=e) (hw:de (bS ah)=[]):ah=Tn:=by
 apply q6;intro i;rcases q7 i 10 with av|av
 ·rw [cV .ak,List.getElem?_replicate,if_pos av];have af:=h0 _ (kv (show i<ah.length by omega));have ai:¬ 0<ah[i]'(by omega):=λ ar=>by
   have hm:(mY[i]'av,ah[i]'(by omega))∈iz (bS ah):=hp.mpr #[cg (TP cC av),bP ar];rw [Ct] at hw;rw [List.map_eq_nil_iff.mp hw] at hm;cases hm
  congr 1;omega
 ·rw [kz .ak,kz (by rw [List.length_replicate];exact av)]
theorem UR (p e):94∈cn (fh p e):=by
 unfold fh;rw [m1,m1,i1,i1];exact .inl (.inr .zs)
theorem Vv (h:de l≠[]):du l≠bB 49:=by
 unfold du;rw [if_neg h];intro e;obtain ⟨y,a⟩:=List.exists_mem_of_ne_nil _ h;obtain ⟨f,_,rfl⟩:=c0.mp a;have:=J4 (c:=42) a 94 (UR f.1 f.2);rw [e] at this;exact absurd this .aw
theorem V6 (h:q∈iz (bS ah)):q.1∈mY/\0<q.2/\q.2∈ah:=by
 obtain ⟨af,ai⟩:=hp.mp h;have a:=mL af;exact #[a.1,cM ai,a.2]
theorem V5:∀ q∈iz (bS ah),0<=q.1/\0<=q.2:=λ q a=>by
 have h:=V6 a;have:=C4 _ h.1;exact #[.ak,.ak]
open cb
end cA
namespace zb
open PySem PySem.W PyProof.Rows bt
section
variable {prog:Program} {w:World} {A:Around} {E:dc} {s:Shared}
theorem take_all (K:KdlSrc prog w T r d n P k) (m:A.handled=.n) (aS:k s.heap) (aB:n<=sizeLine)
  (h:∀ g a6 acc,(∀ b o,s.heap.get? b=some o->g.get? b=some o)->s.heap.objs.size<g.objs.size->ItemsOf P acc n->R acc.toList { s with heap:=g,toks:=a6 }) :
  wpAny (model prog w) A (collect (.ref r)) R E s:=by
 have lt:=K.there _ aS;have p:(s.heap.push (seqObj "list" #[] 0)).get? s.heap.objs.size=some (seqObj "list" #[] 0):=cN _ rfl;have key:=kdl_extend (s:={ s with heap:=s.heap.push (seqObj "list" #[] 0) })
  (R:=λ z s'=>∃ (g:Heap) (a6:Nat) (acc:ec) (c:Nat),z=.ok (.ret (.ref s.heap.objs.size))/\s'={ s with heap:=g,toks:=a6 }/\(∀ b o,s.heap.get? b=some o->g.get? b=some o)/\g.get? s.heap.objs.size=some { cls:=.type "list", dict:=.n,data:=.seq acc c,slots:=#[] }/\ItemsOf P acc n)
  K m (K.keep _ _ aS λ b Z o e=>bo _ e) s.heap.objs.size (hq lt.1) (hq lt.2) (.ref s.heap.objs.size) 0 p
  (λ g a6 acc c ay a i=>#[g,a6,acc,c,Y,Y,λ b o e=>ay b o (cR (bZ e)) (bo _ e),a,i]) aB
 refine az (wpAny_runValue (lG entry_proto_collect' (?_)));refine az (wC (bl #[Bz _ (by decide +kernel),lG entry_list_iadd' (?_)]));refine eU key (λ z s' x=>?_) λ e s' x=>?_
 ·cases z with
  | again c =>
   refine #[x.1,jI x.2 ?_];rintro _ _ ⟨g,a6,acc,l,f,j,ay,a,i⟩;subst f j;exact (az (qL a (bl (h g a6 acc ay (bZ a) i))))
  | done v =>
   obtain ⟨g,a6,acc,l,f,j,ay,a,i⟩:=x;subst j;cases f;exact (az (qL a (bl (h g a6 acc ay (bZ a) i))))
 ·obtain ⟨_,_,_,_,f,_⟩:=x;cases f
theorem LZ (q:A.handled=.n) (lo:(d==sysModules)=.f) (dd:s.heap.DictOf (g7 prog w) d vs) (ay:vs.map (·.1)=ns.map cc) (H:ns.length<64)
  (k:∀ h' a6 (p:Addr) out e ms,(∀ b bQ,s.heap.get? b=some bQ->h'.get? b=some bQ)->s.heap.objs.size<=p->StrsAre out.toList ms->ms.Perm ns->sortedS ms=.t->h'.get? p=some (seqObj "list" out e)->R (.ref p) { s with heap:=h',toks:=a6 }) :
  wpAny (model prog w) A (call (.builtin "sorted") [.ref d]) R E s:=by
 obtain ⟨G,o⟩:=dd.dictAt;have l:vs.length=ns.length:=by
  have:=fD List.length ay;simpa using this
 refine Calls.call_function_entry kind_sorted plain_sorted entry_sorted (args_sorted1 _) (?_);refine az (bl (az (take_all (kdl_dict lo) q o (by rw [l,b8];omega) λ af t1 acc k1 u h=>az (wC ?_ ?_))))
 ·have al:acc.toList.length=ns.length:=by rw [eV,h.1,l]
  have at':∀ j (v:Value),acc.toList[j]?=some v->∃ x t,ns[j]?=some x/\v=.str x t:=λ j v aM=>by
   obtain ⟨key,x,m,av⟩:=h.2 j v (by rw [<-Array.getElem?_toList];exact aM);have ai:(ns.map cc)[j]?=some key:=by rw [<-ay,dg,m];rfl
   rw [dg] at ai;obtain ⟨y,r,e⟩:=tC.mp ai;subst e;rcases lO (show pb (cc y) v=.t from av) with ⟨i,t,e,_⟩|⟨z,t,e,rfl⟩
   ·cases e
   ·cases e;exact #[y,t,r,Y]
  have g:StrsAre acc.toList ns:=by
   have af:=strsAre_map acc.toList λ v aM=>by
    obtain ⟨j,a⟩:=g6 aM;obtain ⟨x,t,_,e⟩:=at' j v a;exact #[x,t,e]
   have e:acc.toList.map strOf=ns:=by
    apply q6;intro j;rw [dg];cases a:acc.toList[j]? with
    | some v =>
     obtain ⟨x,t,m,rfl⟩:=at' j v a;rw [m];rfl
    | none =>
     have:=List.getElem?_eq_none_iff.mp a;rw [kz .ak];rfl
   rw [e] at af;exact af
  have n:acc.toList.length<64:=by omega
  have c:(af.push (seqObj "list" acc.toList.toArray 0)).get? af.objs.size=some (seqObj "list" acc.toList.toArray 0):=cN _ rfl;refine az (eS (iD slot_list_sort #[_,c,Y] entry_list_sort (list_sort_treeK strKind_oneLt c g.keysOf (λ v₁ v₂ rest e=>keyKind_strs (by rw [<-e];exact g)) n λ I ar aA=>#[_,Y,bl #[_,Y,?_]]) (args_list_sort _)));obtain ⟨ms,B,C,D⟩:=sorted_out_str g ar aA;obtain ⟨e,he⟩:=sortedHeap_at c;exact k _ t1 af.objs.size _ e ms (λ f bQ y=>(sortedHeap_old (cR (bZ (k1 f bQ y))) (by rw [fj];exact mH (bZ (k1 f bQ y)))).trans (bo _ (k1 f bQ y))) (vY u) B C D he
 ·rw [eV,h.1,l,b8];omega
end
end zb
namespace bt
open PySem PySem.Spec PyProof.Rows
section
variable {X:a5}
theorem Lo (h:StrsAre vs ns):Vals (ns.map V.str) vs:=by
 induction h with
 | nil=>exact .nil
 | cons n t h a=>exact .cons #[t,Y] a
theorem abb (c:X.calm=.t):dG X (.builtin "sorted") (λ xs H Q=>∃ (d:Addr) (kvs:List (Key×V)) (ns:b2),xs=[V.ref d]/\H d=some (.bW kvs)/\kvs.map (·.1)=ns.map cc/\ns.length<64/\∀ ms,ms.Perm ns->sortedS ms=.t->e7 (.lst (ms.map V.str)) H Q):=by
 intro pins s σ H xs us Q I r h;obtain ⟨d,kvs,ns,rfl,hd,ay,b,q⟩:=h;obtain ⟨u,rfl,i⟩:=vals1 r;cases i;obtain ⟨_,lo,vs,rel,dd⟩:=qN I.aS hd;refine zb.LZ (I.ok.hd.1 c) lo dd (by rw [<-rel.keys];exact ay) b λ k l g out e ms old ge f pm j a=>?_
 refine #[.ref g,_,I.laid old ge (show eg X.prog X.w _ _ _ (.lst (ms.map V.str)) from #[?_,out.toList,e,Lo f,?_]),Y,(q ms pm j).at _ (I.aS.fresh ge)]
 ·rw [bb,pm.length_eq,b8];omega
 ·exact a
theorem VN (g:X.A.units+1<cLine):cQ X (compareOp .NotEq) (λ x y H Q=>∃ (a b:Addr) (xs:bj),x=.ref a/\y=.ref b/\H a=some (.lst xs)/\H b=some (.lst xs)/\(∀ x∈xs,sP x=.t)/\Q (.aJ .f) H):=by
 intro pins s σ H x y v u Q I t z h;obtain ⟨a,b,xs,rfl,rfl,au,ae,aA,q⟩:=h;cases t;cases z;obtain ⟨_,c,n,e,B,p⟩:=I.fQ au;obtain ⟨_,d,o,cU,C,r⟩:=I.fQ ae;have l:s.heap.IsList a c.toArray:=#[_,p,Y,n,Y]
 have m:s.heap.IsList b d.toArray:=#[_,r,Y,o,Y]
 have i:=e.length;have k:=cU.length;have f:c.toArray.size=d.toArray.size:=by rw [dj,dj,<-i,<-k]
 have:=SeqAt.RcNeAt.lists l m f (pn g) λ j af ai=>KO aA e cU j af ai
 rw [show (!((List.range c.toArray.size).all λ Z=>.t))=.f by
   rw [Bool.not_eq_false'];rw [gp];intro _ _;rfl] at this
 exact this X.prog X.w _ _ #[.aJ .f,H,I,Y,q]
end
open PySem PySem.Spec PyProof.Rows cb
section
variable {X:a5}
theorem ZA:dG X (.type "dict") (λ xs H Q=>∃ (d:Addr) (kvs:List (Key×V)),xs=[V.ref d]/\c8 H d (.bW kvs)/\e7 (.bW kvs) H Q):=by
 intro pins s σ H xs us Q I r h;obtain ⟨d,kvs,rfl,hd,q⟩:=h;obtain ⟨u,rfl,a⟩:=vals1 r;cases a;obtain ⟨z,lo,vs,rel,dd⟩:=mC I.aS hd;refine kt_call_dict lo dd (by rw [<-rel.length];exact z) λ h' ju c=>?_
 have old:∀ b o,s.heap.get? b=some o->h'.get? b=some o:=λ b o y=>c.extBut _ _ (cR (bZ y)) (bo _ y)
 have big:(s.heap.objs.size==sysModules)=.f:=by
  have:=I.big;rw [nN];exact hq this
 exact #[.ref s.heap.objs.size,_,I.laid old (bL _) (Bg z big rel ju),Y,q.at _ (I.aS.fresh (bL _))]
theorem CV (b:X.A.units+1<cLine):cQ X (compareOp .NotIn) (λ y x H Q=>∃ (n:Str) (d:Addr) (kvs:List (Key×V)),y=.str n/\x=.ref d/\c8 H d (.bW kvs)/\Q (.aJ (!(b7 kvs (cc n)).isSome)) H):=by
 intro pins s σ H y x u v Q I e c h;obtain ⟨n,d,kvs,rfl,rfl,hd,q⟩:=h;cases c;exact HG b I (.inl #[kvs,cc n,hd,Y,Y]) e λ s3 a=>#[.aJ _,H,a,Y,q]
inductive FV (Q:cj) (x y:V) (ao:aC):Prop
 |mk (d:Addr) (n:Str) (kvs:List (Key×V)) (v:V):x=.ref d->y=.str n->c8 ao d (.bW kvs)->b7 kvs (cc n)=some v->Q v ao->FV Q x y ao
def WI (a ty:TE):TE:=λ σ H Q=>a σ H λ x H1=>ty σ H1 λ y ao=>FV Q x y ao
theorem Ke (f:X.A.units+1<cLine) (e:a7 X o m) (av:a7 X i ty) (aA:vz i):a7 X (.Subscript o i pos) (WI m ty):=#[by
 intro pins s σ H Q I h;refine B2 BA.lookup aA (a8 (e.o pins s σ H _ I h) ?_);rintro u s1 ⟨x,H1,b,k,aO⟩;refine a8 (av.o pins s1 σ H1 _ b aO) ?_;rintro p s2 ⟨y,ao,a,l,j⟩;obtain ⟨d,n,kvs,v,rfl,rfl,hd,aM,q⟩:=j;obtain rfl:u=Value.ref d:=k;have g:hO ao d (.str n) (some v):=.inl #[kvs,cc n,hd,Y,aM.symm];exact #[C0 a g,Cz f a g l λ cm s3 c cU=>#[v,ao,c,cU,q]]]
theorem xp:dG X (.builtin "len") (λ xs H Q=>∃ (d:Addr) (kvs:List (Key×V)),xs=[V.ref d]/\c8 H d (.bW kvs)/\Q (.int kvs.length) H):=by
 intro pins s σ H xs us Q I r h;obtain ⟨d,kvs,rfl,hd,q⟩:=h;obtain ⟨u,rfl,b⟩:=vals1 r;cases b;exact Gl I hd λ t s' a=>#[.int _,H,a,#[t,Y],q]
theorem Dd (c:X.calm=.t):dG X (.builtin "sorted") (λ xs H Q=>∃ (d:Addr) (kvs:List (Key×V)) (ns:b2),xs=[V.ref d]/\c8 H d (.bW kvs)/\kvs.map (·.1)=ns.map cc/\ns.length<64/\∀ ms,ms.Perm ns->sortedS ms=.t->e7 (.lst (ms.map V.str)) H Q):=by
 intro pins s σ H xs us Q I r h;obtain ⟨d,kvs,ns,rfl,hd,ay,b,q⟩:=h;obtain ⟨u,rfl,i⟩:=vals1 r;cases i;obtain ⟨_,lo,vs,rel,dd⟩:=mC I.aS hd;refine zb.LZ (I.ok.hd.1 c) lo dd (by rw [<-rel.keys];exact ay) b λ k l g out e ms old ge f pm j a=>?_
 refine #[.ref g,_,I.laid old ge (show eg X.prog X.w _ _ _ (.lst (ms.map V.str)) from #[?_,out.toList,e,Lo f,?_]),Y,(q ms pm j).at _ (I.aS.fresh ge)]
 ·rw [bb,pm.length_eq,b8];omega
 ·exact a
end
end bt
namespace cA
section
variable {α β: Type} [DecidableEq α]
noncomputable def df (b:List (α×β)) (x : α):Option β := (b.find? λ p=>decide (p.1=x)).map (·.2)
noncomputable def fR (b:List (α×β)) (x : α) (e : β):List (α×β):=if (b.any λ p=>decide (p.1=x))=.t then b.map (λ p=>if p.1=x then (p.1,e) else p) else b++[(x,e)]
noncomputable def fS (b:List (α×β)) (x : α):List (α×β):=b.filter λ p=>decide (p.1≠x)
noncomputable abbrev dR (b:List (α×β)):List α := b.map (·.1)
theorem rA {p: α×β} {b:List (α×β)} {x: α}:df (p::b) x=if p.1=x then some p.2 else df b x:=by
 unfold df;rw [pL];by_cases h:p.1=x
 ·rw [bP h,if_pos h];rfl
 ·rw [cK h,if_neg h]
theorem xr {b:List (α×β)} {x: α}:df b x=.n ↔ x∉dR b:=by
 induction b with
 | nil=>exact #[λ Z h=>by simp at h,λ Z=>rfl]
 | cons p b a =>
  rw [rA];by_cases h:p.1=x
  ·rw [if_pos h];simp [h]
  ·rw [if_neg h,a];simp only [dR,fv,b5,not_or];exact #[λ z=>#[λ e=>h e.symm,z],λ z=>z.2]
theorem pZ {b:List (α×β)} {x: α} {e: β} (h:df b x=some e):(x,e)∈b:=by
 induction b with
 | nil=>cases h
 | cons p b a =>
  rw [rA] at h;by_cases ar:p.1=x
  ·rw [if_pos ar] at h;cases h;rw [<-ar];exact dI
  ·rw [if_neg ar] at h;exact dJ _ (a h)
theorem Cb {b:List (α×β)} (cD:(dR b).Nodup) {x: α} {e: β} (h:(x,e)∈b):df b x=some e:=by
 induction b with
 | nil=>cases h
 | cons p b d =>
  rw [rA];have a:=mK.mp cD;rcases b5.mp h with z|z
  ·subst z;rw [if_pos rfl]
  ·rw [if_neg (λ c=>a.1 (show p.1∈_ by rw [c];exact mS z))];exact d a.2 z
theorem any_keys {b:List (α×β)} {x: α}:(b.any λ p=>decide (p.1=x))=.t ↔ x∈dR b:=by
 rw [List.any_eq_true];constructor
 ·rintro ⟨p,ar,e⟩;rw [<-cM e];exact mS ar
 ·intro h;obtain ⟨p,ar,e⟩:=c0.mp h;exact #[p,ar,bP e]
theorem rh {b:List (α×β)} {x: α} {e: β} (h:x∈dR b):fR b x e=b.map (λ p=>if p.1=x then (p.1,e) else p):=if_pos (any_keys.mpr h)
theorem pX {b:List (α×β)} {x: α} {e: β} (h:x∉dR b):fR b x e=b++[(x,e)]:=if_neg λ z=>h (any_keys.mp z)
theorem keys_map {b:List (α×β)} {x: α} {e: β}:dR (b.map (λ p=>if p.1=x then (p.1,e) else p))=dR b:=by
 show List.map _ (List.map _ b)=_;rw [fa];refine q1 λ p Z=>?_
 show (if p.1=x then (p.1,e) else p).1=p.1;split<;>rfl
theorem KX {b:List (α×β)} (cD:(dR b).Nodup) (x : α) (e : β):(dR (fR b x e)).Nodup:=by
 by_cases h:x∈dR b
 ·rw [rh h,keys_map];exact cD
 ·rw [pX h];show (List.map _ (b++[(x,e)])).Nodup;rw [ht,List.nodup_append];refine #[cD,.zs,λ a au c d z=>?_];have:c=x:=by simpa using d
  subst z;rw [this] at au;exact h au
theorem aaq {b:List (α×β)} (cD:(dR b).Nodup) (x : α):(dR (fS b x)).Nodup:=cD.sublist (List.filter_sublist.map _)
theorem JW {b:List (α×β)} {x: α} (h:x∉dR b):fS b x=b:=List.filter_eq_self.mpr λ p ar=>bP λ z=>h (by rw [<-z];exact mS ar)
theorem xt {b c:List (α×β)} (h:b.Perm c) (cD:(dR b).Nodup) (x : α):df b x=df c x:=by
 have a:=(h.map _).nodup_iff.mp cD;cases e:df b x with
 | none =>
  have:=xr.mp e;exact (xr.mpr λ z=>this ((h.map (·.1)).mem_iff.mpr z)).symm
 | some v=>exact (Cb a (h.mem_iff.mp (pZ e))).symm
theorem CN {b c:List (α×β)} (h:b.Perm c) (x : α) (e : β):(fR b x e).Perm (fR c x e):=by
 by_cases a:x∈dR b
 ·rw [rh a,rh ((h.map (·.1)).mem_iff.mp a)];exact h.map _
 ·rw [pX a,pX λ z=>a ((h.map (·.1)).mem_iff.mpr z)];exact h.append_right _
theorem KN {b c:List (α×β)} (h:b.Perm c) (x : α):(fS b x).Perm (fS c x):=h.filter _
theorem X0 {b:List (α×β)} (cD:(dR b).Nodup) {x: α} {e c: β} (h:df b x=some c):fR (fR b x e) x c=b:=by
 have d:=mS (f:=(·.1)) (pZ h);rw [rh d,rh (by rw [keys_map];exact d),fa]
 conv=>rhs;rw [<-List.map_id b]
 refine q1 λ p ar=>?_
 by_cases a:p.1=x
 ·have af:=Cb cD (show (x,p.2)∈b by rw [<-a];exact ar);rw [h] at af;cases af;show (if (if p.1=x then (p.1,e) else p).1=x then ((if p.1=x then (p.1,e) else p).1,p.2) else (if p.1=x then (p.1,e) else p))=p;rw [if_pos a,if_pos a]
 ·show (if (if p.1=x then (p.1,e) else p).1=x then ((if p.1=x then (p.1,e) else p).1,c) else (if p.1=x then (p.1,e) else p))=p;rw [if_neg a,if_neg a]
theorem X1 {b:List (α×β)} {x: α} {e: β} (h:df b x=.n):fS (fR b x e) x=b:=by
 have a:=xr.mp h;rw [pX a];unfold fS;rw [List.filter_append,List.filter_cons_of_neg .zs,List.filter_nil,nQ];exact JW a
theorem YF {b:List (α×β)} (cD:(dR b).Nodup) {x: α} {c: β} (h:df b x=some c):(fR (fS b x) x c).Perm b:=by
 have j:x∉dR (fS b x):=λ z=>by
  obtain ⟨p,ar,e⟩:=c0.mp z;have:=(hp.mp ar).2;exact absurd e (cM this)
 rw [pX j]
 induction b with
 | nil=>cases h
 | cons p b k =>
  have d:=mK.mp cD;rw [rA] at h;by_cases ar:p.1=x
  ·rw [if_pos ar] at h;cases h;have g:x∉dR b:=by rw [<-ar];exact d.1
   have a:fS (p::b) x=b:=by
    unfold fS;rw [List.filter_cons_of_neg (by simp [ar])];exact JW g
   rw [a];have f:(x,p.2)=p:=by rw [<-ar]
   rw [f];exact List.perm_append_singleton _ _
  ·rw [if_neg ar] at h;have a:fS (p::b) x=p::fS b x:=by
    unfold fS;rw [List.filter_cons_of_pos (by exact bP ar)]
   rw [a];exact (k d.2 h (λ z=>by
    obtain ⟨q,i,e⟩:=c0.mp z;exact absurd e (cM (hp.mp i).2))).cons p
end
open PySem PySem.Spec PyProof.Rows
theorem WA (h:cn x=cn y):x=y:=by
 cases x;cases y;congr 1;exact wt.mp h
theorem CY:∀ l p,risingS p l=.t->∀ y∈l,cn p<=cn y
 | [],_,_,_,h=>by cases h
 | x::r,p,h,y,a=>by
  have h':(!ltCps x.cps.toList p.cps.toList&&risingS x r)=.t:=h;rw [eX,Bool.not_eq_true',ltCps_eq,decide_eq_false_iff_not] at h';have af:=h'.1;rcases b5.mp a with z|z
  ·rw [z];exact af
  ·exact List.le_trans af (CY r x h'.2 y z)
theorem L0 (h:sortedS (x::r)=.t):sortedS r=.t:=by
 cases r with
 | nil=>rfl
 | cons y r =>
  have h':=h;exact (tK.mp h').2
theorem Lb:∀ {a b:b2},sortedS a=.t->sortedS b=.t->a.Perm b->a=b
 | [],b,_,_,h=>(List.Perm.nil_eq h)
 | x::r,[],_,_,h=>by have:=h.length_eq;simp at this
 | x::r,y::s,au,ae,h=>by
  have e:x=y:=by
   apply WA;have af:cn x<=cn y:=by
    rcases b5.mp (h.mem_iff.mpr (dI)) with z|z
    ·rw [z];exact List.le_refl _
    ·exact CY r x au y z
   have ai:cn y<=cn x:=by
    rcases b5.mp (h.mem_iff.mp (dI)) with z|z
    ·rw [z];exact List.le_refl _
    ·exact CY s y ae x z
   exact List.le_antisymm af ai
  subst e;rw [Lb (L0 au) (L0 ae) h.cons_inv]
section
variable {α β: Type} [DecidableEq α]
noncomputable def pk (b:List (α×β)) (x : α):Option β -> List (α×β)
 | none=>fS b x
 | some e=>fR b x e
theorem Lm {b c:List (α×β)} (h:b.Perm c) (x : α):∀ w:Option β,(pk b x w).Perm (pk c x w)
 | none=>KN h x
 | some e=>CN h x e
theorem Ip {b c:List (α×β)} (cD:(dR b).Nodup) {x: α} {e: β} (h:c.Perm (fR b x e)):(pk c x (df b x)).Perm b:=by
 refine (Lm h x _).trans ?_;cases a:df b x with
 | none =>
  show (fS (fR b x e) x).Perm b;rw [X1 a]
 | some d =>
  show (fR (fR b x e) x d).Perm b;rw [X0 cD a]
theorem Yl {b c:List (α×β)} (cD:(dR b).Nodup) {x: α} {d: β} (a:df b x=some d) (h:c.Perm (fS b x)):(pk c x (df b x)).Perm b:=by
 rw [a];exact (Lm h x _).trans (YF cD a)
end
end cA
namespace cb
open PySem bt
structure om (K:aT) (R:Addr->Prop) (m q:Str) (st:Stmt) (ag:b2) where
 f:Addr
 fd:FuncData
 fn:gy K m q st f fd
 at_:R f
 bd:Binds K fd ag []
abbrev b9 (K) (mg:Str->cE) (x) (st) (ag):=om K (λ f=>mg x=some (.ref f)) x x st ag
abbrev jt (K) (C) (m q) (st) (ag):=om K (Meth K C m) m q st ag
abbrev za (K) (C) (q) (st) (ag):=om K (qa K C) "__init__" q st ag
abbrev b4 (P:Program) (w:World) (mg:Str->cE) (base:Heap) (cx:kb) (k:Nat) {K:aT} {R:Addr->Prop} {m q:Str} {st:Stmt} {ag:b2} (D:om K R m q st ag) (sp:bz):Prop:=dO P w K mg base cx k D.f D.fd ag sp
abbrev iP (P:Program) (w:World) (mg:Str->cE) (base:Heap) (k:Nat) {K:aT} {R:Addr->Prop} {m q:Str} {st:Stmt} {ag:b2} (D:om K R m q st ag) (sp:bz):Prop:=qM P w K mg base k D.f D.fd ag sp
theorem bV (h:bF N P sc:=by exact #[Y,Y,Y,by decide +kernel,Y,by decide +kernel,by decide +kernel]):bF N P sc:=h
section
variable {K:aT} {mg:Str->cE} {h:Heap} {x m q p p1 eE l1 qh:Str} {st:Stmt} {ag:b2} {C F D f:Addr}
def x5 (x q:Str) (st:Stmt) (ag:b2):Prop:=∀ (c_ doc pm) an (a0 cG) us,us.length=ag.length->bindArgs (PySem.W.fnOf x q (pQ st) (jR st) (bk st) .none c_ doc pm an a0 cG) ⟨us,[]⟩=pure (ag.zip us)
theorem len0 {us:List Value} (h:us.length=0):us=[]:=List.length_eq_zero_iff.mp h
theorem S2 {us:List Value} (h:us.length=n+1):∃ u vs,us=u::vs/\vs.length=n:=by
 cases us with
 | nil=>cases h
 | cons u vs=>exact #[u,vs,Y,Nat.succ.inj h]
def oo (K:aT) (x:Str) (st:Stmt):Prop:=∃ f fd,PySem.W.nsIn K mainGlobals x=some (some (.ref f))/\gy K x x st f fd
theorem oo.mk {c_:Value} (a:PySem.W.nsIn K mainGlobals x=some (some (.ref f))) (l:K.lookup f=some ⟨fs,cZ,.func (PySem.W.fnOf x x (pQ st) (jR st) (bk st) .none c_ doc pm an cd cG),cB⟩)
  (c:PySem.W.codeIn K cd x=.t) (k:PySem.W.keepIn K (.ref f)=.t):oo K x st:=#[f,_,a,Bi l c k]
noncomputable def oo.dd (g:oo K x st) (X:K.In h) (G:h.Ns mainGlobals mg) (b:x5 x x st ag):b9 K mg x st ag :=
 Classical.choice (let ⟨f,fd,a,F⟩:=g;⟨⟨f,fd,F,PySem.W.mg_of X G a,F.binds b⟩⟩)
def m6 (K:aT) (C:Addr) (m q:Str) (st:Stmt):Prop:=∃ f fd,PySem.W.findIn K (.ref C) m=some (some (.ref f))/\gy K m q st f fd/\PySem.W.isFn K (.ref f)=.t
theorem m6.mk {c_:Value} (a:PySem.W.findIn K (.ref C) m=some (some (.ref f))) (l:K.lookup f=some ⟨fs,cZ,.func (PySem.W.fnOf m q (pQ st) (jR st) (bk st) .none c_ doc pm an cd cG),cB⟩)
  (c:PySem.W.codeIn K cd q=.t) (k:PySem.W.keepIn K (.ref f)=.t) (i:PySem.W.isFn K (.ref f)=.t):m6 K C m q st:=#[f,_,a,Bi l c k,i]
noncomputable def m6.O2 (g:m6 K C m q st) (b:x5 m q st ag):jt K C m q st ag :=
 Classical.choice (let ⟨f,fd,a,F,i⟩:=g;⟨⟨f,fd,F,⟨a,i,F.aW⟩,F.binds b⟩⟩)
noncomputable def m6.O3 (g:m6 K C "__init__" q st) (c:PySem.W.makesIn K C=.t) (k:PySem.W.keepIn K (.ref C)=.t) (b:x5 "__init__" q st ag):za K C q st ag :=
 Classical.choice (let ⟨f,fd,a,F,i⟩:=g;⟨⟨f,fd,F,⟨c,a,i,k⟩,F.binds b⟩⟩)
def KF (K:aT) (C D:Addr) (b:Bool):Prop:=PySem.W.kitOne K (.ref C) (.ref D)=some b
end
end cb
namespace bt
open PySem PySem.Spec PyProof.Rows
section
variable {X:a5} {cx:kb} {k dN:Nat} {R:Addr->Prop} {m q:Str} {st:Stmt} {ag:b2} {sp:bz} {E:dZ} {x:Str} {p pos:Pos} {e:Expr} {ah:List Expr} {t:dh}
theorem a4 {D:cb.om X.K (λ f=>X.mg x=some (.ref f)) m q st ag} (F:dO X.prog X.w X.K X.mg X.base cx k D.f D.fd ag sp) (c:c6 dN X.A) (d:Passes cx X E) (au:dM X (e::ah) t) (b:cI X x:=by rfl) (ay:k<=dN:=by decide) (a:(x==("__debug__" : Str))=.f:=by decide) (he:starEach (e::ah) X.env=(.f,eval e X.env)::starEach ah X.env:=by rfl) (cu:(backTo pos (starEach ah X.env)).any (·.1)=.f:=by rfl):a7 X (.Call (.Name x p) (e::ah) [] pos) (nK sp [] E t) :=
 Wh F (c.mono ay) b D.at_ D.fn.aW D.bd .nil d au a he cu
theorem wd {D:cb.om X.K (λ f=>X.mg x=some (.ref f)) m q st ag} (F:dO X.prog X.w X.K X.mg X.base cx k D.f D.fd ag sp) (c:c6 dN X.A) (d:Passes cx X E) (b:cI X x:=by rfl) (ay:k<=dN:=by decide) (a:(x==("__debug__" : Str))=.f:=by decide):a7 X (.Call (.Name x p) [] [] pos) (nK sp [] E lj) :=
 X4 F (c.mono ay) b D.at_ D.fn.aW D.bd .nil d a
theorem ba (i) (S:bF X.N P sc) (he:a7 X e bx) (av:X.N[i]?=some x:=by rfl) (a:Loc X.env.scope x:=by exact Or.inl Y) (aA:swapsWith e (some (.Name x pos')) pos.line X.env=pure .f:=by rfl) (hf:X.fn x=.t\/X.env.scope.names.lookup x=some .local:=by first|exact .inl Y|exact .inr Y|assumption):e0 X (.Assign [.Name x pos'] e pos) (mA bx (e8 i)) :=
 tr S.cD av a he aA hf
theorem cH (i) (S:bF X.N P sc) (av:X.N[i]?=some x:=by rfl) (a:Loc X.env.scope x:=by exact Or.inl Y) (hf:X.fn x=.t\/X.env.scope.names.lookup x=some .local:=by first|exact .inl Y|exact .inr Y|assumption):jf X (.Name x pos) (e8 i) :=
 iF S.cD av a hf
theorem bR {id:String} (a:dG X (.builtin id) r) (hm:X.mg x=.n) (aM:bootBuiltins x=some (.builtin id)) (au:dM X (e::ah) t) (c:cI X x:=by rfl) (aB:x ≠ "__name__" := by decide) (b:(x==("__debug__" : Str))=.f:=by decide) (he:starEach (e::ah) X.env=(.f,eval e X.env)::starEach ah X.env:=by rfl) (cu:(backTo pos (starEach ah X.env)).any (·.1)=.f:=by rfl):a7 X (.Call (.Name x p) (e::ah) [] pos) (qA r t) :=
 X5 a c hm aM au aB b he cu
theorem dv (a:dG X (.type T) r) (hm:X.mg x=.n) (aM:bootBuiltins x=some (.type T)) (au:dM X (e::ah) t) (c:cI X x:=by rfl) (aB:x ≠ "__name__" := by decide) (b:(x==("__debug__" : Str))=.f:=by decide) (he:starEach (e::ah) X.env=(.f,eval e X.env)::starEach ah X.env:=by rfl) (cu:(backTo pos (starEach ah X.env)).any (·.1)=.f:=by rfl):a7 X (.Call (.Name x p) (e::ah) [] pos) (qA r t) :=
 Zc a c hm aM au aB b he cu
theorem d1 (a:decide X.N.Nodup=.t:=by kernel_rfl) (av:X.N[0]?=some x:=by rfl) (b:Loc X.env.scope x:=by exact Or.inl Y) (hf:X.fn x=.t\/X.env.scope.names.lookup x=some .local:=by exact Or.inr Y):jf X (.Name x pos) (e8 0) :=
 iF (cM a) av b hf
theorem dp (_:bF a P b) (g:∀ p∈cl,X.env.cells.lookup p.1=some p.2) (f:X.env.scope=b:=by exact Y) (o1:closureFor sc X.env=pure cl:=by exact Y) (ay:cl.map (·.1)=Ax sc:=by exact Y) (c:BI sc b N a js=.t:=by decide +kernel) (d:X.N=a:=by exact Y):nR X sc cl N js :=
 YA f o1 ay g c d
end
theorem bI {n:Nat} (h:Nat.ble n 16777216=.t:=by rfl):n<=sizeLine:=by rw [b8];exact Nat.le_of_ble_eq_true h
open PySem PySem.Spec PyProof.Rows PyProof.Rows.KTD cb
noncomputable def A0 (K:aT) (ss:b2):Value->Bool
 | .ref a=>match K.lookup a with
  | some o=>o.cls==.type "tuple" && (match o.data with| .seq vs _=>strsLook vs.toList ss|_=>.f)
  | none=>.f
 | _=>.f
def Fv (K:aT) (a:Addr) (D:List (Str×b2)):Prop:=tabLook (A0 K) (λ b=>K.lookup b) a D=.t
def Sg (K:aT) (ss:b2) (v:Value):Prop:=∃ a,v=.ref a/\∀ H,aL K H a (ss.map V.str)
theorem Lp:∀ {vs:List Value} {ss:b2},strsLook vs ss=.t->Vals (ss.map V.str) vs
 | [],[],_=>.nil
 | [],_::_,h=>by simp [strsLook] at h
 | v::vs,[],h=>by cases v<;>simp [strsLook] at h
 | v::vs,s::ss,h=>by
  cases v with
  | str x t =>
   have h':(x==s&&strsLook vs ss)=.t:=h;rw [eX] at h';obtain rfl:=i2.mp h'.1;exact .cons #[t,Y] (Lp h'.2)
  | _=>simp [strsLook] at h
theorem Ww {K:aT} (ss) (v) (d:ss.length<=sizeLine) (h:A0 K ss v=.t):Sg K ss v:=by
 cases v with
 | ref a =>
  refine #[a,Y,λ H=>?_];have h':(match K.lookup a with|some o=>o.cls==.type "tuple" && (match o.data with| .seq vs _=>strsLook vs.toList ss|_=>.f)|none=>.f)=.t:=h;cases c:K.lookup a with
  | none=>rw [c] at h';cases h'
  | some o =>
   rw [c] at h';have ai:=tK.mp h';cases hd:o.data with
   | seq vs n =>
    have b:=ai.2;rw [hd] at b;have aM:=Lp b;refine .inr #[o,vs,n,c,i2.mp ai.1,hd,?_,aM];have:=aM.length;rw [bb] at this;rw [<-eV];omega
   | _=>have b:=ai.2;rw [hd] at b;cases b
 | _=>cases h
section
variable {prog:Program} {w:World} {A:Around} {E:dc} {s:Shared} {a:Addr} {k:Str} {a6:Tok} {R:b2->Value->Prop} {D:List (Str×b2)}
theorem YE (T:TabOf R s.heap a D)
  (aO:∀ d v,datumAt k D=some d->R d v->Q (some v) { s with toks:=s.toks+1 }) (j:datumAt k D=.n->Q .n { s with toks:=s.toks+1 }):wpAny (model prog w) A (dictGet a (.str k a6)) Q E s:=by
 obtain ⟨-,o,ah,m,f,-,hd,c⟩:=T;have fin:Q ((ah.toList.find? λ e=>e.key.isStr k).map (·.val)) { s with toks:=s.toks+1 }:=by
  rcases b:datumAt k D with _|d
  ·rw [c.find_none b];exact j b
  ·obtain ⟨v,aM,h⟩:=c.find_some b;rw [aM];exact aO d v b h
 have ex:(ah.all λ e=>isExactStrKey e.key)=.t:=by
  have:=c.exact;cases ah with
  | mk l=>simpa using this
 have g:(ah.toList.find? λ e=>e.key.isStr k).map (·.val)=findBy (λ k v=>v.isStr k) ah k:=by
  cases ah with
  | mk l=>simp [findBy]
 rw [g,findBy_of_findIdx?] at fin
 refine az ?_
 refine wpAny_pyHash_str (az (kt_dictFind_strs f hd ex ?_));cases av:ah.findIdx? (λ e=>e.key.isStr k) with
 | none =>
  rw [av] at fin;exact bl fin
 | some i =>
  rw [av] at fin;exact az (wpAny_dictEntries f hd (bl fin))
end
theorem ZX {D:List (Str×b2)}:MeetsIn prog w (Builtin.«dict.get» ⟨[.ref a,.str k a6],[]⟩) (λ X Z s=>TabOf R s.heap a D/\(∀ d v,datumAt k D=some d->R d v->Z (.ok (.ret v)) { s with toks:=s.toks+1 }) /\
  (datumAt k D=.n->Z (.ok (.ret .none)) { s with toks:=s.toks+1 })):=.of_wp λ A Z s ⟨T,aO,c⟩=>by
 show wpAny _ _ (dictGet a (.str k a6)>>=_) _ _ s;refine az (YE T (λ d v hd b=>bl #[v,Y,aO d v hd b]) λ aB=>?_);refine az (wpAny_missed_other T.1 ?_);exact bl #[.none,Y,c aB]
section
variable {X:a5} {g:Str} {a:Addr} {D:List (Str×b2)} {e:Expr} {ah:List Expr} {t:dh} {p apos cF:Pos}
theorem Ly:∀ {D:List (Str×b2)},datumAt x D=some d->∃ y,(y,d)∈D
 | [],h=>by cases h
 | (y,b)::D,h=>by
  by_cases c:x=y
  ·rw [show datumAt x ((y,b)::D)=some b from if_pos (bP c)] at h;cases h;exact #[y,dI]
  ·rw [show datumAt x ((y,b)::D)=datumAt x D from if_neg (by simp [c])] at h;obtain ⟨z,f⟩:=Ly h;exact #[z,dJ _ f]
def WK (K:aT) (D:List (Str×b2)) (t:dh):TE:=λ σ H Q=>t σ H λ vs H1=>∃ x,vs=[.str x] /\
 ((∃ ss,datumAt x D=some ss/\∀ t,(∀ H',aL K H' t (ss.map V.str))->Q (.ref t) H1)\/(datumAt x D=.n/\Q .aX H1))
theorem Zd (hm:X.mg g=some (.ref a)) (aQ:Fv X.K a D) (au:dM X (e::ah) t) (G:∀ d∈D,d.2.length<=1000:=by decide) (A:cI X g:=by rfl) (r:(g==("__debug__" : Str))=.f:=by decide)
  (n:attributeBase (.Name g p) "get" X.env (eval (.Name g p) X.env)=eval (.Name g p) X.env:=by rfl)
  (w:((backTo cF (starEach (e::ah) X.env)).all (λ x=> !x.1)&&(backToKw cF (keywordEach [] X.env)).all (λ x=>x.1.isSome)
   && decide ((e::ah).length+([]:List Keyword).length+(if ([]:List Keyword).isEmpty then 0 else 1)<30))=.t:=by rfl)
  (B:(apos.endLine==cF.line)=.t:=by rfl) (aA:starEach (e::ah) X.env=(.f,eval e X.env)::starEach ah X.env:=by rfl) (C:(backTo cF (starEach ah X.env)).any (·.1)=.f:=by rfl) :
  a7 X (.Call (.Attribute (.Name g p) "get" apos) (e::ah) [] cF) (WK X.K D t):=#[by
 intro pins s σ H Q I h;have T:∀ {s:Shared} {σ:St} {H:aC},Inv X pins σ H s->TabOf (λ ss v=>A0 X.K ss v=.t) s.heap a D:=λ {s σ H} I=>tab_of_look (λ Z Z z=>z) (λ b o q=>I.cT b o q) aQ
 have ty:∀ {s:Shared} {σ:St} {H:aC},Inv X pins σ H s->s.TypeIs (.ref a) "dict" := λ {s σ H} I=>let ⟨_,o,_,_,j,i,_⟩:=T I;⟨o,j,i.1⟩
 refine Bt n w B Y (jS I A hm ?_ r);refine #["dict", "dict.get", tL,q4,BE,ty I,λ b m=>?_,?_]
 ·cases m;exact let ⟨_,o,_,_,j,i,_⟩:=T I;⟨o,j,i.2.1⟩
 have k:=au.o cF pins s σ H _ I h;rw [aA] at k ⊢;refine wo (by show (.f||(backTo cF (starEach ah X.env)).any (·.1))=.f;rw [C]<;>rfl) (tw ?_);refine a8 k ?_;rintro us s2 ⟨vs,ao,f,J,x,ev,l⟩
 subst ev;obtain ⟨u,rfl,L⟩:=J.one;obtain ⟨a6,rfl⟩:=L
 refine tD q4 (ty f) BC (PySem.F.args_dict_get_2 _ _) ZX #[T f,λ d v hd ay=>?_,λ aB=>?_]
 ·rcases l with ⟨ss,c,q⟩|⟨c,_⟩
  ·rw [hd] at c;cases c;obtain ⟨y,E⟩:=Ly hd;obtain ⟨b,rfl,ae⟩:=Ww d v (dT (G _ E) .aw) ay;exact #[.ref b,ao,f.tok _,Y,q b ae]
  ·rw [hd] at c;cases c
 ·rcases l with ⟨ss,c,_⟩|⟨_,q⟩
  ·rw [aB] at c;cases c
  ·exact #[.aX,ao,f.tok _,Y,q]]
end
theorem H7 (ae:∀ pins W,f7 (iC X pins W) body aQ):e0 X (.Try body (h0::aA) [] [] pos) aQ:=#[by
 intro pins s σ H D I h;refine wpAny_Try_except (eU ((ae pins _).o [] s σ H D I.s_ h) (λ f s1 c=>?_) λ Z Z z=>z);cases f with
 | next=>obtain ⟨σ3,a,b,q⟩:=c;exact px #[σ3,a,b.fm,q]
 | brk=>obtain ⟨σ3,a,b,q⟩:=c;exact #[σ3,a,b.fm,q]
 | cont=>obtain ⟨σ3,a,b,q⟩:=c;exact #[σ3,a,b.fm,q]
 | ret u=>obtain ⟨v,σ3,a,b,d,q⟩:=c;exact #[v,σ3,a,b.fm,d,q]]
def TY (b:Str) (aP:TE) (y:Str) (aQ:TE):TE:=λ σ H Q=>aP σ H λ x H1=>∃ a,s6 x a/\aQ σ H1 λ z ao=>∃ fN,s6 z fN/\Q (.str (b++a++y++fN)) ao
theorem H3 (au:a7 X a aP) (ae:a7 X b aQ) (C:c.length<=1000:=by decide) (B:y.length<=1000:=by decide) :
  a7 X (.JoinedStr [.Constant (.str c) yA E,.FormattedValue a (-1) .n p1,.Constant (.str y) j eE,.FormattedValue b (-1) .n l1] pos) (TY c aP y aQ):=#[by
 intro pins s σ H Q I h;have big:∀ {n:Nat},n<=5000000->n<=sizeLine:=λ {n} z=>by rw [b8];omega
 refine wpAny_JoinedStr (v3 #[c,_,Y,big ?_,?_])
 ·rw [cA.i_];omega
 have f:=I.tok (s.toks+1);refine wM (a8 (au.o pins _ σ H _ f h) ?_);rintro v s1 ⟨x,H1,g,q,t,d,aO⟩;have A:=d.2;refine v9 g q d λ t1 s2 i=>#[t,t1,Y,big ?_,?_]
 ·rw [cA.i_,cA.len_app];omega
 refine v3 #[y,_,Y,big ?_,?_]
 ·rw [cA.i_,cA.len_app,cA.len_app];omega
 have k:=i.tok (s2.toks+1);refine wM (a8 (ae.o pins _ σ H1 _ k aO) ?_);rintro u s4 ⟨z,ao,l,r,fN,e,p⟩;have D:=e.2;refine v9 l r e λ w s5 m=>#[fN,w,Y,big ?_,big ?_,.str _,ao,m.tok _,#[_,Y],?_]
 ·rw [cA.i_,cA.len_app,cA.len_app,cA.len_app];omega
 ·rw [cA.i_,cA.len_app,cA.len_app,cA.len_app];omega
 ·rw [cA.i_];exact p]
end bt
namespace cA
theorem G9 (hm:m=1\/m = -1) (f:∀ x∈c,-40<x/\x<40) (d:∀ x∈p,x<=B):∀ x∈bK p c m,x<=B+40:=λ x g=>by
 obtain ⟨i,av⟩:=g6 g;unfold bK at av;rw [List.getElem?_zipWith] at av;cases au:p[i]? with
 | none=>rw [au] at av;cases av
 | some a =>
  cases ae:c[i]? with
  | none=>rw [au,ae] at av;cases av
  | some b =>
   rw [au,ae] at av;have e:a+m*b=x:=by simpa using av
   have af:=d a (cg au);have ai:=f b (cg ae);rcases hm with rfl|rfl<;>omega
theorem v_ (ae:uy rows) (b:∀ x∈p,x<=B):∀ {k:Nat} {q:bp},goN rows k p=some q->∀ x∈q,x<=B+40*(k:Int)
 | 0,q,h=>by
  cases h;intro x a;have:=b x a;simpa using this
 | k+1,q,h=>by
  obtain ⟨r,af,ai⟩:=q0.mp h;obtain ⟨i,c,_,d,_,rfl⟩:=Cq ai;intro x a;have:=G9 (.inl Y) (ae c (cg d)) (v_ ae b af) x a;omega
set_option tactic.hygienic true in
theorem JH (ae:uy rows) (cC:oK rows) (ar:p.length=10) (f:∀ x∈p,x<=B) (g:q∈i5 rows p):q.length=10/\∀ x∈q,0<=x/\x<=B+40:=by
 obtain ⟨i,av,e⟩:=pA.mp g;unfold fw at e;split at e
 ·rename_i h;cases e;have b:=mJ.mp av;have d:rows.getD i []=rows[i]:=by rw [gF,cV b];rfl
  have a:=kv b;rw [d] at h ⊢;refine #[t8 ar (cC _ a),λ x c=>#[g0.mp h.1 x c,G9 (.inr Y) (ae _ a) f x c]]
 ·cases e
end cA
namespace bt
open PySem PySem.Spec PyProof.Rows kM cb
open PySem PySem.Spec PyProof.Rows cb
theorem sub_dict_dict:isSubtype (.type "dict") (.type "dict")=pure .t:=by rw [isSubtype_type];kernel_rfl
section
variable {prog:Program} {w:World} {κ: Type} [DecidableEq κ] {A:Around} {E:dc} {s:Shared}
theorem abD (knd:KeyKind prog w κ) (d b:Addr) (hd:(d==sysModules)=.f) (ae:(b==sysModules)=.f) :
  MeetsIn prog w (Builtin.«dict.__eq__» ⟨[.ref d,.ref b],[]⟩) (λ Z R s=>∃ kvs,s.heap.DictOf knd d kvs/\s.heap.DictOf knd b []/\R (.ok (.ret (.bool (decide (kvs.length=0))))) s) :=
 .of_wp λ A R s ⟨kvs,af,ai,h⟩=>by
  obtain ⟨o,ah,n,i,q,g,ay,ar,aB⟩:=id af;obtain ⟨v,j,p,l,r,k,t,m,u⟩:=id ai;have e:ah.size=kvs.length:=by rw [<-ar.length];simp
  have f:j.size=0:=by have:=m.length;simpa using this
  refine az ?_;refine az (wpAny_notOrdered_dict af.typeIs ?_);refine bl ?_;refine az (ps ai.typeIs sub_dict_dict ?_);show wpAny _ _ (Builtin.Dict.samePairs _ d b>>=_) _ _ s;refine az ?_;unfold Builtin.Dict.samePairs Builtin.Dict.showsAll;rw [if_neg (by rw [hd];exact dP),if_neg (by rw [ae];exact dP)];refine az (bl (az (bl (az (wpAny_dictEntries i g (az (wpAny_dictEntries l k ?_)))))));by_cases c:kvs.length=0
  ·rw [bP c] at h;have fM:=e.trans c;rw [if_neg (by rw [fM,f];decide)];refine az (wpAny_dictEpoch i g ?_);rw [fM];refine az (wpAny_of_eq (a:=(.n,())) .zs ?_);exact bl (bl #[_,Y,h])
  ·rw [cK c] at h;rw [if_pos (by rw [e,f];simpa using c)];exact az (lr (bl (bl #[_,Y,h])))
end
theorem VM (d:X.A.units+1<cLine):cQ X (compareOp .Eq) (λ x y H Q=>∃ (a b:Addr) (kvs:List (Key×V)),x=.ref a/\y=.ref b/\c8 H a (.bW kvs)/\H b=some (.bW [])/\Q (.aJ (decide (kvs.length=0))) H):=by
 intro pins s σ H x y v u Q I g i h;obtain ⟨a,b,kvs,rfl,rfl,au,ae,q⟩:=h;cases g;cases i;obtain ⟨_,lo,vs,rel,dd⟩:=mC I.aS au;obtain ⟨_,e,j,f,c⟩:=qN I.aS ae;cases f;rw [show kvs.length=vs.length from Paired.length rel] at q;exact wpAny_richCompare_same_room (op:=.Eq) dd.typeIs c.typeIs PySem.F.slot_dict_eq (tD PySem.F.slot_dict_eq dd.typeIs PySem.F.entry_dict_eq (PySem.F.args_dict_eq_2 _ _) (abD _ a b lo e) #[vs,dd,c,show Value.bool _≠Value.notImplemented/\_ from #[(λ z=>nomatch z),.aJ _,H,I,Y,q]]) (pn d)
theorem pS (g:X.A.units+1<cLine):cQ X (compareOp .Eq) (λ x y H Q=>∃ (a b:Addr) (xs:bj),x=.ref a/\y=.ref b/\H a=some (.lst xs)/\H b=some (.lst xs)/\(∀ x∈xs,sP x=.t)/\Q (.aJ .t) H):=by
 intro pins s σ H x y v u Q I t z h;obtain ⟨a,b,xs,rfl,rfl,au,ae,aA,q⟩:=h;cases t;cases z;obtain ⟨_,c,n,e,B,p⟩:=I.fQ au;obtain ⟨_,d,o,cU,C,r⟩:=I.fQ ae;have l:s.heap.IsList a c.toArray:=#[_,p,Y,n,Y]
 have m:s.heap.IsList b d.toArray:=#[_,r,Y,o,Y]
 have i:=e.length;have k:=cU.length;have f:c.toArray.size=d.toArray.size:=by rw [dj,dj,<-i,<-k]
 have:=SeqAt.RcAt.lists l m f (pn g) λ j af ai=>KO aA e cU j af ai
 rw [show ((List.range c.toArray.size).all λ Z=>.t)=.t by
   rw [gp];intro _ _;rfl] at this
 exact this X.prog X.w _ _ #[.aJ .t,H,I,Y,q]
theorem Yx:dG X (.type "str") (λ xs H Q=>∃ v,xs=[v]/\((v=.aX/\Q (.str "None") H)\/(∃ i,v=.int i/\i.natAbs.log2<1920/\Q (.str (cA.bE i)) H))):=by
 intro pins s σ H xs us Q I r h;obtain ⟨v,rfl,h⟩:=h;obtain ⟨u,rfl,a⟩:=vals1 r;rcases h with ⟨rfl,q⟩|⟨i,rfl,b,q⟩
 ·cases a;exact PySem.P.str_of_none #[.str "None", H,I.tok _,#[_,Y],q]
 ·obtain ⟨t,rfl⟩:=a;exact PySem.P.str_of_int b #[.str _,H,I.tok _,#[_,Y],q]
open PySem PySem.Spec PyProof.Rows
def E7 (o:Option e6) (k:V->Prop):Prop:=match o with
 | some (some v)=>k v
 | _=>False
theorem Wt:∀ {o:Option e6} {k:V->Prop},E7 o k->∃ v,o=some (some v)/\k v
 | some (some v),_,h=>#[v,Y,h]
def Pm (i:Nat):TE:=λ σ H Q=>E7 σ[i]? λ v=>Q v H
section
variable {X:a5}
theorem U (i) (a:X.N[i]?=some x:=by rfl) (aM:se X.env.scope x:=by first|exact Or.inl Y|exact Or.inr (Or.inl Y)|exact Or.inr (Or.inr Y)) (hd:(x==("__debug__" : Str))=.f:=by decide) (b:(x==("__classdict__" : Str))=.f:=by decide):a7 X (.Name x pos) (Pm i) :=
 #[λ pins s σ H Q I h=>(rZ i a aM hd b).o pins s σ H Q I (Wt h)]
end
end bt
namespace cb
open PySem bt cA kM
noncomputable def top (i:Nat):Stmt:=PySem.Challenge.pw_wholefract_k95_desks_answer.main.body.getD i (.Pass #[0,0,0,0])
noncomputable abbrev K3:Stmt:=top 18
noncomputable abbrev LN:Stmt:=top 19
noncomputable abbrev LW:Stmt:=top 20
noncomputable abbrev LM:Stmt:=top 21
noncomputable abbrev NZ:Stmt:=top 22
noncomputable abbrev Mz:Stmt:=top 23
noncomputable abbrev M6:Stmt:=top 24
noncomputable abbrev Kj:Stmt:=top 25
noncomputable abbrev Mx:Stmt:=top 28
noncomputable abbrev Ob:Stmt:=top 29
noncomputable abbrev Hm:Stmt:=top 30
noncomputable abbrev K2:Stmt:=top 31
noncomputable abbrev Ia:Stmt:=top 32
noncomputable abbrev NL:Stmt:=top 33
noncomputable abbrev NK:Stmt:=top 34
noncomputable abbrev NC:Stmt:=top 35
noncomputable abbrev Hn:Stmt:=top 36
noncomputable abbrev Jd:Stmt:=top 38
noncomputable abbrev K1:Stmt:=top 39
noncomputable abbrev NX:Stmt:=top 44
noncomputable abbrev NY:Stmt:=top 45
noncomputable abbrev NJ:Stmt:=top 46
noncomputable abbrev Ho:Stmt:=top 47
noncomputable abbrev Nb:Stmt:=top 48
noncomputable abbrev NA:Stmt:=top 49
noncomputable abbrev LU:Stmt:=top 50
noncomputable abbrev Na:Stmt:=top 51
noncomputable abbrev Ki:Stmt:=top 57
noncomputable abbrev Kh:Stmt:=top 58
noncomputable abbrev Hl:Stmt:=top 61
noncomputable abbrev K8:Stmt:=top 67
noncomputable abbrev NB:Stmt:=top 68
noncomputable abbrev ME:Stmt:=top 69
noncomputable abbrev LV:Stmt:=top 70
noncomputable abbrev N8:Stmt:=top 71
noncomputable abbrev My:Stmt:=top 72
noncomputable abbrev Jc:Stmt:=top 73
noncomputable abbrev Kg:Stmt:=top 74
noncomputable abbrev Jh:Stmt:=top 75
noncomputable abbrev Nx:Stmt:=top 76
noncomputable abbrev LO:Stmt:=top 78
noncomputable abbrev H9:Stmt:=top 79
noncomputable abbrev Jg:Stmt:=top 80
noncomputable abbrev Kl:Stmt:=top 81
noncomputable abbrev K5:Stmt:=top 82
noncomputable abbrev K6:Stmt:=top 83
noncomputable abbrev LQ:Stmt:=top 84
noncomputable abbrev MD:Stmt:=top 85
noncomputable abbrev LR:Stmt:=top 86
noncomputable abbrev NV:Stmt:=top 87
noncomputable abbrev Jf:Stmt:=top 88
noncomputable abbrev Je:Stmt:=top 89
noncomputable abbrev Kn:Stmt:=top 90
noncomputable abbrev LS:Stmt:=top 91
noncomputable abbrev MC:Stmt:=top 92
noncomputable abbrev H_:Stmt:=top 93
noncomputable abbrev NW:Stmt:=top 94
noncomputable abbrev MB:Stmt:=top 95
noncomputable abbrev Ko:Stmt:=top 96
noncomputable abbrev Ny:Stmt:=top 97
noncomputable abbrev M7:Stmt:=top 98
noncomputable abbrev Nz:Stmt:=top 99
noncomputable abbrev M_:Stmt:=top 100
noncomputable abbrev K7:Stmt:=top 101
noncomputable abbrev MA:Stmt:=top 102
noncomputable abbrev LP:Stmt:=top 103
noncomputable abbrev M8:Stmt:=top 104
noncomputable abbrev M9:Stmt:=top 105
noncomputable abbrev Km:Stmt:=top 106
noncomputable abbrev Kk:Stmt:=top 107
noncomputable abbrev K4:Stmt:=top 108
noncomputable abbrev A6:Stmt:=top 109
noncomputable def iA (s:Stmt) (j:Nat):Stmt:=match s with| .ClassDef _ _ _ b _ _ _ _ _ _ _=>b.getD j (.Pass #[0,0,0,0])|s=>s
noncomputable abbrev M5:Stmt:=iA (top 2) 0
theorem abP:bF ["self", "steps"] ["self", "steps"] (bk M5):=bV
noncomputable abbrev Mv:Stmt:=iA (top 56) 0
noncomputable abbrev LJ:Stmt:=iA (top 56) 1
noncomputable abbrev LK:Stmt:=iA (top 56) 2
noncomputable abbrev Ms:Stmt:=iA (top 56) 3
noncomputable abbrev Mw:Stmt:=iA (top 56) 4
noncomputable abbrev M4:Stmt:=iA (top 56) 5
noncomputable abbrev Nw:Stmt:=iA (top 56) 6
noncomputable abbrev Mt:Stmt:=iA (top 56) 7
noncomputable abbrev NI:Stmt:=iA (top 56) 8
noncomputable abbrev Mr:Stmt:=iA (top 56) 9
noncomputable abbrev Mu:Stmt:=iA (top 56) 10
noncomputable abbrev LL:Stmt:=iA (top 66) 0
noncomputable abbrev K0:Stmt:=iA (top 66) 1
theorem aaC:bF ["thing"] ["thing"] (bk K3):=bV
theorem MF:bF ["thing"] ["thing"] (bk LN):=bV
theorem MJ:bF ["number"] ["number"] (bk LW):=bV
theorem ud:bF ["prime", "number", "times", "rest"] ["prime", "number"] (bk LM):=bV
theorem x1:bF ["number", "rest", "prime"] ["number"] (bk NZ):=bV
theorem Nf:bF ["thing"] ["thing"] (bk Mz):=bV
theorem xS:bF ["thing", "top", "bottom"] ["thing"] (bk M6):=bV
theorem aac:bF ["thing"] ["thing"] (bk Kj):=bV
theorem Nd:bF ["program"] ["program"] (bk Mx):=bV
theorem x2:bF ["fraction", "tops", "bottoms"] ["fraction"] (bk Ob):=bV
theorem BY:bF ["changes", "powers", "change", "power"] ["changes", "powers"] (bk Hm):=bV
theorem C6:bF ["rows", "powers", "number", "changes"] ["rows", "powers"] (bk K2):=bV
theorem Jk:bF ["powers", "changes", "many"] ["powers", "changes", "many"] (bk Ia):=bV
theorem uo:bF ["rows", "powers", "number", "used", "ends"] ["rows", "powers", "number"] (bk NL):=bV
theorem N1:bF ["powers", "used"] ["powers", "used"] (bk NK):=bV
theorem p8:bF ["powers", "used", "ahead", "many", "power", "change", "change_ahead", "lacking"] ["powers", "used", "ahead"] (bk NC):=bV
theorem fy:bF ["program", "powers", "many", "rows", "reached", "done", "stretches", "number", "steps"] ["program", "powers", "many"] (bk Hn):=bV
theorem Zg:bF ["program", "powers"] ["program", "powers"] (bk Jd):=bV
theorem ub:bF ["rows", "powers", "found", "number", "changes", "ahead"] ["rows", "powers"] (bk K1):=bV
theorem xZ:bF ["number", "block", "rest", "blocks"] ["number"] (bk NX):=bV
theorem Dr:bF ["powers", "words"] ["powers"] (bk NY):=bV
theorem N0:bF ["prime", "power", "often"] ["prime", "power"] (bk NJ):=bV
theorem BZ:bF ["text", "program"] ["text"] (bk Ho):=bV
theorem Dp:bF ["text", "powers"] ["text"] (bk Nb):=bV
theorem um:bF ["text", "found", "word", "pair"] ["text"] (bk NA):=bV
theorem MI:bF ["word", "sign", "parts"] ["word", "sign"] (bk LU):=bV
theorem NF:bF ["text"] ["text"] (bk Na):=bV
theorem K_:bF ["thing"] ["thing"] (bk Ki):=bV
theorem K9:bF ["program", "powers", "many", "rest"] ["program", "powers", "many"] (bk Kh):=bV
theorem pU:bF ["program", "powers", "most", "rows", "seen", "reached", "done", "number"] ["program", "powers", "most"] (bk Hl):=bV
theorem LY:bF ["row", "words"] ["row"] (bk K8):=bV
theorem ace:bF ["words"] ["words"] (bk NB):=bV
theorem Dk:bF ["words", "kinds"] ["words"] (bk ME):=bV
theorem aa0:bF ["kind", "word"] ["kind", "word"] (bk LV):=bV
theorem acQ:bF ["word"] ["word"] (bk N8):=bV
theorem Dj:bF ["word", "most", "number"] ["word", "most"] (bk My):=bV
theorem xl:bF ["bench", "word", "parts", "name", "powers"] ["bench", "word", "parts"] (bk Jc):=bV
theorem aab:bF ["bench", "word", "parts"] ["bench", "word", "parts"] (bk Kg):=bV
theorem Zh:bF ["words"] ["words"] (bk Jh):=bV
theorem xU:bF ["told", "steps", "powers", "length"] ["told"] (bk Nx):=bV
theorem aaZ:bF ["script", "k"] ["script", "k"] (bk LO):=bV
theorem ro:bF ["cell", "number", "j", "more"] ["cell"] (bk H9):=bV
theorem Kp:bF ["pot", "far", "found"] ["pot", "far"] (bk Jg):=bV
theorem CZ:bF ["pot", "wide", "found", "k"] ["pot", "wide"] (bk Kl):=bV
theorem LX:bF ["pot", "wide"] ["pot"] (bk K5):=bV
theorem aaD:bF [] [] (bk K6):=bV
theorem jX:bF ["line", "found", "prime", "often", "turn"] ["line"] (bk LQ):=bV
theorem lR:bF ["pot", "places", "found", "turn", "place", "top", "bottom"] ["pot", "places"] (bk MD):=bV
theorem MG:bF ["pot", "places", "most"] ["pot", "places", "most"] (bk LR):=bV
theorem jd:bF ["pot", "places", "most", "found", "some", "k", "sides", "turn", "line", "lap", "less", "top"] ["pot", "places", "most"] (bk NV):=bV
theorem CO:bF ["pot", "places", "most", "found", "place"] ["pot", "places", "most"] (bk Jf):=bV
theorem rr:bF ["number", "found", "prime", "often"] ["number"] (bk Je):=bV
theorem rB:bF ["program", "found", "top", "bottom", "want"] ["program"] (bk Kn):=bV
theorem MH:bF ["program"] ["program"] (bk LS):=bV
theorem uh:bF ["table", "line", "number", "want", "more"] ["table", "line"] (bk MC):=bV
theorem Jj:bF ["table", "line", "number", "often"] ["table", "line", "number", "often"] (bk H_):=bV
theorem ur:bF ["table", "line", "many", "rows", "used", "number"] ["table", "line", "many"] (bk NW):=bV
theorem ug:bF ["table", "line", "most", "rows", "places", "place", "one"] ["table", "line", "most"] (bk MB):=bV
theorem aae:bF ["found"] ["found"] (bk Ko):=bV
theorem NM:bF ["thing"] ["thing"] (bk Ny):=bV
theorem jY:bF ["table", "rows", "deed", "way", "name", "thing", "right", "later", "line", "steps", "some", "used"] ["table", "rows", "deed"] (bk M7):=bV
theorem xV:bF ["pot", "places", "rows", "way", "name"] ["pot", "places", "rows"] (bk Nz):=bV
theorem uj:bF ["line", "found", "prime", "often"] ["line"] (bk M_):=bV
theorem xG:bF ["deed", "way", "name", "thing"] ["deed"] (bk K7):=bV
theorem xP:bF ["table", "line", "found", "number", "some"] ["table", "line"] (bk MA):=bV
theorem rI:bF ["e", "some", "words"] ["e"] (bk LP):=bV
theorem ND:bF ["desk", "thing", "e"] ["desk", "thing"] (bk M8):=bV
theorem abQ:bF ["due"] ["due"] (bk M9):=bV
theorem p5:bF ["desk", "table", "rows", "way", "number", "name", "line", "steps", "some", "due"] ["desk", "table", "rows", "way", "number"] (bk Km):=bV
theorem aad:bF ["desk", "program"] ["desk", "program"] (bk Kk):=bV
theorem C7:bF ["table", "rows", "deed", "due", "later"] ["table", "rows", "deed"] (bk K4):=bV
theorem g5:bF ["script", "pot", "places", "programs", "tables", "desks", "kept", "k", "which", "deed", "due", "way", "number", "one", "again"] ["script"] (bk A6):=bV
theorem abt:bF ["self", "program"] ["self", "program"] (bk Mv):=bV
theorem aaX:bF ["self", "name", "powers"] ["self", "name", "powers"] (bk LJ):=bV
theorem C_:bF ["self", "name", "many", "begin", "end"] ["self", "name", "many"] (bk LK):=bV
theorem abp:bF ["self", "name"] ["self", "name"] (bk Ms):=bV
theorem Nc:bF ["self", "deed"] ["self"] (bk Mw):=bV
theorem abO:bF ["self"] ["self"] (bk M4):=bV
theorem acd:bF ["self", "name"] ["self", "name"] (bk Nw):=bV
theorem abq:bF ["self", "name"] ["self", "name"] (bk Mt):=bV
theorem acv:bF ["self", "name"] ["self", "name"] (bk NI):=bV
theorem abo:bF ["self", "name", "what"] ["self", "name", "what"] (bk Mr):=bV
theorem abr:bF ["self", "name", "what"] ["self", "name", "what"] (bk Mu):=bV
theorem aaY:bF ["self"] ["self"] (bk LL):=bV
theorem C5:bF ["self", "row", "words", "parts"] ["self", "row"] (bk K0):=bV
set_option genInjectivity false in
set_option genSizeOf false in
structure aY (K:W.Frag) (mg:Str->cE) where
 rx:b9 K mg "is_whole" K3 ["thing"]
 Lq:b9 K mg "is_powers" LN ["thing"]
 oi:b9 K mg "powers_of" LW ["number"]
 ua:b9 K mg "how_often" LM ["prime", "number"]
 rL:b9 K mg "without_primes" NZ ["number"]
 L_:b9 K mg "is_program" Mz ["thing"]
 MO:b9 K mg "is_fraction" M6 ["thing"]
 JB:b9 K mg "is_term" Kj ["thing"]
 rG:b9 K mg "changes_of" Mx ["program"]
 uu:b9 K mg "fraction_changes" Ob ["fraction"]
 nS:b9 K mg "fits" Hm ["changes", "powers"]
 rv:b9 K mg "first_of" K2 ["rows", "powers"]
 mV:b9 K mg "moved" Ia ["powers", "changes", "many"]
 rK:b9 K mg "stretch_steps" NL ["rows", "powers", "number"]
 uk:b9 K mg "steps_to_lack" NK ["powers", "used"]
 ui:b9 K mg "steps_to_fit" NC ["powers", "used", "ahead"]
 lx:b9 K mg "leap" Hn ["program", "powers", "many"]
 Iv:b9 K mg "before" Jd ["program", "powers"]
 KD:b9 K mg "ahead_by" K1 ["rows", "powers"]
 NS:b9 K mg "number_written" NX ["number"]
 NT:b9 K mg "powers_written" NY ["powers"]
 NG:b9 K mg "power_written" NJ ["prime", "power"]
 GR:b9 K mg "read" Ho ["text"]
 MU:b9 K mg "powers_read" Nb ["text"]
 Nq:b9 K mg "product_read" NA ["text"]
 Lv:b9 K mg "pair_read" LU ["word", "sign"]
 MT:b9 K mg "number_read" Na ["text"]
 JA:b9 K mg "is_name" Ki ["thing"]
 Jz:b9 K mg "gone_on" Kh ["program", "powers", "many"]
 GQ:b9 K mg "fate" Hl ["program", "powers", "most"]
 KL:b9 K mg "words_of" K8 ["row"]
 Nr:b9 K mg "program_read" NB ["words"]
 Me:b9 K mg "parts_read" ME ["words"]
 Lw:b9 K mg "part_read" LV ["kind", "word"]
 N4:b9 K mg "put_powers_read" N8 ["word"]
 L9:b9 K mg "count_read" My ["word", "most"]
 Iu:b9 K mg "answer" Jc ["bench", "word", "parts"]
 Jy:b9 K mg "do_deed" Kg ["bench", "word", "parts"]
 Iz:b9 K mg "listed" Jh ["words"]
 Nm:b9 K mg "fate_written" Nx ["told"]
 Lr:b9 K mg "_law_cell_at" LO ["script", "k"]
 Hw:b9 K mg "_law_pot" H9 ["cell"]
 B8:b9 K mg "_law_take" Jg ["pot", "far"]
 JD:b9 K mg "_law_order" Kl ["pot", "wide"]
 KH:b9 K mg "_law_places" K5 ["pot"]
 KI:b9 K mg "_law_primes" K6 []
 xC:b9 K mg "_law_product" LQ ["line"]
 Md:b9 K mg "_law_fraction" MD ["pot", "places"]
 Ls:b9 K mg "_law_program" LR ["pot", "places", "most"]
 NQ:b9 K mg "_law_calm_program" NV ["pot", "places", "most"]
 Iy:b9 K mg "_law_line" Jf ["pot", "places", "most"]
 Iw:b9 K mg "_law_exps" Je ["number"]
 JF:b9 K mg "_law_table" Kn ["program"]
 Lu:b9 K mg "_law_text_of" LS ["program"]
 Mc:b9 K mg "_law_first_of" MC ["table", "line"]
 Hx:b9 K mg "_law_put" H_ ["table", "line", "number", "often"]
 NR:b9 K mg "_law_gone_through" NW ["table", "line", "many"]
 Mb:b9 K mg "_law_fate_due" MB ["table", "line", "most"]
 JG:b9 K mg "_law_whole" Ko ["found"]
 Nn:b9 K mg "_law_line_right" Ny ["thing"]
 MP:b9 K mg "_law_bench_due" M7 ["table", "rows", "deed"]
 Np:b9 K mg "_law_plain_deed" Nz ["pot", "places", "rows"]
 MS:b9 K mg "_law_line_text" M_ ["line"]
 KJ:b9 K mg "_law_row_of" K7 ["deed"]
 Ma:b9 K mg "_law_ahead_of" MA ["table", "line"]
 rD:b9 K mg "_law_kind_of" LP ["e"]
 MQ:b9 K mg "_law_desk_told" M8 ["desk", "thing"]
 MR:b9 K mg "_law_fate_text" M9 ["due"]
 JE:b9 K mg "_law_right" Km ["desk", "table", "rows", "way", "number"]
 JC:b9 K mg "_law_begun" Kk ["desk", "program"]
 KG:b9 K mg "_law_due_of" K4 ["table", "rows", "deed"]
 lP:Addr
 aep:mg "FractError" = some (.ref lP)
 dY:Addr
 IT:mg "AtRest" = some (.ref dY)
 n9:Addr
 Xn:mg "NoText" = some (.ref n9)
 og:Addr
 ZN:mg "NoNumber" = some (.ref og)
 oe:Addr
 YN:mg "TooMany" = some (.ref oe)
 oc:Addr
 YL:mg "NoOrder" = some (.ref oc)
 eB:Addr
 aat:mg "NoProgram" = some (.ref eB)
 n_:Addr
 Xo:mg "Shared" = some (.ref n_)
 eZ:Addr
 ZO:mg "NoPowers" = some (.ref eZ)
 od:Addr
 YM:mg "NoTrail" = some (.ref od)
 dD:Addr
 Xm:mg "NoName" = some (.ref dD)
 ej:Addr
 Xl:mg "NoDeed" = some (.ref ej)
 n6:Addr
 Vt:mg "NoRow" = some (.ref n6)
 fk:Addr
 Vs:mg "Bench" = some (.ref fk)
 d5:Addr
 G5:mg "Desk" = some (.ref d5)
 aaI:jz K mg "FractError" lP
 aak:jz K mg "NoProgram" eB
 Zw:jz K mg "NoPowers" eZ
 IA:jz K mg "NoName" dD
 WT:jz K mg "NoDeed" ej
 WW:Under K dD lP
 W0:W.iv K dD
 WY:W.kitOne K (.ref dD) (.type "ValueError")=some .t
 ab8:KF K dD dY .f
 aca:KF K dD n9 .f
 acC:KF K dD og .f
 acu:KF K dD oe .f
 acr:KF K dD oc .f
 acK:KF K dD eB .f
 acb:KF K dD n_ .f
 acD:KF K dD eZ .f
 acs:KF K dD od .f
 ab_:KF K dD dD .t
 ab9:KF K dD ej .f
 abM:KF K dD n6 .f
 aem:Under K eZ lP
 aeo:W.iv K eZ
 aen:W.kitOne K (.ref eZ) (.type "ValueError")=some .t
 aeC:KF K eZ dY .f
 aeF:KF K eZ n9 .f
 aeL:KF K eZ og .f
 aeK:KF K eZ oe .f
 aeI:KF K eZ oc .f
 aeN:KF K eZ eB .f
 aeG:KF K eZ n_ .f
 aeM:KF K eZ eZ .t
 aeJ:KF K eZ od .f
 aeE:KF K eZ dD .f
 aeD:KF K eZ ej .f
 aez:KF K eZ n6 .f
 WV:Under K ej lP
 WZ:W.iv K ej
 WX:W.kitOne K (.ref ej) (.type "ValueError")=some .t
 ab3:KF K ej dY .f
 ab6:KF K ej n9 .f
 acA:KF K ej og .f
 acq:KF K ej oe .f
 aco:KF K ej oc .f
 acJ:KF K ej eB .f
 ab7:KF K ej n_ .f
 acB:KF K ej eZ .f
 acp:KF K ej od .f
 ab5:KF K ej dD .f
 ab4:KF K ej ej .t
 abL:KF K ej n6 .f
 aal:Under K eB lP
 aan:W.iv K eB
 aam:W.kitOne K (.ref eB) (.type "ValueError")=some .t
 acL:KF K eB dY .f
 acO:KF K eB n9 .f
 acY:KF K eB og .f
 acU:KF K eB oe .f
 acS:KF K eB oc .f
 ac0:KF K eB eB .t
 acP:KF K eB n_ .f
 acZ:KF K eB eZ .f
 acT:KF K eB od .f
 acN:KF K eB dD .f
 acM:KF K eB ej .f
 acE:KF K eB n6 .f
 Df:Addr
 Dn:FuncData
 lM:kL K mg "AtRest" dY lP Df
 WU:gy K "__init__" "AtRest.__init__" M5 Df Dn
 WS:Binds K Dn ["self", "steps"] []
 ael:GS K dY lP
 Cw:W.findIn K (.ref dY) "steps" = some .n
 aek:W.kitOne K (.ref dY) (.type "ValueError")=some .t
 aer:KF K dY dY .t
 aeu:KF K dY n9 .f
 aeA:KF K dY og .f
 aey:KF K dY oe .f
 aew:KF K dY oc .f
 aeH:KF K dY eB .f
 aev:KF K dY n_ .f
 aeB:KF K dY eZ .f
 aex:KF K dY od .f
 aet:KF K dY dD .f
 aes:KF K dY ej .f
 aeq:KF K dY n6 .f
 dX:hH K fk
 xM:lz K fk "deeds"
 m3:lz K fk "held"
 xT:lz K fk "program"
 xJ:za K fk "Bench.__init__" Mv ["self", "program"]
 xA:jt K fk "put" "Bench.put" LJ ["self", "name", "powers"]
 xB:jt K fk "run" "Bench.run" LK ["self", "name", "many"]
 xH:jt K fk "drop" "Bench.drop" Ms ["self", "name"]
 xK:jt K fk "undo" "Bench.undo" Mw ["self"]
 xN:jt K fk "names" "Bench.names" M4 ["self"]
 xQ:jt K fk "powers" "Bench.powers" Nw ["self", "name"]
 xI:jt K fk "gone" "Bench.gone" Mt ["self", "name"]
 lT:jt K fk "held_by" "Bench.held_by" NI ["self", "name"]
 oj:jt K fk "done" "Bench.done" Mr ["self", "name", "what"]
 rF:jt K fk "hold" "Bench.hold" Mu ["self", "name", "what"]
 qU:hH K d5
 uc:lz K d5 "bench"
 rC:za K d5 "Desk.__init__" LL ["self"]
 xn:jt K d5 "say" "Desk.say" K0 ["self", "row"]
 dz:mg "len" = .n
 el:mg "isinstance" = .n
 mE:mg "int" = .n
 G7:mg "bool" = .n
 gr:mg "tuple" = .n
 hX:mg "range" = .n
 pd:mg "max" = .n
 pe:mg "min" = .n
 nJ:mg "all" = .n
 hl:mg "zip" = .n
 gj:mg "str" = .n
 rm:mg "sorted" = .n
 xE:mg "enumerate" = .n
 Um:mg "dict" = .n
 ZS:mg "reversed" = .n
 aaQ:mg "ValueError" = .n
 g8:Addr
 pW:mg "PRIMES" = some (.ref g8)
 jV:∀ H,aL K H g8 [.int 2,.int 3,.int 5,.int 7,.int 11,.int 13,.int 17,.int 19,.int 23,.int 29]
 acj:∃ t,mg "MOST_FRACTIONS" = some (.int 16 t)
 aas:∃ t,mg "MOST_TERM" = some (.int 1000000000000 t)
 NU:∃ t,mg "MOST_STRETCHES" = some (.int 2000 t)
 JZ:∃ t,mg "FIGURES" = some (.str "0123456789" t)
 abz:∃ t,mg "MOST_FIGURES" = some (.int 13 t)
 Mj:∃ t,mg "MOST_POWER" = some (.int 1000000 t)
 YI:∃ t,mg "LETTERS" = some (.str "abcdefghijklmnopqrstuvwxyz" t)
 abA:∃ t,mg "MOST_LETTERS" = some (.int 8 t)
 aaN:∃ t,mg "MOST_NAMES" = some (.int 12 t)
 aaO:∃ t,mg "MOST_STEPS" = some (.int 400 t)
 ZI:∃ t,mg "MOST_RUN" = some (.int 1000000000000000000 t)
 acW:∃ t,mg "MOST_COUNT_FIGURES" = some (.int 19 t)
 HA:Addr
 Vp:mg "PARTS" = some (.ref HA)
 WL:Fv K HA [("put", ["name", "powers"]),("drop", ["name"]),("undo", []),("run", ["name", "run count"]),("show", ["name"]),("gone", ["name"]),("names", []),("fate", ["name", "fate count"]),("ahead", ["name"])]
section
variable {P:Program} {w:World} {K:aT} {mg:Str->cE} {base:Heap}
inductive Kv:bz
 |mk {vs H Q E} (a:Addr) (n ik:Int):vs=[.ref a,.int ik]->H a=some (.lst [.int n])->0<ik->ik<1073741824->Q (.int (n%ik)) (upd H a (.lst [.int (n/ik)]))->Kv vs H Q E
theorem m2 (T:aY K mg):b4 P w mg base bY 1 T.B8 Kv:=by
 refine T.B8.fn.cp Kp .bU λ a0 A outer s H vs Q E b h=>?_
 obtain ⟨a,n,ik,rfl,au,h0,af,q⟩:=h;refine #[_,(aD (ba 2 Kp (bf i7 (bO cz (U 0) aF (λ Z Z=>rfl)) (U 1)))
  (aD (ku (bf rg (bO cz (U 0) aF (λ Z Z=>rfl)) (U 1)) (tp (U 0) aF set_list))
  (aG (aZ (U 2))))),?_]
 refine #[a,_,_,_,Y,Y,aK.of au,Y,_,_,Y,Y,h0,?_];refine #[a,_,_,_,Y,Y,aK.of au,Y,_,_,Y,Y,#[h0,af],a,_,_,0,Y,Y,au,Y,?_];exact (q)
def aa4 (K:aT):bz:=λ vs H Q Z=>∃ (a:Addr) (ns:bp) (k:Int),vs=[.ref a,.int k]/\aK K H a (ns.map V.int)/\0<=k/\∀ c,Q (.int c) H
theorem Mn (T:aY K mg):b4 P w mg base bY 1 T.Lr (aa4 K):=by
 refine T.Lr.fn.cp aaZ .bU λ a0 A outer s H vs Q E f h=>?_
 obtain ⟨a,ns,k,rfl,b,h0,q⟩:=h;refine #[_,(aD (bM (bq iZ (U 1) (bR fb T.dz dy (aa (U 0) aq)) (bh _))
   (aG (aZ (bO cz (U 0) (U 1) (λ Z Z=>rfl))))
   bJ)
  (aG (aZ aF))),?_]
 refine #[a,_,Y,.inl b,_,_,Y,Y,_,Y,?_];refine c3 (λ c=>?_) (λ Z=>q 0);have d:k<((ns.map V.int).length):=by simpa using c
 rw [bb] at d;have ay:k.toNat<ns.length:=by omega
 have e:(ns.map V.int)[k.toNat]?=some (V.int ns[k.toNat]):=by rw [dg,cV ay];rfl
 exact #[a,_,_,_,Y,Y,b,fF h0 e,q _]
def Yd:bz:=λ vs H Q Z=>∃ c,vs=[.int c]/\∀ n p,H p=.n->Q (.ref p) (upd H p (.lst [.int n]))
theorem I1 (T:aY K mg):b4 P w mg base bY 1 T.Hw Yd:=by
 refine T.Hw.fn.cp ro .bU λ a0 A outer s H vs Q E a h=>?_
 obtain ⟨c,rfl,q⟩:=h;refine #[_,(aD (bM (bq qP (U 0) (bf tk aF aF) (bh _))
   (aG (aZ (tn (aa (bf gE (U 0) (bf tk aF aF)) aq))))
   bJ)
  (aD (ba 1 ro aF)
  (aD (eI dW Y (jc Y T.hX (aa aF aq)) (cH 2 ro)
   (aD (ba 3 ro (bf i7 (bf mP (bf ez (bf ez (bf i7 (U 0) aF) (bf mP aF (U 2))) aF) aF) aF))
  (aD (ba 3 ro (bf i7 (bf ez (bf ez (bf mP (U 3) (U 3)) (bf mP aF (U 2))) aF) aF))
  (aG (ba 1 ro (bf ez (bf mP (U 1) aF) (U 3)))))))
  (aG (aZ (tn (aa (U 1) aq))))))),?_]
 refine #[_,_,Y,Y,#[.aw,.aw,.aw],_,_,Y,Y,_,Y,?_];refine c3 (λ Z=>?_) (λ Z=>?_)
 ·refine #[_,_,Y,Y,#[.aw,.aw,.aw],_,_,Y,Y,bI,λ p ar=>?_];exact q _ p ar
 ·refine #[64,Y,.aw,.aw,jb (λ i σ ao=>∃ (n:Int) (u v:e6),σ=[some (.int c),some (.int n),u,v]/\ao=H) #[0,.n,.n,Y,Y] ?_ ?_]
  ·rintro i σ ao av ⟨n,u,v,rfl,rfl⟩;refine #[_,_,Y,Y,(by show 0<2147483629;decide),_,_,Y,Y,.inl #[.aw,.aw],_,_,Y,Y,_,_,Y,Y,_,_,Y,Y,.inr #[.aw,.aw],_,_,Y,Y,(by show 0<2147483647;decide),?_];refine #[_,_,Y,Y,.inl ?_,_,_,Y,Y,.inl #[.aw,.aw],_,_,Y,Y,_,_,Y,Y,_,_,Y,Y,(by show 0<2147483587;decide),?_]
   ·have af:=jQ ((c%2147483629+7919*(0+i)+1)*48271) (show 2147483647≠0 by decide);have ai:=lJ ((c%2147483629+7919*(0+i)+1)*48271) (show 0<2147483647 by decide);exact #[.ak,.ak]
   refine #[_,_,Y,Y,.inr #[.aw,.aw],_,_,Y,Y,?_];exact #[_,_,_,Y,Y]
  ·rintro σ ao ⟨n,u,v,rfl,rfl⟩;exact #[bI,λ p ar=>q n p ar]
inductive Le:bz
 |mk {vs H Q E} (a:Addr) (n l2:Int):vs=[.ref a,.int l2]->H a=some (.lst [.int n])->0<=l2->l2<=100->(∀ p H' b3 (ns:bp),H p=.n->br a H H'->H' a=some (.lst [.int b3])->H' p=some (.tup (ns.map V.int))->ns.length=l2.toNat->(∀ m∈ns,0<=m/\m<l2)->Q (.ref p) H')->Le vs H Q E
theorem Z4 (T:aY K mg):b4 P w mg base bY 2 T.JD Le:=by
 refine T.JD.fn.cp CZ .bU λ a0 A outer s H vs Q E t h=>?_
 obtain ⟨a,n,l2,rfl,au,h0,af,q⟩:=h;refine #[_,(aD (ba 2 CZ (tn aq))
  (aD (eI dW Y (jc Y T.hX (aa (U 1) aq)) (cH 3 CZ)
   (aG (eY (eN hu PySem.F.slot_list_insert PySem.F.type_list_insert Y0 (U 2) (aa (a4 (m2 T) t aV (aa (U 0) (aa (bf ez (U 3) aF) aq))) (aa (U 3) aq))))))
  (aG (aZ (dv rJ T.gr gq (aa (U 2) aq)))))),?_]
 refine #[bI,λ l g=>?_];have j:=b0 au g;refine #[l2,Y,.ak,.ak,jb (λ i σ ao=>∃ (b3:Int) (ns:bp) (u:e6),σ=[some (.ref a),some (.int l2),some (.ref l),u]/\br a H ao/\ao a=some (.lst [.int b3])/\ao l=some (.lst (ns.map V.int))/\ns.length=i/\∀ m∈ns,0<=m/\m<l2)
  #[n,[],.n,Y,λ b o Z e=>by rw [a3 (b0 e g)];exact e,by rw [a3 j];exact au,bc,Y,λ m hm=>absurd hm .zs] ?_ ?_]
 ·rintro i σ ao av ⟨b3,ns,u,rfl,c,d,f,aB,hm⟩;refine #[.inl #[Y,_,aK.of f],_,_,Y,Y,a,b3,_,Y,d,.ak,.ak,l,_,_,_,Y,Y,by rw [a3 j.symm];exact f,?_,?_,?_,?_]
  ·exact jQ _ .ak
  ·have:=lJ b3 (show 0<0+(i:Int)+1 by omega);omega
  ·rw [bb,aB,b8];omega
  ·refine #[b3/(0+i+1),ns.take (min (b3%(0+i+1)).toNat (ns.map V.int).length)++(0+(i:Int))::ns.drop (min (b3%(0+i+1)).toNat (ns.map V.int).length),_,Y,?_,?_,?_,?_,?_]
   ·intro b o nb e;rw [a3 (b0 e g),a3 nb];exact c b o nb e
   ·rw [a3 j,bc]
   ·rw [bc,ht,fv,List.map_take,List.map_drop]
   ·rw [dn,fW,i3,List.length_drop,bb,aB];omega
   ·intro m r;rcases i1.mp r with z|z
    ·exact hm m (tM z)
    ·rcases b5.mp z with z|z
     ·rw [z];omega
     ·exact hm m (List.mem_of_mem_drop z)
 ·rintro σ ao ⟨b3,ns,u,rfl,c,d,f,aB,hm⟩;refine #[l,_,Y,.inl #[aK.of f,λ p ar=>?_]];have k:p≠a:=λ z=>by rw [z,d] at ar;cases ar
  refine q p _ b3 ns (c.free ar k) (c.new ar) ?_ bc aB hm;rw [a3 k.symm];exact d
def aaF:bz:=λ vs H Q Z=>∃ (a:Addr) (n:Int),vs=[.ref a]/\H a=some (.lst [.int n]) /\
 ∀ p H' b3 (ns:bp),br a H H'->H' a=some (.lst [.int b3])->H' p=some (.tup (ns.map V.int))->1<=ns.length->ns.length<=5->(∀ m∈ns,0<=m/\m<10)->Q (.ref p) H'
theorem aaz (T:aY K mg):b4 P w mg base bY 3 T.KH aaF:=by
 refine T.KH.fn.cp LX .bU λ a0 A outer s H vs Q E c h=>?_
 obtain ⟨a,n,rfl,au,q⟩:=h;refine #[_,(aD (ba 1 LX (bf ez aF (a4 (m2 T) c aV (aa (U 0) (aa aF aq)))))
  (aD (bM (bq cY (a4 (m2 T) c aV (aa (U 0) (aa aF aq))) aF (bh _))
   (aG (aZ (dv (ach Y) T.gr gq (aa (dv ZC T.hX Vi (aa (U 1) aq)) aq))))
   bJ)
  (aG (aZ (xe WB (a4 (Z4 T) c aV (aa (U 0) (aa aF aq))) w4 (w5 (U 1))))))),?_]
 refine #[a,n,5,Y,au,.aw,.aw,_,_,Y,Y,?_];refine #[a,_,2,Y,bc,.aw,.aw,Y,_,Y,?_];have t:=jQ n (show 5≠0 by decide);have g1:=lJ n (show 0<5 by decide);refine c3 (λ Z=>?_) (λ Z=>?_)
 ·refine #[_,Y,λ p ar=>#[p,_,Y,bc,.ak,.ak,λ l b=>?_]];have f:p≠a:=λ z=>by rw [z,bc] at ar;cases ar
  have d:l≠a:=λ z=>by rw [z,a3 f.symm,bc] at b;cases b
  refine q l _ (n/5/2) ((List.range (1+n%5).toNat).map λ i=>(i:Nat)) (((br.upd.set).new ar).new b) ?_ ?_ ?_ ?_ ?_
  ·rw [a3 d.symm,a3 f.symm,bc]
  ·rw [bc,fa];rfl
  ·rw [bb,i9];omega
  ·rw [bb,i9];omega
  ·intro m hm;obtain ⟨i,av,rfl⟩:=c0.mp hm;have:=mJ.mp av;omega
 ·refine #[a,_,10,Y,bc,.aw,.aw,λ p H' b3 ns ar k e r hlen hm=>?_];have u:=hlen;refine #[_,Y,.inl #[p,_,Y,aL.of r,?_,λ l b=>?_]]
  ·rintro ⟨_,h⟩;rw [wh .ak,bb] at h;omega
  have d:l≠a:=λ z=>by rw [z,e] at b;cases b
  have g:br a H (upd (upd H a (.lst [.int (n/5)])) a (.lst [.int (n/5/2)])):=br.upd.set;have j:=g.trans k;refine q l _ b3 (ns.take (1+n%5).toNat) (j.new b) ?_ ?_ ?_ ?_ ?_
  ·rw [a3 d.symm];exact e
  ·rw [bc,IF .ak,List.map_take]
  ·rw [i3];omega
  ·rw [i3];omega
  ·intro m o;exact hm m (tM o)
noncomputable def dC:bj:=[.int 2,.int 3,.int 5,.int 7,.int 11,.int 13,.int 17,.int 19,.int 23,.int 29]
def aaG:bz:=λ vs H Q Z=>vs=[]/\∀ p,H p=.n->Q (.ref p) (upd H p (.tup dC))
theorem xF (T:aY K mg):b4 P w mg base bY 1 T.KI aaG:=by
 refine T.KI.fn.cp aaD (by intro _ _ _ _ h;repeat (obtain ⟨rfl,_⟩:=h;rfl)) λ a0 A outer s H vs Q E a h=>?_
 obtain ⟨rfl,q⟩:=h;refine #[_,(aG (aZ (Hi (aa aF (aa aF (aa aF (aa aF (aa aF (aa aF (aa aF (aa aF (aa aF (aa aF aq))))))))))))),?_];exact #[bI,λ p ar=>q p ar]
theorem rE {i:Nat} (h:dC[i]?=some x):∃ p:Nat,x=.int (p:Int)/\cL[i]?=some p/\p<30:=by
 match i,h with
 | 0,h=>cases h;exact #[2,Y,Y,.aw]
 | 1,h=>cases h;exact #[3,Y,Y,.aw]
 | 2,h=>cases h;exact #[5,Y,Y,.aw]
 | 3,h=>cases h;exact #[7,Y,Y,.aw]
 | 4,h=>cases h;exact #[11,Y,Y,.aw]
 | 5,h=>cases h;exact #[13,Y,Y,.aw]
 | 6,h=>cases h;exact #[17,Y,Y,.aw]
 | 7,h=>cases h;exact #[19,Y,Y,.aw]
 | 8,h=>cases h;exact #[23,Y,Y,.aw]
 | 9,h=>cases h;exact #[29,Y,Y,.aw]
 | (k+10),h=>cases h
theorem CX:∀ (ag ah:eQ) i p e,ag[i]?=some p->ah[i]?=some e->gX (ag.take (i+1)) (ah.take (i+1))=gX (ag.take i) (ah.take i)*p ^ e
 | [],_,_,_,_,h,_=>by cases h
 | _,[],_,_,_,_,h=>by cases h
 | b::ag,a::ah,0,p,e,h,h'=>by
  have z:=dS h;have c:=dS h';subst z;subst c;show b ^ a*1=1*b ^ a;omega
 | b::ag,a::ah,i+1,p,e,h,h'=>by
  show b ^ a*gX (ag.take (i+1)) (ah.take (i+1))=b ^ a*gX (ag.take i) (ah.take i)*p ^ e;rw [CX ag ah i p e h h',n2]
def aa5 (K:aT):bz:=λ vs H Q Z=>∃ (b:Addr) (ah:bp),vs=[.ref b]/\aL K H b (ah.map V.int)/\ah.length=10/\(∀ e∈ah,0<=e/\e<2 ^ 62)/\∀ H',ax H H'->Q (.int (prod (ah.map Int.toNat))) H'
theorem Mo (T:aY K mg):b4 P w mg base bY 2 T.xC (aa5 K):=by
 refine T.xC.fn.cp jX .bU λ a0 A outer s H vs Q E m h=>?_
 obtain ⟨b,ah,rfl,ae,he,hm,q⟩:=h;refine #[_,(aD (ba 1 jX aF)
  (aD (eI dW Y (lB Y Y T.hl (aa (wd (xF T) m aV) (aa (U 0) aq))) (hs Y (cv (cH 2 jX) (cv (cH 3 jX) eh)))
   (aG (eI dW Y (jc Y T.hX (aa (U 3) aq)) (cH 4 jX)
   (aG (ba 1 jX (bf mP (U 1) (U 2)))))))
  (aG (aZ (U 1))))),?_]
 refine #[Y,λ t aI=>#[t,b,Y,#[_,aL.of bc],#[_,ax.tup (ax.new aI) ae],?_]];have cu:dC.length=10:=rfl;have l:(ah.map V.int).length=10:=by rw [bb];exact he
 refine BL (xs:=dC) (ys:=ah.map V.int) (λ i σ ao=>(∃ u v x,σ=[some (.ref b),some (.int (gX (cL.take i) ((ah.map Int.toNat).take i))),u,v,x])/\ax (upd H t (.tup dC)) ao) #[#[.n,.n,.n,Y],ax.refl _] ?_ ?_ ?_
 ·rintro i σ ao av ⟨_,s2⟩;exact #[aL.of (s2 _ _ bc),ax.tup s2 (ax.tup (ax.new aI) ae)]
 ·rintro i x y z σ ao n o r ⟨⟨u,v,B,rfl⟩,s2⟩;obtain ⟨p,rfl,ar,J⟩:=rE n;obtain ⟨e,rfl,c⟩:=gH o;obtain ⟨G,f⟩:=hm e (cg c);refine #[z,_,Y,aL.of bc,Y,_,_,Y,_,_,Y,Y,?_];refine #[e,Y,.ak,f,jb (λ j σ a=>(∃ x,σ=[some (.ref b),some (.int ((gX (cL.take i) ((ah.map Int.toNat).take i)*p ^ j:Nat))),some (.int p),some (.int e),x])/\ax (upd H t (.tup dC)) a) #[#[B,by rw [Nat.pow_zero,Nat.mul_one];rfl],ax.more s2 r] ?_ ?_]
  ·rintro j σ a I ⟨⟨d,rfl⟩,s3⟩;refine #[_,_,Y,Y,.inr #[.ak,.ak],#[some (.int (0+j)),?_],s3];rw [Nat.pow_succ,<-n2,Int.natCast_mul _ p];rfl
  ·rintro σ a ⟨⟨d,rfl⟩,s3⟩;refine #[#[some (.int p),some (.int e),d,?_],s3];have k:(ah.map Int.toNat)[i]?=some e.toNat:=by rw [dg,c];rfl
   rw [CX cL (ah.map Int.toNat) i p e.toNat ar k]
 ·rintro σ ao ⟨⟨u,v,x,rfl⟩,s2⟩;have g:min dC.length (ah.map V.int).length=10:=by rw [cu,l];rfl
  refine (?_);rw [g];have C:cL.take 10=cL:=rfl;have D:(ah.map Int.toNat).take 10=ah.map Int.toNat:=hU (by rw [bb,he];exact bL _);rw [C,D];exact q ao ((ax.new aI).trans s2)
def D3 (a b l:Addr) (H:aC) (c cd:Nat) (σ:St) (ao:aC):Prop:=∃ (b3:Int) (xs:bp) (u v t1 d:e6),σ=[some (.ref a),some (.ref b),some (.ref l),u,v,t1,d]/\br a H ao/\ao a=some (.lst [.int b3])/\ao l=some (.lst (xs.map V.int))/\xs.length=10/\(ups xs).sum<=c/\(downs xs).sum<=cd
noncomputable def ml:V->V
 | .int j=>.int (if j>0 then j else 0)
 | v=>v
noncomputable def qx:V->V
 | .int j=>.int (if 0-j>0 then 0-j else 0)
 | v=>v
theorem VC (xs:bp):(xs.map V.int).map ml=(xs.map λ x=>if x>0 then x else 0).map V.int:=by rw [fa,fa];rfl
theorem VD (xs:bp):(xs.map V.int).map qx=(xs.map λ x=>if 0-x>0 then 0-x else 0).map V.int:=by rw [fa,fa];rfl
theorem Vh (xs):(xs.map λ x=>if x>0 then x else 0).map Int.toNat=ups xs:=by
 rw [fa];refine q1 λ x Z=>?_
 show (if x>0 then x else 0).toNat=x.toNat;split<;>omega
theorem W6 (xs):(xs.map λ x=>if 0-x>0 then 0-x else 0).map Int.toNat=downs xs:=by
 rw [fa];refine q1 λ x Z=>?_
 show (if 0-x>0 then 0-x else 0).toNat=(-x).toNat;split<;>omega
theorem CU:∀ {l:eQ} {x:Nat},x∈l->x<=l.sum
 | [],_,h=>by cases h
 | y::r,x,h=>by
  rw [n3];rcases b5.mp h with z|z
  ·omega
  ·have:=CU z;omega
inductive Nj:bz
 |mk {vs H Q E} (a b:Addr) (n:Int) (ns:bp):vs=[.ref a,.ref b]->H a=some (.lst [.int n])->H b=some (.tup (ns.map V.int))->1<=ns.length->ns.length<=10->(∀ m∈ns,0<=m/\m<10)->(∀ p H' (b3 i j),br a H H'->H' a=some (.lst [.int b3])->H' p=some (.tup [.int i,.int j])->ey i j=.t->Q (.ref p) H')->Nj vs H Q E
theorem abm (T:aY K mg):b4 P w mg base bY 3 T.Md Nj:=by
 refine T.Md.fn.cp lR .bU λ a0 A outer s H vs Q E G h=>?_
 obtain ⟨a,b,n,ns,rfl,au,ae,zP,u7,hm,q⟩:=h;refine #[_,(aD (ba 2 lR (bf Hd (tn (aa aF aq)) aF))
  (aD (eI dW Y (jc Y T.hX (aa (a4 (m2 T) G aV (aa (U 0) (aa aF aq))) aq)) (cH 3 lR)
   (aD (ba 4 lR (bO d6 (U 1) (a4 (m2 T) G aV (aa (U 0) (aa (bR fb T.dz dy (aa (U 1) aq)) aq))) (λ _ _=>rfl)))
  (aG (ku (bf ez (bO cz (U 2) (U 4) (λ _ _=>rfl)) aF) (tp (U 2) (U 4) set_list)))))
  (aD (eI dW Y (jc Y T.hX (aa (a4 (m2 T) G aV (aa (U 0) (aa aF aq))) aq)) (cH 3 lR)
   (aD (ba 4 lR (bO d6 (U 1) (a4 (m2 T) G aV (aa (U 0) (aa (bR fb T.dz dy (aa (U 1) aq)) aq))) (λ _ _=>rfl)))
  (aG (ku (bf gE (bO cz (U 2) (U 4) (λ _ _=>rfl)) aF) (tp (U 2) (U 4) set_list)))))
  (aD (ba 5 lR (dv rJ T.gr gq (aa (eA (dp lR (N:=["one"]) (js:=[.n]) (dV _)) Y (mZ (U 2)) (λ _ _ _ _=>d1) (λ _ _ _ _=>ei)
    (λ _ _ _ _=>(bR (tX Y) T.pd o_ (aa aF (aa (U 0) aq))))) aq)))
  (aD (ba 6 lR (dv rJ T.gr gq (aa (eA (dp lR (N:=["one"]) (js:=[.n]) (dV _)) Y (mZ (U 2)) (λ _ _ _ _=>d1) (λ _ _ _ _=>ei)
    (λ _ _ _ _=>(bR (tX Y) T.pd o_ (aa aF (aa (bf gE aF (U 0)) aq))))) aq)))
  (aG (aZ (Hi (aa (a4 (Mo T) G aV (aa (U 5) aq)) (aa (a4 (Mo T) G aV (aa (U 6) aq)) aq)))))))))),?_]
 refine #[bI,λ gw mc=>#[gw,10,_,Y,Y,bc,.aw,.aw,.aw,λ l eO=>?_]];have S:=cq ae au nofun;have EW:=b0 au mc;have C:a≠l:=b0 (by rw [a3 EW];exact au) eO;have hB:br a H (upd (upd H gw (.lst [.int 0])) l (.lst (List.replicate (10:Int).toNat [V.int 0]).flatten)):=((br.refl a H).new mc).new eO;have Ez:H l=.n:=by
  have:=eO;unfold upd at this;split at this
  ·cases this
  ·exact this
 have turn:∀ ao b3,br a H ao->ao a=some (.lst [.int b3])->∃ m:Int,0<=m/\m<10/\0<=b3%((ns.map V.int).length)/\(ns.map V.int)[(b3%((ns.map V.int).length)).toNat]?=some (.int m):=by
  intro ao b3 _ _;have Rh:((ns.map V.int).length)=(ns.length):=by rw [bb]
  rw [Rh];have J:=jQ b3 (show (ns.length:Int)≠0 by omega);have g1:=lJ b3 (show (0:Int)<ns.length by omega);have ay:(b3%(ns.length:Int)).toNat<ns.length:=by omega
  obtain ⟨m0,jk⟩:=hm _ (kv ay);exact #[ns[(b3%(ns.length:Int)).toNat],m0,jk,J,by rw [dg,cV ay];rfl]
 have aeg:((ns.map V.int).length:Int)=(ns.length):=by rw [bb]
 have adP:=jQ n (show 4≠0 by decide);have adQ:=lJ n (show 0<4 by decide);refine #[a,n,4,Y,(by rw [a3 C,a3 EW];exact au),.aw,.aw,_,Y,.ak,.ak,jb (n:=(n%4).toNat) (λ i σ ao=>D3 a b l H i 0 σ ao) ?_ ?_ ?_]
 ·exact #[n/4,List.replicate 10 0,.n,.n,.n,.n,Y,hB.set,bc,by rw [a3 C.symm,bc];rfl,Y,.aw,.aw]
 ·rintro i σ ao av ⟨b3,xs,u,v,t1,I,rfl,k,y,z,g,B,hd⟩;obtain ⟨m,m0,jk,J,Z⟩:=turn ao b3 k y;have L:ao b=some (.tup (ns.map V.int)):=k b _ S ae;refine #[b,_,Y,.inr (aL.of L),a,b3,_,Y,y,.ak,.ak,b,_,_,_,Y,Y,aL.of (by rw [a3 S];exact L),fF J Z,?_];have M:(upd ao a (.lst [.int (b3/((ns.map V.int).length))])) l=some (.lst (xs.map V.int)):=by rw [a3 C.symm];exact z
  have zO:m.toNat<xs.length:=by omega
  have d:xs[m.toNat]?=some xs[m.toNat]:=cV zO;have zZ:(xs.map V.int)[m.toNat]?=some (.int xs[m.toNat]):=by rw [dg,d];rfl
  refine #[l,_,_,_,Y,Y,aK.of M,fF m0 zZ,_,_,Y,Y,l,_,_,_,Y,Y,M,tg m0 (by rw [bb,g];omega),?_];refine #[b3/((ns.map V.int).length),xs.set m.toNat (xs[m.toNat]+1),_,_,t1,I,Y,?_,?_,?_,?_,?_,?_]
  ·intro c o O e;rw [a3 (b0 e Ez),a3 O];exact k c o O e
  ·rw [a3 C,bc]
  ·rw [bc,mQ]
  ·rw [pI];exact g
  ·exact dT (Ht d) .ak
  ·exact dT (W7 d) hd
 rintro σ ao ⟨b3,xs,u,v,t1,I,rfl,k,y,z,g,B,hd⟩;have adR:=jQ b3 (show 4≠0 by decide);have adS:=lJ b3 (show (0:Int)<4 by decide);refine #[a,b3,4,Y,y,.aw,.aw,_,Y,.ak,.ak,jb (n:=(b3%4).toNat) (λ i σ ao=>D3 a b l H 3 i σ ao) ?_ ?_ ?_]
 ·exact #[b3/4,xs,u,v,t1,I,Y,k.set,bc,by rw [a3 C.symm];exact z,g,.ak,hd]
 ·clear B hd g z y k;rintro i σ ao av ⟨b3,xs,u,v,t1,I,rfl,k,y,z,g,B,hd⟩;obtain ⟨m,m0,jk,J,Z⟩:=turn ao b3 k y;have L:ao b=some (.tup (ns.map V.int)):=k b _ S ae;refine #[b,_,Y,.inr (aL.of L),a,b3,_,Y,y,.ak,.ak,b,_,_,_,Y,Y,aL.of (by rw [a3 S];exact L),fF J Z,?_];have M:(upd ao a (.lst [.int (b3/((ns.map V.int).length:Int))])) l=some (.lst (xs.map V.int)):=by rw [a3 C.symm];exact z
  have zO:m.toNat<xs.length:=by omega
  have d:xs[m.toNat]?=some xs[m.toNat]:=cV zO;have zZ:(xs.map V.int)[m.toNat]?=some (.int xs[m.toNat]):=by rw [dg,d];rfl
  refine #[l,_,_,_,Y,Y,aK.of M,fF m0 zZ,_,_,Y,Y,l,_,_,_,Y,Y,M,tg m0 (by rw [bb,g];omega),?_];refine #[b3/((ns.map V.int).length:Int),xs.set m.toNat (xs[m.toNat]-1),_,_,t1,I,Y,?_,?_,?_,?_,?_,?_]
  ·intro c o O e;rw [a3 (b0 e Ez),a3 O];exact k c o O e
  ·rw [a3 C,bc]
  ·rw [bc,mQ]
  ·rw [pI];exact g
  ·exact dT (Ym d) B
  ·exact dT (ZF d) .ak
 clear B hd g z y k;rintro σ ao ⟨b3,xs,u,v,t1,I,rfl,k,y,z,g,B,hd⟩;have Ep:(downs xs).sum<=3:=by omega
 refine #[l,Y,#[_,aK.of z],λ D aU=>MV (xs:=xs.map V.int) (f:=ml) Y (by rw [bb,g];decide) aU (aK.of z) ?_ #[D,_,Y,.inl #[aK.of bc,λ t aI=>?_]]]
 ·intro x H' R d r;obtain ⟨j,_,rfl⟩:=c0.mp d;exact #[_,_,Y,r]
 have Ey:(upd (upd ao D (.lst ((xs.map V.int).map ml))) t (.tup ((xs.map V.int).map ml))) l=some (.lst (xs.map V.int)):=(ax.more (ax.new aU) aI) _ _ z;refine #[l,Y,#[_,aK.of Ey],λ hx X=>MV (xs:=xs.map V.int) (f:=qx) Y (by rw [bb,g];decide) X (aK.of Ey) ?_ #[hx,_,Y,.inl #[aK.of bc,λ t' EG=>?_]]]
 ·intro x H' R d r;obtain ⟨j,_,rfl⟩:=c0.mp d;exact #[_,_,Y,Y,_,_,Y,r]
 have s4:ax ao (upd (upd (upd (upd ao D (.lst ((xs.map V.int).map ml))) t (.tup ((xs.map V.int).map ml))) hx (.lst ((xs.map V.int).map qx))) t' (.tup ((xs.map V.int).map qx))):=ax.more (ax.more (ax.more (ax.new aU) aI) X) EG;have QP:(upd (upd (upd (upd ao D (.lst ((xs.map V.int).map ml))) t (.tup ((xs.map V.int).map ml))) hx (.lst ((xs.map V.int).map qx))) t' (.tup ((xs.map V.int).map qx))) t=some (.tup ((xs.map V.int).map ml)):=(ax.more (ax.new X) EG) _ _ bc;refine #[t,xs.map λ x=>if x>0 then x else 0,Y,?_,by rw [bb];exact g,?_,λ j1 s5=>#[t',xs.map λ x=>if 0-x>0 then 0-x else 0,Y,?_,by rw [bb];exact g,?_,λ fJ hG=>#[bI,λ p ar=>?_]]]
 ·rw [<-VC];exact aL.of QP
 ·intro e he;obtain ⟨x,d,rfl⟩:=c0.mp he;have:=CU (mS (f:=Int.toNat) d);have hc:(xs.map Int.toNat).sum<=3:=B;split<;>omega
 ·rw [<-VD];exact aL.of (s5 _ _ bc)
 ·intro e he;obtain ⟨x,d,rfl⟩:=c0.mp he;have:=CU (mS (f:=λ x:Int=>(-x).toNat) d);have hc:(xs.map λ x:Int=>(-x).toNat).sum<=3:=Ep;split<;>omega
 ·have sL:ax ao fJ:=(s4.trans s5).trans hG;refine q p _ b3 _ _ ((k.trans (br.of sL)).new ar) ?_ bc ?_
  ·exact (ax.new ar) _ _ (sL _ _ y)
  ·rw [Vh,W6];exact LA B Ep
def i4 (H:aC) (x:V):Prop:=∃ (c:Addr) (i j:Int),x=.ref c/\H c=some (.tup [.int i,.int j])/\ey i j=.t
theorem i4.hQ (a) (n) (h:i4 H x) (au:H a=some (.lst [.int n])) (d:br a H H'):i4 H' x:=by
 obtain ⟨c,i,j,rfl,b,f⟩:=h;exact #[c,i,j,Y,d c _ (cq b au nofun) b,f]
inductive Dc:bz
 |mk {vs H Q E} (a b:Addr) (n most:Int) (ns:bp):vs=[.ref a,.ref b,.int most]->H a=some (.lst [.int n])->H b=some (.tup (ns.map V.int))->1<=ns.length->ns.length<=10->(∀ m∈ns,0<=m/\m<10)->1<=most->most<=16->(∀ p H' b3 xs,br a H H'->H' a=some (.lst [.int b3])->H' p=some (.tup xs)->1<=xs.length->(xs.length)<=most->(∀ x∈xs,i4 H' x)->Q (.ref p) H')->Dc vs H Q E
theorem aaV (T:aY K mg):b4 P w mg base bY 4 T.Ls Dc:=by
 refine T.Ls.fn.cp MG .bU λ a0 A outer s H vs Q E O h=>?_
 obtain ⟨a,b,n,most,ns,rfl,au,ae,Z,u7,hm,k1,k2,q⟩:=h;refine #[_,(aG (aZ (dv rJ T.gr gq (aa (eA (dp MG (N:=["k", "pot", "places"]) (js:=[.n,some 0,some 1]) (jO.mpr #[Y,(jO.mpr #[Y,(dV _)])])) Y (jc Y T.hX (aa (bf ez aF (a4 (m2 T) O aV (aa (U 0) (aa (U 2) aq)))) aq)) (λ _ _ _ _=>d1) (λ _ _ _ _=>ei)
    (λ _ _ _ _=>(a4 (abm T) O aV (aa (U 1) (aa (U 2) aq))))) aq)))),?_]
 have z5:=cq ae au nofun;have DG:=jQ n (show most≠0 by omega);have g1:=lJ n (show 0<most by omega);refine #[a,n,most,Y,au,.ak,.ak,_,_,Y,Y,_,Y,.ak,.ak,λ D d=>?_];have r:D≠a:=λ z=>by rw [z,bc] at d;cases d
 have S:H D=.n:=by rw [a3 r] at d;exact d
 refine ZE (by rw [b8];omega) (λ i σ' H' ys=>(∃ (u:e6) (b3:Int),σ'=[u,some (.ref a),some (.ref b)]/\H' a=some (.lst [.int b3]))/\br a H H'/\∀ y∈ys,i4 H' y) #[#[.n,n/most,Y,by rw [a3 r.symm,bc]],(br.upd).new d,λ y g=>absurd g .zs] ?_ ?_
 ·rintro i σ' H' ys R av B G ⟨⟨u,b3,rfl,l⟩,j,g⟩ k;have X:=j b _ z5 ae;refine #[a,b,b3,ns,Y,l,X,Z,u7,hm,λ p L jl DK OW v aU M f4=>?_];have C:=v D _ r B;have aW:∀ c o,c≠D->L c=some o->(upd L D (.lst (ys++[V.ref p]))) c=some o:=λ c o t e=>by rw [a3 t];exact e
  have RC:=cq M C nofun;refine k _ _ _ C #[#[_,jl,Y,aW _ _ r.symm aU],?_,?_]
  ·intro c o t e;exact aW c o (b0 e S) (v c o t (j c o t e))
  ·intro y QX;rcases i1.mp QX with z|z
   ·obtain ⟨c,I,J,rfl,m,f⟩:=i4.hQ a b3 (g y z) l v;exact #[c,I,J,Y,aW _ _ (cq m C nofun) m,f]
   ·rw [dH] at z;subst z;exact #[p,DK,OW,Y,aW _ _ RC M,f4]
 ·rintro σ' H' ys B G ⟨⟨u,b3,rfl,l⟩,j,g⟩;refine #[D,_,Y,.inl #[aK.of B,λ p ar=>?_]];refine q p _ b3 ys (j.new ar) ((ax.new ar) _ _ l) bc (by rw [G];omega) (by rw [G];omega) λ x dq=>?_
  obtain ⟨c,I,J,rfl,m,f⟩:=g x dq;exact #[c,I,J,Y,(ax.new ar) _ _ m,f]
inductive Li:bz
 |mk {vs H Q E} (a:Addr) (n ik:Int):vs=[.ref a,.int ik]->H a=some (.lst [.int n])->0<ik->ik<1073741824->(∀ (r b3) H',0<=r->r<ik->br a H H'->H' a=some (.lst [.int b3])->Q (.int r) H')->Li vs H Q E
theorem gG (T:aY K mg):b4 P w mg base bY 1 T.B8 Li :=
 (m2 T).imp λ vs H Q E ⟨a,n,ik,e,au,h0,af,q⟩=>#[a,n,ik,e,au,h0,af,q _ (n/ik) _ (jQ n .ak) (lJ n h0) br.upd bc]
inductive Ku:bz
 |mk {vs H Q E} (a b:Addr) (n most:Int) (ns:bp):vs=[.ref a,.ref b,.int most]->H a=some (.lst [.int n])->H b=some (.tup (ns.map V.int))->ns.length<=10->(∀ m∈ns,0<=m/\m<10)->0<=most->most<=1000000->(∀ p H' b3 (ah:bp),br a H H'->H' a=some (.lst [.int b3])->H' p=some (.tup (ah.map V.int))->ah.length=10->(∀ e∈ah,0<=e/\e<=most)->Q (.ref p) H')->Ku vs H Q E
theorem mem_set {α: Type} {xs:List α} {v x: α} (h:x∈xs.set i v):x=v\/x∈xs:=(List.mem_or_eq_of_mem_set h).elim .inr .inl
theorem Y4 (T:aY K mg):b4 P w mg base bY 2 T.Iy Ku:=by
 refine T.Iy.fn.cp CO .bU λ a0 A outer s H vs Q E D h=>?_
 obtain ⟨a,b,n,most,ns,rfl,au,ae,aB,hm,m0,jk,q⟩:=h;refine #[_,(aD (ba 3 CO (bf I3 (cW (aa aF aq)) aF))
  (aD (eI dW Y (jK (U 1)) (cH 4 CO)
   (aG (ku (a4 (gG T) D aV (aa (U 0) (aa (bf ez (U 2) aF) aq))) (tp (U 3) (U 4) set_list))))
  (aD (bM (bq cY (a4 (gG T) D aV (aa (U 0) (aa aF aq))) aF (bh _))
   (aG (ku (a4 (gG T) D aV (aa (U 0) (aa (bf ez (U 2) aF) aq))) (tp (U 3) (a4 (gG T) D aV (aa (U 0) (aa aF aq))) set_list)))
   bJ)
  (aG (aZ (dv m4 T.gr gq (aa (U 3) aq))))))),?_]
 have z5:=cq ae au nofun;refine #[bI,λ gw H1 f1 s1 mc=>#[gw,10,_,Y,Y,mc,.aw,.aw,.aw,λ l ao f2 s2 eO=>?_]];have g:=b0 (s1 _ _ au) f2;have aU:=s1.free f2;refine #[b,Y,#[_,aL.of (s2 _ _ (s1 _ _ ae))],wV (λ i σ k=>∃ (b3:Int) (ah:bp) (u:e6),σ=[some (.ref a),some (.ref b),some (.int most),some (.ref l),u]/\br a H k/\k a=some (.lst [.int b3])/\k l=some (.lst (ah.map V.int))/\ah.length=10/\∀ e∈ah,0<=e/\e<=most)
  #[n,List.replicate 10 0,.n,Y,br.of (s1.trans s2),s2 _ _ (s1 _ _ au),eO,Y,λ e he=>by rw [(List.mem_replicate.mp he).2];omega] (λ i σ k _ ⟨_,_,_,_,t,_⟩=>aL.of (t _ _ z5 ae)) ?_ ?_]
 ·rintro i x σ k dq ⟨b3,ah,u,rfl,t,I,C,he,B⟩;obtain ⟨m,rfl,Qw⟩:=gH dq;obtain ⟨k0,k1⟩:=hm m (cg Qw);refine #[_,_,Y,Y,a,b3,_,Y,I,.ak,.ak,λ r G N cP oC f y=>?_];refine #[l,_,_,_,Y,Y,f _ _ g.symm C,tg k0 (by rw [bb,he];omega),#[G,ah.set m.toNat r,_,Y,?_,?_,?_,?_,?_]]
  ·intro c o j e;rw [a3 (b0 e aU)];exact f c o j (t c o j e)
  ·rw [a3 g];exact y
  ·rw [bc,mQ]
  ·rw [pI];exact he
  ·intro e L;rcases mem_set L with z|z
   ·rw [z];omega
   ·exact B e z
 rintro σ k ⟨b3,ah,u,rfl,t,I,C,he,B⟩;have fin:∀ d M (v:bp),br a H d->d a=some (.lst [.int M])->d l=some (.lst (v.map V.int))->v.length=10->(∀ e∈v,0<=e/\e<=most)->∀ p H',d p=.n->ax d H'->H' p=some (.tup (v.map V.int))->Q (.ref p) H' :=
  λ d M v X J adD Qj SA p H' a_ sp ar=>q p H' M v (X.trans (br.of sp)) (sp _ _ J) ar Qj SA
 refine #[a,b3,6,Y,I,.aw,.aw,λ r G N cP oC f y=>#[Y,_,Y,c3 (λ _=>?_) (λ _=>?_)]]
 ·refine #[_,_,Y,Y,a,G,_,Y,y,.ak,.ak,λ uL yH d E6 ad4 O J=>?_];refine #[a,yH,10,Y,J,.aw,.aw,λ oD jl fJ RS ad5 R Z=>?_];have Qs:=R _ _ g.symm (O _ _ g.symm (f _ _ g.symm C));refine #[l,_,_,_,Y,Y,Qs,tg RS (by rw [bb,he];omega),?_];refine #[l,_,Y,aK.of bc,?_];rw [<-mQ];refine fin _ jl (ah.set oD.toNat uL) ?_ ?_ ?_ ?_ ?_
  ·intro c o j e;rw [a3 (b0 e aU)];exact R c o j (O c o j (f c o j (t c o j e)))
  ·rw [a3 g];exact Z
  ·rw [bc]
  ·rw [pI];exact he
  ·intro e L;rcases mem_set L with z|z
   ·rw [z];omega
   ·exact B e z
 ·have S:=f _ _ g.symm C;exact #[l,_,Y,aK.of S,fin N G ah (t.trans f) y S he B]
def Cp:bz:=λ vs H Q Z=>∃ v,vs=[v]/\eH H v/\Q (.aJ (qw v)) H
theorem Ml (T:aY K mg):iP P w mg base 1 T.rx Cp:=by
 refine T.rx.fn.iR aaC .bU λ a0 A outer s H vs Q E c h=>?_
 obtain ⟨v,rfl,k,q⟩:=h;refine #[_,(aG (aZ (qV (bR h2 T.el ek (aa (U 0) (aa (ho (by rfl) T.mE mB) aq))) (pD (Hh (bR h2 T.el ek (aa (U 0) (aa (ho (by rfl) T.G7 GU) aq)))))))),?_];obtain ⟨t,ty,e⟩:=Gx k;obtain ⟨t',b,a⟩:=Gw k;rw [<-G3] at q;refine #[v, "int", t,_,Y,ty,e,_,Y,?_];cases av:ve v with
 | false =>
  rw [av] at q;exact bD q
 | true =>
  rw [av] at q;exact b6 #[v, "bool", t',_,Y,b,a,_,Y,q]
theorem LH (T:aY K mg):b4 P w mg base bY 1 T.rx Cp:=(Ml T).fn
noncomputable def natAt (σ:St) (i:Nat):Nat:=match σ[i]? with
 | some (some (.int r))=>r.toNat
 | _=>0
theorem pR (h:decide (V.int i=V.int j)=.t):i=j:=by
 have:=cM h;injection this
theorem BN (h:¬ decide (V.int i=V.int j)=.t):i≠j:=λ z=>h (bP (by rw [z]))
theorem L7:∀ (ag:eQ) i p n,ag[i]?=some p->fG (ag.take (i+1)) n=strip p (fG (ag.take i) n):=by
 intro ag i p n h;unfold fG;rw [jN,h,List.foldl_append];rfl
def N_:bz:=λ vs H Q Z=>∃ m,vs=[.int m]/\1<=m/\Q (.int (g9 m.toNat)) H
theorem Oa (T:aY K mg):iP P w mg base 1 T.rL N_:=by
 refine T.rL.fn.iR x1 .bU λ a0 A outer s H vs Q E e h=>?_
 obtain ⟨m,rfl,hm,q⟩:=h;refine #[_,(aD (ba 1 x1 (U 0))
  (aD (eI dW Y (jK (fZ (v:=.ref T.g8) (by rfl) T.pW Y)) (cH 2 x1)
   (aG (pY dW (bq cY (bf i7 (U 1) (U 2)) aF (bh _))
   (aG (ba 1 x1 (bf rg (U 1) (U 2)))))))
  (aG (aZ (U 1))))),?_]
 refine #[T.g8,Y,#[dC,T.jV H],wV (λ i σ ao=>(∃ u,σ=[some (.int m),some (.int (fG (cL.take i) m.toNat)),u])/\ao=H) #[#[.n,?_],Y] (λ i σ ao _ _=>T.jV ao) ?_ ?_]
 ·show [some (V.int m),some (V.int m),.n]=_;rw [show fG (cL.take 0) m.toNat=m.toNat from rfl,hW .ak]
 ·rintro i x σ ao j ⟨⟨u,rfl⟩,rfl⟩;obtain ⟨p,rfl,ar,k⟩:=rE j;have d:=i8 p (cg ar);have g:1<=fG (cL.take i) m.toNat:=xy _ (λ r e=>i8 r (tM e)) _ .ak;refine p3 (λ σ c=>∃ r:Nat,σ=[some (.int m),some (.int r),some (.int p)]/\1<=r/\strip p r=strip p (fG (cL.take i) m.toNat)/\c=ao) (λ σ _=>natAt σ 1) #[_,Y,g,Y,Y] ?_;rintro σ c ⟨r,rfl,b,f,rfl⟩;refine #[_,_,Y,Y,.ak,Y,_,Y,c3 (λ h=>?_) (λ h=>?_)]
  ·have h0:=pR h;have a:r%p=0:=by omega
   refine qB #[_,_,Y,Y,#[.ak,.ak],?_];refine #[#[r/p,?_,rz b a,by rw [<-ru d b a];exact f,Y],?_]
   ·rw [q8];rfl
   ·show (r/(p:Int)).toNat<((r:Int)).toNat;rw [<-q8,fV,fV];exact lH b d
  ·have h0:¬ r%(p:Int)=0:=BN h;have a:r%p≠0:=by omega
   refine #[#[some (.int (p:Int)),?_],Y];rw [L7 cL i p _ ar,<-f,p2 a]
 ·rintro σ ao ⟨⟨u,rfl⟩,rfl⟩;exact (q)
theorem acz (T:aY K mg):b4 P w mg base bY 1 T.rL N_:=(Oa T).fn
def aa2:bz:=λ vs H Q Z=>∃ (p:Nat) (m:Int),vs=[.int p,.int m]/\2<=p/\p<30/\1<=m/\Q (.int (cnt p m.toNat)) H
theorem abe (T:aY K mg):iP P w mg base 1 T.ua aa2:=by
 refine T.ua.fn.iR ud .bU λ a0 A outer s H vs Q E g h=>?_
 obtain ⟨p,m,rfl,e,f,hm,q⟩:=h;refine #[_,(aD (ba 2 ud aF)
  (aD (ba 3 ud (U 1))
  (aD (pY dW (bq cY (bf i7 (U 3) (U 0)) aF (bh _))
   (aD (ba 3 ud (bf rg (U 3) (U 0)))
  (aG (ba 2 ud (bf ez (U 2) aF)))))
  (aG (aZ (U 2)))))),?_]
 refine (?_);refine p3 (λ σ d=>∃ o r:Nat,σ=[some (.int p),some (.int m),some (.int o),some (.int r)]/\1<=r/\o+cnt p r=cnt p m.toNat/\d=H) (λ σ _=>natAt σ 3) #[0,m.toNat,by rw [hW .ak];rfl,.ak,Nat.zero_add _,Y] ?_;rintro σ d ⟨o,r,rfl,b,c,rfl⟩;refine #[_,_,Y,Y,.ak,Y,_,Y,c3 (λ h=>?_) (λ h=>?_)]
 ·have h0:=pR h;have a:r%p=0:=by omega
  refine qB #[_,_,Y,Y,#[.ak,.ak],_,_,Y,Y,?_];refine #[#[o+1,r/p,?_,rz b a,by rw [wR e b a] at c;omega,Y],?_]
  ·rw [q8,Int.natCast_add];rfl
  ·show (r/(p:Int)).toNat<((r:Int)).toNat;rw [<-q8,fV,fV];exact lH b e
 ·have h0:¬ r%(p:Int)=0:=BN h;have a:r%p≠0:=by omega
  rw [q9 a,Nat.add_zero] at c;subst c;exact (q)
theorem Z6 (T:aY K mg):b4 P w mg base bY 1 T.JG Cp:=by
 refine T.JG.fn.cp aae .bU λ a0 A outer s H vs Q E c h=>?_
 obtain ⟨v,rfl,k,q⟩:=h;refine #[_,(aG (aZ (qV (bR h2 T.el ek (aa (U 0) (aa (ho (by rfl) T.mE mB) aq))) (pD (Hh (bR h2 T.el ek (aa (U 0) (aa (ho (by rfl) T.G7 GU) aq)))))))),?_];obtain ⟨t,ty,e⟩:=Gx k;obtain ⟨t',b,a⟩:=Gw k;rw [<-G3] at q;refine #[v, "int", t,_,Y,ty,e,_,Y,?_];cases av:ve v with
 | false =>
  rw [av] at q;exact bD q
 | true =>
  rw [av] at q;exact b6 #[v, "bool", t',_,Y,b,a,_,Y,q]
noncomputable def s8 (ah:eQ):bj:=ah.map λ e=>V.int (e:Nat)
def Zj:bz:=λ vs H Q Z=>∃ m,vs=[.int m]/\1<=m/\(g9 m.toNat≠1->∀ H',ax H H'->Q .aX H') /\
 (g9 m.toNat=1->∀ p H',ax H H'->H p=.n->H' p=some (.tup (s8 (iX cL m.toNat)))->Q (.ref p) H')
theorem J_ (T:aY K mg):b4 P w mg base bY 2 T.Iw Zj:=by
 refine T.Iw.fn.cp rr .bU λ a0 A outer s H vs Q E j h=>?_
 obtain ⟨m,rfl,hm,aO,J⟩:=h;refine #[_,(aD (ba 1 rr (tn aq))
  (aD (eI dW Y (jK (wd (xF T) j aV)) (cH 2 rr)
   (aD (ba 3 rr aF)
  (aD (pY dW (bq cY (bf i7 (U 0) (U 2)) aF (bh _))
   (aD (ba 0 rr (bf rg (U 0) (U 2)))
  (aG (ba 3 rr (bf ez (U 3) aF)))))
  (aG (eY (eN hu kB kC CH (U 1) (aa (U 3) aq)))))))
  (aD (bM (bq gW (U 0) aF (bh _))
   (aG (aZ e_))
   bJ)
  (aG (aZ (dv rJ T.gr gq (aa (U 1) aq))))))),?_]
 refine #[bI,λ l q=>#[Y,λ t aI=>#[t,Y,#[_,aL.of bc],?_]]];have s0:ax H (upd (upd H l (.lst [])) t (.tup dC)):=ax.more (ax.new q) aI;have G:t≠l:=λ z=>by rw [z,bc] at aI;cases aI
 refine wV (λ i σ ao=>(∃ u v:e6,σ=[some (.int (fG (cL.take i) m.toNat)),some (.ref l),u,v])/\ax H ao/\ao t=some (.tup dC)/\ao l=some (.lst (s8 (iX (cL.take i) m.toNat)))) #[#[.n,.n,?_],s0,bc,by rw [a3 G.symm,bc];rfl] (λ i σ ao _ ⟨_,_,a,_⟩=>aL.of a) ?_ ?_
 ·show [some (V.int m),some (V.ref l),.n,.n]=_;rw [show fG (cL.take 0) m.toNat=m.toNat from rfl,hW .ak]
 ·rintro i x σ ao I ⟨⟨u,v,rfl⟩,s2,D,d⟩;obtain ⟨p,rfl,ar,L⟩:=rE I;have g:=i8 p (cg ar);have y:1<=fG (cL.take i) m.toNat:=xy _ (λ r j=>i8 r (tM j)) _ .ak;refine p3 (λ σ k=>∃ r o:Nat,σ=[some (.int r),some (.ref l),some (.int p),some (.int o)]/\1<=r/\strip p r=strip p (fG (cL.take i) m.toNat)/\o+cnt p r=cnt p (fG (cL.take i) m.toNat)/\k=ao) (λ σ _=>natAt σ 0) #[_,0,Y,y,Y,Nat.zero_add _,Y] ?_;rintro σ k ⟨r,o,rfl,f,C,B,rfl⟩;refine #[_,_,Y,Y,(by show (0:Int)<p;omega),Y,_,Y,c3 (λ h=>?_) (λ h=>?_)]
  ·have h0:=pR h;have c:r%p=0:=by omega
   refine qB #[_,_,Y,Y,#[.ak,.ak],_,_,Y,Y,?_];refine #[#[r/p,o+1,?_,rz f c,by rw [<-ru g f c];exact C,by rw [wR g f c] at B;omega,Y],?_]
   ·rw [q8,Int.natCast_add];rfl
   ·show (r/(p:Int)).toNat<((r:Int)).toNat;rw [<-q8,fV,fV];exact lH f g
  ·have h0:¬ r%(p:Int)=0:=BN h;have c:r%p≠0:=by omega
   have hlen:(s8 (iX (cL.take i) m.toNat)).length<sizeLine:=by
    show (List.map _ _).length<_;rw [bb,Mi,i3,b8];show min i 10<_;omega
   refine #[.inl #[Y,_,aK.of d],l,_,_,Y,Y,d,hlen,#[#[some (.int p),some (.int o),?_],?_,?_,?_]]
   ·rw [L7 cL i p _ ar,<-C,p2 c]
   ·intro b bQ n;rw [a3 (b0 n q)];exact s2 _ _ n
   ·rw [a3 G];exact D
   ·rw [bc,KP cL i p _ ar,<-B,q9 c,Nat.add_zero];show _=some (fe.lst (List.map _ (_++[o])));rw [ht];rfl
 ·rintro σ ao ⟨⟨u,v,rfl⟩,s2,D,d⟩;have e:fG (cL.take dC.length) m.toNat=g9 m.toNat:=rfl;have y:1<=g9 m.toNat:=aa8 .ak;rw [e];refine #[_,_,Y,Y,_,Y,c3 (λ h=>?_) (λ h=>?_)]
  ·have af:=cM h;exact aO .ak ao s2
  ·have af:¬ (1:Int)<(g9 m.toNat:Nat):=λ z=>h (bP z)
   refine #[l,_,Y,.inl #[aK.of d,λ p ar=>J .ak p _ (ax.more s2 ar) (s2.free ar) bc]]
def aa7:bz:=λ vs H Q Z=>∃ i,vs=[.int i]/\1<=i/\g9 i.toNat=1/\∀ p H',ax H H'->H' p=some (tupI (eG (g4 i.toNat)))->Q (.ref p) H'
theorem MW (T:aY K mg):iP P w mg base 2 T.oi aa7:=by
 refine T.oi.fn.iR MJ .bU λ a0 A outer s H vs Q E a h=>?_
 obtain ⟨i,rfl,af,b,q⟩:=h;refine #[_,(aD (bM (dx.pt (e9 (eW (d_ (h3 (Ml T) (a.mono .aw) Y Y T.rx.at_ T.rx.fn.aW T.rx.bd (aa (U 0) aq)))) (e9 (bq iZ (U 0) aF (bh _)) (gn (bq hn (h3 (Oa T) (a.mono .aw) Y Y T.rL.at_ T.rL.fn.aW T.rL.bd (aa (U 0) aq)) aF (bh _))))))
   (aG fH)
   bJ)
  (aG (aZ (dv m4 T.gr gq (aa (eA (dp MJ (N:=["prime", "number"]) (js:=[.n,some 0]) (jO.mpr #[Y,(dV _)])) Y (jK (fZ (v:=.ref T.g8) (by rfl) T.pW Y)) (λ Z Z Z Z=>d1) (λ Z Z Z Z=>ei)
    (λ Z Z Z Z=>(h3 (abe T) (a.mono .aw) Y Y T.ua.at_ T.ua.fn.aW T.ua.bd (aa (U 0) (aa (U 1) aq))))) aq))))),?_]
 refine #[_,Y,trivial,_,Y,bD ?_];refine #[_,_,Y,Y,_,Y,?_];rw [cK (show ¬ i<1 by omega)];refine bD #[i,Y,af,Y,_,Y,?_];rw [b];refine bD ?_;refine #[T.g8,Y,#[dC,T.jV H],λ D c=>Mg (f:=λ v=>match v with| .int p=>V.int (cnt p.toNat i.toNat)|v=>v) Y .aw c (T.jV H) ?_ ?_]
 ·intro x H' R j r;obtain ⟨z,b⟩:=g6 j;obtain ⟨p,rfl,ar,g⟩:=rE b;have e:=i8 p (cg ar);refine #[p,i,Y,e,g,.ak,?_];have d:R (V.int (cnt ((p:Int).toNat) i.toNat)) H':=r;rw [fV] at d;exact d
 ·refine #[D,_,Y,aK.of bc,λ p H' a_ sp ar=>q p H' ((ax.new c).trans sp) ?_];rw [ar];rfl
theorem Ir (n d):List.zipWith (λ x y=>x-y) (eG (g4 n)) (eG (g4 d))=chg n d:=by
 unfold eG chg;rw [List.zipWith_map]
def acV:bz:=λ vs H Q Z=>∃ (b:Addr) (i j:Int),vs=[.ref b]/\H b=some (.tup [.int i,.int j])/\ey i j=.t/\∀ p H',ax H H'->H' p=some (tupI (chg i.toNat j.toNat))->Q (.ref p) H'
theorem acX (T:aY K mg):iP P w mg base 3 T.uu acV:=by
 refine T.uu.fn.iR x2 .bU λ a0 A outer s H vs Q E d h=>?_
 obtain ⟨b,i,j,rfl,ae,hf,q⟩:=h;refine #[_,(aD (ba 1 x2 (h3 (MW T) (d.mono .aw) Y Y T.oi.at_ T.oi.fn.aW T.oi.bd (aa (bO d6 (U 0) aF (λ Z Z=>rfl)) aq)))
  (aD (ba 2 x2 (h3 (MW T) (d.mono .aw) Y Y T.oi.at_ T.oi.fn.aW T.oi.bd (aa (bO d6 (U 0) aF (λ Z Z=>rfl)) aq)))
  (aG (aZ (dv m4 T.gr gq (aa (eA (dp x2 (js:=[.n,.n]) (dV _)) Y (lB Y Y T.hl (aa (U 1) (aa (U 2) aq))) (λ Z Z Z Z=>(jT (n:=2) Y Y (cv d1 (cv (iF (i:=1) (show List.Nodup (["top", "bottom"]:b2) from by decide +kernel) Y (Or.inl Y) (Or.inr Y)) eh)))) (λ Z Z Z Z=>ei)
    (λ Z Z Z Z=>(bf gE (U 0) (U 1)))) aq)))))),?_]
 obtain ⟨⟨k,l⟩,⟨c2,dF⟩⟩:=C1 hf;refine #[b,_,_,_,Y,Y,aL.of ae,Y,i,Y,k,l,λ p1 H1 s1 a=>?_];refine #[b,_,_,_,Y,Y,aL.of (s1 _ _ ae),Y,j,Y,c2,dF,λ eE ao s2 c=>?_];refine #[p1,eE,Y,#[_,aL.of (s2 _ _ a)],#[_,aL.of c],λ D g=>?_];refine ue (by simp [eG,g4,cL];decide) #[_,_,Y] g (s2 _ _ a) c (λ x y H' R Z Z r=>#[_,_,Y,Y,r]) λ m s3 f=>?_
 refine #[D,_,Y,aK.of f,λ p e a_ s4 ar=>q p e (((s1.trans s2).trans s3).trans s4) ?_];rw [ar,Ir]
inductive Dl:bz
 |mk {vs H Q E} (b:Addr) (xs:bj) (aj:cX):vs=[.ref b]->H b=some (.tup xs)->d0 H xs aj->xs.length<=1000->(∀ l H' ys,H l=.n->ax H H'->H' l=some (.lst ys)->cO H' ys (rowsOf aj)->Q (.ref l) H')->Dl vs H Q E
theorem Nu (T:aY K mg):iP P w mg base 4 T.rG Dl:=by
 refine T.rG.fn.iR Nd .bU λ a0 A outer s H vs Q E n h=>?_
 obtain ⟨b,xs,aj,rfl,ae,hf,y,q⟩:=h;refine #[_,(aG (aZ (eA (dp Nd (N:=["fraction"]) (js:=[.n]) (dV _)) Y (jK (U 0)) (λ Z Z Z Z=>d1) (λ Z Z Z Z=>ei)
    (λ Z Z Z Z=>(h3 (acX T) (n.mono .aw) Y Y T.uu.at_ T.uu.fn.aW T.uu.bd (aa (U 0) aq)))))),?_]
 refine #[b,Y,#[_,aL.of ae],λ D j=>?_];refine tQ (by rw [b8];omega) (λ i σ' H' ys=>(∃ u,σ'=[u])/\ax H H'/\cO H' ys ((rowsOf aj).take i)) #[#[_,Y],ax.new j,cO.nil] (λ i σ' H' ys _ _ ⟨_,s',_⟩=>aL.of (s' _ _ ae)) ?_ ?_
 ·rintro i x σ' H' ys R r f t ⟨⟨u,rfl⟩,s',g⟩ v;obtain ⟨a,d,c,f1,rfl,m,f4⟩:=hf.2 i x r;refine #[c,a,d,Y,s' _ _ m,f4,λ p ao s2 ar=>?_];refine v _ _ _ (s2 _ _ f) #[#[_,Y],?_,?_]
  ·intro e o k;rw [a3 (b0 k j)];exact s2 _ _ (s' _ _ k)
  ·have l:(rowsOf aj)[i]?=some (chg a.toNat d.toNat):=by unfold rowsOf;rw [dg,f1];rfl
   rw [jN,l];exact cO.but ((g.same s2).app (cO.one #[p,Y,ar])) (s2 _ _ f) br.upd
 ·rintro σ' H' ys f t ⟨_,s',g⟩;rw [hU (by rw [kG,<-hf.1];exact bL _)] at g;exact q D H' ys j s' f g
theorem Di (T:aY K mg):b4 P w mg base bY 4 T.rG Dl:=(Nu T).fn
inductive Ih:bz
 |mk {vs H Q E} (a b:Addr) (cs ag:bp):vs=[.ref a,.ref b]->H a=some (tupI cs)->H b=some (tupI ag)->(∀ H',ax H H'->Q (.aJ (dQ cs ag)) H')->Ih vs H Q E
theorem Vm {i:Nat} (af:cs[i]?=some a) (ai:ag[i]?=some b) (h:b+a<0):dQ cs ag=.f:=by
 rw [mR];intro z;have:=tY.mp z i a b af ai;omega
theorem I0 (T:aY K mg):iP P w mg base 1 T.nS Ih:=by
 refine T.nS.fn.iR BY .bU λ a0 A outer s H vs Q E B h=>?_
 obtain ⟨a,b,cs,ag,rfl,au,ae,q⟩:=h;refine #[_,(aD (eI dW Y (lB Y Y T.hl (aa (U 0) (aa (U 1) aq))) (hs Y (cv (cH 2 BY) (cv (cH 3 BY) eh)))
   (aG (bM (bq iZ (bf ez (U 3) (U 2)) aF (bh _))
   (aG (aZ hS))
   bJ)))
  (aG (aZ hS))),?_]
 refine #[a,b,Y,#[_,aL.of au],#[_,aL.of ae],?_];refine BL (λ i σ ao=>(∃ u v,σ=[some (.ref a),some (.ref b),u,v])/\ax H ao/\∀ j,j<i->∀ x y,cs[j]?=some x->ag[j]?=some y->0<=y+x) #[#[.n,.n,Y],ax.refl H,λ j k=>by omega] (λ i σ ao _ ⟨_,s2,_⟩=>#[aL.of (s2 _ _ au),aL.of (s2 _ _ ae)]) ?_ ?_
 ·rintro i x y p σ ao m n ar ⟨⟨u,v,rfl⟩,s2,e⟩;obtain ⟨x,rfl,f⟩:=gH m;obtain ⟨y,rfl,g⟩:=gH n;refine #[p,_,Y,aL.of bc,Y,_,_,Y,_,_,Y,Y,?_];refine #[_,_,Y,Y,_,_,Y,Y,_,Y,c3 (λ h=>?_) (λ h=>?_)]
  ·have h0:=cM h;have aH:=q _ (ax.more (o:=.tup [.int x,.int y]) s2 ar);rw [Vm f g h0] at aH;exact aH
  ·have h0:¬ y+x<0:=λ z=>h (bP z)
   refine #[#[_,_,Y],ax.more s2 ar,λ j k r t c d=>?_];by_cases l:j=i
   ·subst l;rw [f] at c;rw [g] at d;cases c;cases d;omega
   ·exact e j .ak r t c d
 ·rintro σ ao ⟨⟨u,v,rfl⟩,s2,e⟩;have aH:=q ao s2;rw [tY.mpr λ j x y c d=>e j ?_ x y c d] at aH
  ·exact aH
  ·have af:=(dK.mp c).1;have ai:=(dK.mp d).1;rw [bb,bb];omega
inductive C8:bz
 |mk {vs H Q E} (l b:Addr) (ys:bj) (rows:ed) (ag:bp):vs=[.ref l,.ref b]->H l=some (.lst ys)->cO H ys rows->H b=some (tupI ag)->(∀ H',ax H H'->Q (gT (b_ rows ag)) H')->C8 vs H Q E
theorem Mk (T:aY K mg):iP P w mg base 2 T.rv C8:=by
 refine T.rv.fn.iR C6 .bU λ a0 A outer s H vs Q E y h=>?_
 obtain ⟨l,b,ys,rows,ag,rfl,k,m,ae,q⟩:=h;refine #[_,(aD (eI dW Y (w3 Y Y T.xE (aa (U 0) aq)) (hs Y (cv (cH 2 C6) (cv (cH 3 C6) eh)))
   (aG (bM (d_ (h3 (I0 T) (y.mono .aw) Y Y T.nS.at_ T.nS.fn.aW T.nS.bd (aa (U 3) (aa (U 1) aq))))
   (aG (aZ (U 2)))
   bJ)))
  (aG (aZ e_))),?_]
 refine #[l,ys,Y,k,?_];refine xc (λ i σ ao=>(∃ u v,σ=[some (.ref l),some (.ref b),u,v])/\ax H ao/\∀ j,j<i->∀ c,rows[j]?=some c->dQ c ag=.f) #[#[.n,.n,Y],ax.refl H,λ j r=>by omega] (λ i σ ao _ ⟨_,s2,_⟩=>s2 _ _ k) ?_ ?_
 ·rintro i x p σ ao B ar ⟨⟨u,v,rfl⟩,s2,d⟩;obtain ⟨c,a,f,rfl,au⟩:=m.at B;have s3:=ax.more (o:=.tup [.int i,.ref a]) s2 ar;refine #[p,_,Y,aL.of bc,Y,_,_,Y,_,_,Y,Y,?_];refine #[a,b,c,ag,Y,s3 _ _ au,s3 _ _ ae,λ n s4=>#[_,Y,c3 (λ h=>?_) (λ h=>?_)]]
  ·have aH:=q n (s3.trans s4);rw [wW rows ag i d (λ g e=>by rw [f] at e;cases e;exact h) (dK.mp f).1] at aH;exact (aH)
  ·refine #[#[_,_,Y],s3.trans s4,λ j r g e=>?_];by_cases t:j=i
   ·subst t;rw [f] at e;cases e;cases z:dQ c ag with
    | true=>exact absurd z h
    | false=>rfl
   ·exact d j .ak g e
 ·rintro σ ao ⟨⟨u,v,rfl⟩,s2,d⟩;have aH:=q ao s2;rw [CB rows ag λ j c e=>d j (by rw [m.1];exact (dK.mp e).1) c e] at aH;exact aH
theorem C3 (T:aY K mg):b4 P w mg base bY 2 T.rv C8:=(Mk T).fn
inductive Co:bz
 |mk {vs H Q E} (a b:Addr) (ag cs:bp) (m:Int):vs=[.ref a,.ref b,.int m]->H a=some (tupI ag)->H b=some (tupI cs)->(-(2 ^ 64)<m/\m<2 ^ 64)->ag.length<=1000->(∀ p H',ax H H'->H' p=some (tupI (bK ag cs m))->Q (.ref p) H')->Co vs H Q E
theorem CJ (T:aY K mg):iP P w mg base 1 T.mV Co:=by
 refine T.mV.fn.iR Jk .bU λ a0 A outer s H vs Q E j h=>?_
 obtain ⟨a,b,ag,cs,m,rfl,au,ae,hm,g,q⟩:=h;refine #[_,(aG (aZ (dv m4 T.gr gq (aa (eA (dp Jk (js:=[.n,.n,some 2]) (jO.mpr #[Y,(dV _)])) Y (lB Y Y T.hl (aa (U 0) (aa (U 1) aq))) (λ Z Z Z Z=>(jT (n:=2) Y Y (cv d1 (cv (iF (i:=1) (show List.Nodup (["power", "change", "many"]:b2) from by decide +kernel) Y (Or.inl Y) (Or.inr Y)) eh)))) (λ Z Z Z Z=>ei)
    (λ Z Z Z Z=>(bf ez (U 0) (bf mP (U 2) (U 1))))) aq)))),?_]
 refine #[a,b,Y,#[_,aL.of au],#[_,aL.of ae],λ D e=>?_];refine ue (by rw [b8];omega) #[_,_,Y] e au ae (λ x y H' R Z Z r=>#[_,_,Y,Y,.inl hm,_,_,Y,Y,r]) λ f s3 d=>?_
 exact #[D,_,Y,aK.of d,λ p c a_ s4 ar=>q p c (s3.trans s4) ar]
theorem Cf (T:aY K mg):b4 P w mg base bY 1 T.mV Co:=(CJ T).fn
def y8 (H:aC) (v:V):p_->Prop
 | .round b l=>∃ a,v=.ref a/\H a=some (.tup [.str "round", .int (b:Int),.int (l:Int)])
 | .rests n c=>∃ a d,v=.ref a/\H a=some (.tup [.str "rests", .int (n:Int),.ref d])/\H d=some (tupI c)
 | .iB=>∃ a,v=.ref a/\H a=some (.tup [.str "open"])
structure kk (rows:ed) (ag:bp) (i:Nat) (kvs:List (List Key×V)):Prop where
 len:kvs.length<=i
 out:∀ e v,b7 kvs (fL e)=some v->∃ j:Nat,j<i/\v=.int (j:Int)/\goN rows j ag=some e
 EN:∀ (j:Nat),j<i->∀ e,goN rows j ag=some e->∃ v,b7 kvs (fL e)=some v
theorem kk.nil:kk rows ag 0 []:=#[bL _,(λ e v h=>by cases h),(λ j h=>by omega)]
theorem kk.put (S:kk rows ag i kvs) (a:goN rows i ag=some cur):kk rows ag (i+1) (putK kvs (fL cur) (.int (i:Int))):=by
 refine #[?_,λ e v h=>?_,λ j c e he=>?_]
 ·have:=C2 kvs (fL cur) (.int i);have:=S.len;omega
 ·by_cases z:e=cur
  ·subst z;rw [Nl] at h;exact #[i,.ak,(dS h).symm,a]
  ·rw [L8 z] at h;obtain ⟨j,af,ai⟩:=S.out e v h;exact #[j,.ak,ai]
 ·by_cases z:e=cur
  ·subst z;exact #[_,Nl]
  ·rw [L8 z];by_cases b:j=i
   ·subst b;rw [a] at he;exact absurd (dS he).symm z
   ·exact S.EN j .ak e he
theorem kk.fresh (S:kk rows ag i kvs) (D:qn rows ag i) (b:goN rows i ag=some cur) (aB:b7 kvs (fL cur)=.n):qn rows ag (i+1):=λ j k a ay e=>by
 by_cases c:k=i
 ·subst c;rw [b] at e;obtain ⟨v,aM⟩:=S.EN j a cur e;rw [aB] at aM;cases aM
 ·exact D j k a .ak e
inductive Ig:bz
 |mk {vs H Q E} (b a:Addr) (xs:bj) (aj:cX) (ag:bp) (m:Int):vs=[.ref b,.ref a,.int m]->H b=some (.tup xs)->d0 H xs aj->xs.length<=1000->H a=some (tupI ag)->ag.length=10->nn ag=.t->0<=m->m<=1000->(∀ v H' o,ax H H'->nE (rowsOf aj) m.toNat ag o->y8 H' v o->Q v H')->Ig vs H Q E
theorem VK (T:aY K mg):b4 P w mg base bY 5 T.GQ Ig:=by
 refine T.GQ.fn.cp pU .bU λ a0 A outer s H vs Q E r h=>?_
 obtain ⟨b,a,xs,aj,ag,m,rfl,ae,hf,eO,au,hP,k6,m0,qg,q⟩:=h;refine #[_,(aD (ba 3 pU (a4 (Di T) r aV (aa (U 0) aq)))
  (aD (ba 4 pU I6)
  (aD (ba 5 pU (U 1))
  (aD (eI dW Y (jc Y T.hX (aa (bf ez (U 2) aF) aq)) (cH 6 pU)
   (aD (bM (bq (Hb (d9 r)) (U 5) (U 4) (by with_unfolding_all rfl))
   (aG (aZ (fx (aa a9 (aa (w2 (d9 r) (U 4) (U 5) (λ _ _=>rfl)) (aa (bf gE (U 6) (w2 (d9 r) (U 4) (U 5) (λ _ _=>rfl))) aq))))))
   bJ)
  (aD (ba 7 pU (a4 (C3 T) r aV (aa (U 3) (aa (U 5) aq))))
  (aD (bM (bq mO (U 7) e_ (bh _))
   (aG (aZ (fx (aa a9 (aa (U 6) (aa (U 5) aq))))))
   bJ)
  (aD (H6 (d9 r) (U 4) (U 5) (U 6) Y)
  (aG (ba 5 pU (a4 (Cf T) r aV (aa (U 5) (aa (bO cz (U 3) (U 7) (λ _ _=>rfl)) (aa aF aq)))))))))))
  (aG (aZ (fx (aa a9 aq)))))))),?_]
 refine #[b,xs,aj,Y,ae,hf,eO,λ l H1 ys fl s1 O S=>?_];refine λ d ao f2 s2 hd2=>?_
 have fd:=s1.free f2;have R:=iH aj;refine #[_,_,Y,Y,m+1,Y,.ak,.ak,jb (λ i σ y=>∃ (c:Addr) (cur:bp) (kvs:List (List Key×V)) (u v:e6),σ=[some (.ref b),some (.ref a),some (.int m),some (.ref l),some (.ref d),some (.ref c),u,v]/\ax H1 y/\y d=some (.eK kvs)/\y c=some (tupI cur)/\goN (rowsOf aj) i ag=some cur/\qn (rowsOf aj) ag i/\kk (rowsOf aj) ag i kvs)
  #[a,ag,[],.n,.n,Y,s2,hd2,s2 _ _ (s1 _ _ au),Y,λ _ _ _ h=>by omega,kk.nil] ?_ ?_]
 ·rintro i σ y av ⟨c,cur,kvs,u,v,rfl,s3,n,f,g,B,C⟩;have FF:=lA R hP k6 g;refine #[c,d,cur,kvs,Y,Y,f,n,_,Y,?_];cases aM:b7 kvs (fL cur) with
  | some v0 =>
   obtain ⟨j,lX,rfl,zK⟩:=C.out cur v0 aM;refine b6 ?_;refine #[d,c,cur,kvs,_,Y,Y,n,f,aM,d,c,cur,kvs,_,Y,Y,n,f,aM,_,_,Y,Y,bI,λ t D f4 s4 aI=>?_];refine q (.ref t) D (.round j (i-j)) ((s1.trans s3).trans s4) #[.ak,.ak,#[cur,zK,by rw [show j+(i-j)=i by omega];exact g],by rw [show j+(i-j)=i by omega];exact B] #[t,Y,?_];rw [aI];show some (fe.tup [_,_,V.int (0+i-j)])=_;rw [show (0+i-j)=((i-j:Nat):Int) by omega]
  | none =>
   refine bD ?_;have Z:=C.fresh B g aM;refine #[l,c,ys,rowsOf aj,cur,Y,s3 _ _ O,S.same s3,f,λ D s4=>?_];cases L:b_ (rowsOf aj) cur with
   | none =>
    refine #[Y,_,Y,b6 #[bI,λ t G h7 s5 aI=>?_]];refine q (.ref t) G (.rests i cur) (((s1.trans s3).trans s4).trans s5) #[.ak,g,L] #[t,c,Y,?_,s5 _ _ (s4 _ _ f)];rw [aI,Int.zero_add]
   | some k =>
    obtain ⟨M,N,_,ay⟩:=mW L;obtain ⟨x,e,dq,rfl,he⟩:=(S.same s3).of N;have mf:=ts L N;refine #[Y,_,Y,bD #[d,c,cur,kvs,Y,Y,s4 _ _ n,s4 _ _ f,(by have:=C.len;rw [b8];omega),λ G I X=>?_]];have aW:ax H1 G:=λ c o J=>I c o (λ z=>by rw [z,f2] at J;cases J) (s4 _ _ (s3 _ _ J))
    have Rr:=cq f n nofun;have Rt:=cq he n nofun;refine #[l,_,_,_,Y,Y,aK.of (aW _ _ O),fF (mU k) (by rw [fV];exact dq),c,e,cur,M,1,Y,I _ _ Rr (s4 _ _ f),I _ _ Rt (s4 _ _ he),#[.aw,.aw],.ak,λ p fJ aU md=>?_];refine #[p,bK cur M 1,_,_,_,Y,aW.trans aU,aU _ _ X,md,?_,Z,?_]
    ·show (goN (rowsOf aj) i ag).bind _=_;rw [g];exact mf
    ·rw [Int.zero_add];exact C.put g
 ·rintro σ y ⟨c,cur,kvs,u,v,rfl,s3,n,f,g,B,C⟩;have em:(m+1).toNat=m.toNat+1:=by omega
  rw [em] at g B;exact #[bI,λ t D f4 s4 aI=>q (.ref t) D .iB ((s1.trans s3).trans s4) #[#[cur,g],B] #[t,Y,aI]]
inductive N3:bz
 |mk {vs H Q E} (a b:Addr) (ag cs:bp):vs=[.ref a,.ref b]->H a=some (tupI ag)->H b=some (tupI cs)->ag.length=10->cs.length=10->nn ag=.t->(∀ x∈cs,-40<x/\x<40)->(∀ H' o,ax H H'->sY ag cs o->Q (gT o) H')->N3 vs H Q E
theorem acy (T:aY K mg):iP P w mg base 1 T.uk N3:=by
 refine T.uk.fn.iR N1 .bU λ a0 A outer s H vs Q E t h=>?_
 obtain ⟨a,b,ag,cs,rfl,au,ae,l,j,c,k,q⟩:=h;refine #[_,(aG (aZ (H4 Y (by rfl) T.pe pa (aa (eA (dp N1 (js:=[.n,.n]) (dV _)) Y (lB Y Y T.hl (aa (U 0) (aa (U 1) aq))) (λ Z Z Z Z=>(jT (n:=2) Y Y (cv d1 (cv (iF (i:=1) (show List.Nodup (["power", "change"]:b2) from by decide +kernel) Y (Or.inl Y) (Or.inr Y)) eh)))) (λ Z Z Z Z=>(BX (bq iZ (U 1) aF (bh _))))
    (λ Z Z Z Z=>(bf rg (U 0) (jF jL (U 1))))) aq)))),?_]
 refine #[a,b,Y,#[_,aL.of au],#[_,aL.of ae],λ D g=>?_];refine aap (f:=λ x y=>x/(-y)) (by rw [l,j,b8];decide) #[_,_,Y] g au ae (λ x y H' R Z Z r=>#[_,_,Y,Y,_,Y,r]) (λ x y H' R Z m aI r=>?_) λ H1 s1 af=>?_
 ·have af:=cM aI;have ai:=k y m;exact #[_,Y,_,_,Y,Y,#[.ak,.ak],r]
 ·refine #[D,s7 ag cs,Y,aK.of af,λ e=>q H1 .n s1 (YT c e),λ M o p=>?_];obtain ⟨d,L⟩:=YU c o p;have:=q H1 _ s1 L;rw [show gT (some M.toNat)=V.int M by show V.int (M.toNat)=_;rw [hW d]] at this;exact this
inductive NP:bz
 |mk {vs H Q E} (a b c:Addr) (ag cs ds:bp):vs=[.ref a,.ref b,.ref c]->H a=some (tupI ag)->H b=some (tupI cs)->H c=some (tupI ds)->ag.length=10->cs.length=10->ds.length=10->nn ag=.t->(∀ x∈cs,-40<x/\x<40)->(∀ x∈ds,-40<x/\x<40)->(∀ H' o,ax H H'->oY ag cs ds o->Q (gT o) H')->NP vs H Q E
theorem ack (T:aY K mg):iP P w mg base 2 T.ui NP:=by
 refine T.ui.fn.iR p8 .bU λ a0 A outer s H vs Q E B h=>?_
 obtain ⟨a,b,c,ag,cs,ds,rfl,au,ae,j,e,I,L,N,J,M,q⟩:=h;refine #[_,(aD (ba 3 p8 aF)
  (aD (eI dW Y (Wl Y Y T.hl (aa (U 0) (aa (U 1) (aa (U 2) aq)))) (hs Y (cv (cH 4 p8) (cv (cH 5 p8) (cv (cH 6 p8) eh))))
   (aD (ba 7 p8 (bf gE (jF jL (U 6)) (U 4)))
  (aG (bM (bq gW (U 7) aF (bh _))
   (aD (bM (bq s9 (U 5) aF (bh _))
   (aG (aZ e_))
   bJ)
  (aG (ba 3 p8 (bR (tX Y) T.pd o_ (aa (U 3) (aa (bf rg (bf gE (bf ez (U 7) (U 5)) aF) (U 5)) aq))))))
   bJ))))
  (aD (bM (d_ (h3 (I0 T) (B.mono .aw) Y Y T.nS.at_ T.nS.fn.aW T.nS.bd (aa (U 2) (aa (h3 (CJ T) (B.mono .aw) Y Y T.mV.at_ T.mV.fn.aW T.mV.bd (aa (U 0) (aa (U 1) (aa (U 3) aq)))) aq))))
   (aG (aZ (U 3)))
   bJ)
  (aG (aZ e_))))),?_]
 refine #[a,b,c,Y,#[_,aL.of au],#[_,aL.of ae],#[_,aL.of j],?_];refine Xc (by rw [bb,bb,e,I]) (by rw [bb,bb,e,L]) (λ i σ ao=>∃ (m:Int) (l n o t:e6),σ=[some (.ref a),some (.ref b),some (.ref c),some (.int m),l,n,o,t]/\ax H ao/\gA ag cs ds i m) #[0,.n,.n,.n,.n,Y,ax.refl H,gA.start] (λ i σ ao _ ⟨_,_,_,_,_,_,s2,_⟩=>#[aL.of (s2 _ _ au),aL.of (s2 _ _ ae),aL.of (s2 _ _ j)]) ?_ ?_
 ·rintro i x y z p σ ao O R S ar ⟨m,l,n,o,t,rfl,s2,d⟩;obtain ⟨x,rfl,f⟩:=gH O;obtain ⟨y,rfl,k⟩:=gH R;obtain ⟨z,rfl,g⟩:=gH S;have s3:ax H (upd ao p (.tup [.int x,.int y,.int z])):=ax.more s2 ar;have Z:=M z (cg g);have X:=J y (cg k);have x0:=g0.mp N x (cg f);refine #[p,_,Y,aL.of bc,Y,_,_,Y,_,_,Y,_,_,Y,Y,?_];refine #[_,Y,_,_,Y,Y,?_];refine #[_,_,Y,Y,_,Y,c3 (λ h=>?_) (λ h=>?_)]
  ·have v:=cM h;refine #[_,_,Y,Y,_,Y,c3 (λ h'=>?_) (λ h'=>?_)]
   ·exact q _ .n s3 (gA.never f k g v (cM h'))
   ·have C:0<y:=by
     have:¬ y<=0:=λ w=>h' (bP w)
     omega
    exact #[_,_,Y,Y,_,_,Y,Y,_,_,Y,Y,#[C,.ak],_,_,Y,_,_,_,_,_,Y,s3,d.more f k g v .ak C]
  ·exact #[m,_,_,_,_,Y,s3,d.skip (y:=y) f g λ w=>h (bP w)]
 ·rintro σ ao ⟨m,l,n,o,t,rfl,s2,d⟩;rw [bb,e] at d;have h0:=d.1;have af:=d.2.1;refine #[a,b,ag,cs,m,Y,s2 _ _ au,s2 _ _ ae,#[.ak,.ak],.ak,λ r aU s3 G=>?_];refine #[c,r,ds,bK ag cs m,Y,s3 _ _ (s2 _ _ j),G,λ u s4=>?_];have D:=(s2.trans s3).trans s4;refine #[_,Y,c3 (λ h=>?_) (λ h=>?_)]
  ·have:=q u _ D (d.yes h);rw [show gT (some m.toNat)=V.int m by show V.int (m.toNat)=_;rw [hW h0]] at this;exact (this)
  ·exact q u .n D (d.no e (mR.mpr h))
theorem CW:∀ (os:List (Option Nat)),(os.map gT).filter (λ v=> !decide (v=V.aX))=((os.filterMap id).map λ n:Nat=>(n:Int)).map V.int
 | []=>rfl
 | none::os=>by
  show (os.map gT).filter _=_;rw [CW os];rfl
 | some n::os=>by
  show V.int n::(os.map gT).filter _=_;rw [CW os];rfl
inductive Dq:bz
 |mk {vs H Q E} (l a:Addr) (ys:bj) (rows:ed) (ag c:bp) (k:Nat):vs=[.ref l,.ref a,.int k]->H l=some (.lst ys)->cO H ys rows->ys.length<=1000->H a=some (tupI ag)->ag.length=10->nn ag=.t->oK rows->uy rows->rows[k]?=some c->(∀ H' o,ax H H'->zc rows ag c k o->(∀ T,o=some T->(∃ x∈ag,T<=x)\/T<=1000)->Q (gT o) H')->Dq vs H Q E
theorem N5 (T:aY K mg):iP P w mg base 3 T.rK Dq:=by
 refine T.rK.fn.iR uo .bU λ a0 A outer s H vs Q E e1 h=>?_
 obtain ⟨l,a,ys,rows,ag,c,k,rfl,X,g,mh,au,hP,Z,R,B,ay,q⟩:=h;refine #[_,(aD (tr (i:=3) uo.cD Y (Or.inr Y) (bO cz (U 0) (U 2) (λ _ _=>rfl)))
  (aD (ba 4 uo (bf tT (cW (aa (h3 (acy T) (e1.mono .aw) Y Y T.uk.at_ T.uk.fn.aW T.uk.bd (aa (U 1) (aa (U 3) aq))) aq)) (eA (dp uo (N:=["ahead", "powers", "used"]) (js:=[.n,some 1,some 3]) (jO.mpr #[Y,(jO.mpr #[Y,(dV _)])])) Y (mZ (xe B0 (U 0) w4 (w5 (U 2)))) (λ _ _ _ _=>d1) (λ _ _ _ _=>ei)
    (λ _ _ _ _=>(h3 (ack T) (e1.mono .aw) Y Y T.ui.at_ T.ui.fn.aW T.ui.bd (aa (U 1) (aa (U 2) (aa (U 0) aq))))))))
  (aG (aZ (H4 Y (by rfl) T.pe pa (aa (eA (dp uo (N:=["end"]) (js:=[.n]) (dV _)) Y (mZ (U 4)) (λ _ _ _ _=>d1) (λ _ _ _ _=>(BX (bq BU (U 0) e_ (bh _))))
    (λ _ _ _ _=>(U 0))) aq)))))),?_]
 obtain ⟨x,e,dq,rfl,he⟩:=g.of ay;have p:=cg ay;have mb:=(dK.mp ay).1;refine #[l,_,_,_,Y,Y,aK.of X,fF (mU k) (by rw [fV];exact dq),?_];refine #[a,e,ag,c,Y,au,he,hP,R c p,Z,B c p,λ H1 o s1 aU=>?_];refine #[bI,λ fB ao f2 s2 nx=>?_];have y:=s1.trans s2;refine #[_,Y,l,ys,Y,aK.of (y _ _ X),λ d hd=>?_];rw [IF (mU k),fV];have s3:ax ao (upd ao d (.lst (ys.take k))):=ax.new hd;have jw:(ys.take k).length=k:=by rw [i3,g.1];omega
 refine #[d,Y,#[_,aK.of bc],λ D S=>?_];refine JU (by rw [jw,b8,<-g.1] at *;omega) (λ i σ' H' zs=>(∃ u,σ'=[u,some (.ref a),some (.ref e)])/\ax (upd ao d (.lst (ys.take k))) H'/\∃ os,zs=os.map gT/\os.length=i/\∀ j,j<i->∀ r,rows[j]?=some r->∃ z,os[j]?=some z/\oY ag c r z) #[#[_,Y],ax.new S,[],Y,Y,λ j lX=>absurd lX .ak] (λ i σ' H' zs _ _ ⟨_,s',_⟩=>aK.of (s' _ _ bc)) ?_ ?_
 ·rintro j x σ' H' zs I v ip hh ⟨⟨u,rfl⟩,s',os,rfl,f,m⟩ gM;have Qr:j<k:=by
   have:=(dK.mp v).1;omega
  have QW:ys[j]?=some x:=by rw [List.getElem?_take_of_lt Qr] at v;exact v
  obtain ⟨r,Pe,oT,rfl,QJ⟩:=g.at QW;have EE:=cg oT;have C:=(y.trans s3).trans s';refine #[a,e,Pe,ag,c,r,Y,C _ _ au,C _ _ he,C _ _ QJ,hP,R c p,R r EE,Z,B c p,B r EE,λ iI z s4 hD=>?_];refine gM _ _ _ (s4 _ _ ip) #[#[_,Y],?_,os++[z],?_,?_,?_]
  ·intro yk rX J;rw [a3 (b0 J S)];exact s4 _ _ (s' yk rX J)
  ·rw [ht];rfl
  ·rw [dn,f];rfl
  ·intro i av qk t;by_cases Qp:i<j
   ·obtain ⟨ib,af,ai⟩:=m i Qp qk t;exact #[ib,by rw [jJ .ak];exact af,ai]
   ·have:i=j:=by omega
    subst this;rw [oT] at t;cases t;exact #[z,by rw [<-f,List.getElem?_concat_length],hD]
 ·rintro σ' iI zs zx hh ⟨_,s4,os,rfl,f,m⟩;rw [jw] at f m;have Fb:=s3.trans s4;refine #[fB,D,_,_,Y,Y,Fb _ _ nx,zx,?_,λ yn j1 h7 s5 L=>?_]
  ·rw [bb,f,b8];show 1+k<=_;have:=g.1;omega
  have qz:=(y.trans Fb).trans s5;refine #[yn,Y,#[_,aK.of L],λ x8 zv=>?_];refine aaK (σ0:=[]) (xs:=(o::os).map gT) ?_ #[_,Y] zv L (λ x H' I _ _ r=>#[Y,_,Y,r]) (λ x H' I _ _ _ r=>(r)) λ G hG O=>?_
  ·rw [bb,fW,f,b8];have:=g.1;omega
  rw [CW] at O;refine #[x8,_,Y,aK.of O,λ OG=>?_,λ M jk j7=>?_]
  ·exact q G .n (qz.trans hG) (WE ay aU m (List.map_eq_nil_iff.mp OG)) (λ T z=>by cases z)
  ·obtain ⟨n,aB,rfl⟩:=c0.mp jk;obtain ⟨af,ai⟩:=WG ay f aU m aB λ b ae=>by
    have:=j7 b (mS ae);omega
   exact q G (some n) (qz.trans hG) af (λ T z=>by cases z;exact ai)
theorem acn (T:aY K mg):b4 P w mg base bY 3 T.rK Dq:=(N5 T).fn
theorem Im (h:gk i=.t):i<=1000000000000:=by
 unfold gk at h;simp only [eX,n4] at h;exact h.1.2
theorem Xf (h:ey i j=.t):i<=1000000000000/\j<=1000000000000:=by
 unfold ey at h;simp only [eX] at h;exact #[Im h.1.1,Im h.1.2]
theorem pT (hf:d0 H xs aj):uy (rowsOf aj):=λ c b x d=>by
 obtain ⟨⟨i,j⟩,hm,rfl⟩:=c0.mp b;obtain ⟨k,ay⟩:=g6 hm;have mb:k<xs.length:=by rw [hf.1];exact (dK.mp ay).1
 obtain ⟨e,l,a,af,_,_,f⟩:=hf.2 k _ (cV mb);rw [ay] at af;cases af;obtain ⟨⟨g,_⟩,⟨c2,_⟩⟩:=C1 f;obtain ⟨h,m⟩:=Xf f;exact T_ .ak .ak .ak .ak d
noncomputable def intOf:Option e6->Nat
 | some (some (V.int i))=>i.toNat
 | _=>0
noncomputable def Fx (σ:St):Nat:=intOf σ[5]?
inductive Jp:bz
 |mk {vs H Q E} (b a:Addr) (xs:bj) (aj:cX) (ag iM:bp) (m:Int):vs=[.ref b,.ref a,.int m]->H b=some (.tup xs)->d0 H xs aj->xs.length<=1000->H a=some (tupI ag)->ag.length=10->nn ag=.t->0<=m->m<=2000->goN (rowsOf aj) m.toNat ag=some iM->(∀ aH H',ax H H'->H' aH=some (tupI iM)->Q (.ref aH) H')->Jp vs H Q E
theorem XA (T:aY K mg):iP P w mg base 5 T.lx Jp:=by
 refine T.lx.fn.iR fy .bU λ a0 A outer s H vs Q E D h=>?_
 obtain ⟨b,a,xs,aj,ag,iM,m,rfl,ae,hf,X,au,hP,k6,m0,qg,aU,q⟩:=h;refine #[_,(aD (ba 3 fy (h3 (Nu T) (D.mono .aw) Y Y T.rG.at_ T.rG.fn.aW T.rG.bd (aa (U 0) aq)))
  (aD (ba 4 fy (U 1))
  (aD (ba 5 fy aF)
  (aD (ba 6 fy aF)
  (aD (pY dW (bq iZ (U 5) (U 2) (bh _))
   (aD (ba 7 fy (h3 (Mk T) (D.mono .aw) Y Y T.rv.at_ T.rv.fn.aW T.rv.bd (aa (U 3) (aa (U 4) aq))))
  (aD (bM (bq mO (U 7) e_ (bh _))
   (aG fH)
   bJ)
  (aD (bM (bq cY (U 6) (jU (by rfl) T.NU) (bh _))
   (aG fH)
   bJ)
  (aD (ba 8 fy (h3 (N5 T) (D.mono .aw) Y Y T.rK.at_ T.rK.fn.aW T.rK.bd (aa (U 3) (aa (U 4) (aa (U 7) aq)))))
  (aD (qW (dx.pt (e9 (bq mO (U 8) e_ (bh _)) (gn (bq gW (U 8) (bf gE (U 2) (U 5)) (bh _)))))
   (aG (ba 8 fy (bf gE (U 2) (U 5))))
   bJ)
  (aD (ba 4 fy (h3 (CJ T) (D.mono .aw) Y Y T.mV.at_ T.mV.fn.aW T.mV.bd (aa (U 4) (aa (bO cz (U 3) (U 7) (λ _ _=>rfl)) (aa (U 8) aq)))))
  (aD (ba 5 fy (bf ez (U 5) (U 8)))
  (aG (ba 6 fy (bf ez (U 6) aF)))))))))))
  (aG (aZ (U 4)))))))),?_]
 refine #[b,xs,aj,Y,ae,hf,X,λ l H1 ys fl s1 O G=>?_];have R:=iH aj;have B:=pT hf;have mh:ys.length<=1000:=by rw [G.1,kG,<-hf.1];exact X
 refine (?_);refine p3 (λ σ j=>∃ (g:Addr) (cur:bp) (d st:Nat) (u v:e6),σ=[some (.ref b),some (.ref a),some (.int m),some (.ref l),some (.ref g),some (.int (d:Int)),some (.int (st:Int)),u,v]/\ax H1 j/\j g=some (tupI cur)/\goN (rowsOf aj) d ag=some cur/\(d:Int)<=m/\st<=d)
  (λ σ _=>m.toNat-Fx σ) #[a,ag,0,0,.n,.n,Y,ax.refl H1,s1 _ _ au,Y,m0,bL _] ?_
 rintro σ j ⟨g,cur,d,st,u,v,rfl,s3,C,i,Qh,QN⟩;have y:=lA R hP k6 i;refine #[_,_,Y,Y,_,Y,c3 (λ h=>?_) (λ h=>?_)]
 ·have h0:=cM h;refine qB #[l,g,ys,rowsOf aj,cur,Y,s3 _ _ O,G.same s3,C,λ iI s4=>?_];cases N:b_ (rowsOf aj) cur with
  | none =>
   have:=p4 i N aU;omega
  | some k =>
   obtain ⟨c,r,_,ay⟩:=mW N;obtain ⟨x,e,dq,rfl,he⟩:=(G.same s3).of r;have S:=R c (cg r);refine #[Y,_,Y,bD #[Y,_,Y,?_]];rw [cK (show ¬ V.int (st:Int)=V.int 2000 from λ z=>by injection z with z;omega)];refine bD ?_;refine #[l,g,ys,rowsOf aj,cur,c,k,Y,s4 _ _ (s3 _ _ O),(G.same s3).same s4,mh,s4 _ _ C,y.1,y.2,R,B,r,λ J o s5 n bA=>?_];have I:=s4.trans s5;have Z:b_ (rowsOf aj) (bK cur c (0:Nat))=some k:=by rw [show ((0:Nat):Int)=0 from rfl,Cd y.1 S];exact N
   refine #[λ σ' H'=>∃ f:Nat,σ'=[some (.ref b),some (.ref a),some (.int m),some (.ref l),some (.ref g),some (.int (d:Int)),some (.int (st:Int)),some (.int (k:Int)),some (.int (f:Int))]/\J=H'/\1<=f/\(d:Int)+f<=m/\∀ t:Nat,t<f->b_ (rowsOf aj) (bK cur c t)=some k,?_,?_]
   ·have all:∀ (σ':St),σ'=[some (.ref b),some (.ref a),some (.int m),some (.ref l),some (.ref g),some (.int (d:Int)),some (.int (st:Int)),some (.int (k:Int)),some (.int (m-d))]->(∀ t:Nat,t<m-d->b_ (rowsOf aj) (bK cur c t)=some k)->∃ f:Nat,σ'=[some (.ref b),some (.ref a),some (.int m),some (.ref l),some (.ref g),some (.int d),some (.int st),some (.int k),some (.int f)]/\J=J/\1<=f/\d+f<=m/\∀ t:Nat,t<f->b_ (rowsOf aj) (bK cur c t)=some k:=λ σ' eσ M=>by
     refine #[(m-d).toNat,?_,Y,.ak,.ak,λ t aI=>M t .ak];rw [eσ,hW .ak]
    cases o with
    | none =>
     exact #[Y,_,Y,b6 (b6 #[_,_,Y,Y,all _ Y λ t _=>n t])]
    | some L =>
     refine #[Y,_,Y,bD #[_,_,Y,Y,_,_,Y,Y,_,Y,c3 (λ h'=>?_) (λ h'=>?_)]]
     ·have Qo:=cM h';exact #[_,_,Y,Y,all _ Y λ t aI=>n.1 t .ak]
     ·have Qo:¬ L>m-d:=λ z=>h' (bP z)
      refine #[L,Y,Y,?_,.ak,n.1];by_cases z:L=0
      ·subst z;exact absurd Z n.2
      ·omega
   rintro σ' H' ⟨f,rfl,rfl,QL,QM,M⟩;refine #[l,_,_,_,Y,Y,aK.of (I _ _ (s3 _ _ O)),fF (mU k) (by rw [fV];exact dq),g,e,cur,c,f,Y,I _ _ C,I _ _ he,#[.ak,.ak],.ak,λ p fJ hG md=>?_];refine #[_,_,Y,Y,_,_,Y,Y,#[p,bK cur c f,d+f,st+1,_,_,Y,(s3.trans I).trans hG,md,IK i r y.1 S M,.ak,.ak],?_];show m.toNat-(d+(f:Int)).toNat<m.toNat-((d:Int)).toNat;omega
 ·have h0:¬ (d:Int)<m:=λ z=>h (bP z)
  have e:d=m.toNat:=by omega
  subst e;rw [aU] at i;cases i;exact (q g j (s1.trans s3) C)
theorem abG (T:aY K mg):dO P w K mg base bY 1 T.Df T.Dn ["self", "steps"] (B1 T.dY "steps"):=by
 refine T.WU.cp abP .bU λ a0 A outer s H vs Q E f h=>?_
 obtain ⟨e,t,v,rfl,he,q⟩:=h;refine #[_,(aG (Wn Y (U 0) (U 1) Y)),?_];obtain ⟨cd,a,b,c⟩:=T.lM.cls;refine #[e,T.dY,T.lP,t,cd,Y,he,a,b,c,T.lM.e4.bQ,T.lM.yQ,?_,λ aE d=>q aE d];show PySem.W.takerIn K T.dY "steps" = some .n;unfold PySem.W.takerIn;rw [T.Cw];rfl
inductive Jq (C:Addr):bz
 |mk {vs H Q E} (b a:Addr) (xs:bj) (aj:cX) (ag:bp) (m:Int):vs=[.ref b,.ref a,.int m]->H b=some (.tup xs)->d0 H xs aj->xs.length<=1000->H a=some (tupI ag)->ag.length=10->nn ag=.t->0<=m->m<=2000->(∀ r,goN (rowsOf aj) m.toNat ag=some r->∀ aH H',ax H H'->H' aH=some (tupI r)->Q (.ref aH) H')->(∀ n r,n<m.toNat->goN (rowsOf aj) n ag=some r->b_ (rowsOf aj) r=.n->∀ aE H',ax H H'->H' aE=some (.ia [("steps", .int n)])->E (.ref C) (some aE) H')->Jq C vs H Q E
theorem XB (T:aY K mg):b4 P w mg base (f6 P w) 5 T.lx (Jq T.dY):=by
 refine T.lx.fn.ke fy .bU λ a0 A outer s H vs Q E j h=>?_
 obtain ⟨b,a,xs,aj,ag,m,rfl,ae,hf,S,au,hP,k6,m0,qg,aO,hF⟩:=h;refine #[_,(aD (ba 3 fy (a4 (Di T) j aV (aa (U 0) aq)))
  (aD (ba 4 fy (U 1))
  (aD (ba 5 fy aF)
  (aD (ba 6 fy aF)
  (aD (pY PassesOwn.leaving (bq iZ (U 5) (U 2) (bh _))
   (aD (ba 7 fy (a4 (C3 T) j aV (aa (U 3) (aa (U 4) aq))))
  (aD (bM (bq mO (U 7) e_ (bh _))
   (aG (Zf pF Y Y T.lM (abG T) (j.mono .aw) T.WS (by rfl) (aa (U 5) aq)))
   bJ)
  (aD (bM (bq cY (U 6) (jU (by rfl) T.NU) (bh _))
   (aG fH)
   bJ)
  (aD (ba 8 fy (a4 (acn T) j aV (aa (U 3) (aa (U 4) (aa (U 7) aq)))))
  (aD (qW (dx.pt (e9 (bq mO (U 8) e_ (bh _)) (gn (bq gW (U 8) (bf gE (U 2) (U 5)) (bh _)))))
   (aG (ba 8 fy (bf gE (U 2) (U 5))))
   bJ)
  (aD (ba 4 fy (a4 (Cf T) j aV (aa (U 4) (aa (bO cz (U 3) (U 7) (λ _ _=>rfl)) (aa (U 8) aq)))))
  (aD (ba 5 fy (bf ez (U 5) (U 8)))
  (aG (ba 6 fy (bf ez (U 6) aF)))))))))))
  (aG (aZ (U 4)))))))),?_]
 refine #[b,xs,aj,Y,ae,hf,S,λ l H1 ys fl s1 N G=>?_];have R:=iH aj;have B:=pT hf;have mh:ys.length<=1000:=by rw [G.1,kG,<-hf.1];exact S
 refine (?_);refine p3 (λ σ n=>∃ (g:Addr) (cur:bp) (d st:Nat) (u v:e6),σ=[some (.ref b),some (.ref a),some (.int m),some (.ref l),some (.ref g),some (.int (d:Int)),some (.int (st:Int)),u,v]/\ax H1 n/\n g=some (tupI cur)/\goN (rowsOf aj) d ag=some cur/\(d:Int)<=m/\st<=d)
  (λ σ _=>m.toNat-Fx σ) #[a,ag,0,0,.n,.n,Y,ax.refl H1,s1 _ _ au,Y,m0,bL _] ?_
 rintro σ n ⟨g,cur,d,st,u,v,rfl,s3,C,D,Qh,QN⟩;have y:=lA R hP k6 D;refine #[_,_,Y,Y,_,Y,c3 (λ h=>?_) (λ h=>?_)]
 ·have h0:=cM h;refine qB #[l,g,ys,rowsOf aj,cur,Y,s3 _ _ N,G.same s3,C,λ iI s4=>?_];cases M:b_ (rowsOf aj) cur with
  | none =>
   refine #[Y,_,Y,b6 #[_,Y,λ aE i s5 aU=>?_]];exact hF d cur .ak D M aE i (((s1.trans s3).trans s4).trans s5) aU
  | some k =>
   obtain ⟨c,r,_,ay⟩:=mW M;obtain ⟨x,e,dq,rfl,he⟩:=(G.same s3).of r;have O:=R c (cg r);refine #[Y,_,Y,bD #[Y,_,Y,?_]];rw [cK (show ¬ V.int (st:Int)=V.int 2000 from λ z=>by injection z with z;omega)];refine bD ?_;refine #[l,g,ys,rowsOf aj,cur,c,k,Y,s4 _ _ (s3 _ _ N),(G.same s3).same s4,mh,s4 _ _ C,y.1,y.2,R,B,r,λ i o s5 q bA=>?_];have I:=s4.trans s5;have X:b_ (rowsOf aj) (bK cur c (0:Nat))=some k:=by rw [show ((0:Nat):Int)=0 from rfl,Cd y.1 O];exact M
   refine #[λ σ' H'=>∃ f:Nat,σ'=[some (.ref b),some (.ref a),some (.int m),some (.ref l),some (.ref g),some (.int (d:Int)),some (.int (st:Int)),some (.int (k:Int)),some (.int (f:Int))]/\i=H'/\1<=f/\(d:Int)+f<=m/\∀ t:Nat,t<f->b_ (rowsOf aj) (bK cur c t)=some k,?_,?_]
   ·have all:∀ (σ':St),σ'=[some (.ref b),some (.ref a),some (.int m),some (.ref l),some (.ref g),some (.int (d:Int)),some (.int (st:Int)),some (.int (k:Int)),some (.int (m-d))]->(∀ t:Nat,t<m-d->b_ (rowsOf aj) (bK cur c t)=some k)->∃ f:Nat,σ'=[some (.ref b),some (.ref a),some (.int m),some (.ref l),some (.ref g),some (.int d),some (.int st),some (.int k),some (.int f)]/\i=i/\1<=f/\d+f<=m/\∀ t:Nat,t<f->b_ (rowsOf aj) (bK cur c t)=some k:=λ σ' eσ L=>by
     refine #[(m-d).toNat,?_,Y,.ak,.ak,λ t aI=>L t .ak];rw [eσ,hW .ak]
    cases o with
    | none =>
     exact #[Y,_,Y,b6 (b6 #[_,_,Y,Y,all _ Y λ t _=>q t])]
    | some J =>
     refine #[Y,_,Y,bD #[_,_,Y,Y,_,_,Y,Y,_,Y,c3 (λ h'=>?_) (λ h'=>?_)]]
     ·have Z:=cM h';exact #[_,_,Y,Y,all _ Y λ t aI=>q.1 t .ak]
     ·have Z:¬ J>m-d:=λ z=>h' (bP z)
      refine #[J,Y,Y,?_,.ak,q.1];by_cases z:J=0
      ·subst z;exact absurd X q.2
      ·omega
   rintro σ' H' ⟨f,rfl,rfl,QL,QM,L⟩;refine #[l,_,_,_,Y,Y,aK.of (I _ _ (s3 _ _ N)),fF (mU k) (by rw [fV];exact dq),g,e,cur,c,f,Y,I _ _ C,I _ _ he,#[.ak,.ak],.ak,λ p fJ hG md=>?_];refine #[_,_,Y,Y,_,_,Y,Y,#[p,bK cur c f,d+f,st+1,_,_,Y,(s3.trans I).trans hG,md,IK D r y.1 O L,.ak,.ak],?_];show m.toNat-(d+(f:Int)).toNat<m.toNat-((d:Int)).toNat;omega
 ·have h0:¬ (d:Int)<m:=λ z=>h (bP z)
  have e:d=m.toNat:=by omega
  subst e;exact (aO cur D g n (s1.trans s3) C)
def T8 (T:aY K mg) (H:aC) (b a:Addr) (aj:cX) (ag:bp) (m:Int):St->dZ:=λ σ c d H1=>σ=[some (.ref b),some (.ref a),some (.int m),.n]/\c=.ref T.dY/\∃ (aE:Addr) (n:Nat) (r:bp),d=some aE/\H1 aE=some (.ia [("steps", .int n)])/\ax H H1/\n<m.toNat/\goN (rowsOf aj) n ag=some r/\b_ (rowsOf aj) r=.n
inductive Lc:bz
 |mk {vs H Q E} (b a:Addr) (xs:bj) (aj:cX) (ag:bp) (m:Int):vs=[.ref b,.ref a,.int m]->H b=some (.tup xs)->d0 H xs aj->xs.length<=1000->H a=some (tupI ag)->ag.length=10->nn ag=.t->0<=m->m<=2000->(∀ k r t aH H',k<=m.toNat->goN (rowsOf aj) k ag=some r->(k=m.toNat\/b_ (rowsOf aj) r=.n)->ax H H'->H' t=some (.tup [.int k,.ref aH])->H' aH=some (tupI r)->Q (.ref t) H')->Lc vs H Q E
theorem Z2 (T:aY K mg):b4 P w mg base bY 7 T.Jz Lc:=by
 refine T.Jz.fn.cp K9 .bU λ a0 A outer s H vs Q E y h=>?_
 obtain ⟨b,a,xs,aj,ag,m,rfl,ae,hf,u,au,x,v,m0,J,q⟩:=h;refine #[_,(aG (Wo (E:=(T8 T H b a aj ag m)) (i:=3) Y Y Y T.lM.at_ (ZW T.lM) (by rfl) K9.cD Y Y (λ Z Z L=>(aG (aZ (fx (aa (bR (tX Y) T.pd o_ (aa (U 2) (aa aF aq))) (aa (Zb (XB T) (y.mono .aw) Y L Y T.lx.at_ T.lx.fn.aW T.lx.bd (aa (U 0) (aa (U 1) (aa (U 2) aq)))) aq))))))
   (λ Z=>(aG (aZ (fx (aa (I7 Y (U 3) (by rfl)) (aa (X6 (XA T) ((y.mark _).mono .aw) Y Y T.lx.at_ T.lx.fn.aW T.lx.bd (aa (U 0) (aa (U 1) (aa (I7 Y (U 3) (by rfl)) aq)))) aq)))))))),?_]
 refine #[#[_,_,Y,b,a,xs,aj,ag,m,Y,ae,hf,u,au,x,v,m0,J,λ r f aH H1 s1 p=>?_,λ n r aB f l aE H' s' k=>#[Y,Y,aE,n,r,Y,k,s',aB,f,l]],?_]
 ·refine #[bI,λ t ao f2 s2 aI=>?_];refine q m.toNat r t aH ao (bL _) f (.inl Y) (s1.trans s2) ?_ (s2 _ _ p);rw [aI];rw [if_neg .ak,hW m0]
 ·rintro C d H1 σ1 ⟨rfl,I,aE,n,r,rfl,k,s1,aB,f,l⟩;cases I;refine #[Y,λ e he hσ=>?_];have s2:ax H1 (upd H1 e (mx e T.dY (some aE))):=ax.new he;have hd2:=s2 _ _ k;have G:=s1.free he;refine #[e,T.dY,aE,_,_,Y,bc,hd2,T.lM.e4,T.lM.hd,T.Cw,Y,e,T.dY,aE,_,_,Y,bc,hd2,T.lM.e4,T.lM.hd,T.Cw,Y,#[_,_,bc],λ ao ai k2=>?_];have g:ax H ao:=λ c o j=>by
   have B:c≠e:=λ z=>by rw [z,G] at j;cases j
   rw [k2 c B,a3 B];exact s1 _ _ j
  refine #[b,a,xs,aj,ag,r,n,Y,g _ _ ae,hf.same g,u,g _ _ au,x,v,.ak,.ak,by rw [fV];exact f,λ aH M s3 p=>?_];refine #[bI,λ t D f4 s4 aI=>?_];exact q n r t aH D .ak f (.inr l) ((g.trans s3).trans s4) aI (s4 _ _ p)
def abw:bz:=λ vs H Q Z=>∃ (b:Addr) (ah:bp),vs=[.ref b]/\H b=some (.lst (ah.map V.int))/\ah.length=10/\(∀ e∈ah,0<=e/\e<2 ^ 62)/\∀ H',ax H H'->Q (.int (prod (ah.map Int.toNat))) H'
theorem M0 (T:aY K mg):b4 P w mg base bY 2 T.xC abw:=by
 refine T.xC.fn.cp jX .bU λ a0 A outer s H vs Q E m h=>?_
 obtain ⟨b,ah,rfl,ae,he,hm,q⟩:=h;refine #[_,(aD (ba 1 jX aF)
  (aD (eI dW Y (H5 Y Y T.hl (aa (wd (xF T) m aV) (aa (U 0) aq))) (hs Y (cv (cH 2 jX) (cv (cH 3 jX) eh)))
   (aG (eI dW Y (jc Y T.hX (aa (U 3) aq)) (cH 4 jX)
   (aG (ba 1 jX (bf mP (U 1) (U 2)))))))
  (aG (aZ (U 1))))),?_]
 refine #[Y,λ t aI=>#[t,b,Y,#[_,aL.of bc],#[_,aK.of ((ax.new aI) _ _ ae)],?_]];have cu:dC.length=10:=rfl;have l:(ah.map V.int).length=10:=by rw [bb];exact he
 refine Xd (xs:=dC) (ys:=ah.map V.int) (λ i σ ao=>(∃ u v x,σ=[some (.ref b),some (.int (gX (cL.take i) ((ah.map Int.toNat).take i))),u,v,x])/\ax (upd H t (.tup dC)) ao) #[#[.n,.n,.n,Y],ax.refl _] ?_ ?_ ?_
 ·rintro i σ ao av ⟨_,s2⟩;exact #[aL.of (s2 _ _ bc),aK.of (s2 _ _ ((ax.new aI) _ _ ae))]
 ·rintro i x y z σ ao n o r ⟨⟨u,v,B,rfl⟩,s2⟩;obtain ⟨p,rfl,ar,J⟩:=rE n;obtain ⟨e,rfl,c⟩:=gH o;obtain ⟨G,f⟩:=hm e (cg c);refine #[z,_,Y,aL.of bc,Y,_,_,Y,_,_,Y,Y,?_];refine #[e,Y,.ak,f,jb (λ j σ a=>(∃ x,σ=[some (.ref b),some (.int ((gX (cL.take i) ((ah.map Int.toNat).take i)*p ^ j:Nat))),some (.int p),some (.int e),x])/\ax (upd H t (.tup dC)) a) #[#[B,by rw [Nat.pow_zero,Nat.mul_one];rfl],ax.more s2 r] ?_ ?_]
  ·rintro j σ a I ⟨⟨d,rfl⟩,s3⟩;refine #[_,_,Y,Y,.inr #[.ak,.ak],#[some (.int (0+j)),?_],s3];rw [Nat.pow_succ,<-n2,Int.natCast_mul _ p];rfl
  ·rintro σ a ⟨⟨d,rfl⟩,s3⟩;refine #[#[some (.int p),some (.int e),d,?_],s3];have k:(ah.map Int.toNat)[i]?=some e.toNat:=by rw [dg,c];rfl
   rw [CX cL (ah.map Int.toNat) i p e.toNat ar k]
 ·rintro σ ao ⟨⟨u,v,x,rfl⟩,s2⟩;have g:min dC.length (ah.map V.int).length=10:=by rw [cu,l];rfl
  refine (?_);rw [g];have C:cL.take 10=cL:=rfl;have D:(ah.map Int.toNat).take 10=ah.map Int.toNat:=hU (by rw [bb,he];exact bL _);rw [C,D];exact q ao ((ax.new aI).trans s2)
def Tp (H:aC) (z:V):Prop:=∃ (l:Addr) (s:bp),z=.ref l/\H l=some (.lst (s.map V.int))/\s.length=10/\(∀ e∈s,0<=e)/\(ups s).sum<=2
theorem N6 (T:aY K mg):b4 P w mg base bY 5 T.NQ Dc:=by
 refine T.NQ.fn.cp jd .bU λ a0 A outer s H vs Q E C h=>?_
 obtain ⟨a,b,n,most,ns,rfl,au,ae,zP,u7,hm,k1,k2,q⟩:=h;refine #[_,(aD (ba 3 jd (a4 (aaV T) C aV (aa (U 0) (aa (U 1) (aa (U 2) aq)))))
  (aD (bM (bq cY (a4 (gG T) C aV (aa (U 0) (aa aF aq))) aF (bh _))
   (aG (aZ (U 3)))
   bJ)
  (aD (ba 4 jd (cW aq))
  (aD (eI dW Y (jc Y T.hX (aa (bf ez aF (a4 (gG T) C aV (aa (U 0) (aa (U 2) aq)))) aq)) (cH 5 jd)
   (aD (ba 6 jd (cW aq))
  (aD (eI dW Y (jc Y T.hX (aa aF aq)) (cH 7 jd)
   (aD (ba 8 jd (bf I3 (cW (aa aF aq)) aF))
  (aD (eI dW Y (jc Y T.hX (aa (bf ez aF (a4 (gG T) C aV (aa (U 0) (aa aF aq)))) aq)) (cH 9 jd)
   (aG (Wm (U 8) (bO d6 (U 1) (a4 (gG T) C aV (aa (U 0) (aa (bR fb T.dz dy (aa (U 1) aq)) aq))) (λ _ _=>rfl)) aF)))
  (aG (eY (eN hu kB kC lN (U 6) (aa (U 8) aq)))))))
  (aD (w6 (i:=10) jd.cD Y (Or.inl Y) (dp jd (N:=["one", "other"]) (js:=[.n,.n]) (dV _)) Y (BW Y Y T.hl (aa (bO cz (U 6) aF (λ _ _=>rfl)) (aa (bO cz (U 6) aF (λ _ _=>rfl)) aq))) (λ _ _ _ _=>(jT (K:=K) (n:=2) Y Y (cv d1 (cv (iF (i:=1) (show List.Nodup (["one", "other"]:b2) from by decide +kernel) Y (Or.inl Y) (Or.inr Y)) eh)))) (λ _ _ _ _=>ei)
    (λ _ _ _ _=>(bR (JP Y) T.pe pa (aa (U 0) (aa (U 1) aq)))))
  (aD (ba 11 jd (a4 (M0 T) C aV (aa (eA (dp jd (N:=["one", "other"]) (js:=[.n,.n]) (dV _)) Y (BW Y Y T.hl (aa (bO cz (U 6) aF (λ _ _=>rfl)) (aa (U 10) aq))) (λ _ _ _ _=>(jT (K:=K) (n:=2) Y Y (cv d1 (cv (iF (i:=1) (show List.Nodup (["one", "other"]:b2) from by decide +kernel) Y (Or.inl Y) (Or.inr Y)) eh)))) (λ _ _ _ _=>ei)
    (λ _ _ _ _=>(bf gE (U 0) (U 1)))) aq)))
  (aG (eY (eN hu kB kC lN (U 4) (aa (fx (aa (U 11) (aa (a4 (M0 T) C aV (aa (eA (dp jd (N:=["one", "other"]) (js:=[.n,.n]) (dV _)) Y (BW Y Y T.hl (aa (bO cz (U 6) aF (λ _ _=>rfl)) (aa (U 10) aq))) (λ _ _ _ _=>(jT (K:=K) (n:=2) Y Y (cv d1 (cv (iF (i:=1) (show List.Nodup (["one", "other"]:b2) from by decide +kernel) Y (Or.inl Y) (Or.inr Y)) eh)))) (λ _ _ _ _=>ei)
    (λ _ _ _ _=>(bf gE (U 0) (U 1)))) aq)) aq))) aq)))))))))
  (aG (aZ (dv m4 T.gr gq (aa (U 4) aq)))))))),?_]
 have O:=cq ae au nofun;refine #[a,b,n,most,ns,Y,au,ae,zP,u7,hm,k1,k2,λ p H1 kT xs hB sh oR r3 Pu Ql=>?_];refine #[a,kT,3,Y,sh,.aw,.aw,λ r yG ao cP fC aU k4=>#[Y,_,Y,c3 (λ h=>?_) (λ h=>?_)]]
 ·exact (q p ao yG xs (hB.trans aU) k4 (aU _ _ (cq oR sh nofun) oR) r3 Pu λ x dq=>i4.hQ a kT (Ql x dq) sh aU)
 refine #[bI,λ f5 j0 hC s3 SS=>?_];have j4:=(hB.trans aU).trans (br.of s3);have PS:=(hB.trans aU).AV k4 hC;have vI:f5≠a:=λ z=>by rw [z,k4] at hC;cases hC
 refine #[a,yG,most,Y,s3 _ _ k4,.ak,.ak,λ qk jl iI ad1 ad6 fA si=>#[_,_,Y,Y,_,Y,.ak,.ak,?_]];refine jb (n:=(1+qk).toNat) (λ i σ v=>∃ (jm:Int) (ys:bj) (yT yU oG u8 oH mu mv:e6),σ=[some (.ref a),some (.ref b),some (.int most),some (.ref p),some (.ref f5),yT,yU,oG,u8,oH,mu,mv]/\br a H v/\v a=some (.lst [.int jm])/\v f5=some (.lst ys)/\ys.length=i/\∀ y∈ys,i4 v y)
  #[jl,[],.n,.n,.n,.n,.n,.n,.n,Y,j4.trans fA,si,fA _ _ vI SS,Y,λ y lY=>absurd lY .zs] ?_ ?_
 ·rintro i σ v av ⟨jm,ys,yT,yU,oG,u8,oH,mu,mv,rfl,X,qr,sU,mh,zJ⟩;refine #[bI,λ d fJ L g vF=>?_];have AF:d≠a:=λ z=>by rw [z,qr] at L;cases L
  have S8:f5≠d:=λ z=>by rw [<-z,sU] at L;cases L
  refine #[2,Y,.aw,.aw,jb (n:=2) (λ j σ m=>∃ (rW:Int) (zs:bj) (yX yY yZ:e6),σ=[some (.ref a),some (.ref b),some (.int most),some (.ref p),some (.ref f5),some (.int (0+(i:Int))),some (.ref d),yX,yY,yZ,mu,mv]/\Fp a d fJ m/\m a=some (.lst [.int rW])/\m d=some (.lst zs)/\zs.length=j/\∀ z∈zs,Tp m z)
   #[jm,[],_,_,_,Y,λ c o _ _ e=>e,g _ _ qr,vF,Y,λ y lY=>absurd lY .zs] ?_ ?_]
  ·rintro j σ m lX ⟨rW,zs,yX,yY,yZ,rfl,Z,sj,u,hh,vd⟩;refine #[bI,λ gw fc f8 I M=>#[gw,10,_,Y,Y,M,.aw,.aw,.aw,λ ln j2 uE oE ji=>?_]];have vp:=I.trans oE;have sf:=I.free uE;have AD:ln≠a:=λ z=>by rw [z,sj] at sf;cases sf
   have FR:ln≠d:=λ z=>by rw [z,u] at sf;cases sf
   refine #[a,rW,2,Y,vp _ _ sj,.aw,.aw,λ r0 Rl y9 ad2 ad3 uT Su=>#[_,_,Y,Y,_,Y,.ak,.ak,?_]];have AX:y9 ln=some (.lst ((List.replicate 10 (0:Int)).map V.int)):=uT _ _ AD ji;have FD:y9 b=some (.tup (ns.map V.int)):=by
    refine uT _ _ O (vp _ _ (Z _ _ O ?_ (g _ _ (X _ _ O ae))));exact λ z=>by rw [<-z] at vF;rw [g _ _ (X _ _ O ae)] at vF;cases vF
   refine jb (n:=(1+r0).toNat) (λ t σ J=>∃ (sG:Int) (ah:bp) (qm:e6),σ=[some (.ref a),some (.ref b),some (.int most),some (.ref p),some (.ref f5),some (.int (0+(i:Int))),some (.ref d),some (.int (0+(j:Int))),some (.ref ln),qm,mu,mv]/\Fp a ln y9 J/\J a=some (.lst [.int sG])/\J ln=some (.lst (ah.map V.int))/\ah.length=10/\(∀ e∈ah,0<=e)/\(ups ah).sum<=t)
    #[Rl,List.replicate 10 0,_,Y,λ c o _ _ e=>e,Su,AX,Y,.aw,.aw] ?_ ?_
   ·rintro t σ J aI ⟨sG,ah,qm,rfl,S,Au,AY,sq,u2,Es⟩;have Rq:b≠ln:=λ z=>by rw [<-z,FD] at AX;cases AX
    have FE:=S _ _ O Rq FD;refine #[b,_,Y,.inr (aL.of FE),a,sG,_,Y,Au,by rw [bb];omega,by rw [bb];omega,λ G Rm D4 E6 RR B Sv=>?_];rw [bb] at RR;have qu:G.toNat<ns.length:=by omega
    obtain ⟨E5,adZ⟩:=hm _ (kv qu);have o3:=B _ _ O FE;have Gp:=B _ _ AD AY;have hM:(ns[G.toNat]).toNat<ah.length:=by omega
    have SI:(ah.map V.int)[(ns[G.toNat]).toNat]?=some (.int ah[(ns[G.toNat]).toNat]):=by rw [dg,cV hM];rfl
    refine #[b,_,_,.int ns[G.toNat],Y,Y,aL.of o3,fF E6 (by rw [dg,cV qu];rfl),?_];refine #[ln,_,_,_,Y,Y,Gp,E5,SI,_,_,Y,Y,ln,_,_,_,Y,Y,Gp,tg E5 (by rw [bb];omega),?_];refine #[Rm,ah.set (ns[G.toNat]).toNat (ah[(ns[G.toNat]).toNat]+1),_,Y,?_,?_,?_,?_,?_,?_]
    ·intro c o na nl e;rw [a3 nl];exact B _ _ na (S _ _ na nl e)
    ·rw [a3 AD.symm];exact Sv
    ·rw [bc,mQ]
    ·rw [pI];exact sq
    ·intro e he;rcases List.mem_or_eq_of_mem_set he with z|z
     ·exact u2 e z
     ·have:=u2 _ (kv hM);omega
    ·have:=Ht (cV hM);omega
   ·rintro σ J ⟨sG,ah,qm,rfl,S,Au,AY,sq,u2,Es⟩;have Gq:J d=some (.lst zs):=S _ _ AF FR.symm (uT _ _ AF (vp _ _ u));refine #[.inl #[Y,_,aK.of Gq],d,_,_,Y,Y,Gq,by rw [b8];omega,λ D4 B zt=>?_];have keep:∀ c o,c≠a->c≠d->m c=some o->D4 c=some o:=λ c o na cD e =>
     B _ _ cD (S _ _ na (λ z=>by rw [z,sf] at e;cases e) (uT _ _ na (vp _ _ e)))
    refine #[sG,zs++[.ref ln],_,_,_,Y,λ c o na cD e=>keep c o na cD (Z c o na cD e),B _ _ AF.symm Au,zt,by rw [dn,hh];rfl,λ z hD=>?_];rcases i1.mp hD with k|k
    ·obtain ⟨l,s',rfl,eO,r⟩:=vd z k;refine #[l,s',Y,keep l _ ?_ ?_ eO,r]
     ·intro y;rw [y,sj] at eO;have cC:=r.1;have:(s'.map V.int).length=1:=by injection eO with z;injection z with z;rw [<-z];rfl
      rw [bb] at this;omega
     ·intro y;rw [y,u] at eO;have cC:=r.1;have:(s'.map V.int).length=zs.length:=by injection eO with z;injection z with z;rw [<-z]
      rw [bb,hh] at this;omega
    ·rw [dH] at k;subst k;exact #[ln,ah,Y,B _ _ FR AY,sq,u2,.ak]
  ·rintro σ m ⟨rW,zs,yX,yY,yZ,rfl,Z,sj,u,hh,vd⟩;obtain ⟨y3,l4,rfl⟩:=Hr hh
   ·obtain ⟨gw,t0,rfl,mc,vL,R4,R5⟩:=vd y3 .zs;obtain ⟨fB,t1,rfl,nx,vM,R6,R7⟩:=vd l4 .zs;have u5:(List.zipWith gz t0 t1).length=10:=by rw [q2,vL,vM];rfl
    refine #[d,_,_,_,Y,Y,aK.of u,Y,d,_,_,_,Y,Y,aK.of u,Y,gw,fB,_,_,Y,mc,nx,λ D jj=>?_];refine Dm (K:=K) (f:=gz) (σ0:=[]) (xs:=t0) (ys:=t1) (by rw [vL,vM,b8];decide) #[_,_,Y] jj mc nx (λ x y H' R _ _ r=>#[_,_,Y,r]) λ fc I M=>?_
    refine #[d,_,_,_,Y,Y,aK.of (I _ _ u),Y,gw,D,_,_,Y,I _ _ mc,M,λ x8 zv=>?_];refine Dm (K:=K) (f:=hi) (σ0:=[]) (xs:=t0) (ys:=List.zipWith gz t0 t1) (by rw [vL,u5,b8];decide) #[_,_,Y] zv (I _ _ mc) M (λ x y H' R _ _ r=>#[_,_,Y,Y,r]) λ j2 oE ji=>?_
    have Pl:=dT (Iq t0 t1 R6) R5;have R3:=dT (JV t0 t1 R4) R7;refine #[x8,_,Y,ji,by rw [q2,vL,u5];rfl,GW (λ e he=>Ua he) (by rw [AS];exact Pl) .aw,λ m5 ni=>?_];have sN:=(I.trans oE).trans ni;have aej:f5≠a:=vI;have Aw:m f5=some (.lst ys):=Z _ _ vI S8 (g _ _ sU);refine #[.inl #[Y,_,aK.of (sN _ _ Aw)],d,_,_,_,Y,Y,aK.of (sN _ _ u),Y,fB,D,_,_,Y,sN _ _ nx,ni _ _ (oE _ _ M),λ Oc zw=>?_];refine Dm (K:=K) (f:=hi) (σ0:=[]) (xs:=t1) (ys:=List.zipWith gz t0 t1) (by rw [vM,u5,b8];decide) #[_,_,Y] zw (sN _ _ nx) (ni _ _ (oE _ _ M)) (λ x y H' R _ _ r=>#[_,_,Y,Y,r]) λ x9 sB OS=>?_
    refine #[Oc,_,Y,OS,by rw [q2,vM,u5];rfl,GW (λ e he=>Ub he) (by rw [AU];exact R3) .aw,λ ac7 Pj=>?_];have R2:=(sN.trans sB).trans Pj;refine #[bI,λ DY ac8 ac_ Pk ip=>?_];have vq:=R2.trans Pk;refine #[f5,ys,_,Y,Y,vq _ _ Aw,by rw [b8];omega,λ Oe yj rR=>?_];rw [AS,AU] at ip;have keep:∀ c o,c≠a->c≠f5->v c=some o->Oe c=some o:=λ c o na nm e =>
     yj _ _ nm (vq _ _ (Z _ _ na (λ z=>by rw [z,L] at e;cases e) (g _ _ e)))
    refine #[rW,ys++[.ref DY],_,_,_,_,_,_,_,Y,λ c o na e=>keep c o na (λ z=>by rw [z,PS] at e;cases e) (X c o na e),yj _ _ vI.symm (vq _ _ sj),rR,by rw [dn,mh];rfl,λ y lY=>?_];rcases i1.mp lY with k|k
    ·obtain ⟨c,rS,rU,rfl,dE,f⟩:=zJ y k;exact #[c,rS,rU,Y,keep _ _ (cq dE qr nofun) (cq dE sU nofun) dE,f]
    ·rw [dH] at k;subst k;exact #[DY,_,_,Y,yj _ _ (cq ip (vq _ _ Aw) nofun) ip,LA .ak .ak]
 ·rintro σ v ⟨jm,ys,yT,yU,oG,u8,oH,mu,mv,rfl,X,qr,sU,mh,zJ⟩;refine #[f5,ys,Y,aK.of sU,λ yK fJ L g h9=>?_];refine q yK fJ jm ys (X.trans (br.of g)) (g _ _ qr) h9 (by rw [mh];omega) (by rw [mh];omega) λ x dq=>?_
  obtain ⟨c,rS,rU,rfl,dE,f⟩:=zJ x dq;exact #[c,rS,rU,Y,g _ _ dE,f]
end
theorem aaJ:bootBuiltins "ValueError" = some (.type "ValueError"):=by decide +kernel
section
variable {P:Program} {w:World} {K:aT} {mg:Str->cE} {base:Heap}
theorem J9 (af:M∈p) (ai:∀ a∈p,M<=a):nn p=decide (0<=M):=by
 by_cases h:0<=M
 ·rw [bP h,g0];intro x b;have:=ai x b;omega
 ·rw [cK h,mR];intro z;exact h (g0.mp z M af)
def eM (H:aC) (bH:bj) (aj:cX):Prop:=bH.length=aj.length/\∀ (k:Nat) x,bH[k]?=some x->∃ i j e u m,aj[k]?=some (i,j)/\x=.ref e/\H e=some (.tup [.ref u,.ref m])/\H u=some (tupI (eG (g4 j.toNat)))/\H m=some (tupI (chg i.toNat j.toNat))/\ey i j=.t
theorem eM.same (h:eM H xs aj) (s:ax H H'):eM H' xs aj:=#[h.1,λ k x e=>by
 obtain ⟨i,j,c,u,m,af,ai,a,b,d,f⟩:=h.2 k x e;exact #[i,j,c,u,m,af,ai,s _ _ a,s _ _ b,s _ _ d,f]]
theorem eM.but (h:eM H xs aj) (o:H l=some (.lst ys)) (s:br l H H'):eM H' xs aj:=#[h.1,λ k x e=>by
 obtain ⟨i,j,c,u,m,af,ai,a,d,f,g⟩:=h.2 k x e;have n:∀ {b:Addr} {zs:bj},H b=some (.tup zs)->b≠l:=λ ae=>cq ae o nofun
 exact #[i,j,c,u,m,af,ai,s _ _ (n a) a,s _ _ (n d) d,s _ _ (n f) f,g]]
theorem HS (l):s8 l=(eG l).map V.int:=by
 unfold s8 eG;rw [fa];rfl
inductive Lh:bz
 |mk {vs H Q E} (b:Addr) (xs:bj) (aj:cX):vs=[.ref b]->H b=some (.tup xs)->d0 H xs aj->xs.length<=1000->(∀ l H' bH,H l=.n->ax H H'->H' l=some (.lst bH)->eM H' bH aj->Q (.ref l) H')->Lh vs H Q E
theorem Z5 (T:aY K mg):b4 P w mg base bY 4 T.JF Lh:=by
 refine T.JF.fn.cp rB .bU λ a0 A outer s H vs Q E S h=>?_
 obtain ⟨b,xs,aj,rfl,ae,hf,eO,q⟩:=h;refine #[_,(aD (ba 1 rB (cW aq))
  (aD (eI dW Y (jK (U 0)) (hs Y (cv (cH 2 rB) (cv (cH 3 rB) eh)))
   (aD (ba 4 rB (a4 (J_ T) S aV (aa (U 3) aq)))
  (aG (eY (eN hu kB kC lN (U 1) (aa (fx (aa (U 4) (aa (dv m4 T.gr gq (aa (eA (dp rB (js:=[.n,.n]) (dV _)) Y (lB Y Y T.hl (aa (a4 (J_ T) S aV (aa (U 2) aq)) (aa (U 4) aq))) (λ _ _ _ _=>(jT (n:=2) Y Y (cv d1 (cv (iF (i:=1) (show List.Nodup (["one", "other"]:b2) from by decide +kernel) Y (Or.inl Y) (Or.inr Y)) eh)))) (λ _ _ _ _=>ei)
    (λ _ _ _ _=>(bf gE (U 0) (U 1)))) aq)) aq))) aq))))))
  (aG (aZ (U 1))))),?_]
 refine #[bI,λ t H1 f1 s1 vc=>?_];refine #[b,Y,#[_,aL.of (s1 _ _ ae)],wV (λ i σ ao=>(∃ u v x,σ=[some (.ref b),some (.ref t),u,v,x])/\ax H ao/\∃ bH,ao t=some (.lst bH)/\eM ao bH (aj.take i)) #[#[.n,.n,.n,Y],s1,[],vc,#[Y,λ k x e=>by cases e]] (λ i σ ao _ ⟨_,s2,_⟩=>aL.of (s2 _ _ ae)) ?_ ?_]
 ·rintro k x σ ao dq ⟨⟨u,v,l3,rfl⟩,s2,bH,g,f⟩;obtain ⟨i,j,c,M,rfl,dE,f4⟩:=hf.2 k x dq;obtain ⟨⟨rT,yz⟩,⟨c2,dF⟩⟩:=C1 f4;refine #[c,_,Y,aL.of (s2 _ _ dE),Y,_,_,Y,_,_,Y,Y,?_];refine #[j,Y,c2,λ z=>absurd dF z,λ _ Z j0 s3 hC C=>?_];rw [<-LI .ak,HS] at C;refine #[.inl #[Y,_,aK.of (s3 _ _ g)],i,Y,rT,λ z=>absurd yz z,λ _ nj iI s4 adw L=>?_];rw [<-LI .ak,HS] at L;refine #[nj,Z,Y,#[_,aL.of L],#[_,aL.of (s4 _ _ C)],λ D jj=>?_];refine ue (by simp [eG,g4,cL];decide) #[_,_,Y] jj L (s4 _ _ C) (λ x y H' R _ _ r=>#[_,_,Y,Y,r]) λ j1 s5 h8=>?_
  refine #[D,_,Y,aK.of h8,λ m fJ lW X J=>?_];rw [Ir] at J;refine #[bI,λ e hy nc G N=>?_];have B:=(((s3.trans s4).trans s5).trans X).trans G;have aU:=G _ _ (X _ _ (s5 _ _ (s4 _ _ C)));refine #[t,bH,.ref e,Y,Y,B _ _ g,?_,λ fc l kQ=>?_]
  ·rw [f.1,i3,b8];have:=hf.1;omega
  have n:∀ {b:Addr} {zs:bj},hy b=some (.tup zs)->b≠t:=λ ae=>cq ae (B _ _ g) nofun
  refine #[#[_,_,_,Y],?_,_,kQ,?_]
  ·intro d o I;exact l d o (λ z=>by rw [z,f1] at I;cases I) (B _ _ (s2 _ _ I))
  ·have p:=(f.same B).but (B _ _ g) l;have jw:aj.take (k+1)=aj.take k++[(i,j)]:=by rw [jN,M];rfl
   have mb:bH.length=k:=by
    rw [f.1,i3];have:=(dK.mp M).1;omega
   refine #[by rw [jw,dn,dn,p.1];rfl,λ dN y a=>?_];by_cases ay:dN<bH.length
   ·rw [jJ ay] at a;obtain ⟨rS,rU,ov,yR,j6,g1,g2⟩:=p.2 dN y a;exact #[rS,rU,ov,yR,j6,by rw [jw,jJ (by rw [<-p.1];exact ay)];exact g1,g2]
   ·rw [kq .ak] at a;have O:dN-bH.length=0:=by
     have:=(dK.mp a).1;simp at this;omega
    rw [O] at a;have PK:y=.ref e:=by simpa using a.symm
    refine #[i,j,e,Z,m,?_,PK,l _ _ (n N) N,l _ _ (n aU) aU,l _ _ (n (G _ _ J)) (G _ _ J),f4];rw [jw,kq (by rw [<-p.1];omega),<-p.1,O];rfl
 ·rintro σ ao ⟨⟨u,v,l3,rfl⟩,s2,bH,g,f⟩;rw [hf.1,ky] at f;exact (q t ao bH f1 s2 g f)
theorem aar (h:ey i j=.t):mX i.toNat j.toNat=.t:=by
 unfold ey at h;simp only [eX] at h;exact h.2
inductive Ni:bz
 |mk {vs H Q E} (l b:Addr) (bH:bj) (aj:cX) (ag:bp):vs=[.ref l,.ref b]->H l=some (.lst bH)->eM H bH aj->H b=some (tupI ag)->ag.length=10->nn ag=.t->(∀ H',ax H H'->Q (gT (b_ (rowsOf aj) ag)) H')->Ni vs H Q E
theorem xO (T:aY K mg):b4 P w mg base bY 1 T.Mc Ni:=by
 refine T.Mc.fn.cp uh .bU λ a0 A outer s H vs Q E e1 h=>?_
 obtain ⟨l,b,bH,aj,ag,rfl,t,bA,ae,B,aU,q⟩:=h;refine #[_,(aD (eI dW Y (w3 Y Y T.xE (aa (U 0) aq)) (hs Y (cv (cH 2 uh) (cv (hs Y (cv (cH 3 uh) (cv (cH 4 uh) eh))) eh)))
   (aG (bM (bq qP (bR (Yw Y) T.pe pa (aa (eA (dp uh (js:=[.n,.n]) (dV _)) Y (lB Y Y T.hl (aa (U 1) (aa (U 3) aq))) (λ _ _ _ _=>(jT (n:=2) Y Y (cv d1 (cv (iF (i:=1) (show List.Nodup (["one", "other"]:b2) from by decide +kernel) Y (Or.inl Y) (Or.inr Y)) eh)))) (λ _ _ _ _=>ei)
    (λ _ _ _ _=>(bf gE (U 0) (U 1)))) aq)) aF (bh _))
   (aG (aZ (U 2)))
   bJ)))
  (aG (aZ e_))),?_]
 refine #[l,bH,Y,t,?_];refine xc (λ i σ ao=>(∃ u v x,σ=[some (.ref l),some (.ref b),u,v,x])/\ax H ao/\∀ j,j<i->∀ c,(rowsOf aj)[j]?=some c->dQ c ag=.f) #[#[.n,.n,.n,Y],ax.refl H,λ j O=>by omega] (λ i σ ao _ ⟨_,s2,_⟩=>s2 _ _ t) ?_ ?_
 ·rintro k x p σ ao X ar ⟨⟨u,v,l3,rfl⟩,s2,d⟩;obtain ⟨i,j,e,r1,m,f1,rfl,he,C,hm,f4⟩:=bA.2 k x X;have s3:=ax.more (o:=.tup [.int k,.ref e]) s2 ar;refine #[p,_,Y,aL.of bc,Y,_,_,Y,_,_,Y,e,_,Y,aL.of (s3 _ _ he),Y,_,_,Y,_,_,Y,Y,Y,?_];refine #[b,r1,Y,#[_,aL.of (s3 _ _ ae)],#[_,aL.of (s3 _ _ C)],λ D N=>?_];refine ue (by rw [B];simp [eG,g4,cL];decide) #[_,_,Y] N (s3 _ _ ae) (s3 _ _ C) (λ x y H' R _ _ r=>#[_,_,Y,Y,r]) λ I s5 L=>?_
  have f:(rowsOf aj)[k]?=some (chg i.toNat j.toNat):=by unfold rowsOf;rw [dg,f1];rfl
  refine #[D,_,Y,aK.of L,λ z=>?_,λ M Z j7=>#[_,_,Y,Y,_,Y,?_]]
  ·have:=fD List.length z;rw [q2,B] at this;simp [eG,g4,cL] at this
  have J:=J9 Z j7;rw [<-J,Zv (aar f4) aU];refine c3 (λ h=>?_) (λ h=>?_)
  ·have aH:=q I (s3.trans s5);rw [wW (rowsOf aj) ag k d (λ g a=>by rw [f] at a;cases a;exact h) (dK.mp f).1] at aH;exact (aH)
  ·refine #[#[_,_,_,Y],s3.trans s5,λ G O g a=>?_];by_cases S:G=k
   ·subst S;rw [f] at a;cases a;cases z:dQ (chg i.toNat j.toNat) ag with
    | true=>exact absurd z h
    | false=>rfl
   ·exact d G .ak g a
 ·rintro σ ao ⟨⟨u,v,l3,rfl⟩,s2,d⟩;have aH:=q ao s2;rw [CB (rowsOf aj) ag λ j c e=>d j (by rw [bA.1,<-kG];exact (dK.mp e).1) c e] at aH;exact aH
inductive Jo:bz
 |mk {vs H Q E} (l b:Addr) (bH:bj) (aj:cX) (ag c:bp) (k:Nat) (m:Int):vs=[.ref l,.ref b,.int k,.int m]->H l=some (.lst bH)->eM H bH aj->H b=some (tupI ag)->ag.length=10->(rowsOf aj)[k]?=some c->(-(2 ^ 64)<m/\m<2 ^ 64)->(∀ p H',ax H H'->H' p=some (tupI (bK ag c m))->Q (.ref p) H')->Jo vs H Q E
theorem I2 (T:aY K mg):b4 P w mg base bY 1 T.Hx Jo:=by
 refine T.Hx.fn.cp Jj .bU λ a0 A outer s H vs Q E C h=>?_
 obtain ⟨l,b,bH,aj,ag,c,k,m,rfl,u,bA,ae,v,a,hm,q⟩:=h;refine #[_,(aG (aZ (dv m4 T.gr gq (aa (eA (dp Jj (js:=[.n,.n,some 3]) (jO.mpr #[Y,(dV _)])) Y (lB Y Y T.hl (aa (U 1) (aa (bO d6 (bO cz (U 0) (U 2) (λ Z Z=>rfl)) aF (λ Z Z=>rfl)) aq))) (λ Z Z Z Z=>(jT (n:=2) Y Y (cv d1 (cv (iF (i:=1) (show List.Nodup (["one", "other", "often"]:b2) from by decide +kernel) Y (Or.inl Y) (Or.inr Y)) eh)))) (λ Z Z Z Z=>ei)
    (λ Z Z Z Z=>(bf ez (U 0) (bf mP (U 2) (U 1))))) aq)))),?_]
 have ay:k<bH.length:=by rw [bA.1,<-kG];exact (dK.mp a).1
 obtain ⟨i,j,e,I,z,f1,ex,he,G,d,f4⟩:=bA.2 k _ (cV ay);have t:c=chg i.toNat j.toNat:=by
  unfold rowsOf at a;rw [dg,f1] at a;exact (dS a).symm
 refine #[l,_,_,_,Y,Y,aK.of u,fF (mU k) (by rw [fV,cV ay,ex]),e,_,_,_,Y,Y,aL.of he,Y,b,z,Y,#[_,aL.of ae],#[_,aL.of d],λ D o=>?_];refine ue (by rw [v,CS];decide) #[_,_,Y] o ae d (λ x y H' R Z Z r=>#[_,_,Y,Y,.inl hm,_,_,Y,Y,r]) λ B s3 g=>?_
 refine #[D,_,Y,aK.of g,λ p f a_ s4 ar=>q p f (s3.trans s4) ?_];rw [ar,t];rfl
noncomputable def CE:b2:=["rest", "deed", "name", "number", "order", "powers", "program", "row", "text", "trail", "shared", "many"]
structure tf (T:aY K mg) (C:Addr) (i:Nat):Prop where
 e4:PySem.W.iv K C
 Po:PySem.W.kitOne K (.ref C) (.type "ValueError")=some .t
 k0:PySem.W.kitOne K (.ref C) (.ref T.dY)=some (i==0)
 k1:PySem.W.kitOne K (.ref C) (.ref T.ej)=some (i==1)
 k2:PySem.W.kitOne K (.ref C) (.ref T.dD)=some (i==2)
 k3:PySem.W.kitOne K (.ref C) (.ref T.og)=some (i==3)
 ng:PySem.W.kitOne K (.ref C) (.ref T.oc)=some (i==4)
 k5:PySem.W.kitOne K (.ref C) (.ref T.eZ)=some (i==5)
 yB:PySem.W.kitOne K (.ref C) (.ref T.eB)=some (i==6)
 rV:PySem.W.kitOne K (.ref C) (.ref T.n6)=some (i==7)
 OX:PySem.W.kitOne K (.ref C) (.ref T.n9)=some (i==8)
 j5:PySem.W.kitOne K (.ref C) (.ref T.od)=some (i==9)
 Ra:PySem.W.kitOne K (.ref C) (.ref T.n_)=some (i==10)
 Rb:PySem.W.kitOne K (.ref C) (.ref T.oe)=some (i==11)
noncomputable abbrev tu (i:Nat):List Bool:=[i==0,i==1,i==2,i==3,i==4,i==5,i==6,i==7,i==8,i==9,i==10,i==11]
theorem aa_:∀ i,i<12->(tu i).count .t=1:=by decide
theorem Zr:∀ i,i<12->(tu i)[i]?=some .t:=by decide
theorem aa9:∀ i,i<12->∀ m,m<i->(tu i)[m]?=some (!.t):=by decide
inductive MK (T:aY K mg):bz
 |mk {vs H Q E} (e C:Addr) (i:Nat) (x:Str):vs=[.ref e]->H e=some (mx e C .n)->tf T C i->i<12->CE[i]?=some x->(∀ H',ax H H'->Q (.str x) H')->MK T vs H Q E
theorem abf (T:aY K mg):AO P w K mg base 1 T.rD.f T.rD.fd ["e"] (MK T):=by
 refine T.rD.fn.RJ rI .bU λ a0 A outer s H vs Q E e1 h=>?_
 obtain ⟨e,C,i,x,rfl,he,k,av,I,q⟩:=h;refine #[_,(aD (ba 1 rI (cW (aa (bR iG T.el ek (aa (U 0) (aa (fZ (v:=.ref T.dY) (by rfl) T.IT Y) aq))) (aa (bR iG T.el ek (aa (U 0) (aa (fZ (v:=.ref T.ej) (by rfl) T.Xl Y) aq))) (aa (bR iG T.el ek (aa (U 0) (aa (fZ (v:=.ref T.dD) (by rfl) T.Xm Y) aq))) (aa (bR iG T.el ek (aa (U 0) (aa (fZ (v:=.ref T.og) (by rfl) T.ZN Y) aq))) aq))))))
  (aD (ba 1 rI (bf tT (U 1) (cW (aa (bR iG T.el ek (aa (U 0) (aa (fZ (v:=.ref T.oc) (by rfl) T.YL Y) aq))) (aa (bR iG T.el ek (aa (U 0) (aa (fZ (v:=.ref T.eZ) (by rfl) T.ZO Y) aq))) (aa (bR iG T.el ek (aa (U 0) (aa (fZ (v:=.ref T.eB) (by rfl) T.aat Y) aq))) (aa (bR iG T.el ek (aa (U 0) (aa (fZ (v:=.ref T.n6) (by rfl) T.Vt Y) aq))) aq)))))))
  (aD (ba 1 rI (bf tT (U 1) (cW (aa (bR iG T.el ek (aa (U 0) (aa (fZ (v:=.ref T.n9) (by rfl) T.Xn Y) aq))) (aa (bR iG T.el ek (aa (U 0) (aa (fZ (v:=.ref T.od) (by rfl) T.YM Y) aq))) (aa (bR iG T.el ek (aa (U 0) (aa (fZ (v:=.ref T.n_) (by rfl) T.Xo Y) aq))) (aa (bR iG T.el ek (aa (U 0) (aa (fZ (v:=.ref T.oe) (by rfl) T.YN Y) aq))) aq)))))))
  (aD (bM (dx.pt (e9 (bq hn (eN hu PySem.F.slot_list_count PySem.F.type_list_count YY (U 1) (aa hS aq)) aF (bh _)) (gn (eW (d_ (bR iG T.el ek (aa (U 0) (aa (ho (by rfl) T.aaQ aaJ) aq))))))))
   (aG (aZ a9))
   bJ)
  (aD (ba 2 rI (cW (aa a9 (aa a9 (aa a9 (aa a9 (aa a9 (aa a9 (aa a9 (aa a9 aq))))))))))
  (aD (ba 2 rI (bf tT (U 2) (cW (aa a9 (aa a9 (aa a9 (aa a9 aq)))))))
  (aG (aZ (bO cz (U 2) (eN hu PySem.F.slot_list_index PySem.F.type_list_index YZ (U 1) (aa hS aq)) (λ _ _=>rfl)))))))))),?_]
 have e4:=k.e4;refine #[e,C,_,_,_,Y,he,Y,e4,k.k0,e,C,_,_,_,Y,he,Y,e4,k.k1,e,C,_,_,_,Y,he,Y,e4,k.k2,e,C,_,_,_,Y,he,Y,e4,k.k3,bI,λ J H1 f1 s1 r=>?_];have a:=s1 _ _ he;refine #[e,C,_,_,_,Y,a,Y,e4,k.ng,e,C,_,_,_,Y,a,Y,e4,k.k5,e,C,_,_,_,Y,a,Y,e4,k.yB,e,C,_,_,_,Y,a,Y,e4,k.rV,bI,λ L ao f2 s2 t=>#[J,L,_,_,Y,Y,s2 _ _ r,t,bI,λ M aU hC s3 u=>?_]];have b:=s3 _ _ (s2 _ _ a);refine #[e,C,_,_,_,Y,b,Y,e4,k.OX,e,C,_,_,_,Y,b,Y,e4,k.j5,e,C,_,_,_,Y,b,Y,e4,k.Ra,e,C,_,_,_,Y,b,Y,e4,k.Rb,bI,λ N X f4 s4 y=>#[M,N,_,_,Y,Y,s4 _ _ u,y,bI,λ j Z h7 s5 z=>?_]];have p:=s5 _ _ (s4 _ _ b);have c:=z;refine #[.inl #[Y,_,aK.of c],j,tu i,.t,Y,Y,c,Y,_,Y,Tx (by rw [aa_ i av];rfl) ?_];refine #[e,C,_,_,_,Y,p,Y,e4,k.Po,_,Y,bD ?_];refine #[bI,λ O fJ lW l B=>?_];refine #[bI,λ R hy nc d D=>#[O,R,_,_,Y,Y,d _ _ B,D,bI,λ S n f8 m G=>?_]];have g:=m _ _ (d _ _ (l _ _ c));have hw:=G;have o:(CE.map V.str)[i]?=some (.str x):=by rw [dg,I];rfl
 exact #[.inl #[Y,_,aK.of g],j,tu i,.t,i,Y,Y,g,Zr i av,aa9 i av,(by show 12<=1000;decide),S,_,_,_,Y,Y,aK.of hw,HB o,q n (((((((s1.trans s2).trans s3).trans s4).trans s5).trans l).trans d).trans m)]
theorem YR (T:aY K mg):tf T T.dD 2:=#[T.W0,T.WY,T.ab8,T.ab9,T.ab_,T.acC,T.acr,T.acD,T.acK,T.abM,T.aca,T.acs,T.acb,T.acu]
theorem YQ (T:aY K mg):tf T T.ej 1:=#[T.WZ,T.WX,T.ab3,T.ab4,T.ab5,T.acA,T.aco,T.acB,T.acJ,T.abL,T.ab6,T.acp,T.ab7,T.acq]
theorem aaP (T:aY K mg):tf T T.eB 6:=#[T.aan,T.aam,T.acL,T.acM,T.acN,T.acY,T.acS,T.acZ,T.ac0,T.acE,T.acO,T.acT,T.acP,T.acU]
end
noncomputable def jD (c:Nat):Bool:=decide (97<=c/\c<=122)
theorem lets (c):decide (c∈(("abcdefghijklmnopqrstuvwxyz" : String):Str).cps.toList)=jD c:=by
 have e:(("abcdefghijklmnopqrstuvwxyz"):Str).cps.toList=List.range' 97 26:=by decide +kernel
 rw [e];exact decide_eq_decide.mpr (List.mem_range'_1.trans #[λ h=>#[h.1,.ak],λ h=>#[h.1,.ak]])
theorem Ib (x) (t):(((List.range x.cps.size).map λ i=>t (x.cps.getD i 0)).all id)=(cn x).all t:=by
 have e:cn x=(List.range x.cps.size).map λ i=>x.cps.getD i 0:=by
  apply q6;intro i;rcases q7 i x.cps.size with h|h
  ·rw [dg,List.getElem?_range h];simp [cn,h]
  ·rw [kz (by rw [eV];exact h),kz (by rw [bb,i9];exact h)]
 rw [e,n5,n5];rfl
section
variable {P:Program} {w:World} {K:aT} {mg:Str->cE} {base:Heap}
noncomputable def mF:V->Bool
 | .int i=>gk i
 | _=>.f
def aag:bz:=λ vs H Q Z=>∃ v,vs=[v]/\eH H v/\Q (.aJ (mF v)) H
theorem KS (T:aY K mg):b4 P w mg base bY 2 T.JB aag:=by
 refine T.JB.fn.cp aac .bU λ a0 A outer s H vs Q E a h=>?_
 obtain ⟨v,rfl,k,q⟩:=h;refine #[_,(aD (bM (dx.pt (e9 (eW (d_ (a4 (LH T) a aV (aa (U 0) aq)))) (e9 (bq iZ (U 0) aF (bh _)) (gn (bq gW (U 0) (jU (by rfl) T.aas) (bh _))))))
   (aG (aZ hS))
   bJ)
  (aG (aZ (fY cY (a4 (acz T) a aV (aa (U 0) aq)) aF (bh _))))),?_]
 refine #[v,Y,k,_,Y,?_];cases hw:qw v with
 | false =>
  refine b6 (b6 ?_);have e:mF v=.f:=by cases v<;>first|rfl|cases hw
  rw [e] at q;exact q
 | true =>
  obtain ⟨i,rfl⟩:=BO hw;refine bD #[_,_,Y,Y,_,Y,c3 (λ h=>?_) (λ h=>#[_,_,Y,Y,_,Y,c3 (λ h'=>?_) (λ h'=>?_)])]
  ·have af:=cM h;have e:mF (.int i)=.f:=by
    show (decide (1<=i)&&decide (i<=1000000000000)&&decide (g9 i.toNat=1))=.f;rw [cK (by omega:¬ 1<=i)];rfl
   rw [e] at q;exact b6 q
  ·have af:=cM h';have e:mF (.int i)=.f:=by
    show (decide (1<=i)&&decide (i<=1000000000000)&&decide (g9 i.toNat=1))=.f;rw [cK (by omega:¬ i<=1000000000000),Bool.and_false];rfl
   rw [e] at q;exact q
  ·have af:¬ i<1:=λ z=>h (bP z)
   have ai:¬ 1000000000000<i:=λ z=>h' (bP z)
   refine #[i,Y,.ak,Y,?_];have e:mF (.int i)=decide (V.int (g9 i.toNat)=V.int 1):=by
    show (decide (1<=i)&&decide (i<=1000000000000)&&decide (g9 i.toNat=1))=_;rw [bP (by omega:1<=i),bP (by omega:i<=1000000000000),Bool.and_self,pP];by_cases z:g9 i.toNat=1
    ·rw [z];rfl
    ·rw [cK z,cK];intro y;injection y with y;omega
   rw [e] at q;exact q
noncomputable def gi (H:aC) (v:V):Bool:=match et H v with
 | some [.int i,.int j]=>ey i j
 | _=>.f
theorem Zy (i j:Nat):((dC.map λ v=>match v with| .int p=>V.aJ ((!decide (V.int ((i:Int)%p)=V.int 0)) || !decide (V.int ((j:Int)%p)=V.int 0))|v=>v))=(cL.map λ p=>(i%p != 0||j%p != 0)).map V.aJ:=by
 have e:∀ (a p:Nat),(!decide (V.int (a%p)=V.int 0))=(a%p != 0):=by
  intro a p;by_cases z:a%p=0
  ·have:a%(p:Int)=0:=by omega
   rw [this,z];rfl
  ·have:a%(p:Int)≠0:=by omega
   rw [cK (λ y=>this (by injection y))];have:(a%p != 0)=.t:=by simpa using z
   rw [this];rfl
 have b:dC=cL.map λ p=>V.int ((p:Nat):Int):=rfl
 rw [b,fa,fa];refine q1 λ p Z=>?_
 show V.aJ ((!decide (V.int ((i:Int)%(p:Int))=V.int 0)) || !decide (V.int ((j:Int)%(p:Int))=V.int 0))=V.aJ (i%p != 0||j%p != 0);rw [e,e]
def abR:bz:=λ vs H Q Z=>∃ v,vs=[v]/\fO H v/\∀ H',ax H H'->Q (.aJ (gi H v)) H'
set_option tactic.hygienic true in
theorem abH (T:aY K mg):b4 P w mg base bY 3 T.MO abR:=by
 refine T.MO.fn.cp xS .bU λ a0 A outer s H vs Q E o h=>?_
 obtain ⟨v,rfl,⟨k,aW⟩,q⟩:=h;refine #[_,(aD (bM (dx.pt (e9 (eW (d_ (bR h2 T.el ek (aa (U 0) (aa (ho (by rfl) T.gr gq) aq))))) (gn (bq hn (bR fb T.dz dy (aa (U 0) aq)) aF (bh _)))))
   (aG (aZ hS))
   bJ)
  (aD (tr (i:=1) xS.cD Y (Or.inr Y) (bO d6 (U 0) aF (λ Z Z=>rfl)))
  (aD (tr (i:=2) xS.cD Y (Or.inr Y) (bO d6 (U 0) aF (λ Z Z=>rfl)))
  (aD (bM (dx.pt (e9 (eW (d_ (a4 (KS T) o aV (aa (U 1) aq)))) (gn (eW (d_ (a4 (KS T) o aV (aa (U 2) aq)))))))
   (aG (aZ hS))
   bJ)
  (aG (aZ (bR (oa Y) T.nJ nG (aa (eA (dp xS (N:=["prime", "top", "bottom"]) (js:=[.n,some 1,some 2]) (jO.mpr #[Y,(jO.mpr #[Y,(dV _)])])) Y (jK (fZ (v:=.ref T.g8) (by rfl) T.pW Y)) (λ Z Z Z Z=>d1) (λ Z Z Z Z=>ei)
    (λ Z Z Z Z=>(TQ (fY hn (bf i7 (U 1) (U 0)) aF (bh _)) (pD (fY hn (bf i7 (U 2) (U 0)) aF (bh _)))))) aq)))))))),?_]
 obtain ⟨t,ty,e⟩:=vP (K:=K) k;refine #[v, "tuple", t,_,Y,ty,e,_,Y,?_];cases bA:et H v with
 | none =>
  refine b6 (b6 ?_);have aH:=q H (ax.refl H);rw [show gi H v=.f by unfold gi;rw [bA]] at aH;exact aH
 | some xs =>
  obtain ⟨a,rfl,au⟩:=rl bA;obtain ⟨O,ay⟩:=aW xs bA;refine bD #[a,xs,Y,.inr (aL.of au),Y,_,Y,c3 (λ h=>?_) (λ h=>?_)]
  ·have aH:=q H (ax.refl H);have d:xs.length≠2:=λ z=>by
    rw [z] at h;exact absurd h .aw
   rw [show gi H (.ref a)=.f by
    unfold gi;rw [bA];split
    ·rename_i i j z;cases z;exact absurd rfl d
    ·rfl] at aH
   exact aH
  ·have d:xs.length=2:=by
    have h':decide (V.int (xs.length:Int)=V.int 2)=.t:=by
     cases z:decide (V.int (xs.length:Int)=V.int 2) with
     | true=>rfl
     | false=>rw [z] at h;exact absurd rfl h
    have:=pR h';omega
   obtain ⟨x,y,rfl⟩:=Hr d
   ·have d7:eH H x:=ay x .zs;have L:eH H y:=ay y .zs;refine #[a,_,_,x,Y,Y,aL.of au,Y,?_];refine #[a,_,_,y,Y,Y,aL.of au,Y,?_];have m:∀ {b:Bool},mF x=.f\/mF y=.f->gi H (.ref a)=.f:=by
     intro _ z;unfold gi;rw [bA];split
     ·rename_i i j M;cases M;show (gk i&&gk j&&mX i.toNat j.toNat)=.f;rcases z with z|z
      ·rw [show gk i=.f from z];rfl
      ·rw [show gk j=.f from z,Bool.and_false];rfl
     ·rfl
    refine #[x,Y,d7,_,Y,?_];cases l:mF x with
    | false =>
     refine b6 (b6 ?_);have aH:=q H (ax.refl H);rw [m (b:=.t) (.inl l)] at aH;exact aH
    | true =>
     refine bD #[y,Y,L,_,Y,?_];cases g:mF y with
     | false =>
      refine b6 ?_;have aH:=q H (ax.refl H);rw [m (b:=.t) (.inr g)] at aH;exact aH
     | true =>
      refine bD ?_;obtain ⟨i,rfl⟩:∃ i,x=.int i:=by cases x<;>first|exact #[_,Y]|cases l
      obtain ⟨j,rfl⟩:∃ j,y=.int j:=by cases y<;>first|exact #[_,Y]|cases g
      have oF:gk i=.t:=l;have iS:gk j=.t:=g;have X:1<=i:=by
       unfold gk at oF;simp only [eX,n4] at oF;exact oF.1.1
      have c2:1<=j:=by
       unfold gk at iS;simp only [eX,n4] at iS;exact iS.1.1
      refine #[T.g8,Y,#[dC,T.jV H],λ D n=>Mg (xs:=dC) (f:=λ v=>match v with| .int p=>V.aJ ((!decide (V.int ((i.toNat:Int)%p)=V.int 0)) || !decide (V.int ((j.toNat:Int)%p)=V.int 0))|v=>v) Y .aw n (T.jV H) ?_ ?_]
      ·intro x H' R I r;obtain ⟨z,J⟩:=g6 I;obtain ⟨p,rfl,ar,aU⟩:=rE J;have S:2<=p:=i8 p (cg ar);have C:((i.toNat:Nat):Int)=i:=hW .ak;have G:((j.toNat:Nat):Int)=j:=hW .ak;have c:R (V.aJ ((!decide (V.int (i%(p:Int))=V.int 0)) || !decide (V.int (j%(p:Int))=V.int 0))) H':=by
        have u:R (V.aJ ((!decide (V.int ((i.toNat:Int)%(p:Int))=V.int 0)) || !decide (V.int ((j.toNat:Int)%(p:Int))=V.int 0))) H':=r;rw [C,G] at u;exact u
       refine #[_,_,Y,Y,(by show (0:Int)<p;omega),Y,_,Y,?_];cases z:decide (V.int (i%(p:Int))=V.int 0) with
       | false =>
        rw [z] at c;exact b6 c
       | true =>
        rw [z] at c;exact bD #[_,_,Y,Y,(by show (0:Int)<p;omega),Y,c]
      ·rw [Zy];refine #[D,_,Y,aK.of bc,?_];have B:gi H (.ref a)=(cL.map λ p=>(i.toNat%p != 0||j.toNat%p != 0)).all id:=by
        unfold gi;rw [bA];show (gk i&&gk j&&mX i.toNat j.toNat)=_;rw [oF,iS,Bool.and_self,pP];rw [n5];rfl
       rw [B] at q;exact q _ (ax.new n)
theorem ax.et (s:ax H H') (k:eH H v):cb.et H' v=cb.et H v:=(jA.of s).et k
theorem ax.fO (s:ax H H') (k:cb.fO H v):cb.fO H' v:=(jA.of s).fO k
theorem ax.gi (s:ax H H') (k:eH H v):cb.gi H' v=cb.gi H v:=by
 unfold cb.gi;rw [ax.et s k]
noncomputable def ph (H:aC) (v:V):Bool:=match et H v with
 | some xs=>decide (1<=xs.length)&&decide (xs.length<=16)&&xs.all (gi H)
 | none=>.f
def abv:bz:=λ vs H Q Z=>∃ v,vs=[v]/\Al H v/\∀ H',ax H H'->Q (.aJ (ph H v)) H'
theorem MZ (T:aY K mg):b4 P w mg base bY 4 T.L_ abv:=by
 refine T.L_.fn.cp Nf .bU λ a0 A outer s H vs Q E j h=>?_
 obtain ⟨v,rfl,⟨k,aW⟩,q⟩:=h;refine #[_,(aD (bM (dx.pt (e9 (eW (d_ (bR h2 T.el ek (aa (U 0) (aa (ho (by rfl) T.gr gq) aq))))) (e9 (bq iZ (bR fb T.dz dy (aa (U 0) aq)) aF (bh _)) (gn (bq gW (bR fb T.dz dy (aa (U 0) aq)) (jU (by rfl) T.acj) (bh _))))))
   (aG (aZ hS))
   bJ)
  (aG (aZ (bR (oa Y) T.nJ nG (aa (eA (dp Nf (N:=["part"]) (js:=[.n]) (dV _)) Y (jK (U 0)) (λ Z Z Z Z=>d1) (λ Z Z Z Z=>ei)
    (λ Z Z Z Z=>(a4 (abH T) j aV (aa (U 0) aq)))) aq))))),?_]
 obtain ⟨t,ty,e⟩:=vP k;refine #[v, "tuple", t,_,Y,ty,e,_,Y,?_];cases bA:et H v with
 | none =>
  refine b6 (b6 ?_);have aH:=q H (ax.refl H);rw [show ph H v=.f by unfold ph;rw [bA]] at aH;exact aH
 | some xs =>
  obtain ⟨a,rfl,au⟩:=rl bA;obtain ⟨p,ay⟩:=aW xs bA;have e2:ph H (.ref a)=(decide (1<=xs.length)&&decide (xs.length<=16)&&xs.all (gi H)):=by unfold ph;rw [bA]
  refine bD #[a,xs,Y,.inr (aL.of au),_,_,Y,Y,_,Y,c3 (λ h=>?_) (λ h=>#[a,xs,Y,.inr (aL.of au),_,_,Y,Y,_,Y,c3 (λ h'=>?_) (λ h'=>?_)])]
  ·have af:=cM h;have aH:=q H (ax.refl H);rw [e2,cK (by omega:¬ 1<=xs.length)] at aH;exact b6 aH
  ·have af:=cM h';have aH:=q H (ax.refl H);rw [e2,cK (by omega:¬ xs.length<=16),Bool.and_false] at aH;exact aH
  ·have af:¬ (xs.length:Int)<1:=λ z=>h (bP z)
   have ai:¬ (16:Int)<xs.length:=λ z=>h' (bP z)
   refine #[a,Y,#[_,aL.of au],λ D g=>tQ (by rw [b8];omega) (λ i σ' H' ys=>(∃ u,σ'=[u])/\ax H H'/\ys=((xs.take i).map (gi H)).map V.aJ) #[#[_,Y],ax.new g,Y] (λ i σ' H' ys _ _ ⟨_,s',_⟩=>aL.of (s' _ _ au)) ?_ ?_]
   ·rintro i x σ' H' ys R d c l ⟨⟨u,rfl⟩,s',rfl⟩ m;obtain ⟨d7,_⟩:=id (ay x (cg d));refine #[x,Y,ax.fO s' (ay x (cg d)),λ n s4=>m _ _ _ (s4 _ _ c) #[#[_,Y],?_,?_]]
    ·intro b o f;rw [a3 (b0 f g)];exact s4 _ _ (s' _ _ f)
    ·rw [ax.gi s' d7,p7 d,ht];rfl
   ·rintro σ' H' ys c l ⟨_,s',rfl⟩;refine #[D,_,Y,aK.of c,?_];have aH:=q H' s';rw [e2,bP (by omega:1<=xs.length),bP (by omega:xs.length<=16),Bool.and_self,pP] at aH;rw [ky,n5];exact aH
noncomputable def gB:V->Bool
 | .int i=>decide (0<=i)
 | _=>.f
noncomputable def km (H:aC) (v:V):Bool:=match et H v with
 | some xs=>decide (xs.length=10)&&xs.all gB
 | none=>.f
def aa3:bz:=λ vs H Q Z=>∃ v,vs=[v]/\fO H v/\∀ H',ax H H'->Q (.aJ (km H v)) H'
theorem aaU (T:aY K mg):b4 P w mg base bY 2 T.Lq aa3:=by
 refine T.Lq.fn.cp MF .bU λ a0 A outer s H vs Q E i h=>?_
 obtain ⟨v,rfl,⟨k,aW⟩,q⟩:=h;refine #[_,(aD (bM (dx.pt (e9 (eW (d_ (bR h2 T.el ek (aa (U 0) (aa (ho (by rfl) T.gr gq) aq))))) (gn (bq hn (bR fb T.dz dy (aa (U 0) aq)) (bR fb T.dz dy (aa (fZ (v:=.ref T.g8) (by rfl) T.pW Y) aq)) (bh _)))))
   (aG (aZ hS))
   bJ)
  (aG (aZ (bR (oa Y) T.nJ nG (aa (eA (dp MF (N:=["part"]) (js:=[.n]) (dV _)) Y (jK (U 0)) (λ Z Z Z Z=>d1) (λ Z Z Z Z=>ei)
    (λ Z Z Z Z=>(qV (a4 (LH T) i aV (aa (U 0) aq)) (pD (fY qP (U 0) aF (bh _)))))) aq))))),?_]
 obtain ⟨t,ty,e⟩:=vP k;refine #[v, "tuple", t,_,Y,ty,e,_,Y,?_];cases bA:et H v with
 | none =>
  refine b6 (b6 ?_);have aH:=q H (ax.refl H);rw [show km H v=.f by unfold km;rw [bA]] at aH;exact aH
 | some xs =>
  obtain ⟨a,rfl,au⟩:=rl bA;obtain ⟨l,ay⟩:=aW xs bA;have e2:km H (.ref a)=(decide (xs.length=10)&&xs.all gB):=by unfold km;rw [bA]
  refine bD #[a,xs,Y,.inr (aL.of au),T.g8,_,Y,.inr (T.jV H),Y,_,Y,c3 (λ h=>?_) (λ h=>?_)]
  ·have b:xs.length≠10:=λ z=>by
    rw [z] at h;exact absurd h .aw
   have aH:=q H (ax.refl H);rw [e2,cK b] at aH;exact aH
  ·have b:xs.length=10:=by
    have h':decide (V.int (xs.length)=V.int 10)=.t:=by
     cases z:decide (V.int (xs.length)=V.int 10) with
     | true=>rfl
     | false=>exact absurd (show (!decide (V.int (xs.length)=V.int 10))=.t by rw [z];rfl) h
    have:=pR h';omega
   refine #[a,Y,#[_,aL.of au],λ D c=>De (f:=λ v=>.aJ (gB v)) Y (by rw [b];decide) c (aL.of au) ?_ #[D,xs.map gB,Y,?_,?_]]
   ·intro x H' R s' j r;refine #[x,Y,ax.kind s' (ay x j),_,Y,?_];cases hw:qw x with
    | false =>
     refine bD ?_;have g:gB x=.f:=by cases x<;>first|rfl|cases hw
     have d:=r;rw [g] at d;exact d
    | true =>
     obtain ⟨n,rfl⟩:=BO hw;exact b6 #[_,_,Y,Y,r]
   ·rw [fa];exact aK.of bc
   ·have aH:=q _ (ax.new (o:=.lst (xs.map λ v=>V.aJ (gB v))) c);rw [e2,bP b,pP] at aH;rw [n5];exact aH
noncomputable def fu:V->Bool
 | .str x=>decide (1<=x.length)&&decide (x.length<=8)&&(cn x).all jD
 | _=>.f
def sa (H:aC) (v:V):Prop:=eH H v/\∀ x,v=.str x->r6 x/\x.length<=1000
def aaE:bz:=λ vs H Q Z=>∃ v,vs=[v]/\sa H v/\∀ H',ax H H'->Q (.aJ (fu v)) H'
theorem Z3 (T:aY K mg):b4 P w mg base bY 1 T.JA aaE:=by
 refine T.JA.fn.cp K_ .bU λ a0 A outer s H vs Q E n h=>?_
 obtain ⟨v,rfl,⟨k,l⟩,q⟩:=h;refine #[_,(aD (bM (dx.pt (e9 (eW (d_ (bR h2 T.el ek (aa (U 0) (aa (ho (by rfl) T.gj gh) aq))))) (e9 (bq iZ (bR rH T.dz dy (aa (U 0) aq)) aF (bh _)) (gn (bq gW (bR rH T.dz dy (aa (U 0) aq)) (jU (by rfl) T.abA) (bh _))))))
   (aG (aZ hS))
   bJ)
  (aG (aZ (bR (oa Y) T.nJ nG (aa (eA (dp K_ (N:=["sign"]) (js:=[.n]) (dV _)) Y (we (U 0)) (λ Z Z Z Z=>d1) (λ Z Z Z Z=>ei)
    (λ Z Z Z Z=>(fY CK (U 0) (Cm (by rfl) T.YI) (by with_unfolding_all rfl)))) aq))))),?_]
 obtain ⟨t,ty,e⟩:=nI k;refine #[v, "str", t,_,Y,ty,e,_,Y,?_];cases aA:sC v with
 | false =>
  have aH:=q H (ax.refl H);rw [show fu v=.f by cases v<;>first|rfl|cases aA] at aH;exact b6 (b6 aH)
 | true =>
  obtain ⟨x,rfl⟩:∃ x,v=.str x:=by cases v<;>first|exact #[_,Y]|cases aA
  obtain ⟨au,m⟩:=l x rfl;have a:x.length<=sizeLine:=by rw [b8];omega
  refine bD #[_,Y,a,_,_,Y,Y,_,Y,c3 (λ h=>?_) (λ h=>?_)]
  ·have h0:=cM h;have aH:=q H (ax.refl H);rw [show fu (.str x)=.f by show (decide _&&decide _&&_)=.f;rw [cK (by omega:¬ 1<=x.length)];rfl] at aH;exact b6 aH
  have h0:¬ (x.length:Int)<1:=λ z=>h (bP z)
  refine #[_,Y,a,_,_,Y,Y,_,Y,c3 (λ h'=>?_) (λ h'=>?_)]
  ·have af:=cM h';have aH:=q H (ax.refl H);rw [show fu (.str x)=.f by show (decide _&&decide _&&_)=.f;rw [cK (by omega:¬ x.length<=8),Bool.and_false];rfl] at aH;exact aH
  have af:¬ (x.length:Int)>8:=λ z=>h' (bP z)
  refine #[_,Y,au.all,λ D j=>xj (f:=λ i=>V.aJ (jD (x.cps.getD i 0))) (by exact a) #[_,Y] j (λ i c H' R s' d r=>r H' (ax.refl _)) (λ i c H' R s' d aI r=>?_) λ H1 s1 b=>?_]
  ·have e:x.cps.getD i 0=c:=by rw [Array.getD_eq_getD_getElem?,d];rfl
   have g:=r H' (ax.refl _);rw [e] at g;refine #[_,_,Y,Y,?_];rw [show (⟨[c].toArray⟩)=bB c from rfl,StrLaws.found_one,lets];exact g
  ·have e:(((List.range x.cps.size).filter λ Z=>.t).map λ i=>V.aJ (jD (x.cps.getD i 0)))=((List.range x.cps.size).map λ i=>jD (x.cps.getD i 0)).map V.aJ:=by
    rw [List.filter_eq_self.mpr (λ Z Z=>rfl),fa];rfl
   rw [e] at b;refine #[D,_,Y,aK.of b,?_];rw [Ib];have aH:=q H1 s1;rw [show fu (.str x)=(cn x).all jD by show (decide _&&decide _&&_)=_;rw [bP (by omega:1<=x.length),bP (by omega:x.length<=8)];rfl] at aH;exact aH
structure eb (T:aY K mg) (H:aC) (bn pr hd dl:Addr) (kvs:List (Key×V)) (ds:bj):Prop where
 at_:∃ aE,H bn=some (.ins T.fk aE [("program", .ref pr),("held", .ref hd),("deeds", .ref dl)])
 hd:H hd=some (.bW kvs)
 dl:H dl=some (.lst ds)
theorem eb.same {T:aY K mg} {hd dl:Addr} (b:eb T H bn pr hd dl kvs ds) (s:ax H H'):eb T H' bn pr hd dl kvs ds :=
 #[let ⟨aE,h⟩:=b.at_;⟨aE,s _ _ h⟩,s _ _ b.hd,s _ _ b.dl]
noncomputable def vO (kvs:List (Key×V)) (x:Str):V->List (Key×V)
 | .aX=>mD kvs (cc x)
 | w=>putK kvs (cc x) w
def jr (a b:Addr) (H H':aC):Prop:=∀ c o,c≠a->c≠b->H c=some o->H' c=some o
inductive Ii (T:aY K mg):bz
 |mk {vs H Q E} (bn pr hd dl:Addr) (kvs:List (Key×V)) (ds:bj) (x:Str) (w:V):vs=[.ref bn,.str x,w]->eb T H bn pr hd dl kvs ds->kvs.length<=100->((w=.aX/\∃ v,b7 kvs (cc x)=some v)\/∃ t,w=.ref t)->(∀ H',br hd H H'->H' hd=some (.bW (vO kvs x w))->Q .aX H')->Ii T vs H Q E
theorem MX (T:aY K mg):b4 P w mg base bY 1 T.rF (Ii T):=by
 refine T.rF.fn.cp abr .bU λ a0 A outer s H vs Q E b h=>?_
 obtain ⟨bn,pr,hd,dl,kvs,ds,x,w,rfl,B,ay,hw,q⟩:=h;refine #[_,(aG (bM (bq mO (U 2) e_ (bh _))
   (aG (eY (eN tL Bw PySem.F.type_dict_pop IY (hr (U 0) (by rfl)) (aa (U 1) aq))))
   (aG (Cn (d9 b) (hr (U 0) (by rfl)) (U 1) (U 2) Y)))),?_]
 obtain ⟨aE,ae⟩:=B.at_;rcases hw with ⟨rfl,v,aM⟩|⟨t,rfl⟩
 ·refine #[Y,_,Y,b6 #[bn,_,aE,_,_,Y,ae,T.dX,T.m3,Y,?_,hd,x,kvs,v,Y,Y,B.hd,aM,λ H' a h'=>q H' a h']];exact .inr (.inr (.inl #[Y,.inl #[kvs,B.hd]]))
 ·refine #[Y,_,Y,bD #[bn,_,aE,_,_,Y,ae,T.dX,T.m3,Y,hd,x,kvs,Y,Y,B.hd,by rw [b8];omega,λ H' a h'=>q H' a h']]
inductive Ie (T:aY K mg):bz
 |mk {vs H Q E} (bn pr hd dl:Addr) (kvs:List (Key×V)) (ds:bj) (x:Str) (w:V):vs=[.ref bn,.str x,w]->eb T H bn pr hd dl kvs ds->kvs.length<=100->ds.length<=1000->((w=.aX/\∃ v,b7 kvs (cc x)=some v)\/∃ t,w=.ref t)->(∀ t H',jr hd dl H H'->H' t=some (.tup [.str x,(b7 kvs (cc x)).getD .aX])->eb T H' bn pr hd dl (vO kvs x w) (ds++[.ref t])->Q .aX H')->Ie T vs H Q E
theorem Dh (T:aY K mg):b4 P w mg base bY 2 T.oj (Ie T):=by
 refine T.oj.fn.cp abo .bU λ a0 A outer s H vs Q E l h=>?_
 obtain ⟨bn,pr,hd,dl,kvs,ds,x,w,rfl,B,ay,y,hw,q⟩:=h;refine #[_,(aD (eY (eN hu kB kC lN (hr (U 0) (by rfl)) (aa (fx (aa (U 1) (aa (eN tL q4 BE Xv (hr (U 0) (by rfl)) (aa (U 1) aq)) aq))) aq)))
  (aG (eY (hY (U 0) T.dX T.rF.at_ (MX T) (l.mono .aw) T.rF.bd .nil aV (aa (U 1) (aa (U 2) aq)))))),?_]
 obtain ⟨aE,ae⟩:=B.at_;have g:=cq B.hd B.dl nofun;have p:=cq ae B.dl nofun;have r:=cq ae B.hd nofun;refine #[bn,_,aE,_,_,Y,ae,T.dX,T.xM,Y,.inl #[Y,_,aK.of B.dl],bn,_,aE,_,_,Y,ae,T.dX,T.m3,Y,.inr (.inr (.inl #[Y,.inl #[kvs,B.hd]])),hd,x,kvs,Y,Y,B.hd,bI,λ t H1 f1 s1 aI=>?_];refine #[dl,ds,_,Y,Y,s1 _ _ B.dl,by rw [b8];omega,λ ao a ai=>?_];have u:t≠dl:=λ z=>by rw [z,B.dl] at f1;cases f1
 have v:t≠hd:=λ z=>by rw [z,B.hd] at f1;cases f1
 have d:eb T ao bn pr hd dl kvs (ds++[.ref t]):=#[#[aE,a _ _ p (s1 _ _ ae)],a _ _ g (s1 _ _ B.hd),ai]
 obtain ⟨e,f⟩:=d.at_;refine #[bn,e,_,Y,f,Y,bn,pr,hd,dl,kvs,_,x,w,Y,d,ay,hw,λ i b k=>?_];refine q t i (λ c o m n j=>b _ _ m (a _ _ n (s1 _ _ j))) (b _ _ v (a _ _ u aI)) #[#[e,b _ _ r f],k,b _ _ (eT g) d.dl]
noncomputable def hj (kvs:List (Key×V)):V->e6
 | .str x=>b7 kvs (cc x)
 | _=>.n
inductive L3 (T:aY K mg):bz
 |mk {vs H Q E} (bn pr hd dl:Addr) (kvs:List (Key×V)) (ds:bj) (v:V):vs=[.ref bn,v]->eb T H bn pr hd dl kvs ds->eH H v->(∀ u,hj kvs v=some u->Q u H)->(hj kvs v=.n->E (.ref T.dD) .n H)->L3 T vs H Q E
theorem xW (T:aY K mg):b4 P w mg base (f6 P w) 1 T.lT (L3 T):=by
 refine T.lT.fn.ke acv .bU λ a0 A outer s H vs Q E a h=>?_
 obtain ⟨bn,pr,hd,dl,kvs,ds,v,rfl,B,k,q,b⟩:=h;refine #[_,(aD (bM (dx.pt (e9 (eW (d_ (bR h2 T.el ek (aa (U 1) (aa (ho (by rfl) T.gj gh) aq))))) (gn (bq (KW (d9 a)) (U 1) (hr (U 0) (by rfl)) (by with_unfolding_all rfl)))))
   (aG (tU pF Y Y T.IA (by rfl) (aa a9 aq)))
   bJ)
  (aG (aZ (X8 (d9 a) (hr (U 0) (by rfl)) (U 1) (λ Z Z=>rfl))))),?_]
 obtain ⟨aE,ae⟩:=B.at_;obtain ⟨t,ty,e⟩:=nI k;refine #[v, "str", t,_,Y,ty,e,_,Y,?_];cases aA:sC v with
 | false=>exact b6 (b6 #[bI,b (by cases v<;>first|rfl|cases aA)])
 | true =>
  obtain ⟨x,rfl⟩:∃ x,v=.str x:=by cases v<;>first|exact #[_,Y]|cases aA
  refine bD #[bn,_,aE,_,_,Y,ae,T.dX,T.m3,Y,x,hd,kvs,Y,Y,B.hd,_,Y,?_];cases aM:b7 kvs (cc x) with
  | none=>exact b6 #[bI,b aM]
  | some u=>exact bD #[bn,_,aE,_,_,Y,ae,T.dX,T.m3,Y,hd,x,kvs,u,Y,Y,B.hd,aM,q u aM]
inductive Jn (T:aY K mg):bz
 |mk {vs H Q E} (bn pr hd dl:Addr) (kvs:List (Key×V)) (ds:bj) (v:V):vs=[.ref bn,v]->eb T H bn pr hd dl kvs ds->eH H v->(hj kvs v=.n->E (.ref T.dD) .n H)->(∀ u,hj kvs v=some u->∃ (w:Addr) (a b:V),u=.ref w/\H w=some (.tup [a,b])/\Q a H)->Jn T vs H Q E
theorem abX (T:aY K mg):b4 P w mg base (f6 P w) 2 T.xQ (Jn T):=by
 refine T.xQ.fn.ke acd .bU λ a0 A outer s H vs Q E c h=>?_
 obtain ⟨bn,pr,hd,dl,kvs,ds,v,rfl,B,k,e,q⟩:=h;refine #[_,(aG (aZ (bO d6 (hY (U 0) T.dX T.lT.at_ (xW T) (c.mono .aw) T.lT.bd .nil jE (aa (U 1) aq)) aF (λ Z Z=>rfl)))),?_];obtain ⟨aE,ae⟩:=B.at_;refine #[bn,aE,_,Y,ae,Y,bn,pr,hd,dl,kvs,ds,v,Y,B,k,λ u d=>?_,e];obtain ⟨w,a,b,rfl,hw,q⟩:=q u d;exact #[w,_,_,_,Y,Y,aL.of hw,Y,q]
inductive Kr (T:aY K mg):bz
 |mk {vs H Q E} (bn pr hd dl:Addr) (kvs:List (Key×V)) (ds:bj) (v:V):vs=[.ref bn,v]->eb T H bn pr hd dl kvs ds->eH H v->(hj kvs v=.n->E (.ref T.dD) .n H)->(∀ u,hj kvs v=some u->∃ (w:Addr) (a b:V),u=.ref w/\H w=some (.tup [a,b])/\Q b H)->Kr T vs H Q E
theorem abh (T:aY K mg):b4 P w mg base (f6 P w) 2 T.xI (Kr T):=by
 refine T.xI.fn.ke abq .bU λ a0 A outer s H vs Q E c h=>?_
 obtain ⟨bn,pr,hd,dl,kvs,ds,v,rfl,B,k,e,q⟩:=h;refine #[_,(aG (aZ (bO d6 (hY (U 0) T.dX T.lT.at_ (xW T) (c.mono .aw) T.lT.bd .nil jE (aa (U 1) aq)) aF (λ Z Z=>rfl)))),?_];obtain ⟨aE,ae⟩:=B.at_;refine #[bn,aE,_,Y,ae,Y,bn,pr,hd,dl,kvs,ds,v,Y,B,k,λ u d=>?_,e];obtain ⟨w,a,b,rfl,hw,q⟩:=q u d;exact #[w,_,_,_,Y,Y,aL.of hw,Y,q]
inductive Ks (T:aY K mg):bz
 |mk {vs H Q E} (bn pr hd dl:Addr) (kvs:List (Key×V)) (ds:bj) (ns:b2):vs=[.ref bn]->eb T H bn pr hd dl kvs ds->kvs.map (·.1)=ns.map cc->ns.length<64->(∀ ms,ms.Perm ns->PyProof.Rows.sortedS ms=.t->∀ l H',H l=.n->ax H H'->H' l=some (.lst (ms.map V.str))->Q (.ref l) H')->Ks T vs H Q E
theorem abF (T:aY K mg):b4 P w mg base bY 1 T.xN (Ks T):=by
 refine T.xN.fn.cp abO .bU λ a0 A outer s H vs Q E c h=>?_
 obtain ⟨bn,pr,hd,dl,kvs,ds,ns,rfl,B,ay,a,q⟩:=h;refine #[_,(aG (aZ (bR (abb Y) T.rm rk (aa (hr (U 0) (by rfl)) aq)))),?_];obtain ⟨aE,ae⟩:=B.at_;exact #[bn,_,aE,_,_,Y,ae,T.dX,T.m3,Y,hd,kvs,ns,Y,B.hd,ay,a,λ ms pm b l H' f s' e=>q ms pm b l H' f s' e]
inductive t5 (T:aY K mg):bz
 |mk {vs H Q E} (bn pr hd dl:Addr) (kvs:List (Key×V)) (ds:bj):vs=[.ref bn]->eb T H bn pr hd dl kvs ds->kvs.length<=100->(ds=[]->E (.ref T.ej) .n H)->(∀ iQ u,ds=iQ++[u]->∃ (t:Addr) (x:Str) (w:V),u=.ref t/\H t=some (.tup [.str x,w])/\((w=.aX/\∃ v,b7 kvs (cc x)=some v)\/∃ a,w=.ref a)/\∀ H',jr hd dl H H'->eb T H' bn pr hd dl (vO kvs x w) iQ->Q .aX H')->t5 T vs H Q E
theorem abj (T:aY K mg):b4 P w mg base (f6 P w) 2 T.xK (t5 T):=by
 refine T.xK.fn.ke Nc .bU λ a0 A outer s H vs Q E m h=>?_
 obtain ⟨bn,pr,hd,dl,kvs,ds,rfl,B,ay,C,q⟩:=h;refine #[_,(aD (bM (bq cY (bR fb T.dz dy (aa (hr (U 0) (by rfl)) aq)) aF (bh _))
   (aG (tU pF Y Y T.WT (by rfl) (aa a9 aq)))
   bJ)
  (aD (ba 1 Nc (Hf hu PySem.F.slot_list_pop PySem.F.type_list_pop G8 (hr (U 0) (by rfl))))
  (aG (eY (hY (U 0) T.dX T.rF.at_ (MX T) (m.mono .aw) T.rF.bd .nil aV (aa (bO d6 (U 1) aF (λ Z Z=>rfl)) (aa (bO d6 (U 1) aF (λ Z Z=>rfl)) aq))))))),?_]
 obtain ⟨aE,ae⟩:=B.at_;have i:=cq B.hd B.dl nofun;have r:=cq ae B.dl nofun;have v:=cq ae B.hd nofun;refine #[bn,_,aE,_,_,Y,ae,T.dX,T.xM,Y,dl,_,Y,.inl (aK.of B.dl),Y,_,Y,?_];by_cases aB:ds=[]
 ·subst aB;exact b6 #[bI,C Y]
 obtain ⟨iQ,u,rfl⟩:∃ iQ u,ds=iQ++[u]:=#[ds.dropLast,ds.getLast aB,(List.dropLast_concat_getLast aB).symm]
 obtain ⟨t,x,w,rfl,aI,hw,q⟩:=q iQ u rfl;have y:=cq aI B.dl nofun;rw [cK (λ z=>by injection z with z;rw [dn] at z;simp at z;omega)];refine bD #[bn,_,aE,_,_,Y,ae,T.dX,T.xM,Y,.inl #[Y,_,aK.of B.dl],dl,_,.ref t,Y,Y,B.dl,.zs,?_];have a:br dl H (upd H dl (.lst (iQ++[V.ref t]).dropLast)):=br.upd;have b:eb T (upd H dl (.lst (iQ++[V.ref t]).dropLast)) bn pr hd dl kvs iQ:=#[#[aE,a _ _ r ae],a _ _ i B.hd,by rw [bc,List.dropLast_concat]]
 generalize upd H dl (.lst (iQ++[V.ref t]).dropLast)=ao at a b;obtain ⟨e,f⟩:=b.at_;have g:=a _ _ y aI;refine #[bn,e,_,Y,f,Y,t,_,_,_,Y,Y,aL.of g,Y,t,_,_,_,Y,Y,aL.of g,Y,bn,pr,hd,dl,kvs,_,x,w,Y,b,ay,hw,λ j d l=>?_];exact q j (λ c o n p k=>d _ _ n (a _ _ p k)) #[#[e,d _ _ v f],l,d _ _ (eT i) b.dl]
inductive t4 (T:aY K mg):bz
 |mk {vs H Q E} (bn pr hd dl:Addr) (kvs:List (Key×V)) (ds:bj) (v:V):vs=[.ref bn,v]->eb T H bn pr hd dl kvs ds->kvs.length<=100->ds.length<=1000->eH H v->(hj kvs v=.n->E (.ref T.dD) .n H)->(∀ x u,v=.str x->b7 kvs (cc x)=some u->∀ t H',jr hd dl H H'->H' t=some (.tup [.str x,u])->eb T H' bn pr hd dl (mD kvs (cc x)) (ds++[.ref t])->Q .aX H')->t4 T vs H Q E
theorem abg (T:aY K mg):b4 P w mg base (f6 P w) 3 T.xH (t4 T):=by
 refine T.xH.fn.ke abp .bU λ a0 A outer s H vs Q E a h=>?_
 obtain ⟨bn,pr,hd,dl,kvs,ds,v,rfl,B,ay,d,k,e,q⟩:=h;refine #[_,(aD (eY (hY (U 0) T.dX T.lT.at_ (xW T) (a.mono .aw) T.lT.bd .nil jE (aa (U 1) aq)))
  (aG (eY (hY (U 0) T.dX T.oj.at_ (Dh T) (a.mono .aw) T.oj.bd .nil aV (aa (U 1) (aa e_ aq)))))),?_]
 obtain ⟨aE,ae⟩:=B.at_;refine #[bn,aE,_,Y,ae,Y,bn,pr,hd,dl,kvs,ds,v,Y,B,k,λ u b=>?_,e];obtain ⟨x,rfl⟩:∃ x,v=.str x:=by cases v<;>first|exact #[_,Y]|cases b
 have aM:b7 kvs (cc x)=some u:=b;refine #[bn,aE,_,Y,ae,Y,bn,pr,hd,dl,kvs,ds,x,.aX,Y,B,ay,d,.inl #[Y,u,aM],λ t H' dN aI c=>?_];rw [aM] at aI;exact q x u rfl aM t H' dN aI c
end
noncomputable def kh:V->Bool
 | .int i=>decide (i<=1000000)
 | _=>.f
noncomputable def fU (H:aC) (v:V):Bool:=match et H v with
 | some xs=>decide (xs.length=10)&&xs.all gB&&xs.all kh
 | none=>.f
theorem Ci:∀ {xs:bj},xs.all gB=.t->∃ ag:bp,xs=ag.map V.int/\∀ i∈ag,0<=i
 | [],_=>#[[],Y,λ Z h=>by cases h]
 | x::xs,h=>by
  rw [qZ,eX] at h;obtain ⟨ag,rfl,ar⟩:=Ci h.2;obtain ⟨i,rfl,av⟩:∃ i,x=.int i/\0<=i:=by
   cases x with
   | int i=>exact #[i,Y,cM h.1]
   | _=>cases h.1
  exact #[i::ag,Y,λ j a=>(b5.mp a).elim (λ z=>by rw [z];exact av) (ar j)]
section
variable {P:Program} {w:World} {K:aT} {mg:Str->cE} {base:Heap}
inductive tV (T:aY K mg):bz
 |mk {vs H Q E} (bn pr hd dl:Addr) (kvs:List (Key×V)) (ds:bj) (v p:V):vs=[.ref bn,v,p]->eb T H bn pr hd dl kvs ds->kvs.length<12->ds.length<=1000->sa H v->fO H p->(fu v=.f->∀ H',ax H H'->E (.ref T.dD) .n H')->(fu v=.t->fU H p=.f->∀ H',ax H H'->E (.ref T.eZ) .n H')->(∀ x a ag,v=.str x->fu v=.t->p=.ref a->H a=some (tupI ag)->ag.length=10->(∀ i∈ag,0<=i/\i<=1000000)->∀ t w H',jr hd dl H H'->H' w=some (.tup [.ref a,.int 0])->H' t=some (.tup [.str x,(b7 kvs (cc x)).getD .aX])->eb T H' bn pr hd dl (putK kvs (cc x) (.ref w)) (ds++[.ref t])->Q .aX H')->tV T vs H Q E
theorem aaS (T:aY K mg):b4 P w mg base (f6 P w) 3 T.xA (tV T):=by
 refine T.xA.fn.ke aaX .bU λ a0 A outer s H vs Q E g h=>?_
 obtain ⟨bn,pr,hd,dl,kvs,ds,v,p,rfl,B,ay,G,aM,ar,aO,q,S⟩:=h;refine #[_,(aD (bM (eW (d_ (a4 (Z3 T) g aV (aa (U 1) aq))))
   (aG (tU pF Y Y T.IA (by rfl) (aa a9 aq)))
   bJ)
  (aD (bM (dx.pt (e9 (eW (d_ (a4 (aaU T) g aV (aa (U 2) aq)))) (gn (bq gW (bR (JO Y) T.pd o_ (aa (U 2) aq)) (jU (by rfl) T.Mj) (bh _)))))
   (aG (tU pF Y Y T.Zw (by rfl) (aa a9 aq)))
   bJ)
  (aD (qW (dx.pt (nU (bq (KW (d9 g)) (U 1) (hr (U 0) (by rfl)) (by with_unfolding_all rfl)) (n7 (bq cY (bR Yv T.dz dy (aa (hr (U 0) (by rfl)) aq)) (jU (by rfl) T.aaN) (bh _)))))
   (aG fH)
   bJ)
  (aG (eY (hY (U 0) T.dX T.oj.at_ (Dh T) (g.mono .aw) T.oj.bd .nil aV (aa (U 1) (aa (fx (aa (U 2) (aa aF aq))) aq)))))))),?_]
 refine #[v,Y,aM,λ H1 s1=>#[_,Y,?_]];cases aB:fu v with
 | false=>exact b6 #[bI,aO aB H1 s1]
 | true =>
  obtain ⟨x,rfl⟩:∃ x,v=.str x:=by cases v<;>first|exact #[_,Y]|cases aB
  refine bD #[p,Y,ax.fO s1 ar,λ ao s2=>#[_,Y,?_]];have J:km H1 p=km H p:=by unfold km;rw [ax.et s1 ar.1]
  rw [J];cases f:km H p with
  | false =>
   refine b6 (b6 #[bI,q aB ?_ ao (s1.trans s2)]);unfold km at f;unfold fU;cases bA:et H p with
   | none=>rfl
   | some xs =>
    rw [bA] at f;show (decide (xs.length=10)&&xs.all gB&&xs.all kh)=.f;rw [show (decide (xs.length=10)&&xs.all gB)=.f from f];rfl
  | true =>
   have d:=f;unfold km at d;cases bA:et H p with
   | none=>rw [bA] at d;cases d
   | some xs =>
    rw [bA] at d;obtain ⟨a,rfl,au⟩:=rl bA;have l:=tK.mp d;have n:=cM l.1;obtain ⟨ag,rfl,me⟩:=Ci l.2;have k:ag.length=10:=by rw [bb] at n;exact n
    have j:=s1.trans s2;refine bD #[a,ag,Y,aL.of (j _ _ au),(by intro z;rw [z] at k;cases k),λ M C I=>#[_,_,Y,Y,_,Y,?_]];by_cases m:M>1000000
    ·rw [bP m];refine b6 #[bI,q aB ?_ ao j];unfold fU;rw [bA];show (decide ((ag.map V.int).length=10)&&(ag.map V.int).all gB&&(ag.map V.int).all kh)=.f;rw [show (ag.map V.int).all kh=.f from ?_,Bool.and_false];rw [mR];intro z;have:=cM (gp.mp z (.int M) (mS C));omega
    ·rw [cK m];refine bD ?_;have D:∀ i∈ag,0<=i/\i<=1000000:=λ i av=>#[me i av,by have:=I i av;omega]
     have b:=B.same j;obtain ⟨aE,ae⟩:=b.at_;refine #[λ σ' H'=>σ'=[some (.ref bn),some (.str x),some (.ref a)]/\ao=H',?_,?_]
     ·refine #[bn,_,aE,_,_,Y,ae,T.dX,T.m3,Y,x,hd,kvs,Y,Y,b.hd,_,Y,?_];cases aA:(b7 kvs (cc x)).isSome with
      | true=>exact bD (bD #[Y,Y])
      | false =>
       refine b6 #[bn,_,aE,_,_,Y,ae,T.dX,T.m3,Y,hd,kvs,Y,b.hd,Y,_,Y,?_];rw [cK (λ z=>by injection z with z;omega)];exact bD #[Y,Y]
     ·rintro σ' H' ⟨rfl,rfl⟩;refine #[bn,aE,_,Y,ae,Y,bI,λ w aU e s3 hw=>?_];refine #[bn,pr,hd,dl,kvs,ds,x,.ref w,Y,b.same s3,.ak,G,.inr #[w,Y],λ t u ng aI r=>?_];have O:w≠dl:=λ z=>by rw [z,b.dl] at e;cases e
      have R:w≠hd:=λ z=>by rw [z,b.hd] at e;cases e
      exact S x a ag rfl aB rfl au k D t w u (λ c o L N y=>ng _ _ L N (s3 _ _ (j _ _ y))) (ng _ _ R O hw) aI r
inductive rp (T:aY K mg):bz
 |mk {vs H Q E} (bn pr hd dl:Addr) (kvs:List (Key×V)) (ds:bj) (v:V) (m:Int):vs=[.ref bn,v,.int m]->eb T H bn pr hd dl kvs ds->kvs.length<=100->ds.length<=1000->eH H v->0<=m->m<=2000->(hj kvs v=.n->E (.ref T.dD) .n H)->(∀ x u,v=.str x->b7 kvs (cc x)=some u->∃ (w a:Addr) (xs:bj) (aj:cX) (ag:bp) (n:Int),u=.ref w/\H pr=some (.tup xs)/\d0 H xs aj/\xs.length<=1000/\H w=some (.tup [.ref a,.int n])/\H a=some (tupI ag)/\ag.length=10/\nn ag=.t/\∀ k r aH cm t H',k<=m.toNat->goN (rowsOf aj) k ag=some r->(k=m.toNat\/b_ (rowsOf aj) r=.n)->jr hd dl H H'->H' aH=some (tupI r)->H' cm=some (.tup [.ref aH,.int (n+k)])->H' t=some (.tup [.str x,.ref w]) -> eb T H' bn pr hd dl (putK kvs (cc x) (.ref cm)) (ds++[.ref t])->Q (.int k) H')->rp T vs H Q E
theorem aaT (T:aY K mg):b4 P w mg base (f6 P w) 8 T.xB (rp T):=by
 refine T.xB.fn.ke C_ .bU λ a0 A outer s H vs Q E g h=>?_
 obtain ⟨bn,pr,hd,dl,kvs,ds,v,m,rfl,B,ay,y,D,m0,O,Z,q⟩:=h;refine #[_,(aD (ba 3 C_ (hY (U 0) T.dX T.lT.at_ (xW T) (g.mono .aw) T.lT.bd .nil jE (aa (U 1) aq)))
  (aD (ba 4 C_ (a4 (Z2 T) g aV (aa (hr (U 0) (by rfl)) (aa (bO d6 (U 3) aF (λ _ _=>rfl)) (aa (U 2) aq)))))
  (aD (eY (hY (U 0) T.dX T.oj.at_ (Dh T) (g.mono .aw) T.oj.bd .nil aV (aa (U 1) (aa (fx (aa (bO d6 (U 4) aF (λ _ _=>rfl)) (aa (bf ez (bO d6 (U 3) aF (λ _ _=>rfl)) (bO d6 (U 4) aF (λ _ _=>rfl))) aq))) aq))))
  (aG (aZ (bO d6 (U 4) aF (λ _ _=>rfl))))))),?_]
 obtain ⟨aE,ae⟩:=B.at_;refine #[bn,aE,_,Y,ae,Y,bn,pr,hd,dl,kvs,ds,v,Y,B,D,λ u j=>?_,Z];obtain ⟨x,rfl⟩:∃ x,v=.str x:=by cases v<;>first|exact #[_,Y]|cases j
 have aM:b7 kvs (cc x)=some u:=j;obtain ⟨w,a,xs,aj,ag,n,rfl,jv,hf,G,hw,au,L,I,q⟩:=q x u rfl aM;refine #[bn,_,aE,_,_,Y,ae,T.dX,T.xT,Y,w,_,_,_,Y,Y,aL.of hw,Y,pr,a,xs,aj,ag,m,Y,jv,hf,G,au,L,I,m0,O,λ k r e aH H1 k1 C J s1 he M=>?_];have b:=B.same s1;refine #[bn,aE,_,Y,s1 _ _ ae,Y,e,_,_,_,Y,Y,aL.of he,Y,w,_,_,_,Y,Y,aL.of (s1 _ _ hw),Y,e,_,_,_,Y,Y,aL.of he,Y,_,_,Y,Y,bI,λ cm ao f2 s2 N=>?_];have d:=b.same s2;refine #[bn,pr,hd,dl,kvs,ds,x,.ref cm,Y,d,ay,y,.inr #[cm,Y],λ t i k3 aI l=>?_];rw [aM] at aI;have aU:cm≠dl:=λ z=>by rw [z,b.dl] at f2;cases f2
 have X:cm≠hd:=λ z=>by rw [z,b.hd] at f2;cases f2
 have aW:∀ {c:Addr} {xs:bj},ao c=some (.tup xs)->i c=some (.tup xs):=λ {c xs} f=>k3 _ _ (cq f d.hd nofun) (cq f d.dl nofun) f
 refine #[e,_,_,_,Y,Y,aL.of (aW (s2 _ _ he)),Y,?_];exact q k r aH cm t i k1 C J (λ c o R S p=>k3 _ _ R S (s2 _ _ (s1 _ _ p))) (aW (s2 _ _ M)) (k3 _ _ X aU N) aI l
end
theorem Kc (h:H p=some (.tup xs)) (af:1<=xs.length) (ai:xs.length<=16) (hf:∀ x∈xs,i4 H x):ph H (.ref p)=.t:=by
 unfold ph;rw [lK h];show (decide _&&decide _&&xs.all (gi H))=.t;rw [bP af,bP ai];refine gp.mpr λ x b=>?_
 obtain ⟨c,i,j,rfl,a,f⟩:=hf x b;unfold gi;rw [lK a];exact f
theorem Jw (h:H p=some (.tup xs)) (ai:xs.length<=16) (hf:∀ x∈xs,i4 H x):Al H (.ref p) :=
 WQ h .ak λ x b=>by
  obtain ⟨c,i,j,rfl,a,f⟩:=hf x b;exact xa a .zs (all2 trivial trivial)
section
variable {P:Program} {w:World} {K:aT} {mg:Str->cE} {base:Heap}
inductive Jm (T:aY K mg):bz
 |mk {vs H Q E} (bn aE pr:Addr) (xs:bj):vs=[.ref bn,.ref pr]->H bn=some (.ins T.fk aE [])->H pr=some (.tup xs)->1<=xs.length->xs.length<=16->(∀ x∈xs,i4 H x)->(∀ hd dl H',br bn H H'->H hd=.n->H dl=.n->eb T H' bn pr hd dl [] []->Q .aX H')->Jm T vs H Q E
theorem abi (T:aY K mg):b4 P w mg base bY 5 T.xJ (Jm T):=by
 refine T.xJ.fn.cp abt .bU λ a0 A outer s H vs Q E m h=>?_
 obtain ⟨bn,aE,pr,xs,rfl,ae,jv,n,k_,f,q⟩:=h;refine #[_,(aD (bM (eW (d_ (a4 (MZ T) m aV (aa (U 1) aq))))
   (aG fH)
   bJ)
  (aD (tq (U 0) (U 1) Y)
  (aD (tq (U 0) rn Y)
  (aG (tq (U 0) (cW aq) Y))))),?_]
 refine #[.ref pr,Y,Jw jv k_ f,λ H1 s1=>#[_,Y,?_]];rw [Kc jv n k_ f];refine bD #[bn,_,aE,_,Y,s1 _ _ ae,T.dX,T.xT,.aw,?_];refine λ hd ao f2 s2 ai=>#[bn,_,aE,_,Y,s2 _ _ bc,T.dX,T.m3,(by show 1<1000;decide),?_]
 refine #[bI,λ dl p a s3 l=>#[bn,_,aE,_,Y,s3 _ _ bc,T.dX,T.xM,(by show 2<1000;decide),?_]];have b:hd≠bn:=λ z=>by rw [z,bc] at f2;cases f2
 have e:dl≠bn:=λ z=>by rw [z,bc] at a;cases a
 have r:dl≠hd:=λ z=>by rw [z,a3 b,ai] at a;cases a
 have k:=s1.free (by rw [a3 b] at f2;exact f2);have j:H dl=.n:=by
  rw [a3 e] at a;have g:=s2.free a;rw [a3 e] at g;exact s1.free g
 refine q hd dl _ (λ c o d i=>?_) k j #[#[aE,bc],?_,?_]
 ·rw [a3 d];refine s3 _ _ ?_;rw [a3 d];refine s2 _ _ ?_;rw [a3 d];exact s1 _ _ i
 ·rw [a3 b];refine s3 _ _ ?_;rw [a3 b];exact ai
 ·rw [a3 e];exact l
end
theorem ny:(("/" : String):Str)=bB 47:=by decide +kernel
theorem sO:(("^" : String):Str)=bB 94:=by decide +kernel
theorem vl:(("*" : String):Str)=bB 42:=by decide +kernel
theorem k8:((" " : String):Str)=bB 32:=by decide +kernel
theorem vm:(("1" : String):Str)=bB 49:=by decide +kernel
theorem z_:(("0" : String):Str)=bB 48:=by decide +kernel
theorem s0:(("" : String):Str)=Str.empty:=by decide +kernel
theorem RM:(10:Int) ^ (60:Int).toNat=10 ^ 60:=by decide
theorem mM {n:Int} (h0:0<=n) (af:n<10 ^ 60):n.natAbs.log2<1920:=by
 by_cases z:n.natAbs=0
 ·rw [z];decide
 ·rw [Nat.log2_lt z];have:n.natAbs<10 ^ 60:=by omega
  exact Nat.lt_trans this .aw
theorem o5 (h0:0<=n) (af:n<10 ^ 60):(bE n).length<=60:=hV h0 .ak
theorem xk:dC=mY.map V.int:=rfl
theorem HZ (ar:0<=p/\p<=29) (he:0<=e/\e<10 ^ 60):(fh p e).length<=63:=by
 have a:=hV (k:=1) ar.1 .ak;have b:=o5 he.1 he.2;have c:(bB 94).length=1:=rfl;unfold fh;rw [len_app,len_app];omega
theorem n8:∀ (l:b2),(∀ y∈l,y.length<=B)->(l.map (·.length)).sum<=l.length*B
 | [],_=>fE _
 | y::l,h=>by
  have b:=n8 l λ z a=>h z (dJ _ a)
  have af:=h y dI;show y.length+(l.map (·.length)).sum<=(l.length+1)*B;rw [Nat.add_mul];omega
theorem wm (a:∀ q∈l,(0<=q.1/\q.1<=29)/\0<=q.2/\q.2<10 ^ 60):∀ y∈de l,y.length<=63:=λ y c=>by
 obtain ⟨q,b,rfl⟩:=c0.mp c;have:=a q (HO b);exact HZ this.1 this.2
theorem w_ (l):(de l).length<=l.length:=by
 unfold de;rw [bb];exact List.length_filter_le _ _
theorem vS (h:∀ e∈ah,0<=e/\e<10 ^ 60):∀ q∈bS ah,(0<=q.1/\q.1<=29)/\0<=q.2/\q.2<10 ^ 60:=λ q a=>by
 obtain ⟨p,e⟩:=q;have af:=mL a;have:=C4 p af.1;exact #[#[.ak,this.2],h e af.2]
section
variable {P:Program} {w:World} {K:aT} {mg:Str->cE} {base:Heap}
def acF:bz:=λ vs H Q Z=>∃ n,vs=[.int n]/\0<=n/\n<10 ^ 60/\∀ H',ax H H'->Q (.str (bE n)) H'
theorem uq (T:aY K mg):b4 P w mg base bY 1 T.NS acF:=by
 refine T.NS.fn.cp xZ .bU λ a0 A outer s H vs Q E j h=>?_
 obtain ⟨n,rfl,h0,af,q⟩:=h;refine #[_,(aD (ba 1 xZ (bf tk aF aF))
  (aD (ba 2 xZ (U 0))
  (aD (ba 3 xZ (cW aq))
  (aD (pY dW (bq qP (U 2) (U 1) (bh _))
   (aD fH
  (aG fH)))
  (aD (eY (eN hu kB kC lN (U 3) (aa (dv kH T.gj gh (aa (U 2) aq)) aq)))
  (aG (aZ (Z9 Y (by rfl) T.ZS a9 (aa (U 3) aq))))))))),?_]
 refine #[_,_,Y,Y,#[.aw,.aw,.aw],?_];refine (?_);refine #[bI,λ l H1 f s1 a=>?_];refine p3 (λ σ ao=>∃ B,σ=[some (.int n),some (.int B),some (.int n),some (.ref l)]/\B=10 ^ 60/\ao=H1) (λ Z Z=>0) #[_,Y,RM,Y] ?_;rintro σ ao ⟨B,rfl,i,rfl⟩;refine #[_,_,Y,Y,_,Y,c3 (λ h=>?_) (λ h=>?_)]
 ·have:=cM h;omega
 ·refine #[.inl #[Y,_,aK.of a],n,Y,mM h0 af,l,_,_,Y,Y,a,.aw,λ g b d=>?_];exact #[_,Y,l,_,Y,d,q _ λ c o e=>b _ _ (b0 e f) (s1 _ _ e)]
def hI (H:aC) (xs:bj) (aj:cX):Prop:=xs.length=aj.length/\∀ (k:Nat) x,xs[k]?=some x->∃ c i j,x=.ref c/\H c=some (.tup [.int i,.int j])/\aj[k]?=some (i,j)
theorem hI.same (h:hI H xs aj) (s:ax H H'):hI H' xs aj:=#[h.1,λ k x e=>by
 obtain ⟨c,i,j,a,b,d⟩:=h.2 k x e;exact #[c,i,j,a,s _ _ b,d]]
theorem hI.but (h:hI H xs aj) (au:H a=some (.lst ys)) (s:br a H H'):hI H' xs aj:=#[h.1,λ k x f=>by
 obtain ⟨c,i,j,d,b,e⟩:=h.2 k x f;exact #[c,i,j,d,s _ _ (λ z=>by rw [z,au] at b;cases b) b,e]]
theorem hI.Sq (h:hI H xs aj) (hf:∀ f∈aj,ey f.1 f.2=.t):∀ x∈xs,i4 H x:=λ x e=>by
 obtain ⟨k,ay⟩:=g6 e;obtain ⟨c,i,j,a,b,d⟩:=h.2 k x ay;exact #[c,i,j,a,b,hf _ (cg d)]
theorem tZ (h:ey i j=.t):(1<=i/\i<=1000000000000)/\1<=j/\j<=1000000000000:=by
 unfold ey gk at h;simp only [eX,n4] at h;exact #[h.1.1.1,h.1.2.1]
noncomputable abbrev eu (aj:cX):b2:=aj.map λ f=>nu f.1 f.2
theorem wc (hf:∀ f∈aj,ey f.1 f.2=.t):∀ y∈eu aj,y.length<=27:=λ y a=>by
 obtain ⟨f,hm,rfl⟩:=c0.mp a;have:=tZ (hf f hm);exact Vn .ak .ak .ak .ak
inductive Lj:bz
 |mk {vs H Q E} (p:Addr) (xs:bj) (aj:cX):vs=[.ref p]->H p=some (.tup xs)->xs.length<=16->hI H xs aj->(∀ f∈aj,ey f.1 f.2=.t)->(∀ H',ax H H'->Q (.str (Str.join (bB 32) (eu aj))) H')->Lj vs H Q E
def acw:bz:=λ vs H Q Z=>∃ p e,vs=[.int p,.int e]/\(0<=p/\p<=29)/\(0<=e/\e<10 ^ 60)/\∀ H',ax H H'->Q (.str (fh p e)) H'
theorem acm (T:aY K mg):b4 P w mg base bY 2 T.NG acw:=by
 refine T.NG.fn.cp N0 .bU λ a0 A outer s H vs Q E a h=>?_
 obtain ⟨p,e,rfl,ar,he,q⟩:=h;refine #[_,(aD (ba 2 N0 (a4 (uq T) a aV (aa (U 1) aq)))
  (aG (aZ (Wj (U 0) (U 2))))),?_]
 refine #[e,Y,he.1,he.2,λ H1 s1=>?_];have b:=o5 ar.1 .ak;have c:=o5 he.1 he.2;refine #[bE p,#[.inr #[p,Y,mM ar.1 .ak,Y],.ak],bE e,#[.inl Y,.ak],?_];have aH:=q H1 s1;rw [sO];exact aH
def acG:bz:=λ vs H Q Z=>∃ (a:Addr) (ah:bp),vs=[.ref a]/\H a=some (.tup (ah.map V.int))/\ah.length=10/\(∀ e∈ah,0<=e/\e<10 ^ 60)/\∀ H',ax H H'->Q (.str (du (bS ah))) H'
theorem xX (T:aY K mg):b4 P w mg base bY 3 T.NT acG:=by
 refine T.NT.fn.cp Dr .bU λ a0 A outer s H vs Q E t h=>?_
 obtain ⟨a,ah,rfl,au,cC,o,q⟩:=h;refine #[_,(aD (w6 (i:=1) Dr.cD Y (Or.inl Y) (dp Dr (js:=[.n,.n]) (dV _)) Y (lB Y Y T.hl (aa (fZ (v:=.ref T.g8) (by rfl) T.pW Y) (aa (U 0) aq))) (λ Z Z Z Z=>(jT (K:=K) (n:=2) Y Y (cv d1 (cv (iF (i:=1) (show List.Nodup (["prime", "power"]:b2) from by decide +kernel) Y (Or.inl Y) (Or.inr Y)) eh)))) (λ Z Z Z Z=>(BX (bq gW (U 1) aF (bh _))))
    (λ Z Z Z Z=>(a4 (acm T) t aV (aa (U 0) (aa (U 1) aq)))))
  (aD (bM (bq cY (bR fb T.dz dy (aa (U 1) aq)) aF (bh _))
   (aG (aZ a9))
   bJ)
  (aG (aZ (eN kA pM pN rf a9 (aa (U 1) aq)))))),?_]
 refine #[T.g8,a,Y,#[_,T.jV H],#[_,aL.of au],λ D m=>?_];have u:=tm cC;have get:∀ {i:Nat} {x y:V},dC[i]?=some x->(ah.map V.int)[i]?=some y->∃ p e,x=.int p/\y=.int e/\(bS ah)[i]?=some (p,e):=λ {i x y} b c=>by
  rw [xk] at b;obtain ⟨p,rfl,ar⟩:=gH b;obtain ⟨e,rfl,he⟩:=gH c;exact #[p,e,Y,Y,by rw [lI];exact #[ar,he]]
 have aS:=vS o;refine aaL (xs:=dC) (ys:=ah.map V.int) (λ i=>decide (0<((bS ah).getD i (0,0)).2)) (λ i=>V.str (fh ((bS ah).getD i (0,0)).1 ((bS ah).getD i (0,0)).2)) (by rw [bb,cC];decide) #[_,_,Y] m (λ H' s'=>T.jV H') (λ H' s'=>aL.of (s' _ _ au)) (λ i x y H' R s' b c r=>?_) (λ i x y H' R s' b c aI r=>?_) λ H1 s1 af=>?_
 ·obtain ⟨p,e,rfl,rfl,f⟩:=get b c;have j:(bS ah).getD i (0,0)=(p,e):=by simp [List.getD,f]
  have d:=r;rw [j] at d;exact #[_,_,Y,Y,_,Y,d]
 ·obtain ⟨p,e,rfl,rfl,f⟩:=get b c;have j:(bS ah).getD i (0,0)=(p,e):=by simp [List.getD,f]
  have d:∀ ao,ax H' ao->R (V.str (fh ((bS ah).getD i (0,0)).1 ((bS ah).getD i (0,0)).2)) ao:=r;rw [j] at d;have:=aS _ (cg f);exact #[p,e,Y,this.1,this.2,d]
 have k:min dC.length (ah.map V.int).length=(bS ah).length:=by rw [u,bb,cC];rfl
 have l:((List.range (min dC.length (ah.map V.int).length)).filter λ i=>decide (0<((bS ah).getD i (0,0)).2)).map (λ i=>V.str (fh ((bS ah).getD i (0,0)).1 ((bS ah).getD i (0,0)).2))=(de (bS ah)).map V.str:=by
  rw [k,aaa (0,0) (λ p:Int×Int=>decide (0<p.2)) (λ p=>V.str (fh p.1 p.2))];unfold de;rw [fa];rfl
 rw [l] at af;have ae:=n8 _ (wm aS);have B:=w_ (bS ah);have aH:=q H1 s1;refine #[D,_,Y,.inl (aK.of af),Y,_,Y,c3 (λ h=>?_) (λ h=>?_)]
 ·have g:de (bS ah)=[]:=by
   have:=pR h;rw [bb] at this;exact Hu .ak
  unfold du at aH;rw [if_pos g] at aH;rw [vm];exact aH
 ·have g:de (bS ah)≠[]:=λ z=>by
   rw [z] at h;exact h .aw
  unfold du at aH;rw [if_neg g] at aH;refine #[Y,_,D,de (bS ah),Y,Y,af,.aw,.ak,?_];rw [vl];exact aH
end
open PySem bt cA kM PySem.NumText
theorem FA:∀ c,48<=c->c<=57->c∈(("0123456789" : String):Str).cps.toList:=by
 intro c af ai;have e:(("0123456789"):Str).cps.toList=[48,49,50,51,52,53,54,55,56,57]:=by decide +kernel
 rw [e];simp only [b5,dA,dB];omega
section
variable {P:Program} {w:World} {K:aT} {mg:Str->cE} {base:Heap}
def abT:bz:=λ vs H Q Z=>∃ n,vs=[.str (bE n)]/\1<=n/\n<=1000000000000/\∀ H',ax H H'->Q (.int n) H'
theorem Nv (T:aY K mg):b4 P w mg base bY 1 T.MT abT:=by
 refine T.MT.fn.cp NF .bU λ a0 A outer s H vs Q E y h=>?_
 obtain ⟨n,rfl,h0,af,q⟩:=h;refine #[_,(aD (bM (dx.pt (e9 (bq iZ (bR rH T.dz dy (aa (U 0) aq)) aF (bh _)) (e9 (bq gW (bR rH T.dz dy (aa (U 0) aq)) (jU (by rfl) T.abz) (bh _)) (gn (bq cY (bO G4 (U 0) aF (λ Z Z=>rfl)) a9 (bh _))))))
   (aG fH)
   bJ)
  (aD (bM (eW (d_ (bR (oa Y) T.nJ nG (aa (eA (dp NF (N:=["sign"]) (js:=[.n]) (dV _)) Y (we (U 0)) (λ Z Z Z Z=>d1) (λ Z Z Z Z=>ei)
    (λ Z Z Z Z=>(fY CK (U 0) (Cm (by rfl) T.JZ) (by with_unfolding_all rfl)))) aq))))
   (aG fH)
   bJ)
  (aG (aZ (dv JN T.mE mB (aa (U 0) aq)))))),?_]
 obtain ⟨c,r,a,t⟩:=HR (n:=n) .ak;have v:(bE n).length<=13:=hV .ak .ak;have u:1<=(bE n).length:=by rw [<-pV,a];simp
 have d:=wb (n:=n) .ak;have b:(bE n).length<=sizeLine:=by rw [b8];omega
 have m:es (bE n).cps.toList 0=some c:=by
  rw [show (bE n).cps.toList=c::r from a];exact fF .aw rfl
 refine #[_,Y,b,_,_,Y,Y,_,Y,c3 (λ h=>?_) (λ h=>#[_,Y,b,_,_,Y,Y,_,Y,c3 (λ h'=>?_) (λ h'=>#[_,_,c,Y,Y,b,m,Y,_,Y,c3 (λ ai=>?_) (λ ai=>?_)])])]
 ·have:=cM h;omega
 ·have:=cM h';omega
 ·exfalso;have e:=cM ai;rw [z_] at e;have g:(⟨[c].toArray⟩)=bB 48:=by injection e
  have j:=fD cn g;have p:c=48:=by injection j
  omega
 ·have l:(bE n).cps.all (· < 128)=.t:=by
   rw [Array.all_eq_true'];intro x o;have:=d x (v7.mpr o);exact bP .ak
  refine #[_,Y,l,λ D k=>xj (f:=λ Z=>V.aJ .t) (by exact b) #[_,Y] k (λ i c H' R s' a r=>r H' (ax.refl _)) (λ i c H' R s' a aI r=>?_) λ H1 s1 af=>?_]
  ·have hd:=d c (cg (show (bE n).cps.toList[i]?=some c by rw [<-a];simp));refine #[_,_,Y,Y,?_];rw [show (⟨[c].toArray⟩)=bB c from rfl,StrLaws.found_one,bP (FA c hd.1 hd.2)];exact r H' (ax.refl _)
  ·have e:(((List.range (bE n).cps.size).filter λ Z=>.t).map λ Z=>V.aJ .t)=(((List.range (bE n).cps.size).filter λ Z=>.t).map λ Z=>.t).map V.aJ:=by
    rw [fa];rfl
   rw [e] at af;refine #[D,_,Y,aK.of af,_,Y,?_];rw [show ((((List.range (bE n).cps.size).filter λ Z=>.t).map λ Z=>.t).all id)=.t by rw [n5];exact gp.mpr λ Z Z=>rfl];exact bD #[bE n,n,Y,.ak,BR .ak .ak,q H1 s1]
inductive ML:bz
 |mk {vs H Q E} (x y:Str) (i j:Int):vs=[.str x,.str y]->(y.length==0)=.f->x.length<=1000->Txt.split x y=[bE i,bE j]->(1<=i/\i<=1000000000000)->(1<=j/\j<=1000000000000)->e7 (.tup [.int i,.int j]) H Q->ML vs H Q E
theorem Mq (T:aY K mg):b4 P w mg base bY 2 T.Lv ML:=by
 refine T.Lv.fn.cp MI .bU λ a0 A outer s H vs Q E c h=>?_
 obtain ⟨x,y,i,j,rfl,f,k,aA,av,b,q⟩:=h;refine #[_,(aD (ba 2 MI (eN kA pO wN xd (U 0) (aa (U 1) aq)))
  (aD (bM (bq hn (bR fb T.dz dy (aa (U 2) aq)) aF (bh _))
   (aG fH)
   bJ)
  (aG (aZ (fx (aa (a4 (Nv T) c aV (aa (bO cz (U 2) aF (λ Z Z=>rfl)) aq)) (aa (a4 (Nv T) c aV (aa (bO cz (U 2) aF (λ Z Z=>rfl)) aq)) aq))))))),?_]
 refine #[Y,x,y,Y,Y,f,by rw [b8];omega,λ l H1 f1 s1 a=>?_];rw [aA] at a;refine #[l,_,Y,.inl (aK.of a),Y,_,Y,bD ?_];refine #[l,_,_,_,Y,Y,aK.of a,Y,i,Y,av.1,av.2,λ ao s2=>?_];refine #[l,_,_,_,Y,Y,aK.of (s2 _ _ a),Y,j,Y,b.1,b.2,λ g s3=>?_];exact #[bI,λ p d f4 s4 e=>q p d ((s1.trans (s2.trans s3)).free f4) ((s1.trans (s2.trans s3)).trans s4) e]
theorem tR (c) (l) (h:∀ y∈l,y.length<=B):(Str.join (bB c) l).length<=l.length*(B+1):=by
 have af:=StrLaws.join_length_le (bB c) l;have ai:=n8 l h;have a:(bB c).length=1:=rfl;rw [a] at af;rw [Nat.mul_add];omega
def WD:bz:=λ vs H Q Z=>∃ aj,vs=[.str (Str.join (bB 32) (eu aj))]/\1<=aj.length/\aj.length<=16/\(∀ f∈aj,ey f.1 f.2=.t)/\∀ p xs H',ax H H'->H' p=some (.tup xs)->hI H' xs aj->Q (.ref p) H'
theorem VL (T:aY K mg):b4 P w mg base bY 5 T.GR WD:=by
 refine T.GR.fn.cp BZ .bU λ a0 A outer s H vs Q E a h=>?_
 obtain ⟨aj,rfl,nx,aed,hf,q⟩:=h;refine #[_,(aD (bM (eW (d_ (bR h2 T.el ek (aa (U 0) (aa (ho (by rfl) T.gj gh) aq)))))
   (aG fH)
   bJ)
  (aD (ba 1 BZ (dv m4 T.gr gq (aa (eA (dp BZ (N:=["word"]) (js:=[.n]) (dV _)) Y (mZ (eN kA pO wN xd (U 0) (aa a9 aq))) (λ _ _ _ _=>d1) (λ _ _ _ _=>ei)
    (λ _ _ _ _=>(a4 (Mq T) a aV (aa (U 0) (aa a9 aq))))) aq)))
  (aD (bM (eW (d_ (a4 (MZ T) a aV (aa (U 1) aq))))
   (aG fH)
   bJ)
  (aG (aZ (U 1)))))),?_]
 obtain ⟨bH,tys,ah⟩:=nI (v:=.str (Str.join (bB 32) (eu aj))) trivial;refine #[_, "str", bH,_,Y,tys,ah,_,Y,bD ?_];have C:=wc hf;have Z:=tR 32 _ C;have cu:(eu aj).length=aj.length:=bb ..;have zT:Txt.split (Str.join (bB 32) (eu aj)) (bB 32)=eu aj:=t9 32 _ (λ z=>by rw [z] at cu;simp at cu;omega) λ y d=>by
  obtain ⟨f,hm,rfl⟩:=c0.mp d;have:=tZ (hf f hm);exact II .ak .ak
 refine #[Y,_,_,Y,Y,.aw,by rw [b8];rw [cu] at Z;omega,λ l H1 f1 s1 o=>?_];rw [k8,zT] at o;refine #[l,Y,#[_,aK.of o],λ D O=>?_];refine xq (by rw [b8,bb,cu];omega) #[_,Y] O o (λ i H' zs=>hI H' zs (aj.take i)) #[Y,λ k x e=>by cases e] (λ i H' ao zs ys B a b=>a.but B b) (λ i x H' zs R s' j B n a gM=>?_) λ ao zs s2 S n a=>?_
 ·obtain ⟨f,g,rfl⟩:∃ f,aj[i]?=some f/\x=.str (nu f.1 f.2):=by
   rw [dg,dg] at j;cases g:aj[i]? with
   | none=>rw [g] at j;cases j
   | some f=>rw [g] at j;exact #[f,Y,(dS j).symm]
  have G:=cg g;have fr:=tZ (hf f G);refine #[_,_,f.1,f.2,Y,.aw,dT (C _ (c0.mpr #[f,G,Y])) .aw,by rw [ny];exact YH .ak .ak,fr.1,fr.2,λ p t f4 s4 L=>gM _ _ s4 ?_];have sx:=a.same s4;have jw:aj.take (i+1)=aj.take i++[f]:=by rw [jN,g];rfl
  have I:(aj.take i).length=i:=by rw [<-a.1,n]
  refine #[by rw [jw,dn,dn,a.1];rfl,λ k y d=>?_];rw [jw];rcases q7 k zs.length with ay|ay
  ·rw [jJ ay] at d;obtain ⟨c,rT,c2,g1,g2,g3⟩:=sx.2 k y d;exact #[c,rT,c2,g1,g2,by rw [jJ (by rw [<-a.1];exact ay)];exact g3]
  ·rw [kq ay] at d;have aU:k=zs.length:=by
    cases X:k-zs.length with
    | zero=>omega
    | succ m=>rw [X] at d;cases d
   subst aU;rw [Nat.sub_self] at d;cases d;exact #[p,f.1,f.2,Y,L,by rw [kq (by rw [I,n];exact bL _),I,n,Nat.sub_self];rfl]
 ·have M:aj.take ((eu aj).map V.str).length=aj:=hU (by rw [bb,cu];exact bL _);rw [M] at a;refine #[D,_,Y,aK.of S,λ p j0 hC s3 r=>?_];have J:=a.same s3;have u:=J.Sq hf;have l4:=a.1;refine #[_,Y,Jw r .ak u,λ t s4=>#[_,Y,?_]];rw [Kc r .ak .ak u];exact bD (q p zs t (s1.trans (s2.trans (s3.trans s4))) (s4 _ _ r) (J.same s4))
noncomputable def ki (l:cX) (kvs:List (Key×V)):List (Key×V):=l.foldl (λ k p=>putK k (gv p.1) (.int p.2)) kvs
theorem Cj:∀ {l:cX} {kvs:List (Key×V)},p∉l.map (·.1)->b7 (ki l kvs) (gv p)=b7 kvs (gv p)
 | [],_,_=>rfl
 | q::l,kvs,h=>by
  show b7 (ki l (putK kvs (gv q.1) (.int q.2))) (gv p)=_;rw [Cj (λ z=>h (dJ _ z)),xi,if_neg];intro e;injection e with e;exact h (by rw [e];exact dI)
theorem HY:∀ {l:cX} {kvs:List (Key×V)},(l.map (·.1)).Nodup->(p,e)∈l->b7 (ki l kvs) (gv p)=some (.int e)
 | [],_,_,h=>by cases h
 | q::l,kvs,aB,h=>by
  obtain ⟨a,b⟩:=mK.mp aB;show b7 (ki l (putK kvs (gv q.1) (.int q.2))) (gv p)=_;rcases b5.mp h with z|z
  ·subst z;rw [Cj a,xi,if_pos rfl]
  ·exact HY b z
theorem I5:∀ {l:cX} {kvs:List (Key×V)},(ki l kvs).length<=kvs.length+l.length
 | [],_=>bL _
 | q::l,kvs=>by
  have h:=I5 (l:=l) (kvs:=putK kvs (gv q.1) (.int q.2));have ai:(putK kvs (gv q.1) (.int q.2)).length<=kvs.length+1:=by
   unfold putK;split
   ·rw [bb];omega
   ·rw [dn];exact bL _
  show (ki l (putK kvs (gv q.1) (.int q.2))).length<=kvs.length+(l.length+1);omega
theorem Wf (h0:∀ e∈ah,0<=e) {i:Nat} (h:(bS ah)[i]?=some (p,e)):(b7 (ki (iz (bS ah)) []) (gv p)).getD (.int 0)=V.int e:=by
 have hm:=cg h;have he:=h0 e (cg (UW h).2);by_cases ar:0<e
 ·rw [HY (Y9 ah) (hp.mpr #[hm,bP ar])];rfl
 ·rw [Cj (λ z=>?_)]
  ·show V.int 0=V.int e;rw [show e=0 by omega]
  ·obtain ⟨⟨g,f⟩,hf,a⟩:=c0.mp z;cases a;obtain ⟨b,c⟩:=hp.mp hf;have:=HN (H2 ah) hm b;have d:=cM c;omega
def acg:bz:=λ vs H Q Z=>∃ ah,vs=[.str (Str.join (bB 42) (de (bS ah)))]/\de (bS ah)≠[]/\ah.length=10/\(∀ e∈ah,0<=e/\e<=1000000)/\∀ p H',ax H H'->H' p=some (.tup (ah.map V.int))->Q (.ref p) H'
theorem ab1 (T:aY K mg):b4 P w mg base bY 3 T.Nq acg:=by
 refine T.Nq.fn.cp um .bU λ a0 A outer s H vs Q E O h=>?_
 obtain ⟨ah,rfl,Qz,cC,n,q⟩:=h;refine #[_,(aD (tr (i:=1) um.cD Y (Or.inr Y) rn)
  (aD (eI dW Y (mZ (eN kA pO wN xd (U 0) (aa a9 aq))) (cH 2 um)
   (aD (ba 3 um (a4 (Mq T) O aV (aa (U 2) (aa a9 aq))))
  (aG (X_ (d9 O) (U 1) (bO d6 (U 3) aF (λ _ _=>rfl)) (bO d6 (U 3) aF (λ _ _=>rfl)) Y))))
  (aG (aZ (dv m4 T.gr gq (aa (eA (dp um (N:=["prime", "found"]) (js:=[.n,some 1]) (jO.mpr #[Y,(dV _)])) Y (jK (fZ (v:=.ref T.g8) (by rfl) T.pW Y)) (λ _ _ _ _=>d1) (λ _ _ _ _=>ei)
    (λ _ _ _ _=>(Hg Y tL q4 BE Xu (U 1) (aa (U 0) (aa aF aq))))) aq)))))),?_]
 have aS:=vS λ e he=>#[(n e he).1,by have:=(n e he).2;omega]
 have Z:=wm aS;have qs:=tR 42 _ Z;have C:=w_ (bS ah);rw [tm cC] at C;have zT:=t9 42 _ Qz λ y lY=>by
  obtain ⟨f,hm,rfl⟩:=c0.mp lY;have:=aS f (HO hm);exact X2 this.1.1 this.2.1
 refine λ d H1 f1 s1 I=>?_
 refine #[Y,_,_,Y,Y,.aw,by rw [b8];omega,λ l ao f2 s2 t=>?_];rw [vl,zT,Ct,fa] at t;have hd2:=s2 _ _ I;have fd:=f1;have Rx:l≠d:=λ z=>by rw [z,I] at f2;cases f2
 have cu:(iz (bS ah)).length<=10:=by rw [Ct,bb] at C;exact C
 refine #[l,Y,#[_,aK.of t],Xb (λ i σ b=>(∃ u v:e6,σ=[some (.str (Str.join (bB 42) (de (bS ah)))),some (.ref d),u,v])/\br d ao b/\b d=some (.bW (ki ((iz (bS ah)).take i) []))) #[#[.n,.n,Y],br.of (ax.refl _),hd2] (λ i σ b _ ⟨_,j,_⟩=>aK.of (j _ _ Rx t)) ?_ ?_]
 ·rintro i x σ b g ⟨⟨u,v,rfl⟩,j,k⟩;obtain ⟨f,m,rfl⟩:∃ f,(iz (bS ah))[i]?=some f/\x=.str (fh f.1 f.2):=by
   rw [dg] at g;cases m:(iz (bS ah))[i]? with
   | none=>rw [m] at g;cases g
   | some f=>rw [m] at g;exact #[f,Y,(dS g).symm]
  have Qk:=cg m;obtain ⟨B,SQ⟩:=hp.mp Qk;have aei:=cM SQ;have L:=aS f B;have DF:=n f.2 (mL (show (f.1,f.2)∈_ from B)).2;have a_:=C4 f.1 (mL B).1;refine #[_,_,f.1,f.2,Y,.aw,dT (HZ L.1 L.2) .aw,by rw [sO];exact Za .ak .ak,#[.ak,.ak],#[.ak,.ak],λ pr iI f4 s4 J=>?_];refine #[pr,_,_,_,Y,Y,aL.of J,Y,pr,_,_,_,Y,Y,aL.of J,Y,d,f.1,_,Y,Y,s4 _ _ k,?_,λ G S X=>#[#[_,_,Y],j.trans ((br.of s4).trans S),?_]]
  ·have:=I5 (l:=(iz (bS ah)).take i) (kvs:=[]);have ai:((iz (bS ah)).take i).length<=10:=by rw [i3];omega
   rw [b8];simp only [List.length_nil] at this;omega
  ·rw [X,jN,m];unfold ki;rw [Option.toList_some,List.foldl_append];rfl
 ·rintro σ b ⟨⟨u,v,rfl⟩,j,k⟩;rw [bb,ky] at k;have R0:ax H b:=λ c o e=>j _ _ (b0 e fd) ((s1.trans s2) _ _ e)
  refine #[T.g8,Y,#[dC,T.jV b],λ D M=>De (K:=K) (a:=T.g8) (xs:=dC) (σ0:=[some (.ref d)]) (f:=λ v=>match v with| .int p=>(b7 (ki (iz (bS ah)) []) (gv p)).getD (.int 0)|v=>v) Y .aw M (T.jV b) ?_ ?_]
  ·intro x H' R s' g r;rw [xk] at g;obtain ⟨p,_,rfl⟩:=c0.mp g;exact #[.inr (.inr (.inl #[Y,.inl #[_,s' _ _ k]])),d,p,_,_,Y,Y,s' _ _ k,r]
  ·have e:(dC.map λ v=>match v with| .int p=>(b7 (ki (iz (bS ah)) []) (gv p)).getD (.int 0)|v=>v)=ah.map V.int:=by
    apply q6;intro i;rcases q7 i 10 with av|av
    ·have hD:(bS ah)[i]?=some (mY[i]'av,ah[i]'(by omega)):=by
      rw [lI];exact #[cV av,cV .ak]
     rw [xk,fa,dg,dg,cV av,cV (show i<ah.length by omega)];exact fD some (Wf (λ e he=>(n e he).1) hD)
    ·rw [kz (by rw [bb];exact av),kz (by rw [bb];omega)]
   rw [e];exact #[D,_,Y,aK.of bc,λ p G h7 s5 aU=>q p G ((R0.trans (ax.new M)).trans s5) aU]
def abU:bz:=λ vs H Q Z=>∃ ah,vs=[.str (du (bS ah))]/\ah.length=10/\(∀ e∈ah,0<=e/\e<=1000000)/\∀ p H',ax H H'->H' p=some (.tup (ah.map V.int))->Q (.ref p) H'
theorem abK (T:aY K mg):b4 P w mg base bY 4 T.MU abU:=by
 refine T.MU.fn.cp Dp .bU λ a0 A outer s H vs Q E k h=>?_
 obtain ⟨ah,rfl,cC,a,q⟩:=h;refine #[_,(aD (bM (eW (d_ (bR h2 T.el ek (aa (U 0) (aa (ho (by rfl) T.gj gh) aq)))))
   (aG fH)
   bJ)
  (aD (ba 1 Dp (bf XD (fx (aa aF aq)) (bR fb T.dz dy (aa (fZ (v:=.ref T.g8) (by rfl) T.pW Y) aq))))
  (aD (bM (bq hn (U 0) a9 (bh _))
   (aG (ba 1 Dp (a4 (ab1 T) k aV (aa (U 0) aq))))
   bJ)
  (aD (bM (dx.pt (e9 (bq gW (bR (JO Y) T.pd o_ (aa (U 1) aq)) (jU (by rfl) T.Mj) (bh _)) (gn (bq hn (a4 (xX T) k aV (aa (U 1) aq)) (U 0) (bh _)))))
   (aG fH)
   bJ)
  (aG (aZ (U 1))))))),?_]
 obtain ⟨bH,tys,m⟩:=nI (v:=.str (du (bS ah))) trivial;refine #[_, "str", bH,_,Y,tys,m,_,Y,bD ?_];have i:∀ e∈ah,0<=e/\e<10 ^ 60:=λ e he=>#[(a e he).1,by have:=(a e he).2;omega]
 refine #[bI,λ t0 H1 f1 s1 l=>?_];refine #[T.g8,dC,Y,.inr (T.jV H1),t0,_,_,Y,Y,l,.zs,.aw,.aw,.aw,λ z ao f2 s2 b=>?_];have j:ah≠[]:=λ z=>by rw [z] at cC;cases cC
 refine #[Y,_,Y,?_];by_cases hw:de (bS ah)=[]
 ·have f:du (bS ah)=bB 49:=by unfold du;rw [if_pos hw]
  have n:(List.replicate (((dC.length):Int)).toNat [V.int 0]).flatten=ah.map V.int:=by
   rw [Ys cC (λ e he=>(a e he).1) hw];rfl
  rw [n] at b;rw [show decide (V.str (du (bS ah))=V.str ("1"))=.t by rw [f,vm];exact bP rfl];refine bD ?_;refine #[z,ah,Y,aL.of b,j,λ M g Z=>#[_,_,Y,Y,_,Y,c3 (λ h=>?_) (λ h=>?_)]]
  ·have:=cM h;have:=(a M g).2;omega
  ·refine #[z,ah,Y,b,cC,i,λ c s5=>#[Y,_,Y,?_]];rw [bP rfl];exact bD (q z c ((s1.trans s2).trans s5) (s5 _ _ b))
 ·have f:du (bS ah)=Str.join (bB 42) (de (bS ah)):=by unfold du;rw [if_neg hw]
  rw [show decide (V.str (du (bS ah))=V.str ("1"))=.f by
   rw [vm];exact cK λ e=>Vv hw (by injection e)]
  refine b6 ?_;refine #[ah,by rw [f];rfl,hw,cC,a,λ p o s3 d=>?_];refine #[p,ah,Y,aL.of d,j,λ M g Z=>#[_,_,Y,Y,_,Y,c3 (λ h=>?_) (λ h=>?_)]]
  ·have:=cM h;have:=(a M g).2;omega
  ·refine #[p,ah,Y,d,cC,i,λ c s5=>#[Y,_,Y,?_]];rw [bP rfl];exact bD (q p c (((s1.trans s2).trans s3).trans s5) (s5 _ _ d))
theorem hZ (h:x≠y):decide (V.str x=V.str y)=.f:=cK λ z=>by injection z with z;exact h z
def qq (ws:b2):Prop:=ws≠[]/\ws.length<=100/\(∀ x∈ws,d8 32 x/\0<x.length)/\(Str.join (bB 32) ws).length<=100000
def aaH:bz:=λ vs H Q Z=>∃ ws,vs=[.str (Str.join (bB 32) ws)]/\qq ws/\e7 (.lst (ws.map V.str)) H Q
theorem aaB (T:aY K mg):b4 P w mg base bY 1 T.KL aaH:=by
 refine T.KL.fn.cp LY .bU λ a0 A outer s H vs Q E i h=>?_
 obtain ⟨ws,rfl,hw,q⟩:=h;refine #[_,(aD (bM (eW (d_ (bR h2 T.el ek (aa (U 0) (aa (ho (by rfl) T.gj gh) aq)))))
   (aG fH)
   bJ)
  (aD (ba 1 LY (eN kA pO wN xd (U 0) (aa a9 aq)))
  (aD (bM (bq Kb a9 (U 1) (by with_unfolding_all rfl))
   (aG fH)
   bJ)
  (aG (aZ (U 1)))))),?_]
 obtain ⟨h0,g,c,hlen⟩:=hw;obtain ⟨bH,tys,ah⟩:=nI (v:=.str (Str.join (bB 32) ws)) trivial;refine #[_, "str", bH,_,Y,tys,ah,_,Y,bD ?_];refine #[Y,_,_,Y,Y,.aw,by rw [b8];omega,λ l H1 f1 s1 a=>?_];rw [k8,t9 32 ws h0 λ y b=>(c y b).1] at a;refine #[l,_,Y,.inl (aK.of a),Y,gp.mpr λ y b=>?_,_,Y,?_]
 ·obtain ⟨z,_,rfl⟩:=c0.mp b;rfl
 ·have d:qv (.str ("")) (ws.map V.str)=.f:=by
   rw [mR];intro z;obtain ⟨y,b,e⟩:=List.any_eq_true.mp z;obtain ⟨x,f,rfl⟩:=c0.mp b;have a:x=(""):=by simpa [l_] using e
   have:=(c x f).2;rw [a] at this;exact absurd this .aw
  rw [d];exact bD (q l H1 f1 s1 a)
inductive NO:bz
 |mk {vs H Q E} (l:Addr) (aj:cX):vs=[.ref l]->H l=some (.lst ((eu aj).map V.str))->1<=aj.length->aj.length<=16->(∀ f∈aj,ey f.1 f.2=.t)->(∀ p xs H',ax H H'->H' p=some (.tup xs)->hI H' xs aj->Q (.ref p) H')->NO vs H Q E
theorem ab2 (T:aY K mg):b4 P w mg base bY 6 T.Nr NO:=by
 refine T.Nr.fn.cp ace .bU λ a0 A outer s H vs Q E d h=>?_
 obtain ⟨l,aj,rfl,c,af,a,hf,q⟩:=h;refine #[_,(aG (H7 (λ Z Z=>(aG (aZ (a4 (VL T) d aV (aa (Hg Y kA pM pN rf a9 (aa (U 0) aq)) aq))))))),?_];have b:=wc hf;have cu:(eu aj).length=aj.length:=bb ..;have e:=n8 _ b;refine #[Y,_,l,eu aj,Y,Y,c,.aw,?_,aj,?_,af,a,hf,q]
 ·rw [cu] at e ⊢;omega
 ·rw [k8];rfl
inductive Ng:bz
 |mk {vs H Q E} (n m):vs=[.str (bE n),.int m]->0<=n->n<=m->n<=1000000000000->m<=1000000000000000000->(∀ H',ax H H'->Q (.int n) H')->Ng vs H Q E
theorem MY (T:aY K mg):b4 P w mg base bY 1 T.L9 Ng:=by
 refine T.L9.fn.cp Dj .bU λ a0 A outer s H vs Q E O h=>?_
 obtain ⟨n,m,rfl,h0,hm,I,M,q⟩:=h;refine #[_,(aD (bM (dx.pt (e9 (bq gW (bR rH T.dz dy (aa (U 0) aq)) (jU (by rfl) T.acW) (bh _)) (gn (eW (d_ (bR (oa Y) T.nJ nG (aa (eA (dp Dj (N:=["sign"]) (js:=[.n]) (dV _)) Y (we (U 0)) (λ Z Z Z Z=>d1) (λ Z Z Z Z=>ei)
    (λ Z Z Z Z=>(fY CK (U 0) (Cm (by rfl) T.JZ) (by with_unfolding_all rfl)))) aq)))))))
   (aG fH)
   bJ)
  (aD (bM (dx.pt (nU (bq cY (bO G4 (U 0) aF (λ Z Z=>rfl)) a9 (bh _)) (n7 (bq hn (U 0) a9 (bh _)))))
   (aG fH)
   bJ)
  (aD (ba 2 Dj (dv JN T.mE mB (aa (U 0) aq)))
  (aD (bM (bq gW (U 2) (U 1) (bh _))
   (aG fH)
   bJ)
  (aG (aZ (U 2))))))),?_]
 have L:=hV (k:=12) .ak .ak;have l:=wb .ak;have d:(bE n).length<=sizeLine:=by rw [b8];omega
 have v:(bE n).cps.all (· < 128)=.t:=by
  rw [Array.all_eq_true'];intro x B;have:=l x (v7.mpr B);exact bP .ak
 refine #[_,Y,d,_,_,Y,Y,_,Y,c3 (λ h=>?_) (λ h=>?_)]
 ·have:=cM h;omega
 refine #[_,Y,v,λ D u=>xj (f:=λ Z=>V.aJ .t) (by exact d) #[_,Y] u (λ i c H' R s' b r=>r H' (ax.refl _)) (λ i c H' R s' b aI r=>?_) λ H1 s1 af=>?_]
 ·have hd:=l c (cg (show (bE n).cps.toList[i]?=some c by rw [<-b];simp));refine #[_,_,Y,Y,?_];rw [show (⟨[c].toArray⟩)=bB c from rfl,StrLaws.found_one,bP (FA c hd.1 hd.2)];exact r H' (ax.refl _)
 ·have e:(((List.range (bE n).cps.size).filter λ Z=>.t).map λ Z=>V.aJ .t)=(((List.range (bE n).cps.size).filter λ Z=>.t).map λ Z=>.t).map V.aJ:=by
   rw [fa];rfl
  rw [e] at af;refine #[D,_,Y,aK.of af,_,Y,?_];rw [show ((((List.range (bE n).cps.size).filter λ Z=>.t).map λ Z=>.t).all id)=.t by rw [n5];exact gp.mpr λ Z Z=>rfl];refine bD ?_;obtain ⟨c,r,b⟩:∃ c r,cn (bE n)=c::r:=by
   cases aA:cn (bE n) with
   | nil=>exact absurd aA (A2 .ak)
   | cons c r=>exact #[c,r,Y]
  have y:es (bE n).cps.toList 0=some c:=by
   rw [show (bE n).cps.toList=c::r from b];exact fF .aw rfl
  refine #[_,_,c,Y,Y,d,y,Y,_,Y,?_];by_cases aB:n=0
  ·subst aB;have g:bE 0=("0"):=by decide +kernel
   have z:c=48:=by
    have:cn (bE 0)=[48]:=by rw [g];decide +kernel
    rw [this] at b;injection b with b;exact b.symm
   rw [bP (show V.str (⟨[c].toArray⟩)=V.str ("0") by rw [z,z_])];refine b6 #[Y,_,Y,?_];rw [bP (show V.str (bE 0)=V.str ("0") by rw [g])];refine bD #[bE 0,0,Y,.ak,BR .ak .ak,_,_,Y,Y,_,Y,?_];rw [cK (show ¬ m<0 by omega)];exact bD (q H1 s1)
  ·obtain ⟨o,S,j,J⟩:=HR (n:=n) .ak;have G:o=c:=by rw [b] at j;injection j with a;exact a.symm
   rw [cK (λ e=>by
    rw [z_] at e;have p:(⟨[c].toArray⟩)=bB 48:=by injection e
    have t:[c]=[48]:=fD cn p;have C:c=48:=by injection t
    omega)]
   refine bD (bD #[bE n,n,Y,.ak,BR .ak .ak,_,_,Y,Y,_,Y,?_]);rw [cK (show ¬ m<n by omega)];exact bD (q H1 s1)
def acR:bz:=λ vs H Q Z=>∃ ah,vs=[.str (du (bS ah))]/\ah.length=10/\(∀ e∈ah,0<=e/\e<=1000000)/\∀ p H',ax H H'->H' p=some (.tup (ah.map V.int))->Q (.ref p) H'
theorem acI (T:aY K mg):b4 P w mg base bY 5 T.N4 acR:=by
 refine T.N4.fn.cp acQ .bU λ a0 A outer s H vs Q E b h=>?_
 obtain ⟨ah,rfl,cC,a,q⟩:=h;refine #[_,(aG (H7 (λ Z Z=>(aG (aZ (a4 (abK T) b aV (aa (U 0) aq))))))),?_];exact #[ah,Y,cC,a,q]
def aa6:bz:=λ vs H Q Z=>∃ dr x,vs=[.str dr,.str x] /\
 ((dr = "name" /\ Q (.str x) H)\/(dr = "powers" /\ ∃ ah,x=du (bS ah)/\ah.length=10/\(∀ e∈ah,0<=e/\e<=1000000)/\∀ p H',ax H H'->H' p=some (.tup (ah.map V.int))->Q (.ref p) H') \/
 ((dr = "run count" \/ dr = "fate count")/\∃ n,x=bE n/\0<=n/\n<=400/\∀ H',ax H H'->Q (.int n) H'))
theorem aaW (T:aY K mg):b4 P w mg base bY 6 T.Lw aa6:=by
 refine T.Lw.fn.cp aa0 .bU λ a0 A outer s H vs Q E a h=>?_
 obtain ⟨dr,x,rfl,h⟩:=h;refine #[_,(aD (bM (bq cY (U 0) a9 (bh _))
   (aG (aZ (a4 (acI T) a aV (aa (U 1) aq))))
   bJ)
  (aD (bM (bq cY (U 0) a9 (bh _))
   (aG (aZ (a4 (MY T) a aV (aa (U 1) (aa (jU (by rfl) T.ZI) aq)))))
   bJ)
  (aD (bM (bq cY (U 0) a9 (bh _))
   (aG (aZ (a4 (MY T) a aV (aa (U 1) (aa (jU (by rfl) T.aaO) aq)))))
   bJ)
  (aG (aZ (U 1)))))),?_]
 rcases h with ⟨rfl,q⟩|⟨rfl,ah,rfl,cC,b,q⟩|⟨ay,n,rfl,h0,c,q⟩
 ·refine #[Y,_,Y,?_];rw [hZ (show ("name" : Str) ≠ "powers" by decide)];refine bD #[Y,_,Y,?_];rw [hZ (show ("name" : Str) ≠ "run count" by decide)];refine bD #[Y,_,Y,?_];rw [hZ (show ("name" : Str) ≠ "fate count" by decide)];exact bD (q)
 ·refine #[Y,_,Y,?_];rw [bP rfl];exact b6 #[ah,Y,cC,b,q]
 ·rcases ay with rfl|rfl
  ·refine #[Y,_,Y,?_];rw [hZ (show ("run count" : Str) ≠ "powers" by decide)];refine bD #[Y,_,Y,?_];rw [bP rfl];exact b6 #[n,_,Y,h0,.ak,.ak,.ak,q]
  ·refine #[Y,_,Y,?_];rw [hZ (show ("fate count" : Str) ≠ "powers" by decide)];refine bD #[Y,_,Y,?_];rw [hZ (show ("fate count" : Str) ≠ "run count" by decide)];refine bD #[Y,_,Y,?_];rw [bP rfl];exact b6 #[n,_,Y,h0,.ak,.ak,.ak,q]
inductive fo where
 | nm (x:Str)
 | qi (ah:bp)
 | cG (n:Int)
noncomputable def fo.word:fo->Str
 | .nm x=>x
 | .qi ah=>du (bS ah)
 | .cG n=>bE n
def fo.fits (dr:Str):fo->Prop
 | .nm _=>dr = "name"
 | .qi ah=>dr = "powers" /\ ah.length=10/\∀ e∈ah,0<=e/\e<=1000000
 | .cG n=>(dr = "run count" \/ dr = "fate count")/\0<=n/\n<=400
def fo.val (H:aC) (z:V):fo->Prop
 | .nm x=>z=.str x
 | .qi ah=>∃ p,z=.ref p/\H p=some (.tup (ah.map V.int))
 | .cG n=>z=.int n
theorem fo.val.cf (k:∀ c xs,H c=some (.tup xs)->H' c=some (.tup xs)):∀ {d:fo},d.val H z->d.val H' z
 | .nm _,h=>h
 | .qi _,⟨p,e,h⟩=>#[p,e,k _ _ h]
 | .cG _,h=>h
def sd (H:aC) (zs:bj) (ds:List fo):Prop:=zs.length=ds.length/\∀ (i:Nat) z d,zs[i]?=some z->ds[i]?=some d->d.val H z
noncomputable def AQ:List (Str×b2):=[("put", ["name", "powers"]),("drop", ["name"]),("undo", []),("run", ["name", "run count"]),("show", ["name"]),("gone", ["name"]),("names", []),("fate", ["name", "fate count"]),("ahead", ["name"])]
inductive Nk:bz
 |mk {vs H Q E} (l:Addr) (w0:Str) (iq:b2) (ds:List fo):vs=[.ref l]->H l=some (.lst ((w0::ds.map fo.word).map V.str))->PyProof.Rows.KTD.datumAt w0 AQ=some iq->iq.length=ds.length->ds.length<=2->(∀ (i:Nat) dr d,iq[i]?=some dr->ds[i]?=some d->d.fits dr)->(∀ aH zs H',H aH=.n->ax H H'->H' aH=some (.lst zs)->sd H' zs ds->Q (.ref aH) H')->Nk vs H Q E
theorem abn (T:aY K mg):b4 P w mg base bY 7 T.Me Nk:=by
 refine T.Me.fn.cp Dk .bU λ a0 A outer s H vs Q E e1 h=>?_
 obtain ⟨l,w0,iq,ds,rfl,I,ay,hlen,ai,aU,q⟩:=h;refine #[_,(aD (ba 1 Dk (Zd T.Vp T.WL (aa (bO cz (U 0) aF (λ _ _=>rfl)) aq)))
  (aD (bM (dx.pt (e9 (bq mO (U 1) e_ (bh _)) (gn (bq hn (bR fb T.dz dy (aa (U 0) aq)) (bf ez (bR fb T.dz dy (aa (U 1) aq)) aF) (bh _)))))
   (aG fH)
   bJ)
  (aG (aZ (eA (dp Dk (js:=[.n,.n]) (dV _)) Y (H5 Y Y T.hl (aa (U 1) (aa (xe B0 (U 0) (w5 aF) w4) aq))) (λ _ _ _ _=>(jT (K:=K) (n:=2) Y Y (cv d1 (cv (iF (i:=1) (show List.Nodup (["kind", "word"]:b2) from by decide +kernel) Y (Or.inl Y) (Or.inr Y)) eh)))) (λ _ _ _ _=>ei)
    (λ _ _ _ _=>(a4 (aaW T) e1 aV (aa (U 0) (aa (U 1) aq))))))))),?_]
 refine #[l,_,_,.str w0,Y,Y,aK.of I,fF .aw Y,w0,Y,.inl #[iq,ay,λ t aI=>?_]];have G:∀ H',aL K H' t (iq.map V.str):=aI;refine #[Y,_,Y,bD #[l,_,Y,.inl (aK.of I),t,_,Y,.inr (G H),_,_,Y,Y,Y,_,Y,?_]];rw [bP (show V.int _=V.int _ by simp [hlen])];refine bD ?_;refine #[1,Y,l,_,Y,aK.of I,λ r Z=>#[t,r,Y,#[_,G _],#[_,aK.of bc],λ D f=>?_]];have N:iw ((w0::ds.map fo.word).map V.str) (some 1) .n=(ds.map fo.word).map V.str:=by
  unfold iw;rw [wh .aw,fv,fW,show min (1:Int).toNat (((ds.map fo.word).map V.str).length+1)=1 by show min 1 _=1;omega];exact hU (bL _)
 have s2:ax H (upd H r (.lst (iw ((w0::ds.map fo.word).map V.str) (some 1) .n))):=ax.new Z;rw [N] at f s2 ⊢;have adU:D≠r:=λ z=>by rw [z,bc] at f;cases f
 refine YC (K:=K) (by rw [b8];simp;omega) (λ i σ' H' zs=>(∃ u v:e6,σ'=[u,v])/\ax (upd H r (.lst ((ds.map fo.word).map V.str))) H'/\sd H' zs (ds.take i)) #[#[_,_,Y],ax.new f,Y,λ i z d h=>by cases h] (λ i σ' H' zs _ h=>#[G _,aK.of (h.2.1 _ _ bc)]) ?_ ?_
 ·rintro i x y p σ' H' zs R J L ar g hh ⟨⟨u,v,rfl⟩,s',e2⟩ gM;obtain ⟨dr,X,rfl⟩:∃ dr,iq[i]?=some dr/\V.str dr=x:=by rw [dg] at J;exact tC.mp J
  obtain ⟨d,hd,rfl⟩:∃ d,ds[i]?=some d/\V.str d.word=y:=by
   rw [fa,dg] at L;exact tC.mp L
  have b:=aU i dr d X hd;refine #[p,_,Y,aL.of bc,Y,_,_,Y,_,_,Y,Y,?_];have sp:ax H' (upd H' p (.tup [V.str dr,V.str d.word])):=ax.new ar;have adV:D≠p:=λ z=>by rw [<-z,g] at ar;cases ar
  have fin:∀ z a,ax (upd H' p (.tup [V.str dr,V.str d.word])) a->d.val a z->R [some (.str dr),some (.str d.word)] z a:=λ z a s4 aM=>by
   have B:=sp.trans s4;refine gM _ z a (B _ _ g) #[#[_,_,Y],λ c o e=>?_,?_]
   ·rw [a3 (b0 e f)];exact B _ _ (s' _ _ e)
   ·have kt:∀ c xs,a c=some (.tup xs)->(upd a D (.lst (zs++[z]))) c=some (.tup xs):=λ c xs h=>by
     rw [a3 (cq h (B _ _ g) nofun)];exact h
    rw [jN,hd];refine #[by rw [dn,dn,e2.1];rfl,λ j ib M k m=>?_];rcases q7 j zs.length with C|C
    ·rw [jJ C] at k;rw [jJ (by rw [<-e2.1];exact C)] at m;exact (((e2.2 j ib M k m).cf λ c xs h=>B _ _ h).cf kt)
    ·have O:j=zs.length:=by
      have:=(dK.mp k).1;rw [dn] at this;have af:[z].length=1:=rfl;omega
     subst O;rw [kq (bL _),Nat.sub_self] at k;rw [e2.1,kq (bL _),Nat.sub_self] at m;cases k;cases m;exact aM.cf kt
  refine #[dr,d.word,Y,?_];cases d with
  | nm x=>exact .inl #[b,fin _ _ (ax.refl _) Y]
  | qi ah=>exact .inr (.inl #[b.1,ah,Y,b.2.1,b.2.2,λ yK a s4 S=>fin _ a s4 #[yK,Y,S]])
  | cG n=>exact .inr (.inr #[b.1,n,Y,b.2.1,b.2.2,λ a s4=>fin _ a s4 Y])
 ·rintro σ' H' zs g hh ⟨_,s',e2⟩;have em:min (iq.map V.str).length ((ds.map fo.word).map V.str).length=ds.length:=by simp [hlen]
  rw [em,ky] at e2;exact q D zs H' (s2.free f) (s2.trans s') g e2
end
noncomputable def o4 (ys:b2):Str:=if ys=[] then "none" else Str.join (bB 32) ys
noncomputable def zq:p_->Str
 | .iB => "open"
 | .rests n c => "rests " ++ bE (n:Int) ++ " " ++ du (bS c)
 | .round b l => "round " ++ bE (b:Int) ++ " " ++ bE (l:Int)
def y7:p_->Prop
 | .iB=>True
 | .rests n c=>(n:Int)<10 ^ 60/\c.length=10/\∀ e∈c,0<=e/\e<10 ^ 60
 | .round b l=>(b:Int)<10 ^ 60/\(l:Int)<10 ^ 60
section
variable {P:Program} {w:World} {K:aT} {mg:Str->cE} {base:Heap}
def Zk:bz:=λ vs H Q Z=>∃ (l:Addr) (ys:b2),vs=[.ref l]/\H l=some (.lst (ys.map V.str))/\(ys.map (·.length)).sum+ys.length<=1048576/\Q (.str (o4 ys)) H
theorem Ka (T:aY K mg):b4 P w mg base bY 1 T.Iz Zk:=by
 refine T.Iz.fn.cp Zh .bU λ a0 A outer s H vs Q E b h=>?_
 obtain ⟨l,ys,rfl,a,aA,q⟩:=h;refine #[_,(aG (aZ (X9 (bq gW (bR fb T.dz dy (aa (U 0) aq)) aF (bh _)) (eN kA pM pN rf a9 (aa (U 0) aq)) a9))),?_];refine #[l,_,Y,.inl (aK.of a),_,_,Y,Y,_,Y,?_];unfold o4 at q;by_cases h0:ys=[]
 ·subst h0;exact bD q
 ·rw [if_neg h0] at q;have ar:=List.length_pos_iff.mpr h0;rw [bP (show 0<((ys.map V.str).length:Int) by rw [bb];omega)];refine b6 #[Y,_,l,ys,Y,Y,a,.aw,aA,?_];rw [k8];exact q
theorem rb (cC:ah.length=10) (a:∀ e∈ah,0<=e/\e<10 ^ 60):(du (bS ah)).length<=700:=by
 have aS:=vS λ e he=>#[(a e he).1,(a e he).2]
 have c:=wm aS;have d:=tR 42 _ c;have b:=w_ (bS ah);rw [tm cC] at b;unfold du;split
 ·decide
 ·have:=wO (63+1) b;omega
def NN:bz:=λ vs H Q Z=>∃ (v:V) (o:p_),vs=[v]/\y8 H v o/\y7 o/\∀ H',ax H H'->Q (.str (zq o)) H'
theorem abY (T:aY K mg):b4 P w mg base bY 4 T.Nm NN:=by
 refine T.Nm.fn.cp xU .bU λ a0 A outer s H vs Q E i h=>?_
 obtain ⟨v,o,rfl,g,k,q⟩:=h;refine #[_,(aD (bM (bq cY (bO d6 (U 0) aF (λ Z Z=>rfl)) a9 (bh _))
   (aG (aZ a9))
   bJ)
  (aD (ba 1 xU (a4 (uq T) i aV (aa (bO d6 (U 0) aF (λ Z Z=>rfl)) aq)))
  (aD (bM (bq cY (bO d6 (U 0) aF (λ Z Z=>rfl)) a9 (bh _))
   (aD (ba 2 xU (a4 (xX T) i aV (aa (bO d6 (U 0) aF (λ Z Z=>rfl)) aq)))
  (aG (aZ (H3 (U 1) (U 2)))))
   bJ)
  (aD (ba 3 xU (a4 (uq T) i aV (aa (bO d6 (U 0) aF (λ Z Z=>rfl)) aq)))
  (aG (aZ (H3 (U 1) (U 3)))))))),?_]
 cases o with
 | iB =>
  obtain ⟨a,rfl,au⟩:=g;refine #[a,_,_,_,Y,Y,aL.of au,Y,Y,_,Y,?_];rw [bP rfl];exact b6 (q H (ax.refl _))
 | rests n c =>
  obtain ⟨a,d,rfl,au,hd⟩:=g;obtain ⟨f,e,j⟩:=k;refine #[a,_,_,_,Y,Y,aL.of au,Y,Y,_,Y,?_];rw [hZ (show ("rests" : Str) ≠ "open" by decide)];refine bD #[a,_,_,_,Y,Y,aL.of au,Y,n,Y,.ak,f,λ H1 s1=>?_];refine #[a,_,_,_,Y,Y,aL.of (s1 _ _ au),Y,Y,_,Y,?_];rw [bP rfl];refine b6 #[a,_,_,_,Y,Y,aL.of (s1 _ _ au),Y,d,c,Y,s1 _ _ hd,e,j,λ ao s2=>?_];have m:(bE n).length<=61:=hV .ak .ak;have p:=rb e j;refine #[_,#[.inl Y,.ak],_,#[.inl Y,.ak],q ao (s1.trans s2)]
 | round b l =>
  obtain ⟨a,rfl,au⟩:=g;obtain ⟨f,e⟩:=k;refine #[a,_,_,_,Y,Y,aL.of au,Y,Y,_,Y,?_];rw [hZ (show ("round" : Str) ≠ "open" by decide)];refine bD #[a,_,_,_,Y,Y,aL.of au,Y,b,Y,.ak,f,λ H1 s1=>?_];refine #[a,_,_,_,Y,Y,aL.of (s1 _ _ au),Y,Y,_,Y,?_];rw [hZ (show ("round" : Str) ≠ "rests" by decide)];refine bD #[a,_,_,_,Y,Y,aL.of (s1 _ _ au),Y,l,Y,.ak,e,λ ao s2=>?_];have m:(bE b).length<=61:=hV .ak .ak;have p:(bE l).length<=61:=hV .ak .ak;exact #[_,#[.inl Y,.ak],_,#[.inl Y,.ak],q ao (s1.trans s2)]
inductive L1:bz
 |mk {vs H Q E} (l b:Addr) (ys:bj) (rows:ed) (ag:bp):vs=[.ref l,.ref b]->H l=some (.lst ys)->cO H ys rows->oK rows->H b=some (tupI ag)->ag.length=10->rows.length<=1000->(∀ aH H' zs,H aH=.n->ax H H'->H' aH=some (.lst zs)->cO H' zs (i5 rows ag)->Q (.ref aH) H')->L1 vs H Q E
theorem ZY (af:M∈p) (ai:∀ a∈p,M<=a):nn p=decide (0<=M):=by
 by_cases h:0<=M
 ·rw [bP h,g0];intro x b;have:=ai x b;omega
 ·rw [cK h,mR];intro z;exact h (g0.mp z M af)
theorem aax (T:aY K mg):b4 P w mg base bY 3 T.KD L1:=by
 refine T.KD.fn.cp ub .bU λ a0 A outer s H vs Q E N h=>?_
 obtain ⟨l,b,ys,rows,ag,rfl,D,G,cC,ae,Z,hlen,q⟩:=h;refine #[_,(aD (ba 2 ub (cW aq))
  (aD (eI dW Y (w3 Y Y T.xE (aa (U 0) aq)) (hs Y (cv (cH 3 ub) (cv (cH 4 ub) eh)))
   (aD (ba 5 ub (a4 (Cf T) N aV (aa (U 1) (aa (U 4) (aa (jF jL aF) aq)))))
  (aG (bM (dx.pt (nU (bq qP (bR (JQ Y) T.pe pa (aa (U 5) aq)) aF (bh _)) (n7 (bq cY (a4 (C3 T) N aV (aa (U 0) (aa (U 5) aq))) (U 3) (bh _)))))
   (aG (eY (eN hu kB kC lN (U 2) (aa (U 5) aq))))
   bJ))))
  (aG (aZ (U 2))))),?_]
 refine #[bI,λ f H1 f1 s1 X=>?_];refine #[l,ys,Y,s1 _ _ D,?_];refine xc (λ i σ ao=>(∃ u v x,σ=[some (.ref l),some (.ref b),some (.ref f),u,v,x])/\ax H ao/\∃ zs,ao f=some (.lst zs)/\cO ao zs ((List.range i).filterMap (fw rows ag)))
  #[#[.n,.n,.n,Y],s1,[],X,cO.nil] (λ i σ ao _ ⟨_,s2,_⟩=>s2 _ _ D) ?_ ?_
 ·rintro i x p σ ao dq ar ⟨⟨u,v,l3,rfl⟩,s2,zs,m,n⟩;obtain ⟨c,a,C,rfl,au⟩:=G.at dq;have R:=cC c (cg C);have sp:=ax.new (o:=.tup [.int i,.ref a]) ar;have s3:=s2.trans sp;refine #[p,_,Y,aL.of bc,Y,_,_,Y,_,_,Y,Y,?_];refine #[_,Y,b,a,ag,c,-1,Y,s3 _ _ ae,s3 _ _ au,#[.aw,.aw],.ak,λ w t s4 hw=>?_];have O:(bK ag c (-1)).length=10:=t8 Z R;have J:(List.range (i+1)).filterMap (fw rows ag)=(List.range i).filterMap (fw rows ag)++(fw rows ag i).toList:=by
   rw [List.range_succ,List.filterMap_append];cases e:fw rows ag i<;>simp [e]
  have y:fw rows ag i=if nn (bK ag c (-1))=.t/\b_ rows (bK ag c (-1))=some i then some (bK ag c (-1)) else .n:=by
   unfold fw;rw [ra C]
  have s5:=s3.trans s4;have hh:zs.length<=i:=by
   rw [n.1];exact dT (By _ _) (by rw [i9];exact bL _)
  have av:=(dK.mp C).1;have skip:fw rows ag i=.n->∀ j,ax t j->(∃ u v x,[some (V.ref l),some (.ref b),some (.ref f),some (.int i),some (.ref a),some (.ref w)]=[some (.ref l),some (.ref b),some (.ref f),u,v,x])/\ax H j/\∃ zs,j f=some (.lst zs)/\cO j zs ((List.range (i+1)).filterMap (fw rows ag)):=by
   intro e j g;refine #[#[_,_,_,Y],s5.trans g,zs,g _ _ (s4 _ _ (sp _ _ m)),?_];rw [J,e];show cO j zs (_++[]);rw [nQ];exact ((n.same sp).same s4).same g
  refine #[w,bK ag c (-1),Y,aL.of hw,(by intro z;rw [z] at O;cases O),λ M jk j7=>#[_,_,Y,Y,_,Y,?_]];have S:=ZY jk j7;rw [<-S];cases L:nn (bK ag c (-1)) with
  | false =>
   refine bD ?_;exact skip (by rw [y,L,if_neg (by rintro ⟨z,_⟩;cases z)]) t (ax.refl t)
  | true =>
   refine b6 #[l,w,ys,rows,bK ag c (-1),Y,s5 _ _ D,G.same s5,hw,λ j g=>#[?_,_,Y,?_]]
   ·cases b_ rows (bK ag c (-1))<;>rfl
   ·by_cases r:b_ rows (bK ag c (-1))=some i
    ·rw [r];rw [show decide (gT (some i)=V.int i)=.t from bP rfl];refine b6 #[.inl #[Y,_,aK.of (g _ _ (s4 _ _ (sp _ _ m)))],f,zs,.ref w,Y,Y,g _ _ (s4 _ _ (sp _ _ m)),by rw [b8];omega,λ hy I aU=>?_];refine #[#[_,_,_,Y],?_,_,aU,?_]
     ·intro d o B;exact I d o (λ z=>by rw [z,f1] at B;cases B) (g _ _ (s5 _ _ B))
     ·rw [J,y,L,if_pos #[Y,r]];have zS:=((n.same sp).same s4).same g;exact cO.but (zS.app (cO.one #[w,Y,g _ _ hw])) (g _ _ (s4 _ _ (sp _ _ m))) I
    ·rw [show decide (gT (b_ rows (bK ag c (-1)))=V.int i)=.f from cK λ z=>r ?_]
     ·exact bD (skip (by rw [y,if_neg (by rintro ⟨_,z⟩;exact r z)]) j g)
     ·cases e:b_ rows (bK ag c (-1)) with
      | none=>rw [e] at z;cases z
      | some k =>
       rw [e] at z;have ib:k=(i:Int):=by injection z
       rw [show k=i by omega]
 ·rintro σ ao ⟨⟨u,v,l3,rfl⟩,s2,zs,m,n⟩;rw [G.1] at n;exact (q f ao zs f1 s2 m n)
inductive Kq:bz
 |mk {vs H Q E} (b a:Addr) (xs:bj) (aj:cX) (ag:bp):vs=[.ref b,.ref a]->H b=some (.tup xs)->d0 H xs aj->xs.length<=16->H a=some (tupI ag)->ag.length=10->(∀ aH H' zs,H aH=.n->ax H H'->H' aH=some (.lst zs)->cO H' zs (iU (i5 (rowsOf aj) ag))->Q (.ref aH) H')->Kq vs H Q E
theorem Y3 (T:aY K mg):b4 P w mg base bY 5 T.Iv Kq:=by
 refine T.Iv.fn.cp Zg .bU λ a0 A outer s H vs Q E f h=>?_
 obtain ⟨b,a,xs,aj,ag,rfl,ae,hf,k,au,e,q⟩:=h;refine #[_,(aG (aZ (bR Mf T.rm rk (aa (a4 (aax T) f aV (aa (a4 (Di T) f aV (aa (U 0) aq)) (aa (U 1) aq))) aq)))),?_];refine #[b,xs,aj,Y,ae,hf,.ak,λ l H1 ys fl s1 m o=>?_];refine #[l,a,ys,rowsOf aj,ag,Y,m,o,iH aj,s1 _ _ au,e,by rw [kG,<-hf.1];omega,λ aH ao zs t s2 n d=>?_];have u:zs.length<=16:=by
  rw [d.1];exact dT (xo _ _) (by rw [kG,<-hf.1];exact k)
 refine #[aH,zs,_,Y,n,d,λ c j z=>?_,.ak,λ r g i s3 p=>?_]
 ·have:=(JI (iH aj) e j).2.1;rw [z] at this;cases this
 ·exact q r g _ (s1.free (s2.free i)) ((s1.trans s2).trans s3) p (d.same s3).Ff
end
theorem hk {B:Prop} (h:x≠y) (k:B):if decide (V.str x=V.str y)=.t then A else B:=by
 rw [hZ h];exact bD k
theorem iY {B:Prop} (k:A):if decide (V.str x=V.str x)=.t then A else B:=by
 rw [bP rfl];exact b6 k
section
variable {P:Program} {w:World} {K:aT} {mg:Str->cE} {base:Heap}
inductive xx (T:aY K mg):bz
 |mk {vs H Q E} (bn l aE:Addr) (word:Str) (zs:bj) (fl:List (Str×V)):vs=[.ref bn,.str word,.ref l]->H l=some (.lst zs)->H bn=some (.ins T.fk aE fl)->fl.lookup ("put" : Str)=.n->fl.lookup ("drop" : Str)=.n->fl.lookup ("undo" : Str)=.n->((word = "put" /\ ∃ x p,zs=[x,p]/\tV T [.ref bn,x,p] H (λ _ H'=>Q .aX H') E)\/(word = "drop" /\ ∃ x,zs=[x]/\t4 T [.ref bn,x] H (λ _ H'=>Q .aX H') E)\/(word = "undo" /\ t5 T [.ref bn] H (λ _ H'=>Q .aX H') E))->xx T vs H Q E
theorem Z1 (T:aY K mg):b4 P w mg base (f6 P w) 4 T.Jy (xx T):=by
 refine T.Jy.fn.ke aab .bU λ a0 A outer s H vs Q E b h=>?_
 obtain ⟨bn,l,aE,word,zs,fl,rfl,a,ae,c,d,e,h⟩:=h;refine #[_,(aG (bM (bq cY (U 1) a9 (bh _))
   (aG (eY (hY (U 0) T.dX T.xA.at_ (aaS T) (b.mono .aw) T.xA.bd .nil jE (aa (bO cz (U 2) aF (λ Z Z=>rfl)) (aa (bO cz (U 2) aF (λ Z Z=>rfl)) aq)))))
   (aG (bM (bq cY (U 1) a9 (bh _))
   (aG (eY (hY (U 0) T.dX T.xH.at_ (abg T) (b.mono .aw) T.xH.bd .nil jE (aa (bO cz (U 2) aF (λ Z Z=>rfl)) aq))))
   (aG (eY (I9 (U 0) T.dX T.xK.at_ (abj T) (b.mono .aw) T.xK.bd .nil jE))))))),?_]
 refine #[Y,_,Y,?_];rcases h with ⟨rfl,x,p,rfl,h⟩|⟨rfl,x,rfl,h⟩|⟨rfl,h⟩
 ·exact iY #[bn,aE,fl,Y,ae,c,l,_,_,_,Y,Y,aK.of a,Y,l,_,_,_,Y,Y,aK.of a,Y,h]
 ·exact hk .aw #[Y,_,Y,iY #[bn,aE,fl,Y,ae,d,l,_,_,_,Y,Y,aK.of a,Y,h]]
 ·exact hk .aw #[Y,_,Y,hk .aw #[bn,aE,fl,Y,ae,e,h]]
structure sX (H:aC) (kvs:List (Key×V)) (x:Str) (w a:Addr) (n:Int) (ag:bp):Prop where
 aM:b7 kvs (cc x)=some (.ref w)
 hw:H w=some (.tup [.ref a,.int n])
 au:H a=some (tupI ag)
 cC:ag.length=10
 me:∀ e∈ag,0<=e/\e<=1000000000
 fM:0<=n
 lZ:n<=1000000000
theorem sX.same {w:Addr} (h:sX H kvs x w a n ag) (s:ax H H'):sX H' kvs x w a n ag:=#[h.aM,s _ _ h.hw,s _ _ h.au,h.cC,h.me,h.fM,h.lZ]
def Fw (H:aC) (aj:cX) (n:Int) (ag:bp) (Q:cj) (word:Str) (jq:bj):Prop :=
 (word = "gone" /\ jq=[]/\∀ H',ax H H'->Q (.str (bE n)) H')\/(word = "show" /\ jq=[]/\∀ H',ax H H'->Q (.str (du (bS ag))) H') \/
 (word = "fate" /\ ∃ m,jq=[.int m]/\0<=m/\m<=400/\∀ o H',ax H H'->nE (rowsOf aj) m.toNat ag o->y7 o->Q (.str (zq o)) H') \/
 (word = "ahead" /\ jq=[]/\∀ H',ax H H'->Q (.str (o4 ((iU (i5 (rowsOf aj) ag)).map λ q=>du (bS q)))) H')
inductive rt (T:aY K mg):bz
 |mk {vs H Q E} (bn l pr hd dl:Addr) (word:Str) (zs:bj) (kvs:List (Key×V)) (ds:bj):vs=[.ref bn,.str word,.ref l]->H l=some (.lst zs)->eb T H bn pr hd dl kvs ds->((qv (.str word) [V.str "put", V.str "drop", V.str "undo"]=.t/\∀ H1,ax H H1->xx T [.ref bn,.str word,.ref l] H1 (λ _ H'=>Q (.str "ok") H') E) \/ (word = "names" /\ ∃ ns,kvs.map (·.1)=ns.map cc/\ns.length<64/\(∀ x∈ns,x.length<=8)/\∀ ms,ms.Perm ns->PyProof.Rows.sortedS ms=.t->∀ H',ax H H'->Q (.str (o4 ms)) H') \/ (word = "run" /\ ∃ (x:Str) (m:Int),zs=[.str x,.int m]/\∀ H1,ax H H1->rp T [.ref bn,.str x,.int m] H1 (λ v H'=>∃ k:Nat,v=.int k/\k<=2000/\∀ kW,ax H' kW->Q (.str (bE k)) kW) E) \/ (∃ (x:Str) (jq:bj),zs=.str x::jq/\(word = "gone" \/ word = "show" \/ word = "fate" \/ word = "ahead") /\ ((b7 kvs (cc x)=.n/\∀ H1,ax H H1->E (.ref T.dD) .n H1)\/∃ (w a:Addr) (n:Int) (ag:bp) (xs:bj) (aj:cX),sX H kvs x w a n ag/\H pr=some (.tup xs)/\d0 H xs aj/\xs.length<=16/\Fw H aj n ag Q word jq)))->rt T vs H Q E
theorem ID {T:aY K mg} (h:rp T vs H Q E) (k:∀ v H',Q v H'->b v H'):rp T vs H b E:=by
 obtain ⟨bn,pr,hd,dl,kvs,ds,v,m,e,B,I,J,L,M,N,O,q⟩:=h;refine #[bn,pr,hd,dl,kvs,ds,v,m,e,B,I,J,L,M,N,O,λ x u l o=>?_];obtain ⟨w,a,xs,aj,ag,n,p,s,y,z,A,C,D,G,q⟩:=q x u l o;exact #[w,a,xs,aj,ag,n,p,s,y,z,A,C,D,G,λ dN r aH cm t H' a1 a2 c d f g i j=>k _ _ (q dN r aH cm t H' a1 a2 c d f g i j)]
theorem Y2 (T:aY K mg):b4 P w mg base (f6 P w) 9 T.Iu (rt T):=by
 refine T.Iu.fn.ke xl .bU λ a0 A outer s H vs Q E d h=>?_
 obtain ⟨bn,l,pr,hd,dl,word,zs,kvs,ds,rfl,eO,B,h⟩:=h;refine #[_,(aD (bM (bq Kb (U 1) (fx (aa a9 (aa a9 (aa a9 aq)))) (by with_unfolding_all rfl))
   (aD (eY (a4 (Z1 T) d jE (aa (U 0) (aa (U 1) (aa (U 2) aq)))))
  (aG (aZ a9)))
   bJ)
  (aD (bM (bq cY (U 1) a9 (bh _))
   (aG (aZ (a4 (Ka T) d aV (aa (I9 (U 0) T.dX T.xN.at_ (abF T) (d.mono .aw) T.xN.bd .nil aV) aq))))
   bJ)
  (aD (ba 3 xl (bO cz (U 2) aF (λ _ _=>rfl)))
  (aD (bM (bq cY (U 1) a9 (bh _))
   (aG (aZ (a4 (uq T) d aV (aa (hY (U 0) T.dX T.xB.at_ (aaT T) (d.mono .aw) T.xB.bd .nil jE (aa (U 3) (aa (bO cz (U 2) aF (λ _ _=>rfl)) aq))) aq))))
   bJ)
  (aD (bM (bq cY (U 1) a9 (bh _))
   (aG (aZ (a4 (uq T) d aV (aa (hY (U 0) T.dX T.xI.at_ (abh T) (d.mono .aw) T.xI.bd .nil jE (aa (U 3) aq)) aq))))
   bJ)
  (aD (ba 4 xl (hY (U 0) T.dX T.xQ.at_ (abX T) (d.mono .aw) T.xQ.bd .nil jE (aa (U 3) aq)))
  (aD (bM (bq cY (U 1) a9 (bh _))
   (aG (aZ (a4 (xX T) d aV (aa (U 4) aq))))
   bJ)
  (aD (bM (bq cY (U 1) a9 (bh _))
   (aG (aZ (a4 (abY T) d aV (aa (a4 (VK T) d aV (aa (hr (U 0) (by rfl)) (aa (U 4) (aa (bO cz (U 2) aF (λ _ _=>rfl)) aq)))) aq))))
   bJ)
  (aG (aZ (a4 (Ka T) d aV (aa (eA (dp xl (N:=["found"]) (js:=[.n]) (dV _)) Y (mZ (a4 (Y3 T) d aV (aa (hr (U 0) (by rfl)) (aa (U 4) aq)))) (λ _ _ _ _=>d1) (λ _ _ _ _=>ei)
    (λ _ _ _ _=>(a4 (xX T) d aV (aa (U 0) aq)))) aq)))))))))))),?_]
 obtain ⟨aE,ae⟩:=B.at_;refine #[bI,λ t H1 f1 s1 af=>#[t,_,Y,.inr (aL.of af),Y,Y,_,Y,?_]];have aU:=s1 _ _ eO;have J:=B.same s1;have g:=s1 _ _ ae;show (if qv (.str word) [V.str "put", V.str "drop", V.str "undo"]=.t then _ else _);rcases h with ⟨f9,h⟩|h
 ·rw [f9];exact b6 (h H1 s1)
 ·have f9:qv (.str word) [V.str "put", V.str "drop", V.str "undo"]=.f:=by
   rcases h with ⟨rfl,_⟩|⟨rfl,_⟩|⟨_,_,_,rfl|rfl|rfl|rfl,_⟩<;>decide +kernel
  rw [f9];refine bD #[Y,_,Y,?_];rcases h with ⟨rfl,ns,ay,u0,dq,q⟩|h
  ·refine iY #[bn,aE,_,Y,g,Y,bn,pr,hd,dl,kvs,ds,ns,Y,J,ay,u0,λ ms pm DU ox ao f2 s2 ai=>?_];refine #[ox,ms,Y,ai,?_,q ms pm DU ao (s1.trans s2)];have:=n8 ms (B:=8) λ y r=>dq y (pm.mem_iff.mp r)
   have:=pm.length_eq;omega
  obtain ⟨x,jq,rfl,k6⟩:∃ x jq,zs=.str x::jq/\word ≠ "names" := by
   rcases h with ⟨rfl,x,m,rfl,_⟩|⟨x,jq,rfl,rfl|rfl|rfl|rfl,_⟩<;>exact #[_,_,Y,.aw]
  refine hk k6 #[l,_,_,_,Y,Y,aK.of aU,fF .aw Y,Y,_,Y,?_];rcases h with ⟨rfl,x,m,e,h⟩|⟨x,jq,e,hw,h⟩
  ·cases e;refine iY #[bn,aE,_,Y,g,Y,l,_,_,_,Y,Y,aK.of aU,Y,?_];dsimp only [lj];refine ID (h H1 s1) ?_;rintro v H' ⟨k,rfl,ay,q⟩;exact #[_,Y,.ak,.ak,q]
  ·cases e;have O5:word ≠ "run" := by rcases hw with rfl|rfl|rfl|rfl<;>decide
   refine hk O5 #[Y,_,Y,?_];by_cases j:word = "gone"
   ·subst j;refine iY #[bn,aE,_,Y,g,Y,bn,pr,hd,dl,kvs,ds,.str x,Y,J,trivial,λ aM=>?_,λ u f=>?_]
    ·rcases h with ⟨_,q⟩|⟨cm,a,n,ag,xs,aj,ar,_⟩
     ·exact q H1 s1
     ·rw [show hj kvs (.str x)=b7 kvs (cc x) from rfl,ar.aM] at aM;cases aM
    ·rcases h with ⟨aM,_⟩|⟨cm,a,n,ag,xs,aj,ar,_,_,_,⟨_,_,q⟩|⟨z,_⟩|⟨z,_⟩|⟨z,_⟩⟩
     ·rw [show hj kvs (.str x)=b7 kvs (cc x) from rfl,aM] at f;cases f
     ·rw [show hj kvs (.str x)=b7 kvs (cc x) from rfl,ar.aM] at f;cases f;exact #[cm,_,_,Y,s1 _ _ ar.hw,n,Y,ar.fM,by have:=ar.lZ;omega,λ ao s2=>q ao (s1.trans s2)]
     all_goals exact absurd z .aw
   ·refine hk j #[bn,aE,_,Y,g,Y,bn,pr,hd,dl,kvs,ds,.str x,Y,J,trivial,λ aM=>?_,λ u f=>?_]
    ·rcases h with ⟨_,q⟩|⟨cm,a,n,ag,xs,aj,ar,_⟩
     ·exact q H1 s1
     ·rw [show hj kvs (.str x)=b7 kvs (cc x) from rfl,ar.aM] at aM;cases aM
    rcases h with ⟨aM,_⟩|⟨cm,a,n,ag,xs,aj,ar,jv,hf,SW,h⟩
    ·rw [show hj kvs (.str x)=b7 kvs (cc x) from rfl,aM] at f;cases f
    rw [show hj kvs (.str x)=b7 kvs (cc x) from rfl,ar.aM] at f;cases f;have S:=s1 _ _ ar.au;have SR:∀ e∈ag,0<=e/\e<10 ^ 60:=λ e he=>#[(ar.me e he).1,by have:=(ar.me e he).2;omega]
    have FI:=g0.mpr λ e he=>(ar.me e he).1
    have cC:=ar.cC;refine #[cm,_,_,Y,s1 _ _ ar.hw,Y,_,Y,?_];rcases h with ⟨z,_⟩|⟨rfl,rfl,q⟩|h
    ·exact absurd z j
    ·exact iY #[a,ag,Y,S,cC,SR,λ ao s2=>q ao (s1.trans s2)]
    have ns:word ≠ "show" := by rcases h with ⟨rfl,_⟩|⟨rfl,_⟩<;>decide
    refine hk ns #[Y,_,Y,?_];rcases h with ⟨rfl,m,rfl,m0,qg,q⟩|⟨rfl,rfl,q⟩
    ·refine iY #[bn,_,aE,_,_,Y,g,T.dX,T.xT,Y,l,_,_,_,Y,Y,aK.of aU,Y,pr,a,xs,aj,ag,m,Y,s1 _ _ jv,hf.same s1,.ak,S,cC,FI,m0,.ak,λ v ao o s2 M yw=>?_];have X:y7 o:=by
      cases o with
      | iB=>trivial
      | rests k c =>
       obtain ⟨k1,k2,_⟩:=M;have j:=lA (iH aj) cC FI k2;have p:=v_ (pT hf) (λ e he=>(ar.me e he).2) k2;exact #[.ak,j.1,λ e he=>#[g0.mp j.2 e he,by have:=p e he;omega]]
      | round b OY =>
       obtain ⟨k1,k2,_⟩:=M;exact #[.ak,.ak]
     exact #[v,o,Y,yw,X,λ C s3=>q o C ((s1.trans s2).trans s3) M X]
    ·refine hk .aw #[bn,_,aE,_,_,Y,g,T.dX,T.xT,Y,pr,a,xs,aj,ag,Y,s1 _ _ jv,hf.same s1,SW,S,cC,λ aH ao rs f2 s2 ai O=>?_];have vb:(iU (i5 (rowsOf aj) ag)).length<=16:=by
      rw [(xm _).length_eq];have:=xo (rowsOf aj) ag;rw [kG,<-hf.1] at this;omega
     have p:∀ q∈iU (i5 (rowsOf aj) ag),q.length=10/\∀ e∈q,0<=e/\e<10 ^ 60:=λ q G=>by
      have:=JH (pT hf) (iH aj) cC (λ e he=>(ar.me e he).2) ((xm _).mem_iff.mp G);exact #[this.1,λ e he=>#[(this.2 e he).1,by have:=(this.2 e he).2;omega]]
     generalize iU (i5 (rowsOf aj) ag)=L at *;refine #[aH,Y,#[_,aK.of ai],λ D jj=>xq (K:=K) (by rw [b8,O.1];omega) #[_,Y] jj ai (λ i H' zs=>zs=((L.take i).map λ q=>du (bS q)).map V.str) Y (λ i H' C zs ys _ e _=>e) (λ i y H' zs R s' r ip hh I gM=>?_) λ C zs s3 zw hh I=>?_]
     ·obtain ⟨c,dE,z,rfl,hD⟩:=O.2 i y r;have Z:=p c (cg dE);refine #[z,c,Y,s' _ _ hD,Z.1,Z.2,λ iI s4=>gM _ iI s4 ?_];subst I;rw [p7 dE,ht];rfl
     ·rw [O.1,ky] at I;subst I;refine #[D,L.map λ q=>du (bS q),Y,zw,?_,q C ((s1.trans s2).trans s3)];have SU:=n8 (L.map λ q=>du (bS q)) (B:=700) λ y r=>by
       obtain ⟨q,G,rfl⟩:=c0.mp r;exact rb (p q G).1 (p q G).2
      rw [bb] at SU ⊢;have:=wO 700 vb;omega
end
theorem Yu (a:X.K=K):dG X (.builtin "isinstance") (AG K):=by
 subst a;exact iG
theorem hI.Sr (h:hI H xs aj) (hf:∀ f∈aj,ey f.1 f.2=.t):d0 H xs aj:=#[h.1,λ k x e=>by
 obtain ⟨c,i,j,b,d,a⟩:=h.2 k x e;exact #[i,j,c,a,b,d,hf (i,j) (cg a)]]
theorem Vo (h:d0 H xs aj):∀ x∈xs,i4 H x:=λ x b=>by
 obtain ⟨k,ay⟩:=g6 b;obtain ⟨i,j,c,_,e,a,f⟩:=h.2 k x ay;exact #[c,i,j,e,a,f]
theorem Sm:iw (x::xs) (some 1) .n=xs:=by
 unfold iw;rw [wh .aw,fW,show min (1:Int).toNat (xs.length+1)=1 by omega];exact hU (bL _)
section
variable {P:Program} {w:World} {K:aT} {mg:Str->cE} {base:Heap}
def Yc (T:aY K mg):bz:=λ vs H Q Z=>∃ bT aE,vs=[.ref bT]/\H bT=some (.ins T.d5 aE [])/\Q .aX (upd H bT (.ins T.d5 aE [("bench", .aX)]))
theorem Mm (T:aY K mg):b4 P w mg base bY 1 T.rC (Yc T):=by
 refine T.rC.fn.cp aaY .bU λ a0 A outer s H vs Q E a h=>?_
 obtain ⟨bT,aE,rfl,ay,q⟩:=h;refine #[_,(aG (tq (U 0) e_ Y)),?_];exact #[bT,_,aE,_,Y,ay,T.qU,T.uc,.aw,q]
inductive qX (T:aY K mg):bz
 |mk {vs H Q E} (bT aE:Addr) (bv:V) (ws:b2):vs=[.ref bT,.str (Str.join (bB 32) ws)]->qq ws->H bT=some (.ins T.d5 aE [("bench", bv)])->((∃ aj,ws=("program" : Str)::eu aj/\1<=aj.length/\aj.length<=16/\(∀ f∈aj,ey f.1 f.2=.t)/\∀ pr bn hd dl xs H',br bT H H'->H' bT=some (.ins T.d5 aE [("bench", .ref bn)])->eb T H' bn pr hd dl [] []->H hd=.n->H dl=.n->H bn=.n->H' pr=some (.tup xs)->d0 H' xs aj->xs.length<=16->Q (.str "ok") H') \/ (∃ (w0:Str) (iq:b2) (ds:List fo),ws=w0::ds.map fo.word/\w0 ≠ "program" /\ PyProof.Rows.KTD.datumAt w0 AQ=some iq/\iq.length=ds.length/\ds.length<=2/\(∀ (i:Nat) dr d,iq[i]?=some dr->ds[i]?=some d->d.fits dr) /\ ((bv=.aX/\∀ H',ax H H'->E (.ref T.eB) .n H')\/∃ bn,bv=.ref bn/\∀ l zs H',ax H H'->H' l=some (.lst zs)->sd H' zs ds->rt T [.ref bn,.str w0,.ref l] H' Q E)))->qX T vs H Q E
theorem aaw (T:aY K mg):b4 P w mg base (f6 P w) 10 T.xn (qX T):=by
 refine T.xn.fn.ke C5 .bU λ a0 A outer s H vs Q E g h=>?_
 obtain ⟨bT,aE,bv,ws,rfl,hw,ay,h⟩:=h;refine #[_,(aD (ba 2 C5 (a4 (aaB T) g aV (aa (U 1) aq)))
  (aD (bM (bq cY (bO cz (U 2) aF (λ _ _=>rfl)) a9 (bh _))
   (aD (tq (U 0) (Wk T.xJ.at_ (abi T) (g.mono .aw) Y T.Vs T.xJ.bd .nil aV (aa (a4 (ab2 T) g aV (aa (xe B0 (U 2) (w5 aF) w4) aq)) aq)) Y)
  (aG (aZ a9)))
   bJ)
  (aD (ba 3 C5 (a4 (abn T) g aV (aa (U 2) aq)))
  (aD (bM (bq mO (hr (U 0) (by rfl)) e_ (bh _))
   (aG (tU pF Y Y T.aak (by rfl) (aa a9 aq)))
   bJ)
  (aG (aZ (a4 (Y2 T) g jE (aa (hr (U 0) (by rfl)) (aa (bO cz (U 2) aF (λ _ _=>rfl)) (aa (U 3) aq)))))))))),?_]
 refine #[ws,Y,hw,λ l H1 f1 s1 af=>?_];have aU:=s1 _ _ ay;rcases h with ⟨aj,rfl,I,B,J,q⟩|⟨w0,iq,ds,rfl,Z,hd,hlen,ai,S,q⟩
 ·refine #[l,_,_,_,Y,Y,aK.of af,fF .aw Y,Y,_,Y,?_];rw [bP rfl];refine b6 #[1,Y,l,_,Y,aK.of af,λ m X=>?_];have s2:ax H1 (upd H1 m (.lst (iw ((("program" : Str)::eu aj).map V.str) (some 1) .n))):=ax.new X;have G:(upd H1 m (.lst (iw ((("program" : Str)::eu aj).map V.str) (some 1) .n))) m=some (.lst ((eu aj).map V.str)):=by rw [bc,fv,Sm]
  generalize upd H1 m (.lst (iw ((("program" : Str)::eu aj).map V.str) (some 1) .n))=ao at s2 G;refine #[m,aj,Y,G,I,B,J,λ pr xs p s3 jv R=>?_];have f:=R.Sr J;have b:=(s1.trans s2).trans s3;refine λ bn u d fd cD=>?_
  have a:ax p (upd (upd p u (.own bn)) bn (.ins T.fk u [])):=λ M o e=>by
   rw [a3 (b0 e d),a3 (b0 e fd)];exact e
  refine #[bn,u,pr,xs,Y,bc,a _ _ jv,by rw [f.1];exact I,by rw [f.1];exact B,Vo (f.same a),λ hd dl r L y v n=>#[Y,?_]];have t:ax p r:=λ M o e=>L _ _ (b0 e d) (a _ _ e)
  have D:=b.trans t;refine #[bT,_,aE,_,Y,D _ _ ay,T.qU,T.uc,(by show 1<1000;decide),?_];obtain ⟨N,ae⟩:=n.at_;have ne1:bn≠bT:=λ z=>by rw [z] at d;rw [b _ _ ay] at d;cases d
  have ne2:hd≠bT:=λ z=>by rw [z,a _ _ (b _ _ ay)] at y;cases y
  have ne3:dl≠bT:=λ z=>by rw [z,a _ _ (b _ _ ay)] at v;cases v
  have kt:∀ c ys,r c=some (.tup ys)->(upd r bT (.ins T.d5 aE (gU "bench" (.ref bn) [("bench", bv)]))) c=some (.tup ys):=λ c ys h=>by
   rw [a3 (cq h (D _ _ ay) nofun)];exact h
  refine q pr bn hd dl xs _ (λ c o yI e=>?_) bc #[#[N,?_],?_,?_] (b.free (a.free y)) (b.free (a.free v)) (b.free d) (kt _ _ (t _ _ jv)) #[f.1,λ k x dq=>?_] (by rw [f.1];exact B)
  ·rw [a3 yI];exact D _ _ e
  ·rw [a3 ne1];exact ae
  ·rw [a3 ne2];exact n.hd
  ·rw [a3 ne3];exact n.dl
  ·obtain ⟨i,j,c,l4,j_,uO,r4⟩:=f.2 k x dq;exact #[i,j,c,l4,j_,kt _ _ (t _ _ uO),r4]
 ·refine #[l,_,_,_,Y,Y,aK.of af,fF .aw Y,Y,_,Y,?_];rw [hZ Z];refine bD #[l,w0,iq,ds,Y,af,hd,hlen,ai,S,λ aH zs ao f2 s2 O e2=>?_];have C:=s2 _ _ aU;rcases q with ⟨rfl,q⟩|⟨bn,rfl,q⟩
  ·exact #[bT,_,aE,_,_,Y,C,T.qU,T.uc,Y,Y,_,Y,b6 #[bI,q ao (s1.trans s2)]]
  ·exact #[bT,_,aE,_,_,Y,C,T.qU,T.uc,Y,Y,_,Y,bD #[bT,_,aE,_,_,Y,C,T.qU,T.uc,Y,l,_,_,_,Y,Y,aK.of (s2 _ _ af),fF .aw Y,q aH zs ao (s1.trans s2) O e2]]
def gY (T:aY K mg) (Q:cj):dZ:=λ a d H1=>d=.n/\∃ (C:Addr) (i:Nat) (x:Str),a=.ref C/\tf T C i/\i<12/\i≠0/\CE[i]?=some x/\Under K C T.lP/\∀ H',ax H1 H'->Q (.str x) H'
theorem gY.name (T:aY K mg) (q:∀ H',ax H1 H'->Q (.str "name") H'):gY T Q (.ref T.dD) .n H1:=#[Y,T.dD,2, "name", Y,YR T,.aw,.aw,Y,T.WW,q]
theorem gY.vC (T:aY K mg) (q:∀ H',ax H1 H'->Q (.str "deed") H'):gY T Q (.ref T.ej) .n H1:=#[Y,T.ej,1, "deed", Y,YQ T,.aw,.aw,Y,T.WV,q]
theorem gY.program (T:aY K mg) (q:∀ H',ax H1 H'->Q (.str "program") H'):gY T Q (.ref T.eB) .n H1:=#[Y,T.eB,6, "program", Y,aaP T,.aw,.aw,Y,T.aal,q]
inductive oh (T:aY K mg):bz
 |mk {vs H Q E} (bT aE:Addr) (fl:List (Str×V)) (bC:V):vs=[.ref bT,bC]->H bT=some (.ins T.d5 aE fl)->fl.lookup ("say" : Str)=.n->qX T [.ref bT,bC] H (λ v H'=>1<=sizeLine/\e7 (.lst [v]) H' Q) (gY T Q)->oh T vs H Q E
theorem lS (T:aY K mg):b4 P w mg base bY 12 T.MQ (oh T):=by
 refine T.MQ.fn.cp ND .bU λ a0 A outer s H vs Q E b h=>?_
 obtain ⟨bT,aE,fl,bC,rfl,ay,f,h⟩:=h;refine #[_,(aG (UX (E:=(gY T Q)) (i:=2) Y Y Y T.aaI (by rfl) ND.cD Y Y (λ Z Z j=>(aG (aZ (cW (aa (hY (rZ 0) T.qU T.xn.at_ (aaw T) (b.mono .aw) T.xn.bd .nil (GA Y j) (aa (rZ 1) aq)) aq)))))
   (λ Z=>(aD (bM (d_ (bR (Yu Y) T.el ek (aa (rZ 2) (aa (fZ (v:=.ref T.dY) (by rfl) T.IT Y) aq))))
   (aG (aZ a9))
   bJ)
  (aG (aZ (X7 (abf T) ((b.mark _).mono .aw) Y T.rD.at_ T.rD.fn.aW T.rD.bd (aa (rZ 2) aq)))))))),?_]
 refine #[#[_,Y,bT,aE,fl,Y,ay,f,_,Y,h],?_]
 ·rintro C d H1 ⟨rfl,k,i,x,c,a,av,h0,g,un,q⟩;cases c;have k0:=a.k0;rw [show (i==0)=.f by simp [h0]] at k0;exact #[un,λ e σ1 he hσ=>#[_,pw hσ,e,C,_,_,_,Y,bc,Y,a.e4,k0,_,Y,bD #[_,pw hσ,e,C,i,x,Y,bc,a,av,g,λ H' s'=>q H' ((ax.new he).trans s')]]]
noncomputable def vR (H:aC) (a:Addr):Nat:=match H a with
 | some (.lst xs)=>xs.length
 | _=>0
inductive N9:bz
 |mk {vs H Q E} (l b:Addr) (bH:bj) (aj:cX) (ag:bp) (m:Int):vs=[.ref l,.ref b,.int m]->H l=some (.lst bH)->eM H bH aj->H b=some (tupI ag)->ag.length=10->nn ag=.t->0<=m->m<=5000->(∀ aH r u H' rs rws,H aH=.n->H r=.n->H u=.n->ax H H'->H' aH=some (.lst [.ref r,.ref u])->H' r=some (.lst rs)->cO H' rs rws->AP (rowsOf aj) m.toNat ag rws->H' u=some (.lst ((eG (ft (rowsOf aj) m.toNat ag)).map V.int))->Q (.ref aH) H')->N9 vs H Q E
theorem N7 (T:aY K mg):b4 P w mg base bY 5 T.NR N9:=by
 refine T.NR.fn.cp ur .bU λ a0 A outer s H vs Q E e1 h=>?_
 obtain ⟨l,b,bH,aj,ag,m,rfl,X,bA,ae,hP,Z,m0,qg,q⟩:=h;refine #[_,(aD (ba 3 ur (cW (aa (U 1) aq)))
  (aD (ba 4 ur (cW aq))
  (aD (ba 5 ur (a4 (xO T) e1 aV (aa (U 0) (aa (U 1) aq))))
  (aD (pY dW (dx.pt (nU (bq iZ (bR fb T.dz dy (aa (U 4) aq)) (U 2) (bh _)) (n7 (bq BU (U 5) e_ (bh _)))))
   (aD (eY (eN hu kB kC lN (U 4) (aa (U 5) aq)))
  (aD (eY (eN hu kB kC lN (U 3) (aa (a4 (I2 T) e1 aV (aa (U 0) (aa (bO cz (U 3) (jF jL aF) (λ _ _=>rfl)) (aa (U 5) (aa aF aq))))) aq)))
  (aG (ba 5 ur (a4 (xO T) e1 aV (aa (U 0) (aa (bO cz (U 3) (jF jL aF) (λ _ _=>rfl)) aq))))))))
  (aG (aZ (cW (aa (U 3) (aa (U 4) aq))))))))),?_]
 refine #[bI,λ r H1 f1 s1 oT=>?_];refine #[bI,λ u ao f2 s2 QQ=>?_];have E3:r≠u:=λ z=>by rw [z,f2] at oT;cases oT
 have I:=s1.trans s2;have S:=s1.free f2;have R:=iH aj;refine #[l,b,bH,aj,ag,Y,I _ _ X,bA.same I,I _ _ ae,hP,Z,λ j0 s3=>?_];refine p3 (λ σ f=>∃ (ws:eQ) (rs:bj) (rws:ed) (cur:bp),σ=[some (.ref l),some (.ref b),some (.int m),some (.ref r),some (.ref u),some (gT (b_ (rowsOf aj) cur))]/\ax H f/\f u=some (.lst ((eG ws).map V.int))/\f r=some (.lst rs)/\cO f rs rws/\rws.length=ws.length+1/\(∀ i,i<rws.length->rws[i]?=goN (rowsOf aj) i ag)/\goN (rowsOf aj) ws.length ag=some cur/\ws.length<=m.toNat/\ws++ft (rowsOf aj) (m.toNat-ws.length) cur=ft (rowsOf aj) m.toNat ag)
  (λ _ f=>m.toNat-vR f u) #[[],[.ref b],[ag],ag,Y,I.trans s3,s3 _ _ QQ,s3 _ _ (s2 _ _ oT),cO.one #[b,Y,s3 _ _ (I _ _ ae)],Y,(λ i av=>by
   have:i=0:=by simpa using av
   subst this;rfl),Y,fE _,Y] ?_
 rintro σ f ⟨ws,rs,rws,cur,rfl,s4,a,sx,C,n,M,L,adL,j⟩;have EA:(((eG ws).map V.int).length)=(ws.length):=by rw [bb,tS]
 have FF:=lA R hP Z L;have oP:rws[ws.length]?=some cur:=by rw [M _ .ak];exact L
 refine #[u,_,Y,.inl (aK.of a),_,_,Y,Y,_,Y,c3 (λ h=>?_) (λ h=>?_)]
 ·have h0:=cM h;rw [EA] at h0;obtain ⟨d,hd⟩:∃ d,m.toNat-ws.length=d+1:=#[m.toNat-ws.length-1,.ak]
  refine #[Y,_,Y,?_];cases D:b_ (rowsOf aj) cur with
  | none =>
   refine bD ?_;rw [Cr D,nQ] at j;refine #[bI,λ aH v O s5 B=>?_];rw [<-j] at q;refine q aH r u v rs rws (s4.free O) f1 S (s4.trans s5) B (s5 _ _ sx) (C.same s5) ?_ (s5 _ _ a);unfold AP;rw [<-j];exact #[n,M,.inr #[cur,L,D]]
  | some k =>
   obtain ⟨c,aU,_,ay⟩:=mW D;obtain ⟨x,e,dq,rfl,he⟩:=C.of oP;refine b6 (qB #[.inl #[Y,_,aK.of a],u,_,_,Y,Y,a,?_,λ v y B=>?_])
   ·rw [bb,tS,b8];omega
   have k5:∀ c o,H c=some o->v c=some o:=λ c o g=>y c o (λ z=>by rw [z,S] at g;cases g) (s4 _ _ g)
   have G:=y _ _ E3 sx;have P5:=C.but a y;have Ru:=cq he a nofun;have P9:=(bA.same s4).but a y;have fC:rs.length=ws.length+1:=by rw [C.1,n]
   refine #[.inl #[Y,_,aK.of G],_,Y,r,_,_,_,Y,Y,aK.of G,tN fC dq,l,e,bH,aj,cur,c,k,1,Y,k5 _ _ X,P9,y _ _ Ru he,FF.1,aU,#[.aw,.aw],λ p fJ t md=>?_];refine #[r,rs,_,Y,Y,t _ _ G,?_,λ hy J kP=>?_]
   ·rw [fC,b8];omega
   have rV:ax H hy:=λ c o g=>J c o (λ z=>by rw [z,f1] at g;cases g) (t _ _ (k5 _ _ g))
   have mf:=ts D aU;have RE:=cq md (t _ _ G) nofun;have QF:=J _ _ RE md;have P6:=((P5.same t).app (cO.one #[p,Y,md])).but (t _ _ G) J;have sv:goN (rowsOf aj) (ws.length+1) ag=some (bK cur c 1):=by
    show (goN (rowsOf aj) ws.length ag).bind _=_;rw [L];exact mf
   have vE:=lA R hP Z sv;refine #[_,Y,r,_,_,_,Y,Y,aK.of kP,IC _ _,l,p,bH,aj,bK cur c 1,Y,rV _ _ X,bA.same rV,QF,vE.1,vE.2,λ fc N=>?_];have EI:fc u=some (.lst ((eG (ws++[k])).map V.int)):=by
    rw [N _ _ (J _ _ (λ z=>E3 z.symm) (t _ _ B))];unfold eG;rw [ht,ht];rfl
   refine #[#[ws++[k],rs++[.ref p],rws++[bK cur c 1],bK cur c 1,Y,rV.trans N,EI,N _ _ kP,P6.same N,?_,?_,?_,?_,?_],?_]
   ·rw [dn,dn,n];rfl
   ·intro i av;by_cases u3:i<rws.length
    ·rw [jJ u3];exact M i u3
    ·have:i=ws.length+1:=by
      rw [dn] at av;have:[bK cur c 1].length=1:=rfl;omega
     subst this;rw [<-n,List.getElem?_concat_length,n,sv]
   ·rw [dn];exact sv
   ·rw [dn];show ws.length+1<=_;omega
   ·rw [hd,Cs D aU] at j;rw [dn,show m.toNat-(ws.length+[k].length)=d by show m.toNat-(ws.length+1)=d;omega,tA];exact j
   ·show m.toNat-vR fc u<m.toNat-vR f u;unfold vR;rw [EI,a];show m.toNat-((eG (ws++[k])).map V.int).length<m.toNat-((eG ws).map V.int).length;rw [bb,bb,tS,tS,dn];show m.toNat-(ws.length+1)<m.toNat-ws.length;omega
 ·have h0:¬ (((eG ws).map V.int).length)<m:=λ z=>h (bP z)
  rw [EA] at h0;have QV:ws.length=m.toNat:=by omega
  rw [show m.toNat-ws.length=0 by omega] at j;have FK:ws=ft (rowsOf aj) m.toNat ag:=by rw [<-j];show ws=ws++[];rw [nQ]
  refine bD #[bI,λ aH v O s5 B=>?_];rw [<-FK] at q;refine q aH r u v rs rws (s4.free O) f1 S (s4.trans s5) B (s5 _ _ sx) (C.same s5) ?_ (s5 _ _ a);unfold AP;rw [<-FK];exact #[n,M,.inl QV]
end
def e5 (H H':aC):Prop:=∀ c xs,H c=some (.tup xs)->H' c=some (.tup xs)
theorem e5.of (s:ax H H'):e5 H H':=λ c xs h=>s _ _ h
theorem d0.cf (h:d0 H xs aj) (k:e5 H H'):d0 H' xs aj:=#[h.1,λ i x f=>by
 obtain ⟨a,b,c,af,ai,d,e⟩:=h.2 i x f;exact #[a,b,c,af,ai,k _ _ d,e]]
abbrev Ent:=bp×Int
abbrev d3:=List (Str×Ent)
def la (H:aC) (u:V) (e:Ent):Prop:=∃ w a,u=.ref w/\H w=some (.tup [.ref a,.int e.2])/\H a=some (tupI e.1)
theorem la.cf (h:la H u e) (k:e5 H H'):la H' u e:=by
 obtain ⟨w,a,b,af,ai⟩:=h;exact #[w,a,b,k _ _ af,k _ _ ai]
inductive c4 (H:aC):List (Key×V)->d3->Prop
 | nil:c4 H [] []
 | cons {x:Str} {u:V} {e:Ent} {kvs:List (Key×V)} {aN:d3}:la H u e->c4 H kvs aN->c4 H ((cc x,u)::kvs) ((x,e)::aN)
section
variable {H H':aC} {kvs:List (Key×V)} {aN:d3} {x:Str} {u:V} {e:Ent}
theorem th (h:cc x=cc y):x=y:=by injection h
theorem c4.cf (k:e5 H H'):∀ {kvs:List (Key×V)} {aN:d3},c4 H kvs aN->c4 H' kvs aN
 | _,_,.nil=>.nil
 | _,_,.cons h t=>.cons (h.cf k) (t.cf k)
theorem c4.len:∀ {kvs:List (Key×V)} {aN:d3},c4 H kvs aN->kvs.length=aN.length
 | _,_,.nil=>rfl
 | _,_,.cons _ t=>by rw [fW,fW,t.len]
theorem c4.keys:∀ {kvs:List (Key×V)} {aN:d3},c4 H kvs aN->kvs.map (·.1)=(dR aN).map cc
 | _,_,.nil=>rfl
 | _,_,.cons _ t=>by rw [fv,t.keys];rfl
theorem c4.none:∀ {kvs:List (Key×V)} {aN:d3},c4 H kvs aN->df aN x=.n->b7 kvs (cc x)=.n
 | _,_,.nil,_=>rfl
 | _,_,.cons (x:=y) _ t,h=>by
  rw [rA] at h;by_cases a:y=x
  ·rw [if_pos a] at h;cases h
  ·rw [if_neg a] at h;rw [ja (λ z=>a (th z))];exact t.none h
theorem c4.some:∀ {kvs:List (Key×V)} {aN:d3},c4 H kvs aN->df aN x=Option.some e->∃ u,b7 kvs (cc x)=Option.some u/\la H u e
 | _,_,.nil,h=>by cases h
 | _,_,.cons (x:=y) (u:=u) b t,h=>by
  rw [rA] at h;by_cases a:y=x
  ·rw [if_pos a] at h;cases h;exact #[u,jW (by rw [a]),b]
  ·rw [if_neg a] at h;obtain ⟨c,af,ai⟩:=t.some h;exact #[c,by rw [ja (λ z=>a (th z))];exact af,ai]
theorem c4.app:∀ {kvs:List (Key×V)} {aN:d3},c4 H kvs aN->la H u e->c4 H (kvs++[(cc x,u)]) (aN++[(x,e)])
 | _,_,.nil,h=>.cons h .nil
 | _,_,.cons a t,h=>.cons a (t.app h)
theorem c4.o8 (b:la H u e):∀ {kvs:List (Key×V)} {aN:d3},c4 H kvs aN->c4 H (kvs.map λ c=>if c.1=cc x then (c.1,u) else c) (aN.map λ p=>if p.1=x then (p.1,e) else p)
 | _,_,.nil=>.nil
 | _,_,.cons (x:=y) h t=>by
  rw [fv,fv];by_cases a:y=x
  ·rw [if_pos (show cc y=cc x by rw [a]),if_pos a];exact .cons b (t.o8 b)
  ·rw [if_neg (λ z=>a (th z)),if_neg a];exact .cons h (t.o8 b)
theorem c4.put (d:c4 H kvs aN) (a:la H u e):c4 H (putK kvs (cc x) u) (fR aN x e):=by
 unfold putK fR;have b:(kvs.any λ f=>decide (f.1=cc x))=(aN.any λ p=>decide (p.1=x)):=by
  induction d with
  | nil=>rfl
  | @cons y _ _ _ _ _ _ c =>
   rw [pJ,pJ,c];have:decide (cc y=cc x)=decide (y=x):=decide_eq_decide.mpr #[th,λ z=>by rw [z]];rw [this]
 rw [b];split
 ·exact d.o8 a
 ·exact d.app a
theorem c4.drop:∀ {kvs:List (Key×V)} {aN:d3},c4 H kvs aN->c4 H (mD kvs (cc x)) (fS aN x)
 | _,_,.nil=>.nil
 | _,_,.cons (x:=y) h t=>by
  unfold mD fS;by_cases a:y=x
  ·rw [List.filter_cons_of_neg (by simp [a]),List.filter_cons_of_neg (by simp [a])];exact t.drop
  ·rw [List.filter_cons_of_pos (by exact bP λ z=>a (th z)),List.filter_cons_of_pos (by exact bP a)];exact .cons h t.drop
end
section
variable {P:Program} {w:World} {K:aT} {mg:Str->cE} {base:Heap}
noncomputable def pf (v:V):Bool:=gB v&&kh v
theorem IB:∀ xs:bj,(xs.all gB&&xs.all kh)=xs.all pf
 | []=>rfl
 | x::xs=>by
  rw [qZ,qZ,qZ,<-IB xs];unfold pf;cases gB x<;>cases kh x<;>cases xs.all gB<;>cases xs.all kh<;>rfl
theorem Xs (h:et H v=some xs):fU H v=(decide (xs.length=10)&&xs.all pf):=by
 unfold fU;rw [h,<-IB xs,<-Bool.and_assoc]
def acf:bz:=λ vs H Q Z=>∃ v,vs=[v]/\fO H v/\∀ H',ax H H'->Q (.aJ (fU H v)) H'
theorem abZ (T:aY K mg):b4 P w mg base bY 2 T.Nn acf:=by
 refine T.Nn.fn.cp NM .bU λ a0 A outer s H vs Q E i h=>?_
 obtain ⟨v,rfl,⟨k,aW⟩,q⟩:=h;refine #[_,(aD (bM (dx.pt (e9 (eW (d_ (bR h2 T.el ek (aa (U 0) (aa (ho (by rfl) T.gr gq) aq))))) (gn (bq hn (bR fb T.dz dy (aa (U 0) aq)) aF (bh _)))))
   (aG (aZ hS))
   bJ)
  (aG (aZ (bR (oa Y) T.nJ nG (aa (eA (dp NM (N:=["one"]) (js:=[.n]) (dV _)) Y (jK (U 0)) (λ Z Z Z Z=>d1) (λ Z Z Z Z=>ei)
    (λ Z Z Z Z=>(qV (a4 (Z6 T) i aV (aa (U 0) aq)) (pD (Ck s9 s9 aF (U 0) (bf tk aF aF)))))) aq))))),?_]
 obtain ⟨t,ty,e⟩:=vP k;refine #[v, "tuple", t,_,Y,ty,e,_,Y,?_];cases bA:et H v with
 | none =>
  refine b6 (b6 ?_);have aH:=q H (ax.refl H);rw [show fU H v=.f by unfold fU;rw [bA]] at aH;exact aH
 | some xs =>
  obtain ⟨a,rfl,au⟩:=rl bA;obtain ⟨l,ay⟩:=aW xs bA;rw [Xs bA] at q;refine bD #[a,xs,Y,.inr (aL.of au),Y,_,Y,c3 (λ h=>?_) (λ h=>?_)]
  ·have c:xs.length≠10:=λ z=>by
    rw [z] at h;exact absurd h .aw
   have aH:=q H (ax.refl H);rw [cK c] at aH;exact aH
  ·have c:xs.length=10:=by
    have h':decide (V.int (xs.length)=V.int 10)=.t:=by
     cases z:decide (V.int (xs.length)=V.int 10) with
     | true=>rfl
     | false=>exact absurd (show (!decide (V.int (xs.length)=V.int 10))=.t by rw [z];rfl) h
    have:=pR h';omega
   refine #[a,Y,#[_,aL.of au],λ D d=>De (f:=λ v=>.aJ (pf v)) Y (by rw [c];decide) d (aL.of au) ?_ #[D,xs.map pf,Y,?_,?_]]
   ·intro x H' R s' j r;refine #[x,Y,ax.kind s' (ay x j),_,Y,?_];cases hw:qw x with
    | false =>
     refine bD ?_;have g:pf x=.f:=by cases x<;>first|rfl|cases hw
     have b:=r;rw [g] at b;exact b
    | true =>
     obtain ⟨n,rfl⟩:=BO hw;refine b6 #[_,_,Y,Y,_,Y,?_];by_cases h0:0<=n
     ·rw [bP h0];refine b6 #[_,_,Y,Y,#[.aw,.aw,.aw],_,_,Y,Y,?_];have b:R (.aJ (decide (0<=n)&&decide (n<=1000000))) H':=r;rw [bP h0] at b;exact b
     ·rw [cK h0];have b:R (.aJ (decide (0<=n)&&decide (n<=1000000))) H':=r;rw [cK h0] at b;exact bD b
   ·rw [fa];exact aK.of bc
   ·have aH:=q _ (ax.new (o:=.lst (xs.map λ v=>V.aJ (pf v))) d);rw [bP c,pP] at aH;rw [n5];exact aH
end
theorem T9:bootBuiltins "dict" = some (.type "dict"):=by decide +kernel
section
variable {P:Program} {w:World} {K:aT} {mg:Str->cE} {base:Heap}
theorem Uk (c):((!decide (cn (⟨[c].toArray⟩:Str)<cn ("a" : Str))) && !decide (cn ("z" : Str)<cn (⟨[c].toArray⟩:Str)))=jD c:=by
 have a:cn ("a")=[97]:=by decide +kernel
 have b:cn ("z")=[122]:=by decide +kernel
 rw [a,b,show cn (⟨[c].toArray⟩)=[c] from rfl];unfold jD;have af:([c]<[97]) ↔ c<97:=by rw [List.cons_lt_cons_iff];exact #[λ z=>z.elim id λ y=>absurd y.2 (List.not_lt_nil _),.inl]
 have ai:([122]<[c]) ↔ 122<c:=by rw [List.cons_lt_cons_iff];exact #[λ z=>z.elim id λ y=>absurd y.2 (List.not_lt_nil _),.inl]
 rw [decide_eq_decide.mpr af,decide_eq_decide.mpr ai];by_cases a1:c<97
 ·rw [bP a1,cK (by omega:¬ (97<=c/\c<=122))];rfl
 ·by_cases a2:122<c
  ·rw [bP a2,cK (by omega:¬ (97<=c/\c<=122))];simp
  ·rw [cK a1,cK a2,bP (by omega:97<=c/\c<=122)];rfl
theorem Yt (key:∀ a,a b H->vT A B σ H a) (rest:R b H):vT A B σ H R:=key R rest
noncomputable def Ay:V->Bool
 | .str x=>decide (1<=x.length)&&decide (x.length<=8)
 | _=>.f
noncomputable def Gz (aN:d3):V->Option Ent
 | .str x=>df aN x
 | _=>.n
def qF (aN:d3) (H:aC) (way:Str) (v bC:V) (x:Str):Prop:=(x = "name" /\ (fu v=.f\/(way ≠ "put" /\ Gz aN v=.n)))\/(x = "powers" /\ fu v=.t/\way = "put" /\ fU H bC=.f)
def nF (aj:cX) (aN:d3) (H:aC) (way:Str) (v bC eD:V) (cJ:d3):Prop:=∃ x,v=.str x/\fu v=.t /\
 ((way = "drop" /\ eD=.aX/\(∃ e,df aN x=some e)/\cJ=fS aN x) \/
 (way = "run" /\ ∃ (m:Int) (e:Ent) (k:Nat) (r:bp),bC=.int m/\df aN x=some e/\k<=m.toNat/\goN (rowsOf aj) k e.1=some r/\(k=m.toNat\/b_ (rowsOf aj) r=.n)/\eD=.int k/\cJ=fR aN x (r,e.2+k)) \/
 (way = "put" /\ ∃ (a:Addr) (ag:bp),bC=.ref a/\H a=some (tupI ag)/\fU H bC=.t/\eD=.aX/\cJ=fR aN x (ag,0)))
inductive Kt:bz
 |mk {vs H Q E} (aQ rw eo:Addr) (bH:bj) (aj:cX) (kvs:List (Key×V)) (aN:d3) (way:Str) (v bC:V):vs=[.ref aQ,.ref rw,.ref eo]->H aQ=some (.lst bH)->eM H bH aj->c8 H rw (.bW kvs)->c4 H kvs aN->aN.length<12->(∀ p∈aN,p.2.1.length=10/\nn p.2.1=.t)->H eo=some (.tup [.str way,v,bC])->sa H v->((way = "put" /\ fO H bC)\/(way = "run" /\ ∃ m,bC=.int m/\0<=m/\m<=2000)\/way = "drop")->(∀ aH x H',qF aN H way v bC x->ax H H'->H' aH=some (.lst [.str x,.ref rw])->Q (.ref aH) H')->(∀ aH eD lt bX cJ H',ax H H'->H lt=.n->H' aH=some (.lst [eD,.ref lt])->H' lt=some (.bW bX)->c4 H' bX cJ->nF aj aN H way v bC eD cJ->Q (.ref aH) H')->Kt vs H Q E
theorem abI (T:aY K mg):b4 P w mg base bY 6 T.MP Kt:=by
 refine T.MP.fn.cp jY .bU λ a0 A outer s H vs Q E q h=>?_
 obtain ⟨aQ,dk,eo,bH,aj,kvs,aN,way,v,bC,rfl,sy,bA,iK,p,o3,qs,sk,aM,hw,aO,hF⟩:=h;refine #[_,(aD (ku (U 2) (hs Y (cv (cH 3 jY) (cv (cH 4 jY) (cv (cH 5 jY) eh)))))
  (aD (ba 6 jY (qV (bR h2 T.el ek (aa (U 4) (aa (ho (by rfl) T.gj gh) aq))) (pD (Ck s9 s9 aF (bR rH T.dz dy (aa (U 4) aq)) aF))))
  (aD (qW (d_ (U 6))
   (aG (ba 6 jY (bR (oa Y) T.nJ nG (aa (eA (dp jY (N:=["sign"]) (js:=[.n]) (dV _)) Y (we (U 4)) (λ _ _ _ _=>d1) (λ _ _ _ _=>ei)
    (λ _ _ _ _=>(Ck Hc Hc a9 (U 0) a9))) aq))))
   bJ)
  (aD (bM (dx.pt (e9 (eW (d_ (U 6))) (gn (dx.pt (nU (bq hn (U 3) a9 (bh _)) (n7 (bq (CV (d9 q)) (U 4) (U 1) (by with_unfolding_all rfl))))))))
   (aG (aZ (cW (aa a9 (aa (U 1) aq)))))
   bJ)
  (aD (ba 7 jY (dv ZA T.Um T9 (aa (U 1) aq)))
  (aD (bM (bq cY (U 3) a9 (bh _))
   (aD (eY (eN tL Bw PySem.F.type_dict_pop IY (U 7) (aa (U 4) aq)))
  (aG (aZ (cW (aa e_ (aa (U 7) aq))))))
   bJ)
  (aD (bM (bq cY (U 3) a9 (bh _))
   (aD (ku (Ke (d9 q) (U 1) (U 4) (λ _ _=>rfl)) (hs Y (cv (cH 8 jY) (cv (cH 9 jY) eh))))
  (aD (ku (a4 (N7 T) q aV (aa (U 0) (aa (U 8) (aa (U 5) aq)))) (Hj Y (cv (cH 10 jY) (cv (cH 11 jY) eh))))
  (aD (Cn (d9 q) (U 7) (U 4) (fx (aa (bO cz (U 10) (jF jL aF) (λ _ _=>rfl)) (aa (bf ez (U 9) (bR fb T.dz dy (aa (U 11) aq))) aq))) Y)
  (aG (aZ (cW (aa (bR fb T.dz dy (aa (U 11) aq)) (aa (U 7) aq))))))))
   bJ)
  (aD (bM (eW (d_ (a4 (abZ T) q aV (aa (U 5) aq))))
   (aG (aZ (cW (aa a9 (aa (U 1) aq)))))
   bJ)
  (aD (qW (dx.pt (nU (bq (CV (d9 q)) (U 4) (U 1) (by with_unfolding_all rfl)) (n7 (bq cY (bR xp T.dz dy (aa (U 1) aq)) aF (bh _)))))
   (aG (aZ (cW (aa a9 (aa (U 1) aq)))))
   bJ)
  (aD (Cn (d9 q) (U 7) (U 4) (fx (aa (U 5) (aa aF aq))) Y)
  (aG (aZ (cW (aa e_ (aa (U 7) aq))))))))))))))),?_]
 refine #[eo,_,Y,aL.of sk,Y,_,_,Y,_,_,Y,_,_,Y,Y,?_];dsimp only [AK,mA];refine Yt (b:=.aJ (Ay v)) (λ Dz r=>?_) ?_
 ·obtain ⟨t,ty,e⟩:=nI (K:=K) aM.1;refine #[v, "str", t,_,Y,ty,e,_,Y,?_];cases aA:sC v with
  | false =>
   rw [show Ay v=.f by cases v<;>first|rfl|cases aA] at r;exact bD r
  | true =>
   obtain ⟨x,rfl⟩:∃ x,v=.str x:=by cases v<;>first|exact #[_,Y]|cases aA
   obtain ⟨au,S⟩:=aM.2 x rfl;have M:x.length<=sizeLine:=by rw [b8];omega
   refine b6 #[x,Y,M,_,_,Y,Y,_,Y,?_];have d:Dz (.aJ (decide (1<=x.length)&&decide (x.length<=8))) H:=r;by_cases af:1<=x.length
   ·rw [bP af,pP] at d;rw [bP (show 1<=(x.length:Int) by omega)];refine b6 #[_,_,Y,Y,?_];show Dz (.aJ (decide ((x.length:Int)<=8))) H;rw [show decide ((x.length:Int)<=8)=decide (x.length<=8) from decide_eq_decide.mpr .ak];exact d
   ·rw [cK af,Bool.false_and] at d;rw [cK (show ¬ (1:Int)<=(x.length:Int) by omega)];exact bD d
 refine #[λ σ' H'=>σ'=[some (.ref aQ),some (.ref dk),some (.ref eo),some (.str way),some v,some bC,some (.aJ (fu v)),.n,.n,.n,.n,.n]/\ax H H',?_,?_]
 ·refine #[_,Y,?_];cases S:Ay v with
  | false =>
   rw [show fu v=.f by
    cases v with
    | str x=>show (decide _&&decide _&&_)=.f;rw [show (decide (1<=x.length)&&decide (x.length<=8))=.f from S];rfl
    | _=>rfl]
   exact bD #[Y,ax.refl _]
  | true =>
   obtain ⟨x,rfl⟩:∃ x,v=.str x:=by cases v<;>first|exact #[_,Y]|cases S
   obtain ⟨au,nx⟩:=aM.2 x rfl;have M:x.length<=sizeLine:=by rw [b8];omega
   refine b6 #[_,Y,au.all,λ D p=>xj (x:=x) (σ0:=[]) (t:=λ _=>.t) (f:=λ i=>V.aJ (jD (x.cps.getD i 0))) (by show x.length<=_;exact M) #[_,Y] p (λ i c H' R s' dE r=>r H' (ax.refl _)) (λ i c H' R s' dE aI r=>?_) λ H1 s1 J=>?_]
   ·have e:x.cps.getD i 0=c:=by rw [Array.getD_eq_getD_getElem?,dE];rfl
    have d:=r H' (ax.refl _);rw [e] at d;refine #[_,_,Y,Y,_,Y,?_];have low:=Uk c;cases af:(!decide (cn (⟨[c].toArray⟩:Str)<cn ("a" : Str))) with
    | false =>
     rw [af,Bool.false_and] at low;rw [<-low] at d;exact bD d
    | true =>
     rw [af,pP] at low;rw [<-low] at d;exact b6 #[_,_,Y,Y,d]
   ·have e:(((List.range x.cps.size).filter λ _=>.t).map λ i=>V.aJ (jD (x.cps.getD i 0)))=((List.range x.cps.size).map λ i=>jD (x.cps.getD i 0)).map V.aJ:=by
     rw [List.filter_eq_self.mpr (λ _ _=>rfl),fa];rfl
    rw [e] at J;refine #[D,_,Y,aK.of J,?_];rw [Ib];have yn:fu (.str x)=(cn x).all jD:=by
     show (decide (1<=x.length)&&decide (x.length<=8)&&_)=_;rw [show (decide (1<=x.length)&&decide (x.length<=8))=.t from S];rfl
    rw [yn];exact #[Y,s1]
 ·rintro σ' H1 ⟨rfl,s1⟩;have zA:c8 H1 dk (.bW kvs):=iK.imp (s1 _ _) λ ⟨o,h⟩=>#[o,s1 _ _ h]
  have J:=p.cf (e5.of s1);have aec:kvs.length<12:=by rw [p.len];exact o3
  refine #[_,Y,?_];cases aB:fu v with
  | false=>exact b6 (b6 #[bI,λ aH ao f2 s2 ai=>aO aH "name" ao (.inl ⟨rfl,.inl aB⟩) (s1.trans s2) ai])
  | true =>
   obtain ⟨x,rfl⟩:∃ x,v=.str x:=by cases v<;>first|exact #[_,Y]|cases aB
   refine bD #[Y,_,Y,?_];by_cases ar:way = "put"
   ·subst ar;have EJ:fO H bC:=by
     rcases hw with ⟨_,h⟩|⟨h,_⟩|h
     ·exact h
     ·exact absurd h .aw
     ·exact absurd h .aw
    rw [bP rfl];refine bD (bD #[dk,kvs,Y,zA,λ lt ao f2 s2 ai=>?_]);have g:=s1.trans s2;refine #[Y,_,Y,?_];rw [hZ (show ("put" : Str) ≠ "drop" by decide)];refine bD #[Y,_,Y,?_];rw [hZ (show ("put" : Str) ≠ "run" by decide)];refine bD #[bC,Y,ax.fO g EJ,λ G s3=>#[_,Y,?_]];have B:=g.trans s3;have OI:fU ao bC=fU H bC:=by unfold fU;rw [ax.et g EJ.1]
    rw [OI];cases zN:fU H bC with
    | false=>exact b6 #[bI,λ aH I f4 s4 nf=>aO aH "powers" I (.inr ⟨rfl,aB,rfl,zN⟩) (B.trans s4) nf]
    | true =>
     refine bD ?_;have L:=zN;unfold fU at L;cases zC:et H bC with
     | none=>rw [zC] at L;cases L
     | some ys =>
      rw [zC] at L;obtain ⟨a,rfl,au⟩:=rl zC;have zt:=tK.mp (show (decide (ys.length=10)&&ys.all gB&&ys.all kh)=.t from L);obtain ⟨ag,rfl,me⟩:=Ci (tK.mp zt.1).2;have El:c8 G dk (.bW kvs):=iK.imp (B _ _) λ ⟨o,h⟩=>#[o,B _ _ h]
      refine #[λ σ' H'=>σ'=[some (.ref aQ),some (.ref dk),some (.ref eo),some (.str "put"),some (.str x),some (.ref a),some (.aJ .t),some (.ref lt),.n,.n,.n,.n]/\G=H',?_,?_]
      ·refine #[x,dk,kvs,Y,Y,El,_,Y,?_];cases aA:(b7 kvs (cc x)).isSome with
       | true=>exact bD (bD #[Y,Y])
       | false =>
        refine b6 #[dk,kvs,Y,El,Y,_,Y,?_];rw [cK (show ¬ V.int (kvs.length)=V.int 12 from λ z=>by injection z with z;omega)];exact bD #[Y,Y]
      ·rintro σ' H' ⟨rfl,rfl⟩;refine #[bI,λ w I f4 s4 aU=>#[lt,x,kvs,Y,Y,s4 _ _ (s3 _ _ ai),by rw [b8];omega,λ X n h8=>?_]];refine #[bI,λ aH Z lW l O=>?_];have gO:H lt=.n:=s1.free f2;have qz:ax H X:=λ c o j=>n _ _ (b0 j gO) (s4 _ _ (B _ _ j))
       have z6:w≠lt:=λ z=>by rw [z,s3 _ _ ai] at f4;cases f4
       have QU:=l _ _ (n _ _ z6 aU);have C:=qz.trans l;exact hF aH .aX lt _ _ Z C gO O (l _ _ h8) ((p.cf (e5.of C)).put #[w,a,Y,QU,C _ _ au]) #[x,Y,aB,.inr (.inr #[Y,a,ag,Y,au,zN,Y,Y])]
   ·rw [hZ ar];refine b6 #[x,dk,kvs,Y,Y,zA,_,Y,?_];cases y:df aN x with
    | none =>
     rw [J.none y];exact b6 #[bI,λ aH ao f2 s2 ai=>aO aH "name" ao (.inl ⟨rfl,.inr ⟨ar,y⟩⟩) (s1.trans s2) ai]
    | some e =>
     obtain ⟨u,kS,he⟩:=J.some y;rw [kS];refine bD #[dk,kvs,Y,zA,λ lt ao f2 s2 ai=>?_];have g:=s1.trans s2;have gO:H lt=.n:=s1.free f2;refine #[Y,_,Y,?_];by_cases hd:way = "drop"
     ·subst hd;rw [bP rfl];refine b6 #[.inr (.inr (.inl #[Y,.inl #[kvs,ai]])),lt,x,kvs,u,Y,Y,ai,kS,λ G j4 hc=>?_];refine #[bI,λ aH I f4 s4 nf=>?_];have B:ax H G:=λ c o j=>j4 _ _ (b0 j gO) (g _ _ j)
      have E_:=B.trans s4;exact hF aH .aX lt _ _ I E_ gO nf (s4 _ _ hc) (p.cf (e5.of E_)).drop #[x,Y,aB,.inl #[Y,Y,#[e,y],Y]]
     ·rw [hZ hd];obtain ⟨rfl,m,rfl,m0,qg⟩:way = "run" /\ ∃ m:Int,bC=.int m/\0<=m/\m<=2000:=by
       rcases hw with ⟨h,_⟩|h|h
       ·exact absurd h ar
       ·exact h
       ·exact absurd h hd
      refine bD #[Y,_,Y,?_];rw [bP rfl];obtain ⟨w,a,rfl,QT,sh⟩:=he;have P4:c8 ao dk (.bW kvs):=iK.imp (g _ _) λ ⟨o,h⟩=>#[o,g _ _ h]
      have cC:=qs (x,e) (pZ y);refine b6 #[dk,x,kvs,.ref w,Y,Y,P4,kS,w,_,Y,aL.of (s2 _ _ QT),Y,_,_,Y,_,_,Y,Y,?_];refine #[aQ,a,bH,aj,e.1,m,Y,g _ _ sy,bA.same g,s2 _ _ sh,cC.1,cC.2,m0,.ak,λ iL uL yS G rs rws ON fr OO s3 QI qu EF yu zW=>?_];refine #[iL,_,Y,QI,Y,_,_,Y,_,_,Y,Y,?_];obtain ⟨g1,g2,g3⟩:=yu;obtain ⟨r,zL⟩:=Bo (rowsOf aj) m.toNat e.1;have mb:=B3 (rowsOf aj) m.toNat e.1;generalize ay:(ft (rowsOf aj) m.toNat e.1).length=k at *;have AW:rws[k]?=some r:=by rw [g2 k .ak];exact zL
      obtain ⟨z,ib,M,rfl,EL⟩:=EF.of AW;have QK:rs.length=k+1:=by rw [EF.1];exact g1
      have So:((eG (ft (rowsOf aj) m.toNat e.1)).map V.int).length=k:=by rw [bb,tS];exact ay
      refine #[_,Y,uL,_,_,_,Y,Y,aK.of qu,tN QK M,yS,_,Y,.inl (aK.of zW),_,_,Y,Y,bI,λ DZ I f4 s4 aU=>?_];refine #[lt,x,kvs,Y,Y,s4 _ _ (s3 _ _ ai),by rw [b8];omega,λ X n h8=>?_];have qz:ax H X:=λ c o j=>n _ _ (b0 j gO) (s4 _ _ (s3 _ _ (g _ _ j)))
      have nul:yS≠lt:=cq zW (s3 _ _ ai) nofun;have z6:DZ≠lt:=λ z=>by rw [z,s3 _ _ ai] at f4;cases f4
      have RH:ib≠lt:=cq EL (s3 _ _ ai) nofun;refine #[yS,_,Y,.inl (aK.of (n _ _ nul (s4 _ _ zW))),bI,λ aH Z lW l O=>?_];have C:=qz.trans l;rw [So] at O aU;refine hF aH (.int k) lt _ _ Z C gO O (l _ _ h8) ((p.cf (e5.of C)).put (e:=(r,e.2+k)) #[DZ,ib,Y,l _ _ (n _ _ z6 aU),l _ _ (n _ _ RH (s4 _ _ EL))]) #[x,Y,aB,.inr (.inl #[Y,m,e,k,r,Y,y,mb,zL,?_,Y,Y])];rcases g3 with g3|⟨cur,qc,yk⟩
      ·exact .inl g3
      ·rw [zL] at qc;cases qc;exact .inr yk
end
theorem fI {H:aC} (h:H a=.n) (h':H b=some o):a≠b:=(b0 h' h).symm
theorem Tz (x a y z) (b:a=x++bB 32):Str.join (bB 32) [x,y,z]=a++y++(" " : Str)++z:=by
 rw [kF,kF,show Str.join (bB 32) [z]=z from rfl,b,k8];simp only [Bd]
theorem Gy (a b x) (h:b=a++bB 32):b++x=Str.join (bB 32) [a,x]:=by
 rw [kF,show Str.join (bB 32) [x]=x from rfl,h]
theorem Bj (a b x y) (h:b=a++bB 32):b++x++(" " : Str)++y=Str.join (bB 32) [a,x,y]:=(Tz a b x y h).symm
theorem G_ (h:0<=n):0<(bE n).length:=by
 rw [<-pV];exact List.length_pos_iff.mpr (A2 h)
theorem EV (h:0<=n) (af:n<1000):d8 32 (bE n)/\0<(bE n).length/\(bE n).length<=1000:=#[kD h .ak,G_ h,by have:=hV (k:=2) h .ak;omega]
theorem A1 {m:Int} (h:m.natAbs<1024):m.natAbs.log2<1920:=by
 by_cases ay:m.natAbs=0
 ·rw [ay];decide
 ·have:=(Nat.log2_lt (k:=10) ay).mpr h;omega
def l7 (x:Str):Prop:=d8 32 x/\0<x.length/\x.length<=9
theorem Gk (au:d8 32 a/\0<a.length/\a.length<=20):qq [a]:=#[.zs,by show 1<=100;decide,λ y b=>by rw [dH.mp b];exact #[au.1,au.2.1],by show a.length<=_;have:=au.2.2;omega]
theorem Ti (au:d8 32 a/\0<a.length/\a.length<=20) (b:l7 x):qq [a,x]:=by
 refine #[.zs,by show 2<=100;decide,λ y c=>?_,?_]
 ·simp only [b5,dA,dB] at c;rcases c with rfl|rfl
  ·exact #[au.1,au.2.1]
  ·exact #[b.1,b.2.1]
 ·rw [kF,len_app,len_app];show a.length+1+x.length<=_;have:=au.2.2;have:=b.2.2;omega
theorem Tj (au:d8 32 a/\0<a.length/\a.length<=20) (b:l7 x) (c:d8 32 y/\0<y.length/\y.length<=1000):qq [a,x,y]:=by
 refine #[.zs,by show 3<=100;decide,λ z d=>?_,?_]
 ·simp only [b5,dA,dB] at d;rcases d with rfl|rfl|rfl
  ·exact #[au.1,au.2.1]
  ·exact #[b.1,b.2.1]
  ·exact #[c.1,c.2.1]
 ·rw [kF,kF,len_app,len_app,len_app,len_app];show a.length+1+(x.length+1+y.length)<=_;have:=au.2.2;have:=b.2.2;have:=c.2.2;omega
theorem Ts:∀ (i:Nat) dr d,(["name"]:b2)[i]?=some dr->[fo.nm x][i]?=some d->d.fits dr
 | 0,_,_,af,ai=>by cases af;cases ai;rfl
 | i+1,_,_,af,_=>by cases af
theorem Tt (h:d2.fits k2):∀ (i:Nat) dr d,([("name" : Str),k2])[i]?=some dr->[fo.nm x,d2][i]?=some d->d.fits dr
 | 0,_,_,af,ai=>by cases af;cases ai;rfl
 | 1,_,_,af,ai=>by cases af;cases ai;exact h
 | i+2,_,_,af,_=>by cases af
theorem RN (h:sd H zs [.nm x]):zs=[.str x]:=by
 obtain ⟨z,rfl⟩:=List.length_eq_one_iff.mp h.1;rw [show z=.str x from h.2 0 z _ rfl rfl]
theorem RO (h:sd H zs [.nm x,d]):∃ z,zs=[.str x,z]/\d.val H z:=by
 cases zs with
 | nil=>cases h.1
 | cons a t=>cases t with
  | nil=>cases h.1
  | cons b t=>cases t with
   | nil=>exact #[b,by rw [show a=.str x from h.2 0 a _ rfl rfl],h.2 1 b d Y Y]
   | cons _ _=>cases h.1
section
variable {P:Program} {w:World} {K:aT} {mg:Str->cE} {base:Heap}
noncomputable abbrev six:b2:=["one", "two", "x", "abcdefgh", "row", "gone"]
structure qo (x:Str):Prop where
 w:l7 x
 a:r6 x
 s:fu (.str x)=.t->x∈six
theorem Ha (h:((cn x).all (λ c=>decide (c<128/\c≠32))&&decide (0<x.length/\x.length<=9)&&(!fu (.str x)||decide (x∈six)))=.t):qo x:=by
 simp only [eX,gp,n4] at h;refine #[#[λ z=>(h.1.1 32 z).2 Y,h.1.2.1,h.1.2.2],λ c a=>(h.1.1 c a).1,λ aB=>?_];have:=h.2;rw [aB] at this;exact cM (by simpa using this)
theorem TV (h:x∈six):qo x:=by
 have key:∀ y∈six,((cn y).all (λ c=>decide (c<128/\c≠32))&&decide (0<y.length/\y.length<=9)&&(!fu (.str y)||decide (y∈six)))=.t:=by decide +kernel
 exact Ha (key x h)
def hR (H:aC) (way:Str) (v bC:V):Prop:=(∃ x,v=.str x/\qo x/\((way = "put" /\ ∃ (a:Addr) (ah:bp),bC=.ref a/\H a=some (tupI ah)/\ah.length=10/\∀ e∈ah,0<=e/\e<=1000000)\/(way = "run" /\ ∃ m,bC=.int m/\0<=m/\m<=200)\/(way = "drop" /\ bC=.aX)))\/(way = "undo" /\ v=.aX/\bC=.aX)
theorem TU (h0:0<=i) (a:i<7):∃ x,es [V.str "one", .str "two", .str "x", .str "abcdefgh", .str "row", .str "Bad", .str "abcdefghi"] i=some (.str x)/\qo x:=by
 have h:i=0\/i=1\/i=2\/i=3\/i=4\/i=5\/i=6:=by omega
 rcases h with rfl|rfl|rfl|rfl|rfl|rfl|rfl<;>exact #[_,Y,Ha (by decide +kernel)]
theorem TC (h0:0<=i) (a:i<4):∃ m,es [V.int 3,.int 8,.int 8,.int ((10:Int) ^ (6:Int).toNat)] i=some (.int m)/\0<=m/\m<=1000000:=by
 have h:i=0\/i=1\/i=2\/i=3:=by omega
 rcases h with rfl|rfl|rfl|rfl
 ·exact #[_,Y,.aw,.aw]
 ·exact #[_,Y,.aw,.aw]
 ·exact #[_,Y,.aw,.aw]
 ·exact #[_,Y,.aw,.aw]
theorem runs (h0:0<=i) (a:i<4) (cP:0<=r) (b:r<30):∃ m,es [V.int 0,.int 1,.int r,.int 200] i=some (.int m)/\0<=m/\m<=200:=by
 have h:i=0\/i=1\/i=2\/i=3:=by omega
 rcases h with rfl|rfl|rfl|rfl
 ·exact #[_,Y,.ak,.ak]
 ·exact #[_,Y,.ak,.ak]
 ·exact #[_,Y,.ak,.ak]
 ·exact #[_,Y,.ak,.ak]
inductive Lf:bz
 |mk {vs H Q E} (pt bw dk:Addr) (n:Int) (ns:bp) (bX:List (Key×V)) (aJ:d3):vs=[.ref pt,.ref bw,.ref dk]->H pt=some (.lst [.int n])->H bw=some (.tup (ns.map V.int))->ns.length<=10->(∀ m∈ns,0<=m/\m<10)->c8 H dk (.bW bX)->c4 H bX aJ->aJ.length<12->(∀ p∈aJ,p.1∈six)->(∀ eo way v bC b3 H',br pt H H'->H' pt=some (.lst [.int b3])->H' eo=some (.tup [.str way,v,bC])->hR H' way v bC->Q (.ref eo) H')->Lf vs H Q E
theorem ab0 (T:aY K mg):b4 P w mg base bY 4 T.Np Lf:=by
 refine T.Np.fn.cp xV .bU λ a0 A outer s H vs Q E a h=>?_
 obtain ⟨pt,bw,dk,n,ns,bX,aJ,rfl,r,cu,vE,QA,iK,I,o3,QO,q⟩:=h;refine #[_,(aD (ba 3 xV (a4 (gG T) a aV (aa (U 0) (aa aF aq))))
  (aD (ba 4 xV (bO cz (cW (aa a9 (aa a9 (aa a9 (aa a9 (aa a9 (aa a9 (aa a9 aq)))))))) (a4 (gG T) a aV (aa (U 0) (aa aF aq))) (λ _ _=>rfl)))
  (aD (qW (dx.pt (nU (bq gW (bR xp T.dz dy (aa (U 2) aq)) aF (bh _)) (n7 (bq gW (a4 (gG T) a aV (aa (U 0) (aa aF aq))) aF (bh _)))))
   (aG (ba 4 xV (bO cz (bR (Dd Y) T.rm rk (aa (U 2) aq)) (a4 (gG T) a aV (aa (U 0) (aa (bR xp T.dz dy (aa (U 2) aq)) aq))) (λ _ _=>rfl))))
   bJ)
  (aD (bM (bq iZ (U 3) aF (bh _))
   (aG (aZ (fx (aa a9 (aa (U 4) (aa (a4 (Y4 T) a aV (aa (U 0) (aa (U 1) (aa (bO cz (cW (aa aF (aa aF (aa aF (aa (bf tk aF aF) aq))))) (a4 (gG T) a aV (aa (U 0) (aa aF aq))) (λ _ _=>rfl)) aq)))) aq))))))
   bJ)
  (aD (bM (bq iZ (U 3) aF (bh _))
   (aG (aZ (fx (aa a9 (aa (U 4) (aa (bO cz (cW (aa aF (aa aF (aa (a4 (gG T) a aV (aa (U 0) (aa aF aq))) (aa aF aq))))) (a4 (gG T) a aV (aa (U 0) (aa aF aq))) (λ _ _=>rfl)) aq))))))
   bJ)
  (aG (aZ (bO cz (cW (aa (fx (aa a9 (aa (U 4) (aa e_ aq)))) (aa (fx (aa a9 (aa e_ (aa e_ aq)))) aq))) (bf gE (U 3) aF) (λ _ _=>rfl))))))))),?_]
 refine #[pt,n,10,Y,r,.aw,.aw,λ f kT H1 w0 wl hB oR=>?_];refine #[bI,λ oy j0 hC s3 hc=>#[pt,kT,7,Y,s3 _ _ oR,.aw,.aw,λ DK jl iI Q1 Q2 fA u_=>?_]];have Rn:=fI hC oR;obtain ⟨D0,QS,E1⟩:=TU Q1 Q2;have g:=(hB.trans (br.of s3)).trans fA;refine #[oy,_,_,_,Y,Y,aK.of (fA _ _ Rn hc),QS,?_];have E2:dk≠pt:=by
  rcases iK with h|⟨o,h⟩
  ·exact cq h r nofun
  ·exact cq h r nofun
 have J:∀ {H':aC},br pt H H'->c8 H' dk (.bW bX):=λ b=>iK.imp (b _ _ E2) λ ⟨o,h⟩=>#[o,b _ _ E2 h]
 have mb:bX.length<12:=by rw [I.len];exact o3
 refine #[λ σ' H'=>∃ x b3,σ'=[some (.ref pt),some (.ref bw),some (.ref dk),some (.int f),some (.str x)]/\br pt H H'/\H' pt=some (.lst [.int b3])/\qo x,?_,?_]
 ·refine #[dk,bX,Y,J g,_,_,Y,Y,_,Y,c3 (λ h=>?_) (λ h=>?_)]
  ·have sr:=cM h;refine #[pt,jl,3,Y,u_,.aw,.aw,λ uB jm j1 adq ads ha L=>#[_,_,Y,Y,_,Y,c3 (λ h8=>?_) (λ h8=>?_)]]
   ·have aU:=g.trans ha;refine #[dk,bX,dR aJ,Y,J aU,I.keys,by rw [bb];omega,λ ms pm DU yD fJ lW hG h9=>?_];have c:=aU.trans (br.of hG);refine #[dk,bX,Y,J c,pt,jm,(bX.length),Y,hG _ _ L,.ak,.ak,λ t N y Q3 adM i l=>?_];have adO:ms.length=bX.length:=by rw [pm.length_eq,bb,I.len]
    have av:t.toNat<ms.length:=by omega
    have oP:es (ms.map V.str) t=some (.str ms[t.toNat]):=fF Q3 (by rw [dg,cV av];rfl);obtain ⟨p,ar,e⟩:=c0.mp (pm.mem_iff.mp (kv av));have Eo:=QO p ar;rw [show p.1=ms[t.toNat] from e] at Eo;exact #[yD,_,_,_,Y,Y,aK.of (i _ _ (fI lW L) h9),oP,_,N,Y,c.trans i,l,TV Eo]
   ·exact #[D0,jm,Y,g.trans ha,L,E1]
  ·exact bD #[D0,jl,Y,g,u_,E1]
 rintro σ' fJ ⟨x,u,rfl,c,k,nm⟩;have S7:=cq cu r nofun;refine #[_,_,Y,Y,_,Y,c3 (λ h=>?_) (λ h=>?_)]
 ·refine #[_,_,Y,Y,#[.aw,.aw,.aw],bI,λ O0 y nc v C=>#[pt,u,4,Y,v _ _ k,.aw,.aw,λ ade O4 R Q4 Q5 uA va=>?_]];obtain ⟨mo,Qx,Rj,Rk⟩:=TC Q4 Q5;have X:=(c.trans (br.of v)).trans uA;refine #[O0,_,_,_,Y,Y,aK.of (uA _ _ (fI nc k) C),Qx,pt,bw,O4,mo,ns,Y,va,X _ _ S7 cu,vE,QA,Rj,Rk,λ ln j2 lZ ah j M qs SJ sq=>?_];refine #[bI,λ eo B OK sB G=>q eo "put" _ _ lZ B ((X.trans j).trans (br.of sB)) (sB _ _ M) G (.inl ⟨x,rfl,nm,.inl ⟨rfl,ln,ah,rfl,sB _ _ qs,SJ,λ e he=>?_⟩⟩)];have:=sq e he;omega
 ·refine #[_,_,Y,Y,_,Y,c3 (λ ji=>?_) (λ ji=>?_)]
  ·refine #[pt,u,30,Y,k,.aw,.aw,λ uM N y RT RU i l=>#[bI,λ yE R f8 d D=>#[pt,N,4,Y,d _ _ l,.aw,.aw,λ adf lZ j2 Q6 Q7 j M=>?_]]];obtain ⟨m,hm,m0,j7⟩:=runs Q6 Q7 RT RU;refine #[yE,_,_,_,Y,Y,aK.of (j _ _ (fI f8 l) D),hm,bI,λ eo B OK sB G=>?_];exact q eo "run" _ (.int m) lZ B ((((c.trans i).trans (br.of d)).trans j).trans (br.of sB)) (sB _ _ M) G (.inl ⟨x,rfl,nm,.inr (.inl ⟨rfl,m,rfl,m0,j7⟩)⟩)
  ·have adJ:¬ f<4:=λ z=>h (bP z)
   have adK:¬ f<8:=λ z=>ji (bP z)
   refine #[bI,λ DW y nc v C=>#[bI,λ DX R f8 d D=>#[bI,λ uH S yp O rQ=>?_]]];have Fc:=(v.trans d).trans O;have Z:=c.trans (br.of Fc);have zR:=Fc _ _ k;have dE:f-8=0\/f-8=1:=by omega
   rcases dE with e|e
   ·refine #[_,_,Y,Y,uH,_,_,.ref DW,Y,Y,aK.of rQ,by rw [e];rfl,?_];exact q DW "drop" _ .aX u S Z zR (O _ _ (d _ _ C)) (.inl ⟨x,rfl,nm,.inr (.inr ⟨rfl,rfl⟩)⟩)
   ·refine #[_,_,Y,Y,uH,_,_,.ref DX,Y,Y,aK.of rQ,by rw [e];rfl,?_];exact q DX "undo" .aX .aX u S Z zR (O _ _ D) (.inr ⟨rfl,rfl,rfl⟩)
theorem Mp (T:aY K mg):b4 P w mg base bY 3 T.Lu Lj:=by
 refine T.Lu.fn.cp MH .bU λ a0 A outer s H vs Q E B h=>?_
 obtain ⟨p,xs,aj,rfl,ar,r,d,hf,q⟩:=h;refine #[_,(aG (aZ (eN kA pM pN rf a9 (aa (eA (dp MH (js:=[.n,.n]) (dV _)) Y (jK (U 0)) (λ Z Z Z Z=>(jT (n:=2) Y Y (cv d1 (cv (iF (i:=1) (show List.Nodup (["top", "bottom"]:b2) from by decide +kernel) Y (Or.inl Y) (Or.inr Y)) eh)))) (λ Z Z Z Z=>ei)
    (λ Z Z Z Z=>(bf ea (bf ea (dv kH T.gj gh (aa (U 0) aq)) a9) (dv kH T.gj gh (aa (U 1) aq))))) aq)))),?_]
 refine #[Y,p,Y,#[_,aL.of ar],λ D k=>tQ (by rw [b8];omega) (λ i σ' H' ys=>(∃ u v,σ'=[u,v])/\ax H H'/\ys=(eu (aj.take i)).map V.str) #[#[_,_,Y],ax.new k,Y] (λ i σ' H' ys _ _ ⟨_,s',_⟩=>aL.of (s' _ _ ar)) ?_ ?_]
 ·rintro i x σ' H' ys R t a y ⟨⟨u,v,rfl⟩,s',rfl⟩ z;obtain ⟨c,f,c2,rfl,m,g⟩:=d.2 i x t;have fr:=tZ (hf _ (cg g));have C:=o5 (n:=f) .ak .ak;have G:=o5 (n:=c2) .ak .ak;have l:(("/"):Str).length=1:=by rw [ny];rfl
  refine #[c,_,Y,aL.of (s' _ _ m),Y,_,_,Y,_,_,Y,Y,?_];refine #[f,Y,mM .ak .ak,bE f,_,Y,Y,by rw [b8,l];omega,?_];refine #[c2,Y,mM .ak .ak,_,bE c2,Y,Y,by rw [b8,len_app,l];omega,?_];rw [ny];refine z _ _ _ a #[#[_,_,Y],?_,?_]
  ·intro b o j;rw [a3 (b0 j k)];exact s' _ _ j
  ·unfold eu;rw [p7 g,ht];rfl
 ·rintro σ' H' ys a y ⟨_,s',rfl⟩;have e:aj.take xs.length=aj:=hU (by rw [d.1];exact bL _);rw [e] at a;have ae:=n8 _ (wc hf);have hlen:(eu aj).length<=16:=by rw [bb,<-d.1];exact r
  refine #[_,D,eu aj,Y,Y,a,.aw,.ak,?_];rw [k8];exact q H' s'
theorem Yo (h:(bS ah)[i]?=some (p,e)):de ((bS ah).take (i+1))=if 0<e then de ((bS ah).take i)++[fh p e] else de ((bS ah).take i):=by
 rw [jN,h];exact Yn _ _ _
theorem YV:(((Str.join (bB 42) (de l)++(if (if (!decide (V.str (Str.join (bB 42) (de l))=V.str Str.empty))=.t then (1:Int) else 0)=1 then bB 42 else Str.empty))++bE p)++bB 94)++bE e=Str.join (bB 42) (de l++[fh p e]):=by
 by_cases h:de l=[]
 ·rw [h];show (((Str.empty++(if (if (!decide (V.str Str.empty=V.str Str.empty))=.t then (1:Int) else 0)=1 then bB 42 else Str.empty))++bE p)++bB 94)++bE e=fh p e;rw [bP rfl];show (((Str.empty++Str.empty)++bE p)++bB 94)++bE e=fh p e;rw [i_,i_];rfl
 ·rw [join_snoc 42 _ _ h];have:Str.join (bB 42) (de l)≠Str.empty:=λ z=>h ((Ca B7).mp z)
  rw [cK λ z=>this (by injection z)];show (((Str.join (bB 42) (de l)++bB 42)++bE p)++bB 94)++bE e=_;unfold fh;simp only [Bd]
theorem xf (b):(if (if b=.t then (1:Int) else 0)=1 then (("*" : String):Str) else Str.empty).length<=1:=by
 rw [vl];cases b<;>decide
def abS:bz:=λ vs H Q Z=>∃ (a:Addr) (ah:bp),vs=[.ref a]/\H a=some (.tup (ah.map V.int))/\ah.length=10/\(∀ e∈ah,0<=e/\e<10 ^ 60)/\∀ H',ax H H'->Q (.str (du (bS ah))) H'
theorem xR (T:aY K mg):b4 P w mg base bY 2 T.MS abS:=by
 refine T.MS.fn.cp uj .bU λ a0 A outer s H vs Q E d h=>?_
 obtain ⟨a,ah,rfl,au,cC,C,q⟩:=h;refine #[_,(aD (ba 1 uj a9)
  (aD (eI dW Y (lB Y Y T.hl (aa (wd (xF T) d aV) (aa (U 0) aq))) (hs Y (cv (cH 2 uj) (cv (cH 3 uj) eh)))
   (aG (bM (bq gW (U 3) aF (bh _))
   (aG (ba 1 uj (bf ea (bf ea (bf ea (bf ea (U 1) (bf BS a9 (dv tW T.mE mB (aa (fY hn (U 1) a9 (bh _)) aq)))) (dv kH T.gj gh (aa (U 2) aq))) a9) (dv kH T.gj gh (aa (U 3) aq)))))
   bJ)))
  (aD (bM (bq cY (U 1) a9 (bh _))
   (aG (aZ a9))
   bJ)
  (aG (aZ (U 1)))))),?_]
 refine #[Y,λ t aI=>#[t,a,Y,#[_,aL.of bc],#[_,aL.of (ax.new aI _ _ au)],?_]];have cu:dC.length=10:=rfl;have B:(ah.map V.int).length=10:=by rw [bb];exact cC
 have aS:=vS C;have m:∀ i,(Str.join (bB 42) (de ((bS ah).take i))).length<=640:=λ i=>by
  have af:=tR 42 (de ((bS ah).take i)) (wm λ r d=>aS r (tM d));have ai:=w_ ((bS ah).take i);rw [i3,tm cC] at ai;omega
 refine BL (xs:=dC) (ys:=ah.map V.int) (λ i σ ao=>(∃ u v,σ=[some (.ref a),some (.str (Str.join (bB 42) (de ((bS ah).take i)))),u,v])/\ax (upd H t (.tup dC)) ao) #[#[.n,.n,by rw [s0];rfl],ax.refl _] ?_ ?_ ?_
 ·rintro i σ ao av ⟨_,s2⟩;exact #[aL.of (s2 _ _ bc),aL.of (s2 _ _ (ax.new aI _ _ au))]
 ·rintro i x y z σ ao j D k ⟨⟨u,v,rfl⟩,s2⟩;rw [xk] at j;obtain ⟨p,rfl,ar⟩:=gH j;obtain ⟨e,rfl,he⟩:=gH D;have l:(bS ah)[i]?=some (p,e):=by rw [lI];exact #[ar,he]
  have b:=aS _ (cg l);have st:=Yo l;have bi:=m i;have I:=o5 (n:=p) b.1.1 .ak;have J:(bE e).length<=60:=o5 b.2.1 b.2.2;refine #[z,_,Y,aL.of bc,Y,_,_,Y,_,_,Y,Y,?_];refine #[_,_,Y,Y,_,Y,c3 (λ h=>?_) (λ h=>?_)]
  ·have af:=cM h;rw [if_pos af] at st;refine #[Y,.inr #[_,Y,_,_,Y,Y,?_,_,_,Y,Y,?_,p,Y,mM b.1.1 .ak,_,bE p,Y,Y,?_,_,_,Y,Y,?_,e,Y,mM b.2.1 b.2.2,_,bE e,Y,Y,?_,?_]]
   ·cases decide (V.str (Str.join (bB 42) (de ((bS ah).take i)))=V.str ("" : String))<;>simp
   ·have f:=xf (!decide (V.str (Str.join (bB 42) (de ((bS ah).take i)))=V.str ("" : String)));rw [b8];omega
   ·have f:=xf (!decide (V.str (Str.join (bB 42) (de ((bS ah).take i)))=V.str ("" : String)));rw [b8,len_app];omega
   ·have f:=xf (!decide (V.str (Str.join (bB 42) (de ((bS ah).take i)))=V.str ("" : String)));rw [b8,len_app,len_app,sO];show _+1<=_;omega
   ·have f:=xf (!decide (V.str (Str.join (bB 42) (de ((bS ah).take i)))=V.str ("" : String)));have G:(("^"):Str).length=1:=by rw [sO];rfl
    rw [b8,len_app,len_app,len_app];omega
   ·refine #[#[some (.int p),some (.int e),?_],ax.more s2 k];rw [st,<-YV,sO,s0,vl];rfl
  ·have af:¬ 0<e:=λ z=>h (bP z)
   rw [if_neg af] at st;rw [st];exact #[#[_,_,Y],ax.more s2 k]
 ·rintro σ ao ⟨⟨u,v,rfl⟩,s2⟩;have o:(bS ah).take (min dC.length (ah.map V.int).length)=bS ah:=hU (by rw [tm cC,cu,B];decide);rw [o];have aH:=q ao ((ax.new aI).trans s2);unfold du at aH;refine #[Y,_,Y,c3 (λ h=>?_) (λ h=>?_)]
  ·have g:=cM h;rw [s0] at g;have c:Str.join (bB 42) (de (bS ah))=Str.empty:=by injection g
   rw [if_pos ((Ca B7).mp c)] at aH;rw [vm];exact aH
  ·have c:¬ de (bS ah)=[]:=λ z=>h (bP (by rw [z,s0];rfl))
   rw [if_neg c] at aH;exact (aH)
inductive L2:bz
 |mk {vs H Q E} (l b:Addr) (bH:bj) (aj:cX) (ag:bp) (m:Int):vs=[.ref l,.ref b,.int m]->H l=some (.lst bH)->eM H bH aj->H b=some (tupI ag)->ag.length=10->nn ag=.t->0<=m->m<=1000->(∀ v H' o,ax H H'->nE (rowsOf aj) m.toNat ag o->y8 H' v o->Q v H')->L2 vs H Q E
theorem abl (T:aY K mg):b4 P w mg base bY 6 T.Mb L2:=by
 refine T.Mb.fn.cp ug .bU λ a0 A outer s H vs Q E g h=>?_
 obtain ⟨l,b,bH,aj,ag,m,rfl,eO,bA,ae,hP,k6,m0,qg,q⟩:=h;refine #[_,(aD (ba 3 ug (bO cz (a4 (N7 T) g aV (aa (U 0) (aa (U 1) (aa (U 2) aq)))) aF (λ _ _=>rfl)))
  (aD (ba 4 ug I6)
  (aD (eI dW Y (w3 Y Y T.xE (aa (U 3) aq)) (hs Y (cv (cH 5 ug) (cv (cH 6 ug) eh)))
   (aD (bM (bq (Hb (d9 g)) (U 6) (U 4) (by with_unfolding_all rfl))
   (aG (aZ (fx (aa a9 (aa (w2 (d9 g) (U 4) (U 6) (λ _ _=>rfl)) (aa (bf gE (U 5) (w2 (d9 g) (U 4) (U 6) (λ _ _=>rfl))) aq))))))
   bJ)
  (aG (H6 (d9 g) (U 4) (U 6) (U 5) Y))))
  (aD (bM (bq mO (a4 (xO T) g aV (aa (U 0) (aa (bO cz (U 3) (jF jL aF) (λ _ _=>rfl)) aq))) e_ (bh _))
   (aG (aZ (fx (aa a9 (aa (bf gE (bR fb T.dz dy (aa (U 3) aq)) aF) (aa (bO cz (U 3) (jF jL aF) (λ _ _=>rfl)) aq))))))
   bJ)
  (aG (aZ (fx (aa a9 aq)))))))),?_]
 refine #[l,b,bH,aj,ag,m,Y,eO,bA,ae,hP,k6,m0,.ak,λ aH r u H1 rs rws ON fr OO s1 qe O D yu adI=>?_];refine #[aH,_,_,_,Y,Y,aK.of qe,Y,λ d ao f2 s2 hd2=>?_];obtain ⟨Qm,Eu,Qn⟩:=yu;have R:=iH aj;have zV:=B3 (rowsOf aj) m.toNat ag;have I:rs.length=(ft (rowsOf aj) m.toNat ag).length+1:=by rw [D.1,Qm]
 refine #[r,rs,Y,s2 _ _ O,?_];refine xc (λ i σ a=>∃ (kvs:List (List Key×V)) (u v:e6),σ=[some (.ref l),some (.ref b),some (.int m),some (.ref r),some (.ref d),u,v]/\ax H1 a/\a d=some (.eK kvs)/\qn (rowsOf aj) ag i/\kk (rowsOf aj) ag i kvs)
  #[[],.n,.n,Y,s2,hd2,λ _ _ _ h=>by omega,kk.nil] (λ i σ a _ ⟨_,_,_,_,s3,_⟩=>s3 _ _ O) ?_ ?_
 ·rintro i x p σ a dq ar ⟨kvs,u,v,rfl,s3,B,n,y⟩;have Qq:=(dK.mp dq).1;obtain ⟨cur,c,Qf,rfl,dE⟩:=D.at dq;have N:goN (rowsOf aj) i ag=some cur:=by rw [<-Eu i (by rw [<-D.1];exact Qq)];exact Qf
  have G:=s3 _ _ dE;have sp:ax a (upd a p (.tup [.int i,.ref c])):=ax.new ar;refine #[p,_,Y,aL.of bc,Y,_,_,Y,_,_,Y,Y,?_];refine #[c,d,cur,kvs,Y,Y,sp _ _ G,sp _ _ B,_,Y,?_];cases aM:b7 kvs (fL cur) with
  | some v0 =>
   obtain ⟨j,lX,rfl,zK⟩:=y.out cur v0 aM;refine b6 ?_;refine #[d,c,cur,kvs,_,Y,Y,sp _ _ B,sp _ _ G,aM,d,c,cur,kvs,_,Y,Y,sp _ _ B,sp _ _ G,aM,_,_,Y,Y,bI,λ t aU f4 s4 aI=>?_];refine q (.ref t) aU (.round j (i-j)) (((s1.trans s3).trans sp).trans s4) #[.ak,.ak,#[cur,zK,by rw [show j+(i-j)=i by omega];exact N],by rw [show j+(i-j)=i by omega];exact n] #[t,Y,?_];rw [aI];show some (fe.tup [_,_,V.int (i-j)])=_;rw [show (i-j)=((i-j:Nat):Int) by omega]
  | none =>
   refine bD ?_;have zx:=y.fresh n N aM;refine #[d,c,cur,kvs,Y,Y,sp _ _ B,sp _ _ G,(by have:=y.len;rw [b8];omega),λ C ha h8=>?_];exact #[_,_,_,Y,λ c o L=>ha c o (λ z=>by rw [z,f2] at L;cases L) (sp _ _ (s3 _ _ L)),h8,zx,y.put N]
 ·rintro σ a ⟨kvs,u,v,rfl,s3,B,n,y⟩;obtain ⟨cur,f⟩:=Bo (rowsOf aj) m.toNat ag;have Z:=lA R hP k6 f;have oP:rws[(ft (rowsOf aj) m.toNat ag).length]?=some cur:=by rw [Eu _ .ak];exact f
  obtain ⟨x,e,EK,rfl,he⟩:=D.of oP;have J:=s1.trans s3;have S:=s3 _ _ O;refine #[_,Y,r,_,_,_,Y,Y,aK.of S,tN I EK,l,e,bH,aj,cur,Y,J _ _ eO,bA.same J,s3 _ _ he,Z.1,Z.2,λ aU s4=>?_];cases M:b_ (rowsOf aj) cur with
  | none =>
   refine #[Y,_,Y,b6 ?_];refine #[r,_,Y,.inl (aK.of (s4 _ _ S)),_,_,Y,Y,_,Y,r,_,_,_,Y,Y,aK.of (s4 _ _ S),tN I EK,bI,λ t C h7 s5 aI=>?_];refine q (.ref t) C (.rests _ cur) ((J.trans s4).trans s5) #[zV,f,M] #[t,e,Y,?_,s5 _ _ (s4 _ _ (s3 _ _ he))];rw [aI];show some (fe.tup [_,V.int ((rs.length:Int)-1),_])=_;rw [I,show (((ft (rowsOf aj) m.toNat ag).length+1:Nat))-1=((ft (rowsOf aj) m.toNat ag).length:Int) by omega]
  | some k =>
   refine #[Y,_,Y,bD #[bI,λ t C h7 s5 aI=>?_]];have X:(ft (rowsOf aj) m.toNat ag).length=m.toNat:=by
    rcases Qn with z|⟨ov,l4,j_⟩
    ·exact z
    ·rw [f] at l4;cases l4;rw [M] at j_;cases j_
   obtain ⟨bg,sv⟩:=Va M;rw [I,X] at n;rw [X] at f;refine q (.ref t) C .iB ((J.trans s4).trans s5) #[#[bg,?_],n] #[t,Y,aI];show (goN (rowsOf aj) m.toNat ag).bind _=_;rw [f];exact sv
inductive Nh:bz
 |mk {vs H Q E} (l b:Addr) (bH:bj) (aj:cX) (ag:bp):vs=[.ref l,.ref b]->H l=some (.lst bH)->eM H bH aj->aj.length<=16->H b=some (tupI ag)->ag.length=10->(∀ aH H' zs,H aH=.n->ax H H'->H' aH=some (.lst zs)->cO H' zs (iU (i5 (rowsOf aj) ag))->Q (.ref aH) H')->Nh vs H Q E
theorem abk (T:aY K mg):b4 P w mg base bY 3 T.Ma Nh:=by
 refine T.Ma.fn.cp xP .bU λ a0 A outer s H vs Q E N h=>?_
 obtain ⟨l,b,bH,aj,ag,rfl,B,bA,uZ,ae,D,q⟩:=h;refine #[_,(aD (ba 2 xP (cW aq))
  (aD (eI dW Y (jc Y T.hX (aa (bR fb T.dz dy (aa (U 0) aq)) aq)) (cH 3 xP)
   (aD (ba 4 xP (a4 (I2 T) N aV (aa (U 0) (aa (U 1) (aa (U 3) (aa (jF jL aF) aq))))))
  (aG (bM (dx.pt (nU (bq qP (bR (JQ Y) T.pe pa (aa (U 4) aq)) aF (bh _)) (n7 (bq cY (a4 (xO T) N aV (aa (U 0) (aa (U 4) aq))) (U 3) (bh _)))))
   (aG (eY (eN hu kB kC lN (U 2) (aa (U 4) aq))))
   bJ))))
  (aG (aZ (bR Mf T.rm rk (aa (U 2) aq)))))),?_]
 have ck:bH.length=(rowsOf aj).length:=by rw [bA.1,kG]
 have fC:=kG aj;refine #[bI,λ f H1 f1 s1 Z=>?_];refine #[l,bH,Y,.inl (aK.of (s1 _ _ B)),_,Y,.ak,.ak,jb (λ i σ ao=>(∃ u v,σ=[some (.ref l),some (.ref b),some (.ref f),u,v])/\ax H ao/\∃ zs,ao f=some (.lst zs)/\cO ao zs ((List.range i).filterMap (fw (rowsOf aj) ag))) #[#[.n,.n,Y],s1,[],Z,cO.nil] ?_ ?_]
 ·rintro i σ ao av ⟨⟨u,v,rfl⟩,s2,zs,m,n⟩;have u3:i<(rowsOf aj).length:=by omega
  have j:=cV u3;generalize (rowsOf aj)[i]=c at j;have R:=iH aj c (cg j);refine #[_,Y,l,b,bH,aj,ag,c,i,-1,by rw [show 0+i=(i:Int) by omega];rfl,s2 _ _ B,bA.same s2,s2 _ _ ae,D,j,#[.aw,.aw],λ w t s4 hw=>?_];have I:(bK ag c (-1)).length=10:=t8 D R;have L:(List.range (i+1)).filterMap (fw (rowsOf aj) ag)=(List.range i).filterMap (fw (rowsOf aj) ag)++(fw (rowsOf aj) ag i).toList:=by
   rw [List.range_succ,List.filterMap_append];cases e:fw (rowsOf aj) ag i<;>simp [e]
  have x:fw (rowsOf aj) ag i=if nn (bK ag c (-1))=.t/\b_ (rowsOf aj) (bK ag c (-1))=some i then some (bK ag c (-1)) else .n:=by
   unfold fw;rw [ra j]
  have s5:=s2.trans s4;have hh:zs.length<=i:=by
   rw [n.1];exact dT (By _ _) (by rw [i9];exact bL _)
  have skip:fw (rowsOf aj) ag i=.n->∀ g,ax t g->(∃ u v,[some (V.ref l),some (.ref b),some (.ref f),some (.int (0+i)),some (.ref w)]=[some (.ref l),some (.ref b),some (.ref f),u,v])/\ax H g/\∃ zs,g f=some (.lst zs)/\cO g zs ((List.range (i+1)).filterMap (fw (rowsOf aj) ag)):=by
   intro e g a;refine #[#[_,_,Y],s5.trans a,zs,a _ _ (s4 _ _ m),?_];rw [L,e];show cO g zs (_++[]);rw [nQ];exact (n.same s4).same a
  refine #[w,bK ag c (-1),Y,aL.of hw,(by intro z;rw [z] at I;cases I),λ M jk j7=>#[_,_,Y,Y,_,Y,?_]];have S:=J9 jk j7;rw [<-S];cases C:nn (bK ag c (-1)) with
  | false=>exact bD (bD (skip (by rw [x,C,if_neg (by rintro ⟨z,_⟩;cases z)]) t (ax.refl t)))
  | true =>
   refine b6 #[l,w,bH,aj,bK ag c (-1),Y,s5 _ _ B,bA.same s5,hw,I,C,λ g a=>#[?_,_,Y,?_]]
   ·cases b_ (rowsOf aj) (bK ag c (-1))<;>rfl
   ·by_cases p:b_ (rowsOf aj) (bK ag c (-1))=some i
    ·rw [p];rw [show decide (gT (some i)=V.int (0+i))=.t from bP (by rw [show (0:Int)+(i:Int)=(i:Int) by omega];rfl)];refine b6 #[.inl #[Y,_,aK.of (a _ _ (s4 _ _ m))],f,zs,.ref w,Y,Y,a _ _ (s4 _ _ m),by rw [b8];omega,λ hy J X=>?_];refine #[#[_,_,Y],?_,_,X,?_]
     ·intro d o y;exact J d o (λ z=>by rw [z,f1] at y;cases y) (a _ _ (s5 _ _ y))
     ·rw [L,x,C,if_pos #[Y,p]];have zS:=(n.same s4).same a;exact cO.but (zS.app (cO.one #[w,Y,a _ _ hw])) (a _ _ (s4 _ _ m)) J
    ·rw [show decide (gT (b_ (rowsOf aj) (bK ag c (-1)))=V.int (0+(i:Int)))=.f from cK λ z=>p ?_]
     ·exact bD (skip (by rw [x,if_neg (by rintro ⟨_,z⟩;exact p z)]) g a)
     ·cases e:b_ (rowsOf aj) (bK ag c (-1)) with
      | none=>rw [e] at z;cases z
      | some k =>
       rw [e] at z;have ib:(k:Int)=0+(i:Int):=by injection z
       rw [show k=i by omega]
 ·rintro σ ao ⟨⟨u,v,rfl⟩,s2,zs,m,n⟩;rw [ck] at n;have G:=n;have adE:zs.length<=16:=by
   rw [G.1];exact dT (xo _ _) .ak
  refine #[f,zs,_,Y,m,G,λ c j z=>?_,.ak,λ r O aU s3 qu=>q r O _ (s2.free aU) (s2.trans s3) qu (G.same s3).Ff];have:=(JI (iH aj) D j).2.1;rw [z] at this;cases this
def qG (H:aC) (way:Str) (v bC:V) (r:Str):Prop:=(∃ x,v=.str x/\((way = "put" /\ ∃ (a:Addr) (ah:bp),bC=.ref a/\H a=some (tupI ah)/\r=Str.join (bB 32) ["put", x,du (bS ah)])\/(way = "run" /\ ∃ m,bC=.int m/\r=Str.join (bB 32) ["run", x,bE m])\/(way = "drop" /\ r=Str.join (bB 32) ["drop", x])))\/(way = "undo" /\ r = "undo")
inductive L5:bz
 |mk {vs H Q E} (eo:Addr) (way:Str) (v bC:V):vs=[.ref eo]->H eo=some (.tup [.str way,v,bC])->hR H way v bC->(∀ r H',ax H H'->qG H way v bC r->Q (.str r) H')->L5 vs H Q E
theorem aaA (T:aY K mg):b4 P w mg base bY 3 T.KJ L5:=by
 refine T.KJ.fn.cp xG .bU λ a0 A outer s H vs Q E i h=>?_
 obtain ⟨eo,way,v,bC,rfl,f,ep,q⟩:=h;refine #[_,(aD (ku (U 0) (hs Y (cv (cH 1 xG) (cv (cH 2 xG) (cv (cH 3 xG) eh)))))
  (aD (bM (bq cY (U 1) a9 (bh _))
   (aG (aZ a9))
   bJ)
  (aD (bM (bq cY (U 1) a9 (bh _))
   (aG (aZ (bf ea (bf ea (bf ea a9 (U 2)) a9) (a4 (xR T) i aV (aa (U 3) aq)))))
   bJ)
  (aD (bM (bq cY (U 1) a9 (bh _))
   (aG (aZ (bf ea (bf ea (bf ea a9 (U 2)) a9) (dv kH T.gj gh (aa (U 3) aq)))))
   bJ)
  (aG (aZ (bf ea a9 (U 2)))))))),?_]
 have b:∀ {n:Nat},n<=1000000->n<=sizeLine:=λ {n} h=>by rw [b8];omega
 refine #[eo,_,Y,aL.of f,Y,_,_,Y,_,_,Y,_,_,Y,Y,Y,_,Y,?_];rcases ep with ⟨x,rfl,nm,h⟩|⟨rfl,rfl,rfl⟩
 ·have fq:way ≠ "undo" := by rcases h with ⟨rfl,_⟩|⟨rfl,_⟩|⟨rfl,_⟩<;>decide
  have j:=nm.w.2.2;refine hk fq #[Y,_,Y,?_];rcases h with ⟨rfl,a,ah,rfl,au,cC,c⟩|⟨rfl,m,rfl,m0,l⟩|⟨rfl,rfl⟩
  ·have d:∀ e∈ah,0<=e/\e<10 ^ 60:=λ e he=>#[(c e he).1,by have:=(c e he).2;omega]
   have g:=rb cC d;refine iY #["put ", x,Y,Y,b (by show 4+x.length<=_;omega),_,_,Y,Y,b (by rw [len_app];show 4+x.length+1<=_;omega),a,ah,Y,au,cC,d,λ H1 s1=>#[_,_,Y,Y,b (by rw [len_app,len_app];show 4+x.length+1+_<=_;omega),q _ H1 s1 (.inl #[x,Y,.inl #[Y,a,ah,Y,au,?_]])]];exact Bj "put" "put " x _ (by decide +kernel)
  ·have g:=hV (k:=2) m0 .ak;refine hk .aw #[Y,_,Y,iY #["run ", x,Y,Y,b (by show 4+x.length<=_;omega),_,_,Y,Y,b (by rw [len_app];show 4+x.length+1<=_;omega),m,Y,A1 .ak,_,bE m,Y,Y,b (by rw [len_app,len_app];show 4+x.length+1+_<=_;omega),q _ H (ax.refl _) (.inl #[x,Y,.inr (.inl #[Y,m,Y,?_])])]];exact Bj "run" "run " x _ (by decide +kernel)
  ·refine hk .aw #[Y,_,Y,hk .aw #["drop ", x,Y,Y,b (by show 5+x.length<=_;omega),q _ H (ax.refl _) (.inl #[x,Y,.inr (.inr #[Y,?_])])]];exact Gy "drop" "drop " x (by decide +kernel)
 ·exact iY (q _ H (ax.refl _) (.inr #[Y,Y]))
theorem abJ (T:aY K mg):b4 P w mg base bY 3 T.MR NN:=by
 refine T.MR.fn.cp abQ .bU λ a0 A outer s H vs Q E r h=>?_
 obtain ⟨v,o,rfl,i,k,q⟩:=h;refine #[_,(aD (bM (bq cY (bO d6 (U 0) aF (λ Z Z=>rfl)) a9 (bh _))
   (aG (aZ a9))
   bJ)
  (aD (bM (bq cY (bO d6 (U 0) aF (λ Z Z=>rfl)) a9 (bh _))
   (aG (aZ (bf ea (bf ea (bf ea a9 (dv kH T.gj gh (aa (bO d6 (U 0) aF (λ Z Z=>rfl)) aq))) a9) (a4 (xR T) r aV (aa (bO d6 (U 0) aF (λ Z Z=>rfl)) aq)))))
   bJ)
  (aG (aZ (bf ea (bf ea (bf ea a9 (dv kH T.gj gh (aa (bO d6 (U 0) aF (λ Z Z=>rfl)) aq))) a9) (dv kH T.gj gh (aa (bO d6 (U 0) aF (λ Z Z=>rfl)) aq))))))),?_]
 have e:∀ {n:Nat},n<=1000000->n<=sizeLine:=λ {n} h=>by rw [b8];omega
 cases o with
 | iB =>
  obtain ⟨a,rfl,au⟩:=i;exact #[a,_,_,_,Y,Y,aL.of au,Y,Y,_,Y,iY (q H (ax.refl _))]
 | rests n c =>
  obtain ⟨a,d,rfl,au,hd⟩:=i;obtain ⟨g,f,j⟩:=k;have m:(bE n).length<=61:=hV .ak .ak;have p:=rb f j;refine #[a,_,_,_,Y,Y,aL.of au,Y,Y,_,Y,hk .aw #[a,_,_,_,Y,Y,aL.of au,Y,Y,_,Y,iY ?_]];refine #[a,_,_,_,Y,Y,aL.of au,Y,n,Y,mM .ak g,_,bE n,Y,Y,e (by show 6+_<=_;omega),_,_,Y,Y,e (by rw [len_app];show 6+_+1<=_;omega),a,_,_,_,Y,Y,aL.of au,Y,d,c,Y,hd,f,j,λ H1 s1=>#[_,_,Y,Y,e (by rw [len_app,len_app];show 6+_+1+_<=_;omega),q H1 s1]]
 | round b l =>
  obtain ⟨a,rfl,au⟩:=i;obtain ⟨g,f⟩:=k;have m:(bE b).length<=61:=hV .ak .ak;have p:(bE l).length<=61:=hV .ak .ak;refine #[a,_,_,_,Y,Y,aL.of au,Y,Y,_,Y,hk .aw #[a,_,_,_,Y,Y,aL.of au,Y,Y,_,Y,hk .aw ?_]];exact #[a,_,_,_,Y,Y,aL.of au,Y,b,Y,mM .ak g,_,bE b,Y,Y,e (by show 6+_<=_;omega),_,_,Y,Y,e (by rw [len_app];show 6+_+1<=_;omega),a,_,_,_,Y,Y,aL.of au,Y,l,Y,mM .ak f,_,bE l,Y,Y,e (by rw [len_app,len_app];show 6+_+1+_<=_;omega),q H (ax.refl _)]
end
section
variable {M N:List Addr} {aR H H1 H':aC} {c:Addr}
theorem c8.one (a:c8 H c (.bW bX)) (b:c8 H c (.bW d)):bX=d:=by
 rcases a with a|⟨u,a⟩<;>rcases b with b|⟨e,b⟩<;>rw [a] at b<;>cases b<;>rfl
def bN (M:List Addr) (H H':aC):Prop:=∀ c o,c∉M->H c=some o->H' c=some o\/∃ bX,c8 H c (.bW bX)/\c8 H' c (.bW bX)
theorem bN.same (s:ax H H'):bN M H H':=λ c o Z h=>.inl (s _ _ h)
theorem bN.but (b:br p H H'):bN [p] H H':=λ c o n h=>.inl (b _ _ (λ z=>n (by rw [z];exact dH.mpr Y)) h)
theorem bN.k7 (k:jr a b H H'):bN [a,b] H H':=λ c o n h=>.inl (k _ _ (λ z=>n (by rw [z];simp)) (λ z=>n (by rw [z];simp)) h)
theorem bN.mono (k:bN M H H') (s:∀ c∈M,c∈N):bN N H H':=λ c o n h=>k c o (λ z=>n (s c z)) h
theorem bN.dk (k:bN M H H') (n:c∉M) (h:c8 H c (.bW bX)):c8 H' c (.bW bX):=by
 have ai:=h;rcases h with h|⟨u,h⟩
 ·rcases k _ _ n h with h'|⟨d,a,b⟩
  ·exact .inl h'
  ·rw [c8.one ai a];exact b
 ·rcases k _ _ n h with h'|⟨d,a,b⟩
  ·exact .inr #[u,h']
  ·rw [c8.one ai a];exact b
theorem bN.trans (k:bN M H H1) (dN:bN M H1 H'):bN M H H':=λ c o n h=>by
 rcases k c o n h with af|⟨bX,a,b⟩
 ·rcases dN c o n af with ai|⟨bX,a,b⟩
  ·exact .inl ai
  ·refine .inr #[bX,?_,b];rcases a with r|⟨u,r⟩<;>rw [af] at r<;>cases r
   ·exact .inl h
   ·exact .inr #[_,h]
 ·exact .inr #[bX,a,dN.dk n b]
theorem bN.at_ (k:bN M H H') (n:c∉M) (h:H c=some o) (cD:∀ bX,¬ c8 H c (.bW bX)):H' c=some o:=(k c o n h).elim id (by rintro ⟨bX,r,_⟩;exact absurd r (cD bX))
theorem HV (h:H c=some (.lst xs)) (bX):¬ c8 H c (.bW bX):=λ r=>by
 rcases r with r|⟨u,r⟩<;>rw [h] at r<;>cases r
theorem VI (h:H c=some (.tup xs)) (bX):¬ c8 H c (.bW bX):=λ r=>by
 rcases r with r|⟨u,r⟩<;>rw [h] at r<;>cases r
theorem HU (h:H c=some (.ins C aE fl)) (bX):¬ c8 H c (.bW bX):=λ r=>by
 rcases r with r|⟨u,r⟩<;>rw [h] at r<;>cases r
theorem bN.lst (k:bN M H H') (n:c∉M) (h:H c=some (.lst xs)):H' c=some (.lst xs):=k.at_ n h (HV h)
theorem bN.DV (k:bN M H H') (n:c∉M) (h:aK K H c xs):aK K H' c xs:=by
 rcases h with (h|⟨u,h⟩)|h
 ·exact .inl (.inl (k.lst n h))
 ·exact .inl (.inr #[u,k.at_ n h λ bX r=>by rcases r with r|⟨u,r⟩<;>rw [h] at r<;>cases r])
 ·exact .inr h
def ic (aR H:aC) (M:List Addr):Prop:=∀ m∈M,(∃ ys,H m=some (.lst ys))\/((∃ o,aR m=some o)/\∃ bX,H m=some (.bW bX))
theorem ic.tup (m:ic aR H M) (h:H c=some (.tup ys)):c∉M:=λ z=>by
 rcases m c z with ⟨ys,e⟩|⟨_,bX,e⟩<;>rw [h] at e<;>cases e
theorem ic.ins (m:ic aR H M) (h:H c=some (.ins C aE fl)):c∉M:=λ z=>by
 rcases m c z with ⟨ys,e⟩|⟨_,bX,e⟩<;>rw [h] at e<;>cases e
theorem bN.cf (k:bN M H H') (m:ic aR H M):e5 H H':=λ c ys h=>k.at_ (m.tup h) h (VI h)
theorem ic.row (m:ic aR H M) (n:aR c=.n) (h:c8 H c (.bW bX)):c∉M:=λ z=>by
 rcases m c z with ⟨ys,e⟩|⟨⟨o,e⟩,_⟩
 ·exact HV e bX h
 ·rw [n] at e;cases e
end
theorem eM.cf (h:eM H xs aj) (k:e5 H H'):eM H' xs aj:=#[h.1,λ i x m=>by
 obtain ⟨a,b,c,d,e,af,ai,f,g,j,l⟩:=h.2 i x m;exact #[a,b,c,d,e,af,ai,k _ _ f,k _ _ g,k _ _ j,l]]
theorem sub_len {α: Type} [DecidableEq α]:∀ {l m:List α},l.Nodup->(∀ x∈l,x∈m)->l.length<=m.length
 | [],_,_,_=>fE _
 | x::l,m,cD,h=>by
  have c:=mK.mp cD;have a:=h x dI;have:=sub_len (m:=m.erase x) c.2 λ y b=>(List.mem_erase_of_ne λ z=>c.1 (by rw [<-z];exact b)).mpr (h y (dJ _ b))
  rw [List.length_erase_of_mem a] at this;have ar:=List.length_pos_of_mem a;rw [fW];omega
structure o9 (N:Nat) (e:Ent):Prop where
 l:e.1.length=10
 b:∀ x∈e.1,0<=x/\x<=1000000+8000*(N:Int)
 s:0<=e.2/\e.2<=200*(N:Int)
theorem o9.n (h:o9 N e):nn e.1=.t:=g0.mpr λ x a=>(h.b x a).1
theorem o9.mono (h:o9 N e) (k:N<=M):o9 M e:=#[h.l,λ x a=>by have:=h.b x a;omega,by have:=h.s;omega]
def gg (N:Nat) (aN:d3):Prop:=(dR aN).Nodup/\∀ p∈aN,p.1∈six/\o9 N p.2
theorem gg.nil:gg 0 []:=#[List.nodup_nil,λ p h=>by cases h]
theorem gg.perm (h:gg N b) (p:c.Perm b):gg N c:=#[(p.map _).nodup_iff.mpr h.1,λ q a=>h.2 q (p.mem_iff.mp a)]
theorem gg.small (h:gg N b):b.length<=6:=by
 have:=sub_len h.1 λ x a=>by
  obtain ⟨p,ar,rfl⟩:=c0.mp a;exact (h.2 p ar).1
 rw [bb] at this;exact this
theorem U9 (h:x∈six):(r6 x/\x.length<=1000)/\fu (.str x)=.t:=by
 have key:∀ y∈six,(((cn y).all λ c=>decide (c<128))&&decide (y.length<=1000)&&fu (.str y))=.t:=by decide +kernel
 have:=key x h;rw [eX,eX] at this;exact #[#[λ c a=>cM (gp.mp this.1.1 c a),cM this.1.2],this.2]
theorem gg.put (h:gg N b) (c:x∈six) (he:o9 (N+1) e):gg (N+1) (fR b x e):=by
 refine #[KX h.1 _ _,λ p ar=>?_];by_cases ay:x∈dR b
 ·rw [rh ay] at ar;obtain ⟨q,a,rfl⟩:=c0.mp ar;split
  ·exact #[(h.2 q a).1,he]
  ·exact #[(h.2 q a).1,(h.2 q a).2.mono .ak]
 ·rw [pX ay] at ar;rcases i1.mp ar with z|z
  ·exact #[(h.2 p z).1,(h.2 p z).2.mono .ak]
  ·rw [dH.mp z];exact #[c,he]
theorem gg.drop (h:gg N b) (x):gg (N+1) (fS b x):=#[aaq h.1 _,λ p ar=>#[(h.2 p (hp.mp ar).1).1,(h.2 p (hp.mp ar).1).2.mono .ak]]
structure iO where
 r:Addr
 t:Addr
 bX:List (Key×V)
 aN:d3
 x:Str
 w:V
noncomputable def qK (cP:Addr):List iO->Addr
 | []=>cP
 | l::_=>l.r
noncomputable def qJ:List iO->List (Key×V)
 | []=>[]
 | l::_=>l.bX
noncomputable def gC:List iO->d3
 | []=>[]
 | l::_=>l.aN
noncomputable def iT (cP:Addr):List iO->bj
 | []=>[.ref cP]
 | l::ls=>iT cP ls++[.ref l.r]
noncomputable def gb:List iO->bj
 | []=>[]
 | l::ls=>gb ls++[.ref l.t]
theorem nV (cP):∀ ls,(iT cP ls).length=ls.length+1
 | []=>rfl
 | l::ls=>by show (iT cP ls++[V.ref l.r]).length=_;rw [dn,nV cP ls];rfl
theorem Bh:∀ ls,(gb ls).length=ls.length
 | []=>rfl
 | l::ls=>by show (gb ls++[V.ref l.t]).length=_;rw [dn,Bh ls];rfl
theorem Bm (cP) (ls):es (iT cP ls) (-1)=some (.ref (qK cP ls)):=by
 refine tN (nV cP ls) ?_;cases ls with
 | nil=>rfl
 | cons l ls =>
  show (iT cP ls++[V.ref l.r])[ls.length+1]?=_;rw [kq (by rw [nV];exact bL _),nV];simp [qK]
def qE (H:aC) (w:V):Option Ent->Prop
 | none=>w=.aX
 | some e=>la H w e
theorem qE.cf (k:e5 H H'):∀ {o:Option Ent},qE H w o->qE H' w o
 | none,h=>h
 | some e,h=>la.cf h k
theorem c4.hold (d:c4 H kvs aN) (h:qE H w o):c4 H (vO kvs x w) (pk aN x o):=by
 cases o with
 | none =>
  obtain rfl:w=.aX:=h;exact d.drop
 | some e =>
  obtain ⟨a,b,rfl,af,ai⟩:=id h;exact d.put h
theorem c4.opt (d:c4 H kvs aN):qE H ((b7 kvs (cc x)).getD .aX) (df aN x):=by
 cases h:df aN x with
 | none=>rw [d.none h];rfl
 | some e =>
  obtain ⟨u,a,he⟩:=d.some h;rw [a];exact he
structure To (aR H:aC) (l:iO) (b:d3) (N:Nat):Prop where
 new:aR l.r=.n
 dk:c8 H l.r (.bW l.bX)
 DE:c4 H l.bX l.aN
 aI:H l.t=some (.tup [.str l.x,l.w])
 nk:qE H l.w (df b l.x)
 un:∀ c:d3,c.Perm l.aN->(pk c l.x (df b l.x)).Perm b
 gL:gg N l.aN
 aA:df b l.x=.n->∃ e,df l.aN l.x=some e
def jC (aR H:aC):List iO->Prop
 | []=>True
 | l::ls=>To aR H l (gC ls) (ls.length+1)/\jC aR H ls
theorem jC.d7 (k:bN M H H') (m:ic aR H M):∀ {ls:List iO},jC aR H ls->jC aR H' ls
 | [],_=>trivial
 | l::ls,⟨h,t⟩=>#[#[h.new,k.dk (m.row h.new h.dk) h.dk,h.DE.cf (k.cf m),k.cf m _ _ h.aI,h.nk.cf (k.cf m),h.un,h.gL,h.aA],t.d7 k m]
theorem jC.good:∀ {ls:List iO},jC aR H ls->gg ls.length (gC ls)
 | [],_=>gg.nil
 | l::ls,h=>h.1.gL
theorem jC.dict:∀ {ls:List iO},jC aR H ls->c4 H (qJ ls) (gC ls)
 | [],_=>.nil
 | l::ls,h=>h.1.DE
theorem jC.top (a:c8 H cP (.bW [])):∀ {ls:List iO},jC aR H ls->c8 H (qK cP ls) (.bW (qJ ls))
 | [],_=>a
 | l::ls,h=>h.1.dk
theorem IL:∀ {k j:Nat} {q:bp},goN rows k p=some q->j<=k->∃ r,goN rows j p=some r
 | 0,j,q,h,a=>by rw [show j=0 by omega];exact #[q,h]
 | k+1,j,q,h,a=>by
  by_cases e:j=k+1
  ·rw [e];exact #[q,h]
  ·obtain ⟨r,af,_⟩:=q0.mp h;exact IL af .ak
theorem wY (af:goN rows k p=some r) (d:b_ rows r=.n) (ai:goN rows j p=some e):j<=k:=Nat.le_of_not_lt λ z=>by
 obtain ⟨bg,c⟩:=IL ai z;have b:(goN rows k p).bind (ew rows)=some bg:=c;rw [af] at b;obtain ⟨_,_,a,_⟩:=Cq b;rw [d] at a;cases a
theorem Xi (ay:k<=m) (d:j<=m) (af:goN rows k p=some r) (a:k=m\/b_ rows r=.n) (ai:goN rows j p=some c) (b:j=m\/b_ rows c=.n):j=k:=by
 rcases a with a|a<;>rcases b with b|b
 ·omega
 ·have:=wY ai b af;omega
 ·have:=wY af a ai;omega
 ·have:=wY af a ai;have:=wY ai b af;omega
section
variable {P:Program} {w:World} {K:aT} {mg:Str->cE} {base:Heap}
structure f_ where
 bT:Addr
 zf:Addr
 bn:Addr
 pr:Addr
 hd:Addr
 dl:Addr
 aQ:Addr
 aW:Addr
 cP:Addr
 aE:Addr
 xs:bj
 bH:bj
 aj:cX
structure gI (aR H:aC) (S:f_) (ks:bj) (kvs:List (Key×V)) (aN:d3) (ls:List iO):Prop where
 hd:H S.hd=some (.bW kvs)
 dl:H S.dl=some (.lst (gb ls))
 aW:H S.aW=some (.lst ks)
 D:c4 H kvs aN
 pm:aN.Perm (gC ls)
 cP:c8 H S.cP (.bW [])
 st:jC aR H ls
theorem gI.d7 (d:gI aR H S ks kvs aN ls) (k:bN M H H') (m:ic aR H M) (cD:∀ c∈[S.dl,S.aW,S.cP],c∉M) (hd:H' S.hd=some (.bW kvs)):gI aR H' S ks kvs aN ls :=
 #[hd,k.lst (cD _ .zs) d.dl,k.lst (cD _ .zs) d.aW,d.D.cf (k.cf m),d.pm,k.dk (cD _ .zs) d.cP,d.st.d7 k m]
def eJ (aR H:aC) (S:f_) (n:Nat):Prop:=∃ kvs aN ls,ls.length<=n/\gI aR H S (iT S.cP ls) kvs aN ls
theorem eJ.mono (g:eJ aR H S n) (h:n<=b3):eJ aR H S b3:=by
 obtain ⟨kvs,aN,ls,af,ai⟩:=g;exact #[kvs,aN,ls,.ak,ai]
theorem eJ.same (g:eJ aR H S n) (s:ax H H'):eJ aR H' S n:=by
 obtain ⟨kvs,aN,ls,af,ai⟩:=g;exact #[kvs,aN,ls,af,ai.d7 (M:=[]) (bN.same s) (λ Z h=>by cases h) (λ Z Z h=>by cases h) (s _ _ ai.hd)]
structure Ev (T:aY K mg) (aR:aC) (S:f_):Prop where
 oQ:aR S.bT=some (.ins T.d5 S.zf [("bench", .ref S.bn)])
 ae:aR S.bn=some (.ins T.fk S.aE [("program", .ref S.pr),("held", .ref S.hd),("deeds", .ref S.dl)])
 jv:aR S.pr=some (.tup S.xs)
 hf:d0 aR S.xs S.aj
 k_:S.xs.length<=16
 sy:aR S.aQ=some (.lst S.bH)
 bA:eM aR S.bH S.aj
 jx:aR S.hd=some (.bW [])
 oU:aR S.dl=some (.lst [])
 oV:aR S.aW=some (.lst [.ref S.cP])
 sA:aR S.cP=some (.bW [])
 RF:S.cP≠S.hd
 EX:S.dl≠S.aW
structure x4 (S qb:f_):Prop where
 af:S.hd≠qb.hd
 ai:S.hd≠qb.cP
 jh:S.dl≠qb.dl
 d2:S.dl≠qb.aW
 k1:S.aW≠qb.dl
 k2:S.aW≠qb.aW
noncomputable def dm (S:Bool->f_):List Addr:=[(S .f).hd,(S .f).dl,(S .f).aW,(S .t).hd,(S .t).dl,(S .t).aW]
theorem BQ (S) (b):∀ c∈[(S b).hd,(S b).dl,(S b).aW],c∈dm S:=λ c a=>by
 unfold dm;simp only [b5,dA,dB] at a ⊢;cases b
 ·rcases a with h|h|h<;>simp [h]
 ·rcases a with h|h|h<;>simp [h]
structure c5 (T:aY K mg) (aR:aC) (S:Bool->f_) (a bw ck aJ bX:Addr) (ns ag:bp):Prop where
 sc:∀ H',bN (dm S) aR H'->aK K H' a (ns.map V.int)
 cu:aR bw=some (.tup (ag.map V.int))
 RL:ag.length<=10
 pm:∀ m∈ag,0<=m/\m<10
 zV:aR ck=some (.lst [.ref (S .f).aQ,.ref (S .t).aQ])
 Qd:aR aJ=some (.lst [.ref (S .f).bT,.ref (S .t).bT])
 mb:aR bX=some (.lst [.ref (S .f).aW,.ref (S .t).aW])
 nm:∀ c∈[ck,aJ,bX,(S .f).aQ,(S .t).aQ],c∉dm S
 ev:∀ b,Ev T aR (S b)
 ap:∀ b,x4 (S b) (S (!b))
section
variable {T:aY K mg} {aR H H':aC} {S:Bool->f_} {a bw ck aJ bX:Addr} {ns ag:bp}
theorem c5.iu (e:c5 T aR S a bw ck aJ bX ns ag):ic aR aR (dm S):=λ m hm=>by
 unfold dm at hm;simp only [b5,dA,dB] at hm;rcases hm with rfl|rfl|rfl|rfl|rfl|rfl
 ·exact .inr #[#[_,(e.ev .f).jx],_,(e.ev .f).jx]
 ·exact .inl #[_,(e.ev .f).oU]
 ·exact .inl #[_,(e.ev .f).oV]
 ·exact .inr #[#[_,(e.ev .t).jx],_,(e.ev .t).jx]
 ·exact .inl #[_,(e.ev .t).oU]
 ·exact .inl #[_,(e.ev .t).oV]
theorem c5.cf (e:c5 T aR S a bw ck aJ bX ns ag) (k:bN (dm S) aR H):e5 aR H:=k.cf e.iu
theorem c5.PE (e:c5 T aR S a bw ck aJ bX ns ag) (k:bN (dm S) aR H) (b):H (S b).bn=some (.ins T.fk (S b).aE [("program", .ref (S b).pr),("held", .ref (S b).hd),("deeds", .ref (S b).dl)]) :=
 k.at_ (e.iu.ins (e.ev b).ae) (e.ev b).ae (HU (e.ev b).ae)
theorem c5.zg (e:c5 T aR S a bw ck aJ bX ns ag) (k:bN (dm S) aR H) (b):H (S b).bT=some (.ins T.d5 (S b).zf [("bench", .ref (S b).bn)]) :=
 k.at_ (e.iu.ins (e.ev b).oQ) (e.ev b).oQ (HU (e.ev b).oQ)
theorem c5.Af (e:c5 T aR S a bw ck aJ bX ns ag) (k:bN (dm S) aR H):H ck=some (.lst [.ref (S .f).aQ,.ref (S .t).aQ]):=k.lst (e.nm ck .zs) e.zV
theorem c5.uV (e:c5 T aR S a bw ck aJ bX ns ag) (k:bN (dm S) aR H):H aJ=some (.lst [.ref (S .f).bT,.ref (S .t).bT]):=k.lst (e.nm aJ .zs) e.Qd
theorem c5.z1 (e:c5 T aR S a bw ck aJ bX ns ag) (k:bN (dm S) aR H):H bX=some (.lst [.ref (S .f).aW,.ref (S .t).aW]):=k.lst (e.nm bX .zs) e.mb
theorem c5.tab (e:c5 T aR S a bw ck aJ bX ns ag) (k:bN (dm S) aR H) (b):H (S b).aQ=some (.lst (S b).bH)/\eM H (S b).bH (S b).aj :=
 #[k.lst (e.nm _ (by cases b<;>simp)) (e.ev b).sy,(e.ev b).bA.cf (e.cf k)]
theorem c5.z8 (e:c5 T aR S a bw ck aJ bX ns ag) (k:bN (dm S) aR H) (b):H (S b).pr=some (.tup (S b).xs)/\d0 H (S b).xs (S b).aj :=
 #[e.cf k _ _ (e.ev b).jv,(e.ev b).hf.cf (e.cf k)]
theorem c5.bn (e:c5 T aR S a bw ck aJ bX ns ag) (k:bN (dm S) aR H) (b) (d:gI aR H (S b) ks kvs aN ls):eb T H (S b).bn (S b).pr (S b).hd (S b).dl kvs (gb ls) :=
 #[#[_,e.PE k b],d.hd,d.dl]
theorem at2 (x y : α) (b:Bool):es [x,y] (if b then (1:Int) else 0)=some (if b then y else x):=by cases b<;>rfl
theorem pg {f:f_->Addr} (b:Bool):(if b then V.ref (f (S .t)) else V.ref (f (S .f)))=V.ref (f (S b)):=by cases b<;>rfl
theorem c5.other (e:c5 T aR S a bw ck aJ bX ns ag) (g:eJ aR H (S (!b)) n) (k:bN [(S b).hd,(S b).dl,(S b).aW] H H') (m:ic aR H [(S b).hd,(S b).dl,(S b).aW]) (h:∀ o,H (S (!b)).hd=some o->H' (S (!b)).hd=some o):eJ aR H' (S (!b)) n:=by
 obtain ⟨kvs,aN,ls,af,ai⟩:=g;have A:=e.ap b;have d:=e.ev (!b);have E:=e.ev b;refine #[kvs,aN,ls,af,ai.d7 k m (λ c f=>?_) ?_]
 ·simp only [b5,dA,dB] at f ⊢;rcases f with rfl|rfl|rfl
  ·rintro (z|z|z)
   ·exact cq d.oU E.jx nofun z
   ·exact A.jh z.symm
   ·exact A.k1 z.symm
  ·rintro (z|z|z)
   ·exact cq d.oV E.jx nofun z
   ·exact A.d2 z.symm
   ·exact A.k2 z.symm
  ·rintro (z|z|z)
   ·exact A.ai z.symm
   ·exact cq d.sA E.oU nofun z
   ·exact cq d.sA E.oV nofun z
 ·exact h _ ai.hd
end
end
theorem JY (h:c≠d):∀ l,(∀ y∈l,d8 c y)->d8 c (Str.join (bB d) l)
 | [],_=>by intro z;cases z
 | [x],g=>g x .zs
 | x::y::r,g=>by
  rw [kF];exact ((g x .zs).app (by unfold d8;rw [show cn (bB d)=[d] from rfl];simpa using h)).app (JY h (y::r) λ z a=>g z (by simp only [b5] at a ⊢;exact .inr a))
set_option tactic.hygienic true in
theorem TA (cC:ah.length=10) (a:∀ e∈ah,0<=e/\e<10 ^ 60):d8 32 (du (bS ah))/\0<(du (bS ah)).length/\(du (bS ah)).length<=1000:=by
 refine #[?_,?_,dT (rb cC a) .aw]
 ·unfold du;split
  ·unfold d8;decide
  ·refine JY .aw _ λ y b=>?_
   obtain ⟨f,hm,rfl⟩:=c0.mp b;have:=V5 f hm;exact ((kD this.1 .ak).app (by unfold d8 cn;decide)).app (kD this.2 .ak)
 ·unfold du;split
  ·decide
  ·next aB =>
   refine Nat.pos_of_ne_zero λ z=>aB ((Ca B7).mp (rj ?_))
   rw [<-pV] at z;rw [List.length_eq_zero_iff.mp z];rfl
theorem ZR {b:d3} (cD:(dR b).Nodup) (h:df b x=.n):∃ a,df (fR b x e) x=some a:=by
 have c:=xr.mp h;refine #[e,Cb (KX cD x e) ?_];rw [pX c];exact iE _ (dH.mpr Y)
section
variable {P:Program} {w:World} {K:aT} {mg:Str->cE} {base:Heap}
noncomputable def r2 (w0:Str) (l:b2):Bool:=decide (32∉cn w0/\0<w0.length/\w0.length<=20/\w0 ≠ "program" /\ PyProof.Rows.KTD.datumAt w0 AQ=some l)
section
variable {T:aY K mg} {H:aC} {Q:cj} {E:dZ} {bT aE bn:Addr}
theorem F5 (hd:H bT=some (.ins T.d5 aE [("bench", .ref bn)])) (h:∀ l H',ax H H'->H' l=some (.lst [])->rt T [.ref bn,.str w0,.ref l] H' Q E) (hw:r2 w0 []=.t:=by decide +kernel):qX T [.ref bT,.str w0] H Q E:=by
 obtain ⟨a,b,c,d,f⟩:=cM hw;refine #[bT,aE,.ref bn,[w0],Y,Gk #[a,b,c],hd,.inr #[w0,[],[],Y,d,f,Y,.aw,(λ i dr d h=>by cases h),.inr #[bn,Y,λ l zs H' s h' e2=>?_]]];obtain rfl:=List.length_eq_zero_iff.mp e2.1;exact h l H' s h'
theorem F6 (hd:H bT=some (.ins T.d5 aE [("bench", .ref bn)])) (e:l7 x) (h:∀ l H',ax H H'->H' l=some (.lst [.str x])->rt T [.ref bn,.str w0,.ref l] H' Q E) (hw:r2 w0 ["name"]=.t:=by decide +kernel):qX T [.ref bT,.str (Str.join (bB 32) [w0,x])] H Q E:=by
 obtain ⟨a,b,c,d,f⟩:=cM hw;refine #[bT,aE,.ref bn,[w0,x],Y,Ti #[a,b,c] e,hd,.inr #[w0,["name"],[.nm x],Y,d,f,Y,by show 1<=2;decide,Ts,.inr #[bn,Y,λ l zs H' s h' e2=>?_]]];obtain rfl:=RN e2;exact h l H' s h'
theorem AJ (hd:H bT=some (.ins T.d5 aE [("bench", .ref bn)])) {d2:fo} (e:l7 x) (g:d8 32 d2.word/\0<d2.word.length/\d2.word.length<=1000) (ai:d2.fits k2) (h:∀ l z H',ax H H'->H' l=some (.lst [.str x,z])->d2.val H' z->rt T [.ref bn,.str w0,.ref l] H' Q E) (hw:r2 w0 ["name", k2]=.t:=by decide +kernel):qX T [.ref bT,.str (Str.join (bB 32) [w0,x,d2.word])] H Q E:=by
 obtain ⟨a,b,c,d,f⟩:=cM hw;refine #[bT,aE,.ref bn,[w0,x,d2.word],Y,Tj #[a,b,c] e g,hd,.inr #[w0,["name", k2],[.nm x,d2],Y,d,f,Y,by show 2<=2;decide,Tt ai,.inr #[bn,Y,λ l zs H' s h' e2=>?_]]];obtain ⟨z,rfl,i⟩:=RO e2;exact h l z H' s h' i
end
def BT (T:aY K mg) (bn:Addr) (way:Str) (v bC:V) (H:aC) (j3:aC->Prop) (m7:Nat->aC->Prop) (E:dZ):Prop:=(way = "put" /\ tV T [.ref bn,v,bC] H (λ Z H'=>j3 H') E)\/(way = "run" /\ rp T [.ref bn,v,bC] H (λ v H'=>∃ k:Nat,v=.int k/\k<=2000/\m7 k H') E)\/(way = "drop" /\ t4 T [.ref bn,v] H (λ Z H'=>j3 H') E)\/(way = "undo" /\ t5 T [.ref bn] H (λ Z H'=>j3 H') E)
def Ap (H:aC) (bC gQ:V):Prop:=(gQ=bC/\∀ a,bC≠.ref a)\/∃ (a b:Addr) (ah:bp),bC=.ref a/\gQ=.ref b/\H a=some (tupI ah)/\H b=some (tupI ah)
abbrev kV (Q:cj) (x:Str) (H:aC):Prop:=∀ aH H',H aH=.n->ax H H'->H' aH=some (.lst [.str x])->Q (.ref aH) H'
section
variable {T:aY K mg} {aR H H':aC} {S:Bool->f_} {a bw ck aJ bX:Addr} {ns ag:bp} {b:Bool} {ks:bj} {kvs:List (Key×V)} {aN:d3} {ls:List iO} {n:Nat} {way:Str} {v bC gQ eD:V} {Q:cj} {E:dZ} {j3:aC->Prop} {m7:Nat->aC->Prop}
theorem c5.FQ (e:c5 T aR S a bw ck aJ bX ns ag) (d:gI aR H (S b) ks kvs aN ls):ic aR H [(S b).hd,(S b).dl]:=λ m hm=>by
 simp only [b5,dA,dB] at hm;rcases hm with rfl|rfl
 ·exact .inr #[#[_,(e.ev b).jx],_,d.hd]
 ·exact .inl #[_,d.dl]
theorem c5.vC (e:c5 T aR S a bw ck aJ bX ns ag) (d:gI aR H (S b) ks kvs aN ls) (k2:jr (S b).hd (S b).dl H H') (f:eb T H' (S b).bn (S b).pr (S b).hd (S b).dl g (gb c)) (hx:c4 H' g cJ) (h:cJ.Perm (gC c)) (i:jC aR H' c):gI aR H' (S b) ks g cJ c:=by
 have E:=e.ev b;refine #[f.hd,f.dl,k2 _ _ (cq d.aW d.hd nofun) (eT E.EX) d.aW,hx,h,?_,i];refine (bN.k7 k2).dk ?_ d.cP;simp only [b5,dA,dB];rintro (z|z)
 ·exact E.RF z
 ·exact cq E.sA E.oU nofun z
theorem hR.qy (d:hR H way v bC) (h:way ≠ "undo"):∃ x,v=.str x/\qo x/\sa H v:=by
 rcases d with ⟨x,rfl,nm,_⟩|⟨af,_⟩
 ·exact #[x,Y,nm,trivial,λ y e=>by injection e with e;subst e;exact #[nm.a,by have:=nm.w.2.2;omega]]
 ·exact absurd af h
theorem hR.cf (k:e5 H H') (d:hR H way v bC):hR H' way v bC:=by
 rcases d with ⟨x,e,nm,⟨af,a,ah,ai,c,f⟩|h|h⟩|h
 ·exact .inl #[x,e,nm,.inl #[af,a,ah,ai,k _ _ c,f]]
 ·exact .inl #[x,e,nm,.inr (.inl h)]
 ·exact .inl #[x,e,nm,.inr (.inr h)]
 ·exact .inr h
theorem tP (h:(some (tupI p):Option fe)=some (tupI q)):p=q:=by
 injection h with z;injection z with z;exact (List.map_inj_right (λ Z Z h=>by injection h)).mp z
theorem c5.T6 (e:c5 T aR S a bw ck aJ bX ns ag) (k:bN (dm S) aR H) (d:gI aR H (S b) (iT (S b).cP ls++[.ref lt]) kvs aN ls) (aB:ls.length<=n) (zP:n<=100) (hd:hR H way v bC) (aI:Ap H bC gQ)
  (new:aR lt=.n) (qt:H lt=some (.bW klt)) (sl:c4 H klt cJ) (st:nF (S b).aj (gC ls) H way v bC eD cJ) (q:∀ H',jr (S b).hd (S b).dl H H'->eJ aR H' (S b) (n+1)->(eD=.aX->j3 H')/\∀ k:Nat,eD=.int (k:Int)->m7 k H'):BT T (S b).bn way v gQ H j3 m7 E:=by
 obtain ⟨x,rfl,EB,h⟩:=st;have gt:=d.st.good;have DH:=gt.perm d.pm;have B:=e.bn k b d;have adB:kvs.length<=6:=by rw [d.D.len];exact DH.small
 have aU:(gb ls).length<=1000:=by rw [Bh];omega
 have R:=xt d.pm DH.1 x;have iu:=e.FQ d;have zQ:way ≠ "undo" -> x∈six/\sa H (.str x):=λ hw=>by
  obtain ⟨y,yo,nm,oz⟩:=hd.qy hw;cases yo;exact #[nm.s EB,oz]
 have key:∀ {H' t N I},jr (S b).hd (S b).dl H H'->H' t=some (.tup [.str x,(b7 kvs (cc x)).getD .aX])->eb T H' (S b).bn (S b).pr (S b).hd (S b).dl N (gb ls++[.ref t])->c4 H' N I->I.Perm cJ->gg (ls.length+1) cJ->(∀ c,c.Perm cJ->(pk c x (df (gC ls) x)).Perm (gC ls))->(df (gC ls) x=.n->∃ e,df cJ x=some e)->eJ aR H' (S b) (n+1):=by
  intro H' t N I k2 aI g hx RP gL un aA;have kt:=(bN.k7 k2).cf iu;refine #[N,I,#[lt,t,klt,cJ,x,(b7 kvs (cc x)).getD .aX]::ls,by rw [fW];omega,e.vC d k2 g hx RP #[#[new,.inl (k2 _ _ ?_ ?_ qt),sl.cf kt,aI,?_,un,gL,aA],d.st.d7 (bN.k7 k2) iu]]
  ·intro z;rw [show lt=(S b).hd from z,(e.ev b).jx] at new;cases new
  ·exact cq qt d.dl nofun
  ·rw [<-R];exact (d.D.opt).cf kt
 rcases h with ⟨rfl,rfl,⟨o,j⟩,rfl⟩|⟨rfl,m,o,dN,r,rfl,j,ay,L,QC,rfl,rfl⟩|⟨rfl,G,ad0,rfl,au,M,rfl,rfl⟩
 ·obtain ⟨u,C,Es⟩:=d.D.some (R.trans j);refine .inr (.inr (.inl #[Y,(S b).bn,(S b).pr,(S b).hd,(S b).dl,kvs,gb ls,.str x,Y,B,.ak,aU,trivial,(λ h=>by rw [show hj kvs (.str x)=some u from C] at h;cases h),λ l3 yR ex aM t H' k2 aI g=>?_]));cases ex;exact (q H' k2 (key k2 (by rw [aM];exact aI) g (d.D.cf ((bN.k7 k2).cf iu)).drop (KN d.pm x) (gt.drop x) (λ c A=>Yl gt.1 j A) λ h=>by rw [j] at h;cases h)).1 rfl
 ·obtain ⟨u,C,cm,G,rfl,zX,P_⟩:=d.D.some (R.trans j);obtain ⟨m0,j7⟩:0<=m/\m<=200:=by
   rcases hd with ⟨_,_,_,⟨h,_⟩|⟨_,j6,em,h⟩|⟨h,_⟩⟩|⟨h,_⟩
   ·exact absurd h .aw
   ·cases em;exact h
   ·exact absurd h .aw
   ·exact absurd h .aw
  obtain rfl:gQ=.int m:=by
   rcases aI with ⟨h,_⟩|⟨_,_,_,h,_⟩
   ·exact h
   ·cases h
  have ge:=(gt.2 (x,o) (pZ j)).2;have h_:=e.z8 k b;refine .inr (.inl #[Y,(S b).bn,(S b).pr,(S b).hd,(S b).dl,kvs,gb ls,.str x,m,Y,B,.ak,aU,trivial,m0,.ak,(λ h=>by rw [show hj kvs (.str x)=some (.ref cm) from C] at h;cases h),λ l3 yR ex aM=>?_]);cases ex;rw [C] at aM;cases aM;refine #[cm,G,_,_,o.1,o.2,Y,h_.1,h_.2,by have:=(e.ev b).k_;omega,zX,P_,ge.l,ge.n,λ Rc qk aH nj t H' u4 Z SM k2 QH zY aI g=>?_];obtain rfl:=Xi ay u4 L QC Z SM;rw [L] at Z;cases Z;have DJ:=lA (iH (S b).aj) ge.l ge.n L;have PV:=v_ (pT h_.2) (λ y f=>(ge.b y f).2) L;refine #[Rc,Y,.ak,(q H' k2 (key k2 (by rw [C];exact aI) g ((d.D.cf ((bN.k7 k2).cf iu)).put #[nj,aH,Y,zY,QH]) (CN d.pm x _) (gt.put (zQ .aw).1 #[DJ.1,λ y f=>#[g0.mp DJ.2 y f,?_],?_]) (λ c A=>Ip gt.1 A) λ h=>by rw [j] at h;cases h)).2 _ Y]
  ·have:=PV y f;omega
  ·have:0<=o.2/\o.2<=200*(ls.length):=ge.s;omega
 ·obtain ⟨ah,X,cC,so⟩:∃ ah,H G=some (tupI ah)/\ah.length=10/\∀ e∈ah,0<=e/\e<=1000000:=by
   rcases hd with ⟨_,_,_,⟨_,a2,ah,O,af,ai,hc⟩|⟨h,_⟩|⟨h,_⟩⟩|⟨h,_⟩
   ·cases O;exact #[ah,af,ai,hc]
   ·exact absurd h .aw
   ·exact absurd h .aw
   ·exact absurd h .aw
  obtain rfl:=tP (X.symm.trans au);obtain ⟨p,rfl,J⟩:∃ p,gQ=.ref p/\H p=some (tupI ah):=by
   rcases aI with ⟨_,h⟩|⟨a1,a2,PI,h6,hb,af,ai⟩
   ·exact absurd rfl (h G)
   ·cases h6;obtain rfl:=tP (af.symm.trans X);exact #[a2,hb,ai]
  have oz:=(zQ .aw).2;refine .inl #[Y,(S b).bn,(S b).pr,(S b).hd,(S b).dl,kvs,gb ls,.str x,.ref p,Y,B,.ak,aU,oz,xa J (by rw [bb];omega) (λ y f=>by obtain ⟨i,_,rfl⟩:=c0.mp f;trivial),(λ h=>by rw [EB] at h;cases h),(λ _ h=>?_),λ l3 a2 RQ ex _ O k4 adC zD t cm H' k2 zX aI g=>?_]
  ·exfalso;unfold fU at h M;rw [lK J] at h;rw [lK X] at M;rw [h] at M;cases M
  cases ex;cases O;obtain rfl:=tP (J.symm.trans k4);have kt:=(bN.k7 k2).cf iu;exact (q H' k2 (key k2 aI g ((d.D.cf kt).put #[cm,p,Y,zX,kt _ _ J]) (CN d.pm x _) (gt.put (zQ .aw).1 #[cC,λ y f=>by have:=so y f;omega,.ak]) (λ c A=>Ip gt.1 A) λ h=>ZR gt.1 h)).1 rfl
theorem c5.GO (e:c5 T aR S a bw ck aJ bX ns ag) (k:bN (dm S) aR H) (d:gI aR H (S b) ks kvs aN ls) (aB:ls.length<=100) (hd:hR H way v bC) (aI:Ap H bC gQ) (A:way ≠ "undo") (R:qF (gC ls) H way v bC x) (q:∀ H',ax H H'->E (.ref T.dD) .n H'):x = "name" /\ BT T (S b).bn way v gQ H j3 m7 E:=by
 have gt:=d.st.good;have p:=gt.perm d.pm;have B:=e.bn k b d;have X:kvs.length<=6:=by rw [d.D.len];exact p.small
 have o:(gb ls).length<=1000:=by rw [Bh];omega
 obtain ⟨y,rfl,nm,O⟩:=hd.qy A;have t:fu (.str y)=.f\/Gz (gC ls) (.str y)=.n->b7 kvs (cc y)=.n:=by
  intro h;refine d.D.none ?_;rw [xt d.pm p.1 y];rcases h with h|h
  ·cases N:df (gC ls) y with
   | none=>rfl
   | some G =>
    have:=(U9 (gt.2 (y,G) (pZ N)).1).2;rw [h] at this;cases this
  ·exact h
 rcases R with ⟨rfl,h⟩|⟨rfl,af,rfl,c⟩
 ·refine #[Y,?_];rcases hd with ⟨_,_,_,⟨rfl,a2,ah,rfl,af,ai,_⟩|⟨rfl,m,rfl,m0,jk⟩|⟨rfl,_⟩⟩|⟨z,_⟩
  ·have hf:=h.resolve_right λ z=>z.1 rfl
   obtain ⟨g,rfl,j,M,Z⟩:∃ g,gQ=.ref g/\∃ j,H g=some (tupI j)/\j.length=10:=by
    rcases aI with ⟨_,h⟩|⟨a1,C,aU,I,J,c,l⟩
    ·exact absurd rfl (h a2)
    ·cases I;obtain rfl:=tP (c.symm.trans af);exact #[C,J,_,l,ai]
   exact .inl #[Y,(S b).bn,(S b).pr,(S b).hd,(S b).dl,kvs,gb ls,.str y,.ref g,Y,B,.ak,o,O,xa M (by rw [bb];omega) (λ y f=>by obtain ⟨i,_,rfl⟩:=c0.mp f;trivial),λ _ H1 s1=>q H1 s1,(λ z=>by rw [hf] at z;cases z),λ l3 a2 RQ ex z=>by rw [hf] at z;cases z]
  ·have hf:=t (h.imp id And.right);obtain rfl:gQ=.int m:=by
    rcases aI with ⟨h,_⟩|⟨_,_,_,h,_⟩
    ·exact h
    ·cases h
   exact .inr (.inl #[Y,(S b).bn,(S b).pr,(S b).hd,(S b).dl,kvs,gb ls,.str y,m,Y,B,.ak,o,trivial,m0,.ak,(λ _=>q H (ax.refl _)),λ x u ex aM=>by cases ex;rw [hf] at aM;cases aM])
  ·have hf:=t (h.imp id And.right);exact .inr (.inr (.inl #[Y,(S b).bn,(S b).pr,(S b).hd,(S b).dl,kvs,gb ls,.str y,Y,B,.ak,o,trivial,(λ _=>q H (ax.refl _)),λ x u ex aM=>by cases ex;rw [hf] at aM;cases aM]))
  ·exact absurd z A
 ·exfalso;rcases hd with ⟨_,_,_,⟨_,a2,ah,rfl,l,L,s⟩|⟨h,_⟩|⟨h,_⟩⟩|⟨h,_⟩
  ·unfold fU at c;rw [lK l] at c;have r:(decide ((ah.map V.int).length=10)&&(ah.map V.int).all gB&&(ah.map V.int).all kh)=.f:=c;rw [bP (by rw [bb];exact L),show (ah.map V.int).all gB=.t from gp.mpr λ y f=>by obtain ⟨i,av,rfl⟩:=c0.mp f;exact bP (s i av).1,show (ah.map V.int).all kh=.t from gp.mpr λ y f=>by obtain ⟨i,av,rfl⟩:=c0.mp f;exact bP (s i av).2] at r;cases r
  ·exact absurd h .aw
  ·exact absurd h .aw
  ·exact absurd h .aw
theorem c5.T5 (e:c5 T aR S a bw ck aJ bX ns ag) (k:bN (dm S) aR H) (d:gI aR H (S b) ks kvs aN []) (q:E (.ref T.ej) .n H):BT T (S b).bn "undo" v bC H j3 m7 E:=by
 have c:=(d.st.good).perm d.pm;have f:kvs.length<=6:=by rw [d.D.len];exact c.small
 refine .inr (.inr (.inr #[Y,(S b).bn,(S b).pr,(S b).hd,(S b).dl,kvs,gb [],Y,e.bn k b d,.ak,λ Z=>q,λ iQ u eq=>?_]));exact absurd (show ([])=iQ++[u] from eq) .zs
theorem c5.T7 (e:c5 T aR S a bw ck aJ bX ns ag) (k:bN (dm S) aR H) (d:gI aR H (S b) (iT (S b).cP ls) kvs aN (l::ls)) (aB:ls.length<=n) (q:∀ H',jr (S b).hd (S b).dl H H'->eJ aR H' (S b) n->j3 H'):BT T (S b).bn "undo" v bC H j3 m7 E:=by
 have f:=(d.st.good).perm d.pm;have p:kvs.length<=6:=by rw [d.D.len];exact f.small
 obtain ⟨lo,st⟩:=d.st;have iu:=e.FQ d;refine .inr (.inr (.inr #[Y,(S b).bn,(S b).pr,(S b).hd,(S b).dl,kvs,gb (l::ls),Y,e.bn k b d,.ak,(λ z=>absurd (show gb ls++[V.ref l.t]=[] from z) .zs),λ iQ u eq=>?_]));obtain ⟨rfl,i⟩:=List.append_inj' eq rfl;obtain rfl:V.ref l.t=u:=by simpa using i
 refine #[l.t,l.x,l.w,Y,lo.aI,?_,λ H' k2 g=>?_]
 ·have nk:=lo.nk;cases c:df (gC ls) l.x with
  | none =>
   rw [c] at nk;refine .inl #[nk,?_];obtain ⟨h,m⟩:=lo.aA c;obtain ⟨u,o,_⟩:=d.D.some ((xt d.pm f.1 l.x).trans m);exact #[u,o]
  | some h =>
   rw [c] at nk;obtain ⟨cm,_,j,_⟩:=nk;exact .inr #[cm,j]
 ·have kt:=(bN.k7 k2).cf iu;exact q H' k2 #[_,_,ls,aB,e.vC d k2 g ((d.D.cf kt).hold (lo.nk.cf kt)) (lo.un aN d.pm) (st.d7 (bN.k7 k2) iu)]
theorem c5.fin (e:c5 T aR S a bw ck aJ bX ns ag) (k:bN (dm S) aR H) (d:gI aR H (S b) ks kvs aN ls) (g:eJ aR H (S (!b)) n) (c:br (S b).aW H H1) (k2:jr (S b).hd (S b).dl H1 ao) (j:eJ aR ao (S b) n):bN (dm S) aR ao/\∀ f,eJ aR ao (S f) n:=by
 have d7:bN [(S b).hd,(S b).dl,(S b).aW] H ao:=((bN.but c).mono .zs).trans ((bN.k7 k2).mono .zs);have iu:ic aR H [(S b).hd,(S b).dl,(S b).aW]:=λ m hm=>by
  simp only [b5,dA,dB] at hm;rcases hm with rfl|rfl|rfl
  ·exact .inr #[#[_,(e.ev b).jx],_,d.hd]
  ·exact .inl #[_,d.dl]
  ·exact .inl #[_,d.aW]
 have A:=e.ap b;have i:=e.ev (!b);have E:=e.ev b;have go:=e.other g d7 iu λ o h=>k2 _ _ (λ z=>A.af z.symm) (cq i.jx E.oU nofun) (c _ _ (cq i.jx E.oV nofun) h)
 refine #[k.trans (d7.mono (BQ S b)),λ f=>?_];by_cases ae:f=b
 ·rw [ae];exact j
 ·rw [show f = !b by cases b<;>cases f<;>first|rfl|exact absurd rfl ae];exact go
theorem c5.AI (e:c5 T aR S a bw ck aJ bX ns ag) (k:bN (dm S) aR H) (d:gI aR H (S b) ks kvs aN ls) (hd:hR H way v bC) (e1:qG H way v bC r)
  (h:∀ H1 gQ,ax H H1->Ap H1 bC gQ->BT T (S b).bn way v gQ H1 (kV Q "ok") (λ k=>kV Q (bE (k:Int))) (gY T Q)):oh T [.ref (S b).bT,.str r] H Q E:=by
 have ay:=e.zg k b;have M:∀ {H1},ax H H1->eb T H1 (S b).bn (S b).pr (S b).hd (S b).dl kvs (gb ls):=λ s=>(e.bn k b d).same s
 refine #[(S b).bT,(S b).zf,_,.str r,Y,ay,Y,?_];have i:∀ {x:Str} {H'},kV Q x H'->1<=sizeLine/\e7 (.lst [V.str x]) H' Q:=λ h=>#[bI,λ aH kW f s i=>h aH kW f s i]
 have dd:∀ {H1 ao:aC} {l:Addr} {zs:bj} {j:Str},ax H H1->ax H1 ao->H1 l=some (.lst zs)->((j = "put" /\ ∃ x p,zs=[x,p]/\tV T [.ref (S b).bn,x,p] ao (λ _ H'=>kV Q "ok" H') (gY T Q))\/(j = "drop" /\ ∃ x,zs=[x]/\t4 T [.ref (S b).bn,x] ao (λ _ H'=>kV Q "ok" H') (gY T Q))\/(j = "undo" /\ t5 T [.ref (S b).bn] ao (λ _ H'=>kV Q "ok" H') (gY T Q)))->xx T [.ref (S b).bn,.str j,.ref l] ao (λ _ H'=>1<=sizeLine/\e7 (.lst [V.str "ok"]) H' Q) (gY T Q):=by
  intro H1 ao l zs j s1 s2 c h;obtain ⟨aE,ae⟩:=(M (s1.trans s2)).at_;have up:∀ {vs:bj},True:=trivial;refine #[(S b).bn,l,aE,j,zs,_,Y,s2 _ _ c,ae,Y,Y,Y,?_];rcases h with ⟨g,x,p,J,h⟩|⟨g,x,J,h⟩|⟨g,h⟩
  ·refine .inl #[g,x,p,J,?_];obtain ⟨A,B,C,D,G,I,ym,Oy,R,aU,X,Z,r4,y4,PA,PB,r5⟩:=h;exact #[A,B,C,D,G,I,ym,Oy,R,aU,X,Z,r4,y4,PA,PB,λ N O Px a1 a2 Oq Ot Ou Ov t w H' o q u fA=>i (r5 N O Px a1 a2 Oq Ot Ou Ov t w H' o q u fA)]
  ·refine .inr (.inl #[g,x,J,?_]);obtain ⟨A,B,C,D,G,I,ym,R,aU,X,Z,r4,y4,r5⟩:=h;exact #[A,B,C,D,G,I,ym,R,aU,X,Z,r4,y4,λ N O a1 a2 t H' o q u=>i (r5 N O a1 a2 t H' o q u)]
  ·refine .inr (.inr #[g,?_]);obtain ⟨A,B,C,D,G,I,R,aU,X,Z,r5⟩:=h;refine #[A,B,C,D,G,I,R,aU,X,Z,λ N O a1=>?_];obtain ⟨t,x,w,o,q,u,fA⟩:=r5 N O a1;exact #[t,x,w,o,q,u,λ H' k1 k2=>i (fA H' k1 k2)]
 rcases e1 with ⟨x,rfl,⟨rfl,Oo,ah,rfl,au,rfl⟩|⟨rfl,m,rfl,rfl⟩|⟨rfl,rfl⟩⟩|⟨rfl,rfl⟩
 ·obtain ⟨y,L,nm,_⟩:=hd.qy .aw;cases L;obtain ⟨cC,so⟩:ah.length=10/\∀ e∈ah,0<=e/\e<=1000000:=by
   rcases hd with ⟨_,_,_,⟨_,a2,PI,OE,af,ai⟩|⟨h,_⟩|⟨h,_⟩⟩|⟨h,_⟩
   ·cases OE;obtain rfl:=tP (af.symm.trans au);exact ai
   ·exact absurd h .aw
   ·exact absurd h .aw
   ·exact absurd h .aw
  refine AJ ay (d2:=.qi ah) nm.w (TA cC λ e he=>#[(so e he).1,by have:=(so e he).2;omega]) #[Y,cC,so] λ l z H1 s1 c hD=>?_
  obtain ⟨p,rfl,ar⟩:=hD;refine #[(S b).bn,l,_,_,_, "put", _,kvs,_,Y,c,M s1,.inl #[by decide +kernel,λ ao s2=>dd s1 s2 c (.inl #[Y,_,_,Y,?_])]];rcases h ao (.ref p) (s1.trans s2) (.inr ⟨Oo,p,ah,rfl,rfl,s2 _ _ (s1 _ _ au),s2 _ _ ar⟩) with ⟨_,h⟩|⟨z,_⟩|⟨z,_⟩|⟨z,_⟩
  ·exact h
  all_goals exact absurd z .aw
 ·obtain ⟨y,L,nm,_⟩:=hd.qy .aw;cases L;obtain ⟨m0,j7⟩:0<=m/\m<=200:=by
   rcases hd with ⟨_,_,_,⟨h,_⟩|⟨_,j6,em,h⟩|⟨h,_⟩⟩|⟨h,_⟩
   ·exact absurd h .aw
   ·cases em;exact h
   ·exact absurd h .aw
   ·exact absurd h .aw
  refine AJ ay (d2:=.cG m) nm.w (EV m0 .ak) #[.inl Y,m0,.ak] λ l z H1 s1 c hD=>?_
  cases hD;refine #[(S b).bn,l,_,_,_, "run", _,kvs,_,Y,c,M s1,.inr (.inr (.inl #[Y,x,m,Y,λ ao s2=>?_]))];rcases h ao (.int m) (s1.trans s2) (.inl ⟨rfl,λ a z=>by cases z⟩) with ⟨z,_⟩|⟨_,h⟩|⟨z,_⟩|⟨z,_⟩
  ·exact absurd z .aw
  ·refine ID h ?_;rintro adk H' ⟨dN,g,J,lV⟩;exact #[dN,g,J,λ kW E9=>i λ aH j0 hC s3 hc=>lV aH j0 (E9.free hC) (E9.trans s3) hc]
  all_goals exact absurd z .aw
 ·obtain ⟨y,L,nm,_⟩:=hd.qy .aw;cases L;refine F6 ay nm.w λ l H1 s1 c=>#[(S b).bn,l,_,_,_, "drop", _,kvs,_,Y,c,M s1,.inl #[by decide +kernel,λ ao s2=>dd s1 s2 c (.inr (.inl #[Y,_,Y,?_]))]]
  have zk:bC=.aX:=by
   rcases hd with ⟨_,_,_,⟨h,_⟩|⟨h,_⟩|⟨_,h⟩⟩|⟨h,_⟩
   ·exact absurd h .aw
   ·exact absurd h .aw
   ·exact h
   ·exact absurd h .aw
  rcases h ao bC (s1.trans s2) (.inl ⟨rfl,λ a z=>by rw [zk] at z;cases z⟩) with ⟨z,_⟩|⟨z,_⟩|⟨_,h⟩|⟨z,_⟩
  ·exact absurd z .aw
  ·exact absurd z .aw
  ·exact h
  ·exact absurd z .aw
 ·refine F5 ay λ l H1 s1 c=>#[(S b).bn,l,_,_,_, "undo", _,kvs,_,Y,c,M s1,.inl #[by decide +kernel,λ ao s2=>dd s1 s2 c (.inr (.inr #[Y,?_]))]]
  have zk:bC=.aX:=by
   rcases hd with ⟨_,_,_,⟨h,_⟩|⟨h,_⟩|⟨h,_⟩⟩|⟨_,_,h⟩
   ·exact absurd h .aw
   ·exact absurd h .aw
   ·exact absurd h .aw
   ·exact h
  rcases h ao bC (s1.trans s2) (.inl ⟨rfl,λ a z=>by rw [zk] at z;cases z⟩) with ⟨z,_⟩|⟨z,_⟩|⟨z,_⟩|⟨_,h⟩
  ·exact absurd z .aw
  ·exact absurd z .aw
  ·exact absurd z .aw
  ·exact h
end
noncomputable def zi:V->Str
 | .int k=>bE k
 | _ => "ok"
theorem nF.kind (h:nF aj aN H way v bC eD cJ):eD=.aX\/∃ k:Nat,eD=.int (k:Int):=by
 obtain ⟨x,af,ai,b⟩:=h;rcases b with ⟨_,h,_⟩|⟨_,m,e,k,r,_,_,_,_,_,h,_⟩|⟨_,a,ag,_,_,_,h,_⟩
 ·exact .inl h
 ·exact .inr #[k,h]
 ·exact .inl h
def Fq (aj:cX) (aN:d3) (H:aC) (way:Str) (v bC:V) (aW:Addr) (fC:bj) (res:V) (H':aC):Prop:=br aW H H' /\
 ((∃ x,res=.str x/\ax H H'/\((way ≠ "undo" /\ qF aN H way v bC x)\/(x = "deed" /\ way = "undo" /\ fC.length=1))) \/
 (∃ aH lt bX cJ eD,res=.ref aH/\way ≠ "undo" /\ H aH=.n/\H lt=.n/\H' aW=some (.lst (fC++[.ref lt]))/\H' lt=some (.bW bX)/\c4 H' bX cJ/\nF aj aN H way v bC eD cJ/\H' aH=some (.lst [.str (zi eD)])) \/
 (∃ aH,res=.ref aH/\way = "undo" /\ fC.length≠1/\H aH=.n/\H' aW=some (.lst fC.dropLast)/\H' aH=some (.lst [.str "ok"])))
inductive L4:bz
 |mk {vs H Q E} (aQ aW eo dk:Addr) (bH fC:bj) (aj:cX) (kvs:List (Key×V)) (aN:d3) (way:Str) (v bC:V):vs=[.ref aQ,.ref aW,.ref eo]->H aQ=some (.lst bH)->eM H bH aj->H aW=some (.lst fC)->fC.length<=1000->1<=fC.length->es fC (-1)=some (.ref dk)->c8 H dk (.bW kvs)->c4 H kvs aN->aN.length<12->(∀ p∈aN,p.2.1.length=10/\nn p.2.1=.t)->H eo=some (.tup [.str way,v,bC])->hR H way v bC->(∀ res H',Fq aj aN H way v bC aW fC res H'->Q res H')->L4 vs H Q E
theorem aay (T:aY K mg):b4 P w mg base bY 7 T.KG L4:=by
 refine T.KG.fn.cp C7 .bU λ a0 A outer s H vs Q E e1 h=>?_
 obtain ⟨aQ,aW,eo,dk,bH,fC,aj,kvs,aN,way,v,bC,rfl,sy,bA,l,oT,adH,oP,iK,jj,o3,qs,X,ep,q⟩:=h;refine #[_,(aD (bM (bq cY (bO d6 (U 2) aF (λ _ _=>rfl)) a9 (bh _))
   (aD (bM (bq cY (bR fb T.dz dy (aa (U 1) aq)) aF (bh _))
   (aG (aZ a9))
   bJ)
  (aD (eY (Hf hu PySem.F.slot_list_pop PySem.F.type_list_pop G8 (U 1)))
  (aG (aZ (cW (aa a9 aq))))))
   bJ)
  (aD (ku (a4 (abI T) e1 aV (aa (U 0) (aa (bO cz (U 1) (jF jL aF) (λ _ _=>rfl)) (aa (U 2) aq)))) (Hj Y (cv (cH 3 C7) (cv (cH 4 C7) eh))))
  (aD (bM (d_ (bR h2 T.el ek (aa (U 3) (aa (ho (by rfl) T.gj gh) aq))))
   (aG (aZ (U 3)))
   bJ)
  (aD (eY (eN hu kB kC lN (U 1) (aa (U 4) aq)))
  (aG (aZ (cW (aa (bO cz (cW (aa a9 (aa (dv Yx T.gj gh (aa (U 3) aq)) aq))) (dv tW T.mE mB (aa (fY BU (U 3) e_ (bh _)) aq)) (λ _ _=>rfl)) aq)))))))),?_]
 refine #[eo,_,_,_,Y,Y,aL.of X,Y,Y,_,Y,?_];by_cases g:way = "undo"
 ·subst g;refine iY #[aW,_,Y,.inl (aK.of l),Y,_,Y,c3 (λ h=>?_) (λ h=>?_)]
  ·have h6:fC.length=1:=by have:=cM h;injection this with this;omega
   exact q _ H #[br.refl _ _,.inl #["deed", Y,ax.refl _,.inr #[Y,Y,h6]]]
  ·have kT:fC.length≠1:=λ z=>h (bP (by rw [z];rfl))
   have AW:∃ u,fC[fC.length-1]?=some u:=#[_,cV .ak]
   obtain ⟨u,g⟩:=AW;refine #[.inl #[Y,_,aK.of l],aW,fC,u,Y,Y,l,g,bI,λ aH ao f2 s2 ai=>?_];have L:=(br.upd).AV bc f2;have ne:=b0 l L;refine q _ ao #[br.upd.trans (br.of s2),.inr (.inr #[aH,Y,Y,kT,L,s2 _ _ bc,ai])]
 ·refine hk g ?_;obtain ⟨x,rfl,nm,oz⟩:=ep.qy g;have S4:way = "run" -> ∀ m,bC=.int m->m<=200:=λ oS m em=>by
   rcases ep with ⟨_,_,_,⟨af,_⟩|⟨af,j6,S,_,h⟩|⟨af,_⟩⟩|⟨af,_⟩
   ·rw [oS] at af;exact absurd af .aw
   ·rw [em] at S;cases S;exact h
   ·rw [oS] at af;exact absurd af .aw
   ·exact absurd af g
  have hw:(way = "put" /\ fO H bC)\/(way = "run" /\ ∃ m,bC=.int m/\0<=m/\m<=2000)\/way = "drop" := by
   rcases ep with ⟨_,_,_,⟨af,a,ah,rfl,ai,hc,_⟩|⟨af,m,rfl,m0,jk⟩|⟨af,_⟩⟩|⟨af,_⟩
   ·exact .inl #[af,xa ai (by rw [bb];omega) λ y lY=>by obtain ⟨i,_,rfl⟩:=c0.mp lY;trivial]
   ·exact .inr (.inl #[af,m,Y,m0,.ak])
   ·exact .inr (.inr af)
   ·exact absurd af g
  refine #[1,Y,aW,_,_,_,Y,Y,aK.of l,oP,aQ,dk,eo,bH,aj,kvs,aN,way,_,bC,Y,sy,bA,iK,jj,o3,qs,X,oz,hw,λ aH y G yO n N=>?_,λ aH eD lt klt cJ G n lW N Z sl st=>?_]
  ·refine #[aH,_,Y,N,Y,_,_,Y,_,_,Y,Y,?_];obtain ⟨t,ty,e⟩:=nI (v:=.str y) trivial;exact #[.str y, "str", t,_,Y,ty,e,_,Y,b6 (q _ G #[br.of n,.inl #[y,Y,n,.inl #[g,yO]]])]
  ·refine #[aH,_,Y,N,Y,_,_,Y,_,_,Y,Y,?_];have dr:eH G eD:=by rcases st.kind with rfl|⟨k,rfl⟩<;>trivial
   have ks:sC eD=.f:=by rcases st.kind with rfl|⟨k,rfl⟩<;>rfl
   obtain ⟨t,ty,e⟩:=nI dr;refine #[eD, "str", t,_,Y,ty,e,_,Y,?_];rw [ks];have M:=n _ _ l;refine bD #[.inl #[Y,_,aK.of M],aW,_,_,Y,Y,M,by rw [b8];omega,λ p J aU=>?_];have Ry:=cq Z M nofun;have Rf:e5 G p:=λ c ys h=>J _ _ (cq h M nofun) h
   have fin:∀ b d,p b=.n->ax p d->d b=some (.lst [.str (zi eD)])->Q (.ref b) d:=λ b d B j C=>by
    have L:=n.free (J.AV aU B);exact q _ d #[λ c o yI e=>j _ _ (J _ _ yI (n _ _ e)),.inr (.inl #[b,lt,klt,cJ,eD,Y,g,L,lW,j _ _ aU,j _ _ (J _ _ Ry Z),(sl.cf Rf).cf (e5.of j),st,C])]
   have adx:∀ {I:aC} {b:Addr},ax p I->I b=.n->p b=.n:=λ s f=>s.free f
   rcases st.kind with rfl|⟨k,rfl⟩
   ·refine #[_,Y,.inl #[Y,bI,λ R I f8 D O=>#[Y,.inr #[_,Y,R,_,_,_,Y,Y,aK.of O,Y,bI,λ b d B j C=>fin b d (D.free B) (D.trans j) C]]]]
   ·refine #[_,Y,.inr #[_,Y,?_,bI,λ R I f8 D O=>#[Y,.inr #[_,Y,R,_,_,_,Y,Y,aK.of O,Y,bI,λ b d B j C=>fin b d (D.free B) (D.trans j) C]]]];obtain ⟨_,_,_,⟨_,h,_⟩|⟨SV,m,ac9,dN,r,em,_,ay,_,_,OH,_⟩|⟨_,_,_,_,_,_,h,_⟩⟩:=st
    ·cases h
    ·have adv:k=(dN:Int):=by injection OH
     have:=S4 SV m em;exact A1 .ak
    ·cases h
end
theorem CM (h:1<=aj.length):("program " : Str)++Str.join (bB 32) (eu aj)=Str.join (bB 32) (("program" : Str)::eu aj):=by
 match aj,h with
 | f::r,_ =>
  rw [show (("program" : Str)::eu (f::r))=("program" : Str)::nu f.1 f.2::eu r from rfl,kF,show ("program ")=("program")++bB 32 by decide +kernel];rfl
theorem Bl (c:aj.length<=16) (hf:∀ f∈aj,ey f.1 f.2=.t):qq (("program" : Str)::eu aj):=by
 have b:(("program" : Str)::eu aj).length<=17:=by rw [fW,bb];omega
 refine #[.zs,.ak,λ y a=>?_,?_]
 ·rcases b5.mp a with rfl|a
  ·exact #[by unfold d8;decide +kernel,by decide +kernel]
  ·obtain ⟨f,hm,rfl⟩:=c0.mp a;have:=tZ (hf f hm);refine #[II .ak .ak,?_];show 0<(bE f.1++bB 47++bE f.2).length;rw [len_app,len_app];have:=G_ (n:=f.1) .ak;omega
 ·have:=tR 32 (("program")::eu aj) (B:=27) λ y a=>by
   rcases b5.mp a with rfl|a
   ·decide +kernel
   ·exact wc hf y a
  have:=wO (27+1) b;omega
theorem IJ (h:d0 H xs aj):hI H xs aj/\∀ f∈aj,ey f.1 f.2=.t:=by
 refine #[#[h.1,λ k x l=>?_],λ f hf=>?_]
 ·obtain ⟨i,j,c,a,b,d,_⟩:=h.2 k x l;exact #[c,i,j,b,d,a]
 ·obtain ⟨k,ay⟩:=g6 hf;have e:=(dK.mp ay).1;rw [<-h.1] at e;obtain ⟨i,j,c,a,b,d,g⟩:=h.2 k _ (cV e);rw [ay] at a;cases a;exact g
section
variable {P:Program} {w:World} {K:aT} {mg:Str->cE} {base:Heap}
theorem nW:∀ y∈[V.str x],sP y=.t:=λ y a=>by rw [dH.mp a];rfl
def Ft (T:aY K mg) (H:aC) (bT aE:Addr) (aj:cX) (R:aC->Prop):Prop:=∀ pr bn hd dl xs H',br bT H H'->H' bT=some (.ins T.d5 aE [("bench", .ref bn)])->eb T H' bn pr hd dl [] []->H hd=.n->H dl=.n->H bn=.n->H' pr=some (.tup xs)->d0 H' xs aj->xs.length<=16->R H'
theorem Ji {T:aY K mg} (ay:H bT=some (.ins T.d5 aE [("bench", bv)])) (af:1<=aj.length) (a:aj.length<=16) (hf:∀ f∈aj,ey f.1 f.2=.t) (q:Ft T H bT aE aj (kV Q "ok")):oh T [.ref bT,.str (("program " : Str)++Str.join (bB 32) (eu aj))] H Q E:=by
 rw [CM af];refine #[bT,aE,_,_,Y,ay,Y,bT,aE,bv,_,Y,?_,ay,.inl #[aj,Y,af,a,hf,λ pr bn hd dl xs H' b c d e g h i j k=>#[bI,λ aH kW f s h'=>q pr bn hd dl xs H' b c d e g h i j k aH kW f s h']]];exact Bl a hf
inductive Ld (T:aY K mg):bz
 |mk {vs H Q E} (bT aE p:Addr) (xs:bj) (aj:cX):vs=[.ref bT,.ref p]->H bT=some (.ins T.d5 aE [("bench", .aX)])->H p=some (.tup xs)->d0 H xs aj->1<=xs.length->xs.length<=16->Ft T H bT aE aj (λ H'=>∀ kW,ax H' kW->Q (.aJ .t) kW)->Ld T vs H Q E
theorem KU (T:aY K mg):b4 P w mg base bY 13 T.JC (Ld T):=by
 refine T.JC.fn.cp aad .bU λ a0 A outer s H vs Q E b h=>?_
 obtain ⟨bT,aE,p,xs,aj,rfl,ay,ar,c,af,f,q⟩:=h;refine #[_,(aD (bM (bq hn (a4 (lS T) b aV (aa (U 0) (aa a9 aq))) a9 (bh _))
   (aG (aZ hS))
   bJ)
  (aG (aZ (fY (pS (d9 b)) (a4 (lS T) b aV (aa (U 0) (aa (bf ea a9 (a4 (Mp T) b aV (aa (U 1) aq))) aq))) (cW (aa a9 aq)) (bh _))))),?_]
 have I:∀ {n:Nat},n<=1000000->n<=sizeLine:=λ {n} h=>by rw [b8];omega
 obtain ⟨G,e⟩:=IJ c;refine #[bT,aE,_,_,Y,ay,Y,bT,aE,.aX,["names"],Y,Gk #[by unfold d8;decide +kernel,by decide +kernel,by decide +kernel],ay,.inr #["names", [],[],Y,.aw,by decide +kernel,Y,.aw,(λ i dr d h=>by cases h),.inl #[Y,λ H1 s1=>gY.program T λ ao s2=>#[Y,_,Y,?_]]]];rw [bP rfl];refine bD ?_;have a:=s1.trans s2;have j:=c.1 ▸ af;have g:=c.1 ▸ f;refine #[p,xs,aj,Y,a _ _ ar,f,G.same a,e,λ L s3=>#[_,_,Y,Y,?_,Ji (E:=gs) ((a.trans s3) _ _ ay) j g e λ pr bn hd dl ys l o r t u v x y z B aH M N s5 C=>#[bI,λ J m O k D=>#[aH,J,_,Y,Y,k _ _ C,D,nW,?_]]]]
 ·have hw:=(Bl g e).2.2.2;rw [<-CM j,len_app] at hw;exact I .ak
 ·exact q pr bn hd dl ys l ((br.of (a.trans s3)).trans o) r t ((a.trans s3).free u) ((a.trans s3).free v) ((a.trans s3).free x) y z B m (s5.trans k)
structure hJ (T:aY K mg) (H:aC) (bT aQ rw:Addr) (aj:cX) (kvs eL:List (Key×V)) (aN cJ:d3) (N:Nat):Prop where
 d:∃ (aE bn pr hd dl:Addr) (xs ds:bj),H bT=some (.ins T.d5 aE [("bench", .ref bn)])/\eb T H bn pr hd dl kvs ds/\H pr=some (.tup xs)/\d0 H xs aj/\xs.length<=16
 D:c4 H kvs aN
 t:∃ bH,H aQ=some (.lst bH)/\eM H bH aj
 r:c8 H rw (.bW eL)
 hx:c4 H eL cJ
 pm:aN.Perm cJ
 g:gg N cJ
 n:N<=100
theorem vG {B:Prop} (af:i=j->A) (ai:i≠j->B):if decide (V.int i=V.int j)=.t then A else B:=by
 by_cases h:i=j
 ·rw [h,bP rfl];exact b6 (af h)
 ·rw [cK λ z=>h (by injection z)];exact bD (ai h)
theorem A7 (h:x∈six):l7 x/\x.length<=8:=by
 have key:∀ y∈six,(decide (32∉cn y)&&decide (0<y.length)&&decide (y.length<=8))=.t:=by decide +kernel
 have:=key x h;rw [eX,eX] at this;have l:=cM this.2;exact #[#[(show 32∉cn x from cM this.1.1),cM this.1.2,.ak],l]
theorem IX (aB:n=ys.length):Str.join (bB 32) ys++(if (if decide (n=0)=.t then (1:Int) else 0)=1 then ("none" : Str) else Str.empty)=o4 ys:=by
 subst aB;unfold o4;cases ys with
 | nil=>decide +kernel
 | cons y r =>
  rw [if_neg (show ¬ (y::r=[]) by simp),cK .zs,if_neg .aw];exact rj (by rw [m1];exact nQ _)
theorem sF:(if b=.t then (1:Int) else 0)=0\/(if b=.t then (1:Int) else 0)=1:=by cases b<;>simp
theorem IZ:(if (if b=.t then (1:Int) else 0)=1 then ("none" : Str) else Str.empty).length<=4:=by cases b<;>decide +kernel
theorem IS (h:∀ y∈l,y.length<=B) (b:l.length<=16) (c:B<=1000):(l.map (·.length)).sum+l.length<=1048576/\(Str.join (bB 32) l).length<=100000:=by
 have e:=n8 l h;have ai:=wO B b;have d:=Nat.mul_le_mul_left 16 c;refine #[.ak,?_];have:=StrLaws.join_length_le (bB 32) l;have a:(bB 32).length=1:=rfl;rw [a,Nat.mul_one] at this;omega
theorem TB {m:Int} (h:m.natAbs<1048576):m.natAbs.log2<1920:=by
 by_cases ay:m.natAbs=0
 ·rw [ay];decide
 ·have:=(Nat.log2_lt (k:=20) ay).mpr h;omega
section
variable {T:aY K mg} {H:aC} {bT aQ cU:Addr} {aj:cX} {kvs eL:List (Key×V)} {aN cJ:d3} {N:Nat} {Q:cj} {E:dZ} {x:Str}
theorem hJ.same (g:hJ T H bT aQ cU aj kvs eL aN cJ N) (s:ax H H'):hJ T H' bT aQ cU aj kvs eL aN cJ N:=by
 obtain ⟨aE,bn,pr,hd,dl,xs,ds,ay,B,ar,b,a⟩:=g.d;obtain ⟨bH,af,ai⟩:=g.t;have kt:e5 H H':=λ c ys h=>s _ _ h
 exact #[#[aE,bn,pr,hd,dl,xs,ds,s _ _ ay,B.same s,s _ _ ar,b.same s,a],g.D.cf kt,#[bH,s _ _ af,ai.same s],g.r.imp (s _ _) λ ⟨o,h⟩=>#[o,s _ _ h],g.hx.cf kt,g.pm,g.g,g.n]
theorem hJ.names (g:hJ T H bT aQ cU aj kvs eL aN cJ N) (h:∀ ms,ms.Perm (dR aN)->PyProof.Rows.sortedS ms=.t->∀ H1,ax H H1->kV Q (o4 ms) H1):oh T [.ref bT,.str "names"] H Q E:=by
 obtain ⟨aE,bn,pr,hd,dl,xs,ds,ay,B,ar,k,j⟩:=g.d;have a:=g.g.perm g.pm;refine #[bT,aE,_,_,Y,ay,Y,F5 ay λ l H1 s1 f=>#[bn,l,pr,hd,dl, "names", _,kvs,ds,Y,f,B.same s1,.inr (.inl #[Y,dR aN,g.D.keys,?_,λ x i=>?_,λ ms p s ao s2=>#[bI,λ aH b c s3 e=>h ms p s ao (s1.trans s2) aH b c s3 e]])]]
 ·rw [bb];have:=a.small;omega
 ·obtain ⟨p,ar,rfl⟩:=c0.mp i;exact (A7 (a.2 p ar).1).2
theorem hJ.look (g:hJ T H bT aQ cU aj kvs eL aN cJ N) (x):df aN x=df cJ x:=xt g.pm (g.g.perm g.pm).1 x
theorem hJ.held (g:hJ T H bT aQ cU aj kvs eL aN cJ N) (c:df cJ x=some e):∃ w a,sX H kvs x w a e.2 e.1:=by
 obtain ⟨u,d,w,a,rfl,af,ai⟩:=g.D.some ((g.look x).trans c);have ge:=(g.g.2 (x,e) (pZ c)).2;have:=g.n;have aA:0<=e.2/\e.2<=200*N:=ge.s;exact #[w,a,d,af,ai,ge.l,λ y f=>by have:=ge.b y f;omega,aA.1,.ak]
theorem hJ.ask (g:hJ T H bT aQ cU aj kvs eL aN cJ N) {w0:Str} (bg:l7 x) (m:w0 = "gone" \/ w0 = "show" \/ w0 = "fate" \/ w0 = "ahead")
  (h:∀ H1,ax H H1->(df cJ x=.n/\∀ ao,ax H1 ao->Q (.str "name") ao)\/∃ e,df cJ x=some e/\Fw H1 aj e.2 e.1 (λ v H'=>1<=sizeLine/\e7 (.lst [v]) H' Q) w0 []) (j:c=w0++bB 32:=by decide +kernel) (hw:r2 w0 ["name"]=.t:=by decide +kernel):oh T [.ref bT,.str (c++x)] H Q E:=by
 obtain ⟨aE,bn,pr,hd,dl,xs,ds,ay,B,ar,n,k⟩:=g.d;rw [Gy w0 c x j];refine #[bT,aE,_,_,Y,ay,Y,F6 ay bg (hw:=hw) λ l H1 s1 p=>#[bn,l,pr,hd,dl,w0,_,kvs,ds,Y,p,B.same s1,.inr (.inr (.inr #[x,[],Y,m,?_]))]];rcases h H1 s1 with ⟨a,b⟩|⟨e,a,b⟩
 ·exact .inl #[g.D.none ((g.look x).trans a),λ ao s2=>gY.name T λ f s3=>b f (s2.trans s3)]
 ·obtain ⟨w,i,o⟩:=g.held a;exact .inr #[w,i,e.2,e.1,xs,aj,o.same s1,s1 _ _ ar,n.same s1,k,b]
theorem hJ.Sp (g:hJ T H bT aQ cU aj kvs eL aN cJ N) (bg:l7 x) (m0:0<=m) (c:m<=400) (b:df cJ x=some e) (h:∀ o H1,ax H H1->nE (rowsOf aj) m.toNat e.1 o->kV Q (zq o) H1):oh T [.ref bT,.str (("fate " : Str)++x++(" " : Str)++bE m)] H Q E:=by
 obtain ⟨aE,bn,pr,hd,dl,xs,ds,ay,B,ar,n,j⟩:=g.d;obtain ⟨w,a,q⟩:=g.held b;rw [Bj "fate" "fate " x (bE m) (by decide +kernel)];refine #[bT,aE,_,_,Y,ay,Y,AJ ay (d2:=.cG m) bg (EV m0 .ak) #[.inr Y,m0,c] λ l z H1 s1 b r=>?_];cases r;exact #[bn,l,pr,hd,dl, "fate", _,kvs,ds,Y,b,B.same s1,.inr (.inr (.inr #[x,[.int m],Y,.inr (.inr (.inl Y)),.inr #[w,a,e.2,e.1,xs,aj,q.same s1,s1 _ _ ar,n.same s1,j,.inr (.inr (.inl #[Y,m,Y,m0,c,λ o ao s2 p Z=>#[bI,λ aH f i s3 k=>h o ao (s1.trans s2) p aH f i s3 k]]))]]))]
end
inductive Lg (T:aY K mg):bz
 |mk {vs H Q E} (bT aQ rw:Addr) (aj:cX) (kvs eL:List (Key×V)) (aN cJ:d3) (N:Nat) (way fq:Int):vs=[.ref bT,.ref aQ,.ref rw,.int way,.int fq]->hJ T H bT aQ rw aj kvs eL aN cJ N->0<=fq->fq<1000->(∀ H',ax H H'->Q (.aJ .t) H')->Lg T vs H Q E
theorem KV (T:aY K mg):b4 P w mg base bY 13 T.JE (Lg T):=by
 refine T.JE.fn.cp p5 .bU λ a0 A outer s H vs Q E f h=>?_
 obtain ⟨bT,aQ,cU,aj,kvs,eL,aN,cJ,N,way,fq,rfl,g,fM,lZ,q⟩:=h;refine #[_,(aD (bM (bq cY (U 3) aF (bh _))
   (aG (aZ (fY (pS (d9 f)) (a4 (lS T) f aV (aa (U 0) (aa a9 aq))) (cW (aa (bf ea (eN kA pM pN rf a9 (aa (bR (Dd Y) T.rm rk (aa (U 2) aq)) aq)) (bf BS a9 (dv tW T.mE mB (aa (fY (VM (d9 f)) (U 2) rn (bh _)) aq)))) aq)) (bh _))))
   bJ)
  (aD (ba 5 p5 (bO cz (bf tT (bR (Dd Y) T.rm rk (aa (U 2) aq)) (cW (aa a9 aq))) (bf i7 (U 4) (bf ez (bR xp T.dz dy (aa (U 2) aq)) aF)) (λ _ _=>rfl)))
  (aD (bM (bq (CV (d9 f)) (U 5) (U 2) (by with_unfolding_all rfl))
   (aG (aZ (fY cY (a4 (lS T) f aV (aa (U 0) (aa (bf ea (bO cz (cW (aa a9 (aa a9 (aa a9 aq)))) (bf i7 (U 4) aF) (λ _ _=>rfl)) (U 5)) aq))) a9 (bh _))))
   bJ)
  (aD (ku (Ke (d9 f) (U 2) (U 5) (λ _ _=>rfl)) (hs Y (cv (cH 6 p5) (cv (cH 7 p5) eh))))
  (aD (bM (bq cY (U 3) aF (bh _))
   (aG (aZ (fY (pS (d9 f)) (a4 (lS T) f aV (aa (U 0) (aa (bf ea a9 (U 5)) aq))) (cW (aa (a4 (xR T) f aV (aa (U 6) aq)) aq)) (bh _))))
   bJ)
  (aD (bM (bq cY (U 3) aF (bh _))
   (aG (aZ (fY (pS (d9 f)) (a4 (lS T) f aV (aa (U 0) (aa (bf ea a9 (U 5)) aq))) (cW (aa (dv kH T.gj gh (aa (U 7) aq)) aq)) (bh _))))
   bJ)
  (aD (bM (bq cY (U 3) aF (bh _))
   (aD (w6 (i:=8) p5.cD Y (Or.inl Y) (dp p5 (N:=["one"]) (js:=[.n]) (dV _)) Y (mZ (a4 (abk T) f aV (aa (U 1) (aa (U 6) aq)))) (λ _ _ _ _=>d1) (λ _ _ _ _=>ei)
    (λ _ _ _ _=>(a4 (xR T) f aV (aa (U 0) aq))))
  (aG (aZ (fY (pS (d9 f)) (a4 (lS T) f aV (aa (U 0) (aa (bf ea a9 (U 5)) aq))) (cW (aa (bf ea (eN kA pM pN rf a9 (aa (U 8) aq)) (bf BS a9 (dv tW T.mE mB (aa (fY (XC (d9 f)) (U 8) (cW aq) (bh _)) aq)))) aq)) (bh _)))))
   bJ)
  (aD (ba 9 p5 (a4 (abJ T) f aV (aa (a4 (abl T) f aV (aa (U 1) (aa (U 6) (aa (bf i7 (U 4) aF) aq)))) aq)))
  (aG (aZ (fY (pS (d9 f)) (a4 (lS T) f aV (aa (U 0) (aa (bf ea (bf ea (bf ea a9 (U 5)) a9) (dv kH T.gj gh (aa (bf i7 (U 4) aF) aq))) aq))) (cW (aa (U 9) aq)) (bh _)))))))))))),?_]
 have C:∀ {n:Nat},n<=1000000->n<=sizeLine:=λ {n} h=>by rw [b8];omega
 have yr:=g.g.small;have Ew:∀ x∈dR cJ,x∈six:=λ x dq=>by
  obtain ⟨p,ar,rfl⟩:=c0.mp dq;exact (g.g.2 p ar).1
 have u0:(dR cJ).length<64:=by rw [bb];omega
 refine #[Y,_,Y,vG (λ h0=>?_) (λ h0=>?_)]
 ·refine (g.names (E:=gs) λ ms sI Fd H1 s1 aO ao f2 s2 ai=>?_);have yd:=s1.trans s2;refine #[Y,cU,eL,dR cJ,Y,(g.same yd).r,g.hx.keys,u0,λ vi vK Tf oy j0 hC s3 hc=>?_];obtain rfl:vi=ms:=Lb Tf Fd (vK.trans ((g.pm.map (·.1)).symm.trans sI.symm));have uZ:vi.length<=16:=by rw [vK.length_eq,bb];omega
  have js:=IS (l:=vi) (B:=8) (λ y m=>(A7 (Ew y (vK.mem_iff.mp m))).2) uZ .aw;refine #[_,oy,vi,Y,Y,hc,.aw,js.1,λ lU Z f4 s4 aU=>?_];have m8:=s3.trans s4;refine #[cU,lU,eL,Y,Y,(g.same (yd.trans m8)).r,aU,.inr #[_,Y,_,_,Y,Y,sF,_,_,Y,Y,C ?_,bI,λ DN M h7 s5 h8=>?_]]
  ·rw [k8];have:=IZ (b:=decide (eL.length=0));omega
  rw [k8,IX (by rw [g.hx.len,vK.length_eq,bb])] at h8;exact #[aO,DN,_,Y,Y,s5 _ _ (m8 _ _ ai),h8,nW,q M ((yd.trans m8).trans s5)]
 refine #[cU,eL,dR cJ,Y,g.r,g.hx.keys,u0,λ ms sI Fd fB H1 f1 s1 af=>#[bI,λ ox ao f2 s2 ai=>#[fB,ox,_,_,Y,Y,s2 _ _ af,ai,C ?_,λ oy j0 hC s3 hc=>?_]]]
 ·rw [bb,sI.length_eq];show _+1<=_;omega
 have S:=(s1.trans s2).trans s3;have g3:=g.same S;obtain ⟨x,dq,bg⟩:∃ x,(ms.map V.str++[V.str "gone"])[(fq%((eL.length)+1)).toNat]?=some (.str x)/\l7 x:=by
  have qt:(fq%((eL.length)+1)).toNat<ms.length+1:=by
   have h6:eL.length=ms.length:=by rw [g.hx.len,sI.length_eq,bb]
   have:=jQ fq (b:=(eL.length)+1) .ak;have:=lJ fq (b:=(eL.length)+1) .ak;omega
  generalize (fq%((eL.length)+1)).toNat=j at qt;by_cases lX:j<ms.length
  ·refine #[ms[j],?_,(A7 (Ew _ (sI.mem_iff.mp (kv lX)))).1];rw [jJ (by rw [bb];exact lX),dg,cV lX];rfl
  ·refine #["gone", ?_,by unfold d8;decide +kernel,by decide +kernel,by decide +kernel];rw [kq (by rw [bb];omega),bb,show j-ms.length=0 by omega];rfl
 refine #[cU,eL,Y,g3.r,_,_,Y,Y,_,_,Y,Y,.ak,oy,_,_,_,Y,Y,aK.of hc,fF (jQ _ .ak) dq,?_];refine #[x,cU,eL,Y,Y,g3.r,_,Y,?_];cases I:df cJ x with
 | none =>
  rw [g.hx.none I];refine b6 #[bI,λ OZ Z f4 s4 aU=>#[_,_,Y,Y,(by show 0<3;decide),?_]];obtain ⟨w0,uN,h6,hb,lV,m_,qd⟩:∃ w0 uN:Str,[V.str "show ", V.str "gone ", V.str "ahead "][(fq%3).toNat]?=some (.str uN)/\uN=w0++bB 32/\r2 w0 ["name"]=.t/\(w0 = "gone" \/ w0 = "show" \/ w0 = "fate" \/ w0 = "ahead")/\uN.length<=6:=by
   rcases (by omega:(fq%3).toNat=0\/(fq%3).toNat=1\/(fq%3).toNat=2) with h|h|h<;>rw [h]
   ·exact #["show", _,Y,by decide +kernel,by decide +kernel,.inr (.inl Y),by decide +kernel]
   ·exact #["gone", _,Y,by decide +kernel,by decide +kernel,.inl Y,by decide +kernel]
   ·exact #["ahead", _,Y,by decide +kernel,by decide +kernel,.inr (.inr (.inr Y)),by decide +kernel]
  refine #[OZ,_,_,_,Y,Y,aK.of aU,fF (jQ _ .aw) h6,_,_,Y,Y,C (by have:=bg.2.2;omega),?_];refine (g3.same s4).ask (E:=gs) (w0:=w0) bg m_ (λ M s5=>.inl #[I,λ fJ D=>#[Y,?_]]) hb lV;rw [bP rfl];exact q fJ (((S.trans s4).trans s5).trans D)
 | some e =>
  obtain ⟨u,kS,nj,a2,rfl,zY,k4⟩:=g3.hx.some I;rw [kS];have ge:=(g.g.2 (x,e) (pZ I)).2;have uG:=g.n;have ae:∀ y∈e.1,0<=y/\y<10 ^ 60:=λ y m=>by have:=ge.b y m;omega
  refine bD #[cU,x,eL,.ref nj,Y,Y,g3.r,kS,nj,_,Y,aL.of zY,Y,_,_,Y,_,_,Y,Y,?_];refine #[Y,_,Y,vG (λ _=>?_) (λ _=>?_)]
  ·refine #[_,_,Y,Y,C (by have:=bg.2.2;show 5+_<=_;omega),g3.ask (E:=gs) (w0 := "show") bg (.inr (.inl Y)) λ M s5=>.inr #[e,I,.inr (.inl #[Y,Y,λ fJ D=>#[bI,λ rY hy nc J kP=>?_]])]];have ot:=(s5.trans D).trans J;exact #[a2,e.1,Y,ot _ _ k4,ge.l,ae,λ fc L=>#[bI,λ yF j2 uE G ji=>#[rY,yF,_,Y,Y,G _ _ (L _ _ kP),ji,nW,q j2 (((S.trans ot).trans L).trans G)]]]
  refine #[Y,_,Y,vG (λ _=>?_) (λ _=>?_)]
  ·refine #[_,_,Y,Y,C (by have:=bg.2.2;show 5+_<=_;omega),g3.ask (E:=gs) (w0 := "gone") bg (.inl Y) λ M s5=>.inr #[e,I,.inl #[Y,Y,λ fJ D=>#[bI,λ rY hy nc J kP=>?_]]]];have ot:=(s5.trans D).trans J;refine #[_,Y,?_,bI,λ yF j2 uE G ji=>#[rY,yF,_,Y,Y,G _ _ kP,ji,nW,q j2 ((S.trans ot).trans G)]];exact TB (by have aA:0<=e.2/\e.2<=200*N:=ge.s;omega)
  obtain ⟨bH,aI,bA⟩:=g3.t;obtain ⟨aE,bn,pr,hd,dl,xs,ds,ay,B,ar,yt,uZ⟩:=g3.d;have PL:=yt.1 ▸ uZ;refine #[Y,_,Y,vG (λ _=>?_) (λ _=>?_)]
  ·refine #[aQ,a2,bH,aj,e.1,Y,aI,bA,PL,k4,ge.l,λ jn Z rs f4 s4 aU iK=>?_];have vb:(iU (i5 (rowsOf aj) e.1)).length<=16:=by
    rw [(xm _).length_eq];have:=xo (rowsOf aj) e.1;rw [kG] at this;omega
   have X:∀ q∈iU (i5 (rowsOf aj) e.1),q.length=10/\∀ y∈q,0<=y/\y<10 ^ 60:=λ q qe=>by
    have:=JH (pT yt) (iH aj) ge.l (λ y m=>(ge.b y m).2) ((xm _).mem_iff.mp qe);exact #[this.1,λ y m=>#[(this.2 y m).1,by have:=(this.2 y m).2;omega]]
   obtain ⟨O,Ec⟩:∃ O,O=iU (i5 (rowsOf aj) e.1):=#[_,Y]
   rw [<-Ec] at iK vb X;refine #[jn,Y,#[_,aK.of aU],λ Dv jj=>xq (K:=K) (a:=jn) (σ0:=[]) (xs:=rs) (C (by rw [iK.1];omega)) #[_,Y] jj aU (λ i H' zs=>zs=((O.take i).map λ q=>du (bS q)).map V.str) Y (λ i H' j0 zs ys _ e _=>e) (λ i y H' zs R s' m ip hh oS gM=>?_) λ M zs s5 zy hh oS=>?_]
   ·obtain ⟨c,dE,z,rfl,hD⟩:=iK.2 i y m;have zD:=X c (cg dE);refine #[z,c,Y,s' _ _ hD,zD.1,zD.2,λ Z s4=>gM _ Z s4 ?_];subst oS;rw [p7 dE,ht];rfl
   rw [iK.1,ky] at oS;subst oS;have js:=IS (l:=O.map λ q=>du (bS q)) (B:=700) (λ y m=>by
    obtain ⟨q,qe,rfl⟩:=c0.mp m;exact rb (X q qe).1 (X q qe).2) (by rw [bb];exact vb) .aw
   have kJ:=s4.trans s5;refine #[_,_,Y,Y,C (by have:=bg.2.2;show 6+_<=_;omega),(g3.same kJ).ask (E:=gs) (w0 := "ahead") bg (.inr (.inr (.inr Y))) λ fJ D=>.inr #[e,I,.inr (.inr (.inr #[Y,Y,λ hy J=>#[bI,λ yL fc f8 L kQ=>?_]]))]];rw [<-Ec] at kQ;have yf:=(D.trans J).trans L;refine #[Y,_,Dv,O.map λ q=>du (bS q),Y,Y,yf _ _ zy,.aw,js.1,bI,λ OC j2 uE G ji=>#[Dv,OC,_,Y,Y,G _ _ (yf _ _ zy),ji,.inr #[_,Y,_,_,Y,Y,sF,_,_,Y,Y,C ?_,bI,λ uH m5 yp ni rQ=>?_]]]
   ·rw [k8];have:=IZ (b:=decide (((O.map λ q=>du (bS q)).map V.str).length=0));omega
   rw [k8,IX (bb _)] at rQ;exact #[yL,uH,_,Y,Y,ni _ _ (G _ _ kQ),rQ,nW,q m5 ((((S.trans kJ).trans yf).trans G).trans ni)]
  ·have m0:0<=fq%60:=jQ _ .aw;have adg:fq%60<60:=lJ _ .aw;refine #[_,_,Y,Y,(by show 0<60;decide),aQ,a2,bH,aj,e.1,fq%60,Y,aI,bA,k4,ge.l,ge.n,m0,.ak,λ v Z o s4 zz yw=>#[v,o,Y,yw,?_,λ M s5=>?_]]
   ·cases o with
    | iB=>trivial
    | rests k c =>
     obtain ⟨k1,k2,_⟩:=zz;have kR:=lA (iH aj) ge.l ge.n k2;have X:=v_ (pT yt) (λ y m=>(ge.b y m).2) k2;exact #[.ak,kR.1,λ y m=>#[g0.mp kR.2 y m,by have:=X y m;omega]]
    | round b OY =>
     obtain ⟨k1,k2,_⟩:=zz;exact #[.ak,.ak]
   have kJ:=s4.trans s5;have nl:=hV (k:=2) m0 .ak;have adW:=bg.2.2;refine #[_,_,Y,Y,C (by show 5+_<=_;omega),_,_,Y,Y,C (by rw [len_app];show 5+x.length+1<=_;omega),_,_,Y,Y,(by show 0<60;decide),_,Y,A1 .ak,_,bE (fq%60),Y,Y,C (by rw [len_app,len_app];show 5+x.length+1+_<=_;omega),(g3.same kJ).Sp (E:=gs) bg m0 .ak I λ er fJ D PY rY hy nc J kP=>?_];obtain rfl:=nE.uniq zz PY;exact #[bI,λ yE fc f8 L kQ=>#[rY,yE,_,Y,Y,L _ _ kP,kQ,nW,q fc ((((S.trans kJ).trans D).trans J).trans L)]]
end
def yg (x y:V) (H:aC):Prop:=(∃ a,x=.str a/\y=.str a)\/∃ (a b:Addr) (z:Str),x=.ref a/\y=.ref b/\H a=some (.lst [.str z])/\H b=some (.lst [.str z])
theorem VO (e:X.A.units+1<cLine):cQ X (compareOp .NotEq) (λ x y H Q=>yg x y H/\Q (.aJ .f) H):=by
 rintro pins s σ H x y v u Q I c d ⟨⟨a,rfl,rfl⟩|⟨a,b,z,rfl,rfl,af,ai⟩,q⟩
 ·exact hn pins s σ H _ _ v u Q I c d #[Y,by rw [bP rfl];exact q]
 ·exact VN e pins s σ H _ _ v u Q I c d #[a,b,_,Y,Y,af,ai,nW,q]
section
variable {H H':aC} {aN cJ:d3} {way:Str} {v bC eD:V} {x r:Str} {aj:cX}
theorem J5 (k:e5 H H') (d:hR H way v bC) (h:way = "put"):fU H' bC=fU H bC:=by
 subst h;rcases d with ⟨_,_,_,⟨_,a,ah,rfl,af,_⟩|⟨h,_⟩|⟨h,_⟩⟩|⟨h,_⟩
 ·unfold fU;rw [lK af,lK (k _ _ af)]
 all_goals exact absurd h .aw
theorem qF.cf (k:e5 H H') (d:hR H way v bC) (h:qF aN H way v bC x):qF aN H' way v bC x:=h.imp id (by rintro ⟨af,ai,a,b⟩;exact #[af,ai,a,by rw [J5 k d a];exact b])
theorem nF.cf (k:e5 H H') (d:hR H way v bC) (h:nF aj aN H way v bC eD cJ):nF aj aN H' way v bC eD cJ:=by
 obtain ⟨y,e,n,h⟩:=h;refine #[y,e,n,h.imp id (Or.imp id ?_)];rintro ⟨af,a,ag,ai,b,c,f⟩;exact #[af,a,ag,ai,k _ _ b,by rw [J5 k d af];exact c,f]
theorem qG.same (s:ax H H') (h:qG H way v bC r):qG H' way v bC r:=by
 rcases h with ⟨y,e,⟨af,a,ah,ai,b,c⟩|h⟩|h
 ·exact .inl #[y,e,.inl #[af,a,ah,ai,s _ _ b,c]]
 ·exact .inl #[y,e,.inr h]
 ·exact .inr h
end
section
variable {P:Program} {w:World} {K:aT} {mg:Str->cE} {base:Heap}
theorem c5.step {T:aY K mg}
  (e:c5 T aR S a bw ck aJ bX ns ag) (k:bN (dm S) aR g) (gL:∀ b,eJ aR g (S b) n) (aB:n<=90) (u6:ls.length<=n) (p:gI aR g (S b) (iT (S b).cP ls) kvs aN ls) (ep:hR g way v bC)
  (o:Fq (S b).aj (gC ls) g way v bC (S b).aW (iT (S b).cP ls) zh M) (y:ax M hy) (e1:qG M way v bC r)
  (q:∀ res H',yg res zh H'->bN [(S b).hd,(S b).dl,(S b).aW] g H'->bN (dm S) aR H'->(∀ j,eJ aR H' (S j) (n+1))->Q res H'):oh T [.ref (S b).bT,.str r] hy Q E:=by
 obtain ⟨N,o⟩:=o;have AB:ic aR g [(S b).aW]:=λ m hm=>by rw [dH.mp hm];exact .inl #[_,p.aW]
 have A:∀ {H'},br (S b).aW g H'->bN (dm S) aR H':=λ c=>k.trans ((bN.but c).mono λ m hm=>by rw [dH.mp hm];exact BQ S b _ .zs)
 have Rw:=cq p.hd p.aW nofun;have dd:∀ {H'},br (S b).aW g H'->∀ {ks:bj},H' (S b).aW=some (.lst ks)->gI aR H' (S b) ks kvs aN ls:=λ {H'} c {ks} ay=>by
  have E:=e.ev b;refine #[c _ _ Rw p.hd,c _ _ E.EX p.dl,ay,p.D.cf ((bN.but c).cf AB),p.pm,(bN.but c).dk ?_ p.cP,p.st.d7 (bN.but c) AB];rw [dH];exact cq E.sA E.oV nofun
 have kt:∀ {H'},br (S b).aW g H'->e5 g H':=λ c=>(bN.but c).cf AB
 have u:=N.trans (br.of y);have nd:eJ aR g (S (!b)) (n+1):=(gL (!b)).mono .ak;have L:∀ {aH:Addr},g aH=.n->aH≠(S b).hd/\aH≠(S b).dl:=λ f=>#[fI f p.hd,fI f p.dl]
 have EU:∀ {B s t},br (S b).aW g B->jr (S b).hd (S b).dl B s->ax s t->bN [(S b).hd,(S b).dl,(S b).aW] g t:=λ c j5 d=>(((bN.but c).mono .zs).trans ((bN.k7 j5).mono .zs)).trans (bN.same d)
 rcases o with ⟨x,rfl,hG,iM⟩|⟨yM,lt,klt,cJ,eD,rfl,kS,G,fl,I,qt,sl,st,Z⟩|⟨yM,rfl,rfl,J,G,I,Z⟩
 ·have ot:=hG.trans y;refine e.AI (A u) (dd u (ot _ _ p.aW)) (ep.cf (kt u)) (e1.same y) λ B gQ H aI=>?_
  have i:=ot.trans H;have h:br (S b).aW g B:=br.of i;have O:=dd h (i _ _ p.aW);have fin:∀ {s},ax B s->bN (dm S) aR s/\∀ j,eJ aR s (S j) (n+1):=λ C=>#[k.trans (bN.same (i.trans C)),λ j=>((gL j).same (i.trans C)).mono .ak]
  rcases iM with ⟨kS,yO⟩|⟨rfl,rfl,J⟩
  ·have E8:=yO.cf (kt h) ep;have Eb:=ep.cf (kt h);obtain rfl:=(e.GO (E:=λ _ _ _=>True) (j3:=λ _=>True) (m7:=λ _ _=>True) (A h) O .ak Eb aI kS E8 λ _ _=>trivial).1;exact (e.GO (A h) O .ak Eb aI kS E8 λ s C=>gY.name T λ t d=>q _ t (.inl #[_,Y,Y]) (bN.same (i.trans (C.trans d))) (fin (C.trans d)).1 (fin (C.trans d)).2).2
  ·rw [nV] at J;obtain rfl:=List.length_eq_zero_iff.mp (show ls.length=0 by omega);exact e.T5 (A h) O (gY.vC T λ t d=>q _ t (.inl #[_,Y,Y]) (bN.same (i.trans d)) (fin d).1 (fin d).2)
 ·have fM:aR lt=.n:=by
   cases h0:aR lt with
   | none=>rfl
   | some o =>
    have nl:lt∉dm S:=λ z=>by
     have db:∀ j,∃ yJ rX DQ,g (S j).hd=some yJ/\g (S j).dl=some rX/\g (S j).aW=some DQ:=λ j=>by
      obtain ⟨_,_,_,_,dd⟩:=gL j;exact #[_,_,_,dd.hd,dd.dl,dd.aW]
     obtain ⟨yJ,rX,DQ,aO,hF,iL⟩:=db .f;obtain ⟨O6,O7,adi,jn,qj,uJ⟩:=db .t;unfold dm at z;simp only [b5,dA,dB] at z;rcases z with rfl|rfl|rfl|rfl|rfl|rfl
     ·rw [fl] at aO;cases aO
     ·rw [fl] at hF;cases hF
     ·rw [fl] at iL;cases iL
     ·rw [fl] at jn;cases jn
     ·rw [fl] at qj;cases qj
     ·rw [fl] at uJ;cases uJ
    rcases k lt o nl h0 with z|⟨_,_,z|⟨_,z⟩⟩<;>rw [fl] at z<;>cases z
  refine e.AI (A u) (dd u (y _ _ I)) (ep.cf (kt u)) (e1.same y) λ B gQ H aI=>?_
  have i:=y.trans H;have h:=N.trans (br.of i);refine e.T6 (A h) (dd h (i _ _ I)) u6 .ak (ep.cf (kt h)) aI fM (i _ _ qt) (sl.cf (e5.of i)) (st.cf (kt h) ep) λ s j5 R=>?_
  have f:=e.fin k p nd h j5 R;have X:=j5 _ _ (L G).1 (L G).2 (i _ _ Z);have key:kV Q (zi eD) s:=λ oB t yp d aU=>q _ t (.inr #[oB,yM,_,Y,Y,aU,d _ _ X]) (EU h j5 d) (f.1.trans (bN.same d)) λ j=>(f.2 j).same d
  exact #[λ ev=>by subst ev;exact key,λ dN ev=>by subst ev;exact key]
 ·rw [nV] at J;cases ls with
  | nil=>exact absurd rfl J
  | cons l ls =>
   have u4:M (S b).aW=some (.lst (iT (S b).cP ls)):=by
    rw [I];show some (fe.lst (iT (S b).cP ls++[V.ref l.r]).dropLast)=_;rw [List.dropLast_concat]
   refine e.AI (A u) (dd u (y _ _ u4)) (ep.cf (kt u)) (e1.same y) λ B gQ H aI=>?_
   have i:=y.trans H;have h:=N.trans (br.of i);refine e.T7 (n:=n+1) (A h) (dd h (i _ _ u4)) (by rw [fW] at u6;omega) λ s j5 R=>?_
   have f:=e.fin k p nd h j5 R;have X:=j5 _ _ (L G).1 (L G).2 (i _ _ Z);exact λ oB t yp d aU=>q _ t (.inr #[oB,yM,_,Y,Y,aU,d _ _ X]) (EU h j5 d) (f.1.trans (bN.same d)) λ j=>(f.2 j).same d
theorem bN.Sk (k:bN M aR H) (b:br p H H') (f:∀ c o,c∉M->aR c=some o->c≠p):bN M aR H':=λ c o n h=>by
 have ne:=f c o n h;rcases k c o n h with h|⟨bX,a,d⟩
 ·exact .inl (b _ _ ne h)
 ·exact .inr #[bX,a,d.imp (b _ _ ne) λ ⟨u,h⟩=>#[u,b _ _ ne h]]
theorem eJ.but (g:eJ aR H S n) (g2:eJ aR ao S e) (f:ao p=.n) (ar:H p=some (.lst ys)) (b:br p H H'):eJ aR H' S n:=by
 obtain ⟨kvs,aN,ls,af,d⟩:=g;obtain ⟨_,_,_,_,d2⟩:=g2;refine #[kvs,aN,ls,af,d.d7 (bN.but b) (λ m hm=>by rw [dH.mp hm];exact .inl #[_,ar]) (λ c a z=>?_) (b _ _ (b0 d2.hd f) d.hd)];rw [dH.mp z] at a;simp only [b5,dA,dB] at a;rcases a with rfl|rfl|rfl
 ·rw [d2.dl] at f;cases f
 ·rw [d2.aW] at f;cases f
 ·rcases d2.cP with h|⟨_,h⟩<;>rw [h] at f<;>cases f
theorem c5.Pf {T:aY K mg} (e:c5 T aR S a bw ck aJ bX ns ag) (k:bN (dm S) aR H) (b) (aB:ls.length<=90) (d:gI aR H (S b) ks kvs aN ls):hJ T H (S b).bT (S b).aQ (qK (S b).cP ls) (S b).aj kvs (qJ ls) aN (gC ls) ls.length :=
 #[#[_,_,_,_,_,_,_,e.zg k b,e.bn k b d,(e.z8 k b).1,(e.z8 k b).2,(e.ev b).k_],d.D,#[_,e.tab k b],d.st.top d.cP,d.st.dict,d.pm,d.st.good,.ak]
theorem aK.f5 (b:aK K H a xs) (s:ax H H'):aK K H' a xs:=by
 rcases b with (h|⟨u,h⟩)|h
 ·exact .inl (.inl (s _ _ h))
 ·exact .inl (.inr #[u,s _ _ h])
 ·exact .inr h
structure ka (T:aY K mg) (H:aC) (k d7 b d p h l:Addr) (xs:bj) (aj:cX):Prop where
 ay:H k=some (.ins T.d5 d7 [("bench", .ref b)])
 ae:H b=some (.ins T.fk d [("program", .ref p),("held", .ref h),("deeds", .ref l)])
 hd:H h=some (.bW [])
 dl:H l=some (.lst [])
 ar:H p=some (.tup xs)
 hf:d0 H xs aj
 k_:xs.length<=16
theorem ka.same {T:aY K mg} (N:ka T H k d7 b d p h l xs aj) (s:ax H H'):ka T H' k d7 b d p h l xs aj:=#[s _ _ N.ay,s _ _ N.ae,s _ _ N.hd,s _ _ N.dl,s _ _ N.ar,N.hf.same s,N.k_]
theorem ka.but {T:aY K mg} (N:ka T H k d7 b d p h l xs aj) (a:H dN=some (.ins C aE fl)) (j9:k≠dN) (nb:b≠dN) (s:br dN H H'):ka T H' k d7 b d p h l xs aj :=
 #[s _ _ j9 N.ay,s _ _ nb N.ae,s _ _ (cq N.hd a nofun) N.hd,s _ _ (cq N.dl a nofun) N.dl,s _ _ (cq N.ar a nofun) N.ar,N.hf.cf λ c ys h=>s _ _ (cq h a nofun) h,N.k_]
theorem HQ (a:H k=.n) (b:H d7=.n):ax H (upd (upd (upd H d7 (.own k)) k (.ins C d7 fl)) k (.ins C d7 Eh)):=λ c o e=>by
 rw [a3 (b0 e a),a3 (b0 e a),a3 (b0 e b)];exact e
noncomputable abbrev vH:Nat:=14
def wi (K:aT):bz:=λ vs H Q Z=>∃ (a:Addr) (ns:bp),vs=[.ref a]/\aK K H a (ns.map V.int)/\ns.length<=63/\∀ H',Q (.aJ .t) H'
theorem Ur (T:aY K mg) {f:Addr} {fd:FuncData} (F:gy K "law" "law" A6 f fd):dO P w K mg base bY vH f fd ["script"] (wi K):=by
 refine F.cp g5 .bU λ a0 A outer s H vs Q E d h=>?_
 obtain ⟨a,ns,rfl,yv,hlen,q⟩:=h;refine #[_,(aD (ba 1 g5 (a4 (I1 T) d aV (aa (a4 (Mn T) d aV (aa (U 0) (aa aF aq))) aq)))
  (aD (ba 2 g5 (a4 (aaz T) d aV (aa (U 1) aq)))
  (aD (ba 3 g5 (cW (aa (a4 (N6 T) d aV (aa (U 1) (aa (U 2) (aa aF aq)))) (aa (a4 (N6 T) d aV (aa (U 1) (aa (U 2) (aa aF aq)))) aq))))
  (aD (w6 (i:=4) g5.cD Y (Or.inl Y) (dp g5 (N:=["program"]) (js:=[.n]) (dV _)) Y (mZ (U 3)) (λ _ _ _ _=>d1) (λ _ _ _ _=>ei)
    (λ _ _ _ _=>(a4 (Z5 T) d aV (aa (U 0) aq))))
  (aD (ba 5 g5 (cW (aa (I8 T.rC.at_ (Mm T) (d.mono .aw) Y T.G5 T.rC.bd .nil aV) (aa (I8 T.rC.at_ (Mm T) (d.mono .aw) Y T.G5 T.rC.bd .nil aV) aq))))
  (aD (bM (dx.pt (e9 (eW (d_ (a4 (KU T) d aV (aa (bO cz (U 5) aF (λ _ _=>rfl)) (aa (bO cz (U 3) aF (λ _ _=>rfl)) aq))))) (gn (eW (d_ (a4 (KU T) d aV (aa (bO cz (U 5) aF (λ _ _=>rfl)) (aa (bO cz (U 3) aF (λ _ _=>rfl)) aq))))))))
   (aG (aZ hS))
   bJ)
  (aD (ba 6 g5 (cW (aa (cW (aa rn aq)) (aa (cW (aa rn aq)) aq))))
  (aD (eI dW Y (Ze Y T.hX (aa aF (aa (bR (tX Y) T.pd o_ (aa aF (aa (bR (JP Y) T.pe pa (aa (bR fb T.dz dy (aa (U 0) aq)) (aa aF aq))) aq))) aq))) (cH 7 g5)
   (aD (ba 1 g5 (a4 (I1 T) d aV (aa (a4 (Mn T) d aV (aa (U 0) (aa (U 7) aq))) aq)))
  (aD (ba 8 g5 (dv tW T.mE mB (aa (fY cY (a4 (gG T) d aV (aa (U 1) (aa aF aq))) aF (bh _)) aq)))
  (aD (ba 9 g5 (a4 (ab0 T) d aV (aa (U 1) (aa (U 2) (aa (bO cz (bO cz (U 6) (U 8) (λ _ _=>rfl)) (jF jL aF) (λ _ _=>rfl)) aq)))))
  (aD (ba 10 g5 (a4 (aay T) d aV (aa (bO cz (U 4) (U 8) (λ _ _=>rfl)) (aa (bO cz (U 6) (U 8) (λ _ _=>rfl)) (aa (U 9) aq)))))
  (aD (bM (bq (VO (d9 d)) (a4 (lS T) d aV (aa (bO cz (U 5) (U 8) (λ _ _=>rfl)) (aa (a4 (aaA T) d aV (aa (U 9) aq)) aq))) (U 10) (bh _))
   (aG (aZ hS))
   bJ)
  (aD (ba 11 g5 (a4 (gG T) d aV (aa (U 1) (aa aF aq))))
  (aD (ba 12 g5 (a4 (gG T) d aV (aa (U 1) (aa aF aq))))
  (aG (eI dW Y (jc Y T.hX (aa aF aq)) (cH 13 g5)
   (aG (bM (eW (d_ (a4 (KV T) d aV (aa (bO cz (U 5) (U 13) (λ _ _=>rfl)) (aa (bO cz (U 4) (U 13) (λ _ _=>rfl)) (aa (bO cz (bO cz (U 6) (U 13) (λ _ _=>rfl)) (jF jL aF) (λ _ _=>rfl)) (aa (U 11) (aa (U 12) aq))))))))
   (aG (aZ hS))
   bJ))))))))))))
  (aD (ba 14 g5 (a4 (lS T) d aV (aa (bO cz (U 5) aF (λ _ _=>rfl)) (aa (bf ea a9 (a4 (Mp T) d aV (aa (bO cz (U 3) aF (λ _ _=>rfl)) aq))) aq))))
  (aG (aZ (qV (fY (pS (d9 d)) (U 14) (cW (aa a9 aq)) (bh _)) (pD (a4 (KV T) d aV (aa (bO cz (U 5) aF (λ _ _=>rfl)) (aa (bO cz (U 4) aF (λ _ _=>rfl)) (aa rn (aa aF (aa aF aq))))))))))))))))))),?_]
 refine #[a,ns,0,Y,yv,.aw,λ c=>#[c,Y,λ n pt hM=>?_]];refine #[pt,n,Y,bc,λ bw j0 yH ag j4 En u9 fB DN hm=>?_];have AE:bw≠pt:=cq u9 En nofun;refine #[pt,bw,yH,8,ag,Y,En,u9,fB,.ak,hm,.aw,.aw,λ nh iI jl sR fA si ED r3 ad9 SE=>?_];obtain ⟨I,SG⟩:=BM SE;refine #[pt,bw,jl,5,ag,Y,si,fA _ _ AE u9,fB,.ak,hm,.aw,.aw,λ p1 j1 jm vw ha qr oR Pw ad_ SF=>?_];obtain ⟨nv,SH⟩:=BM SF;refine #[bI,λ h_ aU lW Z h9=>?_];have RB:nh≠pt:=cq ED si nofun;have ye:ax H aU:=λ ov o e=>Z _ _ (((j4.trans fA).trans ha) ov o (b0 e hM) (by rw [a3 (b0 e hM)];exact e))
 have Av:aU nh=some (.tup sR):=Z _ _ (ha _ _ RB ED);have FJ:aU p1=some (.tup vw):=Z _ _ oR;have sT:d0 aU sR I:=(SG.but si ha).same Z;have FH:d0 aU vw nv:=SH.same Z;have SP:aU bw=some (.tup (ag.map V.int)):=Z _ _ (ha _ _ AE (fA _ _ AE u9));refine #[h_,Y,#[_,aK.of h9],λ D jj=>xq (K:=K) (a:=h_) (σ0:=[]) (xs:=[.ref nh,.ref p1]) bI #[_,Y] jj h9
  (λ i H' zs=>(i=0/\zs=[])\/(i=1/\∃ t0 y,zs=[.ref t0]/\t0≠D/\H' t0=some (.lst y)/\eM H' y I)\/(i=2/\∃ t0 y t1 k9,zs=[.ref t0,.ref t1]/\t0≠D/\t1≠D/\H' t0=some (.lst y)/\eM H' y I/\H' t1=some (.lst k9)/\eM H' k9 nv))
  (.inl #[Y,Y]) (λ i H' ao zs ys ip d b=>?_) (λ i x H' zs R s' dq ip hh d gM=>?_) λ X zs iN Ek hh d=>?_]
 ·rcases d with h|⟨rfl,t0,y,rfl,fM,h0,af⟩|⟨rfl,t0,y,t1,k9,rfl,fM,kT,h0,af,ai,hc⟩
  ·exact .inl h
  ·exact .inr (.inl #[Y,t0,y,Y,fM,b _ _ fM h0,af.but ip b])
  ·exact .inr (.inr #[Y,t0,y,t1,k9,Y,fM,kT,b _ _ fM h0,af.but ip b,b _ _ kT ai,hc.but ip b])
 ·rcases d with ⟨rfl,rfl⟩|⟨rfl,t0,y,rfl,fM,h0,af⟩|⟨rfl,_⟩
  ·cases dq;refine #[nh,sR,I,Y,s' _ _ Av,sT.same s',.ak,λ l fc bH f8 O kQ bA=>gM (.ref l) fc O (.inr (.inl #[Y,l,bH,Y,?_,kQ,bA]))];intro z;rw [z,ip] at f8;cases f8
  ·cases dq;refine #[p1,vw,nv,Y,s' _ _ FJ,FH.same s',.ak,λ l fc bH f8 O kQ bA=>gM (.ref l) fc O (.inr (.inr #[Y,t0,y,l,bH,Y,fM,?_,O _ _ h0,af.same O,kQ,bA]))];intro z;rw [z,ip] at f8;cases f8
  ·cases dq
 obtain ⟨t0,y,t1,k9,rfl,-,-,EH,P7,vc,P8⟩:∃ t0 y t1 k9,zs=[.ref t0,.ref t1]/\t0≠D/\t1≠D/\X t0=some (.lst y)/\eM X y I/\X t1=some (.lst k9)/\eM X k9 nv:=by
  rcases d with ⟨h,_⟩|⟨h,_⟩|⟨_,h⟩
  ·cases h
  ·cases h
  ·exact h
 refine λ B jy Eg PT adX=>#[B,jy,Y,bc,Y,?_]
 have Ac:=HQ (C:=T.d5) (fl:=[]) (Eh:=[("bench", .aX)]) Eg PT;have sr:upd (upd (upd X jy (.own B)) B (.ins T.d5 jy [])) B (.ins T.d5 jy [("bench", .aX)]) B=_:=bc;generalize upd (upd (upd X jy (.own B)) B (.ins T.d5 jy [])) B (.ins T.d5 jy [("bench", .aX)])=Ds at Ac sr ⊢;refine λ aO kf zo PU adY=>#[aO,kf,Y,bc,Y,?_]
 have vr:=HQ (C:=T.d5) (fl:=[]) (Eh:=[("bench", .aX)]) zo PU;have Ex:upd (upd (upd Ds kf (.own aO)) aO (.ins T.d5 kf [])) aO (.ins T.d5 kf [("bench", .aX)]) aO=_:=bc;generalize upd (upd (upd Ds kf (.own aO)) aO (.ins T.d5 kf [])) aO (.ins T.d5 kf [("bench", .aX)])=ac1 at vr Ex ⊢;refine #[bI,λ jZ x3 ady vt u1=>?_];have vn:ax X x3:=(Ac.trans vr).trans vt;have Aa:ax aU x3:=iN.trans vn;have sF:B≠aO:=b0 sr zo;have PM:X aO=.n:=Ac.free zo;have ES:=vt _ _ Ex;refine #[jZ,_,_,_,Y,Y,aK.of u1,(show es _ _=some (.ref B) from Y),h_,_,_,_,Y,Y,aK.of (Aa _ _ h9),(show es _ _=some (.ref nh) from Y),B,jy,nh,sR,I,Y,vt _ _ (vr _ _ sr),Aa _ _ Av,sT.same Aa,r3,.ak,λ vk uz h0 gw vx ac2 yl h6 hb PO Ei PN lV m_ qd rM s5=>#[_,Y,bD ?_]];have uB:br B x3 rM:=yl.trans (br.of s5);have vo:ax X rM:=λ c o e=>uB _ _ (b0 e Eg) (vn _ _ e)
 have Ab:ax aU rM:=iN.trans vo;have vD:=uB _ _ (cq u1 (vt _ _ (vr _ _ sr)) nofun) u1;have z0:=uB _ _ sF.symm ES;obtain ⟨uD,Qb⟩:=hb.at_;have yb:ka T rM B jy uz uD vk h0 gw vx I:=ka.same #[h6,Qb,hb.hd,hb.dl,lV,m_,qd] s5;refine #[jZ,_,_,_,Y,Y,aK.of vD,(show es _ _=some (.ref aO) from Y),h_,_,_,_,Y,Y,aK.of (Ab _ _ h9),(show es _ _=some (.ref p1) from Y),aO,kf,p1,vw,nv,Y,z0,Ab _ _ FJ,FH.same Ab,Pw,.ak,λ z7 hB af fB Am ac3 rP h6 hb Ef zp adz lV m_ qd fc sL=>#[_,Y,bD ?_]];have ze:br aO rM fc:=rP.trans (br.of sL);have O:ax X fc:=λ c o e=>ze _ _ (b0 e PM) (vo _ _ e)
 have sg:=ze _ _ (cq vD z0 nofun) vD;obtain ⟨jh,Qc⟩:=hb.at_;have L:ka T fc aO kf hB jh z7 af fB Am nv:=ka.same #[h6,Qc,hb.hd,hb.dl,lV,m_,qd] sL;have J:ka T fc B jy uz uD vk h0 gw vx I:=yb.but z0 sF (fI PN ES) ze;have EY:h0≠af:=b0 yb.hd Ef;have EZ:gw≠fB:=b0 yb.dl zp;have Ro:gw≠jZ:=fI Ei u1;have Rp:fB≠jZ:=fI zp vD;refine λ cP Od f1 s1 h6=>#[bI,λ k0 ac4 f2 s2 hb=>λ oC ac5 hC s3 lV=>#[bI,λ k1 ac6 f4 s4 m_=>#[bI,λ bX aR h7 s5 qd=>?_]]]
 have up:ax fc aR:=(((s1.trans s2).trans s3).trans s4).trans s5;have uI:fc k0=.n/\fc k1=.n:=#[s1.free f2,s1.free (s2.free (s3.free f4))]
 obtain ⟨S,zB⟩:∃ S:Bool->f_,S=λ b=>match b with
  | false=>(#[B,jy,uz,vk,h0,gw,t0,k0,cP,uD,vx,y,I]:f_)
  | true=>(#[aO,kf,hB,z7,af,fB,t1,k1,oC,jh,Am,k9,nv]:f_):=#[_,Y]
 have kK:S .f=⟨B,jy,uz,vk,h0,gw,t0,k0,cP,uD,vx,y,I⟩:=by rw [zB]
 have St:S .t=⟨aO,kf,hB,z7,af,fB,t1,k1,oC,jh,Am,k9,nv⟩:=by rw [zB]
 have em:dm S=[h0,gw,k0,af,fB,k1]:=by unfold dm;rw [kK,St]
 have DO:∀ c∈dm S,X c=.n:=λ c dE=>by
  rw [em] at dE;simp only [b5,dA,dB] at dE;rcases dE with rfl|rfl|rfl|rfl|rfl|rfl
  ·exact vn.free PO
  ·exact vn.free Ei
  ·exact O.free uI.1
  ·exact vo.free Ef
  ·exact vo.free zp
  ·exact O.free uI.2
 have sM:ax aU aR:=(iN.trans O).trans up;have oA:∀ {c:Addr} {o:fe},X c=some o->c∉dm S:=λ {c o} h z=>by rw [DO c z] at h;cases h
 have g:c5 T aR S a bw D jZ bX ns ag:=by
  refine #[λ H' k=>?_,sM _ _ SP,.ak,hm,?_,?_,?_,?_,?_,?_]
  ·have Em:aK K aR a (ns.map V.int):=aK.f5 yv (ye.trans sM);rcases yv with (h|⟨u,h⟩)|h
   ·exact k.DV (oA (iN _ _ (ye _ _ h))) Em
   ·exact k.DV (oA (iN _ _ (ye _ _ h))) Em
   ·exact .inr h
  ·rw [kK,St];exact up _ _ (O _ _ Ek)
  ·rw [kK,St];exact up _ _ sg
  ·rw [kK,St];exact qd
  ·rw [kK,St];intro c dE;simp only [b5,dA,dB] at dE;rcases dE with rfl|rfl|rfl|rfl|rfl
   ·exact oA Ek
   ·rw [em];simp only [b5,dA,dB];rintro (z|z|z|z|z|z)
    ·exact cq sg J.hd nofun z
    ·exact Ro z.symm
    ·exact b0 sg uI.1 z
    ·exact cq sg L.hd nofun z
    ·exact Rp z.symm
    ·exact b0 sg uI.2 z
   ·rw [em];have kO:=(((s1.trans s2).trans s3).trans s4)
    simp only [b5,dA,dB];rintro (z|z|z|z|z|z)
    ·exact fI h7 (kO _ _ J.hd) z
    ·exact fI h7 (kO _ _ J.dl) z
    ·exact fI h7 (s4 _ _ (s3 _ _ hb)) z
    ·exact fI h7 (kO _ _ L.hd) z
    ·exact fI h7 (kO _ _ L.dl) z
    ·exact fI h7 m_ z
   ·exact oA EH
   ·exact oA vc
  ·intro b;cases b
   ·rw [kK];exact #[up _ _ J.ay,up _ _ J.ae,up _ _ J.ar,J.hf.same up,J.k_,up _ _ (O _ _ EH),P7.same (O.trans up),up _ _ J.hd,up _ _ J.dl,s5 _ _ (s4 _ _ (s3 _ _ hb)),s5 _ _ (s4 _ _ (s3 _ _ (s2 _ _ h6))),fI f1 J.hd,b0 (s1 _ _ J.dl) f2]
   ·rw [St];exact #[up _ _ L.ay,up _ _ L.ae,up _ _ L.ar,L.hf.same up,L.k_,up _ _ (O _ _ vc),P8.same (O.trans up),up _ _ L.hd,up _ _ L.dl,s5 _ _ m_,s5 _ _ (s4 _ _ lV),fI hC ((s1.trans s2) _ _ L.hd),b0 ((s1.trans s2).trans s3 _ _ L.dl) f4]
  ·have aO:h0≠oC:=b0 ((s1.trans s2) _ _ J.hd) hC;have hF:gw≠k1:=b0 (((s1.trans s2).trans s3) _ _ J.dl) f4;have iL:k0≠fB:=fI f2 (s1 _ _ L.dl);have jn:k0≠k1:=b0 (s3 _ _ hb) f4;have qj:af≠cP:=b0 L.hd f1;intro b;cases b
   ·show x4 (S .f) (S .t);rw [kK,St];exact #[EY,aO,EZ,hF,iL,jn]
   ·show x4 (S .t) (S .f);rw [kK,St];exact #[EY.symm,qj,EZ.symm,iL.symm,hF.symm,jn.symm]
 have RD:h_∉dm S:=oA (iN _ _ h9);have SO:=sM _ _ h9;have SN:=sM _ _ Av;have SD:=sT.same sM;have PH:(S .f).aj=I:=by rw [kK]
 clear zB kK St em DO oA;have DG:∀ b,eJ aR aR (S b) 0:=λ b=>#[[],[],[],bL _,(g.ev b).jx,(g.ev b).oU,(g.ev b).oV,.nil,.refl _,.inl (g.ev b).sA,trivial]
 refine #[a,_,Y,.inl (g.sc _ (bN.same (ax.refl _))),_,_,Y,_,_,Y,?_];generalize Qt:(if (if (31:Int)<((ns.map V.int).length:Int) then (31:Int) else ((ns.map V.int).length:Int))>2 then (if (31:Int)<((ns.map V.int).length:Int) then (31:Int) else ((ns.map V.int).length:Int)) else 2)=m;have adF:0<=m/\m<=31:=by
  rw [<-Qt];split<;>split<;>omega
 refine #[1,m,Y,#[.aw,.aw,.ak,.ak],jb (n:=(m-1).toNat) (λ i σ ao=>(∃ r1 oG u8 oH mu mv Ai Aj vv:e6,σ=[some (.ref a),r1,some (.ref bw),some (.ref h_),some (.ref D),some (.ref jZ),some (.ref bX),oG,u8,oH,mu,mv,Ai,Aj,vv])/\bN (dm S) aR ao/\∀ b,eJ aR ao (S b) i) #[#[_,.n,.n,.n,.n,.n,.n,.n,.n,Y],bN.same (ax.refl _),DG] ?_ ?_]
 ·rintro i σ ao av ⟨⟨r1,oG,u8,oH,mu,mv,Ai,Aj,vv,rfl⟩,old,gL⟩;refine #[a,ns,_,Y,g.sc _ old,.ak,λ c=>#[c,Y,λ n pt hM=>?_]];refine #[pt,n,4,Y,bc,.aw,.aw,λ yl jl iI ado adp fA u_=>#[Y,.inr #[_,Y,?_]]];generalize decide (V.int yl=V.int 0)=b;have m8:ax ao iI:=λ ov o e=>fA _ _ (b0 e hM) (by rw [a3 (b0 e hM)];exact e)
  have FT:=old.trans (bN.same m8);obtain ⟨kvs,aN,ls,u6,d2⟩:=gL b;have lU:=d2.d7 (M:=[]) (bN.same m8) (λ _ h=>by cases h) (λ _ _ h=>by cases h) (m8 _ _ d2.hd);have gt:=lU.st.good;refine #[bX,_,_,_,Y,Y,aK.of (g.z1 FT),at2 _ _ b,?_];rw [pg (f:=f_.aW)];refine #[1,Y,(S b).aW,_,_,_,Y,Y,aK.of lU.aW,Bm _ _,pt,bw,_,jl,ag,qJ ls,gC ls,Y,u_,g.cf FT _ _ g.cu,g.RL,g.pm,lU.st.top lU.cP,lU.st.dict,by have:=gt.small;omega,λ p ar=>(gt.2 p ar).1,λ eo way v bC jm j1 ha QE sk ep=>?_];have kJ:ax ao j1:=λ ov o e=>ha _ _ (b0 e hM) (m8 _ _ e)
  have sV:=old.trans (bN.same kJ);have kN:=d2.d7 (M:=[]) (bN.same kJ) (λ _ h=>by cases h) (λ _ _ h=>by cases h) (kJ _ _ d2.hd);have zr:=kN.st.good;have tab:=g.tab sV b;refine #[D,_,_,_,Y,Y,aK.of (g.Af sV),at2 _ _ b,?_];rw [pg (f:=f_.aQ)];refine #[bX,_,_,_,Y,Y,aK.of (g.z1 sV),at2 _ _ b,?_];rw [pg (f:=f_.aW)];refine #[(S b).aQ,(S b).aW,eo,qK (S b).cP ls,(S b).bH,iT (S b).cP ls,(S b).aj,qJ ls,gC ls,way,v,bC,Y,tab.1,tab.2,kN.aW,by rw [nV];omega,by rw [nV];omega,Bm _ _,kN.st.top kN.cP,kN.st.dict,by have:=zr.small;omega,λ p ar=>#[(zr.2 p ar).2.l,(zr.2 p ar).2.n],sk,ep,λ zh aU o=>?_];have rP:=o.1;have S9:bN (dm S) aR aU:=sV.trans ((bN.but rP).mono λ c dE=>by rw [dH.mp dE];exact BQ S b _ .zs);have Sy:=rP _ _ (cq sk kN.aW nofun) sk;have Rd:e5 j1 aU:=λ c ys h=>rP _ _ (cq h kN.aW nofun) h
  refine #[jZ,_,_,_,Y,Y,aK.of (g.uV S9),at2 _ _ b,?_];rw [pg (f:=f_.bT)];refine #[eo,way,v,bC,Y,Sy,ep.cf Rd,λ r adn R1 d=>?_];refine g.step (E:=gs) sV (λ t=>(gL t).same kJ) .ak u6 kN ep o R1 d λ res D6 R8 Rg S_ OP=>#[R8,_,Y,bD ?_]
  have va:D6 pt=some (.lst [.int jm]):=Rg.lst (λ z=>by
   simp only [b5,dA,dB] at z;rcases z with z|z|z
   ·exact fI hM d2.hd z
   ·exact fI hM d2.dl z
   ·exact fI hM d2.aW z) QE
  refine #[pt,jm,5,Y,va,.aw,.aw,λ qm lZ j2 ad7 ad8 yi QG=>?_];refine #[pt,lZ,1000,Y,QG,.aw,.aw,λ fq adh m5 RG nul Ox zR=>?_];have DC:br pt D6 m5:=yi.trans Ox;have Ta:bN (dm S) aR m5:=S_.Sk DC λ c o n h z=>by
   rcases old c o n h with h|⟨_,_,h|⟨_,h⟩⟩<;>rw [z,hM] at h<;>cases h
  have OR:∀ t,eJ aR m5 (S t) (i+1):=λ t=>(OP t).but (gL t) hM va DC
  refine #[2,Y,.aw,.aw,jb (n:=2) (λ j σ D5=>(∃ AM,σ=[some (.ref a),some (.ref pt),some (.ref bw),some (.ref h_),some (.ref D),some (.ref jZ),some (.ref bX),some (.int (1+(i:Int))),some (.int (if b then 1 else 0)),some (.ref eo),some zh,some (.int qm),some (.int fq),AM,vv])/\bN (dm S) aR D5/\∀ t,eJ aR D5 (S t) (i+1)) #[#[_,Y],Ta,OR] ?_ ?_]
  ·rintro j σ G lX ⟨⟨AM,rfl⟩,o7,uF⟩;obtain ⟨t,Qa⟩:∃ t:Bool,(0+(j:Int))=if t then 1 else 0:=by
    rcases (by omega:j=0\/j=1) with rfl|rfl
    ·exact #[.f,Y]
    ·exact #[.t,Y]
   rw [Qa];obtain ⟨S1,PF,vg,aee,Du⟩:=uF t;refine #[jZ,_,_,_,Y,Y,aK.of (g.uV o7),at2 _ _ t,?_];rw [pg (f:=f_.bT)];refine #[D,_,_,_,Y,Y,aK.of (g.Af o7),at2 _ _ t,?_];rw [pg (f:=f_.aQ)];refine #[bX,_,_,_,Y,Y,aK.of (g.z1 o7),at2 _ _ t,?_];rw [pg (f:=f_.aW)];exact #[1,Y,(S t).aW,_,_,_,Y,Y,aK.of Du.aW,Bm _ _,(S t).bT,(S t).aQ,qK (S t).cP vg,(S t).aj,S1,qJ vg,PF,gC vg,vg.length,qm,fq,Y,g.Pf o7 t .ak Du,RG,nul,λ Od s1=>#[_,Y,bD #[#[_,Y],o7.trans (bN.same s1),λ ou=>(uF ou).same s1]]]
  ·rintro σ G ⟨⟨AM,rfl⟩,o7,uF⟩;exact #[#[_,_,_,_,_,_,_,_,_,Y],o7,uF]
 ·rintro σ ao ⟨⟨r1,oG,u8,oH,mu,mv,Ai,Aj,vv,rfl⟩,old,gL⟩;obtain ⟨PZ,zI⟩:=IJ (SD.cf (g.cf old));have Et:1<=I.length:=sT.1 ▸ r3;have FG:I.length<=16:=by have:=sT.1;omega
  have tab:=g.tab old .f;rw [PH] at tab;have oQ:=g.zg old .f;refine #[jZ,_,_,_,Y,Y,aK.of (g.uV old),(show es _ _=some (.ref (S .f).bT) from Y),h_,_,_,_,Y,Y,aK.of (old.lst RD SO),(show es _ _=some (.ref nh) from Y),nh,sR,I,Y,g.cf old _ _ SN,.ak,PZ,zI,λ j0 s3=>#[_,_,Y,Y,?_,Ji (E:=gs) (s3 _ _ oQ) Et FG zI λ pr bn hd dl ys iI hB ou j4 fA ha DB Ow uA yi aH j1 h7 s5 h8=>?_]]
  ·have hw:=(Bl FG zI).2.2.2;rw [<-CM Et,len_app] at hw;rw [b8];omega
  have bs:br (S .f).bT ao j1:=((br.of s3).trans hB).trans (br.of s5);have kt:e5 ao j1:=λ c ys h=>bs _ _ (cq h oQ nofun) h
  have ls:∀ {c:Addr} {ys:bj},ao c=some (.lst ys)->j1 c=some (.lst ys):=λ h=>bs _ _ (cq h oQ nofun) h
  refine #[bI,λ yD aU lW Z h9=>#[aH,yD,_,Y,Y,Z _ _ h8,h9,nW,?_]];refine #[_,Y,b6 #[jZ,_,_,_,Y,Y,aK.of (Z _ _ (ls (g.uV old))),(show es _ _=some (.ref (S .f).bT) from Y),D,_,_,_,Y,Y,aK.of (Z _ _ (ls (g.Af old))),(show es _ _=some (.ref (S .f).aQ) from Y),λ OA X nc iN kP=>?_]];have ny:=(s5.trans Z).trans iN;exact #[(S .f).bT,(S .f).aQ,OA,I,[],[],[],[],0,0,0,Y,#[#[_,bn,pr,hd,dl,ys,[],ny _ _ ou,j4.same ny,ny _ _ Ow,uA.same ny,yi],.nil,#[_,iN _ _ (Z _ _ (ls tab.1)),(tab.2.cf kt).same (Z.trans iN)],.inl kP,.nil,.refl _,gg.nil,.aw],.aw,.aw,λ H' _=>q H']
end
def D2:b2->(List Value->Prop)->Prop
 | [],f=>f []
 | _::ag,f=>∀ u,D2 ag λ us=>f (u::us)
theorem uU {ag:b2}:∀ {f:List Value->Prop},D2 ag f->∀ us:List Value,us.length=ag.length->f us:=by
 induction ag with
 | nil =>
  intro f h us e;obtain rfl:=len0 e;exact h
 | cons p ag b =>
  intro f h us e;obtain ⟨u,vs,rfl,a⟩:=S2 e;exact b (h u) vs a
theorem fin {l:PySem.W.OpenLaw} {w:World} {K:aT} {h:Heap} {mg:Str->cE} {a:Addr} (X:K.In h) (G:h.Ns mainGlobals mg) (c:mg "law" = some (.ref a)) (d:oo K "law" A6) (T:aY K mg) :
  ∃ fd:FuncData,(∀ (s:Shared) (v:Value),BindsTo s fd ⟨[v],[]⟩ [("script", v)])/\∀ base:Heap,K.In base->base.Ns mainGlobals mg->dO l.prog w K mg base bY vH a fd ["script"] (wi K):=by
 obtain ⟨fl,f,al,F⟩:=d;have e:=c.symm.trans (PySem.W.mg_of X G al);cases e;have b:=F;obtain ⟨_,_,_,_,_,_,_,_,_,rfl,_,_⟩:=F.ex;exact #[_,λ s v=>.of_eq Y,λ base Z Z=>Ur T b]
theorem walk {l:PySem.W.OpenLaw} {q:Program} {loose:b2} {e:(Str->cE)->Heap->Prop} {b:World->Heap->Prop} {d:DefRec} {K:Params->aT} (aB:l.most=some 63) (j:d.params.defaults=[])
  (i:∀ (w:World) (h:Heap),b w h->(K w.params).In h)
  (F:∀ (w:World) (mg:Str->cE) (c:Addr) (h:Heap),(K w.params).In h->h.Ns mainGlobals mg->mg d.name=some (.ref c) ->
   ∃ fd:FuncData,(∀ (s:Shared) (u:Value),BindsTo s fd ⟨[u],[]⟩ [("script", u)])/\∀ base:Heap,(K w.params).In base->base.Ns mainGlobals mg->dO l.prog w (K w.params) mg base bY vH c fd ["script"] (wi (K w.params))) :
  PySem.W.WalkO q loose e b l.row.toRowW d [] (λ f vs=>PySem.call f vs) :=
 bt.WO (n:=63) (k:=vH) (x := "script") (cx:=λ Z=>bY) (sp:=λ w=>wi (K w.params)) aB .aw j #[Y,.aw,.aw,Y] i F (λ Z Z a ns m Z g=>#[a,ns,Y,g,m,λ Z=>rfl]) λ Z Z Z Z Z z=>z
end cb
open PySem PySem.W PyProof.Rows
set_option tactic.hygienic true
namespace PySem.W.Fast
local macro_rules|`(universe $x*)=>do return Lean.mkNullNode (<-x.mapM fun n=>let m:=Lean.mkIdent (.mkSimple s!"tw{n.getId.toString.foldl (fun a c=>let k:=c.toNat;62*a+if k<58 then k-48 else if k<91 then k-55 else if k<96 then 0 else k-61) 0}");`(theorem $m:ident:True:=⟨⟩))
universe _BxYHIQuZpU6 _BxYzuE1PpKd _C5Ls7nReEep _C81ydk5n7yD _CCZoynKrVHh _CCyGYbKJCt2 _CG4wW0sbbdh _CHWMgAdho7S _CKDgWXsEQMq _COBiTVgNmjA _CPkmm7zUqPr _CQiMlvTypL3 _CSvsGuqktbK _CUgBnul21n0 _CUzmFWkxz7t _CaeirSXR30N _Cg0BjPoyi3Z _CjHKxVEf61D _CjPJPJ0IOJh _CjuG2LC5ZA2 _CoGiteTd9sT _CoKCTVVd2WD _CtAIHMXsFck _CufhfGw5x6X _CvZBVpc2o2c _CvbXmSf6R99 _D1p9Pfvsa8N _D2j5D46dgTZ _D8gH6uHQFyg _DAT1NUr6Gl6 _DGHCdz27fUT _8EsVEqloyb _DI0Ul9xpGjB _8GCp8n1Apk _DLaGptJqtU6 _DMaPdZCFlIB _DQzLY2UZb4O _DUDy0tALFF5 _DVpiuFGOERY _DWqKcwU2TXu _DbpzlbcN8xU _8SXubzw936 _Dft8wV67Vx5 _Dk9TDIYnMnr _DkIGBdbaQ4Y _DnPorNpcRj8 _DobQIRzniPr _E24SfL1UdQK _E30gBqwqx8O _E8ij5DLGdyO _EAeT2KK7T0n _ECXWrkICvnv _EDk9PIGxteW _EGREzJMvhxf _EJCuhe1h3nz _EN0U32u3Qta _ENNPf9eochE _ENRqRzESnoX _EQyzVeUmSaZ _ESTe3P5ztxX _EUnZtHYgzIr _EVrQqMohhJS _EWvqxM6CWJN _1SdSRx3L7nG _Ek49IsPwRfD _Eky4WiGg9cw _EoXnCLit88Y _1TuDqohN8vq _Et1FhLFp6D3 _1UK5qvEFePl _EtfMRmqBkyq _F2uEPEg3qX0 _F8B1z5nUhtc _F9PU5BVTNtL _FCKWxURuO3d _FFdmEbluE5U _FG3U6hpY0jn _1WcmTks3aQ9 _FGz2wPEfi12 _FNYD3GDynTv _FO3PIzUfuS4 _FPrJyn8fTBf _FRmmzvJcq8g _1Y7LEvSaGaD _FeFXGss12hO _FfPUqfWEIwX _FfdwU1Ec2zR _Fh7RrqxRf90 _FhlwWfwWO7f _FhvIVP7XoUB _Fi6x5Keny8Q _FjCIcvoemXU _FlFBgEaQkhx _FnBhOgwHmbM _G0xWXlpnMWM _G1CYqEzF9un _G1Gq2pc7rtF _G1al16MZ7xz _G6Zh20ABOe3 _GE5RPbht5fi _GGrrErICSXg _GJv9qxov323 _1demPEp1b46 _GQOVWfUgT97 _GRGlMKGF4lP _GSuPjbMGmey _1eBWFwdnly3 _GWDvwnm8S4l _1eXymFi35Tx _GZ3dXS2qbQH _GZGPqkXKBGD _GaTVzdG8DJZ _GahWmQGz6OM _1f4zTLyk7rt _GgrgEqGOwVP _GlKLBC63Yxh _GqK65xegsE9 _GtKiJHuzbHU _GvnvDAM65rL _Gxo7oAQbtnO _H3pX3Xs0rhV _1i1mws2Xg0q _H6ij63421K9 _HBSfz2uV6q3 _1iZPwCHKFuF _1iyHTFmHvuZ _HJkDVqQ1SZv _HPQyzSOg9y5 _AoDI1pO4lt _HTAU51NmRkC _HURnYomLnCP _HaBjdlOdqO0 _Hb3NWGN1ls9 _HbqSJHOyJ3i _HeaRUNb7nHh _Hkr74rLuirE _Hm8kWRZqynq _HmjRpT9G3vH _HpyTrVbrdRo _HrK5iYRTfEz _HrlYHJxKroW _HsZEALR8fog _HtpqFVkCeAB _Hu336xfyreU _HucpWKqZDGC _HvZrKkYWVYP _HxEz671eypb _Hyglxk9ykVp _I2Yyhmx1KQI _I2u2g4t3vMI _I4r84dAKT6f _I5XwMwmDc45 _I5ZPt5BkMGR _1oPRITFamVJ _I8ogKSbnzIu _1oVN0vwaV42 _1oWRig4xilN _IAJyMQqKrQc _IAezaUQ2wQq _IBW1eW9uPph _IGLZmV1x3dM _IQP2NvYidDC _IWbZcr5eqO1 _1rzqbUThzef _IlHxC4x1o1e _1sudSQ9iqgl _1t37Yfz1vUN _ItBB8jRUpX3 _IuXZ9y8Prm9 _Iw823rvrg6K _IxggDqcvvgz _J1MSV7MycXo _J8ZFLCwY1f1 _BsJJ23ieN0 _JDSH9gW3Gc4 _JDpodNS28wm _JPd6jYmd8Gy _JS79oWh69lz _JSLLshwcxUB _JV8T3qwfvEL _Ja0N9Oup0s9 _JikSSrWzOLu _1yKch9d1AOe _JndeU5hiRHI _JoCiNnHRSGD _1yqtaswewYN _1z8qzZzXswQ _JsWO1zAHGGG _JxPjfq5CTz7 _JxzkyigLUg8 _JyWMgJzextH _K0bi1aNCOkh _K1BnWmhpcuq _K2Ztm93Svpq _KGEvJJotCRM _KJYAnQzQUUL _KN8KPlxAnyJ _KOcyuU2Ds30 _KPDIhxnB1Lt _KR10xPmW6Nz _KRRhj0ojcyy _KTMC3IN3nYP _KTaLnY1WKn1 _KTgNL9TdmCI _KV6SGX3LVah _23h85w62Rdg _KcxRfvulNIO _242AWC1YhXg _24OlVlWTWd1 _KkPpy3VVmWc _24pbkktluzM _CtcLaVYq6Z _Ksd5dr0js69 _Ksgw65ZW5oI _25oUR7v00d7 _L0HBFUHEx6Z _L2lKrF363Kq _26WJot1fg68 _L4Tv7dn7oj0 _L9tBq4s77dq _LDy7bnTa3F5 _LFWLM8Vo4HS _283akIDRkvs _LKCHwweAPDe _LKcKz2oQOl7 _LKkjArFVkQi _LLSBBLLiGKB _LOQdQ3DpEn6 _29AfXMtJLai _LTzmCrZKuyv _29MXvXLom7a _LbYZZWXbR8T _LhQtOJODeTa _LiwH4hNqNql _LlgLPkEKq08 _Lm4PE43Mf39 _LwKrhtOdRf3 _LxK8FlPYbP5 _LyeplJrkVOW _2HB4zip0HIB _2HVkdzEcxot _2J4QQNmpOxm _2OSPvNoRujY _2SxyY3bKo2n _FM7PxUFcM5 _Fbhar5BPdU _2Xg78ZUD7oQ _2Zn39ozCQPz _2azf9mMLHzR _2ivg1c0YsyS _2loUPreYPzZ _2oK4qco6cqL _HamSmuNU3D _2rWnHAolZhM _301hBGGVRGD _32jnwqdpddQ _37JSe69k5pd _38rhMbdycAX _3C5b8nrOW1z _3L3yYwdezf4 _Km8luoUAnb _3UOevzJHz3G _3ZCVs2QtRjN _3aFAOT356RX _3aLRLszKV2g _3aMSIxFz2Rc _3dRZJWJAXJI _3dxUNjwBvfq _3qHQ1X12GUU _NwhPYFhphv _3twzzUCnntN _3uD71M8tcyt _443zAXuuGUr _4CmuL6cAQCv _4HgFZqRpKDz _4HhiAs9zxoe _4I8yE46cKX7 _4LomHJLMo93 _4PbMc0vpHho _RWelIf4950 _4ThvtWmpBkA _4UMSuaIKBJ9 _4XRbHqU81SI _4f8vHxcsUb9 _4ffiTK0Ux7o _4mOirUmJsjk _IvSOa8ctj _4ynSlqKRk7q _50jfyixFEkc _53W9RYOiaz0 _55WctIyhKJK _55yZhyWqdh9 _597L3GLaL5g _5CwRTwpb0eJ _5E3LP23Y1OR _5GpKzfxItlW _5WSgl8D5IsP _5Wez21cfcaD _5eveD1i1Jml _ZBQjXzEBsX _5i149nC3MIJ _5jV5iLNwj0U _5lxJrW4kyjg _5mehqGKHzhb _5mfkPfl5MuB _5nxkxhsfhMA _5p1l7ujitdi _5pMJiPlY9gf _64sJJStLRGF _65yuNRPdXkH _6AtosHemmHu _6BNlo4WKOSF _6Cq6EC2FIfD _6DHWvGhOdiI _cveOxaa0zz _6OqAHDoZGKV _6SZVuVumO2h _e7gPQXpgbP _6TLqK8iFHdy _6Ux384NY3qe _6XsjTnF7WvL _6ZKfBCe03hD _6ZrmSKQAApO _6a60LzMiRh7 _6bjYC7dTmyN _f4uu17prcW _6ilm9l92gCu _6irbMVRPbmu _6l9sLLkBdma _6ltDwLTKv0B _6ojA8lhdLVj _6xSuP3sGJGl _6yco11z64z5 _70Ytsu8BUHi _70sKrQnToVc _73KjG2euB15 _73lQipUdsoP _73tURlAmGri _77HEAEngErH _7AD2sZ4EViC _7AFVt0SdkuF _7D6HHHQbHHj _7GkXqEew897 _7KgX5Fvwjtf _jxZxXxBFnD _7PjZlAo0sUF _7PtafF2VDIh _7QC1C2dRT4x _7XQMZiPPEdG _7ZhACCaHiET _7b6m2FuKbTK _7gtRkjtK7ps _7nRaEBOAUTp _7nqqxDvuxKU _7ot58Lb4rNi _7sz6OcUE9wG _7t68BJ7S5cT _7vP01wOJ2mv _81nlOU5RFYo _83WhO8ApZQJ _8BGjOu21GuU _8EbixbNGLWm _8H56bheqPq6 _8HvBMsrK3r9 _8KbvUCt1VXH _8LigwFednKY _pn08pS7qt0 _8Moy16ROB2v _8N24Jlq1b9Q _8Q5jcFHpIb2 _8R4MSL0xW3d _8V925zcUbSQ _8VVQmWXcZZq _8VsMg8Xunbc _8XKyrzE7Gul _8XMlmVAP9oI _8YkV5v0v8q8 _r6H5p8FKCI _8ZyDG2CreM6 _8aGaZaQAbFH _rON8grqtQO _8e3eBWIgLfq _8eKWgOCESHm _8gA2vklV8Xp _8irG4mALs5E _8k1WrZ2T71Z _8mTuSlVy4uu _8pJlVJH4vQA _90FhxR7fWDi _95ZoYlVb7vf _9BUnekmHztY _9Cx3poLVOKB _vh16M1VCsa _9JG51RYD0MM _9JsgAcVViLq _9JvFqpEsu13 _9LTc473wMeL _9MEb0WRNKuI _9VlkybLOo3P _9XCSeoYZzyY _9Y85bzehtkv _xrQkgPpFNt _9hT83Eqs0Y4 _9k2G7FU5XME _yahdevCJyM _9nP9uZXCGtK _9nXkVj31c0s _9o4bN2CN8Ad _9o6j6qvCUH5 _9pkzbg8b992 _9qUCOO45ZNh _9raZZ2evKZR _9sjQVyiIRVp _zdplh2nSI6 _9zo8GW9RL8q _A2MPhMAOHTd _A2kO1Upwkpa _A4cNPZV09PD _A7opOZ5UcFY _A8ErVO5yjgJ _ACVTdkFA8TE _AD3utQsmrf4 _ADtGr5fNSQg _AMTOihatvHv _12FTkPN6MS7 _12XtAAQnJVW _AV5TToImRVt _AYwDpvYi9zg _AcZklrHdxed _AdIEiyIO8sb _AfUwiMyuGaO _AilzlLnEU2b _Ak9IclnLcuZ _Ams0rRgwoQZ _AnyVR4ME8xg _AoI3Rcfhu2A _Apfg1pDwqPc _AvPYfEP3hbo _B0pI2fHU9EL _B0q2kndtEud _B3zBddugVo3 _B7OEOsAhz6r _B8D6TMHK7Jr _BEJ8TXfD0yy _BLC2pd9B1aC _BRyAp9iEwMx _BWBOoHri4ex _BcYlhaoKter _BmMmtQTu4Ek _BrUbSCN0Zty _BrqWQkkteg2 _BsiobUlUHPp _BtjwN5mTzxD
end PySem.W.Fast
set_option maxRecDepth 100000 in
set_option maxHeartbeats 0 in
theorem PySem.Challenge.cw_wholefract_k95_desks_answer_holds : PySem.Challenge.rw_wholefract_k95_desks_answer.Holds := by
 w_on;o_law;k_head;(case hw=>w_witness2)
 k_fill
 refine cb.walk (l:=PySem.Challenge.rw_wholefract_k95_desks_answer) rfl rfl (λ w h XL=>PySem.W.kIn_of XL) ?F
 case F =>
  intro w mg ada h oq G Qv;refine' cb.fin oq G Qv (cb.oo.mk (by k_is) (by k_is) (by k_is) (by k_is)) ?_;constructor
  all_goals try (exact PySem.W.mg_of oq G (by k_is))
  all_goals try (exact (cb.oo.mk (by k_is) (by k_is) (by k_is) (by k_is)).dd oq G (λ _ _ _ _ _ _=>cb.uU (by repeat first | rfl | intro _)))
  all_goals try (exact PySem.W.mg_none_of oq G (by k_is))
  all_goals try (exact #[_,PySem.W.mg_of oq G (by k_is)])
  all_goals try (show bt.hH _ _;exact #[by k_is,by k_is,by k_is,by k_is])
  all_goals try (exact (cb.m6.mk (by k_is) (by k_is) (by k_is) (by k_is) (by k_is)).O2 (λ _ _ _ _ _ _=>cb.uU (by repeat first | rfl | intro _)))
  all_goals try (exact (cb.m6.mk (by k_is) (by k_is) (by k_is) (by k_is) (by k_is)).O3 (by k_is) (by k_is) (λ _ _ _ _ _ _=>cb.uU (by repeat first | rfl | intro _)))
  all_goals try (show PySem.W.findIn _ _ _=_;k_is)
  all_goals try (show bt.jz _ _ _ _;exact #[PySem.W.mg_of oq G (by k_is),by k_exc])
  all_goals try (show bt.Under _ _ _;exact #[by k_exc,by k_is,by decide])
  all_goals try (show PySem.W.iv _ _;exact #[PySem.W.CT (b:=.type "object") (r:=.t) (by k_is),by k_is,by k_is,by k_is,by k_is,by k_is,by k_is,by k_is])
  all_goals try (exact PySem.W.Vu (by k_is))
  all_goals try (exact PySem.W.Xp)
  all_goals try (exact PySem.W.YS (by k_is) (by k_is) (by k_is) (by decide))
  all_goals try (show bt.kL _ _ _ _ _ _;exact #[PySem.W.mg_of oq G (by k_is),#[_,_,_,_,_,_,_,_,_,_,_,_,_,_,by k_is,by kernel_rfl,by k_is],by k_exc,#[PySem.W.CT (b:=.type "object") (r:=.t) (by k_is),by k_is,by k_is,by k_is,by k_is,by k_is,by k_is,by k_is],by k_is,#[_,by k_is,Y]])
  all_goals try (exact bt.Bi (by k_is) (by k_is) (by k_is))
  all_goals try (exact bt.Binds.all (cb.uU (by repeat first | rfl | intro _)))
  all_goals try (show bt.GS _ _ _;exact #[#[_,_,_,_,_,_,_,_,_,_,_,_,_,_,_,_,by k_is],by k_is,by decide])
  all_goals try (exact λ H=>.inr #[_,_,_,by k_is,Y,Y,by decide,by repeat first | exact .nil | refine .cons #[_,Y] ?_])
  all_goals try (show PyProof.Rows.KTD.tabLook _ _ _ _=.t;kernel_rfl)