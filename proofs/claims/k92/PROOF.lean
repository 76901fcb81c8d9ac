import PyProof.Rows.All
import Wide.All
import PyProof.EqAt
import PyProof.WalkInts
import OpenK.AllK
import Wide.FinOn
import Lean
import PyProof.EqKinds
import PyProof.TupleCall
import KE.KTryMore
import PyProof.EnumMake
import PyProof.Draws
import PyProof.Rows.MatchSeqLen
import PyProof.StrLawsTight
import PyProof.StrLawsChain
import KE.IntTextText
import PyProof.JoinWalk
import PyProof.Rows.StrWeight2
import PyProof.StrBlock2
import PyProof.FString
import PyProof.StrLawsOcc
import KE.KIntText
import PyProof.SliceStr2
import PyProof.FString5
import KE.KDictSum
import PyProof.Rows.SortStr
import KE.KDictOf
import PyProof.DictIter
import KE.KTops
import PyProof.ReprRoads
import PySem.Challenge.RW_wholefract_k92_benches_at_their_bounds
set_option compiler.extract_closed false
set_option Elab.async false
set_option linter.all false
set_option maxRecDepth 100000
set_option maxHeartbeats 4000000
set_option hygiene false
local macro_rules|`(#[$x])=>`(⟨$x⟩)|`(#[$x,$xs,*])=>`(⟨$x,$xs,*⟩)
local macro_rules|`(.aD)=>`(by omega)|`(.aA)=>`(by decide)|`(.zs)=>`(by simp)
noncomputable abbrev f_:=List (Int×Int)
noncomputable abbrev aV:=List Int
noncomputable abbrev eG:=List Nat
noncomputable abbrev bT:=List PySem.Str
noncomputable abbrev cZ:=Array PySem.Value
noncomputable abbrev d5:=List (PySem.Addr×PySem.Obj)
noncomputable abbrev c0:=Option PySem.Value
noncomputable abbrev cD:=PySem.W.Frag
noncomputable abbrev fq:=List aV
noncomputable abbrev b2:=PySem.Value->PySem.Shared->Prop
theorem g9:type_of% @Bool.false_ne_true:=@Bool.false_ne_true
noncomputable def aC:=@PySem.wpAny_bind
noncomputable def hY:=@PySem.wpAny_holding
noncomputable def fc:=@PySem.wpAny_field
noncomputable def bH:=@PySem.wpAny_pure
noncomputable def zK:=@PySem.wpAny_load
noncomputable def mG:=@PySem.wpAny_newObj_type
noncomputable def bK:=@PySem.Heap.get?_push_of_some
noncomputable def d6:=@PySem.Heap.get?_push_size
theorem cu:type_of% @PySem.Heap.lt_size:=@PySem.Heap.lt_size
theorem d3:type_of% @Nat.ne_of_lt:=@Nat.ne_of_lt
theorem gQ:type_of% @Nat.lt_of_lt_of_le:=@Nat.lt_of_lt_of_le
theorem ha:type_of% @PySem.Heap.size_push:=@PySem.Heap.size_push
noncomputable def lg:=@Nat.le_succ
theorem oz:type_of% @PySem.Heap.get?_update_self:=@PySem.Heap.get?_update_self
noncomputable def wC:=@PySem.Obj.isFreed_of_fields
theorem q2:type_of% @PySem.Obj.data_mapFields:=@PySem.Obj.data_mapFields
theorem ju:type_of% @PySem.Heap.get?_update_other:=@PySem.Heap.get?_update_other
theorem iX:type_of% @Nat.lt_irrefl:=@Nat.lt_irrefl
noncomputable def C0:=@Nat.lt_of_succ_lt
noncomputable def iY:=@PySem.wpAny_seqItems
theorem iz:type_of% @Int.toNat_natCast:=@Int.toNat_natCast
noncomputable def sA:=@PySem.wpAny_rule
noncomputable def ux:=@PySem.wpAny_setField
noncomputable def z0:=@PySem.Heap.SameBut.update
noncomputable def pF:=@PySem.wpAny_attempt
noncomputable def nA:=@PySem.wpAny_callSpecial?_slot
noncomputable def C1:=@PySem.slot_listiter_next
noncomputable def lW:=@PySem.wpAny_call_entry
noncomputable def z1:=@PySem.wpAny_isInstance
noncomputable def z2:=@PySem.isSubtype_stop
noncomputable def wD:=@PySem.F.slot_tuple_iterator_next
noncomputable def Ia:=@PySem.F.entry_tuple_iterator_next
noncomputable def Ib:=@PySem.F.args_tuple_iterator_next_1
theorem oA:type_of% @List.take_of_length_le:=@List.take_of_length_le
noncomputable def nB:=@PySem.wpAny_standAt
noncomputable def uy:=@PySem.wpAny_pyIter_tuple
noncomputable def q3:=@Nat.lt_succ_self
noncomputable def uz:=@Nat.lt_succ_of_lt
noncomputable def uA:=@PySem.intItems_at
theorem c1:type_of% @List.mem_cons:=@List.mem_cons
theorem fR:type_of% @List.not_mem_nil:=@List.not_mem_nil
theorem fS:type_of% @or_false:=@or_false
theorem eC:type_of% @List.mem_singleton:=@List.mem_singleton
theorem dN:type_of% @decide_eq_false:=@decide_eq_false
theorem uB:type_of% @beq_eq_false_iff_ne:=@beq_eq_false_iff_ne
noncomputable def gR:=@Option.some.inj
noncomputable def q4:=@List.mem_filter
noncomputable def wF:=@List.mem_range
noncomputable def fl:=@Nat.le_trans
noncomputable def C2:=@Nat.le_of_lt
theorem gS:type_of% @List.mem_cons_self:=@List.mem_cons_self
theorem ht:type_of% @List.mem_cons_of_mem:=@List.mem_cons_of_mem
noncomputable def C3:=@PySem.Heap.get?_none_of_le
theorem ek:type_of% @Ne.symm:=@Ne.symm
noncomputable def oB:=@List.mem_append
noncomputable def uC:=@List.mem_append_left
theorem fJ:type_of% @List.getElem?_eq_some_iff:=@List.getElem?_eq_some_iff
theorem sC:type_of% @List.getElem?_set_self:=@List.getElem?_set_self
theorem z3:type_of% @List.getElem?_set_ne:=@List.getElem?_set_ne
noncomputable def hb:=@PySem.wpAny_mono
noncomputable def C4:=@PySem.Calls.Name_function_global
noncomputable def Ic:=@PySem.Calls.loadGlobal_global
noncomputable def sD:=@PySem.wpAny_truthy_bool
theorem jv:type_of% @Array.length_toList:=@Array.length_toList
noncomputable def nC:=@congrArg
noncomputable def z4:=@PySem.wpAny_execs_nil
noncomputable def uD:=@PySem.wpAny_passesOwn
noncomputable def jw:=@Nat.ne_of_gt
theorem b9:type_of% @Nat.le_refl:=@Nat.le_refl
noncomputable def uE:=@PyProof.Rows.callWith_type1
noncomputable def z5:=@List.mem_filterMap
noncomputable def jx:=@List.mem_append_right
noncomputable def j0:=@Nat.zero_le
theorem sE:type_of% @Bool.eq_iff_iff:=@Bool.eq_iff_iff
theorem ef:type_of% @PySem.sizeLine_eq:=@PySem.sizeLine_eq
noncomputable def Ie:=@PySem.W.plainGet_of
theorem oC:type_of% @beq_iff_eq:=@beq_iff_eq
theorem j1:type_of% @List.length_cons:=@List.length_cons
theorem iZ:type_of% @List.map_cons:=@List.map_cons
theorem bY:type_of% @List.length_map:=@List.length_map
noncomputable def nD:=@PySem.W.kia_one
theorem wG:type_of% @List.append_nil:=@List.append_nil
noncomputable def pG:=@PySem.wpAny_call
noncomputable def nE:=@PySem.codeAny_mono
noncomputable def pH:=@PySem.wpAny_Call_Name_kw
noncomputable def uF:=@PySem.W.callWith_K
theorem wH:type_of% @List.nodup_cons:=@List.nodup_cons
noncomputable def C5:=@PySem.W.cellsFrom_some
noncomputable def C6:=@Option.isSome_iff_exists
theorem nF:type_of% @List.length_take:=@List.length_take
noncomputable def z6:=@PySem.mem_of_lookup
theorem wI:type_of% @List.getElem?_append_right:=@List.getElem?_append_right
theorem sF:type_of% @List.getElem?_append_left:=@List.getElem?_append_left
theorem fK:type_of% @List.getElem?_map:=@List.getElem?_map
theorem dr:type_of% @List.mem_of_getElem?:=@List.mem_of_getElem?
theorem fm:type_of% @List.length_append:=@List.length_append
noncomputable def Ig:=@PySem.codeAny_call_function
noncomputable def Ih:=@PySem.W.codeRec_of
noncomputable def Ii:=@PySem.wpAny_newFunctionEnv_cells
noncomputable def Iw:=@PySem.F.slot_tuple_add
noncomputable def Iy:=@PySem.F.entry_tuple_add
noncomputable def Iz:=@PySem.F.args_tuple_add_2
theorem fe:type_of% @List.size_toArray:=@List.size_toArray
theorem nI:type_of% @if_true:=@if_true
noncomputable def wM:=@PyProof.Rows.slot_tuple_getitem
noncomputable def Ac:=@PySem.wpAny_typeOf
theorem jA:type_of% @Bool.and_eq_true:=@Bool.and_eq_true
theorem uN:type_of% @List.length_set:=@List.length_set
noncomputable def Ad:=@PySem.typeIs_int
noncomputable def IA:=@PySem.Calls.evalArgs_plain
theorem Ae:type_of% @List.replicate_succ:=@List.replicate_succ
noncomputable def rd:=@PySem.call_meets
noncomputable def Dk:=@PySem.F.slot_int_rmul
theorem sO:type_of% @Nat.mul_comm:=@Nat.mul_comm
theorem cc:type_of% @decide_eq_true:=@decide_eq_true
theorem gT:type_of% @List.all_eq_true:=@List.all_eq_true
theorem pQ:type_of% @List.getD_eq_getElem?_getD:=@List.getD_eq_getElem?_getD
theorem fT:type_of% @List.getElem?_eq_getElem:=@List.getElem?_eq_getElem
noncomputable def sP:=@List.getElem_mem
theorem e3:type_of% @List.mem_map:=@List.mem_map
noncomputable def Dl:=@PySem.pushCells_keeps
noncomputable def oG:=@PySem.wpAny_setField_rec
noncomputable def rf:=@PySem.wpAny_onRaise
noncomputable def IB:=@PySem.wpAny_updateSeq_pair
noncomputable def pR:=@PySem.wpAny_letGo
noncomputable def sQ:=@PySem.F.slot_zip_next
noncomputable def Dm:=@PySem.F.entry_zip_next
noncomputable def Dn:=@PySem.F.args_zip_next_1
noncomputable def Dp:=@PySem.Heap.IsTuple.push
noncomputable def Dq:=@PySem.wpAny_pyIter_zip
noncomputable def pS:=@Nat.le_add_right
noncomputable def sR:=@PySem.codeAny_builtin
theorem wN:type_of% @PySem.Around.under_plainId:=@PySem.Around.under_plainId
noncomputable def wO:=@PySem.plainId_quiet
theorem lZ:type_of% @Int.toNat_of_nonneg:=@Int.toNat_of_nonneg
theorem eT:type_of% @of_decide_eq_true:=@of_decide_eq_true
theorem pT:type_of% @Nat.div_lt_self:=@Nat.div_lt_self
theorem sS:type_of% @Nat.mul_assoc:=@Nat.mul_assoc
noncomputable def Af:=@Nat.pow_pos
noncomputable def uO:=@Nat.dvd_of_mod_eq_zero
noncomputable def IC:=@Nat.coprime_one_right
noncomputable def mO:=@List.getElem?_of_mem
theorem sT:type_of% @List.sum_cons:=@List.sum_cons
theorem rg:type_of% @List.map_set:=@List.map_set
theorem sU:type_of% @List.take_add_one:=@List.take_add_one
theorem mP:type_of% @List.map_append:=@List.map_append
theorem sV:type_of% @List.take_length:=@List.take_length
noncomputable def oH:=@List.forall_mem_cons
noncomputable def gU:=@List.forall_mem_nil
theorem uP:type_of% @List.find?_cons:=@List.find?_cons
noncomputable def ID:=@Option.map_eq_some_iff
noncomputable def IE:=@PySem.tupleKind_room_in1
noncomputable def IF:=@PySem.F.slot_dict_pop
theorem sW:type_of% @Bool.eq_false_iff:=@Bool.eq_false_iff
noncomputable def IG:=@List.ext_getElem
noncomputable def wQ:=@Array.getElem?_eq_some_iff
noncomputable def IH:=@PySem.W.isNs_of_in
noncomputable def Dr:=@PySem.F.excBase_ValueError
theorem Ag:type_of% @List.contains_cons:=@List.contains_cons
noncomputable def uQ:=@PySem.wpAny_loadPart_at
noncomputable def Ds:=@PySem.wpAny_isSubtype_exc
noncomputable def Ah:=@PySem.W.looks_findIn
noncomputable def Dt:=@PySem.F.attr_ValueError
noncomputable def Du:=@PySem.codeAny_call_builtin
noncomputable def Ai:=@Option.bind_eq_some_iff
noncomputable def wR:=@List.map_congr_left
theorem wU:type_of% @List.getElem?_zip_eq_some:=@List.getElem?_zip_eq_some
theorem nJ:type_of% @List.getElem?_zipWith_eq_some:=@List.getElem?_zipWith_eq_some
theorem wV:type_of% @List.length_zipWith:=@List.length_zipWith
noncomputable def II:=@PySem.Code.quiet_builtin
theorem pU:type_of% @List.mem_map_of_mem:=@List.mem_map_of_mem
noncomputable def Dv:=@PySem.wpAny_updateSeq
noncomputable def Dw:=@PySem.F.entry_min_loop
theorem rh:type_of% @PySem.F.plain_min_loop:=@PySem.F.plain_min_loop
noncomputable def Aj:=@PySem.wpAny_tryCatch
noncomputable def Ak:=@Int.mul_nonneg
theorem sX:type_of% @Int.natCast_nonneg:=@Int.natCast_nonneg
noncomputable def Dx:=@Int.mul_le_mul_of_nonneg_right
theorem kr:type_of% @List.map_map:=@List.map_map
noncomputable def sY:=@Bool.and_eq_true_iff
noncomputable def fU:=@PySem.PassesOwn.never
noncomputable def sZ:=@Int.emod_nonneg
noncomputable def s6:=@Int.emod_lt_of_pos
noncomputable def ks:=@PySem.F.plainAttrs_list
noncomputable def Dy:=@List.mem_of_mem_take
theorem wW:type_of% @Int.natCast_ediv:=@Int.natCast_ediv
noncomputable def oJ:=@PySem.F.slot_list_append
noncomputable def oK:=@PySem.F.type_list_append
theorem s7:type_of% @Bool.and_false:=@Bool.and_false
theorem s8:type_of% @Bool.true_and:=@Bool.true_and
noncomputable def IJ:=@PySem.F.plainAttrs_dict
noncomputable def fV:=@PySem.W.mg_of
noncomputable def ku:=@PySem.W.mg_none_of
variable {A:PySem.Around} {vs zs:cZ} {D Fr aL fI it c_ dP l pr cR t1 bw t3 z:PySem.Addr} {P prog:PySem.Program} {oI b6 cb:PySem.Obj} {its us:List PySem.Value} {L ch a_ lI:List PySem.Addr} {n t':Nat} {s s0 s1:PySem.Shared} {pins:d5} {K:cD} {np pos':PySem.Pos} {body:List PySem.Stmt} {lo:Option Int} {aM aO elt iter value:PySem.Expr} {ns:aV} {kw:List (PySem.Str×PySem.Value)} {M m:Int} {mN mg:PySem.Str->c0} {base h':PySem.Heap} {sc scope:PySem.Scope} {qual way x0:PySem.Str} {cd doc head f7 pm hG hH:PySem.Value} {an d:Option PySem.Addr} {loose:bT} {AZ:(PySem.Str->c0)->PySem.Heap->Prop} {ve:PySem.World->PySem.Heap->Prop} {B:Prop} {js:List (Option Nat)} {cs rest:List PySem.Expr} {cl:List (PySem.Str×PySem.Addr)} {EI p1:Bool} {rows:fq}
namespace gE
open PySem PyProof.Rows
noncomputable def In (A:Around) (h:Heap):Prop:=A.handled=none \/ ∃ (e:Addr) (cb:Obj) (vs:cZ),A.handled=some (.ref e)/\h.get? e=some cb/\cb.data=.fields vs/\vs[2]?=some .none
theorem In.kept {h g:Heap} (a:In A h) (k : ∀ b o,h.get? b=some o->g.get? b=some o):In A g :=
 a.imp id λ ⟨e,cb,vs,ah,ai,r⟩=>#[e,cb,vs,ah,k _ _ ai,r]
theorem In.but {h g:Heap} {j:Addr} {o:Obj} (a:In A h) (aJ:h.get? j=some o) (no : ∀ vs,o.data=.fields vs->vs[2]?≠some .none) (k:Heap.ExtBut j h g):In A g :=
 a.imp id λ ⟨e,cb,vs,ah,ai,aH,a4⟩=>#[e,cb,vs,ah,k e cb (λ z=>by subst z;rw [aJ] at ai;cases ai;exact no vs aH a4) ai,aH,a4]
theorem Di {a b:Value} : ∀ vs,Data.fields [a,b].toArray=Data.fields vs->vs[2]?≠some .none:=λ vs e=>by
 injection e with e;subst e;exact λ z=>nomatch z
theorem DH (t:Addr) : ¬ ((Value.ref t == Value.none)=true):=g9
section
variable {w:World} {E:b2}
theorem aex {α: Type} {a h:Addr} {o MB:Obj} {aB:cZ} {Q: α -> Shared->Prop} (cj:A.handled=some (.ref h)) (ne:h≠a)
  (aJ:s.heap.get? a=some o) (hd:o.data=.fields vs) (a6:2<vs.size) (Xy:s.heap.get? h=some MB) (Xj:MB.data=.fields aB) (ai:aB[2]?=some .none)
  (q:E (.ref a) { s with heap:=s.heap.update a (Obj.mapFields (·.setIfInBounds 2 (.ref h))) }):wpAny (model prog w) A (raiseNew (.ref a):Sem α) Q E s:=by
 unfold raiseNew;refine aC (wpAny_handled ?_);rw [cj];dsimp only;rw [if_pos (by simpa using ne)];refine aC (hY (runValue_entry (b:=Builtin.«proto.unchain») (entryFor_of_tree (by kernel_rfl)) ?_));unfold Builtin.«proto.unchain»;dsimp only;refine aC (fc Xy Xj ai ?_);rw [if_pos (show (Value.none == Value.none)=true from rfl)];refine bH #[.none,rfl,?_];refine aC ?_;unfold updateField;refine aC (zK aJ ?_);rw [hd];dsimp only;rw [if_pos a6];refine wpAny_update aJ ?_;exact wpAny_throw q
theorem stop {α: Type} {Q: α -> Shared->Prop} (cj:In A s.heap)
  (q : ∀ g e,(∀ b o,s.heap.get? b=some o->g.get? b=some o)->(∃ o,g.get? e=some o/\o.cls=.type "StopIteration")->E (.ref e) { s with heap:=g }) :
  wpAny (model prog w) A ((newExc (.type "StopIteration") []>>=λ x=>raiseNew x):Sem α) Q E s:=by
 refine aC ?_;simp only [newExc,newTuple];refine aC (mG (aC (m:=firstArgMember _ _) (wpAny_of_eq (a:=Value.none) (by first | rfl | (simp only [firstArgMember];rfl)) (mG ?_ (by size_fits)))) (by size_fits));rcases cj with cj | ⟨e,cb,vs,ah,ai,aH,a4⟩
 ·exact wpAny_raiseNew_none cj (q _ _ (λ b o y=>bK _ (bK _ y)) #[_,d6 _ rfl,rfl])
 ·have lt:=cu ai;refine aex ah (d3 (gQ lt (by rw [ha];exact lg _))) (d6 _ rfl) rfl (by simp;omega) (bK _ (bK _ ai)) aH a4 ?_;refine q _ _ (λ b o y=>?_) #[_,oz _ (d6 _ rfl) (wC (q2 rfl _)),(Obj.cls_mapFields ..).trans rfl];have xR:=cu y;refine (ju _ _ ?_).trans (bK _ (bK _ y));intro z;rw [ha] at z;subst z;exact iX _ (C0 xR)
theorem Sy {i:Nat} {items:cZ} {Q:Fin->Shared->Prop} (cj:In A s.heap) (hit:s.heap.IsListIter it l i) (av:s.heap.IsList l items) (aj:items[i]?=none)
  (q : ∀ g e,Heap.ExtBut it s.heap g->(∃ o,g.get? e=some o/\o.cls=.type "StopIteration")->E (.ref e) { s with heap:=g }) :
  wpAny (model prog w) A (Builtin.«list_iterator.__next__» ⟨[.ref it],[]⟩) Q E s:=by
 obtain ⟨o,aJ,ak,hd⟩:=id hit;obtain ⟨ol,oa,_,nl,qr⟩:=av;show wpAny _ _ (field (.ref it) 0>>=_) _ _ s;refine aC (fc aJ hd (x:=.ref l) rfl ?_);show wpAny _ _ (ite ((Value.ref l == Value.none)=true) _ _) _ _ s;rw [if_neg (DH _)];show wpAny _ _ (field (.ref it) 1>>=_) _ _ s;refine aC (fc aJ hd (x:=.int i 0) rfl ?_);show wpAny _ _ (seqItems? (.ref l)>>=_) _ _ s;refine aC (iY oa qr ?_);simp only [iz,aj];refine aC (sA (aC (ux aJ hd .zs ?_)));have k:=(z0 s.heap it (Obj.mapFields (·.setIfInBounds 0 .none))).extBut;exact stop (cj.but aJ (by rw [hd];exact Di) k) λ g e bf x=>q g e (λ b o nb y=>bf b o (k b o nb y)) x
theorem RZ {t:Addr} {i:Nat} {items:cZ} {Q:Fin->Shared->Prop} (cj:In A s.heap) (hit:s.heap.IsTupleIter it t i) (av:s.heap.IsTuple t items) (aj:items[i]?=none)
  (q : ∀ g e,Heap.ExtBut it s.heap g->(∃ o,g.get? e=some o/\o.cls=.type "StopIteration")->E (.ref e) { s with heap:=g }) :
  wpAny (model prog w) A (Builtin.«tuple_iterator.__next__» ⟨[.ref it],[]⟩) Q E s:=by
 obtain ⟨o,aJ,ak,hd⟩:=id hit;obtain ⟨ol,oa,_,nl,qr⟩:=av;show wpAny _ _ (field (.ref it) 0>>=_) _ _ s;refine aC (fc aJ hd (x:=.ref t) rfl ?_);show wpAny _ _ (ite ((Value.ref t == Value.none)=true) _ _) _ _ s;rw [if_neg (DH _)];show wpAny _ _ (field (.ref it) 1>>=_) _ _ s;refine aC (fc aJ hd (x:=.int i 0) rfl ?_);show wpAny _ _ (seqItems? (.ref t)>>=_) _ _ s;refine aC (iY oa qr ?_);simp only [iz,aj];refine aC (sA (aC (ux aJ hd .zs ?_)));have k:=(z0 s.heap it (Obj.mapFields (·.setIfInBounds 0 .none))).extBut;exact stop (cj.but aJ (by rw [hd];exact Di) k) λ g e bf x=>q g e (λ b o nb y=>bf b o (k b o nb y)) x
theorem RE {i:Nat} {items:cZ} {Q:c0->Shared->Prop} (cj:In A s.heap) (hit:s.heap.IsListIter it l i) (av:s.heap.IsList l items) (aj:items[i]?=none)
  (q : ∀ g,Heap.ExtBut it s.heap g->Q none { s with heap:=g }):wpAny (model prog w) A (pyNext (.ref it)) Q E s:=by
 unfold pyNext;refine aC (pF (nA (name:=Str.ofString "__next__") hit.typeIs C1 (lW C1 hit.typeIs entry_listiter_next ?_ (args_listiter_next _))));exact Sy (A:=A.in1) cj hit av aj λ g e bf ⟨o,aJ,ak⟩=>aC (z1 (T := "StopIteration") (b:=true) #[o,aJ,ak] z2 (bH (q g bf)))
theorem I8 {t:Addr} {i:Nat} {items:cZ} {Q:c0->Shared->Prop} (cj:In A s.heap) (hit:s.heap.IsTupleIter it t i) (av:s.heap.IsTuple t items) (aj:items[i]?=none)
  (q : ∀ g,Heap.ExtBut it s.heap g->Q none { s with heap:=g }):wpAny (model prog w) A (pyNext (.ref it)) Q E s:=by
 unfold pyNext;refine aC (pF (nA (name:=Str.ofString "__next__") hit.typeIs wD (lW wD hit.typeIs Ia ?_ (Ib _))));exact RZ (A:=A.in1) cj hit av aj λ g e bf ⟨o,aJ,ak⟩=>aC (z1 (T := "StopIteration") (b:=true) #[o,aJ,ak] z2 (bH (q g bf)))
theorem Sz {i:Nat} {items:cZ} {Q:b2} (cj:In A s.heap) (hit:s.heap.IsListIter it l i) (av:s.heap.IsList l items) (aj:items[i]?=none)
  (q : ∀ g e,Heap.ExtBut it s.heap g->(∃ o,g.get? e=some o/\o.cls=.type "StopIteration")->E (.ref e) { s with heap:=g }):wpAny (model prog w) A (Builtin.SmallTypes.nextOf (.ref it)) Q E s:=by
 unfold Builtin.SmallTypes.nextOf;exact aC (nA (name:=Str.ofString "__next__") hit.typeIs C1 (lW C1 hit.typeIs entry_listiter_next (Sy (A:=A.in1) cj hit av aj q) (args_listiter_next _)))
theorem R0 {t:Addr} {i:Nat} {items:cZ} {Q:b2} (cj:In A s.heap) (hit:s.heap.IsTupleIter it t i) (av:s.heap.IsTuple t items) (aj:items[i]?=none)
  (q : ∀ g e,Heap.ExtBut it s.heap g->(∃ o,g.get? e=some o/\o.cls=.type "StopIteration")->E (.ref e) { s with heap:=g }):wpAny (model prog w) A (Builtin.SmallTypes.nextOf (.ref it)) Q E s:=by
 unfold Builtin.SmallTypes.nextOf;exact aC (nA (name:=Str.ofString "__next__") hit.typeIs wD (lW wD hit.typeIs Ia (RZ (A:=A.in1) cj hit av aj q) (Ib _)))
theorem ad6 {e:Addr} {i:Nat} {items:cZ} {old:Value} {Q:c0->Shared->Prop} (cj:In A s.heap) (he:IsEnum s.heap e it i old) (hit:s.heap.IsListIter it l i) (av:s.heap.IsList l items) (aj:items[i]?=none)
  (q : ∀ g,Heap.ExtBut it s.heap g->Q none { s with heap:=g }):wpAny (model prog w) A (pyNext (.ref e)) Q E s:=by
 have ty:s.TypeIs (.ref e) "enumerate" := #[_,he,rfl]
 unfold pyNext;refine aC (pF (nA (name:=Str.ofString "__next__") ty F.slot_enumerate_next (lW F.slot_enumerate_next ty F.entry_enumerate_next ?_ (F.args_enumerate_next_1 _))));show wpAny _ _ (field (.ref e) 2>>=_) _ _ _;refine aC (fc he rfl (x:=.ref it) rfl (aC (Sz (A:=A.in1) cj hit av aj ?_)));rintro g x bf ⟨o,aJ,ak⟩;exact aC (z1 (T := "StopIteration") (b:=true) #[o,aJ,ak] z2 (bH (q _ bf)))
theorem items {t:Addr} {items:cZ} {Q:List Value->Shared->Prop} (cj:In A s.heap) (aU:IsTup s.heap t items)
  (q : ∀ g,Heap.ExtBut s.heap.objs.size s.heap g->Q items.toList { s with heap:=g }):wpAny (model prog w) A (unpackItems (.ref t) items.size none) Q E s:=by
 have lt:t≠s.heap.objs.size:=by
  obtain ⟨o,aJ,_⟩:=aU;exact d3 (cu aJ)
 unfold unpackItems;refine aC ?_;unfold notIterableAtAll;refine aC (wpAny_specialOf aU.typeIs slot_tuple_iter.lookup (bH ?_));simp only [Bool.false_eq_true,if_false];refine aC (hY (iter_tuple aU (aC (hY (draw_tuple lt items.size 0 _ _ #[_,d6 _ rfl,rfl,rfl] (aU.push _) .aD λ g1 jQ s1=>?_)))));rw [show List.take items.size (List.drop 0 items.toList)=items.toList by rw [List.drop_zero];exact oA .zs,if_neg .zs];have t1:IsTup g1 t items:=(aU.push _).extBut s1.extBut lt;have bf : ∀ b o,s.heap.get? b=some o->g1.get? b=some o:=λ b o y=>s1.extBut b o (d3 (cu y)) (bK _ y)
 refine aC (hY (I8 (cj.kept bf) (show Heap.IsTupleIter g1 s.heap.objs.size t (0+items.size) from jQ) (show Heap.IsTuple g1 t items from t1) .zs λ g2 aO=>?_));simp only [Option.isSome_none,Bool.false_eq_true,if_false];exact bH (q g2 λ b o nb y=>aO b o nb (bf b o y))
theorem afi {env:Env} {elts:List Expr} {k} {pos:Pos} {t:Addr} {items:cZ} {Q:Unit->Shared->Prop} (cj:In A s.heap) (aU:IsTup s.heap t items)
  (aF:(assignEach elts env).length=items.size) (aB:(assignEach elts env).findIdx? (·.1)=none)
  (h : ∀ g,Heap.ExtBut s.heap.objs.size s.heap g->wpAny (model prog w) A (assignInOrder ((assignEach elts env).map (·.2)) items.toList) Q E { s with heap:=g }) :
  wpAny (model prog w) A (assign (.Tuple elts k pos) env (.ref t)) Q E s:=by
 rw [assign_Tuple];refine aC (nB ?_);unfold unpack;rw [aF,aB];exact aC (hY (gE.items cj aU h))
end
theorem ag7 {w:World} {e:Addr} (ah:A.handled=some (.ref e)) (aH:cb.data=.fields vs) (a4:vs[2]?=some .none) (I nR:Addr) (fC:nR≠I) (qs:e≠I) (items:cZ) :
  Walks prog w A I [I,nR,e] [I] items.size (λ i v=>items[i]?=some v) (λ i h=>h.IsListIter I nR i/\h.IsList nR items/\h.get? e=some cb) where
 sub:=λ b ae=>by simp at ae;simp [ae]
 frame:=λ _ _ _ st aG=>#[st.1.at λ o y=>aG I .zs o y,st.2.1.at λ o y=>aG nR .zs o y,aG e .zs _ st.2.2]
 item:=λ i s Q E ax st g4=>by
  refine wpAny_pyNext_list_item st.1 st.2.1 (x:=items[i]) (by simp [ax]) λ g GK d4=>?_
  exact g4 _ g s.toks (by simp [ax]) #[GK,st.2.1.extBut d4.extBut fC,d4.extBut _ _ qs st.2.2] λ b o ae y=>d4.extBut b o (λ z=>ae (by simp [z])) y
 done:=λ s Q E st g4=>RE (.inr #[e,cb,vs,ah,st.2.2,aH,a4]) st.1 st.2.1 .zs λ g eV=>g4 g s.toks λ b o ae y=>eV b o (λ z=>ae (by simp [z])) y
 self:=λ _ _ _ _ st g4=>wpAny_pyIter_listiter st.1 g4
theorem ah9 {w:World} {e:Addr} (ah:A.handled=some (.ref e)) (aH:cb.data=.fields vs) (a4:vs[2]?=some .none) (I nR:Addr) (fC:nR≠I) (qs:e≠I) (items:cZ) :
  Walks prog w A I [I,nR,e] [I] items.size (λ i v=>items[i]?=some v) (λ i h=>h.IsTupleIter I nR i/\h.IsTuple nR items/\h.get? e=some cb) where
 sub:=λ b ae=>by simp at ae;simp [ae]
 frame:=λ _ _ _ st aG=>#[st.1.at λ o y=>aG I .zs o y,st.2.1.at λ o y=>aG nR .zs o y,aG e .zs _ st.2.2]
 item:=λ i s Q E ax st g4=>by
  refine wpAny_pyNext_tuple_item st.1 st.2.1 (x:=items[i]) (by simp [ax]) λ g GK d4=>?_
  exact g4 _ g s.toks (by simp [ax]) #[GK,st.2.1.extBut d4.extBut fC,d4.extBut _ _ qs st.2.2] λ b o ae y=>d4.extBut b o (λ z=>ae (by simp [z])) y
 done:=λ s Q E st g4=>I8 (.inr #[e,cb,vs,ah,st.2.2,aH,a4]) st.1 st.2.1 .zs λ g eV=>g4 g s.toks λ b o ae y=>eV b o (λ z=>ae (by simp [z])) y
 self:=λ _ _ _ _ st g4=>wpAny_pyIter_tupleiter st.1 g4
section
variable {w:World} {E:b2}
theorem max2 {a b:Int} {t u:Tok} {Q:b2} (cj:In A s.heap)
  (h : ∀ g bI,(∀ c o,s.heap.get? c=some o->g.get? c=some o)->Q (if b > a then .int b u else .int a t) { s with heap:=g,toks:=bI }) :
  wpAny (model prog w) A (call (.builtin "max") [.int a t,.int b u]) Q E s:=by
 rcases cj with cj | ⟨e,cb,vs,ah,ai,aH,a4⟩
 ·exact max_two_ints cj h
 have b0:(s.heap.push { cls:=.type "tuple", data:=.seq [.int a t,.int b u].toArray }).IsTuple s.heap.objs.size (intItems [(a,t),(b,u)].toArray):=#[_,d6 _ rfl,rfl,0,by simp [intItems]]
 have lt:=cu ai;have hsz:(s.heap.push { cls:=.type "tuple", data:=.seq [.int a t,.int b u].toArray }).objs.size=s.heap.objs.size+1:=ha ..;refine call_max_two (uy b0 #[_,[_,s.heap.objs.size,e],[_],_,_,_,_,rfl,ah9 (A:=A.in1) ah aH a4 _ s.heap.objs.size (by rw [hsz];exact d3 (q3 _)) (by rw [hsz];exact d3 (uz lt)) (intItems [(a,t),(b,u)].toArray),
  #[#[_,d6 _ rfl,rfl,rfl],b0.push _,bK _ (bK _ ai)],λ c ak=>?_,by simp [intItems],CmpOf.ints_gt (numAt [(a,t),(b,u)].toArray) (λ _ _=>uA),λ v g bI dY aG=>?_])
 ·have gd:((s.heap.push { cls:=.type "tuple", data:=.seq [.int a t,.int b u].toArray }).push { cls:=.type "tuple_iterator", data:=.fields [.ref s.heap.objs.size,.int 0 0].toArray }).objs.size=s.heap.objs.size+2:=by rw [ha,hsz]
  show c<((s.heap.push _).push _).objs.size;rw [gd];simp only [c1,fR,fS,hsz] at ak;rcases ak with ak | ak | ak
  ·rw [ak];exact q3 _
  ·rw [ak];exact uz (q3 _)
  ·rw [ak];exact uz (uz lt)
 ·have hold : ∀ c o,s.heap.get? c=some o->g.get? c=some o:=λ c o y=>aG c o (λ hm=>by
   have aM:=eC.mp hm;have:=cu y;rw [aM,hsz] at this;exact iX _ (C0 this)) (bK _ (bK _ y))
  have o9:(intItems [(a,t),(b,u)].toArray)[argBest (λ i j=>decide (numAt [(a,t),(b,u)].toArray i > numAt [(a,t),(b,u)].toArray j)) 1]?=some v:=by
   have Z0:(intItems [(a,t),(b,u)].toArray).size - 1=1:=by simp [intItems]
   rw [<-Z0];exact dY
  have ba:v=if b > a then Value.int b u else Value.int a t:=by
   by_cases BF:b > a
   ·rw [show argBest (λ i j=>decide (numAt [(a,t),(b,u)].toArray i > numAt [(a,t),(b,u)].toArray j)) 1=1 by simp [argBest,numAt,BF]] at o9;simpa [intItems,BF] using o9.symm
   ·rw [show argBest (λ i j=>decide (numAt [(a,t),(b,u)].toArray i > numAt [(a,t),(b,u)].toArray j)) 1=0 by simp [argBest,numAt,BF]] at o9;simpa [intItems,BF] using o9.symm
  rw [ba];exact h g bI hold
end
end gE
namespace bM
open PySem PySem.Spec PyProof.Rows
noncomputable abbrev Key:=Sum Int Str
noncomputable def sy:Key->Value->Bool
 | .inl k,v=>Value.isInt k v
 | .inr x,v=>Value.isStrOf x v
noncomputable def Z5 (w:World):Key->Int
 | .inl k=>hashInt k
 | .inr x=>hashStr w x
theorem oS : ∀ {k:Key} {v:Value},sy k v=true->(∃ i t,k=Sum.inl i/\v=Value.int i t)\/(∃ x t,k=Sum.inr x/\v=Value.str x t)
 | .inl i,v,h=>by
  obtain ⟨t,e⟩:=Value.isInt_shape (k:=i) (v:=v) h;exact .inl #[i,t,rfl,e]
 | .inr x,v,h=>by
  obtain ⟨t,e⟩:=Value.isStrOf_shape (x:=x) (v:=v) h;exact .inr #[x,t,rfl,e]
theorem af1 (i:Int) (t:Tok):sy (.inl i) (.int i t)=true:=by simp [sy,Value.isInt]
theorem af2 (x:Str) (t:Tok):sy (.inr x) (.str x t)=true:=by simp [sy,Value.isStrOf]
theorem abv (a b:Int):decide ((Sum.inl a:Key)=Sum.inl b)=(a == b):=by
 by_cases e:a=b
 ·subst e;simp
 ·have h : ¬ (Sum.inl a:Key)=Sum.inl b:=λ q=>e (Sum.inl.inj q)
  rw [dN h];exact (uB.mpr e).symm
theorem aby (a b:Str):decide ((Sum.inr a:Key)=Sum.inr b)=decide (a=b):=by
 by_cases e:a=b
 ·subst e;simp
 ·have h : ¬ (Sum.inr a:Key)=Sum.inr b:=λ q=>e (Sum.inr.inj q)
  rw [dN h,dN e]
theorem abw (a:Int) (b:Str):decide ((Sum.inl a:Key)=Sum.inr b)=false:=dN (λ q=>nomatch q)
theorem abx (a:Str) (b:Int):decide ((Sum.inr a:Key)=Sum.inl b)=false:=dN (λ q=>nomatch q)
noncomputable def ic (prog:Program) (w:World):PySem.KeyKind prog w Key where
 is:=sy
 hash:=Z5 w
 inj:=λ v a b ay ae=>by
  rcases oS ay with ⟨i,t,rfl,rfl⟩ | ⟨x,t,rfl,rfl⟩
  ·rcases oS ae with ⟨j,u,rfl,e⟩ | ⟨y,u,rfl,e⟩
   ·injection e with aM _;rw [aM]
   ·exact nomatch e
  ·rcases oS ae with ⟨j,u,rfl,e⟩ | ⟨y,u,rfl,e⟩
   ·exact nomatch e
   ·injection e with aM _;rw [aM]
 byValue:=λ k v h=>by
  rcases oS h with ⟨i,t,rfl,rfl⟩ | ⟨x,t,rfl,rfl⟩<;>rfl
 pyHash:=λ ba h=>by
  rcases oS ba with ⟨i,t,rfl,rfl⟩ | ⟨x,t,rfl,rfl⟩
  ·exact wpAny_pyHash_int h
  ·exact wpAny_pyHash_str h
 eqBool:=λ br ba h=>by
  rcases oS br with ⟨i,t,rfl,rfl⟩ | ⟨x,t,rfl,rfl⟩
  ·rcases oS ba with ⟨j,u,rfl,rfl⟩ | ⟨y,u,rfl,rfl⟩
   ·rw [abv] at h;exact wpAny_eqBool_int h
   ·rw [abw] at h;exact SeqAt.EqAt.int_str i t y u _ _ _ _ h
  ·rcases oS ba with ⟨j,u,rfl,rfl⟩ | ⟨y,u,rfl,rfl⟩
   ·rw [abx] at h;exact SeqAt.EqAt.str_int x t j u _ _ _ _ h
   ·rw [aby] at h;exact wpAny_eqBool_str h
 «strs» := λ k x t v h=>by
  rcases oS h with ⟨i,u,rfl,e⟩ | ⟨y,u,rfl,e⟩
  ·exact nomatch e
  ·injection e with aM _;subst aM;cases v<;>rfl
theorem aio (prog:Program) (w:World) (i:Int) (t:Tok):(ic prog w).is (.inl i) (.int i t)=true:=af1 i t
theorem Tq (prog:Program) (w:World) (x:Str) (t:Tok):(ic prog w).is (.inr x) (.str x t)=true:=af2 x t
inductive V where
 | bh | aX (b:Bool) | int (i:Int) | str (x:Str) | jK (b:Array UInt8) | ip (b:UInt64) | ref (a:Addr) | ty (n:String)
 deriving DecidableEq
noncomputable def RelV:V->Value->Prop
 | .bh,u=>u=Value.none
 | .aX b,u=>u=Value.bool b
 | .int i,u => ∃ t,u=Value.int i t
 | .str x,u => ∃ t,u=Value.str x t
 | .jK b,u => ∃ t,u=Value.bytes b t
 | .ip b,u => ∃ t,u=Value.float b t
 | .ref a,u=>u=Value.ref a
 | .ty n,u=>u=Value.type n
noncomputable abbrev Vals:List V->List Value->Prop:=Paired RelV
theorem Vals.length {xs:List V} (r:Vals xs us):xs.length=us.length:=Paired.length r
theorem Vals.get : ∀ {xs:List V} {us:List Value} {i:Nat} {x:V},Vals xs us->xs[i]?=some x -> ∃ u,us[i]?=some u/\RelV x u
 | _,_,_,_,.nil,e=>by simp at e
 | _,_,0,_,.cons r _,e=>by simp at e;subst e;exact #[_,rfl,r]
 | _,_,i+1,x,.cons _ t,e=>by
  obtain ⟨u,ah,ai⟩:=Vals.get (i:=i) (x:=x) t (by simpa using e);exact #[u,by simpa using ah,ai]
theorem Vals.set {x:V} {u:Value} (r:RelV x u) : ∀ {xs:List V} {us:List Value} (i:Nat),Vals xs us->Vals (xs.set i x) (us.set i u)
 | _,_,_,.nil=>.nil
 | _,_,0,.cons _ t=>.cons r t
 | _,_,i+1,.cons q t=>.cons q (Vals.set r i t)
theorem Vals.append : ∀ {xs ys:List V} {us ws:List Value},Vals xs us->Vals ys ws->Vals (xs++ys) (us++ws)
 | _,_,_,_,.nil,s=>s
 | _,_,_,_,.cons r t,s=>.cons r (Vals.append t s)
theorem Vals.take : ∀ {xs:List V} {us:List Value} (n:Nat),Vals xs us->Vals (xs.take n) (us.take n)
 | _,_,0,_=>.nil
 | _,_,_+1,.nil=>.nil
 | _,_,n+1,.cons r t=>.cons r (Vals.take n t)
theorem Vals.drop : ∀ {xs:List V} {us:List Value} (n:Nat),Vals xs us->Vals (xs.drop n) (us.drop n)
 | _,_,0,r=>r
 | _,_,_+1,.nil=>.nil
 | _,_,n+1,.cons _ t=>Vals.drop n t
noncomputable def iw:Option V->c0->Prop
 | some v,some u=>RelV v u
 | none,none=>True
 | _,_=>False
noncomputable def gF {κ : Type}:List (κ × V)->List (κ × Value)->Prop:=Paired λ (p : κ × V) (q : κ × Value)=>p.1=q.1/\RelV p.2 q.2
noncomputable def cX:Key->V
 | .inl i=>.int i
 | .inr x=>.str x
inductive e6 where
 | lst (xs:List V)
 | tup (xs:List V)
 | bF (kvs:List (Key×V)) | j4 (kvs:List (List Key×V))
 | set (S:Int->Bool) (n:Nat)
 | ins (C aL:Addr) (fs:List (Str×V))
 | own (x:Addr)
 | kI (fs:List (Str×V))
 | met (f x:Addr)
 | se (lo ax:Int)
 | gI (o:Obj) (u:e6)
 | qK (ag:cZ)
 | ext (φ : Heap->Prop)
noncomputable abbrev az:=Addr->Option e6
noncomputable def upd (H:az) (a:Addr) (o:e6):az:=λ b=>if b=a then some o else H b
theorem bL {H:az} {a:Addr} {o:e6}:upd H a o a=some o:=by unfold upd;rw [if_pos rfl]
theorem bj {H:az} {a b:Addr} {o:e6} (h:b≠a):upd H a o b=H b:=by unfold upd;rw [if_neg h]
theorem I_ {H:az} {a:Addr} {o u:e6}:upd (upd H a o) a u=upd H a u:=by
 funext b;unfold upd;split<;>rfl
theorem cW {H:az} {a b:Addr} {o u:e6} (h:H a=some o) (h':H b=some u) (d:o≠u):a≠b:=by
 intro e;subst e;rw [h] at h';exact d (gR h')
theorem cf {H:az} {a b:Addr} {o:e6} (h:H a=some o) (h':H b=none):a≠b:=by
 intro e;subst e;rw [h] at h';cases h'
section
variable (P:Program) (w:World)
noncomputable def oD (h:Heap) (a:Addr) (items:cZ):Prop := ∃ o,h.get? a=some o/\o.cls=.type "tuple" /\ (∃ n,o.data=.seq items n)/\o.dict=none
theorem oD.up {h:Heap} {a:Addr} {items:cZ}:oD h a items->IsTup h a items:=(by rintro ⟨o,e,c,d,_⟩;exact #[o,e,c,d])
theorem oD.lt {h:Heap} {a:Addr} {items:cZ}:oD h a items->a<h.objs.size:=(by rintro ⟨_,e,_⟩;exact cu e)
theorem oD.new (h:Heap) (items:cZ):oD (h.push { cls:=.type "tuple", data:=.seq items }) h.objs.size items:=#[_,d6 _ rfl,rfl,#[_,rfl],rfl]
noncomputable def et (H:az) (h:Heap) (a:Addr):e6->Prop
 | .lst xs=>xs.length<=sizeLine /\ ∃ (its:List Value) (n:Nat),Vals xs its/\h.get? a=some { cls:=.type "list", data:=.seq its.toArray n }
 | .tup xs=>xs.length<=sizeLine /\ ∃ its:List Value,Vals xs its/\oD h a its.toArray
 | .bF kvs=>kvs.length<=sizeLine/\(a == sysModules)=false /\ ∃ vs,gF kvs vs/\h.DictOf (ic P w) a vs
 | .j4 kvs=>kvs.length<=sizeLine/\(a == sysModules)=false /\ ∃ xs:List (List Key×Addr×Value),
   Paired (λ (p:List Key×V) (q:List Key×Addr×Value)=>p.1=q.1/\H q.2.1=some (.tup (p.1.map cX))/\RelV p.2 q.2.2) kvs xs /\
   ∃ o ar ep,h.get? a=some o/\o.ExactDict/\o.data=.dict ar ep/\ar.toList=xs.map (entryOfKey (tupleKind (ic P w)))/\(xs.map (·.1)).Nodup
 | .set S n=>h.SetOf (intKind P w) a S n
 | .ins C aL fs=>H aL=some (.own a)/\fs.length<=1000/\aL≠a/\h.get? a=some (PySem.W.instObj C aL) /\
   ∃ dZ,h.Ns1 aL dZ/\(∀ f,iw (fs.lookup f) (dZ f))/\PySem.Within dZ (fs.map (·.1))
 | .own _ => ∃ o,h.get? a=some o
 | .kI fs => ∃ dZ,h.Ns1 a dZ /\ ∀ f,iw (fs.lookup f) (dZ f)
 | .se lo ax => ∃ t u v,h.get? a=some { cls:=.type "range", data:=.fields [.int lo t,.int ax u,.int 1 v].toArray }
 | .gI o u=>h.get? a=some o/\et H h a u
 | .qK ag=>h.get? a=some { cls:=.none,data:=.fields ag }
 | .met f x=>h.get? a=some (PySem.W.methodObj (.ref f) (.ref x))
 | .ext φ => φ h/\(∃ o,h.get? a=some o) /\ ∀ ah ai:Heap,φ ah->(∀ o,ah.get? a=some o->ai.get? a=some o) -> φ ai
noncomputable def e5 (H:az) (h:Heap):Prop := ∀ a o,H a=some o->et P w H h a o
end
section
variable {w:World} {H H':az} {h:Heap} {a:Addr} {o:e6}
theorem et.lt (x:et P w H h a o):a<h.objs.size:=by
 cases o with
 | lst xs=>obtain ⟨_,_,_,_,e⟩:=x;exact cu e
 | tup xs=>obtain ⟨_,_,_,p⟩:=x;exact p.lt
 | bF kvs=>obtain ⟨_,_,_,_,o,_,_,e,_⟩:=x;exact cu e
 | j4 kvs=>obtain ⟨_,_,_,_,o,_,_,e,_⟩:=x;exact cu e
 | set S n=>obtain ⟨o,_,_,_,e,_⟩:=x;exact cu e
 | ins C aL fs=>obtain ⟨_,_,_,e,_⟩:=x;exact cu e
 | own y=>obtain ⟨_,e⟩:=x;exact cu e
 | kI fs=>obtain ⟨_,⟨_,_,_,e,_⟩,_⟩:=x;exact cu e
 | se lo ax=>obtain ⟨_,_,_,e⟩:=x;exact cu e
 | gI b7 u=>obtain ⟨e,_⟩:=x;exact cu e
 | qK ag=>exact cu (show h.get? a=some _ from x)
 | met f y=>exact cu (show h.get? a=some _ from x)
 | ext φ => obtain ⟨_,⟨_,e⟩,_⟩:=x;exact cu e
theorem Paired.HL {α β: Type} {F G: α -> β -> Prop} : ∀ {l₁:List α} {l₂:List β},Paired F l₁ l₂->(∀ a b,F a b->G a b)->Paired G l₁ l₂
 | _,_,.nil,_=>.nil
 | _,_,.cons r t,f=>.cons (f _ _ r) (Paired.HL t f)
theorem et.jq (x:et P w H h a o) (k : ∀ b u,(b=a\/H b=some (.own a))->h.get? b=some u->h'.get? b=some u)
  (aJ : ∀ b,H b=some (.own a)->H' b=some (.own a)) (aU : ∀ b xs,H b=some (.tup xs)->H' b=some (.tup xs)):et P w H' h' a o:=by
 induction o with
 | lst xs=>obtain ⟨z,its,n,r,e⟩:=x;exact #[z,its,n,r,k _ _ (.inl rfl) e]
 | tup xs=>obtain ⟨z,its,r,b7,e,c⟩:=x;exact #[z,its,r,b7,k _ _ (.inl rfl) e,c]
 | bF kvs=>obtain ⟨z,y,vs,r,b7,ar,ep,e,c⟩:=x;exact #[z,y,vs,r,b7,ar,ep,k _ _ (.inl rfl) e,c]
 | j4 kvs =>
  obtain ⟨z,y,xs,r,b7,ar,ep,e,c⟩:=x;exact #[z,y,xs,Paired.HL r λ p q z=>#[z.1,aU _ _ z.2.1,z.2.2],b7,ar,ep,k _ _ (.inl rfl) e,c]
 | set S n=>obtain ⟨b7,ar,ep,t,e,c⟩:=x;exact #[b7,ar,ep,t,k _ _ (.inl rfl) e,c]
 | ins C aL fs =>
  obtain ⟨d,z,ne,e,dZ,⟨b6,ar,ep,aO,c⟩,r⟩:=x;exact #[aJ _ d,z,ne,k _ _ (.inl rfl) e,dZ,#[b6,ar,ep,k _ _ (.inr d) aO,c],r]
 | own y=>obtain ⟨b7,e⟩:=x;exact #[b7,k _ _ (.inl rfl) e]
 | kI fs=>obtain ⟨dZ,⟨b6,ar,ep,e,c⟩,r⟩:=x;exact #[dZ,#[b6,ar,ep,k _ _ (.inl rfl) e,c],r]
 | se lo ax=>obtain ⟨t,u,v,e⟩:=x;exact #[t,u,v,k _ _ (.inl rfl) e]
 | gI b7 u cQ=>obtain ⟨e,q⟩:=x;exact #[k _ _ (.inl rfl) e,cQ q]
 | qK ag =>
  have e:h.get? a=some { cls:=.none,data:=.fields ag }:=x;show h'.get? a=some { cls:=.none,data:=.fields ag };exact k a _ (.inl rfl) e
 | met f y =>
  have e:h.get? a=some (PySem.W.methodObj (.ref f) (.ref y)):=x;show h'.get? a=some (PySem.W.methodObj (.ref f) (.ref y));exact k a _ (.inl rfl) e
 | ext φ => obtain ⟨p,⟨o,e⟩,st⟩:=x;exact #[st _ _ p λ o q=>k _ _ (.inl rfl) q,#[o,k _ _ (.inl rfl) e],st]
theorem e5.lt (x:e5 P w H h) (e:H a=some o):a<h.objs.size:=(x a o e).lt
theorem e5.fresh (x:e5 P w H h) (e:h.objs.size<=a):H a=none:=by
 cases q:H a with
 | none=>rfl
 | some u=>exact absurd (gQ (x.lt q) e) (iX _)
theorem e5.kept (x:e5 P w H h) (k : ∀ b u,h.get? b=some u->h'.get? b=some u):e5 P w H h':=λ a o e =>
 (x a o e).jq (λ b u _ q=>k b u q) (λ _ q=>q) λ _ _ q=>q
theorem e5.laid (x:e5 P w H h) (k : ∀ b u,h.get? b=some u->h'.get? b=some u) (aw:h.objs.size<=a) (new:et P w (upd H a o) h' a o):e5 P w (upd H a o) h':=λ b u e=>by
 have aF:=x.fresh aw;by_cases ae:b=a
 ·subst ae;rw [bL] at e;cases e;exact new
 ·rw [bj ae] at e;exact (x b u e).jq (λ c v _ q=>k c v q) (λ c q=>by rw [bj (cf q aF)];exact q) λ c xs q=>by rw [bj (cf q aF)];exact q
end
noncomputable def dS (H:az) (a:Addr) (u:e6):Prop:=H a=some u \/ ∃ o,H a=some (.gI o u)
theorem dS.ok {w:World} {H:az} {h:Heap} {a:Addr} {u:e6} (r:dS H a u) (x:e5 P w H h):et P w H h a u:=by
 rcases r with r | ⟨o,r⟩
 ·exact x a u r
 ·obtain ⟨_,q⟩:=x a _ r;exact q
noncomputable def x8:Option e6->Prop
 | some (.lst _)=>True
 | some (.bF _)=>True
 | some (.j4 _)=>True
 | some (.set _ _)=>True
 | some (.ins _ _ _)=>True
 | some (.ext _)=>True
 | _=>False
section
variable {w:World} {H:az} {h:Heap} {x e:Addr} {ey:e6}
theorem e5.write (ok:e5 P w H h) (lz:x8 (H x)) (he:e=x\/H e=some (.own x)) (k : ∀ b u,b≠e->h.get? b=some u->h'.get? b=some u) (vR : ∃ u,h'.get? e=some u)
  (new:et P w (upd H x ey) h' x ey):e5 P w (upd H x ey) h':=λ b u q=>by
 have Pl : ∀ c y,H c=some (.own y)->c≠x:=λ c y r z=>by subst z;rw [r] at lz;exact lz
 have aah : ∀ c xs,H c=some (.tup xs)->c≠x:=λ c xs r z=>by subst z;rw [r] at lz;exact lz
 by_cases ae:b=x
 ·subst ae;rw [bL] at q;cases q;exact new
 ·rw [bj ae] at q;by_cases tR:b=e
  ·have aY:H b=some (.own x):=by
    rcases he with z | z
    ·exact absurd (tR.trans z) ae
    ·rw [tR];exact z
   rw [q] at aY;cases aY;obtain ⟨v,ba⟩:=vR;exact #[v,by rw [tR];exact ba]
  ·refine (ok b u q).jq (λ c v ak r=>k c v ?_ r) (λ c r=>by rw [bj (Pl c b r)];exact r) λ c xs r=>by rw [bj (aah c xs r)];exact r
   rcases ak with rfl | ak
   ·exact tR
   ·rintro rfl;rcases he with z | z
    ·exact Pl c b ak z
    ·rw [ak] at z;cases z;exact ae rfl
end
structure fY (fs ex:List Addr) (H H':az) (h h':Heap):Prop where
 keep : ∀ b o,h.get? b=some o->H b=none->b∉fs->b∉ex->h'.get? b=some o
 slot : ∀ b o,h.get? b=some o->H b=none->b∈fs->b∉ex -> ∃ cR,h'.get? b=some { o with slots:=cR }
 free : ∀ b o,h.get? b=some o->H b=none->b∉ex->H' b=none
 there : ∀ b o,h.get? b=some o->b∉ex -> ∃ ey,h'.get? b=some ey
 lS : ∀ b xs,H b=some (.tup xs)->H' b=some (.tup xs)
 k7 : ∀ b o u,H b=some (.gI o u)->H' b=some (.gI o u)
 lR : ∀ b ag,H b=some (.qK ag) -> ∃ more,H' b=some (.qK (ag++more))
section
variable {fs Wo ex akW:List Addr} {H H1 au:az} {h ah ai:Heap} {a x e:Addr} {o:e6}
theorem fY.any (u:fY fs ex H H1 h ah) {b:Addr} {b7:Obj} (q:h.get? b=some b7) (n:H b=none) (aj:b∉ex) : ∃ cR,ah.get? b=some { b7 with slots:=cR }:=by
 by_cases ae:b∈fs
 ·exact u.slot b b7 q n ae aj
 ·exact #[b7.slots,u.keep b b7 q n ae aj]
theorem fY.kept (k : ∀ b u,h.get? b=some u->h'.get? b=some u):fY fs ex H H h h' :=
 #[λ b b7 q _ _ _=>k b b7 q,λ b b7 q _ _ _=>#[b7.slots,k b b7 q],λ _ _ _ n _=>n,λ b b7 q _=>#[b7,k b b7 q],λ _ _ q=>q,λ _ _ _ q=>q,λ _ ag q=>#[#[],by rw [q];simp]]
theorem fY.refl:fY fs ex H H h h:=fY.kept λ _ _ q=>q
theorem fY.laid (k : ∀ b u,h.get? b=some u->h'.get? b=some u) (aw:h.objs.size<=a) (aF:H a=none):fY fs ex H (upd H a o) h h' where
 keep:=λ b u q _ _ _=>k b u q
 slot:=λ b u q _ _ _=>#[u.slots,k b u q]
 free:=λ b u q n _=>by rw [bj (d3 (gQ (cu q) aw))];exact n
 there:=λ b u q _=>#[u,k b u q]
 lS:=λ b xs q=>by rw [bj (cf q aF)];exact q
 k7:=λ b u xs q=>by rw [bj (cf q aF)];exact q
 lR:=λ b ag q=>#[#[],by rw [bj (cf q aF),q];simp]
theorem fY.write (lz:x8 (H x)) (he:e=x\/H e=some (.own x)) (k : ∀ b u,b≠e->h.get? b=some u->h'.get? b=some u) (vR : ∃ u,h'.get? e=some u):fY fs ex H (upd H x o) h h':=by
 have aj : ∀ b,H b=none->b≠x:=λ b n z=>by subst z;rw [n] at lz;exact lz
 have ae : ∀ b,H b=none->b≠e:=λ b n z=>by
  subst z;rcases he with r | r
  ·exact aj b n r
  ·rw [n] at r;cases r
 have hm : ∀ b u,H b=some u -> ¬ x8 (some u)->b≠x:=λ b u q nm z=>by subst z;rw [q] at lz;exact nm lz
 refine #[λ b u q n _ _=>k b u (ae b n) q,λ b u q n _ _=>#[u.slots,k b u (ae b n) q],λ b u q n _=>by rw [bj (aj b n)];exact n,λ b u q _=>?_,
  λ b xs q=>by rw [bj (hm b _ q λ z=>z)];exact q,λ b u xs q=>by rw [bj (hm b _ q λ z=>z)];exact q,λ b ag q=>#[#[],by rw [bj (hm b _ q λ z=>z),q];simp]]
 by_cases tR:b=e
 ·subst tR;exact vR
 ·exact #[u,k b u tR q]
end
noncomputable def Ci (h:Heap) (H:az):List Addr:=(List.range h.objs.size).filter λ a=>(H a).isSome
noncomputable def qR (h:Heap) (H:az):Heap:=PySem.W.hideAll h (Ci h H)
theorem afV (h:Heap) (H:az):(qR h H).objs.size=h.objs.size:=PySem.W.hideAll_size _ _
theorem aeg {h:Heap} {H:az} {b:Addr} {o:Obj} (e:h.get? b=some o) (n:H b=none):(qR h H).get? b=some o :=
 PySem.W.hideAll_get _ e λ hm=>by
  have q:(H b).isSome=true:=(q4.mp hm).2;rw [n] at q;simp at q
theorem acL {h:Heap} {H:az} {b:Addr} {o:Obj} (e:(qR h H).get? b=some o):h.get? b=some o/\H b=none:=by
 have c2:h.get? b=some o:=PySem.W.of_hideAll (Ci h H) e;refine #[c2,?_];cases q:H b with
 | none=>rfl
 | some x =>
  have hm:b∈Ci h H:=q4.mpr #[wF.mpr (cu c2),by simp [q]];have z:(qR h H).get? b=none:=PySem.W.hideAll_none (Ci h H) hm;rw [z] at e;cases e
structure Mod (K:cD) (mg:Str->c0) (base:Heap):Prop where
 kS:K.In base
 glob:base.Ns mainGlobals mg
 blt : ∃ m6,base.Ns builtinsNs m6 /\ ∀ x:Str,x ≠ "__name__" -> m6 x=bootBuiltins x
 nolimit:base.NoLimit
structure aP where
 prog:Program
 w:World
 K:cD
 mg:Str->c0
 base:Heap
 A:Around
 N:bT
 s₀:Shared
 H₀:az
 env:Env
 outer:List Env
 stack:List Env
 ex:List Addr
 fn:Str->Bool
 calm:Bool
 warm:Bool
 j7:d5
 c3:Value->Shared->Prop
noncomputable def fO (l:List Env):List Addr:=l.filterMap (·.frame)
noncomputable abbrev aP.fs (X:aP):List Addr:=fO X.outer
noncomputable def Bp (sc:Scope) (x:Str):Prop:=sc.names.lookup x=some .local\/sc.names.lookup x=some .cell\/sc.names.lookup x=some .free
noncomputable def Loc (sc:Scope) (x:Str):Prop:=sc.names.lookup x=some .local\/sc.names.lookup x=some .cell
noncomputable def Look (env:Env) (h:Heap) (m:Str->c0) (x:Str) (u:Value):Prop :=
 (env.kindOf x=some .local/\m x=some u)\/((env.kindOf x=some .cell\/env.kindOf x=some .free) /\ ∃ c,env.cells.lookup x=some c/\h.IsCell c (some u))
noncomputable def we (A:Around) (h:Heap) (H:az) (fs ex:List Addr):Prop :=
 A.handled=none \/ ∃ (e:Addr) (cb:Obj) (vs:cZ),A.handled=some (.ref e)/\h.get? e=some cb/\H e=none/\e∉fs/\e∉ex/\cb.data=.fields vs/\vs[2]?=some .none
structure aP.Ok (X:aP):Prop where
 mod:Mod X.K X.mg X.base
 kind:X.env.scope.kind=.function
 glob:X.env.globals=mainGlobals
 blt:X.env.builtins=builtinsNs
 above:X.s₀.heap.objs.size<=X.env.locals
 inj : ∀ x y c,X.env.cells.lookup x=some c->X.env.cells.lookup y=some c->x=y
 has : ∀ x,(X.env.kindOf x=some .cell\/X.env.kindOf x=some .free) -> ∃ c,X.env.cells.lookup x=some c
 o8 : ∀ x c,X.fn x=true->X.env.cells.lookup x=some c->X.s₀.heap.objs.size<=c
 hd:(X.calm=true->X.A.handled=none)/\(X.warm=true->we X.A X.s₀.heap X.H₀ X.fs X.ex)
 frames:X.A.frames=some X.stack
 qJ:X.stack=X.outer\/(X.stack=X.env::X.outer/\X.env.frame=some X.env.locals)
 qn : ∀ b∈X.ex,b≠X.env.locals /\ ∀ x c,X.env.cells.lookup x=some c->c≠b
 bs : ∀ b o,X.base.get? b=some o->X.s₀.heap.get? b=some o/\X.H₀ b=none
 jh:X.base.objs.size<=X.s₀.heap.objs.size
 oq : ∀ b o,X.base.get? b=some o->b∉X.ex
 qO : ∀ b∈X.ex,b∉X.fs
 iQ:X.s₀.heap.FunFrames X.base X.outer
 lF : ∀ b∈X.fs,X.H₀ b=none
structure Inv (X:aP) (pins:d5) (σ:List (Option V)) (H:az) (s:Shared):Prop where
 ok:X.Ok
 os:s.os=X.s₀.os
 bare:AllBare s.gens
 base:fY X.fs X.ex X.H₀ H X.s₀.heap s.heap
 loc : ∃ m,s.heap.Ns X.env.locals m /\ ∀ (i:Nat) (x:Str) (v:V),X.N[i]?=some x->σ[i]?=some (some v)->Bp X.env.scope x -> ∃ u,RelV v u/\Look X.env s.heap m x u
 cell : ∀ x c,X.env.cells.lookup x=some c -> ∃ v,s.heap.IsCell c v
 free:H X.env.locals=none
 ia : ∀ x c,X.env.cells.lookup x=some c->H c=none
 pin : ∀ p∈X.j7++pins,s.heap.get? p.1=some p.2/\H p.1=none/\p.1≠X.env.locals/\p.1∉X.fs /\ ∀ v,p.2.data≠.cell v
 a7:e5 X.prog X.w H s.heap
 len:σ.length=X.N.length
section
variable {X:aP} {σ:List (Option V)} {H H':az}
theorem aP.Ok.aaa (ok:X.Ok) {b:Addr} {o:Obj} (e:X.base.get? b=some o):b∉X.fs:=λ ae=>by
 have:=(ok.iQ.mem ae).1;rw [e] at this;cases this
theorem Inv.bs (I:Inv X pins σ H s) : ∀ b o,X.base.get? b=some o->s.heap.get? b=some o/\H b=none:=λ b o e =>
 #[I.base.keep b o (I.ok.bs b o e).1 (I.ok.bs b o e).2 (I.ok.aaa e) (I.ok.oq b o e),I.base.free b o (I.ok.bs b o e).1 (I.ok.bs b o e).2 (I.ok.oq b o e)]
theorem Inv.aQ (I:Inv X pins σ H s) : ∀ b o,X.base.get? b=some o->s.heap.get? b=some o:=λ b o e=>(I.bs b o e).1
theorem Inv.mod (I:Inv X pins σ H s):Mod X.K X.mg X.base:=I.ok.mod
theorem Inv.ZM (I:Inv X pins σ H s) (hw:X.warm=true):we X.A s.heap H X.fs X.ex :=
 (I.ok.hd.2 hw).imp id λ ⟨e,cb,vs,ah,ai,aH,a4,b4,r⟩=>#[e,cb,vs,ah,I.base.keep e cb ai aH a4 b4,I.base.free e cb ai aH b4,a4,b4,r]
theorem Inv.kP (I:Inv X pins σ H s) (hw:X.warm=true):gE.In X.A s.heap :=
 (I.ZM hw).imp id λ ⟨e,cb,vs,ah,ai,_,_,_,r⟩=>#[e,cb,vs,ah,ai,r]
theorem Inv.eb (I:Inv X pins σ H s):X.K.In s.heap:=I.ok.mod.kS.keeps I.aQ
theorem Inv.lt (I:Inv X pins σ H s):X.env.locals<s.heap.objs.size:=let ⟨_,aF,_⟩:=I.loc;aF.lt
theorem Inv.nY (I:Inv X pins σ H s):X.s₀.heap.objs.size<=s.heap.objs.size:=fl I.ok.above (C2 I.lt)
theorem Inv.aab (I:Inv X pins σ H s) {a:Addr} (h:s.heap.objs.size<=a):a∉X.fs:=λ ae=>by
 obtain ⟨_,o,aJ,_⟩:=I.ok.iQ.mem ae;exact absurd (gQ (cu aJ) (fl I.nY h)) (iX _)
theorem Inv.qm (I:Inv X pins σ H s) : ∀ x c,X.env.cells.lookup x=some c->c≠X.env.locals:=λ x c e z=>by
 obtain ⟨v,o,aJ,hd⟩:=I.cell x c e;obtain ⟨m,⟨ey,ar,ep,kQ,r4,_⟩,_⟩:=I.loc;rw [z,kQ] at aJ;cases aJ;rw [r4] at hd;cases hd
theorem Inv.iQ (I:Inv X pins σ H s):s.heap.FunFrames X.base X.outer:=by
 have all : ∀ (l:List Env),(∀ b∈fO l,b∈X.fs)->X.s₀.heap.FunFrames X.base l->s.heap.FunFrames X.base l:=by
  intro l
  induction l with
  | nil=>intro _ _;trivial
  | cons env r cQ =>
   intro aB av;obtain ⟨aG,⟨L,o,hf,aF,aJ,hd⟩,aq⟩:=av;have fB:L∈X.fs:=aB L (by unfold fO;rw [List.filterMap_cons,hf];exact gS);obtain ⟨cR,e⟩:=I.base.slot L o aJ (I.ok.lF L fB) fB λ z=>I.ok.qO L z fB
   exact #[aG,#[L,_,hf,aF,e,hd],cQ (λ b ae=>aB b (by unfold fO;rw [List.filterMap_cons,hf];exact ht _ ae)) aq]
 exact all X.outer (λ _ ae=>ae) I.ok.iQ
theorem Inv.stack (I:Inv X pins σ H s):s.heap.FunFrames X.base X.stack:=by
 rcases I.ok.qJ with e | ⟨e,hf⟩
 ·rw [e];exact I.iQ
 ·rw [e];obtain ⟨m,aF,_⟩:=I.loc;refine .cons (by rw [I.ok.kind];decide) hf aF ?_ I.iQ;exact C3 (fl I.ok.jh I.ok.above)
theorem Inv.q_ (I:Inv X pins σ H s) : ∀ b∈fO X.stack,b∈X.env.locals::X.fs:=λ b ae=>by
 rcases I.ok.qJ with e | ⟨e,hf⟩
 ·rw [e] at ae;exact ht _ ae
 ·rw [e] at ae;unfold fO at ae;rw [List.filterMap_cons,hf] at ae;exact ae
theorem Inv.Gi (I:Inv X pins σ H s) (hw:X.warm=true) (f : ∀ b∈a_,b∈X.ex\/X.s₀.heap.objs.size<=b):we X.A s.heap H (fO X.stack) a_ :=
 (I.ok.hd.2 hw).imp id λ ⟨e,cb,vs,ah,ai,aH,a4,b4,r⟩=>#[e,cb,vs,ah,I.base.keep e cb ai aH a4 b4,I.base.free e cb ai aH b4,
  λ z=>(c1.mp (I.q_ e z)).elim (λ q=>absurd (gQ (cu ai) (by rw [q];exact I.ok.above)) (iX _)) a4,
  λ z=>(f e z).elim b4 λ q=>absurd (gQ (cu ai) q) (iX _),r]
theorem Inv.uV (I:Inv X pins σ H s) : ∀ b∈fO X.stack,H b=none:=λ b ae=>by
 rcases c1.mp (I.q_ b ae) with e | ae
 ·rw [e];exact I.free
 ·obtain ⟨_,o,aJ,_⟩:=I.ok.iQ.mem ae;exact I.base.free b o aJ (I.ok.lF b ae) λ z=>I.ok.qO b z ae
theorem Inv.step {g':Array GenState} {t':Nat} {d':Drawn} (I:Inv X pins σ H s)
  (pa : ∀ b∈ch,(b∈X.ex\/X.s₀.heap.objs.size<=b)/\b≠X.env.locals/\(∀ x c,X.env.cells.lookup x=some c->c≠b) /\ ∀ p∈X.j7++pins,p.1≠b)
  (keep : ∀ b o,b≠X.env.locals->b∉X.fs->b∉ch->s.heap.get? b=some o->H b=none->h'.get? b=some o)
  (slot : ∀ b o,b≠X.env.locals->b∈X.fs->b∉ch->s.heap.get? b=some o->H b=none -> ∃ cR,h'.get? b=some { o with slots:=cR }) (free : ∀ b o,b∉ch->s.heap.get? b=some o->H b=none->H' b=none)
  (there : ∀ b o,b∉ch->s.heap.get? b=some o -> ∃ ey,h'.get? b=some ey)
  (lS : ∀ b xs,H b=some (.tup xs)->H' b=some (.tup xs)) (k7 : ∀ b o u,H b=some (.gI o u)->H' b=some (.gI o u)) (lR : ∀ b ag,H b=some (.qK ag) -> ∃ more,H' b=some (.qK (ag++more)))
  (ns : ∀ m,s.heap.Ns X.env.locals m->h'.Ns X.env.locals m) (a7:e5 X.prog X.w H' h') (aS:AllBare g') :
  Inv X pins σ H' { s with heap:=h',gens:=g',drawn:=d',toks:=t' }:=by
 have NT : ∀ b o,X.s₀.heap.get? b=some o->b≠X.env.locals:=λ b o e=>d3 (gQ (cu e) I.ok.above)
 have B5 : ∀ b o,X.s₀.heap.get? b=some o->b∉X.ex->b∉ch:=λ b o e aj ae=>by
  rcases (pa b ae).1 with z | z
  ·exact aj z
  ·exact absurd (gQ (cu e) z) (iX _)
 have cellK : ∀ x c,X.env.cells.lookup x=some c -> ∀ v,s.heap.IsCell c v->h'.IsCell c v:=λ x c e v ⟨o,aJ,hd⟩=>by
  have y5:c∉ch:=λ z=>(pa c z).2.2.1 x c e rfl
  by_cases ak:c∈X.fs
  ·obtain ⟨cR,q⟩:=slot c o (I.qm x c e) ak y5 aJ (I.ia x c e);exact #[_,q,hd]
  ·exact #[o,keep c o (I.qm x c e) ak y5 aJ (I.ia x c e),hd]
 refine #[I.ok,I.os,aS,#[λ b o e n ae aj=>?_,λ b o e n ae aj=>?_,λ b o e n aj=>?_,λ b o e aj=>?_,λ b xs e=>lS b xs (I.base.lS b xs e),λ b o xs e=>k7 b o xs (I.base.k7 b o xs e),λ b ag e=>?_],?_,λ x c e=>?_,?_,λ x c e=>?_,λ p aw=>?_,a7,I.len]
 ·exact keep b o (NT b o e) ae (B5 b o e aj) (I.base.keep b o e n ae aj) (I.base.free b o e n aj)
 ·obtain ⟨cR,aM⟩:=I.base.slot b o e n ae aj;obtain ⟨pn,aO⟩:=slot b _ (NT b o e) ae (B5 b o e aj) aM (I.base.free b o e n aj);exact #[pn,aO]
 ·obtain ⟨ey,aM⟩:=I.base.there b o e aj;exact free b ey (B5 b o e aj) aM (I.base.free b o e n aj)
 ·obtain ⟨ey,aM⟩:=I.base.there b o e aj;exact there b ey (B5 b o e aj) aM
 ·obtain ⟨ig,aM⟩:=I.base.lR b ag e;obtain ⟨ly,aO⟩:=lR b _ aM;exact #[ig++ly,by rw [aO,Array.append_assoc]]
 ·obtain ⟨m,aF,av⟩:=I.loc;refine #[m,ns m aF,λ i x v aM aO el=>?_];obtain ⟨u,r,l⟩:=av i x v aM aO el;refine #[u,r,?_];rcases l with l | ⟨k,c,e,z⟩
  ·exact .inl l
  ·exact .inr #[k,c,e,cellK x c e _ z]
 ·obtain ⟨v,z⟩:=I.cell x c e;exact #[v,cellK x c e v z]
 ·obtain ⟨m,⟨o,_,_,aJ,_⟩,_⟩:=I.loc;exact free _ o (λ z=>(pa _ z).2.1 rfl) aJ I.free
 ·obtain ⟨v,o,aJ,hd⟩:=I.cell x c e;exact free c o (λ z=>(pa c z).2.2.1 x c e rfl) aJ (I.ia x c e)
 ·obtain ⟨e,n,ne,hi,d⟩:=I.pin p aw;have y5:p.1∉ch:=λ z=>(pa p.1 z).2.2.2 p aw rfl
  exact #[keep p.1 p.2 ne hi y5 e n,free p.1 p.2 y5 e n,ne,hi,d]
theorem Inv.un (I:Inv X pins σ H s) (u:fY X.fs [] H H' s.heap h') (a7:e5 X.prog X.w H' h'):Inv X pins σ H' { s with heap:=h',toks:=t' }:=by
 obtain ⟨m,⟨o,ar,ep,aJ,r⟩,_⟩:=id I.loc;obtain ⟨cR,fB⟩:=u.any aJ I.free .zs;exact I.step (g':=s.gens) (d':=s.drawn) (ch:=[]) (λ _ z=>nomatch z) (λ b o _ ae _ e n=>u.keep b o e n ae .zs) (λ b o _ ae _ e n=>u.slot b o e n ae .zs) (λ b o _ e n=>u.free b o e n .zs) (λ b o _ e=>u.there b o e .zs) u.lS u.k7 u.lR (λ cP hm=>by
  obtain ⟨ey,nd,Bz,kQ,bP⟩:=hm;rw [aJ] at kQ;cases kQ;exact #[_,nd,Bz,fB,bP]) a7 I.bare
theorem Inv.call {g':Array GenState} {d':Drawn} (I:Inv X pins σ H s) (u:fY (fO X.stack) ch H H' s.heap h') (a7:e5 X.prog X.w H' h') (aS:AllBare g')
  (pa : ∀ b∈ch,(b∈X.ex\/X.s₀.heap.objs.size<=b)/\b≠X.env.locals/\(∀ x c,X.env.cells.lookup x=some c->c≠b) /\ ∀ p∈X.j7++pins,p.1≠b) :
  Inv X pins σ H' { s with heap:=h',gens:=g',drawn:=d',toks:=t' }:=by
 obtain ⟨m,⟨o,ar,ep,aJ,r⟩,_⟩:=id I.loc;obtain ⟨cR,fB⟩:=u.any aJ I.free λ z=>(pa _ z).2.1 rfl
 exact I.step (ch:=ch) pa (λ b o fB ae ak e n=>u.keep b o e n (λ z=>(c1.mp (I.q_ b z)).elim fB ae) ak) (λ b o _ _ ak e n=>u.any e n ak) (λ b o ak e n=>u.free b o e n ak) (λ b o ak e=>u.there b o e ak) u.lS u.k7 u.lR (λ cP hm=>by
  obtain ⟨ey,nd,Bz,kQ,bP⟩:=hm;rw [aJ] at kQ;cases kQ;exact #[_,nd,Bz,fB,bP]) a7 aS
theorem Inv.turned (I:Inv X pins σ H s) (k : ∀ b o,b≠it->s.heap.get? b=some o->h'.get? b=some o) (aF:H it=none) (fB:it≠X.env.locals)
  (ah:it∈X.ex\/X.s₀.heap.objs.size<=it) (ai : ∀ x c,X.env.cells.lookup x=some c->c≠it) (aH : ∀ p∈X.j7++pins,p.1≠it):Inv X pins σ H { s with heap:=h',toks:=t' }:=by
 have sd : ∀ b u,H b=some u->b≠it:=λ b u e z=>by rw [z,aF] at e;cases e
 refine I.step (g':=s.gens) (d':=s.drawn) (ch:=[it]) (λ b ae=>?_) (λ b o _ _ ak e _=>k b o (λ z=>ak (by simp [z])) e) (λ b o _ _ ak e _=>#[o.slots,k b o (λ z=>ak (by simp [z])) e]) (λ _ _ _ _ n=>n)
  (λ b o ak e=>#[o,k b o (λ z=>ak (by simp [z])) e]) (λ _ _ e=>e) (λ _ _ _ e=>e) (λ b ag e=>#[#[],by rw [e];simp]) (λ m hm=>?_) (λ b u e=>?_) I.bare
 ·have e:b=it:=by simpa using ae
  subst e;exact #[ah,fB,ai,aH]
 ·obtain ⟨o,ar,ep,aJ,r⟩:=hm;exact #[o,ar,ep,k _ o (ek fB) aJ,r]
 ·refine (I.a7 b u e).jq (λ c v ak q=>k c v ?_ q) (λ _ q=>q) λ _ _ q=>q
  rcases ak with z | z
  ·rw [z];exact sd b u e
  ·exact sd c _ z
theorem Inv.tok (I:Inv X pins σ H s) (t:Nat):Inv X pins σ H { s with toks:=t }:=I.un (h':=s.heap) (t':=t) fY.refl I.a7
theorem Inv.kept (I:Inv X pins σ H s) (k : ∀ b u,s.heap.get? b=some u->h'.get? b=some u):Inv X pins σ H { s with heap:=h',toks:=t' }:=I.un (fY.kept k) (I.a7.kept k)
theorem Inv.laid {a:Addr} {o:e6} (I:Inv X pins σ H s) (k : ∀ b u,s.heap.get? b=some u->h'.get? b=some u) (aw:s.heap.objs.size<=a) (new:et X.prog X.w (upd H a o) h' a o) :
  Inv X pins σ (upd H a o) { s with heap:=h',toks:=t' }:=I.un (fY.laid k aw (I.a7.fresh aw)) (I.a7.laid k aw new)
theorem Inv.write {x e:Addr} {o:e6} (I:Inv X pins σ H s) (lz:x8 (H x)) (he:e=x\/H e=some (.own x)) (k : ∀ b u,b≠e->s.heap.get? b=some u->h'.get? b=some u) (vR : ∃ u,h'.get? e=some u)
  (new:et X.prog X.w (upd H x o) h' x o):Inv X pins σ (upd H x o) { s with heap:=h',toks:=t' }:=I.un (fY.write lz he k vR) (I.a7.write lz he k vR new)
theorem Inv.Q5 {wA:d5} (I:Inv X pins σ H s) (h : ∀ p∈wA,s.heap.get? p.1=some p.2/\H p.1=none/\p.1≠X.env.locals/\p.1∉X.fs /\ ∀ v,p.2.data≠.cell v):Inv X wA σ H s :=
 #[I.ok,I.os,I.bare,I.base,I.loc,I.cell,I.free,I.ia,λ p aw=>(oB.mp aw).elim (λ z=>I.pin p (uC _ z)) (h p),I.a7,I.len]
theorem Ji {N:bT} (dx:N.Nodup) {i j:Nat} {x:Str} (a:N[i]?=some x) (b:N[j]?=some x):i=j:=by
 obtain ⟨ah,aM⟩:=fJ.mp a;obtain ⟨ai,aO⟩:=fJ.mp b;exact (List.getElem_inj dx).mp (aM.trans aO.symm)
theorem SN {M:Model} {E:b2} {i:Nat} {x:Str} {v:V} {u:Value} {Q:Unit->Shared->Prop} (I:Inv X pins σ H s) (dx:X.N.Nodup) (ax:X.N[i]?=some x) (aj:Loc X.env.scope x) (r:RelV v u)
  (h : ∀ s',Inv X pins (σ.set i (some v)) H s'->(∃ a,Heap.SameBut a s.heap s'.heap/\(a=X.env.locals\/X.env.cells.lookup x=some a))->Q () s') (hf:X.fn x=true\/X.env.scope.names.lookup x=some .local:=by first | exact .inl rfl | exact .inr rfl | assumption):wpAny M A (storeName X.env x u) Q E s:=by
 obtain ⟨m,aF,av⟩:=id I.loc;have zz:(X.env.scope.kind == .class||(X.env.scope.kind == .module&&X.env.locals != X.env.globals))=false:=by rw [I.ok.kind];rfl
 have hiσ:i < σ.length:=by rw [I.len];exact (fJ.mp ax).1
 have qm:=I.qm;have tracked : ∀ {a:Addr} {h':Heap},(∃ o,s.heap.get? a=some o/\H a=none)->Heap.SameBut a s.heap h'->e5 X.prog X.w H h':=λ {a h'} ay aB b b7 e=>by
  obtain ⟨_,_,PO⟩:=ay;refine (I.a7 b b7 e).jq (λ c cV ak q=>(aB.2 c ?_).trans q) (λ _ q=>q) λ _ _ q=>q
  rintro rfl;rcases ak with rfl | ak
  ·rw [PO] at e;cases e
  ·rw [PO] at ak;cases ak
 rcases aj with aG | aG
 ·refine wpAny_storeName_local aG aF (λ h' BM aB=>?_) zz;obtain ⟨MA,_,_,Nq,_⟩:=id aF;refine h _ #[I.ok,I.os,I.bare,#[λ b o e n ae aj=>?_,λ b o e n ae aj=>?_,I.base.free,λ b o e aj=>?_,I.base.lS,I.base.k7,I.base.lR],#[_,BM,λ j y jH aM aO el=>?_],λ y c e=>?_,I.free,I.ia,λ p aw=>?_,tracked #[MA,Nq,I.free] aB,by simpa using I.len] #[_,aB,.inl rfl]
  ·exact (aB.2 b (d3 (gQ (cu e) I.ok.above))).trans (I.base.keep b o e n ae aj)
  ·obtain ⟨cR,aM⟩:=I.base.slot b o e n ae aj;exact #[cR,(aB.2 b (d3 (gQ (cu e) I.ok.above))).trans aM]
  ·obtain ⟨ey,aM⟩:=I.base.there b o e aj;exact #[ey,(aB.2 b (d3 (gQ (cu e) I.ok.above))).trans aM]
  ·by_cases b5:j=i
   ·subst b5;rw [ax] at aM;cases aM;rw [sC hiσ] at aO;cases aO;exact #[u,r,.inl #[aG,.zs]]
   ·rw [z3 (ek b5)] at aO;obtain ⟨kH,bP,q⟩:=av j y jH aM aO el;refine #[kH,bP,?_];rcases q with ⟨k,e⟩ | ⟨k,c,e,z⟩
    ·refine .inl #[k,?_];have:y≠x:=λ e=>b5 (Ji dx aM (e ▸ ax))
     simp [this,e]
    ·exact .inr #[k,c,e,z.sameBut aB (qm y c e)]
  ·obtain ⟨cV,z⟩:=I.cell y c e;exact #[cV,z.sameBut aB (qm y c e)]
  ·obtain ⟨e,n,ne,hi,d⟩:=I.pin p aw;exact #[(aB.2 p.1 ne).trans e,n,ne,hi,d]
 ·have Gq:X.fn x=true:=by
   rcases hf with z | z
   ·exact z
   ·rw [z] at aG;cases aG
  obtain ⟨c,ak⟩:=I.ok.has x (.inl aG);obtain ⟨cV,z⟩:=I.cell x c ak;refine wpAny_storeName_cell I.ok.kind aG ak z (λ h' nf aB=>?_);obtain ⟨f7,lK,ZU⟩:=id z;refine h { s with heap:=h' } #[I.ok,I.os,I.bare,#[λ b o e n ae aj=>?_,λ b o e n ae aj=>?_,I.base.free,λ b o e aj=>?_,I.base.lS,I.base.k7,I.base.lR],#[m,aF.sameBut aB (ek (qm x c ak)),λ j y jH aM aO el=>?_],λ y cq e=>?_,I.free,I.ia,λ p aw=>?_,tracked #[f7,lK,I.ia x c ak] aB,by simpa using I.len] #[c,aB,.inr ak]
  ·exact (aB.2 b (d3 (gQ (cu e) (I.ok.o8 x c Gq ak)))).trans (I.base.keep b o e n ae aj)
  ·obtain ⟨cR,aM⟩:=I.base.slot b o e n ae aj;exact #[cR,(aB.2 b (d3 (gQ (cu e) (I.ok.o8 x c Gq ak)))).trans aM]
  ·obtain ⟨ey,aM⟩:=I.base.there b o e aj;exact #[ey,(aB.2 b (d3 (gQ (cu e) (I.ok.o8 x c Gq ak)))).trans aM]
  ·by_cases b5:j=i
   ·subst b5;rw [ax] at aM;cases aM;rw [sC hiσ] at aO;cases aO;exact #[u,r,.inr #[.inl aG,c,ak,nf]]
   ·rw [z3 (ek b5)] at aO;obtain ⟨kH,bP,q⟩:=av j y jH aM aO el;refine #[kH,bP,?_];rcases q with q | ⟨k,cq,e,eh⟩
    ·exact .inl q
    ·refine .inr #[k,cq,e,eh.sameBut aB ?_];rintro rfl;exact b5 (Ji dx aM (I.ok.inj _ _ _ e ak ▸ ax))
  ·by_cases r3:cq=c
   ·subst r3;exact #[_,nf]
   ·obtain ⟨hl,f9⟩:=I.cell y cq e;exact #[hl,f9.sameBut aB r3]
  ·obtain ⟨e,n,ne,hi,d⟩:=I.pin p aw;refine #[(aB.2 p.1 ?_).trans e,n,ne,hi,d];intro q;rw [q,lK] at e;have aY:f7=p.2:=gR e;exact d cV (by rw [<-aY];exact ZU)
theorem DW {M:Model} {E:b2} {i:Nat} {x:Str} {v:V} {u:Value} {Q:Unit->Shared->Prop} (I:Inv X pins σ H s) (dx:X.N.Nodup) (ax:X.N[i]?=some x) (aj:Loc X.env.scope x) (r:RelV v u)
  (h : ∀ s',Inv X pins (σ.set i (some v)) H s'->Q () s') (hf:X.fn x=true\/X.env.scope.names.lookup x=some .local:=by first | exact .inl rfl | exact .inr rfl | assumption):wpAny M A (storeName X.env x u) Q E s :=
 SN I dx ax aj r (λ s' j2 _=>h s' j2) hf
theorem Inv.CN {s':Shared} (I:Inv X pins σ H s) (aJ:s'.os=s.os) (u:fY (fO X.stack) ch H H' s.heap s'.heap) (a7:e5 X.prog X.w H' s'.heap) (aS:AllBare s'.gens)
  (pa : ∀ b∈ch,(b∈X.ex\/X.s₀.heap.objs.size<=b)/\b≠X.env.locals/\(∀ x c,X.env.cells.lookup x=some c->c≠b) /\ ∀ p∈X.j7++pins,p.1≠b):Inv X pins σ H' s':=by
 obtain ⟨h',g',d',t',ey⟩:=s';have e:ey=s.os:=aJ;subst e;exact I.call (g':=g') (t':=t') (d':=d') u a7 aS pa
end
noncomputable abbrev dA:=Value->Option Addr->az->Prop
noncomputable abbrev St:=List (Option V)
noncomputable abbrev bG:=V->az->Prop
noncomputable abbrev TE:=St->az->bG->Prop
noncomputable abbrev TT:=St->az->(Bool->az->Prop)->Prop
noncomputable abbrev dc:=St->az->(List V->az->Prop)->Prop
structure Ends where
 bu:St->az->Prop
 kG:bG
 aQ:St->az->Prop:=λ _ _=>False
 cK:St->az->Prop:=λ _ _=>False
noncomputable abbrev de:=Ends->St->az->Prop
noncomputable def hA (X:aP) (pins:d5) (σ:St) (Q:bG) (u:Value) (s':Shared):Prop := ∃ v H',Inv X pins σ H' s'/\RelV v u/\Q v H'
noncomputable def EE (X:aP) (pins:d5) (σ:St) (Q:Bool->az->Prop) (b:Bool) (s':Shared):Prop := ∃ H',Inv X pins σ H' s'/\Q b H'
noncomputable def UP (X:aP) (pins:d5) (σ:St) (Q:List V->az->Prop) (us:List Value) (s':Shared):Prop := ∃ vs H',Inv X pins σ H' s'/\Vals vs us/\Q vs H'
noncomputable def lu (X:aP) (pins:d5) (D:Ends) (f:Flow) (s':Shared):Prop :=
 match f with
 | .next => ∃ σ' H',Inv X pins σ' H' s'/\D.bu σ' H'
 | .brk => ∃ σ' H',Inv X pins σ' H' s'/\D.aQ σ' H'
 | .cont => ∃ σ' H',Inv X pins σ' H' s'/\D.cK σ' H'
 | .ret u => ∃ v σ' H',Inv X pins σ' H' s'/\RelV v u/\D.kG v H'
noncomputable def cn (X:aP) (e:Expr) (t:TE):Prop :=
 ∀ (pins:d5) (s:Shared) (σ:St) (H:az) (Q:bG),Inv X pins σ H s->t σ H Q->wpAny (model X.prog X.w) X.A (eval e X.env) (hA X pins σ Q) X.c3 s
noncomputable def l6 (X:aP) (e:Expr) (t:TT):Prop :=
 ∀ (pins:d5) (s:Shared) (σ:St) (H:az) (Q:Bool->az->Prop),Inv X pins σ H s->t σ H Q->wpAny (model X.prog X.w) X.A (isTrue e X.env (eval e X.env)) (EE X pins σ Q) X.c3 s
noncomputable def oW (X:aP) (e:Expr) (t:TT):Prop :=
 ∀ (whole:Sem Value) (pins:d5) (s:Shared) (σ:St) (H:az) (Q:Bool->az->Prop),Inv X pins σ H s->t σ H Q->wpAny (model X.prog X.w) X.A (isTrue e X.env whole) (EE X pins σ Q) X.c3 s
theorem oW.pt {X:aP} {e:Expr} {t:TT} (h:oW X e t):l6 X e t:=h _
noncomputable def iF (X:aP) (ar:List Expr) (t:dc):Prop :=
 ∀ (pos:Pos) (pins:d5) (s:Shared) (σ:St) (H:az) (Q:List V->az->Prop),Inv X pins σ H s->t σ H Q->wpAny (model X.prog X.w) X.A (spliced (backTo pos (starEach ar X.env))) (UP X pins σ Q) X.c3 s
noncomputable def kz (X:aP) (st:Stmt) (t:de):Prop :=
 ∀ (pins:d5) (s:Shared) (σ:St) (H:az) (D:Ends),Inv X pins σ H s->t D σ H->wpAny (model X.prog X.w) X.A (exec st X.env) (lu X pins D) X.c3 s
noncomputable def lD (X:aP) (st:List Stmt) (t:de):Prop :=
 ∀ (pins:d5) (s:Shared) (σ:St) (H:az) (D:Ends),Inv X pins σ H s->t D σ H->wpAny (model X.prog X.w) X.A (execs st X.env) (lu X pins D) X.c3 s
theorem bq {α: Type} {t:Sem α} {Q xB: α -> Shared->Prop} {M:Model} {E:b2} (h:wpAny M A t Q E s) (g4 : ∀ a s,Q a s->xB a s):wpAny M A t xB E s:=hb h g4 λ _ _ x=>x
section
variable {X:aP}
noncomputable def iT (i:Nat):TE:=λ σ H Q => ∃ v,σ[i]?=some (some v)/\Q v H
noncomputable def cM (v:V):TE:=λ _ H Q=>Q v H
theorem abS {i:Nat} {x:Str} {pos:Pos} (dx:X.N[i]?=some x) (ba:Bp X.env.scope x) (hd:(x == ("__debug__" : Str))=false:=by decide) (iN:(x == ("__classdict__" : Str))=false:=by decide):cn X (.Name x pos) (iT i):=by
 intro pins s σ H Q I h;obtain ⟨v,e,h⟩:=h;obtain ⟨m,aF,av⟩:=I.loc;obtain ⟨u,r,l⟩:=av i x v dx e ba;have fin:hA X pins σ Q u s:=#[v,H,I,r,h]
 rcases l with ⟨aG,hm⟩ | ⟨aG,c,ak,PL⟩
 ·exact wpAny_Name (wpAny_loadName_local I.ok.kind aG aF hm fin) hd
 ·rcases aG with aG | aG
  ·exact wpAny_Name (wpAny_loadName_cell I.ok.kind aG ak PL fin) hd
  ·exact wpAny_Name (wpAny_loadName_free I.ok.kind aG ak PL fin iN) hd
theorem abM {i j pos}:cn X (.Constant (.int i) j pos) (cM (.int i)):=λ _ _ _ H _ I h=>wpAny_Constant_int #[.int i,H,I.tok _,#[_,rfl],h]
theorem aaU {b j pos}:cn X (.Constant (.bool b) j pos) (cM (.aX b)):=λ _ _ _ H _ I h=>Constant_bool #[.aX b,H,I,rfl,h]
theorem Qn {j pos}:cn X (.Constant .none j pos) (cM .bh):=λ _ _ _ H _ I h=>Constant_none #[.bh,H,I,rfl,h]
theorem abQ {x j pos}:cn X (.Constant (.str x) j pos) (cM (.str x)):=λ _ _ _ H _ I h=>Calls.Constant_str #[.str x,H,I.tok _,#[_,rfl],h]
noncomputable def dW (X:aP) (x:Str):Prop:=X.env.kindOf x=some .globalImplicit
theorem pV {E:b2} {σ:St} {H:az} {x:Str} {u:Value} {pos:Pos} {Q:b2} (I:Inv X pins σ H s) (aS:dW X x) (hm:X.mg x=some u) (h:Q u s)
  (hd:(x == ("__debug__" : Str))=false:=by decide):wpAny (model X.prog X.w) X.A (eval (.Name x pos) X.env) Q E s :=
 C4 I.ok.kind aS (Ic (by rw [I.ok.glob];exact I.mod.glob.keeps I.aQ) hm h) hd
theorem pJ {E:b2} {σ:St} {H:az} {x:Str} {u:Value} {pos:Pos} {Q:b2} (I:Inv X pins σ H s) (aS:dW X x) (hm:X.mg x=none) (ba:bootBuiltins x=some u) (h:Q u s)
  (aF:x ≠ "__name__" := by decide) (hd:(x == ("__debug__" : Str))=false:=by decide):wpAny (model X.prog X.w) X.A (eval (.Name x pos) X.env) Q E s:=by
 obtain ⟨m6,ah,ai⟩:=I.mod.blt;exact C4 I.ok.kind aS (Calls.loadGlobal_builtin (by rw [I.ok.glob];exact I.mod.glob.keeps I.aQ) hm (by rw [I.ok.blt];exact ah.keeps I.aQ) ((ai x aF).trans ba) h) hd
theorem I1 {x:Str} {v:V} {u:Value} {pos:Pos} (aS:dW X x) (hm:X.mg x=some u) (r:RelV v u) (hd:(x == ("__debug__" : Str))=false:=by decide):cn X (.Name x pos) (cM v) :=
 λ _ _ _ H _ I h=>pV I aS hm #[v,H,I,r,h] hd
theorem acS {x:Str} {v:V} {u:Value} {pos:Pos} (aS:dW X x) (hm:X.mg x=none) (ba:bootBuiltins x=some u) (r:RelV v u) (aF:x ≠ "__name__" := by decide) (hd:(x == ("__debug__" : Str))=false:=by decide):cn X (.Name x pos) (cM v) :=
 λ _ _ _ H _ I h=>pJ I aS hm ba #[v,H,I,r,h] aF hd
variable {a b:Expr} {a3 bz:TE} {pos:Pos}
noncomputable def tH (t:TE):TT:=λ σ H Q=>t σ H λ x H1 => ∃ c,x=.aX c/\Q c H1
theorem ab5 {e:Expr} {t:TE} (h:cn X e t) (he : ∀ whole,isTrue e X.env whole=(do let v ← whole;standAt e.pos;holding [v] (truthy v)):=by intro _;rfl):l6 X e (tH t):=by
 intro pins s σ H Q I hw;refine isTrue_plain (bq (h pins s σ H _ I hw) ?_) (he _);rintro v s1 ⟨x,H1,aK,bJ,bb⟩;obtain ⟨d,rfl,q⟩:=bb;cases bJ;exact sD #[H1,aK,q]
variable {ih my:TT}
noncomputable def Py (t u:TT):TT:=λ σ H Q=>t σ H λ c H1=>if c=true then u σ H1 Q else Q false H1
noncomputable def OG (t u:TT):TT:=λ σ H Q=>t σ H λ c H1=>if c=true then Q true H1 else u σ H1 Q
noncomputable def PE (t:TT):TT:=λ σ H Q=>t σ H λ c H1=>Q (!c) H1
theorem ade (ay:l6 X a ih):oW X (.BoolOp .And [a] pos) ih:=by
 intro x2 pins s σ H Q I h;refine isTrue_and (bq (ay pins s σ H Q I h) λ c s1 e=>?_);cases c with
 | true=>exact isTrue_and_nil e
 | false=>exact e
theorem ab7 (ay:l6 X a ih):oW X (.BoolOp .Or [a] pos) ih:=by
 intro x2 pins s σ H Q I h;refine isTrue_or (bq (ay pins s σ H Q I h) λ c s1 e=>?_);cases c with
 | false=>exact isTrue_or_nil e
 | true=>exact e
theorem ab6 (ay:l6 X a ih) (ae:oW X (.BoolOp .And (b::rest) pos) my):oW X (.BoolOp .And (a::b::rest) pos) (Py ih my):=by
 intro x2 pins s σ H Q I h;refine isTrue_and (bq (ay pins s σ H _ I h) ?_);rintro c s1 ⟨H1,aK,bb⟩;cases c with
 | true=>exact ae x2 pins s1 σ H1 Q aK bb
 | false=>exact #[H1,aK,bb]
theorem aa2 (ay:l6 X a ih) (ae:oW X (.BoolOp .Or (b::rest) pos) my):oW X (.BoolOp .Or (a::b::rest) pos) (OG ih my):=by
 intro x2 pins s σ H Q I h;refine isTrue_or (bq (ay pins s σ H _ I h) ?_);rintro c s1 ⟨H1,aK,bb⟩;cases c with
 | true=>exact #[H1,aK,bb]
 | false=>exact ae x2 pins s1 σ H1 Q aK bb
theorem ab4 (ay:l6 X a ih):l6 X (.UnaryOp .Not a pos) (PE ih):=by
 intro pins s σ H Q I h;exact isTrue_not (ay pins s σ H (λ c H1=>Q (!c) H1) I h)
noncomputable def CY (a3 bz:TE):TE:=λ σ H Q=>a3 σ H λ x H1 => ∃ c,x=.aX c/\if c=true then bz σ H1 Q else Q (.aX false) H1
noncomputable def PF (a3 bz:TE):TE:=λ σ H Q=>a3 σ H λ x H1 => ∃ c,x=.aX c/\if c=true then Q (.aX true) H1 else bz σ H1 Q
noncomputable def Qa (a3:TE):TE:=λ σ H Q=>a3 σ H λ x H1 => ∃ c,x=.aX c/\Q (.aX (!c)) H1
theorem abP {op} {t:TE} (h:cn X a t):cn X (.BoolOp op [a] pos) t:=λ pins s σ H Q I hw=>BoolOp_one (h pins s σ H Q I hw)
theorem abJ (ay:cn X a a3) (ae:cn X (.BoolOp .And (b::rest) pos) bz):cn X (.BoolOp .And (a::b::rest) pos) (CY a3 bz):=by
 intro pins s σ H Q I h;refine BoolOp_and (bq (ay pins s σ H _ I h) ?_);rintro v s1 ⟨x,H1,aK,bJ,bb⟩;obtain ⟨c,rfl,bb⟩:=bb;cases bJ;refine sD ?_;cases c with
 | true=>exact ae pins s1 σ H1 Q aK bb
 | false=>exact #[.aX false,H1,aK,rfl,bb]
theorem aaY (ay:cn X a a3) (ae:cn X (.BoolOp .Or (b::rest) pos) bz):cn X (.BoolOp .Or (a::b::rest) pos) (PF a3 bz):=by
 intro pins s σ H Q I h;refine BoolOp_or (bq (ay pins s σ H _ I h) ?_);rintro v s1 ⟨x,H1,aK,bJ,bb⟩;obtain ⟨c,rfl,bb⟩:=bb;cases bJ;refine sD ?_;cases c with
 | false=>exact ae pins s1 σ H1 Q aK bb
 | true=>exact #[.aX true,H1,aK,rfl,bb]
theorem abO (ay:cn X a a3):cn X (.UnaryOp .Not a pos) (Qa a3):=by
 intro pins s σ H Q I h;refine UnaryOp_ (bq (ay pins s σ H _ I h) ?_);rintro v s1 ⟨x,H1,aK,bJ,bb⟩;obtain ⟨c,rfl,bb⟩:=bb;cases bJ;exact not_of (sD #[.aX (!c),H1,aK,rfl,bb])
end
noncomputable def a9 (K:cD) (H:az) (a:Addr) (xs:List V):Prop :=
 dS H a (.lst xs) \/
  ∃ (o:Obj) (its:cZ) (n:Nat),K.lookup a=some o/\o.cls=.type "list" /\ o.dict=none/\o.data=.seq its n/\its.size<=sizeLine/\Vals xs its.toList
noncomputable def a0 (K:cD) (H:az) (a:Addr) (xs:List V):Prop :=
 dS H a (.tup xs) \/
  ∃ (o:Obj) (its:cZ) (n:Nat),K.lookup a=some o/\o.cls=.type "tuple" /\ o.data=.seq its n/\its.size<=sizeLine/\Vals xs its.toList
noncomputable def Zv:Value->Option V
 | .none=>some .bh
 | .bool b=>some (.aX b)
 | .int i _=>some (.int i)
 | .str x _=>some (.str x)
 | .bytes b _=>some (.jK b)
 | .float b _=>some (.ip b)
 | .ref a=>some (.ref a)
 | .type n=>some (.ty n)
 | _=>none
theorem RelV.abs {x:V} {u:Value} (r:RelV x u):Zv u=some x:=by
 cases x with
 | bh=>cases r;rfl
 | aX _=>cases r;rfl
 | int _=>obtain ⟨t,rfl⟩:=r;rfl
 | str _=>obtain ⟨t,rfl⟩:=r;rfl
 | jK _=>obtain ⟨t,rfl⟩:=r;rfl
 | ip _=>obtain ⟨t,rfl⟩:=r;rfl
 | ref _=>cases r;rfl
 | ty _=>cases r;rfl
theorem RelV.inj {x y:V} {u:Value} (r:RelV x u) (q:RelV y u):x=y:=gR (r.abs.symm.trans q.abs)
theorem Vals.inj : ∀ {xs ys:List V} {us:List Value},Vals xs us->Vals ys us->xs=ys
 | _,_,_,.nil,.nil=>rfl
 | _,_,_,.cons r t,.cons bP t'=>by rw [r.inj bP,Vals.inj t t']
section
variable {X:aP} {σ:St} {H:az} {a:Addr} {xs ys:List V}
theorem a9.of (h:H a=some (.lst xs)):a9 K H a xs:=.inl (.inl h)
theorem a0.of (h:H a=some (.tup xs)):a0 K H a xs:=.inl (.inl h)
theorem Inv.list (I:Inv X pins σ H s) (h:a9 X.K H a xs) : ∃ its:List Value,Vals xs its/\PlainL s.heap a its.toArray/\xs.length<=sizeLine:=by
 rcases h with h | ⟨o,its,n,aG,ak,hd,aB,a6,r⟩
 ·obtain ⟨z,its,n,r,e⟩:=h.ok I.a7;exact #[its,r,#[_,n,e,rfl,rfl,rfl],z]
 ·refine #[its.toList,r,#[o,n,I.eb a o aG,ak,hd,by simpa using aB],?_];have e:=r.length;simp only [jv] at e;omega
theorem Inv.tuple (I:Inv X pins σ H s) (h:a0 X.K H a xs) : ∃ its:List Value,Vals xs its/\IsTup s.heap a its.toArray/\xs.length<=sizeLine:=by
 rcases h with h | ⟨o,its,n,aG,ak,aB,a6,r⟩
 ·obtain ⟨z,its,r,p⟩:=h.ok I.a7;exact #[its,r,p.up,z]
 ·refine #[its.toList,r,#[o,I.eb a o aG,ak,n,by simpa using aB],?_];have e:=r.length;simp only [jv] at e;omega
theorem Inv.RF (I:Inv X pins σ H s) (h:a9 X.K H a xs) (h':a9 X.K H a ys):xs=ys:=by
 obtain ⟨its,r,⟨o,n,e,_,_,d⟩,_⟩:=I.list h;obtain ⟨its',bP,⟨ey,b1,c2,_,_,d'⟩,_⟩:=I.list h';rw [e] at c2;cases c2;rw [d] at d';injection d' with fZ _;have:its=its':=by simpa using nC Array.toList fZ
 subst this;exact r.inj bP
theorem Inv.Av (I:Inv X pins σ H s) (h:a0 X.K H a xs) (h':a0 X.K H a ys):xs=ys:=by
 obtain ⟨its,r,⟨o,e,_,n,d⟩,_⟩:=I.tuple h;obtain ⟨its',bP,⟨ey,c2,_,b1,d'⟩,_⟩:=I.tuple h';rw [e] at c2;cases c2;rw [d] at d';injection d' with fZ _;have:its=its':=by simpa using nC Array.toList fZ
 subst this;exact r.inj bP
end
noncomputable abbrev aP.pB (X:aP) (E:b2):aP:={ X with c3:=E }
noncomputable abbrev aP.za (X:aP):aP:=X.pB λ _ _=>False
theorem aP.Ok.pB {X:aP} (ok:X.Ok) (E:b2):(X.pB E).Ok :=
 #[ok.mod,ok.kind,ok.glob,ok.blt,ok.above,ok.inj,ok.has,ok.o8,ok.hd,ok.frames,ok.qJ,ok.qn,ok.bs,ok.jh,ok.oq,ok.qO,ok.iQ,ok.lF]
theorem aP.Ok.sN {X:aP} {E:b2} (ok:(X.pB E).Ok):X.Ok :=
 #[ok.mod,ok.kind,ok.glob,ok.blt,ok.above,ok.inj,ok.has,ok.o8,ok.hd,ok.frames,ok.qJ,ok.qn,ok.bs,ok.jh,ok.oq,ok.qO,ok.iQ,ok.lF]
section
variable {X:aP} {σ:St} {H:az} {E:b2}
theorem Inv.pB (I:Inv X pins σ H s) (E:b2):Inv (X.pB E) pins σ H s:=#[I.ok.pB E,I.os,I.bare,I.base,I.loc,I.cell,I.free,I.ia,I.pin,I.a7,I.len]
theorem Inv.sN (I:Inv (X.pB E) pins σ H s):Inv X pins σ H s:=#[I.ok.sN,I.os,I.bare,I.base,I.loc,I.cell,I.free,I.ia,I.pin,I.a7,I.len]
theorem lu.sN {D:Ends} {f:Flow} {s':Shared} (h:lu (X.pB E) pins D f s'):lu X pins D f s':=by
 cases f with
 | next=>obtain ⟨σ',H',I,q⟩:=h;exact #[σ',H',I.sN,q]
 | brk=>obtain ⟨σ',H',I,q⟩:=h;exact #[σ',H',I.sN,q]
 | cont=>obtain ⟨σ',H',I,q⟩:=h;exact #[σ',H',I.sN,q]
 | ret u=>obtain ⟨v,σ',H',I,r,q⟩:=h;exact #[v,σ',H',I.sN,r,q]
theorem lD.za {st:List Stmt} {t:de} (h:lD X.za st t):lD X st t:=λ pins s σ H D I hw =>
 hb (h pins s σ H D (I.pB _) hw) (λ _ _ q=>q.sN) λ _ _ z=>False.elim z
end
section
variable {X:aP} {st:Stmt} {rest:List Stmt} {t u:de} {e:Expr} {bp:TE} {pos:Pos}
noncomputable def P_:de:=λ D σ H=>D.bu σ H
noncomputable def iS (t u:de):de:=λ D σ H=>t { D with bu:=u D } σ H
theorem ac8:lD X [] P_:=λ _ _ σ H _ I h=>z4 #[σ,H,I,h]
theorem ae1 (ah:kz X st t) (ai:lD X rest u):lD X (st::rest) (iS t u):=by
 intro pins s σ H D I h;refine wpAny_execs_cons (bq (ah pins s σ H { D with bu:=u D } I h) λ f s1 q=>?_);cases f with
 | next =>
  obtain ⟨σ',H',j2,q⟩:=q;exact ai pins s1 σ' H' D j2 q
 | ret v=>exact q
 | brk=>exact q
 | cont=>exact q
theorem ac9 (ah:kz X st t):lD X [st] t:=by
 intro pins s σ H D I h;refine wpAny_execs_cons (bq (ah pins s σ H D I h) λ f s1 q=>?_);cases f with
 | next=>exact z4 q
 | ret v=>exact q
 | brk=>exact q
 | cont=>exact q
theorem Inv.quiet {σ:St} {H:az} (I:Inv X pins σ H s):interactive X.env=false:=by simp [interactive,I.ok.kind]
noncomputable def P7 (bp:TE):de:=λ D σ H=>bp σ H λ _ H1=>D.bu σ H1
theorem ac6 (he:cn X e bp) (aB:swapsWith e none pos.line X.env=pure false:=by rfl):kz X (.Expr e pos) (P7 bp):=by
 intro pins s σ H D I h;exact wpAny_Expr_any (bq (he pins s σ H _ I h) λ v s1 ⟨x,H1,aK,bJ,bb⟩=>#[σ,H1,aK,bb]) I.quiet aB
noncomputable def PG (bp:TE):de:=λ D σ H=>bp σ H D.kG
theorem ab2 (he:cn X e bp):kz X (.Return (some e) pos) (PG bp):=by
 intro pins s σ H D I h;exact wpAny_Return_some (bq (he pins s σ H _ I h) λ v s1 ⟨x,H1,aK,bJ,bb⟩=>#[x,σ,H1,aK,bJ,bb])
noncomputable def PC (c:TT) (t u:de):de:=λ D σ H=>c σ H λ b H1=>if b=true then t D σ H1 else u D σ H1
theorem aa1 {c:Expr} {a b:List Stmt} {c7:TT} (ak:l6 X c c7) (ay:lD X a t) (ae:lD X b u):kz X (.If c a b pos) (PC c7 t u):=by
 intro pins s σ H D I h;refine wpAny_If (bq (ak pins s σ H _ I h) ?_);rintro d s1 ⟨H1,aK,bb⟩;cases d with
 | true=>exact ay pins s1 σ H1 D aK bb
 | false=>exact ae pins s1 σ H1 D aK bb
noncomputable def Qw:de:=λ _ _ _=>False
theorem aeY:kz X st Qw:=λ _ _ _ _ _ _ h=>h.elim
end
noncomputable abbrev iH:=V->St->az->(St->az->Prop)->Prop
noncomputable abbrev mn:=List V->St->az->(St->az->Prop)->Prop
noncomputable def nQ (X:aP) (target:Expr) (t:iH):Prop :=
 ∀ (pins:d5) (s:Shared) (σ:St) (H:az) (v:V) (u:Value) (Q:St->az->Prop),Inv X pins σ H s->RelV v u->t v σ H Q ->
  wpAny (model X.prog X.w) X.A (assign target X.env u) (λ _ s' => ∃ σ' H',Inv X pins σ' H' s'/\Q σ' H') X.c3 s
noncomputable def x9 (X:aP) (ts:List Expr) (t:mn):Prop :=
 ∀ (pins:d5) (s:Shared) (σ:St) (H:az) (vs:List V) (us:List Value) (Q:St->az->Prop),Inv X pins σ H s->Vals vs us->t vs σ H Q ->
  wpAny (model X.prog X.w) X.A (assignInOrder ((assignEach ts X.env).map (·.2)) us) (λ _ s' => ∃ σ' H',Inv X pins σ' H' s'/\Q σ' H') X.c3 s
noncomputable abbrev wh:=V->V->V->az->(az->Prop)->Prop
noncomputable def Cq (X:aP) (t:wh):Prop :=
 ∀ (pins:d5) (s:Shared) (σ:St) (H:az) (o i v:V) (df ed u:Value) (Q:az->Prop),Inv X pins σ H s->RelV o df->RelV i ed->RelV v u->t o i v H Q ->
  wpAny (model X.prog X.w) X.A (setItem df ed u) (λ _ s' => ∃ H',Inv X pins σ H' s'/\Q H') X.c3 s
noncomputable abbrev Bn:=V->V->az->bG->Prop
noncomputable def MR (X:aP) (op:Operator) (t:Bn):Prop :=
 ∀ (pins:d5) (s:Shared) (σ:St) (H:az) (x y:V) (v u:Value) (Q:bG),Inv X pins σ H s->RelV x v->RelV y u->t x y H Q ->
  wpAny (model X.prog X.w) X.A (inplaceOp op v u) (hA X pins σ Q) X.c3 s
section
variable {X:aP} {pos:Pos}
noncomputable def gx (i:Nat):iH:=λ v σ H Q=>Q (σ.set i (some v)) H
theorem acY {i:Nat} {x:Str} (dx:X.N.Nodup) (ax:X.N[i]?=some x) (aj:Loc X.env.scope x) (hf:X.fn x=true\/X.env.scope.names.lookup x=some .local:=by first | exact .inl rfl | exact .inr rfl | assumption):nQ X (.Name x pos) (gx i):=by
 intro pins s σ H v u Q I r h;exact wpAny_assign_Name (DW I dx ax aj r (λ s' j2=>#[_,H,j2,h]) hf)
noncomputable def zy:mn:=λ vs σ H Q=>vs=[]/\Q σ H
noncomputable def su (t:iH) (u:mn):mn:=λ vs σ H Q => ∃ v r,vs=v::r/\t v σ H λ σ' H'=>u r σ' H' Q
theorem acZ:x9 X [] zy:=by
 intro pins s σ H vs us Q I r h;obtain ⟨e,h⟩:=h;subst e;cases r;exact assignInOrder_nil #[σ,H,I,h]
theorem aeV {e:Expr} {ar:List Expr} {t:iH} {u:mn} (ah:nQ X e t) (ai:x9 X ar u)
  (aB:(assignEach (e::ar) X.env).map (·.2)=assign e X.env::(assignEach ar X.env).map (·.2):=by rfl):x9 X (e::ar) (su t u):=by
 intro pins s σ H vs us Q I r h;obtain ⟨v,aky,aM,h⟩:=h;subst aM;cases r with
 | cons r tG =>
  rw [aB];refine assignInOrder_cons (bq (ah pins s σ H _ _ _ I r h) ?_);rintro _ s1 ⟨σ1,H1,aK,bb⟩;exact ai pins s1 σ1 H1 _ _ Q aK tG bb
noncomputable def wi (K:cD) (n:Nat) (t:mn):iH:=λ v σ H Q => ∃ a xs,v=.ref a/\a0 K H a xs/\xs.length=n/\t xs σ H Q
theorem abU {ar:List Expr} {k:Nat} {t:mn} (ak:X.warm=true) (h:x9 X ar t)
  (aF:(assignEach ar X.env).length=n:=by rfl) (c4:(assignEach ar X.env).findIdx? (·.1)=none:=by rfl):nQ X (.Tuple ar k pos) (wi X.K n t):=by
 intro pins s σ H v u Q I r hw;obtain ⟨a,xs,aM,aZ,av,hw⟩:=hw;subst aM;cases r;obtain ⟨its,cx,aU,a6⟩:=I.tuple aZ;refine gE.afi (I.kP ak) aU (by simp [aF,<-av,cx.length]) c4 λ h' aj=>?_
 have aK:Inv X pins σ H { s with heap:=h' }:=I.kept (t':=s.toks) λ b o e=>aj b o (d3 (cu e)) e
 exact h pins _ σ H xs _ Q aK (by simpa using cx) hw
noncomputable def OW (to hU:TE) (t:wh):iH:=λ v σ H Q=>to σ H λ o H1=>hU σ H1 λ i au=>t o i v au λ aW=>Q σ aW
theorem abT {o i:Expr} {to hU:TE} {t:wh} (aJ:cn X o to) (ax:cn X i hU) (aB:Cq X t)
  (ay : ∀ v,assign (.Subscript o i pos) X.env v=(do
   let df ← holding [v] (eval o X.env)
   let ed ← holding [v,df] (eval i X.env)
   standAt pos
   holding [v,df,ed] (setItem df ed v)
   release [v,df,ed] []):=by intro _;rfl):nQ X (.Subscript o i pos) (OW to hU t):=by
 intro pins s σ H v u Q I r h;rw [ay];refine aC (hY (bq (aJ pins s σ H _ I h) ?_));rintro df s1 ⟨x,H1,aK,bJ,bb⟩;refine aC (hY (bq (ax pins s1 σ H1 _ aK bb) ?_));rintro ed s2 ⟨y,au,cm,b8,cg⟩;refine aC (nB (aC (hY (bq (aB pins s2 σ au x y v df ed u _ cm bJ b8 r cg) ?_))));rintro _ s3 ⟨aW,cv,eQ⟩;exact wpAny_release #[σ,aW,cv,eQ]
noncomputable def lQ (bp:TE) (g:iH):de:=λ D σ H=>bp σ H λ x H1=>g x σ H1 D.bu
theorem abZ {bk e:Expr} {bp:TE} {g:iH} (he:cn X e bp) (aS:nQ X bk g) (aB:swapsWithSole [bk] e pos.line X.env=pure false:=by rfl) (hw:swappedStores [bk] e X.env=pure none:=by rfl)
  (ah:(assignEach [bk] X.env).map (·.2)=[assign bk X.env]:=by rfl):kz X (.Assign [bk] e pos) (lQ bp g):=by
 intro pins s σ H D I h;refine wpAny_Assign_stores (bq (he pins s σ H _ I h) ?_) aB hw;rintro v s1 ⟨x,H1,aK,bJ,bb⟩;rw [ah];exact bq (aS pins s1 σ H1 x v _ aK bJ bb) λ _ s2 q=>q
theorem ab3 {i:Nat} {x:Str} {e:Expr} {bp:TE} (dx:X.N.Nodup) (ax:X.N[i]?=some x) (aj:Loc X.env.scope x) (he:cn X e bp) (aB:swapsWith e (some (.Name x pos')) pos.line X.env=pure false:=by rfl) (hf:X.fn x=true\/X.env.scope.names.lookup x=some .local:=by first | exact .inl rfl | exact .inr rfl | assumption) :
  kz X (.Assign [.Name x pos'] e pos) (lQ bp (gx i)):=by
 intro pins s σ H D I h;refine wpAny_Assign_Name (bq (he pins s σ H _ I h) ?_) aB;rintro v s1 ⟨y,H1,aK,bJ,bb⟩;exact DW aK dx ax aj bJ (λ s2 cm=>#[_,H1,cm,bb]) hf
noncomputable def P5 (to hU bp:TE) (CI:V->V->az->bG->Prop) (Cg:Bn) (CL:wh):de:=λ D σ H=>to σ H λ o H1=>hU σ H1 λ i au=>CI o i au λ x aW=>bp σ aW λ y bc=>Cg x y bc λ z bW=>CL o i z bW λ dO=>D.bu σ dO
noncomputable def OQ (X:aP) (t:V->V->az->bG->Prop):Prop :=
 ∀ (pins:d5) (s:Shared) (σ:St) (H:az) (o i:V) (df ed:Value) (Q:bG),Inv X pins σ H s->RelV o df->RelV i ed->t o i H Q ->
  wpAny (model X.prog X.w) X.A (getItem df ed) (hA X pins σ Q) X.c3 s
theorem ac5 {o i e:Expr} {to hU bp:TE} {CI:V->V->az->bG->Prop} {Cg:Bn} {CL:wh} {op:Operator} {CK:Pos} (aJ:cn X o to) (ax:cn X i hU) (aS:OQ X CI) (he:cn X e bp) (aw:MR X op Cg) (aB:Cq X CL)
  (ay : ∀ df ed new,augStore i df ed new=(do holding [new,df,ed] (setItem df ed new);release [new,df,ed] [];pure .next):=by intros;rfl):kz X (.AugAssign (.Subscript o i CK) op e pos) (P5 to hU bp CI Cg CL):=by
 intro pins s σ H D I h;refine wpAny_AugAssign_SubscriptAny (bq (aJ pins s σ H _ I h) ?_) ay;rintro df s1 ⟨gs,H1,aK,bJ,bb⟩;refine bq (ax pins s1 σ H1 _ aK bb) ?_;rintro ed s2 ⟨hn,au,cm,b8,cg⟩
 refine bq (aS pins s2 σ au gs hn df ed _ cm bJ b8 cg) ?_;rintro old s3 ⟨Fm,aW,cv,hj,eQ⟩
 refine bq (he pins s3 σ aW _ cv eQ) ?_;rintro v s4 ⟨Fn,bc,eM,j8,lC⟩
 refine bq (aw pins s4 σ bc Fm Fn old v _ eM hj j8 lC) ?_;rintro new s5 ⟨Bi,bW,l4,o5,tE⟩
 exact bq (aB pins s5 σ bW gs hn Bi df ed new _ l4 bJ b8 o5 tE) λ _ b_ ⟨dO,gm,vv⟩=>#[σ,dO,gm,vv]
noncomputable def NI (f:Int->Int->Int):Bn:=λ x y H Q => ∃ i j,x=.int i/\y=.int j/\Q (.int (f i j)) H
theorem abr:MR X .Add (NI λ i j=>i+j):=by
 intro pins s σ H x y v u Q I bJ b8 h;obtain ⟨i,j,aM,aO,q⟩:=h;subst aM;subst aO;obtain ⟨t,rfl⟩:=bJ;obtain ⟨t',rfl⟩:=b8;exact iadd_int #[.int _,H,I.tok _,#[_,rfl],q]
noncomputable def Iv (c:TT) (bz:de):de:=λ D σ H => ∃ W:Nat->St->az->Prop,(∃ m,W m σ H) /\ ∀ m σ H,W m σ H ->
 c σ H λ b H1=>if b=true then ∃ N:St->az->Prop,(∀ σ' H',N σ' H' -> ∃ cP,cP<m/\W cP σ' H')/\bz { D with bu:=N,cK:=N,aQ:=D.bu } σ H1 else D.bu σ H1
theorem ae0 {c:Expr} {c7:TT} {bz:de} (aw:PassesOwn (model X.prog X.w) X.A X.env X.c3) (ak:l6 X c c7) (ae:lD X body bz):kz X (.While c body [] pos) (Iv c7 bz):=by
 intro pins s σ H D I h;obtain ⟨W,⟨m0,gH⟩,turn⟩:=h;refine wpAny_While (codeAny_whileLoop (λ n s' => ∃ σ' H',Inv X pins σ' H' s'/\W n σ' H') ?_ m0 #[σ,H,I,gH]);rintro n s1 ⟨σ1,H1,aK,iK⟩;refine uD aw (bq (ak pins s1 σ1 H1 _ aK (turn n σ1 H1 iK)) ?_);rintro b s2 ⟨au,cm,cg⟩;cases b with
 | true =>
  obtain ⟨N,dx,cg⟩:=cg;rw [if_pos rfl];refine uD aw (bq (ae pins s2 σ1 au _ cm cg) λ f s3 eQ=>?_);cases f with
  | next =>
   obtain ⟨σ3,aW,cv,g5⟩:=eQ;obtain ⟨cP,hm,m8⟩:=dx σ3 aW g5;exact #[cP,hm,σ3,aW,cv,m8]
  | cont =>
   obtain ⟨σ3,aW,cv,g5⟩:=eQ;obtain ⟨cP,hm,m8⟩:=dx σ3 aW g5;exact #[cP,hm,σ3,aW,cv,m8]
  | brk=>exact eQ
  | ret v=>exact eQ
 | false =>
  rw [if_neg g9];exact z4 #[σ1,au,cm,cg]
end
structure h2 where
 go:Nat->az->Prop
 jl:Nat->az->V->az->Prop
 stop:Nat->az->Prop
noncomputable def om (X:aP) (pins:d5) (H:az) (b:Addr):Prop :=
 H b=none/\b≠X.env.locals/\b∉X.fs/\(b∈X.ex\/X.s₀.heap.objs.size<=b)/\(∀ x c,X.env.cells.lookup x=some c->c≠b) /\ ∀ p∈X.j7++pins,p.1≠b
theorem Inv.qP {X:aP} {σ:St} {H H':az} {b:Addr} (I:Inv X pins σ H s) (ae:s.heap.objs.size<=b) (aF:H' b=none):om X pins H' b:=by
 refine #[aF,jw (gQ I.lt ae),I.aab ae,.inr (fl I.nY ae),λ x c e z=>?_,λ p aw z=>?_]
 ·obtain ⟨v,q⟩:=I.cell x c e;exact absurd (gQ q.lt (by rw [z];exact ae)) (iX _)
 ·exact absurd (gQ (cu (I.pin p aw).1) (by rw [z];exact ae)) (iX _)
structure Turn (P:Program) (w:World) (K:cD) (c:Bool) (bk:Expr) (J:h2) (a_:List Addr) (it:Addr) (hk:Nat->Heap->Prop):Prop where
 mem:it∈a_
 obj : ∀ i h,hk i h -> ∀ b∈a_,∃ o,h.get? b=some o /\ ∀ v,o.data≠.cell v
 keep : ∀ i h h',hk i h->(∀ b∈a_,∀ o,h.get? b=some o->h'.get? b=some o)->hk i h'
 item : ∀ (X:aP),X.prog=P->X.w=w->X.K=K->X.calm=c->X.warm=true -> ∀ (i:Nat) (pins:d5) (s:Shared) (σ:St) (H:az) (E:b2),Inv X pins σ H s->(∀ b∈a_,om X pins H b)->hk i s.heap->J.go i H ->
  wpAny (model P w) X.A (pyNext (.ref it)) (λ r s1 => ∃ u,r=some u /\
   wpAny (model P w) X.A (letOwnedTupleGo bk (.ref it) u) (λ _ s2 => ∃ x H',Inv X pins σ H' s2/\RelV x u/\J.jl i H x H'/\hk (i+1) s2.heap /\ ∀ b∈a_,H' b=none) E s1) E s
 done : ∀ (X:aP),X.prog=P->X.w=w->X.K=K->X.calm=c->X.warm=true -> ∀ (i:Nat) (pins:d5) (s:Shared) (σ:St) (H:az) (E:b2),Inv X pins σ H s->(∀ b∈a_,om X pins H b)->hk i s.heap->J.stop i H ->
  wpAny (model P w) X.A (pyNext (.ref it)) (λ r s1=>r=none/\Inv X pins σ H s1) E s
 self : ∀ (A:Around) (i:Nat) (s:Shared) (Q:b2) (E:b2),hk i s.heap->Q (.ref it) s->wpAny (model P w) A (pyIter (.ref it)) Q E s
noncomputable abbrev TI:=St->az->(h2->az->Prop)->Prop
noncomputable def Bl (X:aP) (pins:d5) (σ:St) (bk:Expr) (R:h2->az->Prop) (BY:Value) (s2:Shared):Prop :=
 ∃ (it:Addr) (a_:List Addr) (hk:Nat->Heap->Prop) (J:h2) (H':az),BY=.ref it/\Inv X pins σ H' s2/\Turn X.prog X.w X.K X.calm bk J a_ it hk/\hk 0 s2.heap/\(∀ b∈a_,om X pins H' b)/\R J H'
noncomputable def lq (X:aP) (bk iter:Expr) (gr:TI):Prop :=
 ∀ (pins:d5) (s:Shared) (σ:St) (H:az) (R:h2->az->Prop),Inv X pins σ H s->gr σ H R ->
  wpAny (model X.prog X.w) X.A (eval iter X.env) (λ v s1=>wpAny (model X.prog X.w) X.A (pyIter v) (Bl X pins σ bk R) X.c3 s1) X.c3 s
theorem zP {M:Model} {E:b2} {bk:Expr} {u:Value} {o:Obj} {n:String} {Q:Unit->Shared->Prop} (aJ:s.heap.get? it=some o) (ak:o.cls=.type n) (hd:o.data=.fields vs)
  (aF:["enumerate", "zip", "dict_itemiterator", "dict_reverseitemiterator", "odict_iterator", "itertools.zip_longest", "itertools.pairwise"].contains n=false) (g4:Q () s):wpAny M A (letOwnedTupleGo bk (.ref it) u) Q E s:=by
 unfold letOwnedTupleGo;cases bk<;>first
  | exact bH g4
  | (cases u<;>first
    | exact bH g4
    | (refine aC (zK aJ ?_)
       rw [ak,hd];show wpAny M A (if (["enumerate", "zip", "dict_itemiterator", "dict_reverseitemiterator", "odict_iterator", "itertools.zip_longest", "itertools.pairwise"].contains n&&vs[0]? == some (rawInt _))=true then _ else _) Q E s;rw [if_neg (by intro h;rw [aF,Bool.false_and] at h;cases h)];exact bH g4))
noncomputable def rX (K:cD) (a:Addr):h2 :=
 #[λ i H => ∃ xs x,a9 K H a xs/\xs[i]?=some x,λ i H x H'=>H'=H /\ ∀ xs,a9 K H a xs->xs[i]?=some x,λ i H => ∃ xs,a9 K H a xs/\xs.length<=i]
noncomputable def rZ (K:cD) (a:Addr):h2 :=
 #[λ i H => ∃ xs x,a0 K H a xs/\xs[i]?=some x,λ i H x H'=>H'=H /\ ∀ xs,a0 K H a xs->xs[i]?=some x,λ i H => ∃ xs,a0 K H a xs/\xs.length<=i]
noncomputable def rY (lo:Int) (n:Nat):h2:=#[λ i _=>i<n,λ i H x H'=>H'=H/\x=.int (lo+i),λ i _=>n<=i]
theorem ag2 {c:Bool} {w:World} {bk:Expr} (a it:Addr):Turn P w K c bk (rX K a) [it] it (λ i h=>h.IsListIter it a i) where
 mem:=by simp
 obj:=λ i h st b ae=>by
  have e:b=it:=by simpa using ae
  subst e;obtain ⟨o,e,c,d⟩:=st;exact #[o,e,λ v z=>by rw [d] at z;cases z]
 keep:=λ i h h' st k=>st.at λ o e=>k it .zs o e
 item:=by
  intro X dY hw eW aG ak i pins s σ H E I hf st aS;subst dY hw eW;obtain ⟨xs,x,aZ,aj⟩:=aS;obtain ⟨its,cx,p,a6⟩:=I.list aZ;obtain ⟨u,br,fp⟩:=cx.get aj;obtain ⟨f0,f1,f2,di,f4,fi⟩:=hf it .zs;refine wpAny_pyNext_list_item st p.isList (x:=u) (by simpa using br) λ h' eI d4=>?_
  have aK:Inv X pins σ H { s with heap:=h' }:=I.turned (t':=s.toks) (λ b o ae e=>(d4.2 b ae).trans e) f0 f1 di f4 fi;obtain ⟨o,e,c,d⟩:=id eI;exact #[u,rfl,zP (s:={ s with heap:=h' }) e c d .aA #[x,H,aK,fp,#[rfl,λ ys aT=>by rw [I.RF aT aZ];exact aj],eI,λ b ae=>(hf b ae).1]]
 done:=by
  intro X dY hw eW aG ak i pins s σ H E I hf st aS;subst dY hw eW;obtain ⟨xs,aZ,aj⟩:=aS;obtain ⟨its,cx,p,a6⟩:=I.list aZ;obtain ⟨f0,f1,f2,di,f4,fi⟩:=hf it .zs;have av:=cx.length;exact gE.RE (I.kP ak) st p.isList (by simp;omega) λ h' eV=>#[rfl,I.turned (t':=s.toks) (λ b o ae e=>eV b o ae e) f0 f1 di f4 fi]
 self:=λ _ _ _ _ _ st h=>wpAny_pyIter_listiter st h
theorem ah8 {c:Bool} {w:World} {bk:Expr} (a it:Addr):Turn P w K c bk (rZ K a) [it] it (λ i h=>h.IsTupleIter it a i) where
 mem:=by simp
 obj:=λ i h st b ae=>by
  have e:b=it:=by simpa using ae
  subst e;obtain ⟨o,e,c,d⟩:=st;exact #[o,e,λ v z=>by rw [d] at z;cases z]
 keep:=λ i h h' st k=>st.at λ o e=>k it .zs o e
 item:=by
  intro X dY hw eW aG ak i pins s σ H E I hf st aS;subst dY hw eW;obtain ⟨xs,x,aZ,aj⟩:=aS;obtain ⟨its,cx,p,a6⟩:=I.tuple aZ;obtain ⟨u,br,fp⟩:=cx.get aj;obtain ⟨f0,f1,f2,di,f4,fi⟩:=hf it .zs;refine wpAny_pyNext_tuple_item st (show s.heap.IsTuple a its.toArray from p) (x:=u) (by simpa using br) λ h' eI d4=>?_
  have aK:Inv X pins σ H { s with heap:=h' }:=I.turned (t':=s.toks) (λ b o ae e=>(d4.2 b ae).trans e) f0 f1 di f4 fi;obtain ⟨o,e,c,d⟩:=id eI;exact #[u,rfl,zP (s:={ s with heap:=h' }) e c d .aA #[x,H,aK,fp,#[rfl,λ ys aT=>by rw [I.Av aT aZ];exact aj],eI,λ b ae=>(hf b ae).1]]
 done:=by
  intro X dY hw eW aG ak i pins s σ H E I hf st aS;subst dY hw eW;obtain ⟨xs,aZ,aj⟩:=aS;obtain ⟨its,cx,p,a6⟩:=I.tuple aZ;obtain ⟨f0,f1,f2,di,f4,fi⟩:=hf it .zs;have av:=cx.length;exact gE.I8 (I.kP ak) st (show s.heap.IsTuple a its.toArray from p) (by simp;omega) λ h' eV=>#[rfl,I.turned (t':=s.toks) (λ b o ae e=>eV b o ae e) f0 f1 di f4 fi]
 self:=λ _ _ _ _ _ st h=>wpAny_pyIter_tupleiter st h
theorem ah7 {c:Bool} (eH:c=true) {w:World} {bk:Expr} (it:Addr) (lo:Int) (n:Nat):Turn P w K c bk (rY lo n) [it] it (λ i h=>IsRangeIter h it (lo+(i:Nat) * 1) ((n:Int) - (i:Nat)) 1) where
 mem:=by simp
 obj:=λ i h st b ae=>by
  have e:b=it:=by simpa using ae
  subst e;exact #[_,st,λ v z=>by
   have eh:Data.fields _=Data.cell v:=z;cases eh]
 keep:=λ i h h' st k=>k it .zs _ st
 item:=by
  intro X dY hw eW aG ak i pins s σ H E I hf st aS;subst dY hw eW;obtain ⟨f0,f1,f2,di,f4,fi⟩:=hf it .zs;have W:=Walks.range (prog:=X.prog) (w:=X.w) (I.ok.hd.1 (aG.trans eH)) it lo 1 n;refine W.item i s _ _ aS st λ v h' bI ba eI dF=>?_
  obtain ⟨t,rfl⟩:=ba;have aK:Inv X pins σ H { s with heap:=h',toks:=bI }:=I.turned (λ b o ae e=>dF b o (by simpa using ae) e) f0 f1 di f4 fi;refine #[_,rfl,zP (s:={ s with heap:=h',toks:=bI }) (n := "range_iterator") eI rfl rfl .aA #[.int (lo+i),H,aK,#[t,?_],#[rfl,rfl],eI,λ b ae=>(hf b ae).1]];rw [Int.mul_one]
 done:=by
  intro X dY hw eW aG ak i pins s σ H E I hf st aS;subst dY hw eW;obtain ⟨f0,f1,f2,di,f4,fi⟩:=hf it .zs;exact wpAny_pyNext_range_end (I.ok.hd.1 (aG.trans eH)) st (by have:n<=i:=aS;omega) λ h' eV=>#[rfl,I.turned (t':=s.toks) (λ b o ae e=>eV b o ae e) f0 f1 di f4 fi]
 self:=λ _ _ _ _ _ st h=>wpAny_pyIter_rangeiter st h
section
variable {X:aP} {bk:Expr}
noncomputable def PV (K:cD) (d1:TE):TI:=λ σ H R=>d1 σ H λ x H1 => ∃ a,x=.ref a/\(∃ xs,a9 K H1 a xs)/\R (rX K a) H1
noncomputable def Pe (K:cD) (d1:TE):TI:=λ σ H R=>d1 σ H λ x H1 => ∃ a,x=.ref a/\(∃ xs,a0 K H1 a xs)/\R (rZ K a) H1
theorem ac1 {l:Expr} {d1:TE} (av:cn X l d1):lq X bk l (PV X.K d1):=by
 intro pins s σ H R I h;refine bq (av pins s σ H _ I h) ?_;rintro v s1 ⟨x,H1,aK,bJ,bb⟩
 obtain ⟨a,e,⟨xs,aZ⟩,q⟩:=bb;subst e;cases bJ;obtain ⟨its,cx,p,a6⟩:=aK.list aZ;refine wpAny_pyIter_list p.isList ?_;refine #[s1.heap.objs.size,[s1.heap.objs.size],_,_,H1,rfl,aK.kept (t':=s1.toks) λ b o e=>bK _ e,ag2 a _,#[_,d6 _ rfl,rfl,rfl],λ b ae=>?_,q];have e:b=s1.heap.objs.size:=by simpa using ae
 subst e;exact aK.qP (b9 _) (aK.a7.fresh (b9 _))
theorem abW {l:Expr} {d1:TE} (av:cn X l d1):lq X bk l (Pe X.K d1):=by
 intro pins s σ H R I h;refine bq (av pins s σ H _ I h) ?_;rintro v s1 ⟨x,H1,aK,bJ,bb⟩
 obtain ⟨a,e,⟨xs,aZ⟩,q⟩:=bb;subst e;cases bJ;obtain ⟨its,cx,p,a6⟩:=aK.tuple aZ;refine uy (show s1.heap.IsTuple a its.toArray from p) ?_;refine #[s1.heap.objs.size,[s1.heap.objs.size],_,_,H1,rfl,aK.kept (t':=s1.toks) λ b o e=>bK _ e,ah8 a _,#[_,d6 _ rfl,rfl,rfl],λ b ae=>?_,q];have e:b=s1.heap.objs.size:=by simpa using ae
 subst e;exact aK.qP (b9 _) (aK.a7.fresh (b9 _))
theorem RO (eH:X.calm=true) {σ:St} {H:az} {R:h2->az->Prop} {E:b2} {lo ax:Int} {t u v:Tok} {bI:Nat} (I:Inv X pins σ H s) (ah : -(2 ^ 62)<=lo) (ai:lo<2 ^ 62) (aH : -(2 ^ 62)<=ax) (a4:ax<2 ^ 62)
  (q:R (rY lo (ax - lo).toNat) H):wpAny (model X.prog X.w) X.A (pyIter (.ref s.heap.objs.size)) (Bl X pins σ bk R) E { s with heap:=s.heap.push { cls:=.type "range", data:=.fields [.int lo t,.int ax u,.int 1 v].toArray },toks:=bI }:=by
 refine wpAny_pyIter_range (IsRange.new ..) (small_one ah ai aH a4) ?_;have aK:Inv X pins σ H { s with heap:=s.heap.push { cls:=.type "range", data:=.fields [.int lo t,.int ax u,.int 1 v].toArray },toks:=bI }:=I.kept λ b o e=>bK _ e
 refine #[(s.heap.push { cls:=.type "range", data:=.fields [.int lo t,.int ax u,.int 1 v].toArray }).objs.size,[(s.heap.push { cls:=.type "range", data:=.fields [.int lo t,.int ax u,.int 1 v].toArray }).objs.size],_,_,H,rfl,
  aK.kept (t':=bI) λ b o e=>bK _ e,ah7 eH _ lo (ax - lo).toNat,?_,λ b ae=>?_,q]
 ·have aM:lo+((0:Nat):Int) * 1=lo:=by simp
  have aO:(((ax - lo).toNat:Nat):Int) - ((0:Nat):Int)=Builtin.Range.rangeSize lo ax 1:=by rw [rangeSize_one];split<;>omega
  show IsRangeIter _ _ (lo+((0:Nat):Int) * 1) ((((ax - lo).toNat:Nat):Int) - ((0:Nat):Int)) 1;rw [aM,aO];exact d6 _ rfl
 ·have e:b=(s.heap.push { cls:=.type "range", data:=.fields [.int lo t,.int ax u,.int 1 v].toArray }).objs.size:=by simpa using ae
  subst e;exact aK.qP (b9 _) (aK.a7.fresh (b9 _))
noncomputable def PW (a3:dc):TI:=λ σ H R=>a3 σ H λ vs H1 => ∃ j:Int,vs=[.int j] /\ -(2 ^ 62)<=j/\j<2 ^ 62/\R (rY 0 j.toNat) H1
noncomputable def PX (a3:dc):TI:=λ σ H R=>a3 σ H λ vs H1 => ∃ i j:Int,vs=[.int i,.int j]/\(-(2 ^ 62)<=i/\i<2 ^ 62 /\ -(2 ^ 62)<=j/\j<2 ^ 62)/\R (rY i (j - i).toNat) H1
theorem agr {a:Expr} {a3:dc} {p pos:Pos} (aS:dW X "range") (hm:X.mg "range" = none) (ay:iF X [a] a3) (aB:starEach [a] X.env=[(false,eval a X.env)]:=by rfl) (eH:X.calm=true:=by rfl):lq X bk (.Call (.Name "range" p) [a] [] pos) (PW a3):=by
 intro pins s σ H R I h;refine Call_ (pJ I aS hm boot_range (uE (bq (ay pos pins s σ H _ I h) ?_) aB rfl));rintro us s1 ⟨vs,H1,aK,bJ,bb⟩;obtain ⟨j,e,bb,cg,q⟩:=bb;subst e;cases bJ with
 | cons r tG =>
  cases tG;obtain ⟨t,rfl⟩:=r;exact call_range_1 (RO eH aK .aD .aD bb cg (by simpa using q))
theorem ags {a b:Expr} {a3:dc} {p pos:Pos} (aS:dW X "range") (hm:X.mg "range" = none) (ay:iF X [a,b] a3) (aB:starEach [a,b] X.env=[(false,eval a X.env),(false,eval b X.env)]:=by rfl) (gd:starEach [b] X.env=[(false,eval b X.env)]:=by rfl) (eH:X.calm=true:=by rfl) :
  lq X bk (.Call (.Name "range" p) [a,b] [] pos) (PX a3):=by
 intro pins s σ H R I h;refine Call_ (pJ I aS hm boot_range (uE (bq (ay pos pins s σ H _ I h) ?_) (by rw [aB,gd]) (by rw [gd];rfl)));rintro us s1 ⟨vs,H1,aK,bJ,bb⟩;obtain ⟨i,j,e,⟨bb,cg,eQ,lC⟩,q⟩:=bb;subst e;cases bJ with
 | cons r tG =>
  cases tG with
  | cons bP tG =>
   cases tG;obtain ⟨t,rfl⟩:=r;obtain ⟨t',rfl⟩:=bP;exact call_range_2 (RO eH aK bb cg eQ lC q)
noncomputable def PB (gr:TI) (g:iH) (bz:de):de:=λ D σ H=>gr σ H λ J H1 => ∃ W:Nat->Nat->St->az->Prop,(∃ m,W 0 m σ H1) /\ ∀ i m σ H,W i m σ H ->
 (J.stop i H/\D.bu σ H)\/(J.go i H /\ ∃ N:St->az->Prop,(∀ σ' H',N σ' H' -> ∃ cP,cP<m/\W (i+1) cP σ' H') /\ ∀ x H',J.jl i H x H'->g x σ H' λ σ2 au=>bz { D with bu:=N,cK:=N,aQ:=D.bu } σ2 au)
noncomputable def wJ (a_:List Addr) (h:Heap):d5:=a_.filterMap λ b=>(h.get? b).map λ o=>(b,o)
theorem xc {h:Heap} {b:Addr} {o:Obj} (ae:b∈a_) (e:h.get? b=some o):(b,o)∈wJ a_ h:=z5.mpr #[b,ae,by rw [e];rfl]
theorem agm {h:Heap} {p:Addr×Obj} (aw:p∈wJ a_ h):p.1∈a_/\h.get? p.1=some p.2:=by
 obtain ⟨b,ae,e⟩:=z5.mp aw;cases q:h.get? b with
 | none=>rw [q] at e;cases e
 | some o =>
  rw [q] at e;have c2:(b,o)=p:=gR e;subst c2;exact #[ae,q]
theorem Inv.pinned {σ:St} {H:az} (I:Inv X pins σ H s) (hf : ∀ b∈a_,om X pins H b) (aJ : ∀ b∈a_,∃ o,s.heap.get? b=some o /\ ∀ v,o.data≠.cell v):Inv X (pins++wJ a_ s.heap) σ H s :=
 I.Q5 λ p aw=>(oB.mp aw).elim (λ z=>I.pin p (jx _ z)) λ z=>by
  obtain ⟨ae,e⟩:=agm z;obtain ⟨f0,f1,f2,_⟩:=hf p.1 ae;obtain ⟨o,c2,d⟩:=aJ p.1 ae;rw [e] at c2;cases c2;exact #[e,f0,f1,f2,d]
theorem Inv.Ap {pl:d5} {σ:St} {H:az} (I:Inv X (pins++pl) σ H s):Inv X pins σ H s:=I.Q5 λ p aw=>I.pin p (jx _ (uC _ aw))
theorem ab1 {gr:TI} {g:iH} {bz:de} {pos:Pos} (aw:PassesOwn (model X.prog X.w) X.A X.env X.c3) (ak:X.warm=true) (ax:lq X bk iter gr) (aS:nQ X bk g) (ae:lD X body bz)
  (aB : ∀ x,foldedSetIterable iter X.env x=pure x:=by intro _;rfl):kz X (.For bk iter body [] pos) (PB gr g bz):=by
 intro pins s σ H D I h;refine wpAny_For (bq (ax pins s σ H _ I h) λ v s1 ah=>bq ah λ BY s2 ai=>?_) aB;obtain ⟨it,a_,hk,J,au,e,cm,T,qH,f2,W,⟨m0,gH⟩,turn⟩:=ai;subst e;have stat : ∀ {H':az},(∀ b∈a_,H' b=none) -> ∀ b∈a_,om X pins H' b:=λ aF b ae=>#[aF b ae,(f2 b ae).2]
 refine codeAny_forLoop_any (λ n s' => ∃ i σ' H',Inv X pins σ' H' s'/\hk i s'.heap/\(∀ b∈a_,H' b=none)/\W i n σ' H') ?_ m0 #[0,σ,au,cm,qH,λ b ae=>(f2 b ae).1,gH];rintro n s3 ⟨i,σ3,aW,cv,OB,M4,m8⟩;rcases turn i n σ3 aW m8 with ⟨stop,rS⟩ | ⟨go,N,dx,step⟩
 ·refine uD aw (bq (T.done X rfl rfl rfl rfl ak i pins s3 σ3 aW X.c3 cv (stat M4) OB stop) ?_);rintro r s4 ⟨aq,eM⟩;subst aq;exact z4 #[σ3,aW,eM,rS]
 ·refine uD aw (bq (T.item X rfl rfl rfl rfl ak i pins s3 σ3 aW X.c3 cv (stat M4) OB go) ?_);rintro r s4 ⟨u,aq,a4⟩;subst aq;refine uD aw (bq a4 ?_);rintro _ s5 ⟨x,bW,l4,o5,VN,qI,tN⟩;have VS:=l4.pinned (stat tN) (T.obj _ _ qI);refine uD aw (bq (aS _ s5 σ3 bW x u _ VS o5 (step x bW VN)) ?_);rintro _ b_ ⟨σ6,dO,gm,vv⟩;refine uD aw (bq (ae _ b_ σ6 dO _ gm vv) λ f cL rR=>?_);have again : ∀ {σ7:St} {dv:az},Inv X (pins++wJ a_ s5.heap) σ7 dv cL->N σ7 dv -> ∃ m,m<n /\ ∃ i σ' H',Inv X pins σ' H' cL/\hk i cL.heap/\(∀ b∈a_,H' b=none)/\W i m σ' H':=λ {σ7 dv} jD ja=>by
   obtain ⟨cP,hm,vD⟩:=dx σ7 dv ja;refine #[cP,hm,i+1,σ7,dv,jD.Ap,T.keep _ _ _ qI λ b ae o e=>(jD.pin (b,o) (jx _ (jx _ (xc ae e)))).1,λ b ae=>?_,vD];obtain ⟨o,e,d⟩:=T.obj _ _ qI b ae;exact (jD.pin (b,o) (jx _ (jx _ (xc ae e)))).2.1
  cases f with
  | next=>obtain ⟨σ7,dv,jD,ja⟩:=rR;exact again jD ja
  | cont=>obtain ⟨σ7,dv,jD,ja⟩:=rR;exact again jD ja
  | brk=>obtain ⟨σ7,dv,jD,rR⟩:=rR;exact #[σ7,dv,jD.Ap,rR]
  | ret v=>obtain ⟨VJ,σ7,dv,jD,rT,rR⟩:=rR;exact #[VJ,σ7,dv,jD.Ap,rT,rR]
end
theorem RA {a:Addr} {xs:List V} {g:iH} {bz:de} {D:Ends} {σ:St} {H:az} (Pv:Nat->St->az->Prop) (h0:Pv 0 σ H) (av : ∀ i σ H,i<=xs.length->Pv i σ H->a9 K H a xs)
  (aB : ∀ i x σ H,xs[i]?=some x->Pv i σ H->g x σ H λ σ2 au=>bz { D with bu:=Pv (i+1),cK:=Pv (i+1),aQ:=D.bu } σ2 au) (hd : ∀ σ H,Pv xs.length σ H->D.bu σ H) :
  ∃ W:Nat->Nat->St->az->Prop,(∃ m,W 0 m σ H) /\ ∀ i m σ H,W i m σ H ->
   ((rX K a).stop i H/\D.bu σ H)\/((rX K a).go i H /\ ∃ N:St->az->Prop,(∀ σ' H',N σ' H' -> ∃ cP,cP<m/\W (i+1) cP σ' H') /\ ∀ x H',(rX K a).jl i H x H'->g x σ H' λ σ2 au=>bz { D with bu:=N,cK:=N,aQ:=D.bu } σ2 au):=by
 refine #[λ i m σ H=>m=xs.length - i/\i<=xs.length/\Pv i σ H,#[xs.length,.zs,j0 _,h0],?_];rintro i m σ H ⟨rfl,ax,p⟩;have q:=av i σ H ax p;by_cases ea:i<xs.length
 ·refine .inr #[#[xs,xs[i],q,by simp [ea]],Pv (i+1),λ σ' H' iJ=>#[xs.length - (i+1),.aD,rfl,ea,iJ],λ x H' y=>?_];obtain ⟨e,y⟩:=y;subst e;exact aB i x σ _ (y xs q) p
 ·have e:i=xs.length:=by omega
  subst e;exact .inl #[#[xs,q,b9 _],hd σ H p]
theorem DA {a:Addr} {xs:List V} {g:iH} {bz:de} {D:Ends} {σ:St} {H:az} (Pv:Nat->St->az->Prop) (h0:Pv 0 σ H) (av : ∀ i σ H,i<=xs.length->Pv i σ H->a0 K H a xs)
  (aB : ∀ i x σ H,xs[i]?=some x->Pv i σ H->g x σ H λ σ2 au=>bz { D with bu:=Pv (i+1),cK:=Pv (i+1),aQ:=D.bu } σ2 au) (hd : ∀ σ H,Pv xs.length σ H->D.bu σ H) :
  ∃ W:Nat->Nat->St->az->Prop,(∃ m,W 0 m σ H) /\ ∀ i m σ H,W i m σ H ->
   ((rZ K a).stop i H/\D.bu σ H)\/((rZ K a).go i H /\ ∃ N:St->az->Prop,(∀ σ' H',N σ' H' -> ∃ cP,cP<m/\W (i+1) cP σ' H') /\ ∀ x H',(rZ K a).jl i H x H'->g x σ H' λ σ2 au=>bz { D with bu:=N,cK:=N,aQ:=D.bu } σ2 au):=by
 refine #[λ i m σ H=>m=xs.length - i/\i<=xs.length/\Pv i σ H,#[xs.length,.zs,j0 _,h0],?_];rintro i m σ H ⟨rfl,ax,p⟩;have q:=av i σ H ax p;by_cases ea:i<xs.length
 ·refine .inr #[#[xs,xs[i],q,by simp [ea]],Pv (i+1),λ σ' H' iJ=>#[xs.length - (i+1),.aD,rfl,ea,iJ],λ x H' y=>?_];obtain ⟨e,y⟩:=y;subst e;exact aB i x σ _ (y xs q) p
 ·have e:i=xs.length:=by omega
  subst e;exact .inl #[#[xs,q,b9 _],hd σ H p]
theorem oQ {lo:Int} {g:iH} {bz:de} {D:Ends} {σ:St} {H:az} (Pv:Nat->St->az->Prop) (h0:Pv 0 σ H)
  (aB : ∀ i σ H,i<n->Pv i σ H->g (.int (lo+i)) σ H λ σ2 au=>bz { D with bu:=Pv (i+1),cK:=Pv (i+1),aQ:=D.bu } σ2 au) (hd : ∀ σ H,Pv n σ H->D.bu σ H) :
  ∃ W:Nat->Nat->St->az->Prop,(∃ m,W 0 m σ H) /\ ∀ i m σ H,W i m σ H ->
   ((rY lo n).stop i H/\D.bu σ H)\/((rY lo n).go i H /\ ∃ N:St->az->Prop,(∀ σ' H',N σ' H' -> ∃ cP,cP<m/\W (i+1) cP σ' H') /\ ∀ x H',(rY lo n).jl i H x H'->g x σ H' λ σ2 au=>bz { D with bu:=N,cK:=N,aQ:=D.bu } σ2 au):=by
 refine #[λ i m σ H=>m=n - i/\i<=n/\Pv i σ H,#[n,.zs,j0 _,h0],?_];rintro i m σ H ⟨rfl,ax,p⟩;by_cases ea:i<n
 ·refine .inr #[ea,Pv (i+1),λ σ' H' iJ=>#[n - (i+1),.aD,rfl,ea,iJ],λ x H' y=>?_];obtain ⟨e,y⟩:=y;subst e y;exact aB i σ _ ea p
 ·have e:i=n:=by omega
  subst e;exact .inl #[b9 _,hd σ H p]
noncomputable abbrev fy:=V->V->az->bG->Prop
noncomputable def dC (X:aP) (f:Value->Value->Sem Value) (r:fy):Prop :=
 ∀ (pins:d5) (s:Shared) (σ:St) (H:az) (x y:V) (v u:Value) (Q:bG),Inv X pins σ H s->RelV x v->RelV y u->r x y H Q ->
  wpAny (model X.prog X.w) X.A (f v u) (hA X pins σ Q) X.c3 s
noncomputable def Bo (X:aP) (f:Value->Sem Value) (r:V->az->bG->Prop):Prop :=
 ∀ (pins:d5) (s:Shared) (σ:St) (H:az) (x:V) (v:Value) (Q:bG),Inv X pins σ H s->RelV x v->r x H Q ->
  wpAny (model X.prog X.w) X.A (f v) (hA X pins σ Q) X.c3 s
noncomputable def gf (X:aP) (f:Value) (r:List V->az->bG->Prop):Prop :=
 ∀ (pins:d5) (s:Shared) (σ:St) (H:az) (xs:List V) (us:List Value) (Q:bG),Inv X pins σ H s->Vals xs us->r xs H Q ->
  wpAny (model X.prog X.w) X.A (call f us) (hA X pins σ Q) X.c3 s
noncomputable def g8 (r:fy) (a3 bz:TE):TE:=λ σ H Q=>a3 σ H λ x H1=>bz σ H1 λ y au=>r x y au Q
noncomputable def Hh (r:V->az->bG->Prop) (a3:TE):TE:=λ σ H Q=>a3 σ H λ x H1=>r x H1 Q
noncomputable def vx (C:Int->Int->Prop) (g:Int->Int->V):fy:=λ x y H Q => ∃ i j,x=.int i/\y=.int j/\C i j/\Q (g i j) H
noncomputable def qE (g:Int->Int->V):fy:=λ x y H Q => ∃ i j,x=.int i/\y=.int j/\Q (g i j) H
noncomputable def E5 (g:Int->V):V->az->bG->Prop:=λ x H Q => ∃ i,x=.int i/\Q (g i) H
section
variable {X:aP} {a b c:Expr} {a3 bz c7:TE} {pos:Pos}
theorem Hs (ay:cn X a a3) (ae:cn X b bz) {σ:St} {H:az} {R:V->V->az->Prop} (I:Inv X pins σ H s)
  (h:a3 σ H λ x H1=>bz σ H1 λ y au=>R x y au) {Q:b2} {f:Value->Value->Sem Value}
  (hf : ∀ v u s2 x y au,Inv X pins σ au s2->RelV x v->RelV y u->R x y au->wpAny (model X.prog X.w) X.A (f v u) Q X.c3 s2) :
  wpAny (model X.prog X.w) X.A (eval a X.env) (λ v s₁=>wpAny (model X.prog X.w) X.A (eval b X.env) (λ u s₂=>wpAny (model X.prog X.w) X.A (f v u) Q X.c3 s₂) X.c3 s₁) X.c3 s:=by
 refine bq (ay pins s σ H _ I h) ?_;rintro v s1 ⟨x,H1,aK,bJ,bb⟩
 refine bq (ae pins s1 σ H1 _ aK bb) ?_;rintro u s2 ⟨y,au,cm,b8,cg⟩
 exact hf v u s2 x y au cm bJ b8 cg
theorem aaX {op:Operator} {r:fy} (aJ:dC X (binaryOp op) r) (ay:cn X a a3) (ae:cn X b bz):cn X (.BinOp a op b pos) (g8 r a3 bz):=by
 intro pins s σ H Q I h;exact wpAny_BinOp (Hs ay ae I h λ v u s2 x y au cm a5 bt q=>aJ pins s2 σ au x y v u Q cm a5 bt q)
theorem aa0 {op:UnaryOp} {r:V->az->bG->Prop} (aJ:Bo X (unaryOp op) r) (ay:cn X a a3):cn X (.UnaryOp op a pos) (Hh r a3):=by
 intro pins s σ H Q I h;exact UnaryOp_ (bq (ay pins s σ H _ I h) λ v s1 ⟨x,H1,aK,bJ,bb⟩=>aJ pins s1 σ H1 x v Q aK bJ bb)
theorem B8 {f:Value->Value->Sem Value} {C:Int->Int->Prop} {g:Int->Int->Int}
  (rule : ∀ (i j:Int) (t u:Tok) (s:Shared) (Q:b2) (E:b2),C i j->Q (.int (g i j) s.toks) { s with toks:=s.toks+1 }->wpAny (model X.prog X.w) X.A (f (.int i t) (.int j u)) Q E s) :
  dC X f (vx C λ i j=>.int (g i j)):=by
 intro pins s σ H x y v u Q I a5 bt h;obtain ⟨i,j,rfl,rfl,ak,q⟩:=h;obtain ⟨t,rfl⟩:=a5;obtain ⟨t',rfl⟩:=bt;exact rule i j t t' s _ _ ak #[.int (g i j),H,I.tok _,#[_,rfl],q]
theorem Po {f:Value->Value->Sem Value} {g:Int->Int->Int}
  (rule : ∀ (i j:Int) (t u:Tok) (s:Shared) (Q:b2) (E:b2),Q (.int (g i j) s.toks) { s with toks:=s.toks+1 }->wpAny (model X.prog X.w) X.A (f (.int i t) (.int j u)) Q E s) :
  dC X f (qE λ i j=>.int (g i j)):=by
 intro pins s σ H x y v u Q I a5 bt h;obtain ⟨i,j,rfl,rfl,q⟩:=h;obtain ⟨t,rfl⟩:=a5;obtain ⟨t',rfl⟩:=bt;exact rule i j t t' s _ _ #[.int (g i j),H,I.tok _,#[_,rfl],q]
theorem CE {f:Value->Value->Sem Value} {g:Int->Int->Bool}
  (rule : ∀ (i j:Int) (t u:Tok) (s:Shared) (Q:b2) (E:b2),Q (.bool (g i j)) s->wpAny (model X.prog X.w) X.A (f (.int i t) (.int j u)) Q E s) :
  dC X f (qE λ i j=>.aX (g i j)):=by
 intro pins s σ H x y v u Q I a5 bt h;obtain ⟨i,j,rfl,rfl,q⟩:=h;obtain ⟨t,rfl⟩:=a5;obtain ⟨t',rfl⟩:=bt;exact rule i j t t' s _ _ #[.aX (g i j),H,I,rfl,q]
noncomputable def Zs (i j:Int):Prop:=0<j/\j<1073741824
noncomputable def OO (i j:Int):Prop:=0<=j/\j<=1000000/\i.natAbs<2 ^ 64
noncomputable def Hp (i j:Int):Prop:=(-(2 ^ 64)<i/\i<2 ^ 64)\/(-(2 ^ 64)<j/\j<2 ^ 64)
theorem Hp.ok {i j:Int} (h:Hp i j):IntMulOk i j:=by
 rcases h with ⟨ah,ai⟩ | ⟨ah,ai⟩
 ·exact .of_left (intBits_le_64 ah ai)
 ·exact .of_right (intBits_le_64 ah ai)
theorem gL:dC X (binaryOp .Add) (qE λ i j=>.int (i+j)):=Po λ _ _ _ _ _ _ _ q=>add_int q
theorem kq:dC X (binaryOp .Sub) (qE λ i j=>.int (i - j)):=Po λ _ _ _ _ _ _ _ q=>sub_int q
theorem q9:dC X (binaryOp .Mult) (vx Hp λ i j=>.int (i * j)):=B8 λ _ _ _ _ _ _ _ ak q=>mul_int q ak.ok
theorem w0:dC X (binaryOp .FloorDiv) (vx Zs λ i j=>.int (i / j)):=B8 λ i j _ _ _ _ _ ak q=>by
 have ah:(0:Int)<j:=ak.1;have ai:j<1073741824:=ak.2;exact floordiv_int .aD (by rw [Int.fdiv_eq_ediv_of_nonneg i .aD];exact q) (.inl (PyProof.noPylong_small .aD))
theorem q8:dC X (binaryOp .Mod) (vx (λ _ j=>0<j) λ i j=>.int (i % j)):=B8 λ i j _ _ _ _ _ ak q=>by
 have ah:(0:Int)<j:=ak;exact mod_int' .aD (by rw [Int.fmod_eq_emod_of_nonneg i .aD];exact q)
theorem uK:dC X (binaryOp .Pow) (vx OO λ i j=>.int (i ^ j.toNat)):=B8 λ _ _ _ _ _ _ _ ak q=>pow_int_small ak.1 ak.2.1 ak.2.2 q
theorem Zk {f:Value->Sem Value} {g:Int->Int}
  (rule : ∀ (i:Int) (t:Tok) (s:Shared) (Q:b2) (E:b2),Q (.int (g i) s.toks) { s with toks:=s.toks+1 }->wpAny (model X.prog X.w) X.A (f (.int i t)) Q E s) :
  Bo X f (E5 λ i=>.int (g i)):=by
 intro pins s σ H x v Q I a5 h;obtain ⟨i,rfl,q⟩:=h;obtain ⟨t,rfl⟩:=a5;exact rule i t s _ _ #[.int (g i),H,I.tok _,#[_,rfl],q]
theorem ra:Bo X (unaryOp .USub) (E5 λ i=>.int (-i)):=Zk λ _ _ _ _ _ q=>neg_int q
end
noncomputable def Pw:V->V->Bool
 | .bh,.bh=>true | .bh,.int _=>true | .int _,.bh=>true | .bh,.aX _=>true | .aX _,.bh=>true | .bh,.str _=>true | .str _,.bh=>true
 | .int _,.int _=>true | .aX _,.aX _=>true | .str _,.str _=>true | .jK _,.jK _=>true
 | .int _,.str _=>true | .str _,.int _=>true | .aX _,.str _=>true | .str _,.aX _=>true
 | _,_=>false
noncomputable def Y2:fy:=λ x y H Q=>Pw x y=true/\Q (.aX (decide (x=y))) H
noncomputable def Y3:fy:=λ x y H Q=>Pw x y=true/\Q (.aX (!decide (x=y))) H
theorem QO {i j:Int}:decide (V.int i=V.int j)=(i == j):=by
 rw [sE];simp
theorem Qg {i j:Bool}:decide (V.aX i=V.aX j)=(i == j):=by
 rw [sE];simp
theorem QP {i j:Str}:decide (V.str i=V.str j)=(i == j):=by
 rw [sE];simp
theorem QN {i j:Array UInt8}:decide (V.jK i=V.jK j)=(i.toList == j.toList):=by
 rw [sE];cases i;cases j;simp
section
variable {X:aP} {a b c:Expr} {a3 bz c7:TE} {pos:Pos}
theorem fv {σ:St} {H:az} {Q:bG} {k f3:Bool} (I:Inv X pins σ H s) (q:Q (.aX k) H) (e:k=f3):hA X pins σ Q (.bool f3) s:=by
 subst e;exact #[.aX k,H,I,rfl,q]
theorem eS:dC X (compareOp .Eq) Y2:=by
 intro pins s σ H x y v u Q I a5 bt h;obtain ⟨aB,q⟩:=h;cases x with
 | bh =>
  cases a5;cases y with
  | bh=>cases bt;exact PySem.EqNone.eq_none_none (fv I q .zs)
  | aX j=>cases bt;exact PySem.EqNone.eq_none_bool (fv I q .zs)
  | int j=>obtain ⟨t',rfl⟩:=bt;exact PySem.EqNone.eq_none_int (fv I q .zs)
  | str j=>obtain ⟨t',rfl⟩:=bt;exact PySem.EqNone.eq_none_str (fv I q .zs)
  | _=>exact absurd (show false=true from aB) g9
 | aX i =>
  cases a5;cases y with
  | bh=>cases bt;exact PySem.EqNone.eq_bool_none (fv I q .zs)
  | aX j=>cases bt;exact eq_bool (fv I q Qg)
  | str j=>obtain ⟨t',rfl⟩:=bt;exact PySem.EqMixed.eq_bool_str (fv I q .zs)
  | _=>exact absurd (show false=true from aB) g9
 | int i =>
  obtain ⟨t,rfl⟩:=a5;cases y with
  | bh=>cases bt;exact PySem.EqNone.eq_int_none (fv I q .zs)
  | int j=>obtain ⟨t',rfl⟩:=bt;exact eq_int (fv I q QO)
  | str j=>obtain ⟨t',rfl⟩:=bt;exact PySem.EqMixed.eq_int_str (fv I q .zs)
  | _=>exact absurd (show false=true from aB) g9
 | str i =>
  obtain ⟨t,rfl⟩:=a5;cases y with
  | bh=>cases bt;exact PySem.EqNone.eq_str_none (fv I q .zs)
  | aX j=>cases bt;exact PySem.EqMixed.eq_str_bool (fv I q .zs)
  | int j=>obtain ⟨t',rfl⟩:=bt;exact PySem.EqMixed.eq_str_int (fv I q .zs)
  | str j=>obtain ⟨t',rfl⟩:=bt;exact eq_str (fv I q QP)
  | _=>exact absurd (show false=true from aB) g9
 | jK i =>
  obtain ⟨t,rfl⟩:=a5;cases y with
  | jK j=>obtain ⟨t',rfl⟩:=bt;exact PySem.W.eq_bytes (fv I q QN)
  | _=>exact absurd (show false=true from aB) g9
 | _=>cases y<;>exact absurd (show false=true from aB) g9
theorem iW:dC X (compareOp .NotEq) Y3:=by
 intro pins s σ H x y v u Q I a5 bt h;obtain ⟨aB,q⟩:=h;cases x with
 | bh =>
  cases a5;cases y with
  | bh=>cases bt;exact PySem.EqNone.ne_none_none (fv I q .zs)
  | aX j=>cases bt;exact PySem.EqNone.ne_none_bool (fv I q .zs)
  | int j=>obtain ⟨t',rfl⟩:=bt;exact PySem.EqNone.ne_none_int (fv I q .zs)
  | str j=>obtain ⟨t',rfl⟩:=bt;exact PySem.EqNone.ne_none_str (fv I q .zs)
  | _=>exact absurd (show false=true from aB) g9
 | aX i =>
  cases a5;cases y with
  | bh=>cases bt;exact PySem.EqNone.ne_bool_none (fv I q .zs)
  | aX j=>cases bt;exact ne_bool (fv I q (nC not Qg))
  | str j=>obtain ⟨t',rfl⟩:=bt;exact PySem.EqMixed.ne_bool_str (fv I q .zs)
  | _=>exact absurd (show false=true from aB) g9
 | int i =>
  obtain ⟨t,rfl⟩:=a5;cases y with
  | bh=>cases bt;exact PySem.EqNone.ne_int_none (fv I q .zs)
  | int j=>obtain ⟨t',rfl⟩:=bt;exact ne_int (fv I q (nC not QO))
  | str j=>obtain ⟨t',rfl⟩:=bt;exact PySem.EqMixed.ne_int_str (fv I q .zs)
  | _=>exact absurd (show false=true from aB) g9
 | str i =>
  obtain ⟨t,rfl⟩:=a5;cases y with
  | bh=>cases bt;exact PySem.EqNone.ne_str_none (fv I q .zs)
  | aX j=>cases bt;exact PySem.EqMixed.ne_str_bool (fv I q .zs)
  | int j=>obtain ⟨t',rfl⟩:=bt;exact PySem.EqMixed.ne_str_int (fv I q .zs)
  | str j=>obtain ⟨t',rfl⟩:=bt;exact ne_str (fv I q (nC not QP))
  | _=>exact absurd (show false=true from aB) g9
 | jK i =>
  obtain ⟨t,rfl⟩:=a5;cases y with
  | jK j=>obtain ⟨t',rfl⟩:=bt;exact PySem.W.ne_bytes (fv I q (nC not QN))
  | _=>exact absurd (show false=true from aB) g9
 | _=>cases y<;>exact absurd (show false=true from aB) g9
theorem nz:dC X (compareOp .Lt) (qE λ i j=>.aX (decide (i<j))):=CE λ _ _ _ _ _ _ _ q=>lt_int q
theorem zX:dC X (compareOp .LtE) (qE λ i j=>.aX (decide (i<=j))):=CE λ _ _ _ _ _ _ _ q=>le_int q
theorem ov:dC X (compareOp .Gt) (qE λ i j=>.aX (decide (j<i))):=CE λ _ _ _ _ _ _ _ q=>gt_int q
theorem H4:dC X (compareOp .GtE) (qE λ i j=>.aX (decide (j<=i))):=CE λ _ _ _ _ _ _ _ q=>ge_int q
theorem ago:dC X (compareOp .In) (λ x y H Q => ∃ i j,x=.str i/\y=.str j/\Q (.aX (!(Builtin.Str.occurrences j i 0 j.length 1).isEmpty)) H):=by
 intro pins s σ H x y v u Q I a5 bt h;obtain ⟨i,j,rfl,rfl,q⟩:=h;obtain ⟨t,rfl⟩:=a5;obtain ⟨t',rfl⟩:=bt;exact in_str (fv I q rfl)
theorem oF:dC X (compareOp .Is) (λ x y H Q=>y=.bh/\Q (.aX (decide (x=.bh))) H):=by
 intro pins s σ H x y v u Q I a5 bt h;obtain ⟨rfl,q⟩:=h;cases bt;refine is_none_gen (fv I q ?_);cases x<;>first
  | (cases a5;rfl)
  | (obtain ⟨t,rfl⟩:=a5;rfl)
theorem I0:dC X (compareOp .IsNot) (λ x y H Q=>y=.bh/\Q (.aX (!decide (x=.bh))) H):=by
 intro pins s σ H x y v u Q I a5 bt h;obtain ⟨rfl,q⟩:=h;cases bt;refine isnot_none_gen (fv I q ?_);cases x<;>first
  | (cases a5;rfl)
  | (obtain ⟨t,rfl⟩:=a5;rfl)
theorem dC.or {f:Value->Value->Sem Value} {r bP:fy} (h:dC X f r) (h':dC X f bP):dC X f (λ x y H Q=>r x y H Q\/bP x y H Q):=by
 intro pins s σ H x y v u Q I a5 bt q;rcases q with q | q
 ·exact h pins s σ H x y v u Q I a5 bt q
 ·exact h' pins s σ H x y v u Q I a5 bt q
theorem bS (b:Expr) {op:CmpOp} (h:op≠.In:=by decide) (ai:op≠.NotIn:=by decide):behindInMarks op b=false:=by
 have aM:(op == CmpOp.In)=false:=by cases op<;>first | rfl | exact absurd rfl h
 have aO:(op == CmpOp.NotIn)=false:=by cases op<;>first | rfl | exact absurd rfl ai
 cases b<;>simp [behindInMarks,aM,aO]
theorem acU {op:CmpOp} {r:fy} (aJ:dC X (compareOp op) r) (ay:cn X a a3) (ae:cn X b bz) (hm:behindInMarks op b=false):cn X (.Compare a [op] [b] pos) (g8 r a3 bz):=by
 intro pins s σ H Q I h;exact wpAny_Compare1 (Hs ay ae I h λ v u s2 x y au cm a5 bt q=>aJ pins s2 σ au x y v u Q cm a5 bt q) hm
noncomputable def Qb (t:TE):TT:=λ σ H Q=>t σ H λ x H' => ∃ k,x=.aX k/\Q k H'
theorem ac_ {op:CmpOp} {r:fy} (aJ:dC X (compareOp op) r) (ay:cn X a a3) (ae:cn X b bz) (hm:behindInMarks op b=false):l6 X (.Compare a [op] [b] pos) (Qb (g8 r a3 bz)):=by
 intro pins s σ H Q I h;refine wpAny_isTrue_Compare1 (bq (ay pins s σ H _ I h) λ v s1 ⟨x,H1,aK,bJ,bb⟩=>bq (ae pins s1 σ H1 _ aK bb) λ u s2 ⟨y,au,cm,b8,cg⟩ =>
  bq (aJ pins s2 σ au x y v u _ cm bJ b8 cg) λ c s3 ⟨z,aW,cv,hj,k,e,eQ⟩=>?_) hm
 subst e;cases hj;exact sD #[aW,cv,eQ]
noncomputable def Qv (r bP:fy) (a3 bz c7:TE):TE:=λ σ H Q=>a3 σ H λ x H1=>bz σ H1 λ y au=>r x y au λ z aW => ∃ k,z=.aX k /\
 (if k=true then c7 σ aW λ cV bc=>bP y cV bc Q else Q (.aX false) aW)
theorem aeP {op t_:CmpOp} {r bP:fy} (aJ:dC X (compareOp op) r) (kQ:dC X (compareOp t_) bP) (ay:cn X a a3) (ae:cn X b bz) (ak:cn X c c7)
  (hm:lastMarks [op,t_] [b,c]=false:=by with_unfolding_all rfl):cn X (.Compare a [op,t_] [b,c] pos) (Qv r bP a3 bz c7):=by
 intro pins s σ H Q I h;refine Compare_chain (bq (ay pins s σ H _ I h) λ v s1 ⟨x,H1,aK,bJ,bb⟩=>chain_link (bq (ae pins s1 σ H1 _ aK bb) λ u s2 ⟨y,au,cm,b8,cg⟩ =>
  bq (aJ pins s2 σ au x y v u _ cm bJ b8 cg) λ d s3 ⟨z,aW,cv,hj,k,e,eQ⟩=>?_)) hm
 subst e;cases hj;refine sD ?_;cases k with
 | false=>exact ite_ff #[.aX false,aW,cv,rfl,eQ]
 | true=>exact ite_tt (chain_last (bq (ak pins s3 σ aW _ cv eQ) λ cV s4 ⟨eh,bc,eM,j8,lC⟩=>kQ pins s4 σ bc y eh u cV Q eM b8 j8 lC))
theorem uI:(sizeLine:Nat)<2 ^ 63:=by rw [ef];decide
theorem vals1 {x:V} (r:Vals [x] us) : ∃ u,us=[u]/\RelV x u:=by
 cases r with
 | cons bJ b8=>cases b8;exact #[_,rfl,bJ]
theorem vals2 {x y:V} (r:Vals [x,y] us) : ∃ u cV,us=[u,cV]/\RelV x u/\RelV y cV:=by
 cases r with
 | cons bJ b8 =>
  cases b8 with
  | cons hj j8=>cases j8;exact #[_,_,rfl,bJ,hj]
theorem Ar (ak:X.warm=true):gf X (.builtin "max") (λ xs H Q => ∃ i j,xs=[.int i,.int j]/\Q (.int (if j > i then j else i)) H):=by
 intro pins s σ H xs us Q I r h;obtain ⟨i,j,rfl,q⟩:=h;obtain ⟨u,cV,rfl,⟨t,rfl⟩,⟨t',rfl⟩⟩:=vals2 r;refine gE.max2 (I.kP ak) λ h' bI k=>#[_,H,I.kept k,?_,q]
 by_cases b5:j > i
 ·rw [if_pos b5,if_pos b5];exact #[_,rfl]
 ·rw [if_neg b5,if_neg b5];exact #[_,rfl]
theorem Sh (ak:X.calm=true):gf X (.builtin "min") (λ xs H Q => ∃ i j,xs=[.int i,.int j]/\Q (.int (if j<i then j else i)) H):=by
 intro pins s σ H xs us Q I r h;obtain ⟨i,j,rfl,q⟩:=h;obtain ⟨u,cV,rfl,⟨t,rfl⟩,⟨t',rfl⟩⟩:=vals2 r;refine min_two_ints (I.ok.hd.1 ak) λ h' bI k=>#[_,H,I.kept k,?_,q]
 by_cases b5:j<i
 ·rw [if_pos b5,if_pos b5];exact #[_,rfl]
 ·rw [if_neg b5,if_neg b5];exact #[_,rfl]
end
structure uh (h:Heap) (x aL C:Addr) (dZ:Str->c0):Prop where
 obj:h.get? x=some (PySem.W.instObj C aL)
 ns:h.Ns1 aL dZ
 ne:aL≠x
theorem SA {h:Heap} {dZ:Str->c0} (n:h.Ns1 aL dZ) : ∃ b6,h.get? aL=some b6 /\ ∀ name,PySem.W.lookIn name b6=some (dZ name):=by
 obtain ⟨o,ar,ep,aJ,hd,aG,_,hm⟩:=n;refine #[o,aJ,λ name=>?_];have e:=hm name;unfold nsFind findBy at e;rw [<-Array.find?_toList] at e;unfold PySem.W.lookIn;rw [hd];dsimp only;split
 ·rename_i y q;rw [q] at e;exact nC some e
 ·rename_i q;rw [q] at e;have a:ar.toList.any (·.refKey)=false:=by
   rw [List.any_eq_false];intro y aT;obtain ⟨z,t,HA⟩:=aG y (Array.mem_toList_iff.mp aT);simp [DictEntry.refKey,HA]
  have l8 : ¬ ar.toList.any (·.refKey)=true:=by rw [a];exact g9
  rw [if_neg l8];exact nC some e
theorem uh.look {h:Heap} {x C:Addr} {dZ:Str->c0} (I:uh h x aL C dZ) : ∃ b6,PySem.W.InstAt h x (PySem.W.instObj C aL) C (some b6) /\ ∀ name,PySem.W.lookIn name b6=some (dZ name) :=
 let ⟨b6,aJ,av⟩:=SA I.ns
 #[b6,#[I.obj,rfl,rfl,aJ],av]
section
variable {w:World} {E:b2} {x C f:Addr} {dZ:Str->c0} {name:Str} {v:Value}
theorem get_map {expr:Bool} {Q:b2} (X:K.In s.heap) (I:uh s.heap x aL C dZ) (aS:PySem.W.plainGet K C name=true) (cj:PySem.W.hasDictIn K C=true)
  (ay:PySem.W.findIn K (.ref C) name=some none) (ba:dZ name=some v) (t5:PySem.W.handedIn v=true) (h:Q v { s with toks:=s.toks+1 }) :
  wpAny (model prog w) A (getAttr (.ref x) name expr) Q E s:=by
 obtain ⟨b6,J,av⟩:=I.look;exact PySem.W.get_value X J (Ie aS).1 (PySem.W.findObj_own cj ay rfl (by rw [av,ba])) t5 h
theorem aed {pl:Sem Bool} {Q:Value×List Value->Shared->Prop} (X:K.In s.heap) (I:uh s.heap x aL C dZ) (aS:PySem.W.plainGet K C name=true)
  (hf:PySem.W.findIn K (.ref C) name=some (some (.ref f))) (aU:PySem.W.isFn K (.ref f)=true) (ba:dZ name=none) (h:Q (.ref f,[.ref x]) s) :
  wpAny (model prog w) A (getMethod (.ref x) name pl) Q E s:=by
 obtain ⟨b6,J,av⟩:=I.look;exact PySem.W.method_fn X J (Ie aS).1 (Ie aS).2 hf (oC.mp aU) (by show (PySem.W.lookIn name b6).map (·.isSome)=some false;rw [av,ba];rfl) h
theorem adx {ns:bT} {Q:Unit->Shared->Prop} (X:K.In s.heap) (I:uh s.heap x aL C dZ)
  (aB:PySem.W.findIn K (.ref C) "__setattr__" = some (some (.builtin "object.__setattr__"))) (aw:PySem.W.plainOver K C=true) (aU:PySem.W.takerIn K C name=some none) (cj:PySem.W.hasDictIn K C=true)
  (hw:PySem.Within dZ ns) (hsz:ns.length<=sizeLine)
  (h : ∀ h',uh h' x aL C (λ y=>if y=name then some v else dZ y)->Heap.SameBut aL s.heap h'->Q () { s with heap:=h',toks:=s.toks+2 }) :
  wpAny (model prog w) A (setAttr (.ref x) name v) Q E s:=by
 obtain ⟨b6,J,av⟩:=I.look;refine PySem.W.set_plain X J aB (PySem.W.osa_open (s:={ s with toks:=s.toks+1 }) (r:=none) X J aw aU λ b=>?_);obtain ⟨cd,ak,r4⟩:=PySem.W.any_some cj;have aj:s.heap.get? x=some ⟨.ref C,some aL,.plain,#[]⟩:=I.obj;refine aC (bH (aC (aC (wpAny_loadPart aj (aC (PySem.W.Looks.here (s:={ s with toks:=s.toks+1 }) (PySem.W.looks_clsIn X ak) ?_))))));rw [r4];refine bH (a:=some aL) (aC (bH (aC ?_)));refine wpAny_nsSet1 (s:={ s with toks:=s.toks+1 }) I.ns λ h' nj gd=>?_
 obtain ⟨Vt,We,Wd,GA,Gj,n7⟩:=nj.count (PySem.Within.cons name v hw);refine aC (wpAny_lookBehind GA (by rw [Gj];exact pastItsLine_dict (fl n7 (by rw [j1];omega))) ?_);exact bH (h _ #[(gd.2 _ (ek I.ne)).trans I.obj,nj,I.ne] gd)
theorem aes {R:Result->Shared->Prop} {vs:List Value} (X:K.In s.heap) (hm:PySem.W.makesIn K C=true)
  (ax:PySem.W.findIn K (.ref C) "__init__" = some (some (.ref f))) (hf:PySem.W.typeIn K (.ref f)=some (.type "function"))
  (h:codeAny (model prog w) (A.under (.builtin "type.__call__" ⟨.ref C::vs,kw⟩)) (.call (.ref f) ⟨.ref (s.heap.objs.size+1)::vs,kw⟩) (PySem.W.InitBack (s.heap.objs.size+1) R)
   { s with heap:=(s.heap.push PySem.W.emptyDict).push (PySem.W.instObj C s.heap.objs.size) }) :
  codeAny (model prog w) A (.call (.ref C) ⟨vs,kw⟩) R s:=by
 obtain ⟨cj,g,d,t,os⟩:=s;exact PySem.W.make_core (PySem.W.makes_of X hm) (PySem.W.looks_findIn X ax) (λ self=>PySem.W.bind_fn X self hf) (.inl rfl) h
end
noncomputable def km (f:Str) (v:V):List (Str×V)->List (Str×V)
 | []=>[(f,v)]
 | (g,x)::r=>if g=f then (g,v)::r else (g,x)::km f v r
theorem To (f g:Str) (v:V) : ∀ fs:List (Str×V),(km f v fs).lookup g=if g=f then some v else fs.lookup g
 | []=>by
  show List.lookup g [(f,v)]=_;by_cases h:g=f
  ·have ae:(g == f)=true:=oC.mpr h;simp only [List.lookup,ae,if_pos h]
  ·have ae:(g == f)=false:=uB.mpr h;simp only [List.lookup,ae,if_neg h]
 | (k,x)::r=>by
  have cQ:=To f g v r;rw [show km f v ((k,x)::r)=(if k=f then (k,v)::r else (k,x)::km f v r) from rfl];by_cases aG:k=f
  ·rw [if_pos aG];by_cases h:g=k
   ·have ae:(g == k)=true:=oC.mpr h;simp only [List.lookup,ae,if_pos (h.trans aG)]
   ·have ae:(g == k)=false:=uB.mpr h;simp only [List.lookup,ae,if_neg (λ e:g=f=>h (e.trans aG.symm))]
  ·rw [if_neg aG];by_cases h:g=k
   ·have ae:(g == k)=true:=oC.mpr h;simp only [List.lookup,ae,if_neg (λ e:g=f=>aG (h.symm.trans e))]
   ·have ae:(g == k)=false:=uB.mpr h;simp only [List.lookup,ae];exact cQ
theorem JJ (f:Str) (v:V) : ∀ fs:List (Str×V),f∈(km f v fs).map (·.1) /\ ∀ g,g∈fs.map (·.1)->g∈(km f v fs).map (·.1)
 | []=>#[by simp [km],λ g h=>by simp at h]
 | (k,x)::r=>by
  obtain ⟨gp,hQ⟩:=JJ f v r;rw [show km f v ((k,x)::r)=(if k=f then (k,v)::r else (k,x)::km f v r) from rfl];by_cases aG:k=f
  ·rw [if_pos aG];subst aG;exact #[.zs,λ g h=>by simpa using h]
  ·rw [if_neg aG];refine #[?_,λ g h=>?_]
   ·rw [iZ];exact ht _ gp
   ·rw [iZ] at h ⊢;rcases c1.mp h with e | e
    ·exact c1.mpr (.inl e)
    ·exact ht _ (hQ g e)
theorem Tj (f:Str) (v:V) : ∀ fs:List (Str×V),(km f v fs).length<=fs.length+1
 | []=>by simp [km]
 | (k,x)::r=>by
  have cQ:=Tj f v r;rw [show km f v ((k,x)::r)=(if k=f then (k,v)::r else (k,x)::km f v r) from rfl];by_cases aG:k=f
  ·rw [if_pos aG,j1,j1];omega
  ·rw [if_neg aG,j1,j1];omega
theorem iw.some_of {v:V} {o:c0} (r:iw (some v) o) : ∃ u,o=some u/\RelV v u:=by
 cases o with
 | none=>exact (show False from r).elim
 | some u=>exact #[u,rfl,r]
theorem iw.none_of {o:c0} (r:iw none o):o=none:=by
 cases o with
 | none=>rfl
 | some u=>exact (show False from r).elim
theorem Su {v:V} {u:Value} (r:RelV v u):PySem.W.handedIn u=true:=by
 cases v with
 | bh=>cases (show u=Value.none from r);rfl
 | aX b=>cases (show u=Value.bool b from r);rfl
 | int i=>obtain ⟨t,e⟩:=(show ∃ t,u=Value.int i t from r);cases e;rfl
 | str x=>obtain ⟨t,e⟩:=(show ∃ t,u=Value.str x t from r);cases e;rfl
 | jK b=>obtain ⟨t,e⟩:=(show ∃ t,u=Value.bytes b t from r);cases e;rfl
 | ip b=>obtain ⟨t,e⟩:=(show ∃ t,u=Value.float b t from r);cases e;rfl
 | ref a=>cases (show u=Value.ref a from r);rfl
 | ty n=>cases (show u=Value.type n from r);rfl
section
variable {w:World} {H H':az} {h:Heap} {a C:Addr} {fs Wo:List (Str×V)}
theorem DE (a7:e5 P w H h) (e:H a=some (.ins C aL fs)) : ∃ dZ,uh h a aL C dZ/\(∀ f,iw (fs.lookup f) (dZ f))/\PySem.Within dZ (fs.map (·.1))/\fs.length<=1000/\H aL=some (.own a):=by
 obtain ⟨d,z,ne,b7,dZ,n,r,q⟩:=(show et P w H h a (.ins C aL fs) from a7 a _ e)
 exact #[dZ,#[b7,n,ne],r,q,z,d]
end
structure kL (K:cD) (C:Addr):Prop where
 qc:PySem.W.plainGet K C Str.empty=true
 hd:PySem.W.hasDictIn K C=true
 po:PySem.W.plainOver K C=true
 vz:PySem.W.findIn K (.ref C) "__setattr__" = some (some (.builtin "object.__setattr__"))
theorem kL.get {C:Addr} (c:kL K C) (f:Str):PySem.W.plainGet K C f=true:=c.qc
noncomputable def q5 (K:cD) (C:Addr) (f:Str):Prop:=PySem.W.findIn K (.ref C) f=some none
theorem q5.aa9 {C:Addr} {f:Str} (n:q5 K C f):PySem.W.takerIn K C f=some none:=by
 unfold PySem.W.takerIn;rw [show PySem.W.findIn K (.ref C) f=some none from n];rfl
structure Meth (K:cD) (C:Addr) (m:Str) (f:Addr):Prop where
 at_:PySem.W.findIn K (.ref C) m=some (some (.ref f))
 fn:PySem.W.isFn K (.ref f)=true
 bf:PySem.W.keepIn K (.ref f)=true
section
variable {X:aP} {σ:St} {H:az} {a C:Addr} {fs:List (Str×V)} {f:Str} {v:V} {E:b2}
theorem ahu {b:Bool} {Q:b2} (I:Inv X pins σ H s) (e:H a=some (.ins C aL fs)) (c:kL X.K C) (n:q5 X.K C f) (l:fs.lookup f=some v)
  (h : ∀ u s',Inv X pins σ H s'->RelV v u->Q u s'):wpAny (model X.prog X.w) A (getAttr (.ref a) f b) Q E s:=by
 obtain ⟨dZ,O,r,_,_,_⟩:=DE I.a7 e;obtain ⟨u,br,fp⟩:=iw.some_of (v:=v) (o:=dZ f) (by rw [<-l];exact r f);exact get_map I.eb O (c.get f) c.hd n br (Su fp) (h u _ (I.tok _) fp)
theorem S1 {m:Str} {g:Addr} {pl:Sem Bool} {Q:Value×List Value->Shared->Prop} (I:Inv X pins σ H s) (e:H a=some (.ins C aL fs)) (c:kL X.K C) (k:Meth X.K C m g) (l:fs.lookup m=none)
  (h:Q (.ref g,[.ref a]) s):wpAny (model X.prog X.w) A (getMethod (.ref a) m pl) Q E s:=by
 obtain ⟨dZ,O,r,_,_,_⟩:=DE I.a7 e;have aF:dZ m=none:=iw.none_of (by rw [<-l];exact r m);exact aed I.eb O (c.get m) k.at_ k.fn aF h
theorem ahZ {y:V} {u:Value} {Q:Unit->Shared->Prop} (I:Inv X pins σ H s) (e:H a=some (.ins C aL fs)) (c:kL X.K C) (n:q5 X.K C f) (av:fs.length<1000) (bt:RelV y u)
  (h : ∀ s',Inv X pins σ (upd H a (.ins C aL (km f y fs))) s'->Q () s'):wpAny (model X.prog X.w) A (setAttr (.ref a) f u) Q E s:=by
 obtain ⟨dZ,O,r,gr,_,aJ⟩:=DE I.a7 e;have a6:(fs.map (·.1)).length<=sizeLine:=by rw [bY,ef];omega
 refine adx I.eb O c.vz c.po n.aa9 c.hd gr a6 λ h' ED d4=>h _ ?_
 have hd : ∃ o,h'.get? aL=some o:=let ⟨o,_,_,c2,_⟩:=ED.ns;⟨o,c2⟩
 refine I.write (x:=a) (e:=aL) (by rw [e];exact True.intro) (.inr aJ) (λ b q ae z=>(d4.2 b ae).trans z) hd ?_;refine #[by rw [bj O.ne];exact aJ,?_,O.ne,ED.obj,_,ED.ns,λ g=>?_,λ g aS=>?_]
 ·have:=Tj f y fs;omega
 ·show iw ((km f y fs).lookup g) (if g=f then some u else dZ g);rw [To];by_cases q:g=f
  ·rw [if_pos q,if_pos q];exact bt
  ·rw [if_neg q,if_neg q];exact r g
 ·by_cases q:g=f
  ·rw [q];exact (JJ f y fs).1
  ·refine (JJ f y fs).2 g (gr g λ z=>aS ?_);show (if g=f then some u else dZ g)=none;rw [if_neg q];exact z
theorem Inv.made (I:Inv X pins σ H s):Inv X pins σ (upd (upd H s.heap.objs.size (.own (s.heap.objs.size+1))) (s.heap.objs.size+1) (.ins C s.heap.objs.size []))
  { s with heap:=(s.heap.push PySem.W.emptyDict).push (PySem.W.instObj C s.heap.objs.size) }:=by
 have aM:(s.heap.push PySem.W.emptyDict).get? s.heap.objs.size=some PySem.W.emptyDict:=d6 s.heap rfl;have aO:((s.heap.push PySem.W.emptyDict).push (PySem.W.instObj C s.heap.objs.size)).get? (s.heap.objs.size+1)=some (PySem.W.instObj C s.heap.objs.size):=by
  have:=d6 (s.heap.push PySem.W.emptyDict) (o:=PySem.W.instObj C s.heap.objs.size) rfl
  rwa [ha] at this
 have el:(s.heap.push PySem.W.emptyDict).Ns s.heap.objs.size (λ _=>none):=#[PySem.W.emptyDict,#[],_,aM,rfl,(λ e he=>absurd he .zs),λ _=>rfl]
 have aK:=I.laid (a:=s.heap.objs.size) (o:=.own (s.heap.objs.size+1)) (h':=s.heap.push PySem.W.emptyDict) (t':=s.toks) (λ b u q=>bK _ q) (b9 _) #[_,aM];refine aK.laid (a:=s.heap.objs.size+1) (o:=.ins C s.heap.objs.size []) (t':=s.toks) (λ b u q=>bK _ q) (Nat.le_of_eq (ha _ _)) ?_;have ne:s.heap.objs.size≠s.heap.objs.size+1:=d3 (q3 _);refine #[by rw [bj ne,bL],j0 _,ne,aO,λ _=>none,(Heap.Ns1.of_empty el).at λ o q=>bK _ q,λ _=>True.intro,λ y aT=>absurd rfl aT]
theorem QI {w:World} {env:Env} {e:Expr} {f:Str} {pos:Pos} {Q:b2} (ae:attributeBase e f env (eval e env)=eval e env)
  (h:wpAny (model prog w) A (eval e env) (λ o s₁=>wpAny (model prog w) A (getAttr o f true) Q E s₁) E s):wpAny (model prog w) A (eval (.Attribute e f pos) env) Q E s :=
 Attribute_any_ h (by rw [arm_eval_Attribute,ae])
end
noncomputable def PA (K:cD) (a3:TE) (f:Str):TE:=λ σ H Q=>a3 σ H λ x H1 => ∃ a C aL fs v,x=.ref a/\H1 a=some (.ins C aL fs)/\kL K C/\q5 K C f/\fs.lookup f=some v/\Q v H1
noncomputable def Pu (K:cD) (a3 jG:TE) (f:Str):de:=λ D σ H=>jG σ H λ y H1=>a3 σ H1 λ x au => ∃ a C aL fs,x=.ref a/\au a=some (.ins C aL fs)/\kL K C/\q5 K C f/\fs.length<1000 /\
 D.bu σ (upd au a (.ins C aL (km f y fs)))
section
variable {X:aP} {o e:Expr} {f:Str} {pos CK:Pos} {a3 jG:TE}
theorem abL (he:cn X e a3) (ae:attributeBase e f X.env (eval e X.env)=eval e X.env):cn X (.Attribute e f pos) (PA X.K a3 f):=by
 intro pins s σ H Q I h;refine QI ae (bq (he pins s σ H _ I h) ?_);rintro u s1 ⟨x,H1,aK,a5,a,C,aL,fs,v,ex,eN,c,n,l,q⟩;subst ex;obtain rfl:u=Value.ref a:=a5;exact ahu aK eN c n l λ kH s2 cm fp=>#[v,H1,cm,fp,q]
theorem ab0 (ay:cn X o a3) (ba:cn X value jG) (aB:swapsWith value (some (.Attribute o f pos')) pos.line X.env=pure false):kz X (.Assign [.Attribute o f pos'] value pos) (Pu X.K a3 jG f):=by
 intro pins s σ H D I h;refine plainObj_wpAny_Assign_Attribute (bq (ba pins s σ H _ I h) ?_) aB;rintro u s1 ⟨y,H1,aK,bt,q⟩;refine bq (ay pins s1 σ H1 _ aK q) ?_;rintro df s2 ⟨x,au,cm,a5,a,C,aL,fs,ex,eN,c,n,l,cg⟩;subst ex;obtain rfl:df=Value.ref a:=a5;exact ahZ cm eN c n l bt λ s3 cv=>#[σ,_,cv,cg]
end
section
variable {X:aP} {σ:St} {H:az} {E:b2} {Q:b2} {c:Value} {b:Bool}
inductive jn (K:cD) (H:az):V->Value->Prop where
 | bh:jn K H .bh (.type "NoneType")
 | aX (x:Bool):jn K H (.aX x) (.type "bool")
 | int (i:Int):jn K H (.int i) (.type "int")
 | str (x:Str):jn K H (.str x) (.type "str")
 | ip (x:UInt64):jn K H (.ip x) (.type "float")
 | lst {a:Addr} {xs:List V} (e:H a=some (.lst xs)):jn K H (.ref a) (.type "list")
 | gI {a:Addr} {o:Obj} {xs:List V} (e:H a=some (.gI o (.lst xs))):jn K H (.ref a) (.type "list")
 | tup {a:Addr} {xs:List V} (e:H a=some (.tup xs)):jn K H (.ref a) (.type "tuple")
 | bF {a:Addr} {kvs:List (Key×V)} (e:H a=some (.bF kvs)):jn K H (.ref a) (.type "dict")
 | j4 {a:Addr} {kvs:List (List Key×V)} (e:H a=some (.j4 kvs)):jn K H (.ref a) (.type "dict")
 | ins {a C aL:Addr} {fs:List (Str×V)} (e:H a=some (.ins C aL fs)) (cl:kL K C) (ay:PySem.W.findIn K (.ref C) "__class__" = some (some (.builtin "object.__class__")))
   (aF:PySem.W.specialIn K (.builtin "object.__class__") "__get__" = some (some (.builtin "getset_descriptor.__get__"))) (qv:PySem.W.takesIn K (.builtin "object.__class__")=some true)
   (hm:PySem.W.mroIn K C (.type "object")=some true):jn K H (.ref a) (.ref C)
theorem afW {x:V} {u t:Value} (I:Inv X pins σ H s) (a5:RelV x u) (ty:jn X.K H x t) (e:PySem.W.kitOne X.K t c=some b) (h : ∀ bI,Q (.bool b) { s with toks:=bI }) :
  wpAny (model X.prog X.w) A (call (.builtin "isinstance") [u,c]) Q E s:=by
 cases ty with
 | bh=>cases (show u=Value.none from a5);exact nD PySem.W.kitx_none I.eb True.intro e (λ z=>nomatch z) h
 | aX y=>cases (show u=Value.bool y from a5);exact nD PySem.W.kitx_bool I.eb True.intro e (λ z=>nomatch z) h
 | int i=>obtain ⟨t,q⟩:=(show ∃ t,u=Value.int i t from a5);cases q;exact nD PySem.W.kitx_int I.eb True.intro e (λ z=>nomatch z) h
 | str y=>obtain ⟨t,q⟩:=(show ∃ t,u=Value.str y t from a5);cases q;exact nD PySem.W.kitx_str I.eb True.intro e (λ z=>nomatch z) h
 | ip y=>obtain ⟨t,q⟩:=(show ∃ t,u=Value.float y t from a5);cases q;exact nD PySem.W.kitx_float I.eb True.intro e (λ z=>nomatch z) h
 | @lst a xs eN =>
  cases (show u=Value.ref a from a5);obtain ⟨_,_,n,_,ah⟩:=(show et X.prog X.w H s.heap a (.lst xs) from I.a7 a _ eN)
  exact nD PySem.W.kitx_list I.eb #[_,ah,rfl] e (λ z=>nomatch z) h
 | @gI a b7 xs eN =>
  cases (show u=Value.ref a from a5);obtain ⟨_,_,_,n,_,ah⟩:=(show et X.prog X.w H s.heap a (.gI b7 (.lst xs)) from I.a7 a _ eN)
  exact nD PySem.W.kitx_list I.eb #[_,ah,rfl] e (λ z=>nomatch z) h
 | @tup a xs eN =>
  cases (show u=Value.ref a from a5);obtain ⟨_,_,_,rP⟩:=(show et X.prog X.w H s.heap a (.tup xs) from I.a7 a _ eN)
  have p:=rP.up;obtain ⟨o,ah,ai,_⟩:=p;exact nD PySem.W.kitx_tuple I.eb #[o,ah,ai] e (λ z=>nomatch z) h
 | @bF a kvs eN =>
  cases (show u=Value.ref a from a5);obtain ⟨_,_,vs,_,p⟩:=(show et X.prog X.w H s.heap a (.bF kvs) from I.a7 a _ eN)
  obtain ⟨o,ar,ep,ah,ai,_⟩:=p;exact nD PySem.W.kitx_dict I.eb #[o,ah,ai.1] e (λ z=>nomatch z) h
 | @j4 a kvs eN =>
  cases (show u=Value.ref a from a5);obtain ⟨_,_,xs,_,o,ar,ep,ah,ai,_⟩:=(show et X.prog X.w H s.heap a (.j4 kvs) from I.a7 a _ eN)
  exact nD PySem.W.kitx_dict I.eb #[o,ah,ai.1] e (λ z=>nomatch z) h
 | @ins a C aL fs eN cl ay aF qv hm =>
  cases (show u=Value.ref a from a5);obtain ⟨dZ,O,_⟩:=DE I.a7 eN;obtain ⟨b6,J,_⟩:=O.look;exact nD (PySem.W.kitx_own (cl.get _) cl.hd ay aF qv hm) I.eb J e (λ z=>nomatch z) h
end
structure er (k:Nat) (A:Around):Prop where
 hd:A.handled=none
 oX:A.depth+3 * k+5<recursionLimit
 un:A.units+16 * k+200<cLine
 nS:A.guards=some []
theorem er.mono {j k:Nat} (r:er k A) (h:j<=k):er j A:=#[r.hd,by have:=r.oX;omega,by have:=r.un;omega,r.nS]
theorem er.deeper {k:Nat} (r:er (k+1) A) (env:Env):er k (A.deeper env) :=
 #[r.hd,by have:=r.oX;show A.depth+1+3 * k+5<_;omega,by have:=r.un;show A.units+3+16 * k+200<_;omega,r.nS]
theorem ahH {C:Addr}:(A.under (.builtin "type.__call__" ⟨.ref C::us,kw⟩)).depth=A.depth+1:=by
 first | rfl | simp [Around.under,Code.weight,Code.isCreation,Code.isGuard,Code.isCaller,Code.frames,Code.isFrame,guardIds]
theorem ahI {C:Addr}:(A.under (.builtin "type.__call__" ⟨.ref C::us,kw⟩)).units=A.units+1:=by
 first | rfl | simp [Around.under,Code.cUnits,Code.frames,Code.isFrame]
theorem er.make {k:Nat} (r:er (k+1) A) (C:Addr) (us:List Value) (kw:List (Str×Value)):er k (A.under (.builtin "type.__call__" ⟨.ref C::us,kw⟩)) :=
 #[r.hd,by have:=r.oX;rw [ahH];omega,by have:=r.un;rw [ahI];omega,by have h:=r.nS;simp [Around.under,Code.guards,Code.isGuard,guardIds,pushGuards,h]]
theorem er.depth {k:Nat} (r:er k A):A.depth<recursionLimit:=by have:=r.oX;omega
theorem er.units {k:Nat} (r:er k A):A.units+64<cLine:=by have:=r.un;omega
noncomputable def dI:dc:=λ _ H Q=>Q [] H
noncomputable def cy (a3:TE) (VD:dc):dc:=λ σ H Q=>a3 σ H λ x H1=>VD σ H1 λ xs au=>Q (x::xs) au
section
variable {X:aP} {e:Expr} {ar:List Expr} {bp:TE} {t:dc} {pos:Pos}
theorem abI:iF X [] dI:=λ _ _ _ _ H Q I h=>Calls.spliced_nil #[[],H,I,.nil,h]
theorem acR (ay:cn X e bp) (aq:iF X ar t) (aB:starEach (e::ar) X.env=(false,eval e X.env)::starEach ar X.env:=by rfl):iF X (e::ar) (cy bp t):=by
 intro pos pins s σ H Q I h;rw [aB];show wpAny _ _ (spliced ((false,eval e X.env)::backTo pos (starEach ar X.env))) _ _ s;refine Calls.spliced_cons (bq (ay pins s σ H _ I h) ?_);rintro u s1 ⟨x,H1,aK,bJ,bb⟩;exact bq (aq pos pins s1 σ H1 _ aK bb) λ us s2 ⟨xs,au,cm,b8,cg⟩=>#[x::xs,au,cm,.cons bJ b8,cg]
noncomputable def PH (t:dc):TE:=λ σ H Q=>t σ H λ xs H1=>xs.length<=sizeLine /\ ∀ p,H1 p=none->Q (.ref p) (upd H1 p (.tup xs))
noncomputable def PD (t:dc):TE:=λ σ H Q=>t σ H λ xs H1=>xs.length<=sizeLine /\ ∀ p,H1 p=none->Q (.ref p) (upd H1 p (.lst xs))
theorem abR {gs} (h:iF X ar t):cn X (.Tuple ar gs pos) (PH t):=by
 intro pins s σ H Q I aZ;refine wpAny_Tuple_spliced (bq (h pos pins s σ H _ I aZ) ?_);rintro us s1 ⟨xs,H1,aK,r,z,q⟩;refine #[by rw [<-r.length];exact z,?_];have hf:H1 s1.heap.objs.size=none:=aK.a7.fresh (b9 _);refine #[.ref s1.heap.objs.size,upd H1 s1.heap.objs.size (.tup xs),aK.laid (t':=s1.toks) (λ b u e=>bK _ e) (b9 _) ?_,rfl,q _ hf];exact #[z,us,r,#[_,d6 _ rfl,rfl,#[_,rfl],rfl]]
theorem abN (h:iF X ar t):cn X (.List ar pos) (PD t):=by
 intro pins s σ H Q I aZ;refine wpAny_List_spliced (bq (h pos pins s σ H _ I aZ) ?_);rintro us s1 ⟨xs,H1,aK,r,z,q⟩;refine #[by rw [<-r.length];exact z,?_];have hf:H1 s1.heap.objs.size=none:=aK.a7.fresh (b9 _);refine #[.ref s1.heap.objs.size,upd H1 s1.heap.objs.size (.lst xs),aK.laid (t':=s1.toks) (λ b u e=>bK _ e) (b9 _) ?_,rfl,q _ hf];exact #[z,us,0,r,d6 _ rfl]
end
noncomputable abbrev b3:=List V->az->bG->dA->Prop
noncomputable abbrev ik:=List Env->az->Shared->dA->Value->Shared->Prop
structure oj (P:Program) (w:World) (K:cD) (mg:Str->c0) (base:Heap) (A:Around) (outer:List Env) (s:Shared) (H:az):Prop where
 frames:A.frames=some outer
 mod:Mod K mg base
 bs : ∀ b o,base.get? b=some o->s.heap.get? b=some o/\H b=none
 jh:base.objs.size<=s.heap.objs.size
 iQ:s.heap.FunFrames base outer
 lF : ∀ b∈fO outer,H b=none
 a7:e5 P w H s.heap
 bare:AllBare s.gens
noncomputable def xt (outer:List Env) (P:Program) (w:World) (H:az) (s:Shared) (Q:bG) (u:Value) (s':Shared):Prop :=
 ∃ v H',s'.os=s.os/\AllBare s'.gens/\fY (fO outer) [] H H' s.heap s'.heap/\e5 P w H' s'.heap/\RelV v u/\Q v H'
noncomputable def Et (cH:ik) (outer:List Env) (P:Program) (w:World) (H:az) (s:Shared) (Q:bG) (E:dA) (r:Result) (s':Shared):Prop :=
 match r with
 | .ok (.ret u)=>xt outer P w H s Q u s'
 | .ok _=>False
 | .error e=>cH outer H s E e s'
structure eo (P:Program) (w:World) (K:cD) (mg:Str->c0) (base:Heap) (cH:ik) (k:Nat) (f:Addr) (fd:FuncData) (ag:bT) (sp:b3):Prop where
 len : ∀ vs H Q E,sp vs H Q E->vs.length=ag.length
 run : ∀ (A:Around) (outer:List Env) (s:Shared) (H:az) (args:Args) (us:List Value) (vs:List V) (Q:bG) (E:dA),er k A->oj P w K mg base A outer s H->BindsTo s fd args (ag.zip us)->Vals vs us->sp vs H Q E ->
  codeAny (model P w) A (.call (.ref f) args) (Et cH outer P w H s Q E) s
theorem eo.mono {w:World} {cH:ik} {j k:Nat} {f:Addr} {fd:FuncData} {ag:bT} {sp:b3} (F:eo P w K mg base cH j f fd ag sp) (h:j<=k) :
  eo P w K mg base cH k f fd ag sp:=#[F.len,λ A outer s H args us vs Q E aq=>F.run A outer s H args us vs Q E (aq.mono h)]
theorem eo.imp {w:World} {cH:ik} {k:Nat} {f:Addr} {fd:FuncData} {ag:bT} {sp zl:b3} (F:eo P w K mg base cH k f fd ag sp)
  (h : ∀ vs H Q E,zl vs H Q E->sp vs H Q E):eo P w K mg base cH k f fd ag zl :=
 #[λ vs H Q E q=>F.len vs H Q E (h _ _ _ _ q),λ A outer s H args us vs Q E aq he ae ba aB=>F.run A outer s H args us vs Q E aq he ae ba (h _ _ _ _ aB)]
theorem oj.make {w:World} {outer:List Env} {H:az} (e:oj P w K mg base A outer s H) (C:Addr) (us:List Value) (kw:List (Str×Value)) :
  oj P w K mg base (A.under (.builtin "type.__call__" ⟨.ref C::us,kw⟩)) outer s H:=#[by first | exact e.frames | (simpa [Around.under,Code.envs,Code.isFrame,pushEnvs] using e.frames),e.mod,e.bs,e.jh,e.iQ,e.lF,e.a7,e.bare]
section
variable {X:aP} {σ:St} {H:az} {s':Shared}
theorem Inv.uj (I:Inv X pins σ H s):oj X.prog X.w X.K X.mg X.base X.A X.stack s H :=
 #[I.ok.frames,I.ok.mod,I.bs,fl I.ok.jh I.nY,I.stack,I.uV,I.a7,I.bare]
theorem Inv.after {Q:bG} {u:Value} (I:Inv X pins σ H s) (h:xt X.stack X.prog X.w H s Q u s'):hA X pins σ Q u s':=by
 obtain ⟨v,H',os,bare,un,a7,r,q⟩:=h;obtain ⟨cj,g,d,t,YU⟩:=s';obtain rfl:YU=s.os:=os;exact #[v,H',I.call (h':=cj) (g':=g) (d':=d) (t':=t) (ch:=[]) un a7 bare (λ b z=>absurd z .zs),r,q]
end
noncomputable def mK (sp:b3) (fj:List V) (E:dA) (t:dc):TE:=λ σ H Q=>t σ H λ vs H1=>sp (vs++fj) H1 Q E
noncomputable def CZ (C:Addr) (m:Str) (sp:b3) (fj:List V) (E:dA) (a3:TE) (t:dc):TE:=λ σ H Q=>a3 σ H λ x H1 => ∃ a aL fs,x=.ref a/\H1 a=some (.ins C aL fs)/\fs.lookup m=none /\
 t σ H1 λ vs au=>sp (x::(vs++fj)) au Q E
noncomputable def P9 (C:Addr) (sp:b3) (fj:List V) (E:dA) (t:dc):TE:=λ σ H Q=>t σ H λ vs H1 => ∀ x aL,H1 x=none->H1 aL=none->aL≠x ->
 sp (.ref x::(vs++fj)) (upd (upd H1 aL (.own x)) x (.ins C aL [])) (λ v au=>v=.bh/\Q (.ref x) au) E
noncomputable def Binds (K:cD) (fd:FuncData) (ag:bT) (ds:List Value):Prop :=
 ∀ (s:Shared) (us:List Value),K.In s.heap->(us++ds).length=ag.length->BindsTo s fd ⟨us,[]⟩ (ag.zip (us++ds))
theorem Binds.all {fd:FuncData} {ag:bT} (h : ∀ us:List Value,us.length=ag.length->bindArgs fd ⟨us,[]⟩=pure (ag.zip us)):Binds K fd ag []:=λ s us _ av=>by
 rw [wG] at av ⊢;exact .of_eq (h us av)
noncomputable def Passes (cH:ik) (X:aP) (E:dA):Prop := ∀ (pins:d5) (σ:St) (H:az) (s:Shared) (e:Value) (s':Shared),Inv X pins σ H s->cH X.stack H s E e s'->X.c3 e s'
section
variable {X:aP} {cH:ik} {k:Nat} {f C:Addr} {fd:FuncData} {ag:bT} {sp:b3} {fj:List V} {ds:List Value} {E:dA} {x m:Str} {p pos apos:Pos} {e o:Expr} {ar:List Expr} {a3:TE} {t:dc}
theorem Df {σ:St} {H:az} {Q:bG} {vs:List V} (F:eo X.prog X.w X.K X.mg X.base cH k f fd ag sp) (aq:er k X.A) (ae:Binds X.K fd ag ds) (hd:Vals fj ds) (aj:Passes cH X E)
  (I:Inv X pins σ H s) (r:Vals vs us) (h:sp (vs++fj) H Q E):wpAny (model X.prog X.w) X.A (call (.ref f) us) (hA X pins σ Q) X.c3 s:=by
 have b8:Vals (vs++fj) (us++ds):=r.append hd;have av:(us++ds).length=ag.length:=by rw [<-b8.length];exact F.len _ _ _ _ h
 refine pG (nE (F.run X.A X.stack s H #[us,[]] (us++ds) (vs++fj) Q E aq I.uj (ae s us I.eb av) b8 h) λ r s' aZ=>?_);cases r with
 | error e=>exact aj pins σ H s e s' I aZ
 | ok da =>
  cases da with
  | ret u=>exact I.after aZ
  | next=>exact False.elim aZ
  | brk=>exact False.elim aZ
  | cont=>exact False.elim aZ
theorem acT (F:eo X.prog X.w X.K X.mg X.base cH k f fd ag sp) (aq:er k X.A) (aS:dW X x) (hm:X.mg x=some (.ref f)) (aG:PySem.W.keepIn X.K (.ref f)=true) (ae:Binds X.K fd ag ds) (hd:Vals fj ds) (aj:Passes cH X E)
  (ay:iF X (e::ar) t) (eY:(x == ("__debug__" : Str))=false:=by decide) (he:starEach (e::ar) X.env=(false,eval e X.env)::starEach ar X.env:=by rfl) (dH:(backTo pos (starEach ar X.env)).any (·.1)=false:=by rfl) :
  cn X (.Call (.Name x p) (e::ar) [] pos) (mK sp fj E t):=by
 intro pins s σ H Q I h;refine pH (pV I aS hm ?_ eY);refine uF (h₀:=X.base) I.ok.mod.kS aG (bq (ay pos pins s σ H _ I h) ?_) he dH;rintro us s1 ⟨vs,H1,aK,r,q⟩;refine #[aK.eb,?_];exact Df F aq ae hd aj aK r q
theorem aeN (F:eo X.prog X.w X.K X.mg X.base cH k f fd ag sp) (aq:er k X.A) (aS:dW X x) (hm:X.mg x=some (.ref f)) (aG:PySem.W.keepIn X.K (.ref f)=true) (ae:Binds X.K fd ag ds) (hd:Vals fj ds) (aj:Passes cH X E)
  (eY:(x == ("__debug__" : Str))=false:=by decide):cn X (.Call (.Name x p) [] [] pos) (mK sp fj E dI):=by
 intro pins s σ H Q I h;refine pH (pV I aS hm ?_ eY);exact PySem.W.callWith_K0 I.eb aG (Df (us:=[]) F aq ae hd aj I .nil h)
theorem acX {pl:Sem Bool} (he:cn X o a3) (c:kL X.K C) (hm:Meth X.K C m f) (F:eo X.prog X.w X.K X.mg X.base cH k f fd ag sp) (aq:er k X.A) (ae:Binds X.K fd ag ds) (hd:Vals fj ds) (aj:Passes cH X E) (ay:iF X (e::ar) t)
  (c4:starEach (e::ar) X.env=(false,eval e X.env)::starEach ar X.env:=by rfl) (dH:(backTo pos (starEach ar X.env)).any (·.1)=false:=by rfl)
  (aU:eval (.Call (.Attribute o m apos) (e::ar) [] pos) X.env=(do
   let df ← eval o X.env
   standAt apos.atName
   let (f,first) ← holding [df] (getMethod df m pl)
   callWith pos f first (backTo pos (starEach (e::ar) X.env)) (backToKw pos (keywordEach [] X.env))):=by rfl) :
  cn X (.Call (.Attribute o m apos) (e::ar) [] pos) (CZ C m sp fj E a3 t):=by
 intro pins s σ H Q I h;refine PySem.W.methodCall_KW (pl:=pl) (bq (he pins s σ H _ I h) ?_) aU;rintro u s1 ⟨x,H1,aK,a5,a,aL,fs,ex,eN,l,q⟩;subst ex;obtain rfl:u=Value.ref a:=a5;refine S1 aK eN c hm l ?_;refine uF (first:=[.ref a]) (h₀:=X.base) I.ok.mod.kS hm.bf (bq (ay pos pins s1 σ H1 _ aK q) ?_) c4 dH;rintro us s2 ⟨vs,au,cm,r,cg⟩;refine #[cm.eb,?_];exact Df (us:=.ref a::us) (vs:=.ref a::vs) F aq ae hd aj cm (.cons rfl r) cg
theorem aeT {pl:Sem Bool} (he:cn X o a3) (c:kL X.K C) (hm:Meth X.K C m f) (F:eo X.prog X.w X.K X.mg X.base cH k f fd ag sp) (aq:er k X.A) (ae:Binds X.K fd ag ds) (hd:Vals fj ds) (aj:Passes cH X E)
  (aU:eval (.Call (.Attribute o m apos) [] [] pos) X.env=(do
   let df ← eval o X.env
   standAt apos.atName
   let (f,first) ← holding [df] (getMethod df m pl)
   callWith pos f first (backTo pos (starEach [] X.env)) (backToKw pos (keywordEach [] X.env))):=by rfl) :
  cn X (.Call (.Attribute o m apos) [] [] pos) (CZ C m sp fj E a3 dI):=by
 intro pins s σ H Q I h;refine PySem.W.methodCall_KW (pl:=pl) (bq (he pins s σ H _ I h) ?_) aU;rintro u s1 ⟨x,H1,aK,a5,a,aL,fs,ex,eN,l,q⟩;subst ex;obtain rfl:u=Value.ref a:=a5;refine S1 aK eN c hm l ?_;exact PySem.W.callWith_K0 (first:=[.ref a]) aK.eb hm.bf (Df (us:=[.ref a]) (vs:=[.ref a]) F aq ae hd aj aK (.cons rfl .nil) q)
structure AW (K:cD) (C f:Addr):Prop where
 makes:PySem.W.makesIn K C=true
 init:PySem.W.findIn K (.ref C) "__init__" = some (some (.ref f))
 fn:PySem.W.isFn K (.ref f)=true
 bf:PySem.W.keepIn K (.ref C)=true
theorem afb {σ:St} {H:az} {Q:bG} {vs:List V} (M:AW X.K C f) (F:eo X.prog X.w X.K X.mg X.base cH k f fd ag sp) (aq:er (k+1) X.A) (ae:Binds X.K fd ag ds) (hd:Vals fj ds)
  (aj:Passes cH X E) (I:Inv X pins σ H s) (r:Vals vs us)
  (h : ∀ x aL,H x=none->H aL=none->aL≠x->sp (.ref x::(vs++fj)) (upd (upd H aL (.own x)) x (.ins C aL [])) (λ v au=>v=.bh/\Q (.ref x) au) E) :
  wpAny (model X.prog X.w) X.A (call (.ref C) us) (hA X pins σ Q) X.c3 s:=by
 have aZ:=h (s.heap.objs.size+1) s.heap.objs.size (I.a7.fresh (lg _)) (I.a7.fresh (b9 _)) (d3 (q3 _));have cm:=Inv.made (C:=C) I;have b8:Vals (V.ref (s.heap.objs.size+1)::(vs++fj)) (Value.ref (s.heap.objs.size+1)::(us++ds)):=.cons rfl (r.append hd);have av:(Value.ref (s.heap.objs.size+1)::us++ds).length=ag.length:=by
  have e:=b8.length;rw [F.len _ _ _ _ aZ] at e;exact e.symm
 refine pG (aes (f:=f) I.eb M.makes M.init (oC.mp M.fn) (nE (F.run _ X.stack _ _ #[Value.ref (s.heap.objs.size+1)::us,[]] (Value.ref (s.heap.objs.size+1)::(us++ds)) _ _ E (aq.make C us [])
  (cm.uj.make C us []) (ae _ (Value.ref (s.heap.objs.size+1)::us) cm.eb av) b8 aZ) λ r s' gJ=>?_))
 cases r with
 | error e=>exact aj pins σ _ _ e s' cm gJ
 | ok da =>
  cases da with
  | ret u =>
   obtain ⟨v,H',cv,cx,ev,eQ⟩:=cm.after gJ;subst ev;exact #[cx,#[V.ref (s.heap.objs.size+1),H',cv,rfl,eQ]]
  | next=>exact False.elim gJ
  | brk=>exact False.elim gJ
  | cont=>exact False.elim gJ
theorem acW (M:AW X.K C f) (F:eo X.prog X.w X.K X.mg X.base cH k f fd ag sp) (aq:er (k+1) X.A) (aS:dW X x) (hm:X.mg x=some (.ref C)) (ae:Binds X.K fd ag ds) (hd:Vals fj ds) (aj:Passes cH X E)
  (ay:iF X (e::ar) t) (eY:(x == ("__debug__" : Str))=false:=by decide) (he:starEach (e::ar) X.env=(false,eval e X.env)::starEach ar X.env:=by rfl) (dH:(backTo pos (starEach ar X.env)).any (·.1)=false:=by rfl) :
  cn X (.Call (.Name x p) (e::ar) [] pos) (P9 C sp fj E t):=by
 intro pins s σ H Q I h;refine pH (pV I aS hm ?_ eY);refine uF (h₀:=X.base) I.ok.mod.kS M.bf (bq (ay pos pins s σ H _ I h) ?_) he dH;rintro us s1 ⟨vs,H1,aK,r,q⟩;refine #[aK.eb,?_];exact afb M F aq ae hd aj aK r q
end
structure cE (N P:bT) (sc:Scope):Prop where
 kind:sc.kind=.function
 co:sc.isCoroutine=false
 gen:sc.isGenerator=false
 c6:N.Nodup
 pre:N.take P.length=P
 par : ∀ x∈P,sc.names.lookup x=some .local\/sc.names.lookup x=some .cell
 abE : ∀ y∈sc.names,y.2≠.free
theorem Sg {kindOf:Str->Option NameKind} {x:Str} : ∀ {binds:List (Str×Value)} {m:Str->c0},(∀ v,(x,v)∉binds)->bindL kindOf binds m x=m x
 | [],_,_=>rfl
 | (n,v)::r,m,h=>by
  unfold bindL;rw [Sg λ w hw=>h w (ht _ hw)];split
  ·have:x≠n:=by rintro rfl;exact h v gS
   simp [this]
  ·rfl
theorem Se {kindOf:Str->Option NameKind} {x:Str} : ∀ {binds:List (Str×Value)} {m:Str->c0},(∀ v,(x,v)∉binds)->bindC kindOf binds m x=m x
 | [],_,_=>rfl
 | (n,v)::r,m,h=>by
  unfold bindC;rw [Se λ w hw=>h w (ht _ hw)];split
  ·rfl
  ·have:x≠n:=by rintro rfl;exact h v gS
   simp [this]
theorem Sf {kindOf:Str->Option NameKind} {x:Str} {v:Value} : ∀ {P:bT} {vs:List Value} {i:Nat} {m:Str->c0},P.Nodup->P[i]?=some x->vs[i]?=some v->kindOf x=some .local ->
  bindL kindOf (P.zip vs) m x=some v
 | [],_,_,_,_,h,_,_=>by simp at h
 | _::_,[],_,_,_,_,h,_=>by simp at h
 | p::P,w::vs,0,m,c6,ah,ai,aG=>by
  simp at ah ai;subst ah;subst ai;show bindL kindOf ((p,w)::P.zip vs) m p=_;unfold bindL;rw [Sg λ v ba=>(wH.mp c6).1 (List.of_mem_zip ba).1,if_pos aG];simp
 | p::P,w::vs,i+1,m,c6,ah,ai,aG=>by
  show bindL kindOf ((p,w)::P.zip vs) m x=_;unfold bindL;exact Sf (i:=i) (wH.mp c6).2 (by simpa using ah) (by simpa using ai) aG
theorem Sd {kindOf:Str->Option NameKind} {x:Str} {v:Value} : ∀ {P:bT} {vs:List Value} {i:Nat} {m:Str->c0},P.Nodup->P[i]?=some x->vs[i]?=some v->kindOf x≠some .local ->
  bindC kindOf (P.zip vs) m x=some v
 | [],_,_,_,_,h,_,_=>by simp at h
 | _::_,[],_,_,_,_,h,_=>by simp at h
 | p::P,w::vs,0,m,c6,ah,ai,aG=>by
  simp at ah ai;subst ah;subst ai;show bindC kindOf ((p,w)::P.zip vs) m p=_;unfold bindC;rw [Se λ v ba=>(wH.mp c6).1 (List.of_mem_zip ba).1,if_neg aG];simp
 | p::P,w::vs,i+1,m,c6,ah,ai,aG=>by
  show bindC kindOf ((p,w)::P.zip vs) m x=_;unfold bindC;exact Sd (i:=i) (wH.mp c6).2 (by simpa using ah) (by simpa using ai) aG
noncomputable def start (N:bT) (vs:List V):St:=vs.map some++List.replicate (N.length - vs.length) none
noncomputable def k6 (cH:ik) (P:Program) (w:World) (K:cD) (mg:Str->c0) (base:Heap) (N:bT) (qual:Str) (scope:Scope) (f:Addr) (cd:Value) (A:Around) (outer:List Env) (s:Shared) (H:az) (E:dA):aP where
 prog:=P
 w:=w
 K:=K
 mg:=mg
 base:=base
 A:=A.deeper (envOfC qual scope s.heap.objs.size f cd)
 N:=N
 s₀:=s
 H₀:=H
 env:=envOfC qual scope s.heap.objs.size f cd
 outer:=outer
 stack:=envOfC qual scope s.heap.objs.size f cd::outer
 ex:=[]
 calm:=true
 warm:=true
 fn:=λ _=>true
 j7:=[]
 c3:=λ e s'=>wpAny (model P w) (A.deeper (envOfC qual scope s.heap.objs.size f cd)) (leaving (envOfC qual scope s.heap.objs.size f cd) e) (λ _ jS=>cH outer H s E e jS) (λ c2 jS=>cH outer H s E c2 jS) s'
theorem Rv {x:Str} (h:sc.names.lookup x=some .cell) : ∃ c,(cellsFrom n sc.names []).lookup x=some c:=by
 have q:=C5 sc.names n [] (.inl h);exact C6.mp q
theorem JH {cH:ik} {w:World} {N ag:bT} {f:Addr} {outer:List Env} {H:az} {E:dA} {vs:List V}
  (S:cE N ag scope) (hd:A.handled=none) (bX:oj P w K mg base A outer s H) (av:vs.length=ag.length) (r:Vals vs us)
  (x:InCallC s s.heap.objs.size (bindL (envOfC qual scope s.heap.objs.size f cd).kindOf (ag.zip us) λ _=>none) (cellsFrom (s.heap.objs.size+1) scope.names []) (bindC (envOfC qual scope s.heap.objs.size f cd).kindOf (ag.zip us) λ _=>none) s1) :
  Inv (k6 cH P w K mg base N qual scope f cd A outer s H E) [] (start N vs) H s1:=by
 have dH:ag.length<=N.length:=by have:=nC List.length S.pre;rw [nF] at this;omega
 obtain ⟨ah,bI,rfl,aG⟩:=x.done;have y9 : ∀ b:Addr,b∉(k6 cH P w K mg base N qual scope f cd A outer s H E).ex:=λ b z=>absurd (show b∈([]:List Addr) from z) .zs
 refine #[#[bX.mod,S.kind,rfl,rfl,b9 _,λ y z c ah ai=>?_,λ y aT=>?_,λ y c _ h=>?_,#[λ _=>hd,λ _=>.inl hd],Around.frames_deeper bX.frames,.inr #[rfl,rfl],λ b z=>absurd z (y9 b),bX.bs,bX.jh,λ b _ _=>y9 b,λ b z=>absurd z (y9 b),bX.iQ,bX.lF],
  rfl,bX.bare,fY.kept aG,#[_,x.toInCall.ns,λ i y v ah ai aH=>?_],λ y c h=>#[_,x.cell y c h],bX.a7.fresh (b9 _),λ y c h=>?_,λ p aw=>absurd (show p∈([]:d5) from aw) .zs,bX.a7.kept aG,?_]
 ·exact name_of_addr x.apart (z6 ah) (z6 ai)
 ·have aT:scope.names.lookup y=some .cell\/scope.names.lookup y=some .free:=aT;rcases aT with aT | aT
  ·exact Rv aT
  ·exact absurd rfl (S.abE _ (z6 aT))
 ·exact C2 (x.above y c (z6 h))
 ·have ax:i<vs.length:=by
   unfold start at ai;by_cases ax:i<vs.length
   ·exact ax
   ·rw [wI (by simpa using ax)] at ai;rw [List.getElem?_replicate] at ai;split at ai<;>cases ai
  have ay:vs[i]?=some v:=by
   unfold start at ai;rw [sF (by simpa using ax),fK] at ai;cases e:vs[i]? with
   | none=>rw [e] at ai;cases ai
   | some a=>rw [e] at ai;cases ai;rfl
  obtain ⟨u,br,cx⟩:=r.get ay;have aw:ag[i]?=some y:=by
   rw [<-S.pre,List.getElem?_take_of_lt .aD];exact ah
  have NP:ag.Nodup:=by rw [<-S.pre];exact S.c6.sublist (List.take_sublist _ _)
  refine #[u,cx,?_];rcases S.par y (dr aw) with k | k
  ·exact .inl #[k,Sf NP aw br k]
  ·obtain ⟨c,e⟩:=Rv (n:=s.heap.objs.size+1) k;refine .inr #[.inl k,c,e,?_];have q:=x.cell y c e;rw [Sd NP aw br (by show scope.names.lookup y≠_;rw [k];decide)] at q;exact q
 ·exact bX.a7.fresh (C2 (x.above y c (z6 h)))
 ·unfold start;show _=N.length;rw [fm,bY,List.length_replicate];omega
theorem PK {cH:ik} {w:World} {k:Nat} {f:Addr} {name:Str} {params:Arguments} {A2 cX bg cK:Value} {b6:Option Addr}
  {og:Array c0} {N ag:bT} {sp:b3} (lk:K.lookup f=some ⟨f7,b6,.func (PySem.W.fnOf name qual params body scope A2 cX doc pm an bg cK),og⟩) (iN:PySem.W.codeIn K bg qual=true) (S:cE N ag scope)
  (len : ∀ vs H Q E,sp vs H Q E->vs.length=ag.length)
  (ou : ∀ (A:Around) (outer:List Env) (s:Shared) (H:az) (vs:List V) (Q:bG) (E:dA),er k (A.deeper (envOfC qual scope s.heap.objs.size f bg))->sp vs H Q E ->
   ∃ t,lD (k6 cH P w K mg base N qual scope f bg A outer s H E) body t/\t { bu:=λ _ H'=>Q .bh H',kG:=Q } (start N vs) H) :
  eo P w K mg base cH (k+1) f (PySem.W.fnOf name qual params body scope A2 cX doc pm an bg cK) ag sp:=by
 refine #[len,λ A outer s H args us vs Q E aq bX ae r gv=>?_];have av:=len _ _ _ _ gv;have j3:K.In s.heap:=bX.mod.kS.keeps λ b o e=>(bX.bs b o e).1
 have lim:s.heap.NoLimit:=bX.mod.nolimit.keeps λ b o e=>(bX.bs b o e).1
 have zQ : ∀ y∈ag.zip us,scope.names.lookup y.1=some .local\/(scope.names.lookup y.1=some .cell/\((cellsFrom (s.heap.objs.size+1) scope.names []).lookup y.1).isSome=true):=λ ⟨n,v⟩ aT=>by
  rcases S.par n (List.of_mem_zip aT).1 with q | q
  ·exact .inl q
  ·exact .inr #[q,C5 _ _ _ (.inl q)]
 refine Ig aq.depth (j3 _ _ lk) rfl S.co S.gen rfl (Ih j3 iN) (ae _ _ _ _ ?_);refine Ii S.kind zQ λ env he s1 x=>?_
 subst he;refine #[lim.keeps x.toInCall.keep,codeAny_func ?_];obtain ⟨t,aU,aZ⟩:=ou A outer s H vs Q E (aq.deeper _) gv;have I:Inv (k6 cH P w K mg base N qual scope f bg A outer s H E) [] (start N vs) H s1:=JH S aq.hd bX av r x;refine hb (aU [] s1 (start N vs) H _ I aZ) (λ da s' aB=>?_) λ e s' aB=>aB
 have fin : ∀ {σ':St} {H':az} {v:V} {u:Value},Inv (k6 cH P w K mg base N qual scope f bg A outer s H E) [] σ' H' s'->RelV v u->Q v H'->xt outer P w H s Q u s' :=
  λ {σ' H' v u} J cx q=>#[v,H',J.os,J.bare,J.base,J.a7,cx,q]
 cases da with
 | ret u =>
  obtain ⟨v,σ',H',J,cx,q⟩:=aB;exact fin J cx q
 | next =>
  obtain ⟨σ',H',J,q⟩:=aB;exact fin (v:=V.bh) (u:=Value.none) J rfl q
 | brk =>
  obtain ⟨_,_,_,q⟩:=aB;exact False.elim q
 | cont =>
  obtain ⟨_,_,_,q⟩:=aB;exact False.elim q
section
variable {X:aP} {x:Str} {p pos:Pos} {e:Expr} {ar:List Expr} {t:dc} {id T:String} {r:List V->az->bG->Prop}
noncomputable def uc (r:List V->az->bG->Prop) (t:dc):TE:=λ σ H Q=>t σ H λ vs H1=>r vs H1 Q
theorem aeO (ak:gf X (.builtin id) r) (aS:dW X x) (hm:X.mg x=none) (ba:bootBuiltins x=some (.builtin id)) (ay:iF X (e::ar) t) (aF:x ≠ "__name__" := by decide) (eY:(x == ("__debug__" : Str))=false:=by decide)
  (he:starEach (e::ar) X.env=(false,eval e X.env)::starEach ar X.env:=by rfl) (dH:(backTo pos (starEach ar X.env)).any (·.1)=false:=by rfl):cn X (.Call (.Name x p) (e::ar) [] pos) (uc r t):=by
 intro pins s σ H Q I h;refine pH (pJ I aS hm ba ?_ aF eY);exact PyProof.Rows.callWith_builtin1 (bq (ay pos pins s σ H _ I h) λ us s1 ⟨vs,H1,aK,bJ,bb⟩=>ak pins s1 σ H1 vs us Q aK bJ bb) he dH
theorem agq (ak:gf X (.type T) r) (aS:dW X x) (hm:X.mg x=none) (ba:bootBuiltins x=some (.type T)) (ay:iF X (e::ar) t) (aF:x ≠ "__name__" := by decide) (eY:(x == ("__debug__" : Str))=false:=by decide)
  (he:starEach (e::ar) X.env=(false,eval e X.env)::starEach ar X.env:=by rfl) (dH:(backTo pos (starEach ar X.env)).any (·.1)=false:=by rfl):cn X (.Call (.Name x p) (e::ar) [] pos) (uc r t):=by
 intro pins s σ H Q I h;refine pH (pJ I aS hm ba ?_ aF eY);exact uE (bq (ay pos pins s σ H _ I h) λ us s1 ⟨vs,H1,aK,bJ,bb⟩=>ak pins s1 σ H1 vs us Q aK bJ bb) he dH
end
end bM
noncomputable abbrev bl:=List bM.V
noncomputable abbrev dG:=Option bM.V
variable {g:bM.iH} {o:bM.e6} {xs ys:bl} {σ σ0:bM.St} {H H' bx H1:bM.az} {J:bM.h2} {gr:bM.TI} {y:bM.V} {j9:bM.TE}
namespace d_
open PySem PyProof.Rows
section
variable {w:World} {E:b2}
theorem acu {t b:Addr} {vs ws:List Value} {Q:b2} (aU:IsTup s.heap t vs.toArray) (ae:IsTup s.heap b ws.toArray) (ba:vs≠[])
  (ah:ws=[]->Q (.ref t) s) (ai:ws≠[]->Q (.ref s.heap.objs.size) { s with heap:=s.heap.push { cls:=.type "tuple", data:=.seq (vs++ws).toArray } })
  (hsz:vs.length+ws.length<=sizeLine):wpAny (model prog w) A (binaryOp .Add (.ref t) (.ref b)) Q E s:=by
 obtain ⟨⟨cls,dd,data,cR⟩,aJ,ak,n,hd⟩:=id aU;obtain ⟨⟨alz,MW,data2,Oz⟩,BN,Ng,dB,hd2⟩:=id ae;simp only at ak hd Ng hd2;subst ak hd Ng hd2;have e:vs.toArray++ws.toArray=(vs++ws).toArray:=by simp
 by_cases hw:ws=[]
 ·exact concat_meets #[_,aJ,rfl] #[_,BN,rfl] noFill_tuple_add seq_tuple_add Iw Iy (Iz _ _)
   (tuple_addW1 t b vs.toArray ws.toArray n dB dd MW cR Oz (by simpa using ba) (by simp [hw])) #[aJ,BN,ah hw]
 ·refine concat_meets #[_,aJ,rfl] #[_,BN,rfl] noFill_tuple_add seq_tuple_add Iw Iy (Iz _ _)
   (tuple_addW2 t b vs.toArray ws.toArray n dB dd MW cR Oz (by simpa using ba) (by simpa using hw) (by rw [fe,fe];exact hsz)) #[aJ,BN,?_]
  rw [e];exact ai hw
noncomputable def cU (n d:Nat):Option Int->Nat
 | none=>d
 | some v=>if v<0 then (v+(n:Int)).toNat else min v.toNat n
theorem acb (n d:Nat) (hd:d<=n) (o:Option Int):cU n d o<=n:=by
 cases o with
 | none=>exact hd
 | some v =>
  show (if v<0 then (v+(n:Int)).toNat else min v.toNat n)<=n;by_cases ba:v<0
  ·rw [if_pos ba];omega
  ·rw [if_neg ba];exact Nat.min_le_right _ _
theorem QK (v:Int) (n d:Nat):(if v<0 then max (v+(n:Int)) 0 else min v (n:Int))=((cU n d (some v):Nat):Int):=by
 show (if v<0 then max (v+(n:Int)) 0 else min v (n:Int))=(((if v<0 then (v+(n:Int)).toNat else min v.toNat n):Nat):Int);by_cases ba:v<0
 ·simp only [if_pos ba];omega
 ·simp only [if_neg ba];omega
theorem ahj (lo ax:Option Int) (n:Nat):Builtin.Slice.sliceAdjust lo ax 1 (n:Int)=(((cU n 0 lo:Nat):Int),((cU n n ax:Nat):Int)):=by
 have ah : ¬ ((1:Int)<0):=by omega
 unfold Builtin.Slice.sliceAdjust;simp only [ah,if_false];refine Prod.ext ?_ ?_
 ·cases lo with
  | none=>rfl
  | some v=>exact QK v n 0
 ·cases ax with
  | none=>rfl
  | some v=>exact QK v n n
theorem ahU (i j:Nat):Builtin.Slice.slicePlaces (i:Int) (j:Int) 1=j - i:=by
 unfold Builtin.Slice.slicePlaces;have ah:(1:Int) > 0:=by omega
 simp only [ah,nI,Int.ediv_one];split<;>omega
theorem S7 {v:Value} {o:Option Int} {Q:Option Int->Shared->Prop} (p:IsPart v o) (h:Q o s):wpAny (model prog w) A (Builtin.Slice.slicePartIndex v) Q E s:=by
 cases p with
 | none=>exact slicePart_none h
 | int i t=>exact slicePart_int h
theorem UG {ax:Option Int} {Q:Int×Int×Nat->Shared->Prop} (aB:s.heap.IsSliceOf cR hG hH .none) (pl:IsPart hG lo) (pu:IsPart hH ax)
  (h:Q (((cU n 0 lo:Nat):Int),1,cU n n ax - cU n 0 lo) s):wpAny (model prog w) A (Builtin.Slice.sliceApplied (.ref cR) (pure (n:Int))) Q E s:=by
 obtain ⟨os,tZ,BG,e_⟩:=id aB;unfold Builtin.Slice.sliceApplied Builtin.Slice.sliceFields;refine aC (aC (fc tZ e_ (x:=hG) rfl (aC (fc tZ e_ (x:=hH) rfl (aC (fc tZ e_ (x:=.none) rfl (bH ?_)))))));refine aC (slicePart_none ?_);show wpAny _ _ (if ((1:Int) == 0)=true then _ else _) _ _ s;rw [if_neg .aA];refine aC (S7 pl (aC (S7 pu (aC (bH ?_)))));show wpAny _ _ (match Builtin.Slice.sliceAdjust lo ax 1 (n:Int) with | (lo,ax)=>pure (lo,(1:Int),Builtin.Slice.slicePlaces lo ax 1)) _ _ s;rw [ahj lo ax n];show wpAny _ _ (pure (((cU n 0 lo:Nat):Int),(1:Int),Builtin.Slice.slicePlaces ((cU n 0 lo:Nat):Int) ((cU n n ax:Nat):Int) 1)) _ _ s;rw [ahU];exact bH h
theorem aeW (xs:cZ) (i k:Nat):((List.range k).filterMap λ (m:Nat)=>xs[((i:Int)+(m:Int) * 1).toNat]?).toArray=((xs.toList.drop i).take k).toArray:=by
 have e:(λ (m:Nat)=>xs[((i:Int)+(m:Int) * 1).toNat]?)=λ m=>xs[i+m]?:=by
  funext m;have:((i:Int)+(m:Int) * 1).toNat=i+m:=by omega
  rw [this]
 rw [e];have:=pick_run xs i k;rw [List.filterMap_map] at this;have aO:((λ x=>xs[x]?) ∘ λ x=>i+x)=λ m=>xs[i+m]?:=rfl
 rw [aO] at this;rw [this]
theorem ajT {t:Addr} {items:cZ} {ax:Option Int} {Q:b2} (aU:IsTup s.heap t items) (aB:s.heap.IsSliceOf cR hG hH .none) (pl:IsPart hG lo) (pu:IsPart hH ax)
  (hw : ¬ (cU items.size 0 lo=0/\cU items.size items.size ax=items.size))
  (h:Q (.ref s.heap.objs.size) { s with heap:=s.heap.push { cls:=.type "tuple", data:=.seq ((items.toList.drop (cU items.size 0 lo)).take (cU items.size items.size ax - cU items.size 0 lo)).toArray } })
  (hsz:items.size<=sizeLine):wpAny (model prog w) A (getItem (.ref t) (.ref cR)) Q E s:=by
 have CQ:sizeOk (.seq ((items.toList.drop (cU items.size 0 lo)).take (cU items.size items.size ax - cU items.size 0 lo)).toArray):=by
  show ((items.toList.drop (cU items.size 0 lo)).take (cU items.size items.size ax - cU items.size 0 lo)).toArray.size<=sizeLine;rw [fe,nF,List.length_drop,jv];omega
 have b5:cU items.size items.size ax<=items.size:=acb _ _ (b9 _) ax;obtain ⟨os,tZ,BG,e_⟩:=id aB;have F8:s.TypeIs (.ref cR) "slice" := #[os,tZ,BG]
 unfold getItem
 try with_reducible refine hY ?_
 first | refine aC (bH ?_) | skip
 refine aC (wpAny_sequenceKey aU.typeIs .aA ?_);refine aC (nA (name:=Str.ofString "__getitem__") aU.typeIs wM
  (lW wM aU.typeIs entry_tuple_getitem ?_ (args_tuple_getitem _ _)))
 show wpAny _ _ (Builtin.Tuple.tupleItemsOf (.ref t)>>=_) _ _ s;refine aC (tupleItemsOf_ aU ?_);refine aC (Ac F8 ?_);rw [if_pos .aA];refine aC (UG aB pl pu ?_);have lJ : ¬ ((((cU items.size 0 lo:Nat):Int) == 0&&(1:Int) == 1&&(cU items.size items.size ax - cU items.size 0 lo) == items.size)=true):=by
  intro q;rw [jA,jA] at q;have bb:((cU items.size 0 lo:Nat):Int)=0:=eq_of_beq q.1.1;have cg:cU items.size items.size ax - cU items.size 0 lo=items.size:=eq_of_beq q.2;exact hw #[.aD,.aD]
 show wpAny _ _ (if (((cU items.size 0 lo:Nat):Int) == 0&&(1:Int) == 1&&(cU items.size items.size ax - cU items.size 0 lo) == items.size)=true then _ else _) _ _ s;rw [if_neg lJ,aeW]
 first
  | exact aC (m:=Builtin.Tuple.tupleExact _) (mG (bH #[_,rfl,bH h]) CQ)
  | exact aC (m:=Builtin.Tuple.tupleExact _) (mG (aC (bH (bH #[_,rfl,bH h]))) CQ)
  | exact aC (aC (m:=Builtin.Tuple.tupleExact _) (mG (bH (bH #[_,rfl,bH h])) CQ))
  | exact aC (aC (m:=Builtin.Tuple.tupleExact _) (mG (bH #[_,rfl,bH h]) CQ))
end
end d_
namespace bM
open PySem PySem.Spec PyProof.Rows
noncomputable abbrev c9:=St->az->(Option Int->az->Prop)->Prop
noncomputable def xA (X:aP) (e:Option Expr) (t:c9):Prop :=
 ∀ (pins:d5) (s:Shared) (σ:St) (H:az) (Q:Option Int->az->Prop),Inv X pins σ H s->t σ H Q ->
  wpAny (model X.prog X.w) X.A (evalPart e X.env) (λ u s' => ∃ o H',Inv X pins σ H' s'/\IsPart u o/\Q o H') X.c3 s
noncomputable def uW:c9:=λ _ H Q=>Q none H
noncomputable def uv (t:TE):c9:=λ σ H Q=>t σ H λ x H1 => ∃ i,x=.int i/\Q (some i) H1
theorem intsAre_of : ∀ {us:List Value},Vals (ns.map V.int) us->IntsAre us ns:=by
 induction ns with
 | nil=>intro us r;rw [List.map_nil] at r;cases r;exact .nil
 | cons n ns cQ =>
  intro us r;rw [iZ] at r;cases r with
  | cons bJ b8 =>
   obtain ⟨t,e⟩:=bJ;subst e;exact .cons n t (cQ b8)
section
variable {X:aP} {e:Expr} {bp:TE} {lo ax:Option Expr} {d1 bC:c9} {pos dm:Pos}
theorem ac2:xA X none uW:=by
 intro pins s σ H Q I h;rw [evalPart_none];exact bH #[none,H,I,.none,h]
theorem ac3 (h:cn X e bp):xA X (some e) (uv bp):=by
 intro pins s σ H Q I hw;rw [evalPart_some];refine bq (h pins s σ H _ I hw) ?_;rintro u s1 ⟨x,H1,aK,bJ,bb⟩
 obtain ⟨i,rfl,q⟩:=bb;obtain ⟨t,rfl⟩:=bJ;exact #[some i,H1,aK,.int i t,q]
noncomputable def lE (X:aP) (r:V->Option Int->Option Int->az->bG->Prop):Prop :=
 ∀ (pins:d5) (s:Shared) (σ:St) (H:az) (x:V) (v hG hH:Value) (lo ax:Option Int) (cR:Addr) (Q:bG),Inv X pins σ H s->RelV x v->s.heap.IsSliceOf cR hG hH .none->IsPart hG lo->IsPart hH ax->r x lo ax H Q ->
  ∃ T id,typeLookup (.type T) "__getitem__" = pure (some (.builtin id))/\s.TypeIs v T/\wpAny (model X.prog X.w) X.A (getItem v (.ref cR)) (hA X pins σ Q) X.c3 s
theorem lE.or {r bP:V->Option Int->Option Int->az->bG->Prop} (h:lE X r) (h':lE X bP):lE X (λ x lo ax H Q=>r x lo ax H Q\/bP x lo ax H Q):=by
 intro pins s σ H x v hG hH lo ax cR Q I a5 aB pl pu q;rcases q with q | q
 ·exact h pins s σ H x v hG hH lo ax cR Q I a5 aB pl pu q
 ·exact h' pins s σ H x v hG hH lo ax cR Q I a5 aB pl pu q
noncomputable def ud (r:V->Option Int->Option Int->az->bG->Prop) (bp:TE) (d1 bC:c9):TE:=λ σ H Q=>bp σ H λ x H1=>d1 σ H1 λ l au=>bC σ au λ u aW=>r x l u aW Q
theorem aeU {r:V->Option Int->Option Int->az->bG->Prop} (aq:lE X r) (he:cn X e bp) (av:xA X lo d1) (br:xA X ax bC):cn X (.Subscript e (.Slice lo ax none dm) pos) (ud r bp d1 bC):=by
 intro pins s σ H Q I h;refine Subscript_ (bq (he pins s σ H _ I h) ?_);rintro v s1 ⟨x,H1,aK,bJ,bb⟩;refine wpAny_Slice (bq (av pins s1 σ H1 _ aK bb) ?_);rintro hG s2 ⟨l,au,cm,pl,cg⟩;refine bq (br pins s2 σ au _ cm cg) ?_;rintro hH s3 ⟨u,aW,cv,pu,eQ⟩;rw [evalPart_none];refine bH ?_;have eM:Inv X pins σ aW { s3 with heap:=s3.heap.push { cls:=.type "slice", data:=.fields [hG,hH,.none].toArray } }:=cv.kept (t':=s3.toks) λ b b7 q=>bK _ q
 obtain ⟨T,id,b0,aU,aS⟩:=aq pins { s3 with heap:=s3.heap.push { cls:=.type "slice", data:=.fields [hG,hH,.none].toArray } } σ aW x v hG hH l u s3.heap.objs.size Q eM bJ (Heap.IsSliceOf.new ..) pl pu eQ;show wpAny (model X.prog X.w) X.A (subscriptTail e (.Slice lo ax none dm) v (.ref s3.heap.objs.size)) (hA X pins σ Q) X.c3 { s3 with heap:=s3.heap.push { cls:=.type "slice", data:=.fields [hG,hH,.none].toArray } };exact tail_any (ops:=[.ref s3.heap.objs.size,v]) aU b0 aS (by with_unfolding_all rfl)
noncomputable def mB (xs:bl) (lo ax:Option Int):bl:=(xs.drop (d_.cU xs.length 0 lo)).take (d_.cU xs.length xs.length ax - d_.cU xs.length 0 lo)
theorem Tg (xs:bl) (lo ax:Option Int):(mB xs lo ax).length<=xs.length:=by
 unfold mB;rw [nF,List.length_drop];omega
noncomputable def HP (K:cD):V->Option Int->Option Int->az->bG->Prop:=λ x lo ax H Q => ∃ a xs,x=.ref a/\a0 K H a xs /\
 ¬ (d_.cU xs.length 0 lo=0/\d_.cU xs.length xs.length ax=xs.length) /\ ∀ p,H p=none->Q (.ref p) (upd H p (.tup (mB xs lo ax)))
theorem ace:lE X (HP X.K):=by
 intro pins s σ H x v hG hH lo ax cR Q I a5 aB pl pu h;obtain ⟨a,xs,rfl,aj,hw,q⟩:=h;cases a5;obtain ⟨its,r,aU,a6⟩:=I.tuple aj;have hlen:its.toArray.size=xs.length:=by rw [fe];exact r.length.symm
 refine #["tuple", _,wM.lookup,aU.typeIs,?_];refine d_.ajT aU aB pl pu (by rw [hlen];exact hw) ?_ (by rw [hlen];exact a6);rw [hlen];refine #[.ref s.heap.objs.size,_,I.laid (t':=s.toks) (o:=.tup (mB xs lo ax)) (λ b b7 q=>bK _ q) (b9 _) ?_,rfl,q _ (I.a7.fresh (b9 _))];exact #[fl (Tg xs lo ax) a6,_,(r.drop (d_.cU xs.length 0 lo)).take (d_.cU xs.length xs.length ax - d_.cU xs.length 0 lo),oD.new _ _]
noncomputable def H7 (K:cD):fy:=λ x y H Q => ∃ a b xs ys,x=.ref a/\y=.ref b/\a0 K H a xs/\a0 K H b ys/\xs≠[]/\xs.length+ys.length<=sizeLine /\
 (ys=[]->Q (.ref a) H)/\(ys≠[] -> ∀ p,H p=none->Q (.ref p) (upd H p (.tup (xs++ys))))
theorem Vals.DG (r:Vals xs us):us=[] ↔ xs=[]:=by
 cases r with
 | nil=>simp
 | cons _ _=>simp
theorem acP:dC X (binaryOp .Add) (H7 X.K):=by
 intro pins s σ H x y v u Q I a5 bt h;obtain ⟨a,b,xs,ys,rfl,rfl,ay,ae,aj,a6,bb,cg⟩:=h;cases a5;cases bt;obtain ⟨its,bJ,p1,_⟩:=I.tuple ay;obtain ⟨sm,b8,dm,_⟩:=I.tuple ae;refine d_.acu p1 dm (λ z=>aj (bJ.DG.mp z)) (λ z=>#[.ref a,H,I,rfl,bb (b8.DG.mp z)]) (λ z=>?_) (by rw [<-bJ.length,<-b8.length];exact a6);refine #[.ref s.heap.objs.size,_,I.laid (t':=s.toks) (o:=.tup (xs++ys)) (λ b b7 q=>bK _ q) (b9 _) ?_,rfl,cg (λ w=>z (b8.DG.mpr w)) _ (I.a7.fresh (b9 _))];exact #[by rw [fm];exact a6,_,bJ.append b8,oD.new _ _]
end
noncomputable def od (n:Nat) (i:Int):Option Nat:=if 0<=i then (if i<n then some i.toNat else none) else if -(n:Int)<=i then some (i+n).toNat else none
noncomputable def il {α : Type} (xs:List α) (i:Int):Option α := (od xs.length i).bind λ j=>xs[j]?
theorem QW {i:Int} {j:Nat} (h:od n i=some j):seqIndex? i n=some j/\j<n /\ -(n:Int)<=i/\i<n:=by
 unfold od at h;by_cases h0:0<=i
 ·rw [if_pos h0] at h;by_cases ah:i<n
  ·rw [if_pos ah] at h;have e:i.toNat=j:=gR h;exact #[by rw [seqIndex_of h0 ah,e],.aD,.aD,ah]
  ·rw [if_neg ah] at h;cases h
 ·rw [if_neg h0] at h;by_cases ah : -(n:Int)<=i
  ·rw [if_pos ah] at h;have e:(i+n).toNat=j:=gR h;exact #[by rw [seqIndex_neg .aD ah,e],.aD,ah,.aD]
  ·rw [if_neg ah] at h;cases h
theorem IP {α: Type} {xs:List α} {i:Int} {v: α} (h:il xs i=some v) : ∃ j,seqIndex? i xs.length=some j/\xs[j]?=some v/\j<xs.length /\ -(xs.length:Int)<=i/\i<xs.length:=by
 unfold il at h;cases e:od xs.length i with
 | none=>rw [e] at h;cases h
 | some j =>
  rw [e] at h;obtain ⟨ah,ai,aH,a4⟩:=QW e;exact #[j,ah,h,ai,aH,a4]
theorem QH {α: Type} {xs:List α} {j:Nat} {v: α} (h:xs[j]?=some v):il xs (j:Int)=some v:=by
 have b5:j<xs.length:=(fJ.mp h).1;have e:od xs.length (j:Int)=some j:=by
  unfold od;rw [if_pos .aD,if_pos .aD];simp
 unfold il;rw [e];exact h
theorem Ru {α: Type} (xs:List α) (v : α):il (xs++[v]) (-1)=some v:=by
 have av:(xs++[v]).length=xs.length+1:=by simp
 have e:od (xs++[v]).length (-1)=some xs.length:=by
  unfold od;rw [av,if_neg .aA,if_pos .aD];congr 1;omega
 unfold il;rw [e];show (xs++[v])[xs.length]?=some v;simp
noncomputable def QF (b:Expr):Prop := ∀ o i,subscripted b false o i=operate [o,i] (getItem o i)
noncomputable def x7 (X:aP) (r:fy):Prop :=
 ∀ (value slice:Expr) (pins:d5) (s:Shared) (σ:St) (H:az) (x y:V) (v u:Value) (Q:bG),Inv X pins σ H s->RelV x v->RelV y u->r x y H Q ->
  subscripted slice false v u=operate [v,u] (getItem v u)->wpAny (model X.prog X.w) X.A (subscriptTail value slice v u) (hA X pins σ Q) X.c3 s
noncomputable def vH (X:aP) (id:String) (r:V->bl->az->bG->Prop):Prop :=
 ∀ (pins:d5) (s:Shared) (σ:St) (H:az) (x:V) (xs:bl) (v:Value) (us:List Value) (Q:bG),Inv X pins σ H s->RelV x v->Vals xs us->r x xs H Q ->
  wpAny (model X.prog X.w) X.A (call (.builtin id) (v::us)) (hA X pins σ Q) X.c3 s
section
variable {X:aP} {a b:Expr} {a3 bz:TE} {pos:Pos}
theorem aaW {r:fy} (aq:x7 X r) (ay:cn X a a3) (ae:cn X b bz) (aB:QF b):cn X (.Subscript a b pos) (g8 r a3 bz):=by
 intro pins s σ H Q I h;exact Subscript_ (Hs ay ae I h λ v u s2 x y au cm a5 bt q=>aq a b pins s2 σ au x y v u Q cm a5 bt q (aB _ _))
noncomputable def zG (K:cD):fy:=λ x y H Q => ∃ p xs i v,x=.ref p/\y=.int i/\a9 K H p xs/\il xs i=some v/\Q v H
noncomputable def aar (K:cD):fy:=λ x y H Q => ∃ p xs i v,x=.ref p/\y=.int i/\a0 K H p xs/\il xs i=some v/\Q v H
noncomputable def Pq:fy:=λ x y H Q => ∃ z i c,x=.str z/\y=.int i/\z.length<=sizeLine/\il z.cps.toList i=some c/\Q (.str ⟨[c].toArray⟩) H
theorem fE:x7 X (zG X.K):=by
 intro value slice pins s σ H x y v u Q I a5 bt h aB;obtain ⟨p,xs,i,z,rfl,rfl,aZ,he,q⟩:=h;cases a5;obtain ⟨t,rfl⟩:=bt;obtain ⟨its,r,pl,a6⟩:=I.list aZ;obtain ⟨j,ah,ai,aH,a4,b4⟩:=IP he;obtain ⟨w,rJ,g7⟩:=r.get ai;have av:=r.length;have aF:=uI;have fin:hA X pins σ Q w s:=#[z,H,I,g7,q]
 by_cases h0:0<=i
 ·have b5:i.toNat=j:=by
   rw [seqIndex_of h0 b4] at ah;exact gR ah
  exact item_listR pl.isList h0 .aD (by rw [b5];simpa using rJ) fin aB
 ·have b5:(i+(its.toArray.size:Int)).toNat=j:=by
   rw [seqIndex_neg .aD a4] at ah;rw [fe,<-av];exact gR ah
  exact subscriptTail_builtinR (x:=w) pl.isList.typeIs slot_list_getitem.lookup
   (wpAny_getItem_list_neg (Q:=λ r s'=>r=w/\hA X pins σ Q r s') pl.isList .aD (by rw [fe]<;>omega) .aD (by rw [b5];simpa using rJ) #[rfl,fin]) aB
theorem iA:x7 X (aar X.K):=by
 intro value slice pins s σ H x y v u Q I a5 bt h aB;obtain ⟨p,xs,i,z,rfl,rfl,aZ,he,q⟩:=h;cases a5;obtain ⟨t,rfl⟩:=bt;obtain ⟨its,r,pl,a6⟩:=I.tuple aZ;obtain ⟨j,ah,ai,aH,a4,b4⟩:=IP he;obtain ⟨w,rJ,g7⟩:=r.get ai;have av:=r.length;have aF:=uI;have fin:hA X pins σ Q w s:=#[z,H,I,g7,q]
 exact subscriptTail_builtinR (x:=w) pl.typeIs slot_tuple_getitem.lookup
  (getItem_tuple (j:=j) (Q:=λ r s'=>r=w/\hA X pins σ Q r s') pl .aD .aD (by rw [fe,<-av];exact ah) (by simpa using rJ) #[rfl,fin]) aB
theorem abu:x7 X Pq:=by
 intro value slice pins s σ H x y v u Q I a5 bt h aB;obtain ⟨z,i,c,rfl,rfl,a6,he,q⟩:=h;obtain ⟨t,rfl⟩:=a5;obtain ⟨t',rfl⟩:=bt;obtain ⟨j,ah,ai,aH,a4,b4⟩:=IP he;have av:z.cps.toList.length=z.length:=by simp [Str.length]
 rw [av] at ah a4 b4;have aF:=uI;exact tail_any (typeIs_str s z t) slot_str_getitem.lookup (getItem_str (c:=c) (by
  have aM:decide (i < -(2 ^ 63:Int))=false:=dN .aD;have aO:decide (i ≥ 2 ^ 63)=false:=dN .aD;rw [aM,aO,Bool.or_false]) (by rw [ah];simpa using ai) #[.str #[[c].toArray],H,I.tok _,#[_,rfl],q]) aB
theorem ahJ (its:List Value) (n j:Nat) (u:Value):Obj.mapSeq (·.setIfInBounds j u) { cls:=.type "list", data:=.seq its.toArray n }={ cls:=.type "list", data:=.seq (its.set j u).toArray n }:=by
 simp [Obj.mapSeq]
theorem Inv.lst {p:Addr} (I:Inv X pins σ H s) (h:H p=some (.lst xs)) :
  ∃ (its:List Value) (n:Nat),Vals xs its/\s.heap.get? p=some { cls:=.type "list", data:=.seq its.toArray n }/\xs.length<=sizeLine:=by
 obtain ⟨z,its,n,r,e⟩:=I.a7 p _ h;exact #[its,n,r,e,z]
theorem Inv.abA {p:Addr} {its':List Value} {b1:Nat} {f:Obj->Obj} (I:Inv X pins σ H s) (h:H p=some (.lst xs))
  (aJ:s.heap.get? p=some { cls:=.type "list", data:=.seq its.toArray n }) (hf:f { cls:=.type "list", data:=.seq its.toArray n }={ cls:=.type "list", data:=.seq its'.toArray b1 }) (r:Vals ys its') (a6:ys.length<=sizeLine) (t:Nat) :
  Inv X pins σ (upd H p (.lst ys)) { s with heap:=s.heap.update p f,toks:=t }:=by
 have e:(s.heap.update p f).get? p=some { cls:=.type "list", data:=.seq its'.toArray b1 }:=by
  rw [oz f aJ (by rw [hf]<;>rfl),hf]
 refine I.write (x:=p) (e:=p) (by rw [h];trivial) (.inl rfl) (λ b u ae q=>(ju _ _ (ek ae)).trans q) #[_,e] ?_;exact #[a6,its',b1,r,e]
noncomputable def P1:V->V->V->az->(az->Prop)->Prop:=λ o i v H Q => ∃ p xs k j,o=.ref p/\i=.int k/\H p=some (.lst xs)/\od xs.length k=some j/\Q (upd H p (.lst (xs.set j v)))
theorem set_list:Cq X P1:=by
 intro pins s σ H o i v df ed u Q I VA Vz cx h;obtain ⟨p,xs,k,j,rfl,rfl,aw,b5,q⟩:=h;cases VA;obtain ⟨t,rfl⟩:=Vz;obtain ⟨its,n,r,aJ,a6⟩:=I.lst aw;obtain ⟨ah,ai,aH,a4⟩:=QW b5;have av:=r.length;have aF:=uI;have j2:Inv X pins σ (upd H p (.lst (xs.set j v))) { s with heap:=s.heap.update p (Obj.mapSeq (·.setIfInBounds j u)) } :=
  I.abA aw aJ (ahJ its n j u) (r.set cx j) (by rw [uN];exact a6) s.toks
 by_cases h0:0<=k
 ·have aG:k.toNat=j:=by
   rw [seqIndex_of h0 a4] at ah;exact gR ah
  exact PySem.W.ki_setAt aJ h0 .aD (by rw [fe,<-av];exact a4) (by rw [aG];exact #[_,j2,q])
 ·have aG:(k+(its.toArray.size:Int)).toNat=j:=by
   rw [seqIndex_neg .aD aH] at ah;rw [fe,<-av];exact gR ah
  exact PySem.W.ki_setBack aJ .aD (by rw [fe,<-av];exact aH) .aD (by rw [aG];exact #[_,j2,q])
theorem aiU (lo ax:Option Int) (n:Nat):(sliceBounds lo ax none n).1=((d_.cU n 0 lo:Nat):Int)/\(sliceBounds lo ax none n).2.1=((d_.cU n n ax:Nat):Int)/\(sliceBounds lo ax none n).2.2=1:=by
 refine #[?_,?_,rfl]
 ·cases lo with
  | none=>simp [sliceBounds,d_.cU]
  | some i =>
   simp only [sliceBounds,d_.cU,Option.getD_none,show (1:Int) > 0 by decide,nI];by_cases h:i<0
   ·simp only [h,nI]<;>omega
   ·simp only [h,if_false]<;>omega
 ·cases ax with
  | none=>simp [sliceBounds,d_.cU]
  | some i =>
   simp only [sliceBounds,d_.cU,Option.getD_none,show (1:Int) > 0 by decide,nI];by_cases h:i<0
   ·simp only [h,nI]<;>omega
   ·simp only [h,if_false]<;>omega
theorem ajk (its:List Value) (lo ax:Option Int):slicePick its.toArray lo ax none=((its.drop (d_.cU its.length 0 lo)).take (d_.cU its.length its.length ax - d_.cU its.length 0 lo)).toArray:=by
 obtain ⟨ah,ai,aH⟩:=aiU lo ax its.toArray.size;unfold slicePick;rw [ah,ai,aH];simp only [sliceRange_one,pick_run,fe]<;>rfl
noncomputable def aau (K:cD):V->Option Int->Option Int->az->bG->Prop:=λ x lo ax H Q => ∃ a xs,x=.ref a/\a9 K H a xs /\ ∀ p,H p=none->Q (.ref p) (upd H p (.lst (mB xs lo ax)))
theorem adz:lE X (aau X.K):=by
 intro pins s σ H x v hG hH lo ax cR Q I a5 aB pl pu h;obtain ⟨a,xs,rfl,aj,q⟩:=h;cases a5;obtain ⟨its,r,aU,a6⟩:=I.list aj;have hlen:=r.length;refine #["list", _,slot_list_getitem.lookup,aU.isList.typeIs,?_];refine wpAny_getItem_list_slice aU.isList aB pl pu .none .zs ?_ (by rw [fe]<;>omega);rw [ajk,<-hlen];refine #[.ref s.heap.objs.size,_,I.laid (t':=s.toks) (o:=.lst (mB xs lo ax)) (λ b b7 q=>bK _ q) (b9 _) ?_,rfl,q _ (I.a7.fresh (b9 _))];exact #[fl (Tg xs lo ax) a6,_,0,(r.drop (d_.cU xs.length 0 lo)).take (d_.cU xs.length xs.length ax - d_.cU xs.length 0 lo),d6 _ rfl]
theorem h1:gf X (.builtin "len") (λ xs H Q => ∃ p ys,xs=[.ref p]/\(a9 X.K H p ys\/a0 X.K H p ys)/\Q (.int ys.length) H):=by
 intro pins s σ H xs us Q I r h;obtain ⟨p,ys,rfl,aZ,q⟩:=h;obtain ⟨u,rfl,a5⟩:=vals1 r;cases a5;have aF:=uI;rcases aZ with aZ | aZ
 ·obtain ⟨its,bP,pl,a6⟩:=I.list aZ;have hlen:=bP.length;exact Calls.call_len_list pl.isList (by simp only [fe]<;>omega) #[.int ys.length,H,I.tok _,#[s.toks+1,by rw [fe,hlen]],q]
 ·obtain ⟨its,bP,pl,a6⟩:=I.tuple aZ;have hlen:=bP.length;exact len_tuple pl (by simp only [fe]<;>omega) #[.int ys.length,H,I.tok _,#[s.toks+1,by rw [fe,hlen]],q]
theorem Kx:gf X (.builtin "len") (λ xs H Q => ∃ z,xs=[.str z]/\z.length<=sizeLine/\Q (.int z.length) H):=by
 intro pins s σ H xs us Q I r h;obtain ⟨z,rfl,a6,q⟩:=h;obtain ⟨u,rfl,t,rfl⟩:=vals1 r;have aF:=uI;exact len_str .aD #[.int z.length,H,I.tok _,#[_,rfl],q]
theorem aiC:gf X (.type "list") (λ xs H Q => ∃ p ys,xs=[.ref p]/\(a9 X.K H p ys\/a0 X.K H p ys) /\ ∀ l,H l=none->Q (.ref l) (upd H l (.lst ys))):=by
 intro pins s σ H xs us Q I r h;obtain ⟨p,ys,rfl,aZ,q⟩:=h;obtain ⟨u,rfl,a5⟩:=vals1 r;cases a5;have fin : ∀ (its:List Value),Vals ys its->ys.length<=sizeLine -> ∀ (h':Heap) (cq:Nat),(∀ b ey,s.heap.get? b=some ey->h'.get? b=some ey) ->
   h'.get? s.heap.objs.size=some { cls:=.type "list", dict:=none,data:=.seq its.toArray cq,slots:=#[] }->hA X pins σ Q (.ref s.heap.objs.size) { s with heap:=h' }:=λ its bP a6 h' cq bf e =>
  #[.ref s.heap.objs.size,_,I.laid (t':=s.toks) bf (b9 _) (show et X.prog X.w _ h' _ (.lst ys) from #[a6,its,cq,bP,e]),rfl,q _ (I.a7.fresh (b9 _))]
 rcases aZ with aZ | aZ
 ·obtain ⟨its,bP,pl,a6⟩:=I.list aZ;have hlen:=bP.length;obtain ⟨o,aJ,ak,n,hd⟩:=pl.isList;exact call_list_seq p (.inl rfl) aJ ak hd (λ h' cq bf e=>fin its bP a6 h' cq bf e) (by simp only [fe]<;>omega)
 ·obtain ⟨its,bP,pl,a6⟩:=I.tuple aZ;have hlen:=bP.length;obtain ⟨o,aJ,ak,n,hd⟩:=pl;exact call_list_seq p (.inr rfl) aJ ak hd (λ h' cq bf e=>fin its bP a6 h' cq bf e) (by simp only [fe]<;>omega)
theorem xm:gf X (.type "tuple") (λ xs H Q => ∃ p ys,xs=[.ref p]/\((a9 X.K H p ys /\ ∀ l,H l=none->Q (.ref l) (upd H l (.tup ys)))\/(a0 X.K H p ys/\Q (.ref p) H))):=by
 intro pins s σ H xs us Q I r h;obtain ⟨p,ys,rfl,h⟩:=h;obtain ⟨u,rfl,a5⟩:=vals1 r;cases a5;rcases h with ⟨aZ,q⟩ | ⟨aZ,q⟩
 ·obtain ⟨its,bP,pl,a6⟩:=I.list aZ;have hlen:=bP.length;refine call_tuple_list pl.isList (λ h' bf=>?_) (by simp only [fe]<;>omega);have aK:Inv X pins σ H { s with heap:=h' }:=I.kept (t':=s.toks) bf;have cm:Inv X pins σ (upd H h'.objs.size (.tup ys)) { s with heap:=h'.push { cls:=.type "tuple", data:=.seq its.toArray } } :=
   aK.laid (t':=s.toks) (λ b o e=>bK _ e) (b9 _) (show et X.prog X.w _ _ _ (.tup ys) from #[a6,its,bP,oD.new _ _])
  exact #[.ref h'.objs.size,_,cm,rfl,q _ (aK.a7.fresh (b9 _))]
 ·obtain ⟨its,bP,pl,a6⟩:=I.tuple aZ;exact call_tuple_same pl #[.ref p,H,I,rfl,q]
noncomputable def Hk (K:cD) (T:String) (x:V) (H:az):Prop:=match x with
 | .str _=>T = "str"
 | .int _=>T = "int"
 | .ref p=>(T = "list" /\ ∃ xs,a9 K H p xs)\/(T = "tuple" /\ ∃ o,K.lookup p=some o/\o.cls=.type "tuple" /\ o.dict=none) \/
   (T = "dict" /\ ((∃ kvs,H p=some (.bF kvs)) \/ ∃ kvs,H p=some (.j4 kvs)))\/(T = "set" /\ ∃ S n,H p=some (.set S n))
 | _=>False
theorem Qz {T:String} {x:V} {v:Value} (I:Inv X pins σ H s) (r:RelV x v) (ty:Hk X.K T x H) :
  s.TypeIs v T /\ ∀ a,v=.ref a -> ∃ b7,s.heap.get? a=some b7/\b7.dict=none:=by
 cases x with
 | str z =>
  obtain ⟨t,rfl⟩:=r;cases (show T = "str" from ty);exact #[typeIs_str s z t,λ _ e=>nomatch e]
 | int i =>
  obtain ⟨t,rfl⟩:=r;cases (show T = "int" from ty);exact #[Ad s i t,λ _ e=>nomatch e]
 | ref p =>
  cases r;rcases ty with ⟨rfl,xs,aZ⟩ | ⟨rfl,o,aG,ak,hd⟩ | ⟨rfl,aG⟩ | ⟨rfl,S,n,aG⟩
  ·obtain ⟨its,_,pl,_⟩:=I.list aZ;refine #[pl.isList.typeIs,λ a e=>?_];cases e;obtain ⟨o,n,e,c,hd,_⟩:=pl;exact #[o,e,hd]
  ·refine #[#[o,I.eb p o aG,ak],λ a e=>?_];cases e;exact #[o,I.eb _ o aG,hd]
  ·have z : ∃ o,s.heap.get? p=some o/\o.ExactDict:=by
    rcases aG with ⟨kvs,aG⟩ | ⟨kvs,aG⟩
    ·obtain ⟨_,_,_,_,o,_,_,e,ex,_⟩:=I.a7 p _ aG;exact #[o,e,ex]
    ·obtain ⟨_,_,_,_,o,_,_,e,ex,_⟩:=I.a7 p _ aG;exact #[o,e,ex]
   obtain ⟨o,e,ex⟩:=z;refine #[#[o,e,ex.1],λ a aO=>?_];cases aO;exact #[o,e,ex.2.1]
  ·obtain ⟨o,_,_,_,e,ex,_⟩:=I.a7 p _ aG;refine #[#[o,e,ex.1],λ a aO=>?_];cases aO;exact #[o,e,ex.2.1]
 | _=>exact False.elim ty
noncomputable def Pz (K:cD) (T:String) (r:V->bl->az->bG->Prop) (to:TE):TE:=λ σ H Q=>to σ H λ x H1=>Hk K T x H1/\r x [] H1 Q
noncomputable def OF (K:cD) (T:String) (r:V->bl->az->bG->Prop) (to:TE) (t:dc):TE:=λ σ H Q=>to σ H λ x H1=>Hk K T x H1/\t σ H1 λ xs au=>r x xs au Q
variable {o e:Expr} {ar:List Expr} {to:TE} {t:dc} {name:Str} {apos ej:Pos} {T id:String} {r:V->bl->az->bG->Prop}
theorem abK (fM:PlainAttrs T) (slot:Slot T name id) (t4:typeOf (.builtin id)=pure (.type "method_descriptor")) (hm:vH X id r) (aJ:cn X o to)
  (k_:attributeBase o name X.env (eval o X.env)=eval o X.env:=by rfl) (ur:(apos.endLine == ej.line)=true:=by rfl):cn X (.Call (.Attribute o name apos) [] [] ej) (Pz X.K T r to):=by
 intro pins s σ H Q I h;refine wpAny_Call_method0_late k_ ur (bq (aJ pins s σ H _ I h) ?_);rintro v s1 ⟨x,H1,aK,bJ,ty,bb⟩;obtain ⟨ah,ai⟩:=Qz aK bJ ty;exact #[T,id,fM,slot,t4,ah,ai,Calls.callWith_builtin rfl (PySem.evalArgs_none (hm pins s1 σ H1 x [] v [] Q aK bJ .nil bb))]
theorem aaV (fM:PlainAttrs T) (slot:Slot T name id) (t4:typeOf (.builtin id)=pure (.type "method_descriptor")) (hm:vH X id r) (aJ:cn X o to) (ay:iF X (e::ar) t)
  (k_:attributeBase o name X.env (eval o X.env)=eval o X.env:=by rfl)
  (Hy:((backTo ej (starEach (e::ar) X.env)).all (λ x => !x.1)&&(backToKw ej (keywordEach [] X.env)).all (λ x=>x.1.isSome)
   && decide ((e::ar).length+([]:List Keyword).length+(if ([]:List Keyword).isEmpty then 0 else 1)<30))=true:=by rfl)
  (ur:(apos.endLine == ej.line)=true:=by rfl) (aB:starEach (e::ar) X.env=(false,eval e X.env)::starEach ar X.env:=by rfl) (z8:(backTo ej (starEach ar X.env)).any (·.1)=false:=by rfl) :
  cn X (.Call (.Attribute o name apos) (e::ar) [] ej) (OF X.K T r to t):=by
 intro pins s σ H Q I h;refine wpAny_Call_method_late k_ Hy ur rfl (bq (aJ pins s σ H _ I h) ?_);rintro v s1 ⟨x,H1,aK,bJ,ty,bb⟩;obtain ⟨ah,ai⟩:=Qz aK bJ ty;refine #[T,id,fM,slot,t4,ah,ai,?_];have nT:=ay ej pins s1 σ H1 _ aK bb;rw [aB] at nT ⊢;refine Calls.callWith_builtin (by show (false||(backTo ej (starEach ar X.env)).any (·.1))=false;rw [z8]<;>rfl) (IA ?_);exact bq nT λ us s2 ⟨vs,au,cm,b8,cg⟩=>hm pins s2 σ au x vs v us Q cm bJ b8 cg
end
noncomputable def qj (X:aP) (id:String) (r:V->bl->az->bG->Prop):Prop :=
 ∀ (pins:d5) (s:Shared) (σ:St) (H:az) (x:V) (xs:bl) (v:Value) (us:List Value) (Q:bG),Inv X pins σ H s->RelV x v->Vals xs us->r x xs H Q ->
  wpAny (model X.prog X.w) X.A (call (.builtin id) (v::us)) (hA X pins σ Q) X.c3 s
theorem Vals.one : ∀ {x:V} {us:List Value},Vals [x] us -> ∃ u,us=[u]/\RelV x u
 | _,_,.cons r .nil=>#[_,rfl,r]
theorem Vals.zero : ∀ {us:List Value},Vals [] us->us=[]
 | _,.nil=>rfl
theorem Vals.dropLast (h:Vals xs us):Vals xs.dropLast us.dropLast:=by
 induction h with
 | nil=>exact .nil
 | cons r t cQ =>
  cases t with
  | nil=>exact .nil
  | cons q t'=>exact .cons r cQ
theorem Vals.rep (h:Vals xs us) : ∀ k:Nat,Vals (List.replicate k xs).flatten (List.replicate k us).flatten
 | 0=>.nil
 | k+1=>by
  rw [Ae,Ae,List.flatten_cons,List.flatten_cons];exact Vals.append h (Vals.rep h k)
theorem ahr {α: Type} (l:List α):l.eraseIdx (l.length - 1)=l.dropLast:=by
 induction l with
 | nil=>rfl
 | cons a r cQ =>
  cases r with
  | nil=>rfl
  | cons b r =>
   have e:(a::b::r).length - 1=((b::r).length - 1)+1:=by
    have ah:(a::b::r).length=r.length+2:=rfl;have ai:(b::r).length=r.length+1:=rfl;omega
   rw [e,List.eraseIdx_cons_succ,cQ]
   all_goals rfl
theorem foldl_rep (its:List Value) : ∀ (k:Nat) (acc:List Value),
  List.foldl (λ gs hn=>gs++hn) acc.toArray (List.replicate k its.toArray)=(acc++(List.replicate k its).flatten).toArray
 | 0,acc=>by simp
 | k+1,acc=>by
  have e:acc.toArray++its.toArray=(acc++its).toArray:=by simp
  have aO:(acc++its)++(List.replicate k its).flatten=acc++(List.replicate (k+1) its).flatten:=by
   rw [Ae,List.flatten_cons,List.append_assoc]
  rw [<-aO,<-foldl_rep its k (acc++its),<-e,Ae,List.foldl_cons]
section
variable {X:aP} {b:Addr} {zs:bl}
theorem Inv.HK {its':List Value} {f:cZ->cZ} {t':Nat} (I:Inv X pins σ H s) (hP:H l=some (.lst xs))
  (e:s.heap.get? l=some { cls:=.type "list", data:=.seq its.toArray n }) (hf:f its.toArray=its'.toArray) (ba:Vals ys its') (a6:ys.length<=sizeLine) :
  Inv X pins σ (upd H l (.lst ys)) { s with heap:=s.heap.update l (Obj.mapSeq f),toks:=t' }:=by
 have q:=PySem.IsL.update e f;rw [hf] at q;refine I.write (x:=l) (e:=l) (by rw [hP];exact trivial) (.inl rfl) (λ i8 u ae br=>(ju s.heap (Obj.mapSeq f) (ek ae)).trans br) #[_,q] ?_;exact #[a6,its',_,ba,q]
theorem Inv.CB (I:Inv X pins σ H s) (ba:Vals ys its) (a6:ys.length<=sizeLine) :
  Inv X pins σ (upd H s.heap.objs.size (.lst ys)) { s with heap:=s.heap.push { cls:=.type "list", data:=.seq its.toArray },toks:=t' } :=
 I.laid (λ _ _ q=>bK _ q) (b9 _) #[a6,its,0,ba,d6 _ rfl]
theorem Inv.fresh (I:Inv X pins σ H s):H s.heap.objs.size=none:=I.a7.fresh (b9 _)
theorem Inv.oo (I:Inv X pins σ H s) (hP:H l=some (.lst xs)):xs.length<=sizeLine /\ ∃ (its:List Value) (n:Nat),Vals xs its/\xs.length=its.length/\s.heap.get? l=some { cls:=.type "list", data:=.seq its.toArray n }:=by
 obtain ⟨z,its,n,r,e⟩:=I.a7 l _ hP;exact #[z,its,n,r,r.length,e]
theorem aez (h:n<=sizeLine):Builtin.List.listTooLong n=false:=by
 unfold Builtin.List.listTooLong;exact dN .aD
end
section
variable {X:aP}
noncomputable def ado:V->bl->az->bG->Prop:=λ x vs H Q => ∃ l xs y,x=.ref l/\vs=[y]/\H l=some (.lst xs)/\xs.length<sizeLine/\Q .bh (upd H l (.lst (xs++[y])))
theorem D4:qj X "list.append" ado:=by
 intro pins s σ H x vs v us Q I a5 cx h;obtain ⟨l,xs,y,rfl,rfl,hP,a6,q⟩:=h;cases a5;obtain ⟨u,rfl,fp⟩:=cx.one;obtain ⟨z,its,n,r,av,e⟩:=I.oo hP;refine rd F.slot_list_append #[_,e,rfl] F.entry_list_append (F.args_list_append_2 _ _) (PySem.list_append l its.toArray n u (by rw [fe];omega)) #[e,?_];refine #[.bh,_,I.HK (its':=its++[u]) hP e .zs (r.append (.cons fp .nil)) ?_,rfl,q];rw [fm,List.length_singleton];omega
noncomputable def aas:V->bl->az->bG->Prop:=λ x vs H Q => ∃ l xs y,x=.ref l/\vs=[]/\H l=some (.lst xs)/\xs[xs.length - 1]?=some y/\Q y (upd H l (.lst xs.dropLast))
theorem Qk:qj X "list.pop" aas:=by
 intro pins s σ H x vs v us Q I a5 cx h;obtain ⟨l,xs,y,rfl,rfl,hP,aT,q⟩:=h;cases a5;have XS:=cx.zero;subst XS;obtain ⟨z,its,n,r,av,e⟩:=I.oo hP;obtain ⟨u,br,fp⟩:=r.get aT;have eZ:its.toArray[its.toArray.size - 1]?=some u:=by
  show its.toArray[its.length - 1]?=some u;rw [<-Array.getElem?_toList,<-av];exact br
 refine rd F.slot_list_pop #[_,e,rfl] F.entry_list_pop (F.args_list_pop_1 _) (MeetsSeq.list_pop_last l its.toArray n u eZ (by rw [fe];omega)) #[e,?_];refine #[y,_,I.HK (its':=its.dropLast) hP e ?_ r.dropLast ?_,fp,q]
 ·show its.toArray.eraseIdxIfInBounds (its.toArray.size - 1)=its.dropLast.toArray;rw [fe,List.eraseIdxIfInBounds_toArray,ahr]
 ·rw [List.length_dropLast];omega
noncomputable def aao:fy:=λ x y H Q => ∃ l b xs zs,x=.ref l/\y=.ref b/\H l=some (.lst xs)/\H b=some (.lst zs)/\xs.length+zs.length<=sizeLine /\ ∀ p,H p=none->Q (.ref p) (upd H p (.lst (xs++zs)))
theorem abG:dC X (binaryOp .Add) aao:=by
 intro pins s σ H x y v u Q I a5 bt h;obtain ⟨l,b,xs,zs,rfl,rfl,hP,tx,a6,q⟩:=h;cases a5;cases bt;obtain ⟨z,its,n,r,av,e⟩:=I.oo hP;obtain ⟨f9,sm,dB,b8,fP,aO⟩:=I.oo tx;refine PySem.P.add_list e aO ?_ (by rw [fe,fe];omega);have eN:its.toArray++sm.toArray=(its++sm).toArray:=by simp
 rw [eN];exact #[.ref _,_,I.CB (t':=s.toks) (r.append b8) (by rw [fm];omega),rfl,q _ I.fresh]
noncomputable def aat:fy:=λ x y H Q => ∃ l k xs,x=.ref l/\y=.int k/\H l=some (.lst xs) /\ -(2 ^ 63)<=k/\k<2 ^ 63/\xs.length * k.toNat<=sizeLine /\
 ∀ p,H p=none->Q (.ref p) (upd H p (.lst (List.replicate k.toNat xs).flatten))
theorem len_rep {α: Type} (xs:List α) (k:Nat):(List.replicate k xs).flatten.length=k * xs.length:=by
 induction k with
 | zero=>simp
 | succ k cQ=>rw [Ae,List.flatten_cons,fm,cQ,Nat.succ_mul,Nat.add_comm]
theorem Qm:dC X (binaryOp .Mult) aat:=by
 intro pins s σ H x y v u Q I a5 bt h;obtain ⟨l,k,xs,rfl,rfl,hP,ah,ai,a6,q⟩:=h;cases a5;obtain ⟨t,rfl⟩:=bt;obtain ⟨z,its,n,r,av,e⟩:=I.oo hP;have hlen:its.toArray.size * k.toNat<=sizeLine:=by rw [fe,<-av];exact a6
 have ZL : ¬ its.toArray.size * k.toNat > (2 ^ 63 - 1) / 8:=by
  have:(sizeLine:Nat)<=(2 ^ 63 - 1) / 8:=by decide
  omega
 have Hz : ¬ (!Builtin.List.listFitsIndex k)=true:=by
  rw [fitsIndex_both ah ai];exact g9
 have aaL : ¬ Builtin.List.listTooLong (its.toArray.size * k.toNat)=true:=by
  rw [aez hlen];exact g9
 have HB:List.foldl (λ gs hn=>gs++hn) #[] (List.replicate (if its.toArray.isEmpty=true then 0 else k.toNat) its.toArray)=(List.replicate k.toNat its).flatten.toArray:=by
  have f0 : ∀ m:Nat,List.foldl (λ gs hn=>gs++hn) #[] (List.replicate m its.toArray)=(List.replicate m its).flatten.toArray:=λ m=>by
   have:=foldl_rep its m [];rw [List.nil_append] at this;exact this
  rw [f0];cases its with
  | nil=>simp
  | cons a bP=>rw [if_neg .zs]
 refine wpAny_binaryOp_repeat_ref (T := "list") (U := "int") .aA #[_,e,rfl] (λ s'=>Ad s' k t) noFill_list_mul F.fills_int_mul Dk repeat_list F.slot_int_index.lookup
  (rd Dk (Ad s k t) F.entry_int_rmul (F.args_int_rmul_2 _ _) (int___rmul___int_list k t l its.toArray n)
   #[e,rfl,#[_,e,rfl],rd F.slot_list_mul #[_,e,rfl] F.entry_list_mul (F.args_list_mul_2 _ _) (AutoListH.list___mul___list_int_3 l its.toArray n k t Hz ZL aaL) #[e,?_]])
 rw [HB];exact #[.ref _,_,I.CB (t':=s.toks) (r.rep k.toNat) (by rw [len_rep,sO];exact a6),rfl,q _ I.fresh]
end
end bM
namespace MJ
open PySem PySem.W PySem.Calls PyProof.Rows
theorem ajD {P:Params} {h:Heap} : ∀ (ns:aV) (vs:List Value),WellAll P h vs (ns.map WData.int)->IntsAre vs ns:=by
 intro ns
 induction ns with
 | nil =>
  intro vs w;rw [List.map_nil] at w;cases w;exact .nil
 | cons n ns cQ =>
  intro vs w;rw [iZ] at w;cases w with
  | cons a b =>
   cases a;exact .cons _ _ (cQ _ b)
theorem agC {l:OpenLaw} (aF:l.most=some n) {P:Params} {h:Heap} {args:List WData} {vals:List Value}
  (Cx:l.row.toRowW.claim.pre args=true) (BS:WellAll P h vals args) :
  ∃ a vs ns,vals=[Value.ref a]/\args=[WData.list (ns.map WData.int)]/\h.get? a=some { cls:=.type "list", data:=.seq vs.toArray }/\IntsAre vs ns/\ns.length<=n:=by
 have XJ:WShape.hasAll [] args [.list .int]=true:=(pre_splitW Cx).1;have ak:l.pre.holds [] { args:=args }=true:=(pre_splitW Cx).2;obtain ⟨d,r,rfl,ah,ai⟩:=hasAllW_cons XJ;obtain rfl:=hasAllW_nil ai;obtain ⟨xs,rfl,aH⟩:=hasW_list ah;obtain ⟨ns,rfl⟩:=items_int aH;have hlen:ns.length<=n:=by
  unfold OpenLaw.pre at ak;have a4:(WTm.not (.lt (.lit (.int (n:Int))) (.len (.arg 0)))).holds [] { args:=[.list (ns.map .int)] }=true:=by
   have a4:=(holds_andW ak).1;rw [aF] at a4;exact a4
  have b4:=condW_of a4 (w_not (w_lt w_lit (w_len_list (w_arg rfl))));rw [bY] at b4;refine Nat.le_of_not_lt λ q=>?_
  have aY:(n:Int)<((ns.length:Nat):Int):=by omega
  first
   | (rw [cc aY] at b4;exact absurd b4 .aA)
   | (simp at b4;omega)
 cases BS with
 | cons iK hl =>
  cases hl;cases iK with
  | list aJ jo=>exact #[_,_,ns,rfl,rfl,aJ,ajD ns _ jo,hlen]
theorem agu (l:OpenLaw) (args:List WData):l.row.toRowW.claim.post args (.bool true) args=true :=
 postW_of (r:=l.row.toRowW) (X:=(true == true))
  (show WShape.has [] (.bool true) .bool=true by first | rfl | decide | simp [WShape.has,WShape.arms,WShape.armsAll])
  (show (WTm.eq .res (.lit (.bool true))).value [] { args:=args,res:=some (.bool true),after:=args }=some (.bool (true == true)) from w_eq_bool (w_res rfl) w_lit) rfl
theorem aid {l:OpenLaw} {q:Program} {d:DefRec}
  (aF:l.most=some n) (yx:d.params.defaults=[])
  (call : ∀ (w:World) (s₀ s₁:Shared) (mg m6:Str->c0) (h4:Addr) (o:Obj) (pm cd doc:Value) (a:Addr) (vs:List Value) (ns:aV),
   Ground q loose [] AZ w s₀ mg m6 s₁.heap->ve w s₁.heap ->
   s₁.heap.get? h4=some o->o.data=.func (docDef d.name d.params d.body d.scope pm cd doc)->s₁.heap.CodeRec cd d.name->mg d.name=some (.ref h4) ->
   s₁.heap.get? a=some { cls:=.type "list", data:=.seq vs.toArray }->IntsAre vs ns->ns.length<=n->s₁.gens=#[] ->
   codeAny (model l.prog w) callerA (.call (.ref h4) ⟨[.ref a],[]⟩) (λ r s'=>r=.ok (.ret (.bool true))/\OldK s₁.heap s'.heap/\s'.os=s₁.os/\AllBare s'.gens) s₁) :
  WalkO q loose AZ ve l.row.toRowW d [] (λ f vs=>PySem.call f vs):=by
 intro w s₀ s₁ mg m6 G Y h4 o pm cd doc A2 cX aJ hd iN a8 yI aS args vals as Cx alE Nw BS Nn;obtain rfl:A2=.none:=Dflts.none a8 yx;obtain rfl:cX=.none:=Dflts.noKw a8;obtain ⟨a,vs,ns,rfl,rfl,qS,hints,hlen⟩:=agC aF Cx BS;refine enter_call (nE (call w s₀ s₁ mg m6 h4 o pm cd doc a vs ns G Y aJ (fd_plain hd) iN yI qS hints hlen aS) λ r s' aZ=>?_);obtain ⟨rfl,ai,aH,a4⟩:=aZ;exact #[.inl #[.bool true,.bool true,[],rfl,λ _=>rfl,.bool true,agu l _,λ _=>#[List.Pairwise.nil,λ _ hm=>(nomatch hm)]],ai,aH,a4]
end MJ
namespace bM
open PySem PySem.Spec PyProof.Rows
theorem SQ : ∀ {vs:List Value} {ns:aV},IntsAre vs ns->Vals (ns.map V.int) vs
 | _,_,.nil=>.nil
 | _,_,.cons n t h=>.cons #[t,rfl] (SQ h)
noncomputable def Hr (H:az):Prop := ∀ b,H b=none \/ ∃ o xs,H b=some (.gI o (.lst xs))
theorem aep {P:Program} {w:World} {m6:Str->c0} {cH:ik} {k:Nat} {h4 a:Addr} {fd:FuncData} {x:Str} {sp:b3} {s₁:Shared} {vs:List Value}
  (j3:K.In s₁.heap) (kf:s₁.heap.Ns mainGlobals mg) (ae:s₁.heap.Ns builtinsNs m6) (Xi : ∀ x:Str,x ≠ "__name__" -> m6 x=bootBuiltins x) (ZR:s₁.heap.NoLimit) (aS:s₁.gens=#[])
  (ay:s₁.heap.get? a=some { cls:=.type "list", data:=.seq vs.toArray }) (ax:IntsAre vs ns) (av:ns.length<=sizeLine) (aq:er k callerA)
  (F : ∀ base:Heap,K.In base->base.Ns mainGlobals mg->eo P w K mg base cH k h4 fd [x] sp) (aaJ : ∀ (s:Shared) (u:Value),BindsTo s fd ⟨[u],[]⟩ [(x,u)])
  (gv : ∀ H:az,Hr H->a9 K H a (ns.map V.int)->sp [.ref a] H (λ v _=>v=.aX true) λ _ _ _=>False)
  (F5 : ∀ H e s',cH [] H s₁ (λ _ _ _=>False) e s'->False) :
  codeAny (model P w) callerA (.call (.ref h4) ⟨[.ref a],[]⟩) (λ r s'=>r=.ok (.ret (.bool true))/\OldK s₁.heap s'.heap/\s'.os=s₁.os/\AllBare s'.gens) s₁:=by
 have cx:=SQ ax;have Z8:=ax.length;have core : ∀ H:az,Hr H->a9 K H a (ns.map V.int)->e5 P w H s₁.heap->(∀ b,H b≠none->b=a)->(H a≠none->K.lookup a=none) ->
   codeAny (model P w) callerA (.call (.ref h4) ⟨[.ref a],[]⟩) (λ r s'=>r=.ok (.ret (.bool true))/\OldK s₁.heap s'.heap/\s'.os=s₁.os/\AllBare s'.gens) s₁:=by
  intro H A8 dT a7 nT eW;have QJ : ∀ {b:Addr} {o:Obj},s₁.heap.get? b=some o->H b=none->(qR s₁.heap H).get? b=some o:=λ e n=>aeg e n
  have y9 : ∀ {b:Addr} {o:Obj} {ar:Array DictEntry} {ep:Nat},s₁.heap.get? b=some o->o.data=.dict ar ep->H b=none:=λ {b o ar ep} e d=>by
   cases q:H b with
   | none=>rfl
   | some u =>
    have c2:b=a:=nT b (by rw [q];simp);subst c2;rw [ay] at e;cases e;have d':Data.seq vs.toArray _=Data.dict ar ep:=d;cases d'
  have B7 : ∀ {b:Addr} {m:Str->c0},s₁.heap.Ns b m->(qR s₁.heap H).Ns b m:=λ {b m} ⟨o,ar,ep,e,d,r⟩=>#[o,ar,ep,QJ e (y9 e d),d,r]
  have M_:K.In (qR s₁.heap H):=λ b o e=>QJ (j3 b o e) (by
   cases q:H b with
   | none=>rfl
   | some u =>
    have c2:b=a:=nT b (by rw [q];simp);subst c2;rw [eW (by rw [q];simp)] at e;cases e)
  have xM:Mod K mg (qR s₁.heap H):=#[M_,B7 kf,#[m6,B7 ae,Xi],let ⟨Vq,ah,ai⟩:=ZR;⟨Vq,B7 ah,ai⟩]
  have bX:oj P w K mg (qR s₁.heap H) callerA [] s₁ H:=#[rfl,xM,λ b o e=>acL e,Nat.le_of_eq (afV _ _),trivial,λ b ae=>absurd (show b∈([]:List Addr) from ae) .zs,a7,.of_eq aS]
  refine nE ((F _ M_ (B7 kf)).run callerA [] s₁ H #[[.ref a],[]] [.ref a] [.ref a] _ _ aq bX (aaJ s₁ (.ref a)) (.cons rfl .nil) (gv H A8 dT)) λ r s' h=>?_
  cases r with
  | error e=>exact (F5 H e s' h).elim
  | ok da =>
   cases da with
   | next=>exact False.elim h
   | brk=>exact False.elim h
   | cont=>exact False.elim h
   | ret u =>
    obtain ⟨v,H',os,bare,un,ZV,bP,q⟩:=h;have aY:v=.aX true:=q;subst aY;obtain rfl:u=Value.bool true:=bP;refine #[rfl,OldK.of_keep λ b o e=>?_,os,bare];cases q:H b with
    | none=>exact un.keep b o e q (by intro z;exact absurd (show b∈([]:List Addr) from z) .zs) .zs
    | some u =>
     rcases A8 b with z | ⟨b7,xs,z⟩
     ·rw [q] at z;cases z
     ·have f9:=un.k7 b b7 _ z;obtain ⟨aM,_⟩:=a7 b _ z;obtain ⟨aO,_⟩:=ZV b _ f9;rw [e] at aM;cases aM;exact aO
 cases aG:K.lookup a with
 | some o =>
  have e:=j3 a o aG;rw [ay] at e;cases e;refine core (λ _=>none) (λ _=>.inl rfl) (.inr #[_,vs.toArray,_,aG,rfl,rfl,rfl,by rw [fe,Z8];exact av,by simpa using cx]) (λ b u z=>by have eh:(none:Option e6)=some u:=z;cases eh) (λ b z=>absurd rfl z) λ z=>absurd rfl z
 | none =>
  refine core (λ b=>if b=a then some (.gI { cls:=.type "list", data:=.seq vs.toArray } (.lst (ns.map V.int))) else none) (λ b=>?_) (.inl (.inr #[{ cls:=.type "list", data:=.seq vs.toArray },if_pos rfl])) (λ b u z=>?_) (λ b z=>?_) λ _=>aG
  ·by_cases ae:b=a
   ·exact .inr #[_,_,if_pos ae]
   ·exact .inl (if_neg ae)
  ·by_cases ae:b=a
   ·have eh:=(if_pos ae).symm.trans z;cases eh;subst ae;exact #[ay,by rw [bY];exact av,vs,_,cx,ay]
   ·have eh:=(if_neg ae).symm.trans z;cases eh
  ·by_cases ae:b=a
   ·exact ae
   ·exact absurd (if_neg ae) z
theorem adI {l:PySem.W.OpenLaw} {k:Nat} {q:Program} {d:DefRec} {K:Params->cD} {cH:World->ik} {sp:World->b3} {x:Str}
  (aF:l.most=some n) (nj:n<=sizeLine) (yx:d.params.defaults=[]) (aq:er k callerA)
  (ES : ∀ (w:World) (h:Heap),ve w h->(K w.params).In h)
  (F : ∀ (w:World) (mg:Str->c0) (h4:Addr) (h:Heap),(K w.params).In h->h.Ns mainGlobals mg->mg d.name=some (.ref h4) ->
   ∃ fd:FuncData,(∀ (s:Shared) (u:Value),BindsTo s fd ⟨[u],[]⟩ [(x,u)]) /\
    ∀ base:Heap,(K w.params).In base->base.Ns mainGlobals mg->eo l.prog w (K w.params) mg base (cH w) k h4 fd [x] (sp w))
  (gv : ∀ (w:World) (H:az) (a:Addr) (ns:aV),ns.length<=n->Hr H->a9 (K w.params) H a (ns.map V.int)->sp w [.ref a] H (λ v _=>v=.aX true) λ _ _ _=>False)
  (F5 : ∀ (w:World) (H:az) (s:Shared) (e:Value) (s':Shared),cH w [] H s (λ _ _ _=>False) e s'->False) :
  PySem.W.WalkO q loose AZ ve l.row.toRowW d [] (λ f vs=>PySem.call f vs):=by
 refine MJ.aid aF yx λ w s₀ s₁ mg m6 h4 o pm cd doc a vs ns G Y aJ hd iN yI qS hints hlen aS=>?_
 have j3:=ES w _ Y;obtain ⟨fd,ae,m4⟩:=F w mg h4 _ j3 G.T.g yI;exact aep j3 G.T.g G.T.b G.T.builtins G.T.nolimit aS qS hints (fl hlen nj) aq m4 ae (λ H A8 dT=>gv w H a ns hlen A8 dT) λ H e s'=>F5 w H s₁ e s'
end bM
namespace bM
open PySem PySem.Spec PyProof.Rows
noncomputable def mQ (s:Stmt):Arguments:=match s with
 | .FunctionDef _ a _ _ _ _ _ _ _ _=>a
 | _=>{ posonlyargs:=[],args:=[],vararg:=none,kwonlyargs:=[],kw_defaults:=[],kwarg:=none,defaults:=[] }
noncomputable def jB (s:Stmt):List Stmt:=match s with
 | .FunctionDef _ _ b _ _ _ _ _ _ _=>b
 | _=>[]
noncomputable def bZ (s:Stmt):Scope:=match s with
 | .FunctionDef _ _ _ _ _ _ sc _ _ _=>sc
 | _=>{ kind:=.function,names:=[],isGenerator:=false,isCoroutine:=false }
noncomputable abbrev cS:ik:=λ _ _ _ _ _ _=>False
noncomputable abbrev iC:dA:=λ _ _ _=>False
theorem bD {X:aP}:Passes cS X iC:=λ _ _ _ _ _ _ _ h=>h.elim
structure je (K:cD) (x qual:Str) (st:Stmt) (f:Addr) (fd:FuncData):Prop where
 ex : ∃ (f7:Value) (b6:Option Addr) (cX doc pm:Value) (an:Option Addr) (bg cK:Value) (og:Array c0),
  fd=PySem.W.fnOf x qual (mQ st) (jB st) (bZ st) .none cX doc pm an bg cK/\K.lookup f=some ⟨f7,b6,.func fd,og⟩/\PySem.W.codeIn K bg qual=true
 bf:PySem.W.keepIn K (.ref f)=true
section
variable {w:World}
theorem je.ok {x:Str} {st:Stmt} {f:Addr} {fd:FuncData} {N ag:bT} {k:Nat} {sp:b3} (F:je K x qual st f fd) (S:cE N ag (bZ st)) (len : ∀ vs H Q E,sp vs H Q E->vs.length=ag.length)
  (ou : ∀ (bg:Value) (A:Around) (outer:List Env) (s:Shared) (H:az) (vs:bl) (Q:bG) (E:dA),er k (A.deeper (envOfC qual (bZ st) s.heap.objs.size f bg))->sp vs H Q E ->
   ∃ t,lD (k6 cS P w K mg base N qual (bZ st) f bg A outer s H E).za (jB st) t/\t { bu:=λ _ H'=>Q .bh H',kG:=Q } (start N vs) H):eo P w K mg base cS (k+1) f fd ag sp:=by
 obtain ⟨f7,b6,cX,doc,pm,an,bg,cK,og,rfl,lk,iN⟩:=F.ex;refine PK lk iN S len λ A outer s H vs Q E aq gv=>?_
 obtain ⟨t,h,q⟩:=ou bg A outer s H vs Q E aq gv;exact #[t,h.za,q]
theorem je.binds {x:Str} {st:Stmt} {f:Addr} {fd:FuncData} {ag:bT} (F:je K x qual st f fd)
  (h : ∀ (cX doc pm:Value) (an:Option Addr) (bg cK:Value) (us:List Value),us.length=ag.length->bindArgs (PySem.W.fnOf x qual (mQ st) (jB st) (bZ st) .none cX doc pm an bg cK) ⟨us,[]⟩=pure (ag.zip us)):Binds K fd ag []:=by
 obtain ⟨f7,b6,cX,doc,pm,an,bg,cK,og,rfl,lk,iN⟩:=F.ex;exact .all (h cX doc pm an bg cK)
theorem Il {x:Str} {st:Stmt} {f:Addr} {b6:Option Addr} {og:Array c0} {cX bg cK:Value} (l:K.lookup f=some ⟨f7,b6,.func (PySem.W.fnOf x qual (mQ st) (jB st) (bZ st) .none cX doc pm an bg cK),og⟩)
  (c:PySem.W.codeIn K bg qual=true) (k:PySem.W.keepIn K (.ref f)=true):je K x qual st f (PySem.W.fnOf x qual (mQ st) (jB st) (bZ st) .none cX doc pm an bg cK):=#[#[f7,b6,cX,doc,pm,an,bg,cK,og,rfl,l,c],k]
end
theorem lb {k:Nat} (aq:er k A):A.units+1<cLine:=Nat.lt_of_le_of_lt (Nat.add_le_add_left (by decide:1<=64) _) aq.units
section
variable {X:aP}
theorem rQ (i:Nat) {x:Str} {pos:Pos} (dx:X.N[i]?=some x:=by rfl) (ba:Bp X.env.scope x:=by first | exact Or.inl rfl | exact Or.inr (Or.inl rfl) | exact Or.inr (Or.inr rfl)) (hd:(x == ("__debug__" : Str))=false:=by decide)
  (iN:(x == ("__classdict__" : Str))=false:=by decide):cn X (.Name x pos) (iT i):=abS dx ba hd iN
end
theorem bA {A:Prop} (h:B):if false=true then A else B:=by
 rw [if_neg g9];exact h
theorem cA {A:Prop} (h:A):if true=true then A else B:=by
 rw [if_pos rfl];exact h
theorem eJ {c A:Prop} [Decidable c] (ah:c->A) (ai : ¬ c->B):if c then A else B:=by
 by_cases h:c
 ·rw [if_pos h];exact ah h
 ·rw [if_neg h];exact ai h
theorem aaR {c A:Prop} [Decidable c] (ak:c) (h:B):if (!decide c)=true then A else B:=by
 rw [cc ak];exact bA h
noncomputable def aE (H H':az):Prop := ∀ b o,H b=some o->H' b=some o
theorem aE.refl (H:az):aE H H:=λ _ _ h=>h
theorem aE.trans {au:az} (a:aE H H1) (b:aE H1 au):aE H au:=λ c o h=>b c o (a c o h)
theorem aE.free (e:aE H H') (h:H' l=Option.none):H l=Option.none:=by
 cases q:H l with
 | none=>rfl
 | some o =>
  rw [e l o q] at h;cases h
noncomputable def aaq (K:cD):bl->az->bG->Prop:=λ xs H Q => ∃ x T t b,xs=[x,.ty T]/\jn K H x t/\PySem.W.kitOne K t (.type T)=some b/\Q (.aX b) H
section
variable {X:aP}
theorem eL:gf X (.builtin "isinstance") (aaq X.K):=by
 intro pins s σ H xs us Q I r h;obtain ⟨x,T,t,b,rfl,ty,e,q⟩:=h;obtain ⟨u,cV,rfl,a5,Vy⟩:=vals2 r;cases (show cV=Value.type T from Vy);exact afW I a5 ty e λ bI=>#[.aX b,H,I.tok _,rfl,q]
theorem DM : ∀ {bs:List Bool} {us:List Value},Vals (bs.map V.aX) us->us=bs.map Value.bool
 | [],_,r=>by rw [List.map_nil] at r;cases r;rfl
 | b::bs,_,r=>by
  rw [iZ] at r;cases r with
  | cons bJ b8 =>
   cases (show _=Value.bool b from bJ);rw [DM b8];rfl
theorem all_range (bs:List Bool):((List.range bs.length).all λ i=>bs.getD i true)=bs.all id:=by
 rw [sE,gT,gT];constructor
 ·intro h b ae;obtain ⟨i,ax,rfl⟩:=List.getElem_of_mem ae;have:=h i (wF.mpr ax);rw [pQ,fT ax] at this;exact this
 ·intro h i ax;have yE:=wF.mp ax;rw [pQ,fT yE];exact h _ (sP yE)
theorem rp (ak:X.calm=true):gf X (.builtin "all") (λ xs H Q => ∃ (p:Addr) (bs:List Bool),xs=[.ref p]/\a9 X.K H p (bs.map V.aX)/\Q (.aX (bs.all id)) H):=by
 intro pins s σ H xs us Q I r h;obtain ⟨p,bs,rfl,aZ,q⟩:=h;obtain ⟨u,rfl,fp⟩:=vals1 r;cases fp;obtain ⟨its,cx,pl,a6⟩:=I.list aZ;have oY:=DM cx;subst oY;have aw:p<s.heap.objs.size:=by obtain ⟨_,_,e,_⟩:=pl;exact cu e
 have hd:X.A.in1.handled=none:=I.ok.hd.1 ak;refine call_all_walk (wpAny_pyIter_list pl.isList ?_);refine #[s.heap.objs.size,_,_,_,_,_,(λ i=>bs.getD i true),rfl,Walks.list hd s.heap.objs.size p (d3 aw) (bs.map Value.bool).toArray,#[#[_,d6 _ rfl,rfl,rfl],pl.isList.push _],?_,?_]
 ·intro i v s' xB Ey ba g4;have t5:(bs.map Value.bool)[i]?=some v:=by simpa using ba
  rw [fK] at t5;cases e:bs[i]? with
  | none=>rw [e] at t5;cases t5
  | some b =>
   rw [e] at t5;cases t5;have Na:xB (bs.getD i true) s':=g4;rw [pQ,e] at Na;exact sD Na
 ·intro h' bI aG;refine #[.aX (bs.all id),H,I.kept λ b o e=>aG b o ?_ (bK _ e),?_,q]
  ·intro z;rw [eC.mp z] at e;exact absurd (cu e) (iX _)
  ·show Value.bool _=Value.bool _;rw [<-all_range bs];simp
noncomputable def ads:V->bl->az->bG->Prop:=λ x vs H Q => ∃ l xs i y,x=.ref l/\vs=[.int i,y]/\H l=some (.lst xs)/\0<=i/\i<2 ^ 63/\xs.length<sizeLine /\
 Q .bh (upd H l (.lst (xs.take (min i.toNat xs.length)++y::xs.drop (min i.toNat xs.length))))
theorem ahv (its:List Value) (k:Nat) (u:Value):(its.toArray.extract 0 k).push u++its.toArray.extract k=(its.take k++u::its.drop k).toArray:=by
 apply Array.toList_inj.mp;simp;exact oA .zs
theorem age:qj X "list.insert" ads:=by
 intro pins s σ H x vs v us Q I a5 cx h;obtain ⟨l,xs,i,y,rfl,rfl,hP,h0,ah,a6,q⟩:=h;cases a5;obtain ⟨akw,n1,rfl,⟨t,rfl⟩,bt⟩:=vals2 cx;obtain ⟨z,its,n,r,av,e⟩:=I.oo hP;have Hz : ¬ (!Builtin.List.listFitsIndex i)=true:=by
  rw [fitsIndex_both .aD ah];exact g9
 refine rd F.slot_list_insert #[_,e,rfl] F.entry_list_insert (F.args_list_insert_3 _ _ _) (AutoListH.list_insert_list_int_val_1 l its.toArray n i t n1 Hz (by rw [fe];omega)) #[e,?_];refine #[.bh,_,I.HK (its':=its.take (min i.toNat xs.length)++n1::its.drop (min i.toNat xs.length)) hP e ?_ ((r.take _).append (.cons bt (r.drop _))) ?_,rfl,q]
 ·have aG:(if i<0 then (i+((its.toArray.size:Nat):Int)).toNat else min i.toNat its.toArray.size)=min i.toNat xs.length:=by
   rw [if_neg .aD,fe,av]
  show ((its.toArray.extract 0 (if i<0 then (i+((its.toArray.size:Nat):Int)).toNat else min i.toNat its.toArray.size)).push n1++its.toArray.extract (if i<0 then (i+((its.toArray.size:Nat):Int)).toNat else min i.toNat its.toArray.size))=_;rw [aG,ahv]
 ·simp only [fm,nF,j1,List.length_drop];omega
noncomputable def H6 (K:cD):fy:=λ x y H Q => ∃ a b ys,x=.ref a/\y=.ref b/\a0 K H a []/\a0 K H b ys/\Q (.ref b) H
theorem acO:dC X (binaryOp .Add) (H6 X.K):=by
 intro pins s σ H x y v u Q I a5 bt h;obtain ⟨a,b,ys,rfl,rfl,ay,ae,q⟩:=h;cases a5;cases bt;obtain ⟨its,bJ,p1,_⟩:=I.tuple ay;obtain ⟨sm,b8,dm,_⟩:=I.tuple ae;cases bJ;obtain ⟨⟨gn,fZ,f1,ew⟩,g1,k1,cC,c_⟩:=id p1;obtain ⟨⟨hD,iI,f2,hR⟩,g2,k2,dB,dP⟩:=id dm;simp only at k1 c_ k2 dP;subst k1 c_ k2 dP;exact concat_meets #[_,g1,rfl] #[_,g2,rfl] noFill_tuple_add seq_tuple_add Iw Iy (Iz _ _) (tuple_addW0 a b #[] sm.toArray cC dB fZ iI ew hR rfl) #[g1,g2,#[.ref b,H,I,rfl,q]]
theorem acN:dC X (binaryOp .Add) (λ x y H Q=>H6 X.K x y H Q\/H7 X.K x y H Q):=acO.or acP
end
noncomputable def pick (js:List (Option Nat)) (σ:St):St:=js.map λ o=>o.bind λ j=>(σ[j]?).join
theorem RL {i:Nat} {v:V} (h:(pick js σ)[i]?=some (some v)) : ∃ j,js[i]?=some (some j)/\σ[j]?=some (some v):=by
 unfold pick at h;rw [fK] at h;cases e:js[i]? with
 | none=>rw [e] at h;cases h
 | some o =>
  rw [e] at h;have h':(o.bind λ j=>(σ[j]?).join)=some v:=gR h;cases o with
  | none=>cases h'
  | some j =>
   refine #[j,rfl,?_];have ai:(σ[j]?).join=some v:=h';cases aO:σ[j]? with
   | none=>rw [aO] at ai;cases ai
   | some q =>
    rw [aO] at ai;have aH:q=some v:=ai;rw [aH]
structure sG (X:aP) (scope:Scope) (cl:List (Str×Addr)) (N:bT) (js:List (Option Nat)):Prop where
 si:closureFor scope X.env=pure cl
 sL : ∀ y∈scope.names,y.2≠.cell
 kind:scope.kind=.function
 names : ∀ y∈scope.names,y.2=.local->scope.names.lookup y.1=some .local
 sub : ∀ x c,cl.lookup x=some c->X.env.cells.lookup x=some c
 has : ∀ x,((relabel scope X.env).names.lookup x=some .cell\/(relabel scope X.env).names.lookup x=some .free) -> ∃ c,cl.lookup x=some c
 len:js.length=N.length
 seen : ∀ (i j:Nat) (x:Str),N[i]?=some x->js[i]?=some (some j)->X.N[j]?=some x/\X.env.scope.names.lookup x=some .cell/\((relabel scope X.env).names.lookup x=some .cell\/(relabel scope X.env).names.lookup x=some .free)
noncomputable abbrev mL (X:aP) (scope:Scope) (cl:List (Str×Addr)) (N:bT) (a_:List Addr) (pins:d5) (s:Shared) (H:az) (E:b2):aP :=
 { X with N:=N,s₀:=s,H₀:=H,env:=compEnvC scope cl s.heap.objs.size X.env,outer:=X.stack,ex:=a_,fn:=λ _=>false,j7:=X.j7++pins,c3:=E }
noncomputable def kn (J:h2) (D:Addr) (js:List (Option Nat)) (g:iH) (c7:TT) (bp:TE) (σ:St) (H1:az) (Q:bG):Prop :=
 ∃ W:Nat->Nat->St->az->bl->Prop,(∃ m,W 0 m (pick js σ) (upd H1 D (.lst [])) []) /\ ∀ i m σ' H' ys,W i m σ' H' ys->H' D=some (.lst ys) /\
  ((J.stop i H'/\Q (.ref D) H')\/(J.go i H'/\ys.length<sizeLine /\ ∃ N:St->az->bl->Prop,(∀ σ2 au zs,N σ2 au zs -> ∃ cP,cP<m/\W (i+1) cP σ2 au zs) /\ ∀ x au,J.jl i H' x au->g x σ' au λ σ2 aW=>c7 σ2 aW λ k bW =>
   if k=true then bp σ2 bW λ y bc=>bc D=some (.lst ys)/\N σ2 (upd bc D (.lst (ys++[y]))) (ys++[y]) else bW D=some (.lst ys)/\N σ2 bW ys))
noncomputable def wB (js:List (Option Nat)) (gr:TI) (g:iH) (c7:TT) (bp:TE):TE:=λ σ H Q=>gr σ H λ J H1 => ∀ D,H1 D=none->kn J D js g c7 bp σ H1 Q
theorem Jc {c7:TT} {bp:TE} {Q:bG} (aF:n<=sizeLine) (Pv:Nat->St->az->bl->Prop) (h0:Pv 0 (pick js σ) (upd H1 D (.lst [])) [])
  (aw : ∀ i σ' H' ys,i<=n->Pv i σ' H' ys->H' D=some (.lst ys)/\ys.length<=i) (pb : ∀ i σ' H' ys,i<n->Pv i σ' H' ys->J.go i H') (c4 : ∀ σ' H' ys,Pv n σ' H' ys->J.stop n H'/\Q (.ref D) H')
  (aB : ∀ i σ' H' ys x au,i<n->Pv i σ' H' ys->J.jl i H' x au->g x σ' au λ σ2 aW=>c7 σ2 aW λ k bW =>
   if k=true then bp σ2 bW λ y bc=>bc D=some (.lst ys)/\Pv (i+1) σ2 (upd bc D (.lst (ys++[y]))) (ys++[y]) else bW D=some (.lst ys)/\Pv (i+1) σ2 bW ys) :
  ∃ W:Nat->Nat->St->az->bl->Prop,(∃ m,W 0 m (pick js σ) (upd H1 D (.lst [])) []) /\ ∀ i m σ' H' ys,W i m σ' H' ys->H' D=some (.lst ys) /\
   ((J.stop i H'/\Q (.ref D) H')\/(J.go i H'/\ys.length<sizeLine /\ ∃ N:St->az->bl->Prop,(∀ σ2 au zs,N σ2 au zs -> ∃ cP,cP<m/\W (i+1) cP σ2 au zs) /\ ∀ x au,J.jl i H' x au->g x σ' au λ σ2 aW=>c7 σ2 aW λ k bW =>
    if k=true then bp σ2 bW λ y bc=>bc D=some (.lst ys)/\N σ2 (upd bc D (.lst (ys++[y]))) (ys++[y]) else bW D=some (.lst ys)/\N σ2 bW ys)):=by
 refine #[λ i m σ' H' ys=>m=n - i/\i<=n/\Pv i σ' H' ys,#[n,rfl,j0 _,h0],?_];rintro i m σ' H' ys ⟨rfl,ax,p⟩;obtain ⟨a8,aT⟩:=aw i σ' H' ys ax p;refine #[a8,?_];by_cases ea:i<n
 ·exact .inr #[pb i σ' H' ys ea p,.aD,Pv (i+1),λ σ2 au zs iJ=>#[n - (i+1),.aD,rfl,ea,iJ],λ x au y=>aB i σ' H' ys x au ea p y]
 ·have e:i=n:=by omega
  subst e;exact .inl (c4 σ' H' ys p)
noncomputable def tJ (X:aP) (cs:List Expr) (t:TT):Prop :=
 ∀ (pins:d5) (s:Shared) (σ:St) (H:az) (Q:Bool->az->Prop),Inv X pins σ H s->t σ H Q ->
  wpAny (model X.prog X.w) X.A (forIn cs true λ c r=>if r=true then do let ok ← isTrue c X.env (eval c X.env);pure (ForInStep.yield ok) else pure (ForInStep.yield r)) (EE X pins σ Q) X.c3 s
noncomputable def mS:TT:=λ _ H Q=>Q true H
theorem ada {X:aP}:tJ X [] mS:=λ _ _ _ H _ I h=>wpAny_tests_nil #[H,I,h]
theorem adb {X:aP} {c:Expr} {t:TT} (ak:l6 X c t):tJ X [c] t:=λ pins s σ H Q I h=>wpAny_tests_one (ak pins s σ H Q I h)
section
variable {w:World} {R:Result->Shared->Prop}
theorem QY {bk:Expr} {pos:Pos} {it acc:Value} {env:Env} (J:Nat->Shared->Prop)
  (turn : ∀ n s',J n s'->wpAny (model prog w) A (pyNext it) (λ r t1=>match r with
   | none=>R (.ok .next) t1
   | some v=>wpAny (model prog w) A (letOwnedTupleGo bk it v) (λ _ bw=>wpAny (model prog w) A (assign bk env v) (λ _ t3 =>
     wpAny (model prog w) A (forIn cs true λ c r=>if r=true then do let ok ← isTrue c env (eval c env);pure (ForInStep.yield ok) else pure (ForInStep.yield r)) (λ ok nZ =>
      if ok=true then wpAny (model prog w) A (eval elt env) (λ x MF=>wpAny (model prog w) A (call (.builtin "list.append") [acc,x]) (λ _ md => ∃ m,m<n/\J m md)
       (notedBy (model prog w) A env λ e jS=>R (.error e) jS) MF) (notedBy (model prog w) A env λ e jS=>R (.error e) jS) nZ
      else ∃ m,m<n/\J m nZ) (notedBy (model prog w) A env λ e jS=>R (.error e) jS) t3) (notedBy (model prog w) A env λ e jS=>R (.error e) jS) bw) (notedBy (model prog w) A env λ e jS=>R (.error e) jS) t1)
    (notedBy (model prog w) A env λ e jS=>R (.error e) jS) s')
  (n:Nat) (h:J n s):codeAny (model prog w) A (.compLoop (.ListComp elt [#[bk,iter,cs,0]] scope pos) 0 it acc env) R s:=by
 refine codeAny_loop rfl J (λ n s' vo=>?_) n h;show wpAny _ A ((compTurn (.ListComp elt [#[bk,iter,cs,0]] scope pos) 0 it acc env).onRaise (λ z=>do noteFrame z env;theTreesLotGoes z)) _ _ s';refine wpAny_noted ?_;rw [compTurn_list];refine aC (nB (aC (bq (turn n s' vo) λ r t1 k1=>?_)));cases r with
 | none=>exact bH k1
 | some v =>
  refine aC (bq k1 λ _ bw k2=>aC (bq k2 λ _ t3 k3=>aC (bq k3 λ ok nZ kF=>?_)));cases ok with
  | false=>exact bH #[rfl,kF]
  | true=>exact aC (aC (bq kF λ x MF k5=>aC (bq k5 λ _ md tA=>bH (bH #[rfl,tA]))))
end
theorem lP {M:Model} {α: Type} {t:Sem α} {Q: α -> Shared->Prop} {E Ey:b2} (gO : ∀ e s',E e s'->False) (h:wpAny M A t Q E s):wpAny M A t Q Ey s:=hb h (λ _ _ q=>q) λ e s' z=>(gO e s' z).elim
theorem Ei {α β: Type} [BEq α] [LawfulBEq α] : ∀ {l:List (α × β)} {x : α},x∈l.map (·.1) -> ∃ c,l.lookup x=some c
 | [],_,h=>by cases h
 | (y,d)::r,x,h=>by
  rw [List.lookup_cons];cases e:(x == y) with
  | true=>exact #[d,rfl]
  | false =>
   rcases c1.mp h with z | z
   ·rw [z] at e;simp at e
   ·exact Ei z
noncomputable def ot (sc:Scope):bT:=(sc.names.filter (λ p=>p.2 == .cell)).map (·.1)
theorem mU : ∀ (names:List (Str×NameKind)) (n:Nat) (acc:List (Str×Addr)),cellsFrom n names acc=cellsFrom n names []++acc
 | [],_,_=>rfl
 | (name,kind)::r,n,acc=>by
  unfold cellsFrom;split
  ·rw [mU r (n+1) ((name,n)::acc),mU r (n+1) [(name,n)],List.append_assoc];rfl
  ·exact mU r n acc
theorem u9 : ∀ {names:List (Str×NameKind)} {n:Nat} {x:Str} {c:Addr},(x,c)∈cellsFrom n names []->(x,NameKind.cell)∈names
 | [],_,_,_,h=>by cases h
 | (name,kind)::r,n,x,c,h=>by
  unfold cellsFrom at h;split at h
  ·next aG =>
   rw [mU] at h;rcases oB.mp h with z | z
   ·exact ht _ (u9 z)
   ·rw [eC] at z;cases z;rw [eq_of_beq aG];exact gS
  ·exact ht _ (u9 h)
theorem Eg : ∀ {names:List (Str×NameKind)} {n:Nat} {x:Str},(x,NameKind.cell)∈names -> ∃ c,(x,c)∈cellsFrom n names []
 | [],_,_,h=>by cases h
 | (name,kind)::r,n,x,h=>by
  unfold cellsFrom;rcases c1.mp h with z | z
  ·cases z;rw [if_pos (show (NameKind.cell == NameKind.cell)=true from rfl),mU];exact #[n,jx _ (eC.mpr rfl)]
  ·split
   ·obtain ⟨c,ak⟩:=Eg (n:=n+1) z;rw [mU];exact #[c,uC _ ak]
   ·exact Eg z
theorem rk {x:Str}:x∈ot sc ↔ (x,NameKind.cell)∈sc.names:=by
 unfold ot;rw [e3];constructor
 ·rintro ⟨⟨y,k⟩,h,rfl⟩;obtain ⟨ah,ai⟩:=q4.mp h;have:k=.cell:=eq_of_beq ai;subst this;exact ah
 ·intro h;exact #[(x,.cell),q4.mpr #[h,rfl],rfl]
theorem u6 {α β: Type} [BEq α] : ∀ (l m:List (α × β)) (x : α),(l++m).lookup x=(l.lookup x).or (m.lookup x)
 | [],_,_=>rfl
 | (y,d)::l,m,x=>by
  rw [List.cons_append,List.lookup_cons,List.lookup_cons];cases (x == y) with
  | true=>rfl
  | false=>exact u6 l m x
theorem Tr {M:Model} {A:Around} {E:b2} {globals:Addr} {func:Option Addr} {code:Value} {env:Env} {builtins:Addr} {Q:Env->Shared->Prop}
  (g4:Q (newEnv scope s.heap.objs.size globals (cellsFrom (s.heap.objs.size+1) scope.names cl) qual func code (some env) builtins) { s with heap:=pushCells (s.heap.push { cls:=.type "dict", data:=.dict #[] }) scope.names }) :
  wpAny M A (newFunctionEnv scope globals cl [] qual func code (some env) builtins) Q E s:=by
 simp only [newFunctionEnv,Option.isSome_some,nI];refine aC (wpAny_alloc ?_);refine aC (wpAny_layCells _ (λ name kind cells=>by cases mv:kind == NameKind.cell<;>simp [mv]) _ _ _ _ ?_);rw [show ({ s with heap:=s.heap.push { cls:=.type "dict", data:=.dict #[] } }:Shared).heap.objs.size=s.heap.objs.size+1 from ha ..];rw [List.forIn_nil];exact aC (bH (bH g4))
structure IK (X:aP) (scope:Scope) (cl:List (Str×Addr)) (N:bT) (js:List (Option Nat)):Prop where
 si:closureFor scope X.env=pure cl
 By : ∀ x∈ot scope,cl.lookup x=none
 kind:scope.kind=.function
 names : ∀ y∈scope.names,y.2=.local->scope.names.lookup y.1=some .local
 sub : ∀ x c,cl.lookup x=some c->X.env.cells.lookup x=some c
 has : ∀ x,((relabel scope X.env).names.lookup x=some .cell\/(relabel scope X.env).names.lookup x=some .free)->(∃ c,cl.lookup x=some c)\/x∈ot scope
 len:js.length=N.length
 seen : ∀ (i j:Nat) (x:Str),N[i]?=some x->js[i]?=some (some j)->X.N[j]?=some x/\x∉ot scope/\X.env.scope.names.lookup x=some .cell/\((relabel scope X.env).names.lookup x=some .cell\/(relabel scope X.env).names.lookup x=some .free)
noncomputable abbrev gW (X:aP) (scope:Scope) (cl:List (Str×Addr)) (N:bT) (a_:List Addr) (pins:d5) (s:Shared) (H:az) (E:b2):aP :=
 { X with N:=N,s₀:=s,H₀:=H,env:=compEnvC scope (cellsFrom (s.heap.objs.size+1) scope.names cl) s.heap.objs.size X.env,outer:=X.stack,ex:=a_,fn:=λ x=>(ot scope).contains x,j7:=X.j7++pins,c3:=E }
theorem aeQ {X:aP} {bk:Expr} {pos:Pos} {N:bT} {c7:TT} {bp:TE}
  (C:IK X scope cl N js) (ak:X.warm=true) (ax:lq X bk iter gr)
  (aS : ∀ a_ pins s H,nQ (gW X scope cl N a_ pins s H λ _ _=>False) bk g)
  (aU : ∀ a_ pins s H,tJ (gW X scope cl N a_ pins s H λ _ _=>False) cs c7)
  (he : ∀ a_ pins s H,cn (gW X scope cl N a_ pins s H λ _ _=>False) elt bp)
  (aB : ∀ x,foldedSetIterable iter X.env x=pure x:=by intro _;rfl):cn X (.ListComp elt [#[bk,iter,cs,0]] scope pos) (wB js gr g c7 bp):=by
 intro pins s σ H Q I h;rw [eval_ListComp];refine wpAny_comprehension_free (use:=none) rfl aB C.si C.kind C.names (bq (ax pins s σ H _ I h) λ VK s1 ah=>bq ah λ BY s2 ai=>?_);obtain ⟨it,a_,hk,J,au,e,cm,T,qH,f2,ai⟩:=ai;subst e;obtain ⟨W,⟨m0,gH⟩,turn⟩:=ai s2.heap.objs.size cm.fresh;refine mG (Tr ?_);have cv:Inv X pins σ (upd au s2.heap.objs.size (.lst [])) { s2 with heap:=s2.heap.push { cls:=.type "list", data:=.seq ([]:List Value).toArray } }:=cm.CB (t':=s2.toks) (its:=[]) .nil (j0 _);dsimp only;generalize el:({ s2 with heap:=s2.heap.push { cls:=.type "list", data:=.seq ([]:List Value).toArray } }:Shared)=s3 at cv;have tM:s2.heap.push { cls:=.type "list", data:=.seq ([]:List Value).toArray }=s3.heap:=by rw [<-el]
 have Wb:s2.gens=s3.gens:=by rw [<-el]
 have Wc:s2.os=s3.os:=by rw [<-el]
 rw [tM];have zd:(pushCells (s3.heap.push { cls:=.type "dict", data:=.dict #[] }) scope.names).Ns s3.heap.objs.size (λ _=>none):=(Heap.Ns.new s3.heap (.type "dict")).keeps (Dl _ _);have kV : ∀ b o,s3.heap.get? b=some o->(pushCells (s3.heap.push { cls:=.type "dict", data:=.dict #[] }) scope.names).get? b=some o:=λ b o q=>Dl _ _ b o (bK _ q)
 have e8:=cellsFrom_ok scope.names (s3.heap.push { cls:=.type "dict", data:=.dict #[] }) (s3.heap.objs.size+1) [] #[λ _ _ hm=>(nomatch hm),List.Pairwise.nil] (by rw [ha];exact b9 _);rw [ha] at e8;generalize pushCells (s3.heap.push { cls:=.type "dict", data:=.dict #[] }) scope.names=a4 at zd kV e8 ⊢;generalize m3:upd au s2.heap.objs.size (.lst [])=aW at cv gH;have a8:s2.heap.objs.size<s3.heap.objs.size:=by rw [<-tM,ha];exact q3 _
 have zp : ∀ b o,s2.heap.get? b=some o->s3.heap.get? b=some o:=λ b o q=>by rw [<-tM];exact bK _ q
 have yc : ∀ x c,cl.lookup x=some c->c<s3.heap.objs.size:=λ x c q=>by
  obtain ⟨v,f7,lK,_⟩:=cv.cell x c (C.sub _ _ q);exact cu lK
 have jL : ∀ x c,(cellsFrom (s3.heap.objs.size+1) scope.names cl).lookup x=some c->(cl.lookup x=some c/\x∉ot scope)\/(x∈ot scope/\(x,c)∈cellsFrom (s3.heap.objs.size+1) scope.names []):=λ x c q=>by
  rw [mU,u6] at q;cases e:(cellsFrom (s3.heap.objs.size+1) scope.names []).lookup x with
  | some cq =>
   rw [e] at q;cases q;have m:=mem_of_lookup e;exact .inr #[rk.mpr (u9 m),m]
  | none =>
   rw [e] at q;have aY:cl.lookup x=some c:=q;refine .inl #[aY,λ z=>?_];rw [C.By x z] at aY;cases aY
 have zx : ∀ x c,cl.lookup x=some c->(cellsFrom (s3.heap.objs.size+1) scope.names cl).lookup x=some c:=λ x c q=>by
  rw [mU,u6];cases e:(cellsFrom (s3.heap.objs.size+1) scope.names []).lookup x with
  | none=>exact q
  | some cq =>
   have:=C.By x (rk.mpr (u9 (mem_of_lookup e)));rw [q] at this;cases this
 have k4 : ∀ x c,(x,c)∈cellsFrom (s3.heap.objs.size+1) scope.names []->a4.IsCell c none/\s3.heap.objs.size+1<=c:=λ x c m=>e8.empty x c m
 have qo : ∀ b∈a_,b<s3.heap.objs.size:=λ b ae=>by
  obtain ⟨o,fz,_⟩:=T.obj 0 _ qH b ae;exact cu (zp b o fz)
 have fst : ∀ b∈a_,b∉fO X.stack:=λ b ae z=>by
  rcases c1.mp (cv.q_ b z) with q | q
  ·exact (f2 b ae).2.1 q
  ·exact (f2 b ae).2.2.1 q
 have G_:(gW X scope cl N a_ pins s3 aW λ _ _=>False).Ok:=by
  refine #[I.ok.mod,C.kind,I.ok.glob,I.ok.blt,b9 _,λ x y c bb cg=>?_,λ x z=>?_,λ x c z q=>?_,#[I.ok.hd.1,λ hw=>cv.Gi hw λ b ae=>(f2 b ae).2.2.2.1],I.ok.frames,.inl rfl,λ b ae=>#[d3 (qo b ae),λ x c q=>?_],
   cv.bs,fl I.ok.jh cv.nY,λ b o q ae=>?_,fst,cv.stack,cv.uV]
  ·rcases jL x c bb with ⟨a1,_⟩ | ⟨_,a1⟩
   ·rcases jL y c cg with ⟨a2,_⟩ | ⟨_,a2⟩
    ·exact I.ok.inj x y c (C.sub _ _ a1) (C.sub _ _ a2)
    ·exact absurd (yc x c a1) (Nat.not_lt.mpr (fl (lg _) (k4 y c a2).2))
   ·rcases jL y c cg with ⟨a2,_⟩ | ⟨_,a2⟩
    ·exact absurd (yc y c a2) (Nat.not_lt.mpr (fl (lg _) (k4 x c a1).2))
    ·exact name_of_addr e8.apart a1 a2
  ·rcases C.has x z with ⟨c,h'⟩ | h'
   ·exact #[c,zx x c h']
   ·obtain ⟨c,m⟩:=Eg (n:=s3.heap.objs.size+1) (rk.mp h');obtain ⟨cq,c2⟩:=Ei (e3.mpr #[(x,c),m,rfl]);refine #[cq,?_];show (cellsFrom (s3.heap.objs.size+1) scope.names cl).lookup x=some cq;rw [mU,u6,c2];rfl
  ·rcases jL x c q with ⟨_,a1⟩ | ⟨_,a1⟩
   ·exact absurd (List.contains_iff_mem.mp z) a1
   ·exact fl (lg _) (k4 x c a1).2
  ·rcases jL x c q with ⟨a1,_⟩ | ⟨_,a1⟩
   ·exact (f2 b ae).2.2.2.2.1 x c (C.sub _ _ a1)
   ·exact jw (gQ (qo b ae) (fl (lg _) (k4 x c a1).2))
  rcases (f2 b ae).2.2.2.1 with z | z
  ·exact I.ok.oq b o q z
  ·exact absurd (gQ (cu q) (fl I.ok.jh z)) (iX _)
 have eM:Inv (gW X scope cl N a_ pins s3 aW λ _ _=>False) [] (pick js σ) aW { s3 with heap:=a4 }:=by
  refine #[G_,rfl,cv.bare,fY.kept kV,#[_,zd,λ i x v bb cg eQ=>?_],λ x c q=>?_,cv.a7.fresh (b9 _),λ x c q=>?_,λ p aw=>?_,cv.a7.kept kV,?_]
  ·obtain ⟨j,k1,k2⟩:=RL cg;obtain ⟨ho,x3,f9,m9⟩:=C.seen i j x bb k1;obtain ⟨m,aF,av⟩:=cv.loc;obtain ⟨u,fp,lk⟩:=av j x v ho k2 (.inr (.inl f9));refine #[u,fp,.inr #[m9,?_]];rcases lk with ⟨k,_⟩ | ⟨_,c,eg,f7,lK,tU⟩
   ·have f3:X.env.scope.names.lookup x=some .local:=k;rw [f9] at f3;cases f3
   ·obtain ⟨cq,yf⟩:=(C.has x m9).resolve_right x3;have:=C.sub _ _ yf;rw [eg] at this;cases this;exact #[c,zx x c yf,f7,kV _ _ lK,tU]
  ·rcases jL x c q with ⟨a1,_⟩ | ⟨_,a1⟩
   ·obtain ⟨v,f7,lK,tU⟩:=cv.cell x c (C.sub _ _ a1);exact #[v,f7,kV _ _ lK,tU]
   ·exact #[none,(k4 x c a1).1]
  ·rcases jL x c q with ⟨a1,_⟩ | ⟨_,a1⟩
   ·exact cv.ia x c (C.sub _ _ a1)
   ·exact cv.a7.fresh (fl (lg _) (k4 x c a1).2)
  ·have pe:p∈X.j7++pins:=by simpa using aw
   obtain ⟨bb,cg,eQ,lC,tE⟩:=cv.pin p pe;refine #[kV _ _ bb,cg,d3 (cu bb),λ z=>?_,tE];rcases c1.mp (cv.q_ _ z) with q | q
   ·exact eQ q
   ·exact lC q
  ·show (pick js σ).length=N.length;unfold pick;rw [bY,C.len]
 have stat : ∀ {H':az},(∀ b∈a_,H' b=none) -> ∀ b∈a_,om (gW X scope cl N a_ pins s3 aW λ _ _=>False) [] H' b:=λ aF b ae =>
  #[aF b ae,d3 (qo b ae),fst b ae,.inl ae,λ x c q=>by
   rcases jL x c q with ⟨a1,_⟩ | ⟨_,a1⟩
   ·exact (f2 b ae).2.2.2.2.1 x c (C.sub _ _ a1)
   ·exact jw (gQ (qo b ae) (fl (lg _) (k4 x c a1).2)),λ p aw=>(f2 b ae).2.2.2.2.2 p (by simpa using aw)]
 have zm:hk 0 a4:=T.keep 0 _ _ qH λ b ae o q=>kV b o (zp b o q)
 have bu : ∀ e s',(gW X scope cl N a_ pins s3 aW λ _ _=>False).c3 e s'->False:=λ _ _ z=>z
 have loop:codeAny (model X.prog X.w) X.A (.compLoop (.ListComp elt [#[bk,iter,cs,0]] scope pos) 0 (.ref it) (.ref s2.heap.objs.size) (compEnvC scope (cellsFrom (s3.heap.objs.size+1) scope.names cl) s3.heap.objs.size X.env))
   (compPost (model X.prog X.w) X.A X.c3 none (hA X pins σ Q) (.ref s2.heap.objs.size) s3.heap.objs.size) { s3 with heap:=a4 }:=by
  refine QY (λ n s' => ∃ i σ' H' ys,Inv (gW X scope cl N a_ pins s3 aW λ _ _=>False) [] σ' H' s'/\hk i s'.heap/\(∀ b∈a_,H' b=none)/\W i n σ' H' ys) ?_ m0 #[0,_,aW,[],eM,zm,λ b ae=>?_,gH]
  ·rintro n s5 ⟨i,σ5,bW,ys,l4,qI,tN,Fj⟩;obtain ⟨W6,way⟩:=turn i n σ5 bW ys Fj;rcases way with ⟨stop,rS⟩ | ⟨go,a6,xy,dx,step⟩
   ·refine lP bu (bq (T.done (gW X scope cl N a_ pins s3 aW λ _ _=>False) rfl rfl rfl rfl ak i [] s5 σ5 bW _ l4 (stat tN) qI stop) ?_);rintro r b_ ⟨aq,gm⟩;subst aq;obtain ⟨m,aF,_⟩:=gm.loc;refine #[m,aF,λ h' d4=>#[.ref s2.heap.objs.size,bW,?_,rfl,rS]];have low : ∀ b o,s3.heap.get? b=some o->b≠s3.heap.objs.size:=λ b o q=>d3 (cu q)
    have same : ∀ b,b≠s3.heap.objs.size->h'.get? b=b_.heap.get? b:=λ b ae=>d4.2 b ae
    have B:=gm.base;refine cv.CN (s':={ b_ with heap:=h' }) (H':=bW) (ch:=a_) gm.os #[λ b o q mb ah ai=>?_,λ b o q mb ah ai=>?_,B.free,λ b o q ai=>?_,B.lS,B.k7,B.lR] (λ a o q=>?_) gm.bare (λ b ae=>#[(f2 b ae).2.2.2.1,(f2 b ae).2.1,(f2 b ae).2.2.2.2.1,(f2 b ae).2.2.2.2.2])
    ·exact (same b (low b o q)).trans (B.keep b o q mb ah ai)
    ·obtain ⟨cR,z⟩:=B.slot b o q mb ah ai;exact #[cR,(same b (low b o q)).trans z]
    ·obtain ⟨ey,z⟩:=B.there b o q ai;exact #[ey,(same b (low b o q)).trans z]
    ·have tC : ∀ c u,bW c=some u->c≠s3.heap.objs.size:=λ c u z y=>by
      have:=gm.free;rw [y] at z;rw [show bW s3.heap.objs.size=none from this] at z;cases z
     refine (gm.a7 a o q).jq (λ c u nf z=>(same c ?_).trans z) (λ _ z=>z) λ _ _ z=>z
     rcases nf with eh | eh
     ·rw [eh];exact tC a o q
     ·exact tC c _ eh
   ·refine lP bu (bq (T.item (gW X scope cl N a_ pins s3 aW λ _ _=>False) rfl rfl rfl rfl ak i [] s5 σ5 bW _ l4 (stat tN) qI go) ?_);rintro r b_ ⟨u,aq,dM⟩;subst aq;refine lP bu (bq dM ?_);rintro _ cL ⟨x,dv,jD,rT,Fp,ub,FT⟩;have Fu:=jD.pinned (stat FT) (T.obj _ _ ub);refine lP bu (bq (aS a_ pins s3 aW _ cL σ5 dv x u _ Fu rT (step x dv Fp)) ?_);rintro _ dp ⟨σ8,fg,xv,EZ⟩;refine lP bu (bq (aU a_ pins s3 aW _ dp σ8 fg _ xv EZ) ?_);rintro k ee ⟨hB,xw,qd⟩;have fin : ∀ {s':Shared} {σ':St} {H':az} {oi:bl},Inv (gW X scope cl N a_ pins s3 aW λ _ _=>False) ([]++wJ a_ cL.heap) σ' H' s'->xy σ' H' oi ->
      ∃ cP,cP<n /\ ∃ i σ' H' ys,Inv (gW X scope cl N a_ pins s3 aW λ _ _=>False) [] σ' H' s'/\hk i s'.heap/\(∀ b∈a_,H' b=none)/\W i cP σ' H' ys:=λ {s' σ' H' oi} tl rN=>by
     obtain ⟨cP,hm,wv⟩:=dx σ' H' oi rN;refine #[cP,hm,i+1,σ',H',oi,tl.Ap,T.keep _ _ _ ub λ b ae o q=>(tl.pin (b,o) (jx _ (jx _ (xc ae q)))).1,λ b ae=>?_,wv];obtain ⟨o,q,_⟩:=T.obj _ _ ub b ae;exact (tl.pin (b,o) (jx _ (jx _ (xc ae q)))).2.1
    cases k with
    | false =>
     rw [if_neg g9] at qd ⊢;exact fin xw qd.2
    | true =>
     rw [if_pos rfl] at qd ⊢;refine lP bu (bq (he a_ pins s3 aW _ ee σ8 hB _ xw qd) ?_);rintro y h5 ⟨mh,l3,EB,E4,F6,E0⟩;refine lP bu (bq (D4 _ h5 σ8 l3 (.ref s2.heap.objs.size) [mh] _ [y] (λ _ mW=>xy σ8 mW (ys++[mh])) EB rfl (.cons E4 .nil) #[_,ys,mh,rfl,rfl,F6,a6,E0]) ?_);rintro _ sB ⟨_,mW,EC,_,E1⟩;exact fin EC E1
  ·rw [<-m3,bj]
   ·exact (f2 b ae).1
   ·obtain ⟨o,fz,_⟩:=T.obj 0 _ qH b ae;exact d3 (cu fz)
 have goal:codeAny (model X.prog X.w) X.A (.compStart (.ListComp elt [#[bk,iter,cs,0]] scope pos) 0 (.ref it) (.ref s2.heap.objs.size) (compEnvC scope (cellsFrom (s3.heap.objs.size+1) scope.names cl) s3.heap.objs.size X.env))
   (compPost (model X.prog X.w) X.A X.c3 none (hA X pins σ Q) (.ref s2.heap.objs.size) s3.heap.objs.size) { s3 with heap:=a4 } :=
  codeAny_compStart_list loop (T.self _ 0 _ _ _ zm loop)
 subst el;exact goal
theorem sG.c {X:aP} {N:bT} (C:sG X scope cl N js):IK X scope cl N js:=#[C.si,λ x aj=>absurd rfl (C.sL _ (rk.mp aj)),C.kind,C.names,C.sub,λ x h=>.inl (C.has x h),C.len,λ i j x ah ai=>let ⟨a,b,c⟩:=C.seen i j x ah ai;⟨a,λ aj=>absurd rfl (C.sL _ (rk.mp aj)),b,c⟩]
theorem wY {X:aP} {N:bT} {E:b2} (d0 : ∀ y∈scope.names,y.2≠.cell):gW X scope cl N a_ pins s H E=mL X scope cl N a_ pins s H E:=by
 have bX:ot scope=[]:=List.eq_nil_iff_forall_not_mem.mpr λ x aj=>d0 _ (rk.mp aj) rfl
 have aM:cellsFrom (s.heap.objs.size+1) scope.names cl=cl:=by
  rw [mU,show cellsFrom (s.heap.objs.size+1) scope.names []=[] from List.eq_nil_iff_forall_not_mem.mpr λ p aw=>d0 _ (u9 (x:=p.1) (c:=p.2) aw) rfl];rfl
 unfold gW;rw [bX,aM];rfl
theorem acV {X:aP} {bk:Expr} {pos:Pos} {N:bT} {c7:TT} {bp:TE}
  (C:sG X scope cl N js) (ak:X.warm=true) (ax:lq X bk iter gr)
  (aS : ∀ a_ pins s H,nQ (mL X scope cl N a_ pins s H λ _ _=>False) bk g)
  (aU : ∀ a_ pins s H,tJ (mL X scope cl N a_ pins s H λ _ _=>False) cs c7)
  (he : ∀ a_ pins s H,cn (mL X scope cl N a_ pins s H λ _ _=>False) elt bp)
  (aB : ∀ x,foldedSetIterable iter X.env x=pure x:=by intro _;rfl):cn X (.ListComp elt [#[bk,iter,cs,0]] scope pos) (wB js gr g c7 bp) :=
 aeQ C.c ak ax (λ a_ pins s H=>by rw [wY C.sL];exact aS a_ pins s H) (λ a_ pins s H=>by rw [wY C.sL];exact aU a_ pins s H) (λ a_ pins s H=>by rw [wY C.sL];exact he a_ pins s H) aB
end bM
namespace m1
open PySem PyProof.Rows
theorem DH (t:Addr) : ¬ ((Value.ref t == Value.none)=true):=g9
section
variable {w:World} {E:b2}
theorem pull {j t:Addr} {k:Nat} {x:Value} {Q:b2} (a:s.heap.IsTupleIter j t k) (b:s.heap.IsTuple t vs) (c:vs[k]?=some x)
  (q : ∀ g,g.IsTupleIter j t (k+1)->Heap.SameBut j s.heap g->Q x { s with heap:=g }):wpAny (model prog w) A (Builtin.SmallTypes.nextOf (.ref j)) Q E s:=by
 obtain ⟨akv,A7,U4,xJ⟩:=id a;obtain ⟨Vu,gt,_,aku,U6⟩:=b;unfold Builtin.SmallTypes.nextOf;refine aC (nA (name:=Str.ofString "__next__") a.typeIs wD (lW wD a.typeIs Ia ?_ (Ib _)));show wpAny _ _ (field (.ref j) 0>>=_) _ _ s;refine aC (fc A7 xJ (x:=.ref t) rfl ?_);show wpAny _ _ (ite ((Value.ref t == Value.none)=true) _ _) _ _ s;rw [if_neg (DH t)];show wpAny _ _ (field (.ref j) 1>>=_) _ _ s;refine aC (fc A7 xJ (x:=.int k 0) rfl ?_);show wpAny _ _ (seqItems? (.ref t)>>=_) _ _ s;refine aC (iY gt U6 ?_);simp only [iz,c];refine aC (ux A7 xJ .zs (bH #[x,rfl,bH (q _ #[_,oz _ A7 (wC (q2 xJ _)),(Obj.cls_mapFields ..).trans U4,?_] (z0 ..))]));rw [q2 xJ];simp [rawInt]
theorem ae2 {j t:Addr} {k:Nat} {Q:b2} (hd:gE.In A s.heap) (a:s.heap.IsTupleIter j t k) (b:s.heap.IsTuple t vs) (c:vs[k]?=none)
  (q : ∀ g e,Heap.ExtBut j s.heap g->(∃ o,g.get? e=some o/\o.cls=.type "StopIteration")->E (.ref e) { s with heap:=g }):wpAny (model prog w) A (Builtin.SmallTypes.nextOf (.ref j)) Q E s :=
 gE.R0 hd a b c q
noncomputable def eU (p:Bool) (h:Heap) (j t:Addr) (k:Nat):Prop:=bif p then h.IsListIter j t k else h.IsTupleIter j t k
noncomputable def fX (p:Bool) (h:Heap) (t:Addr) (xs:cZ):Prop:=bif p then h.IsList t xs else h.IsTuple t xs
theorem eU.extBut {p:Bool} {h g:Heap} {j t:Addr} {k:Nat} (a:eU p h j t k) (e:Heap.ExtBut z h g) (n:j≠z):eU p g j t k:=by
 cases p
 ·exact Heap.IsTupleIter.extBut a e n
 ·exact Heap.IsListIter.extBut a e n
theorem fX.extBut {p:Bool} {h g:Heap} {t:Addr} {xs:cZ} (a:fX p h t xs) (e:Heap.ExtBut z h g) (n:t≠z):fX p g t xs:=by
 cases p
 ·exact Heap.IsTuple.extBut a e n
 ·exact Heap.IsList.extBut a e n
theorem eU.up {p:Bool} {h g:Heap} {j t:Addr} {k:Nat} (a:eU p h j t k) (u : ∀ o,h.get? j=some o->g.get? j=some o):eU p g j t k:=by
 cases p
 ·obtain ⟨o,e,r⟩:=a;exact #[o,u o e,r]
 ·obtain ⟨o,e,r⟩:=a;exact #[o,u o e,r]
theorem eU.hd {p:Bool} {h g:Heap} {j t:Addr} {k:Nat} (a:eU p h j t k) (hd:gE.In A h) (u:Heap.ExtBut j h g):gE.In A g:=by
 cases p
 ·obtain ⟨o,e,_,d⟩:=a;exact hd.but e (by rw [d];exact gE.Di) u
 ·obtain ⟨o,e,_,d⟩:=a;exact hd.but e (by rw [d];exact gE.Di) u
theorem H5 {p:Bool} {j t:Addr} {k:Nat} {x:Value} {Q:b2} (a:eU p s.heap j t k) (b:fX p s.heap t vs) (c:vs[k]?=some x)
  (q : ∀ g,eU p g j t (k+1)->Heap.SameBut j s.heap g->Q x { s with heap:=g }):wpAny (model prog w) A (Builtin.SmallTypes.nextOf (.ref j)) Q E s:=by
 cases p
 ·exact pull a b c q
 ·exact wpAny_nextOf_list_item a b c q
theorem SG {p:Bool} {j t:Addr} {k:Nat} {Q:b2} (hd:gE.In A s.heap) (a:eU p s.heap j t k) (b:fX p s.heap t vs) (c:vs[k]?=none)
  (q : ∀ g e,Heap.ExtBut j s.heap g->(∃ o,g.get? e=some o/\o.cls=.type "StopIteration")->E (.ref e) { s with heap:=g }):wpAny (model prog w) A (Builtin.SmallTypes.nextOf (.ref j)) Q E s:=by
 cases p
 ·exact gE.R0 hd a b c q
 ·exact gE.Sz hd a b c q
theorem Jz {dm:Bool} {TI c9:Addr} {k:Nat} {xs ys:cZ} {x y a b:Value} {Q:b2} (D:ZipApart z TI c9 c_ dP t1 bw)
  (eX:IsZip s.heap z TI c9 .none) (kK:IsPair s.heap TI (.ref c_) (.ref dP)) (n3:IsPair s.heap c9 a b)
  (gp:eU p1 s.heap c_ t1 k) (hQ:eU dm s.heap dP bw k) (ew:fX p1 s.heap t1 xs) (hR:fX dm s.heap bw ys) (ex:xs[k]?=some x) (eO:ys[k]?=some y)
  (q : ∀ g,IsZip g z TI c9 (rawInt s.heap.objs.size)->IsPair g c9 x y->eU p1 g c_ t1 (k+1)->eU dm g dP bw (k+1)->IsPair g s.heap.objs.size x y ->
   (∀ c o,c≠z->c≠c9->c≠c_->c≠dP->s.heap.get? c=some o->g.get? c=some o)->Q (.ref s.heap.objs.size) { s with heap:=g }) :
  wpAny (model prog w) A (Builtin.«zip.__next__» ⟨[.ref z],[]⟩) (λ fin s' => ∃ v,fin=.done (.ret v)/\Q v s') E s:=by
 show wpAny _ _ (field (.ref z) 2>>=_) _ _ _;refine aC (fc eX rfl (x:=.bool false) rfl ?_);show wpAny _ _ (field (.ref z) 3>>=_) _ _ _;refine aC (fc eX rfl (x:=.ref TI) rfl (aC (iY kK rfl ?_)));show wpAny _ _ (Builtin.SmallTypes.ownedTupleIsFree (.ref z)>>=_) _ _ _;refine aC ?_;unfold Builtin.SmallTypes.ownedTupleIsFree;refine aC (fc eX rfl (x:=.none) rfl (bH ?_));simp only [nI];refine aC (sA (aC (fc eX rfl (x:=.ref c9) rfl (aC (oG eX .zs λ g1 kk s1=>?_)))));replace kk:IsZip g1 z TI c9 .ellipsis:=kk;refine aC ?_;simp only [List.zipIdx_cons,List.zipIdx_nil,List.forIn_cons,List.forIn_nil];refine aC (aC (rf ?_));show wpAny _ _ (Builtin.SmallTypes.nextOf (.ref c_)>>=_) _ _ _;refine aC (H5 (gp.extBut s1.extBut D.i1z) (ew.extBut s1.extBut D.l1z) ex λ g2 BV s2=>bH ?_);have qL:IsPair g2 c9 a b:=s2.extBut _ _ D.TOi1 (s1.extBut _ _ D.TOz n3);refine aC (iY qL rfl (aC (IB qL λ g3 sf s3=>?_)));replace sf:IsPair g3 c9 x b:=sf;refine aC (pR (bH (aC (aC (rf ?_)))));show wpAny _ _ (Builtin.SmallTypes.nextOf (.ref dP)>>=_) _ _ _;have yV:=((hQ.extBut s1.extBut D.i2z).extBut s2.extBut D.i12.symm).extBut s3.extBut D.TOi2.symm;have y1:=((hR.extBut s1.extBut D.l2z).extBut s2.extBut D.l2i1).extBut s3.extBut D.l2TO;refine aC (H5 yV y1 eO λ kD HF s4=>bH ?_);have zu:IsPair kD c9 x b:=s4.extBut _ _ D.TOi2 sf;refine aC (iY zu rfl (aC (IB zu λ hh sg s5=>?_)));replace sg:IsPair hh c9 x y:=sg;refine aC (pR (bH (bH (aC (iY sg rfl (aC (wpAny_newTuple ?_)))))));have nY:hh.objs.size=s.heap.objs.size:=by rw [s5.1,s4.1,s3.1,s2.1,s1.1]
 have OM:IsZip hh z TI c9 .ellipsis:=s5.extBut _ _ D.TOz.symm (s4.extBut _ _ D.i2z.symm (s3.extBut _ _ D.TOz.symm (s2.extBut _ _ D.i1z.symm kk)));have Zl : ∀ c o,c≠z->c≠c9->c≠c_->c≠dP->s.heap.get? c=some o->hh.get? c=some o:=λ c o cC dB g5 g6 aY =>
  s5.extBut _ _ dB (s4.extBut _ _ g6 (s3.extBut _ _ dB (s2.extBut _ _ g5 (s1.extBut _ _ cC aY))))
 have GL:eU p1 hh c_ t1 (k+1):=((BV.extBut s3.extBut D.TOi1.symm).extBut s4.extBut D.i12).extBut s5.extBut D.TOi1.symm;have Yk:eU dm hh dP bw (k+1):=HF.extBut s5.extBut D.TOi2.symm;have qM:z<hh.objs.size:=cu OM;show wpAny _ _ (Builtin.SmallTypes.ownedTupleHandOut (.ref z) (.ref hh.objs.size)>>=_) _ _ _;refine aC ?_;unfold Builtin.SmallTypes.ownedTupleHandOut;have Zr:IsZip (hh.push { cls:=.type "tuple", data:=.seq [x,y].toArray }) z TI c9 .ellipsis:=bK _ OM;refine aC (oG Zr .zs λ g0 wc cL=>?_);replace wc:IsZip g0 z TI c9 (rawInt hh.objs.size):=wc;refine oG wc .zs λ o1 wd dp=>?_
 replace wd:IsZip o1 z TI c9 (rawInt hh.objs.size):=wd;have Ck : ∀ c o,c≠z->hh.get? c=some o->o1.get? c=some o:=λ c o cC aY=>dp.extBut _ _ cC (cL.extBut _ _ cC (bK _ aY))
 have Ph:IsPair o1 hh.objs.size x y:=dp.extBut _ _ (jw qM) (cL.extBut _ _ (jw qM) (d6 _ rfl));rw [nY] at wd Ph;refine bH #[_,rfl,?_];show Q (.ref hh.objs.size) _;rw [nY];refine q o1 wd (Ck _ _ D.TOz sg) ?_ ?_ Ph λ c o cC dB g5 g6 aY=>Ck c o cC (Zl c o cC dB g5 g6 aY)
 ·exact GL.up λ o=>Ck _ o D.i1z
 ·exact Yk.up λ o=>Ck _ o D.i2z
theorem JA {dm:Bool} {TI c9:Addr} {k:Nat} {xs ys:cZ} {a b:Value} {Q:Fin->Shared->Prop} (hd:gE.In A s.heap) (D:ZipApart z TI c9 c_ dP t1 bw)
  (eX:IsZip s.heap z TI c9 .none) (kK:IsPair s.heap TI (.ref c_) (.ref dP)) (n3:IsPair s.heap c9 a b)
  (gp:eU p1 s.heap c_ t1 k) (hQ:eU dm s.heap dP bw k) (ew:fX p1 s.heap t1 xs) (hR:fX dm s.heap bw ys) (xK:xs[k]?=none\/ys[k]?=none)
  (q : ∀ g e,(∀ c o,c≠z->c≠c9->c≠c_->c≠dP->s.heap.get? c=some o->g.get? c=some o)->(∃ o,g.get? e=some o/\o.cls=.type "StopIteration")->E (.ref e) { s with heap:=g }) :
  wpAny (model prog w) A (Builtin.«zip.__next__» ⟨[.ref z],[]⟩) Q E s:=by
 show wpAny _ _ (field (.ref z) 2>>=_) _ _ _;refine aC (fc eX rfl (x:=.bool false) rfl ?_);show wpAny _ _ (field (.ref z) 3>>=_) _ _ _;refine aC (fc eX rfl (x:=.ref TI) rfl (aC (iY kK rfl ?_)));show wpAny _ _ (Builtin.SmallTypes.ownedTupleIsFree (.ref z)>>=_) _ _ _;refine aC ?_;unfold Builtin.SmallTypes.ownedTupleIsFree;refine aC (fc eX rfl (x:=.none) rfl (bH ?_));simp only [nI];refine aC (sA (aC (fc eX rfl (x:=.ref c9) rfl (aC (oG eX .zs λ g1 kk s1=>?_)))));replace kk:IsZip g1 z TI c9 .ellipsis:=kk;refine aC ?_;simp only [List.zipIdx_cons,List.zipIdx_nil,List.forIn_cons,List.forIn_nil];refine aC (aC (rf ?_));show wpAny _ _ (Builtin.SmallTypes.nextOf (.ref c_)>>=_) _ _ _;have r5:gE.In A g1:=hd.but eX (λ vs e=>by injection e with e;subst e;exact λ z=>nomatch z) s1.extBut;cases ex:xs[k]? with
 | none =>
  refine aC (SG r5 (gp.extBut s1.extBut D.i1z) (ew.extBut s1.extBut D.l1z) ex ?_);rintro g2 e s2 ⟨cb,kN,coe⟩;have zv:IsZip g2 z TI c9 .ellipsis:=s2 _ _ D.i1z.symm kk;have y7:e≠z:=λ y=>by
   subst y;rw [zv] at kN;cases kN;simp at coe
  exact oG zv .zs λ g3 _ s3=>q g3 e (λ c o cC _ g5 _ y=>s3.extBut _ _ cC (s2 _ _ g5 (s1.extBut _ _ cC y))) #[cb,s3.extBut _ _ y7 kN,coe]
 | some x =>
  have eO:ys[k]?=none:=xK.resolve_left (by rw [ex];exact λ y=>nomatch y);refine aC (H5 (gp.extBut s1.extBut D.i1z) (ew.extBut s1.extBut D.l1z) ex λ g2 BV s2=>bH ?_);have qL:IsPair g2 c9 a b:=s2.extBut _ _ D.TOi1 (s1.extBut _ _ D.TOz n3);refine aC (iY qL rfl (aC (IB qL λ g3 sf s3=>?_)));refine aC (pR (bH (aC (aC (rf ?_)))));show wpAny _ _ (Builtin.SmallTypes.nextOf (.ref dP)>>=_) _ _ _;have yV:=((hQ.extBut s1.extBut D.i2z).extBut s2.extBut D.i12.symm).extBut s3.extBut D.TOi2.symm;have y1:=((hR.extBut s1.extBut D.l2z).extBut s2.extBut D.l2i1).extBut s3.extBut D.l2TO;have hd2:gE.In A g2:=(gp.extBut s1.extBut D.i1z).hd r5 s2.extBut;have tT:gE.In A g3:=hd2.but qL (λ vs e=>nomatch e) s3.extBut;refine aC (SG tT yV y1 eO ?_);rintro kD e s4 ⟨cb,kN,coe⟩;have OL:IsZip kD z TI c9 .ellipsis:=s4 _ _ D.i2z.symm (s3.extBut _ _ D.TOz.symm (s2.extBut _ _ D.i1z.symm kk));have y7:e≠z:=λ y=>by
   subst y;rw [OL] at kN;cases kN;simp at coe
  exact oG OL .zs λ hh _ s5=>q hh e (λ c o cC dB g5 g6 y=>s5.extBut _ _ cC (s4 _ _ g6 (s3.extBut _ _ dB (s2.extBut _ _ g5 (s1.extBut _ _ cC y))))) #[cb,s5.extBut _ _ y7 kN,coe]
theorem next_item {dm:Bool} {TI c9:Addr} {k:Nat} {xs ys:cZ} {x y a b:Value} {Q:c0->Shared->Prop} (D:ZipApart z TI c9 c_ dP t1 bw)
  (eX:IsZip s.heap z TI c9 .none) (kK:IsPair s.heap TI (.ref c_) (.ref dP)) (n3:IsPair s.heap c9 a b)
  (gp:eU p1 s.heap c_ t1 k) (hQ:eU dm s.heap dP bw k) (ew:fX p1 s.heap t1 xs) (hR:fX dm s.heap bw ys) (ex:xs[k]?=some x) (eO:ys[k]?=some y)
  (q : ∀ g,IsZip g z TI c9 (rawInt s.heap.objs.size)->IsPair g c9 x y->eU p1 g c_ t1 (k+1)->eU dm g dP bw (k+1)->IsPair g s.heap.objs.size x y ->
   (∀ c o,c≠z->c≠c9->c≠c_->c≠dP->s.heap.get? c=some o->g.get? c=some o)->Q (some (.ref s.heap.objs.size)) { s with heap:=g }):wpAny (model prog w) A (pyNext (.ref z)) Q E s:=by
 have ty:s.TypeIs (.ref z) "zip" := #[_,eX,rfl]
 unfold pyNext;refine aC (pF (nA (name:=Str.ofString "__next__") ty sQ (lW sQ ty Dm ?_ (Dn _))));exact Jz D eX kK n3 gp hQ ew hR ex eO λ g e4 dK gG fo dX hC=>bH (q g e4 dK gG fo dX hC)
theorem JM {dm:Bool} {TI c9:Addr} {k:Nat} {xs ys:cZ} {a b:Value} {Q:c0->Shared->Prop} (hd:gE.In A s.heap) (D:ZipApart z TI c9 c_ dP t1 bw)
  (eX:IsZip s.heap z TI c9 .none) (kK:IsPair s.heap TI (.ref c_) (.ref dP)) (n3:IsPair s.heap c9 a b)
  (gp:eU p1 s.heap c_ t1 k) (hQ:eU dm s.heap dP bw k) (ew:fX p1 s.heap t1 xs) (hR:fX dm s.heap bw ys) (xK:xs[k]?=none\/ys[k]?=none)
  (q : ∀ g,(∀ c o,c≠z->c≠c9->c≠c_->c≠dP->s.heap.get? c=some o->g.get? c=some o)->Q none { s with heap:=g }):wpAny (model prog w) A (pyNext (.ref z)) Q E s:=by
 have ty:s.TypeIs (.ref z) "zip" := #[_,eX,rfl]
 unfold pyNext;refine aC (pF (nA (name:=Str.ofString "__next__") ty sQ (lW sQ ty Dm ?_ (Dn _))));refine JA hd D eX kK n3 gp hQ ew hR xK ?_;rintro g e up ⟨cb,kN,coe⟩
 exact aC (z1 (T := "StopIteration") (b:=true) #[cb,kN,coe] z2 (bH (q _ up)))
end
noncomputable abbrev GQ (p:Bool) (t:Addr):Obj:={ cls:=.type (bif p then "list_iterator" else "tuple_iterator"),data:=.fields [.ref t,.int 0 0].toArray }
theorem fX.push {p:Bool} {h:Heap} {t:Addr} {xs:cZ} (a:fX p h t xs) (o:Obj):fX p (h.push o) t xs:=by
 cases p
 ·exact Dp a o
 ·exact Heap.IsList.push a o
theorem Q6 {w:World} {E:b2} {p:Bool} {t:Addr} {xs:cZ} {Q:b2} (h:fX p s.heap t xs) (q:Q (.ref s.heap.objs.size) { s with heap:=s.heap.push (GQ p t) }):wpAny (model prog w) A (pyIter (.ref t)) Q E s:=by
 cases p
 ·exact uy h q
 ·exact wpAny_pyIter_list h q
noncomputable abbrev y2 (p:Bool) (h:Heap) (t1:Addr):Heap:=h.push (GQ p t1)
noncomputable abbrev B2 (p q:Bool) (h:Heap) (t1 bw:Addr):Heap:=(y2 p h t1).push (GQ q bw)
noncomputable abbrev qA (p q:Bool) (h:Heap) (t1 bw:Addr):Heap:=(B2 p q h t1 bw).push { cls:=.type "tuple", data:=.seq [.ref h.objs.size,.ref (y2 p h t1).objs.size].toArray }
noncomputable abbrev qB (p q:Bool) (h:Heap) (t1 bw:Addr):Heap:=(qA p q h t1 bw).push { cls:=.type "tuple", data:=.seq [.none,.none].toArray }
noncomputable abbrev oe (p q:Bool) (h:Heap) (t1 bw:Addr):Heap:=(qB p q h t1 bw).push { cls:=.type "zip", data:=.fields [.none,.bool false,.bool false,.ref (B2 p q h t1 bw).objs.size,.ref (qA p q h t1 bw).objs.size].toArray }
theorem JK (p q:Bool) (t1 bw:Addr) (xs ys:cZ):Meets (Builtin.«zip.__new__» ⟨[.type "zip", .ref t1,.ref bw],[]⟩) (λ _ R s=>fX p s.heap t1 xs/\fX q s.heap bw ys/\R (.ok (.ret (.ref (qB p q s.heap t1 bw).objs.size))) { s with heap:=oe p q s.heap t1 bw }) :=
 .of_wp λ prog w A R s h=>by
  obtain ⟨cj,vn,dd,tt,vt⟩:=s;obtain ⟨a1,a2,h⟩:=h;have sub:=sub_zip;have e4:fX p (Shared.heap ⟨cj,vn,dd,tt,vt⟩) t1 xs:=a1;have dK:fX q (Shared.heap ⟨y2 p cj t1,vn,dd,tt,vt⟩) bw ys:=fX.push a2 _
  wp_walk using Q6 e4,Q6 dK
  exact #[_,rfl,h]
section
variable {w:World} {E:b2}
theorem make {p q:Bool} {xs ys:cZ} {Q:b2} (a1:fX p s.heap t1 xs) (a2:fX q s.heap bw ys)
  (k : ∀ g,IsZip g (s.heap.objs.size+4) (s.heap.objs.size+2) (s.heap.objs.size+3) .none->IsPair g (s.heap.objs.size+2) (.ref s.heap.objs.size) (.ref (s.heap.objs.size+1))->IsPair g (s.heap.objs.size+3) .none .none ->
   eU p g s.heap.objs.size t1 0->eU q g (s.heap.objs.size+1) bw 0->(∀ c o,s.heap.get? c=some o->g.get? c=some o)->Q (.ref (s.heap.objs.size+4)) { s with heap:=g }) :
  wpAny (model prog w) A (call (.type "zip") [.ref t1,.ref bw]) Q E s:=by
 refine callType_new F.called_zip .aA (F.typeCall_zip_2 _ _) (F.newCall_zip_2 _ _) (λ obj=>F.args_object_init_3 obj _ _) F.entry_zip_new (JK p q t1 bw xs ys) #[a1,a2,?_];have cC:(y2 p s.heap t1).objs.size=s.heap.objs.size+1:=ha ..;have dB:(B2 p q s.heap t1 bw).objs.size=s.heap.objs.size+2:=by rw [ha,cC]
 have g5:(qA p q s.heap t1 bw).objs.size=s.heap.objs.size+3:=by rw [ha,dB]
 have g6:(qB p q s.heap t1 bw).objs.size=s.heap.objs.size+4:=by rw [ha,g5]
 have nV:(oe p q s.heap t1 bw).get? (qB p q s.heap t1 bw).objs.size=some _:=d6 _ rfl;have o4:(oe p q s.heap t1 bw).get? (qA p q s.heap t1 bw).objs.size=some _:=bK _ (d6 _ rfl);have lB:(oe p q s.heap t1 bw).get? (B2 p q s.heap t1 bw).objs.size=some _:=bK _ (bK _ (d6 _ rfl));have dm:(oe p q s.heap t1 bw).get? (y2 p s.heap t1).objs.size=some _:=bK _ (bK _ (bK _ (d6 _ rfl)));have p1:(oe p q s.heap t1 bw).get? s.heap.objs.size=some _:=bK _ (bK _ (bK _ (bK _ (d6 _ rfl))));show _/\_;rw [dB,g5,g6] at nV;rw [cC,dB] at lB;rw [g5] at o4;rw [cC] at dm;rw [g6];exact #[#[_,nV,rfl],k _ nV lB o4 (by cases p<;>exact #[_,p1,rfl,rfl]) (by cases q<;>exact #[_,dm,rfl,rfl]) λ c o y=>bK _ (bK _ (bK _ (bK _ (bK _ y))))]
end
end m1
namespace bM
open PySem PySem.Spec PyProof.Rows
noncomputable def oN:Expr->Bool
 | .Tuple _ _ _=>true
 | _=>false
theorem Inv.J0 {X:aP} {p:Addr} (I:Inv X pins σ H s) (k : ∀ b o,b∉L->s.heap.get? b=some o->h'.get? b=some o)
  (hf : ∀ b∈L,om X pins H b) (aw:s.heap.objs.size<=p) (new:et X.prog X.w (upd H p (.tup xs)) h' p (.tup xs)):Inv X pins σ (upd H p (.tup xs)) { s with heap:=h',toks:=t' }:=by
 have aF:H p=none:=I.a7.fresh aw;have ne : ∀ b o,s.heap.get? b=some o->b≠p:=λ b o e=>d3 (gQ (cu e) aw)
 have sd : ∀ b u,H b=some u->b∉L:=λ b u e z=>by rw [(hf b z).1] at e;cases e
 refine I.step (g':=s.gens) (d':=s.drawn) (ch:=L) (λ b ae=>?_) (λ b o _ _ ak e _=>k b o ak e) (λ b o _ _ ak e _=>#[o.slots,k b o ak e]) (λ b o _ e n=>by rw [bj (ne b o e)];exact n) (λ b o ak e=>#[o,k b o ak e])
  (λ b ys e=>by rw [bj (cf e aF)];exact e) (λ b o u e=>by rw [bj (cf e aF)];exact e) (λ b ag e=>#[#[],by rw [bj (cf e aF),e];simp]) (λ m hm=>?_) (λ b u e=>?_) I.bare
 ·obtain ⟨_,f1,_,di,f4,fi⟩:=hf b ae;exact #[di,f1,f4,fi]
 ·obtain ⟨o,ar,ep,aJ,r⟩:=hm;exact #[o,ar,ep,k _ o (λ z=>(hf _ z).2.1 rfl) aJ,r]
 ·by_cases ae:b=p
  ·subst ae;rw [bL] at e;cases e;exact new
  ·rw [bj ae] at e;refine (I.a7 b u e).jq (λ c v ak q=>k c v ?_ q) (λ c q=>by rw [bj (cf q aF)];exact q) λ c ys q=>by rw [bj (cf q aF)];exact q
   rcases ak with z | z
   ·rw [z];exact sd b u e
   ·exact sd c _ z
theorem Inv.I9 {X:aP} (I:Inv X pins σ H s) (k : ∀ b o,b∉L->s.heap.get? b=some o->h'.get? b=some o)
  (hf : ∀ b∈L,om X pins H b):Inv X pins σ H { s with heap:=h',toks:=t' }:=by
 have sd : ∀ b u,H b=some u->b∉L:=λ b u e z=>by rw [(hf b z).1] at e;cases e
 refine I.step (g':=s.gens) (d':=s.drawn) (ch:=L) (λ b ae=>?_) (λ b o _ _ ak e _=>k b o ak e) (λ b o _ _ ak e _=>#[o.slots,k b o ak e]) (λ _ _ _ _ n=>n) (λ b o ak e=>#[o,k b o ak e]) (λ _ _ e=>e) (λ _ _ _ e=>e) (λ b ag e=>#[#[],by rw [e];simp])
  (λ m hm=>?_) (λ b u e=>?_) I.bare
 ·obtain ⟨_,f1,_,di,f4,fi⟩:=hf b ae;exact #[di,f1,f4,fi]
 ·obtain ⟨o,ar,ep,aJ,r⟩:=hm;exact #[o,ar,ep,k _ o (λ z=>(hf _ z).2.1 rfl) aJ,r]
 ·refine (I.a7 b u e).jq (λ c v ak q=>k c v ?_ q) (λ _ q=>q) λ _ _ q=>q
  rcases ak with z | z
  ·rw [z];exact sd b u e
  ·exact sd c _ z
noncomputable def kM (p:Bool) (K:cD) (H:az) (a:Addr) (xs:bl):Prop:=bif p then a9 K H a xs else a0 K H a xs
theorem Inv.wm {X:aP} {p:Bool} {a:Addr} (I:Inv X pins σ H s) (h:kM p X.K H a xs) : ∃ its:List Value,Vals xs its/\m1.fX p s.heap a its.toArray:=by
 cases p
 ·obtain ⟨its,r,e,_⟩:=I.tuple h;exact #[its,r,e]
 ·obtain ⟨its,r,e,_⟩:=I.list h;exact #[its,r,e.isList]
theorem Inv.RR {X:aP} {p:Bool} {a:Addr} (I:Inv X pins σ H s) (h:kM p X.K H a xs) (h':kM p X.K H a ys):xs=ys:=by
 cases p
 ·exact I.Av h h'
 ·exact I.RF h h'
theorem fX.lt {p:Bool} {h:Heap} {a:Addr} {xs:cZ} (e:m1.fX p h a xs):a<h.objs.size:=by
 cases p<;>obtain ⟨o,e,_⟩:=e<;>exact cu e
theorem eU.b7 {p:Bool} {h:Heap} {j t:Addr} {k:Nat} (e:m1.eU p h j t k) : ∃ o,h.get? j=some o /\ ∀ v,o.data≠.cell v:=by
 cases p<;>obtain ⟨o,e,_,d⟩:=e<;>exact #[o,e,λ v q=>by rw [d] at q;cases q]
noncomputable def tI (p q:Bool) (K:cD) (a b:Addr):h2 :=
 #[λ i H => ∃ xs ys x y,kM p K H a xs/\kM q K H b ys/\xs[i]?=some x/\ys[i]?=some y,
 λ i H v H' => ∃ n,H n=none/\v=.ref n /\ ∃ x y,H'=upd H n (.tup [x,y]) /\ ∀ xs ys,kM p K H a xs->kM q K H b ys->xs[i]?=some x/\ys[i]?=some y,
 λ i H => ∃ xs ys,kM p K H a xs/\kM q K H b ys/\(xs.length<=i\/ys.length<=i)]
theorem SP {p q:Bool} {w:World} {bk:Expr} (h8:oN bk=true) {TI c9 a b:Addr} (D:ZipApart z TI c9 c_ dP a b) :
  Turn P w K EI bk (tI p q K a b) [z,c9,c_,dP,TI] z (λ i h=>IsZip h z TI c9 .none/\IsPair h TI (.ref c_) (.ref dP)/\(∃ u v,IsPair h c9 u v)/\m1.eU p h c_ a i/\m1.eU q h dP b i) where
 mem:=gS
 obj:=λ i h st c ak=>by
  obtain ⟨ah,ai,⟨u,v,aH⟩,a4,b4⟩:=st;have qD : ∀ {o:Obj} {vs:cZ},o.data=.fields vs -> ∀ v,o.data≠.cell v:=λ e v q=>by rw [e] at q;cases q
  have y_ : ∀ {o:Obj} {vs:cZ} {n:Nat},o.data=.seq vs n -> ∀ v,o.data≠.cell v:=λ e v q=>by rw [e] at q;cases q
  simp only [c1,fR,fS] at ak;rcases ak with rfl | rfl | rfl | rfl | rfl
  ·exact #[_,ah,qD rfl]
  ·exact #[_,aH,y_ rfl]
  ·exact eU.b7 a4
  ·exact eU.b7 b4
  ·exact #[_,ai,y_ rfl]
 keep:=λ i h h' st k=>by
  obtain ⟨ah,ai,⟨u,v,aH⟩,a4,b4⟩:=st;exact #[k _ .zs _ ah,k _ .zs _ ai,#[u,v,k _ .zs _ aH],a4.up (k _ .zs),b4.up (k _ .zs)]
 item:=by
  intro X dY hw eW mv ak i pins s σ H E I hf st aS;subst dY hw eW;obtain ⟨ah,ai,⟨u,v,aH⟩,a4,b4⟩:=st;obtain ⟨xs,ys,x,y,dn,ez,aj,aT⟩:=aS;obtain ⟨its,cx,fM⟩:=I.wm dn;obtain ⟨vZ,g7,nW⟩:=I.wm ez;obtain ⟨m7,yg,zf⟩:=cx.get aj;obtain ⟨n1,FN,Hd⟩:=g7.get aT;refine m1.next_item D ah ai aH a4 b4 fM nW (x:=m7) (y:=n1) (by simpa using yg) (by simpa using FN) λ g e4 dK gG fo dX hC=>?_
  refine #[_,rfl,?_];have qM:z<s.heap.objs.size:=cu ah;cases bk with
  | Tuple ar dF pp =>
   refine wpAny_letOwnedTupleGo_zip e4 λ g' gn d4=>?_
   have new:IsPair g' s.heap.objs.size m7 n1:=d4.extBut _ _ (jw qM) dX;have aK:Inv X pins σ (upd H s.heap.objs.size (.tup [x,y])) { s with heap:=g' }:=by
    refine I.J0 (t':=s.toks) (L:=[z,c9,c_,dP,TI]) (λ c o e9 e=>?_) hf (b9 _) #[by show 2<=sizeLine;decide,[m7,n1],.cons zf (.cons Hd .nil),#[_,new,rfl,#[0,rfl],rfl]];simp only [c1,fR,fS,not_or] at e9;exact d4.extBut c o e9.1 (hC c o e9.1 e9.2.1 e9.2.2.1 e9.2.2.2.1 e)
   have F1:IsPair g' TI (.ref c_) (.ref dP):=d4.extBut _ _ D.TIz (hC _ _ D.TIz D.TITO D.TIi1 D.TIi2 ai);refine #[.ref s.heap.objs.size,_,aK,rfl,#[_,I.fresh,rfl,x,y,rfl,λ OJ oi bb cg=>#[by rw [I.RR bb dn];exact aj,by rw [I.RR cg ez];exact aT]],#[gn,F1,#[_,_,d4.extBut _ _ D.TOz dK],gG.extBut d4.extBut D.i1z,fo.extBut d4.extBut D.i2z],λ c eH=>?_];obtain ⟨o,fz,_⟩ : ∃ o,s.heap.get? c=some o/\True:=by
    simp only [c1,fR,fS] at eH;rcases eH with rfl | rfl | rfl | rfl | rfl
    ·exact #[_,ah,trivial]
    ·exact #[_,aH,trivial]
    ·obtain ⟨rO,kD,_⟩:=eU.b7 a4;exact #[_,kD,trivial]
    ·obtain ⟨Bb,hh,_⟩:=eU.b7 b4;exact #[_,hh,trivial]
    ·exact #[_,ai,trivial]
   rw [bj (d3 (cu fz))];exact (hf c eH).1
  | _=>exact absurd (show false=true from h8) g9
 done:=by
  intro X dY hw eW mv ak i pins s σ H E I hf st aS;subst dY hw eW;obtain ⟨ah,ai,⟨u,v,aH⟩,a4,b4⟩:=st;obtain ⟨xs,ys,dn,ez,av⟩:=aS;obtain ⟨its,cx,fM⟩:=I.wm dn;obtain ⟨vZ,g7,nW⟩:=I.wm ez;have aM:=cx.length;have aO:=g7.length;refine m1.JM (I.kP ak) D ah ai aH a4 b4 fM nW ?_ λ g up=>#[rfl,?_]
  ·rcases av with av | av
   ·exact .inl (by simp;omega)
   ·exact .inr (by simp;omega)
  ·refine I.I9 (t':=s.toks) (L:=[z,c9,c_,dP,TI]) (λ c o e9 e=>?_) hf;simp only [c1,fR,fS,not_or] at e9;exact up c o e9.1 e9.2.1 e9.2.2.1 e9.2.2.2.1 e
 self:=λ _ _ _ _ _ st h=>Dq st.1 h
section
variable {X:aP} {bk:Expr}
theorem apart_new {n ew hR:Addr} (ah:ew<n) (ai:hR<n):ZipApart (n+4) (n+2) (n+3) n (n+1) ew hR:=zipApart_new ah ai
noncomputable def H2 (p q:Bool) (K:cD) (a3:dc):TI:=λ σ H R=>a3 σ H λ vs H1 => ∃ a b,vs=[.ref a,.ref b]/\(∃ xs,kM p K H1 a xs)/\(∃ ys,kM q K H1 b ys)/\R (tI p q K a b) H1
theorem QB {bb:Bool} {a b:Addr} {R:h2->az->Prop} (I:Inv X pins σ H s) (dn:kM p1 X.K H a xs) (ez:kM bb X.K H b ys)
  (vo : ∀ {z TI c9 c_ dP:Addr},ZipApart z TI c9 c_ dP a b->Turn X.prog X.w X.K X.calm bk J [z,c9,c_,dP,TI] z (λ i h=>IsZip h z TI c9 .none/\IsPair h TI (.ref c_) (.ref dP)/\(∃ u v,IsPair h c9 u v)/\m1.eU p1 h c_ a i/\m1.eU bb h dP b i)) (q:R J H) :
  wpAny (model X.prog X.w) X.A (call (.type "zip") [.ref a,.ref b]) (λ v s1=>wpAny (model X.prog X.w) X.A (pyIter v) (Bl X pins σ bk R) X.c3 s1) X.c3 s:=by
 obtain ⟨its,cx,fM⟩:=I.wm dn;obtain ⟨vZ,g7,nW⟩:=I.wm ez;have xQ:=fX.lt fM;have xR:=fX.lt nW;refine m1.make fM nW λ g ho f9 m9 Fq Fs up=>?_
 refine Dq ho ?_;have cm:Inv X pins σ H { s with heap:=g }:=I.kept (t':=s.toks) up;refine #[_,[s.heap.objs.size+4,s.heap.objs.size+3,s.heap.objs.size,s.heap.objs.size+1,s.heap.objs.size+2],_,_,H,rfl,cm,vo (apart_new xQ xR),#[ho,f9,#[_,_,m9],Fq,Fs],λ c ak=>?_,q];have big:s.heap.objs.size<=c:=by
  simp only [c1,fR,fS] at ak;rcases ak with rfl | rfl | rfl | rfl | rfl
  ·exact pS _ _
  ·exact pS _ _
  ·exact b9 _
  ·exact pS _ _
  ·exact pS _ _
 exact I.qP big (I.a7.fresh big)
theorem Q4 {bb:Bool} {a3:dc} {p pos:Pos} (h8:oN bk=true) (aS:dW X "zip") (hm:X.mg "zip" = none) (ay:iF X [aM,aO] a3) (aB:starEach [aM,aO] X.env=[(false,eval aM X.env),(false,eval aO X.env)]:=by rfl) (gd:starEach [aO] X.env=[(false,eval aO X.env)]:=by rfl)
  (ae:bootBuiltins "zip" = some (.type "zip"):=by decide +kernel):lq X bk (.Call (.Name "zip" p) [aM,aO] [] pos) (H2 p1 bb X.K a3):=by
 intro pins s σ H R I h;refine Call_ (pJ I aS hm ae (uE (bq (ay pos pins s σ H _ I h) ?_) (by rw [aB,gd]) (by rw [gd];rfl)));rintro us s1 ⟨vs,H1,aK,bJ,bb⟩;obtain ⟨a,b,e,⟨xs,dn⟩,⟨ys,ez⟩,q⟩:=bb;subst e;obtain ⟨h6,j_,rfl,qe,xW⟩:=vals2 bJ;cases qe;cases xW;exact QB aK dn ez (SP h8) q
end
theorem RB {p q:Bool} {a b:Addr} {bz:de} {D:Ends} (Pv:Nat->St->az->Prop) (h0:Pv 0 σ H) (av : ∀ i σ H,i<=min xs.length ys.length->Pv i σ H->kM p K H a xs/\kM q K H b ys)
  (aB : ∀ i x y p σ H,xs[i]?=some x->ys[i]?=some y->H p=none->Pv i σ H->g (.ref p) σ (upd H p (.tup [x,y])) λ σ2 au=>bz { D with bu:=Pv (i+1),cK:=Pv (i+1),aQ:=D.bu } σ2 au) (hd : ∀ σ H,Pv (min xs.length ys.length) σ H->D.bu σ H) :
  ∃ W:Nat->Nat->St->az->Prop,(∃ m,W 0 m σ H) /\ ∀ i m σ H,W i m σ H ->
   ((tI p q K a b).stop i H/\D.bu σ H)\/((tI p q K a b).go i H /\ ∃ N:St->az->Prop,(∀ σ' H',N σ' H' -> ∃ cP,cP<m/\W (i+1) cP σ' H') /\ ∀ x H',(tI p q K a b).jl i H x H'->g x σ H' λ σ2 au=>bz { D with bu:=N,cK:=N,aQ:=D.bu } σ2 au):=by
 refine #[λ i m σ H=>m=min xs.length ys.length - i/\i<=min xs.length ys.length/\Pv i σ H,#[_,rfl,j0 _,h0],?_];rintro i m σ H ⟨rfl,ax,p⟩;obtain ⟨dn,ez⟩:=av i σ H ax p;by_cases ea:i<min xs.length ys.length
 ·have ah:i<xs.length:=by omega
  have ai:i<ys.length:=by omega
  refine .inr #[#[xs,ys,xs[i],ys[i],dn,ez,by simp [ah],by simp [ai]],Pv (i+1),λ σ' H' iJ=>#[min xs.length ys.length - (i+1),.aD,rfl,ea,iJ],λ v H' mh=>?_];obtain ⟨q,aZ,rfl,x,y,rfl,lM⟩:=mh;obtain ⟨ex,eO⟩:=lM xs ys dn ez;exact aB i x y q σ H ex eO aZ p
 ·have e:i=min xs.length ys.length:=by omega
  refine .inl #[#[xs,ys,dn,ez,.aD],hd σ H (e ▸ p)]
noncomputable abbrev vG (K:cD) (a b:Addr):h2:=tI false false K a b
noncomputable abbrev Pf (K:cD) (a3:dc):TI:=H2 false false K a3
section
variable {X:aP} {bk:Expr}
theorem abX {a3:dc} {p pos:Pos} (h8:oN bk=true) (aS:dW X "zip") (hm:X.mg "zip" = none) (ay:iF X [aM,aO] a3) (aB:starEach [aM,aO] X.env=[(false,eval aM X.env),(false,eval aO X.env)]:=by rfl) (gd:starEach [aO] X.env=[(false,eval aO X.env)]:=by rfl)
  (ae:bootBuiltins "zip" = some (.type "zip"):=by decide +kernel):lq X bk (.Call (.Name "zip" p) [aM,aO] [] pos) (Pf X.K a3):=Q4 h8 aS hm ay aB gd ae
end
theorem QT {a b:Addr} {bz:de} {D:Ends} (Pv:Nat->St->az->Prop) (h0:Pv 0 σ H) (av : ∀ i σ H,i<=min xs.length ys.length->Pv i σ H->a0 K H a xs/\a0 K H b ys)
  (aB : ∀ i x y p σ H,xs[i]?=some x->ys[i]?=some y->H p=none->Pv i σ H->g (.ref p) σ (upd H p (.tup [x,y])) λ σ2 au=>bz { D with bu:=Pv (i+1),cK:=Pv (i+1),aQ:=D.bu } σ2 au) (hd : ∀ σ H,Pv (min xs.length ys.length) σ H->D.bu σ H) :
  ∃ W:Nat->Nat->St->az->Prop,(∃ m,W 0 m σ H) /\ ∀ i m σ H,W i m σ H ->
   ((vG K a b).stop i H/\D.bu σ H)\/((vG K a b).go i H /\ ∃ N:St->az->Prop,(∀ σ' H',N σ' H' -> ∃ cP,cP<m/\W (i+1) cP σ' H') /\ ∀ x H',(vG K a b).jl i H x H'->g x σ H' λ σ2 au=>bz { D with bu:=N,cK:=N,aQ:=D.bu } σ2 au) :=
 RB (p:=false) (q:=false) Pv h0 av aB hd
end bM
namespace rD
open PySem PyProof.Rows
open AutoSeq1 (wpAny_loadPart')
section
variable {w:World} {E:b2}
theorem gather {r:Addr} {a b c:Int} {t u v:Tok} {Q:List Value->Shared->Prop} (hd:A.handled=none) (aq:IsRange s.heap r a b c t u v) (jb:Builtin.Range.small a b c=true) (aF:Builtin.Range.rangeSize a b c=n) (av:n<=2 ^ 24)
  (q : ∀ (g:Heap) (bI:Nat) (acc:cZ),(∀ b o,s.heap.get? b=some o->g.get? b=some o)->ItemsOf (λ i v => ∃ t,v=.int (a+i * c) t) acc n->Q acc.toList { s with heap:=g,toks:=bI }):wpAny (model prog w) A (collect (.ref r)) Q E s:=by
 unfold collect;refine aC (wpAny_runValue (sR F.entry_proto_collect ?_));rw [wN F.plain_proto_collect _];show wpAny _ A.in1 (newList []>>=λ l=>again (.builtin "list.__iadd__" ⟨[l,.ref r],[]⟩)) _ _ s;refine aC (mG (bH #[wO F.plain_list_iadd _,sR F.entry_list_iadd ?_]));rw [wN F.plain_list_iadd _];have new:(s.heap.push { cls:=.type "list", data:=.seq ([]:List Value).toArray }).get? s.heap.objs.size=some { cls:=.type "list", data:=.seq #[] 0 }:=d6 _ rfl;show wpAny _ A.in1 (Builtin.List.listExtendWith (.ref s.heap.objs.size) (.ref r) (.ref s.heap.objs.size)) _ _ _;have last : ∀ (bP:Result) (s':Shared),(∃ (g:Heap) (bI:Nat) (acc:cZ) (k:Nat),bP=.ok (.ret (.ref s.heap.objs.size))/\s'={ s with heap:=g,toks:=bI }/\g.get? s.heap.objs.size=some { cls:=.type "list", dict:=none,data:=.seq acc k,slots:=#[] }/\(∀ b o,s.heap.get? b=some o->g.get? b=some o)/\ItemsOf (λ i v => ∃ t,v=.int (a+i * c) t) acc n) ->
   (match bP with
    | .ok (.ret v)=>wpAny (model prog w) A (match v with
      | Value.ref a=>do
       match (← load a).data with
        | Data.seq xs _=>pure xs.toList
        | _=>unsupported "internal:collect"
      | _=>unsupported "internal:collect") Q E s'
    | .ok _=>False
    | .error e=>E e s'):=by
  rintro bP s' ⟨g,bI,acc,k,rfl,rfl,got,up,ok⟩;show wpAny _ A (load s.heap.objs.size>>=_) _ _ _;exact aC (zK got (bH (q g bI acc up ok)))
 refine hb (wpAny_extend_range (A:=A) (R:=λ bP s' => ∃ (g:Heap) (bI:Nat) (acc:cZ) (k:Nat),bP=.ok (.ret (.ref s.heap.objs.size))/\s'={ s with heap:=g,toks:=bI }/\g.get? s.heap.objs.size=some { cls:=.type "list", dict:=none,data:=.seq acc k,slots:=#[] }/\(∀ b o,s.heap.get? b=some o->g.get? b=some o)/\ItemsOf (λ i v => ∃ t,v=.int (a+i * c) t) acc n)
  (s:={ s with heap:=s.heap.push { cls:=.type "list", data:=.seq ([]:List Value).toArray } }) hd (bK _ aq) jb aF av s.heap.objs.size (.ref s.heap.objs.size) 0 new λ g bI acc k up got ok=>#[g,bI,acc,k,rfl,rfl,got,λ b o e=>up b o (d3 (cu e)) (bK _ e),ok]) (λ fin s' h=>?_) (λ e s' h=>?_)
 ·cases fin with
  | done f=>exact last _ _ h
  | again cq=>exact #[h.1,nE h.2 λ bP jS h'=>last bP jS h']
 ·exact last _ _ h
theorem ain (r:Addr) (a b c:Int) (t u v:Tok) (n:Nat) (jb:Builtin.Range.small a b c=true) (aF:Builtin.Range.rangeSize a b c=n) (av:n<=2 ^ 24) :
  Meets (Builtin.«tuple.__new__» ⟨[.type "tuple", .ref r],[]⟩) (λ A R s=>A.handled=none/\IsRange s.heap r a b c t u v /\ ∀ (g:Heap) (bI:Nat) (acc:cZ),(∀ b o,s.heap.get? b=some o->g.get? b=some o)->ItemsOf (λ i v => ∃ t,v=.int (a+i * c) t) acc n ->
   R (.ok (.ret (.ref g.objs.size))) { s with heap:=g.push { cls:=.type "tuple", data:=.seq acc },toks:=bI }) :=
 .of_wp λ prog w A R s h=>by
  obtain ⟨hd,aq,h⟩:=h;have sub:=sub_tuple_self;have NH:=init_tuple_lookup;have ali:=madeHere_tuple;have ty:s.TypeIs (.ref r) "range" := #[_,aq,rfl]
  have r5:A.in1.handled=none:=hd
  wp_walk using Ac ty,gather r5 aq jb aF av
  intro g bI acc up ok;show wpAny _ _ (Builtin.Tuple.tupleExact acc.toList.toArray>>=λ v=>ret v) _ _ _;unfold Builtin.Tuple.tupleExact;refine aC (mG (bH #[_,rfl,?_]) (show acc.toList.toArray.size<=sizeLine by simp only [Array.toArray_toList];rw [ok.1,ef];omega));have e:acc.toList.toArray=acc:=by simp
  rw [e];exact h g bI acc up ok
theorem aeG {r:Addr} {a b c:Int} {t u v:Tok} {Q:b2} (hd:A.handled=none) (aq:IsRange s.heap r a b c t u v) (jb:Builtin.Range.small a b c=true) (aF:Builtin.Range.rangeSize a b c=n) (av:n<=2 ^ 24)
  (q : ∀ (g:Heap) (bI:Nat) (acc:cZ),(∀ b o,s.heap.get? b=some o->g.get? b=some o)->ItemsOf (λ i v => ∃ t,v=.int (a+i * c) t) acc n->Q (.ref g.objs.size) { s with heap:=g.push { cls:=.type "tuple", data:=.seq acc },toks:=bI }) :
  wpAny (model prog w) A (call (.type "tuple") [.ref r]) Q E s :=
 callType_new F.called_tuple .aA (F.typeCall_tuple_1 _) (F.newCall_tuple_1 _) (λ obj=>F.args_object_init_2 obj _) F.entry_tuple_new (ain r a b c t u v n jb aF av) #[hd,aq,λ g bI acc up ok=>#[#[_,d6 _ rfl,rfl],q g bI acc up ok]]
end
end rD
namespace bM
open PySem PySem.Spec PyProof.Rows
section
variable {X:aP}
theorem ahn:gf X (.type "range") (λ xs H Q => ∃ n:Int,xs=[.int n] /\ ∀ p,H p=none->Q (.ref p) (upd H p (.se 0 n))):=by
 intro pins s σ H xs us Q I r h;obtain ⟨n,rfl,q⟩:=h;obtain ⟨u,rfl,t,rfl⟩:=vals1 r;refine call_range_1 #[.ref s.heap.objs.size,_,I.laid (a:=s.heap.objs.size) (o:=.se 0 n) (λ _ _ e=>bK _ e) (b9 _) #[_,_,_,d6 _ rfl],rfl,q _ I.fresh]
theorem Ta : ∀ (its:List Value) (k:Nat),(∀ (i:Nat) v,its[i]?=some v -> ∃ t,v=Value.int ((k:Int)+i) t)->Vals ((List.range' k its.length).map λ i=>V.int ((i:Nat):Int)) its
 | [],_,_=>.nil
 | v::its,k,h=>by
  rw [j1,List.range'_succ,iZ];refine .cons ?_ (Ta its (k+1) λ i jH e=>?_)
  ·obtain ⟨t,e⟩:=h 0 v rfl;exact #[t,by rw [e];simp]
  ·obtain ⟨t,q⟩:=h (i+1) jH (by simpa using e);exact #[t,by rw [q];congr 1;omega]
theorem ajM (ak:X.calm=true):gf X (.type "tuple") (λ xs H Q => ∃ p n,xs=[.ref p]/\H p=some (.se 0 n)/\0<=n/\n<=1000 /\ ∀ l,H l=none->Q (.ref l) (upd H l (.tup ((List.range n.toNat).map λ i=>V.int ((i:Nat):Int))))):=by
 intro pins s σ H xs us Q I r h;obtain ⟨p,n,rfl,aw,h0,ah,q⟩:=h;obtain ⟨u,rfl,fp⟩:=vals1 r;cases fp;obtain ⟨t,u,v,e⟩:=(show et X.prog X.w H s.heap p (.se 0 n) from I.a7 p _ aw)
 have aF:Builtin.Range.rangeSize 0 n 1=((n.toNat:Nat):Int):=by rw [rangeSize_one];split<;>omega
 refine rD.aeG (I.ok.hd.1 ak) (show IsRange s.heap p 0 n 1 t u v from e) (small_one .aD .aD .aD .aD) aF .aD λ g bI acc up ok=>?_
 have aK:Inv X pins σ H { s with heap:=g,toks:=bI }:=I.kept up;have ba:Vals ((List.range n.toNat).map λ i=>V.int ((i:Nat):Int)) acc.toList:=by
  have:=Ta acc.toList 0 λ i v e=>by
   obtain ⟨t,q⟩:=ok.2 i v (by simpa using e);exact #[t,by rw [q];simp]
  rw [jv,ok.1,<-List.range_eq_range'] at this;exact this
 refine #[.ref g.objs.size,_,aK.laid (a:=g.objs.size) (t':=bI) (λ _ _ e=>bK _ e) (b9 _) (show et X.prog X.w _ _ _ (.tup _) from #[?_,acc.toList,ba,?_]),rfl,q _ (aK.a7.fresh (b9 _))]
 ·rw [bY,List.length_range,ef];omega
 ·refine #[_,d6 _ rfl,rfl,#[0,?_],rfl];simp
end
end bM
namespace rD
open PySem PyProof.Rows
open AutoSeq1 (wpAny_loadPart')
theorem ahM:fillsNumberSlot (.type "tuple") "mul" = pure false :=
 PySem.fillsNumberSlot_seq (id := "tuple.__mul__") (r:=some (.builtin "tuple.__rmul__")) F.slot_tuple_mul.lookup (by decide +kernel) F.slot_tuple_rmul.lookup (by decide +kernel)
theorem afa:seqRepeat? (.type "tuple")=pure (some (.builtin "tuple.__mul__")):=by
 unfold seqRepeat?;rw [PySem.seqSlot_of (T := "tuple") (name := "__mul__") (id := "tuple.__mul__") F.slot_tuple_mul.lookup (by decide +kernel),PySem.seqSlot_of (T := "tuple") (name := "__rmul__") (id := "tuple.__rmul__") F.slot_tuple_rmul.lookup (by decide +kernel)];rfl
theorem adu (a:Int) (t:Tok) (l:Addr) (items:cZ) (n:Nat) (dd:Option Addr) (cR:Array c0) :
  Meets (Builtin.«int.__rmul__» ⟨[.int a t,.ref l],[]⟩) (λ _ R s=>s.heap.get? l=some { cls:=.type "tuple", dict:=dd,data:=.seq items n,slots:=cR }/\R (.ok (.ret Value.notImplemented)) s) :=
 .of_wp λ prog w A R s h=>by
  obtain ⟨ah,ai,aH,a4,b4⟩:=s;obtain ⟨av,h⟩:=h
  wp_walk using wpAny_loadPart' av
  exact #[_,rfl,h]
theorem aga (l:Addr) (items:cZ) (n:Nat) (x:Int) (u:Tok) (dd:Option Addr) (cR:Array c0) (he:items.isEmpty=false) (ah:2<=x) (ai:x<2 ^ 63) (a6:items.size * x.toNat<=sizeLine) :
  Meets (Builtin.«tuple.__mul__» ⟨[.ref l,.int x u],[]⟩) (λ _ R s=>s.heap.get? l=some { cls:=.type "tuple", dict:=dd,data:=.seq items n,slots:=cR } /\
   R (.ok (.ret (.ref s.heap.objs.size))) { s with heap:=s.heap.push { cls:=.type "tuple", data:=.seq (List.foldl (λ gs hn=>gs++hn) #[] (List.replicate x.toNat items)) } }) :=
 .of_wp λ prog w A R s h=>by
  obtain ⟨aw,g,d,bI,os⟩:=s;obtain ⟨av,h⟩:=h;have f1:=AutoSeq1.idx_int;have xG : ¬ (decide (x < -(2 ^ 63))||decide (x ≥ 2 ^ 63))=true:=by simp;omega
  have gn : ¬ (items.isEmpty||x == 1)=true:=by rw [he];simp;omega
  have hD : ¬ (decide (x<=0)||items.isEmpty)=true:=by rw [he];simp;omega
  have aj:((x.toNat:Nat):Int)=x:=lZ .aD;have hm:((items.size:Nat):Int) * x=((items.size * x.toNat:Nat):Int):=by rw [Int.natCast_mul,aj]
  have aB:sizeLine=16777216:=ef;have p6 : ¬ ((items.size:Nat):Int) * x > (2 ^ 63 - 1) / 8:=by rw [hm];omega
  have vg : ¬ Builtin.Tuple.tupleTooMany (((items.size:Nat):Int) * x)=true:=by
   rw [hm];unfold Builtin.Tuple.tupleTooMany;intro z;have:=eT z;omega
  have hsz:(List.foldl (λ gs hn=>gs++hn) #[] (List.replicate x.toNat items)).size<=sizeLine:=by
   have e:=bM.foldl_rep items.toList x.toNat [];rw [List.nil_append] at e;have c2:List.foldl (λ gs hn=>gs++hn) #[] (List.replicate x.toNat items)=(List.replicate x.toNat items.toList).flatten.toArray:=by simpa using e
   rw [c2,fe,bM.len_rep,jv,sO];exact a6
  wp_walk using wpAny_loadPart' av
  rw [if_neg xG];refine aC (tupleItemsOf_ (items:=items) #[_,av,rfl,n,rfl] ?_);dsimp only;rw [if_neg gn,if_neg hD,if_neg p6,if_neg vg];unfold Builtin.Tuple.tupleExact;exact aC (mG (bH #[_,rfl,h]) hsz)
end rD
namespace d_
open PySem PyProof.Rows
section
variable {w:World} {E:b2}
theorem afN {t:Addr} {items:cZ} {ax:Option Int} {Q:b2} (aU:IsTup s.heap t items) (aB:s.heap.IsSliceOf cR hG hH .none) (pl:IsPart hG lo) (pu:IsPart hH ax)
  (hw:cU items.size 0 lo=0/\cU items.size items.size ax=items.size) (h:Q (.ref t) s):wpAny (model prog w) A (getItem (.ref t) (.ref cR)) Q E s:=by
 obtain ⟨os,tZ,BG,e_⟩:=id aB;have F8:s.TypeIs (.ref cR) "slice" := #[os,tZ,BG]
 unfold getItem
 try with_reducible refine hY ?_
 first | refine aC (bH ?_) | skip
 refine aC (wpAny_sequenceKey aU.typeIs .aA ?_);refine aC (nA (name:=Str.ofString "__getitem__") aU.typeIs wM
  (lW wM aU.typeIs entry_tuple_getitem ?_ (args_tuple_getitem _ _)))
 show wpAny _ _ (Builtin.Tuple.tupleItemsOf (.ref t)>>=_) _ _ s;refine aC (tupleItemsOf_ aU ?_);refine aC (Ac F8 ?_);rw [if_pos .aA];refine aC (UG aB pl pu ?_);have Z3:(((cU items.size 0 lo:Nat):Int) == 0&&(1:Int) == 1&&(cU items.size items.size ax - cU items.size 0 lo) == items.size)=true:=by
  rw [hw.1,hw.2];simp
 show wpAny _ _ (if (((cU items.size 0 lo:Nat):Int) == 0&&(1:Int) == 1&&(cU items.size items.size ax - cU items.size 0 lo) == items.size)=true then _ else _) _ _ s;rw [if_pos Z3];obtain ⟨Vu,got,akV,_⟩:=id aU;unfold Builtin.Tuple.tupleIsExact;refine aC (aC (Ac aU.typeIs (bH ?_)));rw [if_pos .aA];exact aC (sA (bH #[_,rfl,bH h]))
end
end d_
namespace bM
open PySem PySem.Spec PyProof.Rows
section
variable {X:aP}
noncomputable def aa4:fy:=λ x y H Q => ∃ l k xs,x=.ref l/\y=.int k/\H l=some (.tup xs)/\xs≠[]/\2<=k/\k<2 ^ 63/\xs.length * k.toNat<=sizeLine /\
 ∀ p,H p=none->Q (.ref p) (upd H p (.tup (List.replicate k.toNat xs).flatten))
theorem acQ:dC X (binaryOp .Mult) aa4:=by
 intro pins s σ H x y v u Q I a5 bt h;obtain ⟨l,k,xs,rfl,rfl,hP,fC,ah,ai,a6,q⟩:=h;cases a5;obtain ⟨t,rfl⟩:=bt;obtain ⟨its,r,pt,iv⟩:=I.tuple (a0.of hP);have av:=r.length;obtain ⟨⟨gn,fZ,f1,s1⟩,g1,k1,cC,c_⟩:=id pt;simp only at k1 c_;subst k1 c_;have he:its.toArray.isEmpty=false:=by
  cases its with
  | nil=>exact absurd (r.DG.mp rfl) fC
  | cons a b=>rfl
 have hlen:its.toArray.size * k.toNat<=sizeLine:=by rw [fe,<-av];exact a6
 have HB:List.foldl (λ gs hn=>gs++hn) #[] (List.replicate k.toNat its.toArray)=(List.replicate k.toNat its).flatten.toArray:=by
  have:=foldl_rep its k.toNat [];rw [List.nil_append] at this;exact this
 refine wpAny_binaryOp_repeat_ref (T := "tuple") (U := "int") .aA #[_,g1,rfl] (λ s'=>Ad s' k t) rD.ahM F.fills_int_mul Dk rD.afa F.slot_int_index.lookup
  (rd Dk (Ad s k t) F.entry_int_rmul (F.args_int_rmul_2 _ _) (rD.adu k t l its.toArray cC fZ s1)
   #[g1,rfl,#[_,g1,rfl],rd F.slot_tuple_mul #[_,g1,rfl] F.entry_tuple_mul (F.args_tuple_mul_2 _ _) (rD.aga l its.toArray cC k t fZ s1 he ah ai hlen) #[g1,?_]])
 rw [HB];refine #[.ref s.heap.objs.size,_,I.laid (t':=s.toks) (o:=.tup (List.replicate k.toNat xs).flatten) (λ b b7 q=>bK _ q) (b9 _) ?_,rfl,q _ I.fresh];exact #[by rw [len_rep,sO];exact a6,_,r.rep k.toNat,oD.new _ _]
noncomputable def HQ (K:cD):V->Option Int->Option Int->az->bG->Prop:=λ x lo ax H Q => ∃ a xs,x=.ref a/\a0 K H a xs/\d_.cU xs.length 0 lo=0/\d_.cU xs.length xs.length ax=xs.length/\Q (.ref a) H
theorem afc:lE X (HQ X.K):=by
 intro pins s σ H x v hG hH lo ax cR Q I a5 aB pl pu h;obtain ⟨a,xs,rfl,aj,iK,hl,q⟩:=h;cases a5;obtain ⟨its,r,aU,a6⟩:=I.tuple aj;have hlen:its.toArray.size=xs.length:=by rw [fe];exact r.length.symm
 exact #["tuple", _,wM.lookup,aU.typeIs,d_.afN aU aB pl pu (by rw [hlen];exact #[iK,hl]) #[.ref a,H,I,rfl,q]]
theorem Rc:lE X (λ x lo ax H Q=>HP X.K x lo ax H Q\/HQ X.K x lo ax H Q):=ace.or afc
end
noncomputable def P6:TE:=λ _ H Q => ∀ p,H p=none->Q (.ref p) (upd H p (.bF []))
theorem Inv.Zw {X:aP} (I:Inv X pins σ H s):sysModules<s.heap.objs.size :=
 Nat.lt_trans .aA (I.mod.glob.keeps I.aQ).lt
theorem Q3 {X:aP} {pos:Pos}:cn X (.Dict [] [] pos) P6:=λ pins s σ H Q I h =>
 wpAny_Dict_empty #[.ref s.heap.objs.size,_,I.laid (a:=s.heap.objs.size) (o:=.bF []) (t':=s.toks) (λ _ _ q=>bK _ q) (b9 _)
  #[j0 _,uB.mpr (ek (d3 I.Zw)),[],.nil,Heap.DictOf.new _],rfl,h _ I.fresh]
theorem aaZ {X:aP} {x:Str} {T:String} {pos:Pos} (aS:dW X x) (hm:X.mg x=none) (ba:bootBuiltins x=some (.type T)) (aF:x ≠ "__name__" := by decide) (hd:(x == ("__debug__" : Str))=false:=by decide):cn X (.Name x pos) (cM (.ty T)) :=
 acS (v:=.ty T) aS hm ba rfl aF hd
end bM
namespace gu
noncomputable def pP (p:Nat):Nat->Nat->Nat
 | 0,n=>n
 | f+1,n=>if 2<=p/\1<=n/\n % p=0 then pP p f (n / p) else n
theorem TB (p:Nat) : ∀ f n:Nat,n<=f->pP p (f+1) n=pP p f n
 | 0,n,h=>by
  obtain rfl:n=0:=by omega
  exact if_neg (λ z=>by omega)
 | f+1,n,h=>by
  show (if 2<=p/\1<=n/\n % p=0 then pP p (f+1) (n / p) else n)=if 2<=p/\1<=n/\n % p=0 then pP p f (n / p) else n
  by_cases q:2<=p/\1<=n/\n % p=0
  ·rw [if_pos q,if_pos q];exact TB p f (n / p) (by have:=pT q.2.1 q.1;omega)
  ·rw [if_neg q,if_neg q]
theorem JZ (p n:Nat) : ∀ k:Nat,pP p (n+k) n=pP p n n
 | 0=>rfl
 | k+1=>by rw [show n+(k+1)=(n+k)+1 from rfl,TB p (n+k) n .aD];exact JZ p n k
noncomputable def strip (p:Nat) (n:Nat):Nat:=pP p n n
theorem SO (p n:Nat):strip p n=if 2<=p/\1<=n/\n % p=0 then strip p (n / p) else n:=by
 have e:strip p n=pP p (n+1) n:=(JZ p n 1).symm;rw [e];show (if 2<=p/\1<=n/\n % p=0 then pP p n (n / p) else n)=_;by_cases q:2<=p/\1<=n/\n % p=0
 ·rw [if_pos q,if_pos q];have lt:=pT q.2.1 q.1;have:=JZ p (n / p) (n - n / p);rw [show n / p+(n - n / p)=n by omega] at this;exact this
 ·rw [if_neg q,if_neg q]
theorem w8 {p:Nat} (aw:2<=p) (aF:1<=n) (h:n % p=0):strip p n=strip p (n / p):=by
 rw [SO p n,if_pos #[aw,aF,h]]
theorem u4 {p:Nat} (h:n % p≠0):strip p n=n:=by
 rw [SO,if_neg (λ q=>h q.2.2)]
theorem xa {p:Nat} (aF:1<=n) (h:n % p=0):1<=n / p:=by
 have e:=Nat.div_add_mod n p;rw [h] at e;rcases Nat.eq_zero_or_pos (n / p) with z | z
 ·rw [z] at e;omega
 ·exact z
theorem Au {p:Nat} (aw:2<=p) : ∀ n:Nat,1<=n->1<=strip p n:=by
 intro n
 induction n using Nat.strongRecOn with
 | ind n cQ =>
  intro aF;by_cases h:n % p=0
  ·rw [w8 aw aF h];exact cQ _ (pT aF aw) (xa aF h)
  ·rw [u4 h];exact aF
theorem agN {p:Nat} (aw:2<=p) : ∀ n:Nat,1<=n->strip p n % p≠0:=by
 intro n
 induction n using Nat.strongRecOn with
 | ind n cQ =>
  intro aF;by_cases h:n % p=0
  ·rw [w8 aw aF h];exact cQ _ (pT aF aw) (xa aF h)
  ·rw [u4 h];exact h
theorem agP {p:Nat} (aw:2<=p) {m:Nat} (hm:1<=m) : ∀ e:Nat,strip p (p ^ e * m)=strip p m:=by
 intro e
 induction e with
 | zero=>rw [Nat.pow_zero,Nat.one_mul]
 | succ e cQ =>
  have ah:p ^ (e+1) * m=p * (p ^ e * m):=by rw [Nat.pow_succ,sO (p ^ e) p,sS]
  have k8:1<=p ^ e * m:=Nat.mul_pos (Af .aD) hm;have ai:1<=p * (p ^ e * m):=Nat.mul_pos .aD k8;rw [ah,w8 aw ai (Nat.mul_mod_right _ _),Nat.mul_div_cancel_left _ .aD];exact cQ
noncomputable def dE:eG:=[2,3,5,7,11,13,17,19,23,29]
noncomputable def ib (ag:eG) (n:Nat):Nat:=ag.foldl (λ m p=>strip p m) n
noncomputable def jC (n:Nat):Nat:=ib dE n
theorem Eb : ∀ (ag:eG),(∀ p∈ag,2<=p) -> ∀ n,1<=n->1<=ib ag n
 | [],_,_,h=>h
 | p::ag,aw,n,h=>Eb ag (λ q aZ=>aw q (ht _ aZ)) _ (Au (aw p gS) n h)
theorem mM : ∀ p∈dE,2<=p:=by decide
theorem ai2 (h:1<=n):1<=jC n:=Eb dE mM n h
noncomputable def rl (a b:Nat):Bool:=dE.all λ p=>a % p != 0||b % p != 0
theorem Ts {a b:Nat}:rl a b=true ↔ ∀ p∈dE,¬ (p∣a/\p∣b):=by
 unfold rl;rw [gT];constructor
 ·rintro h p aw ⟨ah,ai⟩;have:=h p aw;rw [Nat.mod_eq_zero_of_dvd ah,Nat.mod_eq_zero_of_dvd ai] at this;exact absurd this .aA
 ·intro h p aw;by_cases ah:a % p=0
  ·by_cases ai:b % p=0
   ·exact absurd #[uO ah,uO ai] (h p aw)
   ·simp [ai]
  ·simp [ah]
noncomputable def jY:eG->eG->Nat
 | p::ag,e::ar=>p ^ e * jY ag ar
 | _,_=>1
theorem JO : ∀ (ag ar:eG),(∀ p∈ag,2<=p)->1<=jY ag ar
 | [],_,_=>b9 _
 | _::_,[],_=>b9 _
 | p::ag,e::ar,h=>Nat.mul_pos (Af (by have:=h p gS;omega)) (JO ag ar λ q aZ=>h q (ht _ aZ))
theorem JC {p:Nat} : ∀ (ag ar:eG),(∀ q∈ag,Nat.Coprime p q)->Nat.Coprime p (jY ag ar)
 | [],_,_=>IC p
 | _::_,[],_=>IC p
 | q::ag,e::ar,h=>Nat.Coprime.mul_right (Nat.Coprime.pow_right e (h q gS)) (JC ag ar λ r aq=>h r (ht _ aq))
theorem ajt {p:Nat} (aw:2<=p) (c:Nat.Coprime p n):n % p≠0:=λ h=>by
 have:=c.eq_one_of_dvd (uO h);omega
theorem agO {p:Nat} (aw:2<=p):strip p 1=1:=u4 (by rw [Nat.mod_eq_of_lt .aD];decide)
theorem S8 : ∀ (ag:eG),(∀ p∈ag,2<=p)->ib ag 1=1
 | [],_=>rfl
 | p::ag,h=>by
  show ib ag (strip p 1)=1;rw [agO (h p gS)];exact S8 ag λ q aZ=>h q (ht _ aZ)
theorem T2 : ∀ (ag ar:eG),(∀ p∈ag,2<=p)->ag.Pairwise Nat.Coprime->ib ag (jY ag ar)=1
 | [],_,_,_=>rfl
 | p::ag,[],h,_=>S8 (p::ag) h
 | p::ag,e::ar,h,c=>by
  have aw:=h p gS;have aU : ∀ q∈ag,2<=q:=λ q aZ=>h q (ht _ aZ)
  have cq:=List.pairwise_cons.mp c;show ib ag (strip p (p ^ e * jY ag ar))=1;rw [agP aw (JO ag ar aU),u4 (ajt aw (JC ag ar cq.1))];exact T2 ag ar aU cq.2
theorem Ea:dE.Pairwise Nat.Coprime:=by decide
noncomputable def prod (ar:eG):Nat:=jY dE ar
theorem aeX (ar:eG):1<=prod ar:=JO _ _ mM
theorem ajp (ar:eG):jC (prod ar)=1:=T2 _ _ mM Ea
theorem Ij {p:Nat} : ∀ (ag ar:eG) (k:Nat),ag.Pairwise Nat.Coprime->ag[k]?=some p->ar.getD k 0=0->Nat.Coprime p (jY ag ar)
 | [],_,_,_,h,_=>by simp at h
 | _::_,[],_,_,_,_=>IC p
 | q::ag,e::ar,0,c,h,h0=>by
  simp at h h0;subst h;subst h0;show Nat.Coprime q (q ^ 0 * jY ag ar);rw [Nat.pow_zero,Nat.one_mul];exact JC ag ar (List.pairwise_cons.mp c).1
 | q::ag,e::ar,k+1,c,h,h0=>by
  have cq:=List.pairwise_cons.mp c;have h':ag[k]?=some p:=by simpa using h
  have hm:p∈ag:=dr h';refine Nat.Coprime.mul_right (Nat.Coprime.pow_right e (Nat.Coprime.symm (cq.1 p hm))) ?_;exact Ij ag ar k cq.2 h' (by simpa using h0)
theorem aiO {ar fs:eG} (h : ∀ k,ar.getD k 0=0\/fs.getD k 0=0):rl (prod ar) (prod fs)=true:=by
 rw [Ts];rintro p aw ⟨ah,ai⟩;obtain ⟨k,aG⟩:=mO aw;have xY:=mM p aw;rcases h k with e | e
 ·have:=(Ij dE ar k Ea aG e).eq_one_of_dvd ah;omega
 ·have:=(Ij dE fs k Ea aG e).eq_one_of_dvd ai;omega
theorem RM : ∀ (ag ar:eG),(∀ p∈ag,p<=29)->jY ag ar<=29 ^ ar.sum
 | [],_,_=>Af .aA
 | _::_,[],_=>b9 _
 | p::ag,e::ar,h=>by
  rw [sT,Nat.pow_add];exact Nat.mul_le_mul (Nat.pow_le_pow_left (h p gS) e) (RM ag ar λ q aZ=>h q (ht _ aZ))
theorem ac4 (ar:eG):prod ar<=29 ^ ar.sum:=RM dE ar .aA
noncomputable def jt (i:Int):Bool:=decide (1<=i)&&decide (i<=1000000000000)&&decide (jC i.toNat=1)
noncomputable def jX (i j:Int):Bool:=jt i&&jt j&&rl i.toNat j.toNat
theorem S9 {ar:eG} (h:ar.sum<=3):jt (prod ar:Nat)=true:=by
 unfold jt;have ah:=aeX ar;have ai:=ac4 ar;have aH:29 ^ ar.sum<=29 ^ 3:=Nat.pow_le_pow_right .aA h;have a4:(29:Nat) ^ 3=24389:=by decide
 rw [jA,jA,decide_eq_true_iff,decide_eq_true_iff,decide_eq_true_iff];refine #[#[.aD,.aD],?_];rw [iz];exact ajp ar
theorem aht {ar fs:eG} (ah:ar.sum<=3) (ai:fs.sum<=3) (h : ∀ k,ar.getD k 0=0\/fs.getD k 0=0):jX (prod ar:Nat) (prod fs:Nat)=true:=by
 unfold jX;rw [S9 ah,S9 ai,iz,iz,aiO h];rfl
noncomputable def ups (xs:aV):eG:=xs.map Int.toNat
noncomputable def downs (xs:aV):eG:=xs.map λ x=>(-x).toNat
theorem ai5 (xs:aV) (k:Nat):(ups xs).getD k 0=0\/(downs xs).getD k 0=0:=by
 unfold ups downs;rw [pQ,pQ,fK,fK];cases xs[k]? with
 | none=>exact .inl rfl
 | some x=>simp;omega
theorem AB : ∀ (xs:eG) (k:Nat) (v:Nat),(xs.set k v).sum+xs.getD k 0<=xs.sum+v
 | [],k,v=>by simp
 | x::xs,0,v=>by simp;omega
 | x::xs,k+1,v=>by
  have:=AB xs k v;simp only [List.set_cons_succ,sT,List.getD_cons_succ];omega
theorem QA {xs:aV} {k:Nat} {x:Int} (h:xs[k]?=some x):(ups (xs.set k (x+1))).sum<=(ups xs).sum+1:=by
 have q:=AB (ups xs) k (x+1).toNat;have e:(ups xs).getD k 0=x.toNat:=by unfold ups;rw [pQ,fK,h];rfl
 rw [e] at q;have aO:ups (xs.set k (x+1))=(ups xs).set k (x+1).toNat:=by unfold ups;rw [rg]
 rw [aO];omega
theorem afn {xs:aV} {k:Nat} {x:Int} (h:xs[k]?=some x):(ups (xs.set k (x - 1))).sum<=(ups xs).sum:=by
 have q:=AB (ups xs) k (x - 1).toNat;have e:(ups xs).getD k 0=x.toNat:=by unfold ups;rw [pQ,fK,h];rfl
 rw [e] at q;have aO:ups (xs.set k (x - 1))=(ups xs).set k (x - 1).toNat:=by unfold ups;rw [rg]
 rw [aO];omega
theorem ahq {xs:aV} {k:Nat} {x:Int} (h:xs[k]?=some x):(downs (xs.set k (x - 1))).sum<=(downs xs).sum+1:=by
 have q:=AB (downs xs) k (-(x - 1)).toNat;have e:(downs xs).getD k 0=(-x).toNat:=by unfold downs;rw [pQ,fK,h];rfl
 rw [e] at q;have aO:downs (xs.set k (x - 1))=(downs xs).set k (-(x - 1)).toNat:=by unfold downs;rw [rg]
 rw [aO];omega
theorem ad4 {xs:aV} {k:Nat} {x:Int} (h:xs[k]?=some x):(downs (xs.set k (x+1))).sum<=(downs xs).sum:=by
 have q:=AB (downs xs) k (-(x+1)).toNat;have e:(downs xs).getD k 0=(-x).toNat:=by unfold downs;rw [pQ,fK,h];rfl
 rw [e] at q;have aO:downs (xs.set k (x+1))=(downs xs).set k (-(x+1)).toNat:=by unfold downs;rw [rg]
 rw [aO];omega
theorem Ti {xs:aV} (ah:(ups xs).sum<=3) (ai:(downs xs).sum<=3):jX (prod (ups xs):Nat) (prod (downs xs):Nat)=true:=aht ah ai (ai5 xs)
end gu
namespace bM
open PySem PySem.Spec PyProof.Rows
theorem aeR {X:aP} {x:Str} {i:Int} {pos:Pos} (aS:dW X x) (hm : ∃ t,X.mg x=some (.int i t)) (hd:(x == ("__debug__" : Str))=false:=by decide):cn X (.Name x pos) (cM (.int i)):=by
 obtain ⟨t,h⟩:=hm;exact I1 aS h #[t,rfl] hd
theorem aeS {X:aP} {x:Str} {i:Str} {pos:Pos} (aS:dW X x) (hm : ∃ t,X.mg x=some (.str i t)) (hd:(x == ("__debug__" : Str))=false:=by decide):cn X (.Name x pos) (cM (.str i)):=by
 obtain ⟨t,h⟩:=hm;exact I1 aS h #[t,rfl] hd
noncomputable def zH (sc kU:Scope):List (Str×NameKind):=sc.names.map λ (n,k)=>if (k == .free&&kU.kind == .function&&kU.names.lookup n == some .cell) then (n,.cell) else (n,k)
noncomputable def HI (sc:Scope):bT:=((sc.names.filter (λ p=>p.2 == .free)).reverse).map (·.1)
noncomputable def IT (sc kU:Scope) (N rE:bT) (js:List (Option Nat)):Bool :=
 sc.names.all (λ y=>y.2 != .cell)&&decide (sc.kind=.function)&&sc.names.all (λ y=>y.2 != .local||sc.names.lookup y.1 == some .local) &&
 (zH sc kU).all (λ p => !(p.2 == .cell||p.2 == .free)||(HI sc).contains p.1)&&js.length == N.length &&
 (List.range N.length).all λ i=>match js[i]?,N[i]? with
  | some (some j),some x=>rE[j]? == some x&&kU.names.lookup x == some .cell&&((zH sc kU).lookup x == some .cell||(zH sc kU).lookup x == some .free)
  | _,_=>true
theorem mem_of_lookup {α β: Type} [BEq α] [LawfulBEq α] : ∀ {l:List (α × β)} {x : α} {c : β},l.lookup x=some c->(x,c)∈l
 | [],_,_,h=>by simp at h
 | (y,d)::r,x,c,h=>by
  rw [List.lookup_cons] at h;cases e:(x == y) with
  | true =>
   rw [e] at h;cases h;rw [eq_of_beq e];exact gS
  | false =>
   rw [e] at h;exact ht _ (mem_of_lookup h)
theorem afK {X:aP} {kU:Scope} {N rE:bT} (aJ:X.env.scope=kU) (si:closureFor sc X.env=pure cl) (aG:cl.map (·.1)=HI sc)
  (HE : ∀ p∈cl,X.env.cells.lookup p.1=some p.2) (yb:IT sc kU N rE js=true) (dx:X.N=rE):sG X sc cl N js:=by
 unfold IT at yb;simp only [jA] at yb;obtain ⟨⟨⟨⟨⟨ah,ai⟩,aH⟩,a4⟩,b4⟩,dM⟩:=yb;have rI:(relabel sc X.env).names=zH sc kU:=by
  unfold relabel zH Env.kindOf;rw [aJ]
 refine #[si,?_,eT ai,?_,?_,?_,eq_of_beq b4,?_]
 ·intro y aT;have:=gT.mp ah y aT;simpa using this
 ·intro y aT av;have:=gT.mp aH y aT;rw [av] at this;simpa using this
 ·intro x c h;exact HE (x,c) (mem_of_lookup h)
 ·intro x h;rw [rI] at h;refine Ei ?_;rw [aG];rcases h with h | h
  all_goals
   have:=gT.mp a4 _ (mem_of_lookup h);simpa using this
 ·intro i j x BB b5;have ax:i<N.length:=(fJ.mp BB).1;have:=gT.mp dM i (wF.mpr ax);rw [b5,BB] at this;simp only [jA,Bool.or_eq_true] at this;obtain ⟨⟨a,b⟩,c⟩:=this;refine #[?_,?_,?_]
  ·rw [dx];exact eq_of_beq a
  ·rw [aJ];exact eq_of_beq b
  ·rw [rI];rcases c with c | c
   ·exact .inl (eq_of_beq c)
   ·exact .inr (eq_of_beq c)
end bM
namespace cJ
open PySem bM
theorem gg:bootBuiltins "len" = some (.builtin "len"):=PySem.boot_len
theorem dy:bootBuiltins "isinstance" = some (.builtin "isinstance"):=by decide +kernel
theorem zM:bootBuiltins "int" = some (.type "int"):=by decide +kernel
theorem sI:bootBuiltins "bool" = some (.type "bool"):=by decide +kernel
theorem hL:bootBuiltins "tuple" = some (.type "tuple"):=by decide +kernel
theorem uH:bootBuiltins "list" = some (.type "list"):=by decide +kernel
theorem pC:bootBuiltins "str" = some (.type "str"):=by decide +kernel
theorem acq:bootBuiltins "range" = some (.type "range"):=by decide +kernel
theorem wt:bootBuiltins "max" = some (.builtin "max"):=by decide +kernel
theorem zN:bootBuiltins "min" = some (.builtin "min"):=by decide +kernel
theorem qV:bootBuiltins "all" = some (.builtin "all"):=by decide +kernel
noncomputable def dV (H:az):V->Prop
 | .bh=>True
 | .aX _=>True
 | .int _=>True
 | .str _=>True
 | .ref a=>(∃ xs,H a=some (.tup xs))\/(∃ xs,H a=some (.lst xs))\/(∃ kvs,H a=some (.bF kvs))
 | _=>False
noncomputable def jV:Option e6->Option bl
 | some (.tup xs)=>some xs
 | _=>none
noncomputable def dR (H:az):V->Option bl
 | .ref a=>jV (H a)
 | _=>none
theorem kx {a:Addr} (h:H a=some (.tup xs)):dR H (.ref a)=some xs:=by
 show jV (H a)=_;rw [h];rfl
theorem uX {v:V} (h:dR H v=some xs) : ∃ a,v=.ref a/\H a=some (.tup xs):=by
 cases v with
 | ref a =>
  refine #[a,rfl,?_];have h':jV (H a)=some xs:=h;cases e:H a with
  | none=>rw [e] at h';cases h'
  | some o =>
   rw [e] at h';cases o<;>first | (cases h';rfl) | cases h'
 | _=>cases h
noncomputable def BX:V->Bool
 | .int _=>true
 | .aX _=>true
 | _=>false
noncomputable def NJ:V->Bool
 | .aX _=>true
 | _=>false
noncomputable def vY:V->Bool
 | .int _=>true
 | _=>false
theorem Qj (v:V):(BX v && !NJ v)=vY v:=by cases v<;>rfl
theorem IZ {v:V} (h:vY v=true) : ∃ i,v=.int i:=by
 cases v with
 | int i=>exact #[i,rfl]
 | _=>cases h
section
variable {v:V}
theorem sx (k:dV H v) : ∃ t,jn K H v t/\PySem.W.kitOne K t (.type "tuple")=some (dR H v).isSome:=by
 cases v with
 | bh=>exact #[_,.bh,by kernel_rfl]
 | aX b=>exact #[_,.aX b,by kernel_rfl]
 | int i=>exact #[_,.int i,by kernel_rfl]
 | str x=>exact #[_,.str x,by kernel_rfl]
 | ref a =>
  rcases (show (∃ xs,H a=some (.tup xs))\/(∃ xs,H a=some (.lst xs))\/(∃ kvs,H a=some (.bF kvs)) from k) with ⟨xs,e⟩ | ⟨xs,e⟩ | ⟨kvs,e⟩
  ·exact #[_,.tup e,by rw [kx e];kernel_rfl]
  ·refine #[_,.lst e,?_];show _=some (jV (H a)).isSome;rw [e];kernel_rfl
  ·refine #[_,.bF e,?_];show _=some (jV (H a)).isSome;rw [e];kernel_rfl
 | _=>exact False.elim k
theorem zR (k:dV H v) : ∃ t,jn K H v t/\PySem.W.kitOne K t (.type "int")=some (BX v):=by
 cases v with
 | bh=>exact #[_,.bh,by kernel_rfl]
 | aX b=>exact #[_,.aX b,by kernel_rfl]
 | int i=>exact #[_,.int i,by kernel_rfl]
 | str x=>exact #[_,.str x,by kernel_rfl]
 | ref a =>
  rcases (show (∃ xs,H a=some (.tup xs))\/(∃ xs,H a=some (.lst xs))\/(∃ kvs,H a=some (.bF kvs)) from k) with ⟨xs,e⟩ | ⟨xs,e⟩ | ⟨kvs,e⟩
  ·exact #[_,.tup e,by kernel_rfl]
  ·exact #[_,.lst e,by kernel_rfl]
  ·exact #[_,.bF e,by kernel_rfl]
 | _=>exact False.elim k
theorem wy (k:dV H v) : ∃ t,jn K H v t/\PySem.W.kitOne K t (.type "bool")=some (NJ v):=by
 cases v with
 | bh=>exact #[_,.bh,by kernel_rfl]
 | aX b=>exact #[_,.aX b,by kernel_rfl]
 | int i=>exact #[_,.int i,by kernel_rfl]
 | str x=>exact #[_,.str x,by kernel_rfl]
 | ref a =>
  rcases (show (∃ xs,H a=some (.tup xs))\/(∃ xs,H a=some (.lst xs))\/(∃ kvs,H a=some (.bF kvs)) from k) with ⟨xs,e⟩ | ⟨xs,e⟩ | ⟨kvs,e⟩
  ·exact #[_,.tup e,by kernel_rfl]
  ·exact #[_,.lst e,by kernel_rfl]
  ·exact #[_,.bF e,by kernel_rfl]
 | _=>exact False.elim k
end
theorem aE.kind (s:aE H H') {v:V} (k:dV H v):dV H' v:=by
 cases v with
 | ref a =>
  rcases (show (∃ xs,H a=some (.tup xs))\/(∃ xs,H a=some (.lst xs))\/(∃ kvs,H a=some (.bF kvs)) from k) with ⟨xs,e⟩ | ⟨xs,e⟩ | ⟨kvs,e⟩
  ·exact .inl #[xs,s _ _ e]
  ·exact .inr (.inl #[xs,s _ _ e])
  ·exact .inr (.inr #[kvs,s _ _ e])
 | bh=>trivial
 | aX b=>trivial
 | int i=>trivial
 | str x=>trivial
 | jK b=>exact False.elim k
 | ip b=>exact False.elim k
 | ty b=>exact False.elim k
noncomputable def bN (a:Addr) (H H':az):Prop := ∀ b o,b≠a->H b=some o->H' b=some o
theorem bN.refl (a:Addr) (H:az):bN a H H:=λ _ _ _ h=>h
theorem bN.trans {a:Addr} {au:az} (x:bN a H H1) (y:bN a H1 au):bN a H au:=λ b o n h=>y b o n (x b o n h)
theorem bN.of {a:Addr} (x:aE H H'):bN a H H':=λ b o _ h=>x b o h
theorem bN.free {a:Addr} (x:bN a H H') {p:Addr} (h:H' p=none) (aw:p≠a):H p=none:=by
 cases q:H p with
 | none=>rfl
 | some o=>rw [x p o aw q] at h;cases h
theorem bN.aaI {a:Addr} (x:bN a H H') (ay:H' a=some o) {p:Addr} (h:H' p=none):H p=none :=
 x.free h λ z=>by rw [z,ay] at h;cases h
theorem bN.upd {a:Addr}:bN a H (upd H a o):=λ b q n h=>by rw [bj n];exact h
theorem bN.new {a p:Addr} (x:bN a H H') (h:H' p=none):bN a H (bM.upd H' p o):=λ b q n e=>by rw [bj (cf (x b q n e) h)];exact x b q n e
theorem bN.set {a:Addr} (x:bN a H H'):bN a H (bM.upd H' a o):=λ b q n e=>by rw [bj n];exact x b q n e
theorem aE.new {p:Addr} (h:H p=none):aE H (upd H p o):=λ b q e=>by rw [bj (cf e h)];exact e
theorem aE.more {p:Addr} (s:aE H H') (h:H' p=none):aE H (upd H' p o):=s.trans (aE.new h)
theorem aE.tup {a:Addr} (e:aE H H') (h:a0 K H a xs):a0 K H' a xs:=by
 rcases h with (h | ⟨o,h⟩) | h
 ·exact .inl (.inl (e _ _ h))
 ·exact .inl (.inr #[o,e _ _ h])
 ·exact .inr h
theorem l1 {i:Nat} (h:(ns.map V.int)[i]?=some y) : ∃ z,y=.int z/\ns[i]?=some z:=by
 rw [fK] at h;cases e:ns[i]? with
 | none=>rw [e] at h;cases h
 | some z=>rw [e] at h;exact #[z,(gR h).symm,rfl]
theorem lY {α: Type} {xs:List α} {i:Int} {v: α} (h0:0<=i) (h:xs[i.toNat]?=some v):il xs i=some v:=by
 have:=QH h
 rwa [lZ h0] at this
theorem z9 {i:Int} (h0:0<=i) (h:i<n):od n i=some i.toNat:=by
 unfold od;rw [if_pos h0,if_pos h]
theorem Qy {α: Type} {xs:List α} (h:xs.length=2) : ∃ x y,xs=[x,y]:=by
 cases xs with
 | nil=>simp at h
 | cons x xs =>
  cases xs with
  | nil=>simp at h
  | cons y ys =>
   cases ys with
   | nil=>exact #[x,y,rfl]
   | cons z zs=>simp at h
end cJ
namespace bM
open PySem PySem.Spec PyProof.Rows
noncomputable def noStar:Expr->Bool
 | .Starred _ _=>false
 | _=>true
theorem u_ {e:Expr} (h:noStar e=true) (ar:List Expr) (env:Env):starEach (e::ar) env=(false,eval e env)::starEach ar env:=by
 cases e<;>first | rfl | cases h
theorem aaj {X:aP} {e:Expr} {ar:List Expr} {bp:TE} {t:dc} (ay:cn X e bp) (aq:iF X ar t) (h:noStar e=true:=by rfl):iF X (e::ar) (cy bp t):=acR ay aq (u_ h ar X.env)
section
variable {a:Addr} {bp:TE} {Q:bG}
theorem Aw (aF:n<=sizeLine) (Pv:Nat->St->az->bl->Prop) (h0:Pv 0 (pick js σ) (upd H1 D (.lst [])) [])
  (pb : ∀ i σ' H' ys,i<n->H' D=some (.lst ys)->Pv i σ' H' ys->J.go i H') (c4 : ∀ σ' H' ys,H' D=some (.lst ys)->ys.length=n->Pv n σ' H' ys->J.stop n H'/\Q (.ref D) H')
  (aB : ∀ i σ' H' ys x au (R:St->V->az->Prop),i<n->H' D=some (.lst ys)->ys.length=i->Pv i σ' H' ys->J.jl i H' x au ->
   (∀ σ2 y bc,bc D=some (.lst ys)->Pv (i+1) σ2 (upd bc D (.lst (ys++[y]))) (ys++[y])->R σ2 y bc)->g x σ' au λ σ2 aW=>bp σ2 aW λ y bc=>R σ2 y bc) :
  kn J D js g mS bp σ H1 Q:=by
 refine #[λ i m σ' H' ys=>m=n - i/\i<=n/\H' D=some (.lst ys)/\ys.length=i/\Pv i σ' H' ys,#[n,rfl,j0 _,bL,rfl,h0],?_];rintro i m σ' H' ys ⟨rfl,ax,a8,aT,p⟩;refine #[a8,?_];by_cases e:i=n
 ·subst e;exact .inl (c4 σ' H' ys a8 aT p)
 ·have ea:i<n:=by omega
  refine .inr #[pb i σ' H' ys ea a8 p,.aD,λ σ2 au zs=>au D=some (.lst zs)/\zs.length=i+1/\Pv (i+1) σ2 au zs,λ σ2 au zs ⟨ho,f9,m9⟩=>#[n - (i+1),.aD,rfl,.aD,ho,f9,m9],λ x au aj=>?_];exact aB i σ' H' ys x au (λ σ2 y bc=>bc D=some (.lst ys)/\(upd bc D (.lst (ys++[y]))) D=some (.lst (ys++[y]))/\(ys++[y]).length=i+1/\Pv (i+1) σ2 (upd bc D (.lst (ys++[y]))) (ys++[y])) ea a8 aT p aj
   λ σ2 y bc ho f9=>#[ho,bL,by rw [fm,aT];rfl,f9]
theorem ahp {lo:Int} (aF:n<=sizeLine) (Pv:Nat->St->az->bl->Prop) (h0:Pv 0 (pick js σ) (upd H1 D (.lst [])) [])
  (aB : ∀ i σ' H' ys (R:St->V->az->Prop),i<n->H' D=some (.lst ys)->ys.length=i->Pv i σ' H' ys->(∀ σ2 y bc,bc D=some (.lst ys)->Pv (i+1) σ2 (upd bc D (.lst (ys++[y]))) (ys++[y])->R σ2 y bc) ->
   g (.int (lo+i)) σ' H' λ σ2 aW=>bp σ2 aW λ y bc=>R σ2 y bc)
  (c4 : ∀ σ' H' ys,H' D=some (.lst ys)->ys.length=n->Pv n σ' H' ys->Q (.ref D) H'):kn (rY lo n) D js g mS bp σ H1 Q :=
 Aw aF Pv h0 (λ i _ _ _ ax _ _=>ax) (λ σ' H' ys a b c=>#[b9 _,c4 σ' H' ys a b c]) λ i σ' H' ys x au R ax a b c ⟨aM,aO⟩=>by
  subst aM;subst aO;exact aB i σ' au ys R ax a b c
theorem Sl (aF:xs.length<=sizeLine) (Pv:Nat->St->az->bl->Prop) (h0:Pv 0 (pick js σ) (upd H1 D (.lst [])) [])
  (av : ∀ i σ' H' ys,i<=xs.length->H' D=some (.lst ys)->Pv i σ' H' ys->a9 K H' a xs)
  (aB : ∀ i x σ' H' ys (R:St->V->az->Prop),xs[i]?=some x->H' D=some (.lst ys)->ys.length=i->Pv i σ' H' ys->(∀ σ2 y bc,bc D=some (.lst ys)->Pv (i+1) σ2 (upd bc D (.lst (ys++[y]))) (ys++[y])->R σ2 y bc) ->
   g x σ' H' λ σ2 aW=>bp σ2 aW λ y bc=>R σ2 y bc)
  (c4 : ∀ σ' H' ys,H' D=some (.lst ys)->ys.length=xs.length->Pv xs.length σ' H' ys->Q (.ref D) H'):kn (rX K a) D js g mS bp σ H1 Q :=
 Aw aF Pv h0 (λ i σ' H' ys ax a8 p=>#[xs,xs[i],av i σ' H' ys .aD a8 p,fT ax])
  (λ σ' H' ys a8 b c=>#[#[xs,av _ σ' H' ys (b9 _) a8 c,b9 _],c4 σ' H' ys a8 b c]) λ i σ' H' ys x au R ax a8 b c ⟨aM,aO⟩=>by
  subst aM;exact aB i x σ' au ys R (aO xs (av i σ' au ys .aD a8 c)) a8 b c
theorem DP (aF:xs.length<=sizeLine) (Pv:Nat->St->az->bl->Prop) (h0:Pv 0 (pick js σ) (upd H1 D (.lst [])) [])
  (av : ∀ i σ' H' ys,i<=xs.length->H' D=some (.lst ys)->Pv i σ' H' ys->a0 K H' a xs)
  (aB : ∀ i x σ' H' ys (R:St->V->az->Prop),xs[i]?=some x->H' D=some (.lst ys)->ys.length=i->Pv i σ' H' ys->(∀ σ2 y bc,bc D=some (.lst ys)->Pv (i+1) σ2 (upd bc D (.lst (ys++[y]))) (ys++[y])->R σ2 y bc) ->
   g x σ' H' λ σ2 aW=>bp σ2 aW λ y bc=>R σ2 y bc)
  (c4 : ∀ σ' H' ys,H' D=some (.lst ys)->ys.length=xs.length->Pv xs.length σ' H' ys->Q (.ref D) H'):kn (rZ K a) D js g mS bp σ H1 Q :=
 Aw aF Pv h0 (λ i σ' H' ys ax a8 p=>#[xs,xs[i],av i σ' H' ys .aD a8 p,fT ax])
  (λ σ' H' ys a8 b c=>#[#[xs,av _ σ' H' ys (b9 _) a8 c,b9 _],c4 σ' H' ys a8 b c]) λ i σ' H' ys x au R ax a8 b c ⟨aM,aO⟩=>by
  subst aM;exact aB i x σ' au ys R (aO xs (av i σ' au ys .aD a8 c)) a8 b c
end
theorem a9.DL {a:Addr} (h:a9 K H a xs) (n:H D=none):a9 K (upd H D o) a xs:=by
 rcases h with (h | ⟨u,h⟩) | h
 ·exact .inl (.inl (by rw [bj (cf h n)];exact h))
 ·exact .inl (.inr #[u,by rw [bj (cf h n)];exact h])
 ·exact .inr h
theorem a0.DL {a:Addr} (h:a0 K H a xs) (n:H D=none):a0 K (upd H D o) a xs:=by
 rcases h with (h | ⟨u,h⟩) | h
 ·exact .inl (.inl (by rw [bj (cf h n)];exact h))
 ·exact .inl (.inr #[u,by rw [bj (cf h n)];exact h])
 ·exact .inr h
theorem AH {α β: Type} {f: α -> β} {xs:List α} {i:Nat} {x: α} (h:xs[i]?=some x):(xs.take (i+1)).map f=(xs.take i).map f++[f x]:=by
 rw [sU,h,mP];rfl
section
variable {a:Addr} {bp:TE} {Q:bG}
theorem T7 {o:dG} {f:V->V} (aw:pick js σ=o::σ0) (aF:xs.length<=sizeLine) (a8:H1 D=none) (dT:a9 K H1 a xs)
  (aB : ∀ (x:V) (H':az) (R:bG),x∈xs->R (f x) H'->bp (some x::σ0) H' R) (q:Q (.ref D) (upd H1 D (.lst (xs.map f)))):kn (rX K a) D js (gx 0) mS bp σ H1 Q:=by
 refine Sl (xs:=xs) aF (λ i σ' H' ys=>(∃ u,σ'=u::σ0)/\ys=(xs.take i).map f/\H'=upd H1 D (.lst ys)) #[#[o,aw],rfl,rfl] ?_ ?_ ?_
 ·rintro i σ' H' ys _ _ ⟨_,rfl,rfl⟩;exact dT.DL a8
 ·rintro i x σ' H' ys R aj _ _ ⟨⟨u,rfl⟩,rfl,rfl⟩ k;refine aB x _ _ (dr aj) (k _ _ _ bL #[#[_,rfl],(AH aj).symm,I_])
 ·rintro σ' H' ys _ _ ⟨_,rfl,rfl⟩;rw [sV];exact q
theorem TL {o:dG} {f:V->V} (aw:pick js σ=o::σ0) (aF:xs.length<=sizeLine) (a8:H1 D=none) (dT:a0 K H1 a xs)
  (aB : ∀ (x:V) (H':az) (R:bG),x∈xs->R (f x) H'->bp (some x::σ0) H' R) (q:Q (.ref D) (upd H1 D (.lst (xs.map f)))):kn (rZ K a) D js (gx 0) mS bp σ H1 Q:=by
 refine DP (xs:=xs) aF (λ i σ' H' ys=>(∃ u,σ'=u::σ0)/\ys=(xs.take i).map f/\H'=upd H1 D (.lst ys)) #[#[o,aw],rfl,rfl] ?_ ?_ ?_
 ·rintro i σ' H' ys _ _ ⟨_,rfl,rfl⟩;exact dT.DL a8
 ·rintro i x σ' H' ys R aj _ _ ⟨⟨u,rfl⟩,rfl,rfl⟩ k;refine aB x _ _ (dr aj) (k _ _ _ bL #[#[_,rfl],(AH aj).symm,I_])
 ·rintro σ' H' ys _ _ ⟨_,rfl,rfl⟩;rw [sV];exact q
end
theorem u5 {c:TT} {bz:de} {D:Ends} (Pv:St->az->Prop) (μ : St->az->Nat) (h0:Pv σ H)
  (aB : ∀ σ H,Pv σ H->c σ H λ b H1=>if b=true then ∃ N:St->az->Prop,(∀ σ' H',N σ' H' -> ∃ cP,cP < μ σ H/\cP = μ σ' H'/\Pv σ' H')/\bz { D with bu:=N,cK:=N,aQ:=D.bu } σ H1 else D.bu σ H1):Iv c bz D σ H :=
 #[λ m σ H=>m = μ σ H/\Pv σ H,#[_,rfl,h0],λ m σ H ⟨e,p⟩=>by subst e;exact aB σ H p]
theorem uf {bz:de} {D:Ends} {m:Nat} {Pv:St->az->Prop} {μ: St->az->Nat} (h:bz { D with bu:=λ σ' H'=>Pv σ' H' /\ μ σ' H'<m,cK:=λ σ' H'=>Pv σ' H' /\ μ σ' H'<m,aQ:=D.bu } σ H1) :
  ∃ N:St->az->Prop,(∀ σ' H',N σ' H' -> ∃ cP,cP<m/\cP = μ σ' H'/\Pv σ' H')/\bz { D with bu:=N,cK:=N,aQ:=D.bu } σ H1:=#[_,λ _ _ ⟨a,b⟩=>#[_,b,rfl,a],h]
theorem Qu {d:Nat} {i:Int} (h:0<=i):d_.cU n d (some i)=min i.toNat n:=by
 show (if i<0 then _ else _)=_;rw [if_neg .aD]
theorem Jd {i:Int} (h:0<=i):mB xs none (some i)=xs.take i.toNat:=by
 unfold mB;rw [Qu h];show (xs.drop 0).take (min i.toNat xs.length - 0)=_;rw [List.drop_zero,Nat.sub_zero];rcases Nat.le_total i.toNat xs.length with g | g
 ·rw [Nat.min_eq_left g]
 ·rw [Nat.min_eq_right g,oA (b9 _),oA g]
structure bO (X:aP) (e:Expr) (t:TE):Prop where
 o:cn X e t
structure l7 (X:aP) (e:Expr) (t:TT):Prop where
 o:l6 X e t
structure eD (X:aP) (e:Expr) (t:TT):Prop where
 o:oW X e t
structure fL (X:aP) (e:List Expr) (t:dc):Prop where
 o:iF X e t
structure h3 (X:aP) (e:Stmt) (t:de):Prop where
 o:kz X e t
structure jg (X:aP) (e:List Stmt) (t:de):Prop where
 o:lD X e t
structure mY (X:aP) (e:Expr) (t:iH):Prop where
 o:nQ X e t
structure vI (X:aP) (e:List Expr) (t:mn):Prop where
 o:x9 X e t
structure AX (X:aP) (e:Option Expr) (t:c9):Prop where
 o:xA X e t
structure Bm (X:aP) (e:List Expr) (t:TT):Prop where
 o:tJ X e t
structure lr (X:aP) (bk e:Expr) (t:TI):Prop where
 o:lq X bk e t
theorem af (i:Nat) {x:Str} {pos:Pos} (dx:X.N[i]?=some x:=by rfl) (ba:Bp X.env.scope x:=by first | exact Or.inl rfl | exact Or.inr (Or.inl rfl) | exact Or.inr (Or.inr rfl)) (hd:(x == ("__debug__" : Str))=false:=by decide) (iN:(x == ("__classdict__" : Str))=false:=by decide):bO X (.Name x pos) (iT i) :=
 #[rQ i dx ba hd iN]
theorem aI {i j pos}:bO X (.Constant (.int i) j pos) (cM (.int i)) :=
 #[abM ]
theorem gz {b j pos}:bO X (.Constant (.bool b) j pos) (cM (.aX b)) :=
 #[aaU ]
theorem e2 {j pos}:bO X (.Constant .none j pos) (cM .bh) :=
 #[Qn ]
theorem ck {x j pos}:bO X (.Constant (.str x) j pos) (cM (.str x)) :=
 #[abQ ]
theorem ky {x:Str} {v:V} {u:Value} {pos:Pos} (aS:dW X x) (hm:X.mg x=some u) (r:RelV v u) (hd:(x == ("__debug__" : Str))=false:=by decide):bO X (.Name x pos) (cM v) :=
 #[I1 aS hm r hd]
theorem uY {X:aP} {x:Str} {i:Int} {pos:Pos} (aS:dW X x) (hm : ∃ t,X.mg x=some (.int i t)) (hd:(x == ("__debug__" : Str))=false:=by decide):bO X (.Name x pos) (cM (.int i)) :=
 #[aeR aS hm hd]
theorem ae9 {X:aP} {x:Str} {i:Str} {pos:Pos} (aS:dW X x) (hm : ∃ t,X.mg x=some (.str i t)) (hd:(x == ("__debug__" : Str))=false:=by decide):bO X (.Name x pos) (cM (.str i)) :=
 #[aeS aS hm hd]
theorem eB {X:aP} {x:Str} {T:String} {pos:Pos} (aS:dW X x) (hm:X.mg x=none) (ba:bootBuiltins x=some (.type T)) (aF:x ≠ "__name__" := by decide) (hd:(x == ("__debug__" : Str))=false:=by decide):bO X (.Name x pos) (cM (.ty T)) :=
 #[aaZ aS hm ba aF hd]
theorem bU {a:Expr} {b:Expr} {op:Operator} {r:fy} (aJ:dC X (binaryOp op) r) (ay:bO X a a3) (ae:bO X b bz):bO X (.BinOp a op b pos) (g8 r a3 bz) :=
 #[aaX aJ ay.o ae.o]
theorem qZ {a:Expr} {op:UnaryOp} {r:V->az->bG->Prop} (aJ:Bo X (unaryOp op) r) (ay:bO X a a3):bO X (.UnaryOp op a pos) (Hh r a3) :=
 #[aa0 aJ ay.o]
theorem jy {a:Expr} {b:Expr} (ay:bO X a a3) (ae:bO X (.BoolOp .And (b::rest) pos) bz):bO X (.BoolOp .And (a::b::rest) pos) (CY a3 bz) :=
 #[abJ ay.o ae.o]
theorem aa3 {a:Expr} {b:Expr} (ay:bO X a a3) (ae:bO X (.BoolOp .Or (b::rest) pos) bz):bO X (.BoolOp .Or (a::b::rest) pos) (PF a3 bz) :=
 #[aaY ay.o ae.o]
theorem i0 {a:Expr} {op} {t:TE} (h:bO X a t):bO X (.BoolOp op [a] pos) t :=
 #[abP h.o]
theorem Qp {a:Expr} (ay:bO X a a3):bO X (.UnaryOp .Not a pos) (Qa a3) :=
 #[abO ay.o]
theorem hy {a:Expr} {b:Expr} {op:CmpOp} {r:fy} (aJ:dC X (compareOp op) r) (ay:bO X a a3) (ae:bO X b bz) (hm:behindInMarks op b=false):bO X (.Compare a [op] [b] pos) (g8 r a3 bz) :=
 #[acU aJ ay.o ae.o hm]
theorem Jl {a:Expr} {b:Expr} {c:Expr} {op t_:CmpOp} {r bP:fy} (aJ:dC X (compareOp op) r) (kQ:dC X (compareOp t_) bP) (ay:bO X a a3) (ae:bO X b bz) (ak:bO X c c7) (hm:lastMarks [op,t_] [b,c]=false:=by with_unfolding_all rfl):bO X (.Compare a [op,t_] [b,c] pos) (Qv r bP a3 bz c7) :=
 #[aeP aJ kQ ay.o ae.o ak.o hm]
theorem Qq {gs} (h:fL X ar t):bO X (.Tuple ar gs pos) (PH t) :=
 #[abR h.o]
theorem Aa (h:fL X ar t):bO X (.List ar pos) (PD t) :=
 #[abN h.o]
theorem adg {X:aP} {pos:Pos}:bO X (.Dict [] [] pos) P6 :=
 #[Q3 ]
theorem dt {a:Expr} {b:Expr} {r:fy} (aq:x7 X r) (ay:bO X a a3) (ae:bO X b bz) (aB:QF b):bO X (.Subscript a b pos) (g8 r a3 bz) :=
 #[aaW aq ay.o ae.o aB]
theorem uZ {lo:Option Expr} {ax:Option Expr} {e:Expr} {r:V->Option Int->Option Int->az->bG->Prop} (aq:lE X r) (he:bO X e bp) (av:AX X lo d1) (br:AX X ax bC):bO X (.Subscript e (.Slice lo ax none dm) pos) (ud r bp d1 bC) :=
 #[aeU aq he.o av.o br.o]
theorem adf {e:Expr} (F:eo X.prog X.w X.K X.mg X.base cH k f fd ag sp) (aq:er k X.A) (aS:dW X x) (hm:X.mg x=some (.ref f)) (aG:PySem.W.keepIn X.K (.ref f)=true) (ae:Binds X.K fd ag ds) (hd:Vals fj ds) (aj:Passes cH X E) (ay:fL X (e::ar) t) (eY:(x == ("__debug__" : Str))=false:=by decide) (he:starEach (e::ar) X.env=(false,eval e X.env)::starEach ar X.env:=by rfl) (dH:(backTo pos (starEach ar X.env)).any (·.1)=false:=by rfl):bO X (.Call (.Name x p) (e::ar) [] pos) (mK sp fj E t) :=
 #[acT F aq aS hm aG ae hd aj ay.o eY he dH]
theorem ae5 (F:eo X.prog X.w X.K X.mg X.base cH k f fd ag sp) (aq:er k X.A) (aS:dW X x) (hm:X.mg x=some (.ref f)) (aG:PySem.W.keepIn X.K (.ref f)=true) (ae:Binds X.K fd ag ds) (hd:Vals fj ds) (aj:Passes cH X E) (eY:(x == ("__debug__" : Str))=false:=by decide):bO X (.Call (.Name x p) [] [] pos) (mK sp fj E dI) :=
 #[aeN F aq aS hm aG ae hd aj eY]
theorem ae6 {id:String} {e:Expr} (ak:gf X (.builtin id) r) (aS:dW X x) (hm:X.mg x=none) (ba:bootBuiltins x=some (.builtin id)) (ay:fL X (e::ar) t) (aF:x ≠ "__name__" := by decide) (eY:(x == ("__debug__" : Str))=false:=by decide) (he:starEach (e::ar) X.env=(false,eval e X.env)::starEach ar X.env:=by rfl) (dH:(backTo pos (starEach ar X.env)).any (·.1)=false:=by rfl):bO X (.Call (.Name x p) (e::ar) [] pos) (uc r t) :=
 #[aeO ak aS hm ba ay.o aF eY he dH]
theorem agx {e:Expr} (ak:gf X (.type T) r) (aS:dW X x) (hm:X.mg x=none) (ba:bootBuiltins x=some (.type T)) (ay:fL X (e::ar) t) (aF:x ≠ "__name__" := by decide) (eY:(x == ("__debug__" : Str))=false:=by decide) (he:starEach (e::ar) X.env=(false,eval e X.env)::starEach ar X.env:=by rfl) (dH:(backTo pos (starEach ar X.env)).any (·.1)=false:=by rfl):bO X (.Call (.Name x p) (e::ar) [] pos) (uc r t) :=
 #[agq ak aS hm ba ay.o aF eY he dH]
theorem jZ {id:String} {e:Expr} {o:Expr} (fM:PlainAttrs T) (slot:Slot T name id) (t4:typeOf (.builtin id)=pure (.type "method_descriptor")) (hm:vH X id r) (aJ:bO X o to) (ay:fL X (e::ar) t) (k_:attributeBase o name X.env (eval o X.env)=eval o X.env:=by rfl) (Hy:((backTo ej (starEach (e::ar) X.env)).all (λ x => !x.1)&&(backToKw ej (keywordEach [] X.env)).all (λ x=>x.1.isSome)
   && decide ((e::ar).length+([]:List Keyword).length+(if ([]:List Keyword).isEmpty then 0 else 1)<30))=true:=by rfl) (ur:(apos.endLine == ej.line)=true:=by rfl) (aB:starEach (e::ar) X.env=(false,eval e X.env)::starEach ar X.env:=by rfl) (z8:(backTo ej (starEach ar X.env)).any (·.1)=false:=by rfl):bO X (.Call (.Attribute o name apos) (e::ar) [] ej) (OF X.K T r to t) :=
 #[aaV fM slot t4 hm aJ.o ay.o k_ Hy ur aB z8]
theorem Qo {id:String} {o:Expr} (fM:PlainAttrs T) (slot:Slot T name id) (t4:typeOf (.builtin id)=pure (.type "method_descriptor")) (hm:vH X id r) (aJ:bO X o to) (k_:attributeBase o name X.env (eval o X.env)=eval o X.env:=by rfl) (ur:(apos.endLine == ej.line)=true:=by rfl):bO X (.Call (.Attribute o name apos) [] [] ej) (Pz X.K T r to) :=
 #[abK fM slot t4 hm aJ.o k_ ur]
theorem ct {a:Expr} {b:Expr} {op:CmpOp} {r:fy} (aJ:dC X (compareOp op) r) (ay:bO X a a3) (ae:bO X b bz) (hm:behindInMarks op b=false):l7 X (.Compare a [op] [b] pos) (Qb (g8 r a3 bz)) :=
 #[ac_ aJ ay.o ae.o hm]
theorem gM {a:Expr} (ay:l7 X a ih):l7 X (.UnaryOp .Not a pos) (PE ih) :=
 #[ab4 ay.o]
theorem eu {e:Expr} {t:TE} (h:bO X e t) (he : ∀ whole,isTrue e X.env whole=(do let v ← whole;standAt e.pos;holding [v] (truthy v)):=by intro _;rfl):l7 X e (tH t) :=
 #[ab5 h.o he]
theorem uL {a:Expr} {b:Expr} (ay:l7 X a ih) (ae:eD X (.BoolOp .And (b::rest) pos) my):eD X (.BoolOp .And (a::b::rest) pos) (Py ih my) :=
 #[ab6 ay.o ae.o]
theorem uU {a:Expr} (ay:l7 X a ih):eD X (.BoolOp .And [a] pos) ih :=
 #[ade ay.o]
theorem gA {a:Expr} {b:Expr} (ay:l7 X a ih) (ae:eD X (.BoolOp .Or (b::rest) pos) my):eD X (.BoolOp .Or (a::b::rest) pos) (OG ih my) :=
 #[aa2 ay.o ae.o]
theorem hv {a:Expr} (ay:l7 X a ih):eD X (.BoolOp .Or [a] pos) ih :=
 #[ab7 ay.o]
theorem ao  : fL X [] dI :=
 #[abI ]
theorem aa {X:aP} {e:Expr} {ar:List Expr} {bp:TE} {t:dc} (ay:bO X e bp) (aq:fL X ar t) (h:noStar e=true:=by rfl):fL X (e::ar) (cy bp t) :=
 #[aaj ay.o aq.o h]
theorem uS  : AX X none uW :=
 #[ac2 ]
theorem uT {e:Expr} (h:bO X e bp):AX X (some e) (uv bp) :=
 #[ac3 h.o]
theorem w1 {l:Expr} {d1:TE} (av:bO X l d1):lr X bk l (PV X.K d1) :=
 #[ac1 av.o]
theorem pL {l:Expr} {d1:TE} (av:bO X l d1):lr X bk l (Pe X.K d1) :=
 #[abW av.o]
theorem oR {a:Expr} {a3:dc} {p pos:Pos} (aS:dW X "range") (hm:X.mg "range" = none) (ay:fL X [a] a3) (aB:starEach [a] X.env=[(false,eval a X.env)]:=by rfl) (eH:X.calm=true:=by rfl):lr X bk (.Call (.Name "range" p) [a] [] pos) (PW a3) :=
 #[agr aS hm ay.o aB eH]
theorem agy {a b:Expr} {a3:dc} {p pos:Pos} (aS:dW X "range") (hm:X.mg "range" = none) (ay:fL X [a,b] a3) (aB:starEach [a,b] X.env=[(false,eval a X.env),(false,eval b X.env)]:=by rfl) (gd:starEach [b] X.env=[(false,eval b X.env)]:=by rfl) (eH:X.calm=true:=by rfl):lr X bk (.Call (.Name "range" p) [a,b] [] pos) (PX a3) :=
 #[ags aS hm ay.o aB gd eH]
theorem pM {a3:dc} {p pos:Pos} (h8:oN bk=true) (aS:dW X "zip") (hm:X.mg "zip" = none) (ay:fL X [aM,aO] a3) (aB:starEach [aM,aO] X.env=[(false,eval aM X.env),(false,eval aO X.env)]:=by rfl) (gd:starEach [aO] X.env=[(false,eval aO X.env)]:=by rfl) (ae:bootBuiltins "zip" = some (.type "zip"):=by decide +kernel):lr X bk (.Call (.Name "zip" p) [aM,aO] [] pos) (Pf X.K a3) :=
 #[abX h8 aS hm ay.o aB gd ae]
theorem l0 {i:Nat} {x:Str} (dx:X.N.Nodup) (ax:X.N[i]?=some x) (aj:Loc X.env.scope x) (hf:X.fn x=true\/X.env.scope.names.lookup x=some .local:=by first | exact .inl rfl | exact .inr rfl | assumption):mY X (.Name x pos) (gx i) :=
 #[acY dx ax aj hf]
theorem nH {ar:List Expr} {k:Nat} {t:mn} (ak:X.warm=true) (h:vI X ar t) (aF:(assignEach ar X.env).length=n:=by rfl) (c4:(assignEach ar X.env).findIdx? (·.1)=none:=by rfl):mY X (.Tuple ar k pos) (wi X.K n t) :=
 #[abU ak h.o aF c4]
theorem Ab {o i:Expr} {to hU:TE} {t:wh} (aJ:bO X o to) (ax:bO X i hU) (aB:Cq X t) (ay : ∀ v,assign (.Subscript o i pos) X.env v=(do
   let df ← holding [v] (eval o X.env)
   let ed ← holding [v,df] (eval i X.env)
   standAt pos
   holding [v,df,ed] (setItem df ed v)
   release [v,df,ed] []):=by intro _;rfl):mY X (.Subscript o i pos) (OW to hU t) :=
 #[abT aJ.o ax.o aB ay]
theorem hg  : vI X [] zy :=
 #[acZ ]
theorem du {e:Expr} {ar:List Expr} {t:iH} {u:mn} (ah:mY X e t) (ai:vI X ar u) (aB:(assignEach (e::ar) X.env).map (·.2)=assign e X.env::(assignEach ar X.env).map (·.2):=by rfl):vI X (e::ar) (su t u) :=
 #[aeV ah.o ai.o aB]
theorem Dd {i:Nat} {x:Str} {e:Expr} {bp:TE} (dx:X.N.Nodup) (ax:X.N[i]?=some x) (aj:Loc X.env.scope x) (he:bO X e bp) (aB:swapsWith e (some (.Name x pos')) pos.line X.env=pure false:=by rfl) (hf:X.fn x=true\/X.env.scope.names.lookup x=some .local:=by first | exact .inl rfl | exact .inr rfl | assumption):h3 X (.Assign [.Name x pos'] e pos) (lQ bp (gx i)) :=
 #[ab3 dx ax aj he.o aB hf]
theorem pN {bk e:Expr} {bp:TE} (he:bO X e bp) (aS:mY X bk g) (aB:swapsWithSole [bk] e pos.line X.env=pure false:=by rfl) (hw:swappedStores [bk] e X.env=pure none:=by rfl) (ah:(assignEach [bk] X.env).map (·.2)=[assign bk X.env]:=by rfl):h3 X (.Assign [bk] e pos) (lQ bp g) :=
 #[abZ he.o aS.o aB hw ah]
theorem bE {e:Expr} (he:bO X e bp):h3 X (.Return (some e) pos) (PG bp) :=
 #[ab2 he.o]
theorem gi {e:Expr} (he:bO X e bp) (aB:swapsWith e none pos.line X.env=pure false:=by rfl):h3 X (.Expr e pos) (P7 bp) :=
 #[ac6 he.o aB]
theorem cN {c:Expr} {a b:List Stmt} {c7:TT} (ak:l7 X c c7) (ay:jg X a t) (ae:jg X b u):h3 X (.If c a b pos) (PC c7 t u) :=
 #[aa1 ak.o ay.o ae.o]
theorem u1 {c:Expr} {c7:TT} {bz:de} (aw:PassesOwn (model X.prog X.w) X.A X.env X.c3) (ak:l7 X c c7) (ae:jg X body bz):h3 X (.While c body [] pos) (Iv c7 bz) :=
 #[ae0 aw ak.o ae.o]
theorem hu {bz:de} {pos:Pos} (aw:PassesOwn (model X.prog X.w) X.A X.env X.c3) (ak:X.warm=true) (ax:lr X bk iter gr) (aS:mY X bk g) (ae:jg X body bz) (aB : ∀ x,foldedSetIterable iter X.env x=pure x:=by intro _;rfl):h3 X (.For bk iter body [] pos) (PB gr g bz) :=
 #[ab1 aw ak ax.o aS.o ae.o aB]
theorem cB  : jg X [] P_ :=
 #[ac8 ]
theorem aR {st:Stmt} (ah:h3 X st t):jg X [st] t :=
 #[ac9 ah.o]
theorem aN {rest:List Stmt} {st:Stmt} (ah:h3 X st t) (ai:jg X rest u):jg X (st::rest) (iS t u) :=
 #[ae1 ah.o ai.o]
theorem hN {X:aP}:Bm X [] mS :=
 #[ada ]
theorem Q_ {X:aP} {c:Expr} {t:TT} (ak:l7 X c t):Bm X [c] t :=
 #[adb ak.o]
theorem eD.pt {X:aP} {e:Expr} {t:TT} (h:eD X e t):l7 X e t :=
 #[oW.pt h.o]
theorem hz {X:aP} {bk:Expr} {pos:Pos} {N:bT} {c7:TT} {bp:TE}
  (C:sG X scope cl N js) (ak:X.warm=true) (ax:lr X bk iter gr)
  (aS : ∀ a_ pins s H,mY (mL X scope cl N a_ pins s H λ _ _=>False) bk g)
  (aU : ∀ a_ pins s H,Bm (mL X scope cl N a_ pins s H λ _ _=>False) cs c7)
  (he : ∀ a_ pins s H,bO (mL X scope cl N a_ pins s H λ _ _=>False) elt bp)
  (aB : ∀ x,foldedSetIterable iter X.env x=pure x:=by intro _;rfl):bO X (.ListComp elt [#[bk,iter,cs,0]] scope pos) (wB js gr g c7 bp) :=
 #[acV C ak ax.o (λ a b c d=>(aS a b c d).o) (λ a b c d=>(aU a b c d).o) (λ a b c d=>(he a b c d).o) aB]
theorem je.en {w:World} {x:Str} {st:Stmt} {f:Addr} {fd:FuncData} {N ag:bT} {k:Nat} {sp:b3} (F:je K x qual st f fd) (S:cE N ag (bZ st)) (len : ∀ vs H Q E,sp vs H Q E->vs.length=ag.length)
  (ou : ∀ (bg:Value) (A:Around) (outer:List Env) (s:Shared) (H:az) (vs:bl) (Q:bG) (E:dA),er k (A.deeper (envOfC qual (bZ st) s.heap.objs.size f bg))->sp vs H Q E ->
   ∃ t,jg (k6 cS P w K mg base N qual (bZ st) f bg A outer s H E).za (jB st) t/\t { bu:=λ _ H'=>Q .bh H',kG:=Q } (start N vs) H):eo P w K mg base cS (k+1) f fd ag sp :=
 F.ok S len λ bg A outer s H vs Q E aq h=>let ⟨t,a,b⟩:=ou bg A outer s H vs Q E aq h;⟨t,a.o,b⟩
end bM
namespace cJ
open PySem bM
theorem aiE {ax:Option Int} (ah:d_.cU xs.length 0 lo=0) (ai:d_.cU xs.length xs.length ax=xs.length):mB xs lo ax=xs:=by
 unfold mB;rw [ah,ai,List.drop_zero,Nat.sub_zero,sV]
theorem agF {a:Addr} {ax:Option Int} {Q:bG} (ay:H a=some (.tup xs)) (q : ∀ p H',aE H H'->H' p=some (.tup (mB xs lo ax))->Q (.ref p) H') :
  HP K (.ref a) lo ax H Q\/HQ K (.ref a) lo ax H Q:=by
 by_cases e:d_.cU xs.length 0 lo=0/\d_.cU xs.length xs.length ax=xs.length
 ·exact .inr #[a,xs,rfl,a0.of ay,e.1,e.2,q a H (aE.refl H) (by rw [aiE e.1 e.2];exact ay)]
 ·exact .inl #[a,xs,rfl,a0.of ay,e,λ p aw=>q p _ (aE.new aw) bL]
theorem acs {a b:Addr} {Q:bG} (ay:H a=some (.tup xs)) (ae:H b=some (.tup ys)) (av:xs.length+ys.length<=sizeLine) (q : ∀ p H',aE H H'->H' p=some (.tup (xs++ys))->Q (.ref p) H') :
  H6 K (.ref a) (.ref b) H Q\/H7 K (.ref a) (.ref b) H Q:=by
 by_cases e:xs=[]
 ·subst e;exact .inl #[a,b,ys,rfl,rfl,a0.of ay,a0.of ae,q b H (aE.refl H) ae]
 ·refine .inr #[a,b,xs,ys,rfl,rfl,a0.of ay,a0.of ae,e,av,λ z=>?_,λ z p aw=>q p _ (aE.new aw) bL];subst z;exact q a H (aE.refl H) (by rw [wG];exact ay)
end cJ
namespace bM
open PySem PySem.Spec PyProof.Rows
theorem dC.imp {X:aP} {f:Value->Value->Sem Value} {r bP:fy} (h:dC X f r) (i : ∀ x y H Q,bP x y H Q->r x y H Q):dC X f bP:=λ pins s σ H x y v u Q I a5 bt z=>h pins s σ H x y v u Q I a5 bt (i x y H Q z)
theorem gf.imp {X:aP} {f:Value} {r bP:bl->az->bG->Prop} (h:gf X f r) (i : ∀ xs H Q,bP xs H Q->r xs H Q):gf X f bP:=λ pins s σ H xs us Q I a5 z=>h pins s σ H xs us Q I a5 (i xs H Q z)
theorem lE.imp {X:aP} {r bP:V->Option Int->Option Int->az->bG->Prop} (h:lE X r) (i : ∀ x lo ax H Q,bP x lo ax H Q->r x lo ax H Q):lE X bP:=λ pins s σ H x v hG hH lo ax cR Q I a5 a b c z=>h pins s σ H x v hG hH lo ax cR Q I a5 a b c (i x lo ax H Q z)
theorem qj.imp {X:aP} {id:String} {r bP:V->bl->az->bG->Prop} (h:qj X id r) (i : ∀ x xs H Q,bP x xs H Q->r x xs H Q):qj X id bP:=λ pins s σ H x xs v us Q I a5 rs z=>h pins s σ H x xs v us Q I a5 rs (i x xs H Q z)
noncomputable def kY (o:e6) (H:az) (Q:bG):Prop := ∀ p H',H p=none->aE H H'->H' p=some o->Q (.ref p) H'
theorem kY.at {Q:bG} (q:kY o H Q) : ∀ p,H p=none->Q (.ref p) (upd H p o):=λ p aw=>q p _ aw (cJ.aE.new aw) bL
noncomputable def lV (t:dc):TE:=λ σ H Q=>t σ H λ xs H1=>xs.length<=sizeLine/\kY (.tup xs) H1 Q
noncomputable def q0 (t:dc):TE:=λ σ H Q=>t σ H λ xs H1=>xs.length<=sizeLine/\kY (.lst xs) H1 Q
noncomputable def Dh:TE:=λ _ H Q=>kY (.bF []) H Q
section
variable {X:aP}
theorem dh {ar:List Expr} {t:dc} {gs} {pos:Pos} (h:fL X ar t):bO X (.Tuple ar gs pos) (lV t):=#[by
 intro pins s σ H Q I aZ;refine wpAny_Tuple_spliced (bq (h.o pos pins s σ H _ I aZ) ?_);rintro us s1 ⟨xs,H1,aK,r,z,q⟩;refine #[by rw [<-r.length];exact z,?_];have hf:H1 s1.heap.objs.size=none:=aK.a7.fresh (b9 _);refine #[.ref s1.heap.objs.size,upd H1 s1.heap.objs.size (.tup xs),aK.laid (t':=s1.toks) (λ b u e=>bK _ e) (b9 _) ?_,rfl,q.at _ hf];exact #[z,us,r,#[_,d6 _ rfl,rfl,#[_,rfl],rfl]]]
theorem eK {ar:List Expr} {t:dc} {pos:Pos} (h:fL X ar t):bO X (.List ar pos) (q0 t):=#[by
 intro pins s σ H Q I aZ;refine wpAny_List_spliced (bq (h.o pos pins s σ H _ I aZ) ?_);rintro us s1 ⟨xs,H1,aK,r,z,q⟩;refine #[by rw [<-r.length];exact z,?_];have hf:H1 s1.heap.objs.size=none:=aK.a7.fresh (b9 _);refine #[.ref s1.heap.objs.size,upd H1 s1.heap.objs.size (.lst xs),aK.laid (t':=s1.toks) (λ b u e=>bK _ e) (b9 _) ?_,rfl,q.at _ hf];exact #[z,us,0,r,d6 _ rfl]]
theorem w4 {pos:Pos}:bO X (.Dict [] [] pos) Dh:=#[λ pins s σ H Q I h=>Q3 pins s σ H Q I (kY.at h)]
noncomputable def Qt:fy:=λ x y H Q => ∃ l b xs zs,x=.ref l/\y=.ref b/\H l=some (.lst xs)/\H b=some (.lst zs)/\xs.length+zs.length<=sizeLine/\kY (.lst (xs++zs)) H Q
theorem Ao:dC X (binaryOp .Add) Qt:=abG.imp (by rintro x y H Q ⟨l,b,xs,zs,aM,aO,ah,ai,aH,q⟩;exact #[l,b,xs,zs,aM,aO,ah,ai,aH,q.at])
noncomputable def De:fy:=λ x y H Q => ∃ l k xs,x=.ref l/\y=.int k/\H l=some (.tup xs)/\xs≠[]/\2<=k/\k<2 ^ 63/\xs.length * k.toNat<=sizeLine/\kY (.tup (List.replicate k.toNat xs).flatten) H Q
theorem rr:dC X (binaryOp .Mult) De:=acQ.imp (by rintro x y H Q ⟨l,k,xs,aM,aO,ah,ai,aH,a4,b4,q⟩;exact #[l,k,xs,aM,aO,ah,ai,aH,a4,b4,q.at])
noncomputable def ab_:fy:=λ x y H Q => ∃ l k xs,x=.ref l/\y=.int k/\H l=some (.lst xs) /\ -(2 ^ 63)<=k/\k<2 ^ 63/\xs.length * k.toNat<=sizeLine/\kY (.lst (List.replicate k.toNat xs).flatten) H Q
theorem RK:dC X (binaryOp .Mult) ab_:=Qm.imp (by rintro x y H Q ⟨l,k,xs,aM,aO,ah,ai,aH,a4,q⟩;exact #[l,k,xs,aM,aO,ah,ai,aH,a4,q.at])
theorem ai8:gf X (.type "list") (λ xs H Q => ∃ p ys,xs=[.ref p]/\(a9 X.K H p ys\/a0 X.K H p ys)/\kY (.lst ys) H Q):=aiC.imp (by rintro xs H Q ⟨p,ys,e,h,q⟩;exact #[p,ys,e,h,q.at])
theorem va:gf X (.type "tuple") (λ xs H Q => ∃ p ys,xs=[.ref p]/\a9 X.K H p ys/\kY (.tup ys) H Q):=xm.imp (by rintro xs H Q ⟨p,ys,e,h,q⟩;exact #[p,ys,e,.inl #[h,q.at]])
noncomputable def wk:V->Option Int->Option Int->az->bG->Prop:=λ x lo ax H Q => ∃ a xs,x=.ref a/\H a=some (.tup xs) /\ ∀ p H',aE H H'->H' p=some (.tup (mB xs lo ax))->Q (.ref p) H'
theorem zI:lE X wk:=Rc.imp λ x lo ax H Q ⟨a,xs,e,h,q⟩=>by subst e;exact cJ.agF h q
noncomputable def wL:fy:=λ x y H Q => ∃ a b xs ys,x=.ref a/\y=.ref b/\H a=some (.tup xs)/\H b=some (.tup ys)/\xs.length+ys.length<=sizeLine /\ ∀ p H',aE H H'->H' p=some (.tup (xs++ys))->Q (.ref p) H'
theorem rq:dC X (binaryOp .Add) wL:=acN.imp λ x y H Q ⟨a,b,xs,ys,aM,aO,ah,ai,aH,q⟩=>by subst aM;subst aO;exact cJ.acs ah ai aH q
noncomputable def ae_:V->bl->az->bG->Prop:=λ x vs H Q => ∃ l xs y,x=.ref l/\vs=[y]/\H l=some (.lst xs)/\xs.length<sizeLine /\ ∀ H',cJ.bN l H H'->H' l=some (.lst (xs++[y]))->Q .bh H'
theorem pY:qj X "list.append" ae_:=D4.imp (by rintro x vs H Q ⟨l,xs,y,aM,aO,ah,ai,q⟩;exact #[l,xs,y,aM,aO,ah,ai,q _ cJ.bN.upd bL])
end
end bM
namespace cJ
open PySem bM
noncomputable def kX (H H':az):Prop := ∀ b o,H b=some o->H' b=some o \/ ∃ xs ys,o=.lst xs/\H' b=some (.lst ys)
theorem kX.of (s:aE H H'):kX H H':=λ b o h=>.inl (s b o h)
theorem kX.tup (k:kX H H') {b:Addr} (h:H b=some (.tup xs)):H' b=some (.tup xs):=by
 rcases k b _ h with z | ⟨_,_,e,_⟩
 ·exact z
 ·cases e
theorem kX.kind (s:kX H H') {v:V} (k:dV H v):dV H' v:=by
 cases v with
 | ref a =>
  rcases (show (∃ xs,H a=some (.tup xs))\/(∃ xs,H a=some (.lst xs))\/(∃ kvs,H a=some (.bF kvs)) from k) with ⟨xs,e⟩ | ⟨xs,e⟩ | ⟨kvs,e⟩
  ·exact .inl #[xs,s.tup e]
  ·rcases s _ _ e with z | ⟨_,ys,_,z⟩
   ·exact .inr (.inl #[xs,z])
   ·exact .inr (.inl #[ys,z])
  ·rcases s _ _ e with z | ⟨_,ys,w,z⟩
   ·exact .inr (.inr #[kvs,z])
   ·cases w
 | bh=>trivial
 | aX b=>trivial
 | int i=>trivial
 | str x=>trivial
 | jK b=>exact False.elim k
 | ip b=>exact False.elim k
 | ty b=>exact False.elim k
theorem kX.dR (s:kX H H') {v:V} (k:dV H v):cJ.dR H' v=cJ.dR H v:=by
 cases v with
 | ref a =>
  rcases (show (∃ xs,H a=some (.tup xs))\/(∃ xs,H a=some (.lst xs))\/(∃ kvs,H a=some (.bF kvs)) from k) with ⟨xs,e⟩ | ⟨xs,e⟩ | ⟨kvs,e⟩
  ·show jV (H' a)=jV (H a);rw [s.tup e,e]
  ·show jV (H' a)=jV (H a);rcases s _ _ e with z | ⟨_,ys,_,z⟩<;>rw [z,e]<;>rfl
  ·show jV (H' a)=jV (H a);rcases s _ _ e with z | ⟨_,ys,w,z⟩
   ·rw [z,e]
   ·cases w
 | _=>rfl
noncomputable def dg (H:az) (v:V):Prop:=dV H v /\ ∀ xs,dR H v=some xs->xs.length<=1000 /\ ∀ x∈xs,dV H x
noncomputable def kW (H:az) (v:V):Prop:=dV H v /\ ∀ xs,dR H v=some xs->xs.length<=1000 /\ ∀ x∈xs,dg H x
theorem kX.dg (s:kX H H') {v:V} (k:cJ.dg H v):cJ.dg H' v:=by
 obtain ⟨k,bf⟩:=k;refine #[s.kind k,λ xs e=>?_];rw [s.dR k] at e;obtain ⟨l,m⟩:=bf xs e;exact #[l,λ x aj=>s.kind (m x aj)]
theorem kX.kW (s:kX H H') {v:V} (k:cJ.kW H v):cJ.kW H' v:=by
 obtain ⟨k,bf⟩:=k;refine #[s.kind k,λ xs e=>?_];rw [s.dR k] at e;obtain ⟨l,m⟩:=bf xs e;exact #[l,λ x aj=>s.dg (m x aj)]
section
variable {p:Addr}
theorem Jg (h:H p=some (.tup xs)):dV H (.ref p):=.inl #[xs,h]
theorem Jf (h:H p=some (.lst xs)):dV H (.ref p):=.inr (.inl #[xs,h])
theorem lh (h:H p=some (.tup xs)) (l:xs.length<=1000) (m : ∀ x∈xs,dV H x):dg H (.ref p):=#[Jg h,λ ys e=>by rw [kx h] at e;cases e;exact #[l,m]]
theorem DN (h:H p=some (.tup xs)) (l:xs.length<=1000) (m : ∀ x∈xs,dg H x):kW H (.ref p):=#[Jg h,λ ys e=>by rw [kx h] at e;cases e;exact #[l,m]]
theorem IY (h:H p=some (.lst xs)):dR H (.ref p)=none:=by show jV (H p)=none;rw [h];rfl
theorem abt {kvs:List (Key×V)} (h:H p=some (.bF kvs)):dR H (.ref p)=none:=by show jV (H p)=none;rw [h];rfl
theorem Dj {v:V} (k:dV H v) (h:dR H v=none):dg H v:=#[k,λ ys e=>by rw [h] at e;cases e]
theorem adK (h:H p=some (.lst xs)):dg H (.ref p):=Dj (Jf h) (IY h)
theorem adJ (i:Int):dg H (.int i):=Dj trivial rfl
theorem adL:dg H .bh:=Dj trivial rfl
theorem all2 {α: Type} {p: α -> Prop} {x y: α} (a:p x) (b:p y) : ∀ z∈[x,y],p z:=oH.mpr #[a,oH.mpr #[b,gU _]]
end
end cJ
namespace bM
open PySem PySem.Spec PyProof.Rows
section
variable {κ: Type} [DecidableEq κ]
noncomputable def dU (kvs:List (κ × V)) (k : κ):dG:=(kvs.find? λ eF=>decide (eF.1=k)).map (·.2)
noncomputable def putK (kvs:List (κ × V)) (k : κ) (v:V):List (κ × V) :=
 if (kvs.any λ eF=>decide (eF.1=k))=true then kvs.map (λ eF=>if eF.1=k then (eF.1,v) else eF) else kvs++[(k,v)]
noncomputable def qW (kvs:List (κ × V)) (k : κ):List (κ × V):=kvs.filter λ eF=>decide (eF.1≠k)
theorem DY {p: κ × V} {r:List (κ × V)} {k: κ} (e:p.1=k):dU (p::r) k=some p.2:=by simp [dU,uP,e]
theorem Aq {p: κ × V} {r:List (κ × V)} {k: κ} (e : ¬ p.1=k):dU (p::r) k=dU r k:=by simp [dU,uP,e]
theorem R2 (k : κ) : ∀ kvs:List (κ × V),(kvs.any λ eF=>decide (eF.1=k))=(dU kvs k).isSome
 | []=>rfl
 | p::r=>by
  rw [List.any_cons];by_cases e:p.1=k
  ·simp only [DY e,cc e,Bool.true_or,Option.isSome_some]
  ·rw [Aq e,dN e,Bool.false_or];exact R2 k r
theorem Tn (kvs:List (κ × V)) (k : κ) (v:V):(putK kvs k v).length<=kvs.length+1:=by
 unfold putK;split
 ·rw [bY];omega
 ·rw [fm,j1,List.length_nil];omega
theorem iw.JI {o:dG} {u:c0} (r:iw o u):o.isSome=u.isSome:=by
 cases o with
 | none=>cases u with
  | none=>rfl
  | some _=>exact (show False from r).elim
 | some _=>cases u with
  | none=>exact (show False from r).elim
  | some _=>rfl
theorem iw.getD {o:dG} {u:c0} {d:V} {d':Value} (r:iw o u) (cY:RelV d d'):RelV (o.getD d) (u.getD d'):=by
 cases o with
 | none=>cases u with
  | none=>exact cY
  | some _=>exact (show False from r).elim
 | some _=>cases u with
  | none=>exact (show False from r).elim
  | some _=>exact r
theorem gF.val {kvs:List (κ × V)} {vs:List (κ × Value)} (r:gF kvs vs) (k : κ):iw (dU kvs k) (valueAt vs k):=by
 unfold gF at r
 induction r with
 | nil=>exact True.intro
 | @cons p q ag nX h t cQ =>
  obtain ⟨ah,ai⟩:=h;by_cases e:p.1=k
  ·have c2:q.1=k:=ah.symm.trans e;have b:valueAt (q::nX) k=some q.2:=by simp [valueAt,uP,c2]
   rw [DY e,b];exact ai
  ·have c2 : ¬ q.1=k:=λ z=>e (ah.trans z)
   have b:valueAt (q::nX) k=valueAt nX k:=by simp [valueAt,uP,c2]
   rw [Aq e,b];exact cQ
theorem gF.any {kvs:List (κ × V)} {vs:List (κ × Value)} (r:gF kvs vs) (k : κ):(kvs.any λ eF=>decide (eF.1=k))=vs.any λ eF=>decide (eF.1=k):=by
 unfold gF at r
 induction r with
 | nil=>rfl
 | cons h t cQ=>rw [List.any_cons,List.any_cons,cQ,h.1]
theorem gF.um {kvs:List (κ × V)} {vs:List (κ × Value)} (r:gF kvs vs) (k : κ) {u:Value} (bt:RelV y u) :
  gF (kvs.map λ eF=>if eF.1=k then (eF.1,y) else eF) (vs.map λ eF=>if eF.1=k then (eF.1,u) else eF):=by
 unfold gF at r ⊢
 induction r with
 | nil=>exact .nil
 | @cons p q ag nX h t cQ =>
  rw [iZ,iZ];refine .cons ?_ cQ;obtain ⟨ah,ai⟩:=h;by_cases e:p.1=k
  ·rw [if_pos e,if_pos (ah.symm.trans e)];exact #[ah,bt]
  ·rw [if_neg e,if_neg (λ z=>e (ah.trans z))];exact #[ah,ai]
theorem gF.put {kvs:List (κ × V)} {vs:List (κ × Value)} (r:gF kvs vs) (k : κ) {u:Value} (bt:RelV y u):gF (putK kvs k y) (stored vs k u):=by
 unfold putK stored;rw [r.any k];by_cases e:(vs.any λ eF=>decide (eF.1=k))=true
 ·rw [if_pos e,if_pos e];exact r.um k bt
 ·rw [if_neg e,if_neg e];exact Paired.snoc r #[rfl,bt]
theorem gF.drop {kvs:List (κ × V)} {vs:List (κ × Value)} (r:gF kvs vs) (k : κ):gF (qW kvs k) (without vs k):=by
 unfold gF at r ⊢;unfold qW without
 induction r with
 | nil=>exact .nil
 | @cons p q ag nX h t cQ =>
  obtain ⟨ah,ai⟩:=h;rw [List.filter_cons,List.filter_cons];by_cases e:p.1=k
  ·have a : ¬ decide (p.1≠k)=true:=by simp [e]
   have b : ¬ decide (q.1≠k)=true:=by simp [ah.symm.trans e]
   rw [if_neg a,if_neg b];exact cQ
  ·have c2 : ¬ q.1=k:=λ z=>e (ah.trans z)
   have a:decide (p.1≠k)=true:=by simp [e]
   have b:decide (q.1≠k)=true:=by simp [c2]
   rw [if_pos a,if_pos b];exact .cons #[ah,ai] cQ
theorem gF.keys {kvs:List (κ × V)} {vs:List (κ × Value)} (r:gF kvs vs):kvs.map (·.1)=vs.map (·.1):=by
 unfold gF at r
 induction r with
 | nil=>rfl
 | cons h t cQ=>rw [iZ,iZ,cQ,h.1]
theorem gF.length {kvs:List (κ × V)} {vs:List (κ × Value)} (r:gF kvs vs):kvs.length=vs.length:=Paired.length r
theorem ad5 (kvs:List (κ × V)) (k : κ):(qW kvs k).length<=kvs.length:=List.length_filter_le _ _
end
theorem zS {w:World} {k:Key} {u:Value} (r:RelV (cX k) u):(ic P w).is k u=true:=by
 cases k with
 | inl i=>obtain ⟨t,e⟩:=(show ∃ t,u=Value.int i t from r);subst e;exact aio P w i t
 | inr x=>obtain ⟨t,e⟩:=(show ∃ t,u=Value.str x t from r);subst e;exact Tq P w x t
theorem Sv {w:World} : ∀ {f5:List Key} {us:List Value},Vals (f5.map cX) us->ItemsAre (ic P w) f5 us
 | [],_,r=>by rw [List.map_nil] at r;cases r;exact .nil
 | k::f5,_,r=>by
  rw [iZ] at r;cases r with
  | cons h t=>exact .cons (zS h) (Sv t)
noncomputable abbrev KT (H:az):List (List Key×V)->List (List Key×Addr×Value)->Prop:=Paired λ p q=>p.1=q.1/\H q.2.1=some (.tup (p.1.map cX))/\RelV p.2 q.2.2
theorem KT.val {kvs:List (List Key×V)} {xs:List (List Key×Addr×Value)} (r:KT H kvs xs) (k:List Key):iw (dU kvs k) ((atKey xs k).map (·.2)):=by
 induction r with
 | nil=>exact True.intro
 | @cons p q ag nX h t cQ =>
  obtain ⟨ah,_,ai⟩:=h;by_cases e:p.1=k
  ·have c2:q.1=k:=ah.symm.trans e;have b:atKey (q::nX) k=some q.2:=by simp [atKey,uP,c2]
   rw [DY e,b];exact ai
  ·have c2 : ¬ q.1=k:=λ z=>e (ah.trans z)
   have b:atKey (q::nX) k=atKey nX k:=by simp [atKey,uP,c2]
   rw [Aq e,b];exact cQ
theorem KT.um {kvs:List (List Key×V)} {xs:List (List Key×Addr×Value)} (r:KT H kvs xs) (k:List Key) {u:Value} (bt:RelV y u) :
  KT H (kvs.map λ eF=>if eF.1=k then (eF.1,y) else eF) (xs.map (putAt k u)):=by
 induction r with
 | nil=>exact .nil
 | @cons p q ag nX h t cQ =>
  rw [iZ,iZ];refine .cons ?_ cQ;obtain ⟨ah,ai,aH⟩:=h;unfold putAt;by_cases e:p.1=k
  ·rw [if_pos e,if_pos (ah.symm.trans e)];exact #[ah,ai,bt]
  ·rw [if_neg e,if_neg (λ z=>e (ah.trans z))];exact #[ah,ai,aH]
theorem KT.put {kvs:List (List Key×V)} {xs:List (List Key×Addr×Value)} (r:KT H kvs xs) (k:List Key) {b:Addr} {u:Value} (ae:H b=some (.tup (k.map cX))) (bt:RelV y u) :
  KT H (putK kvs k y) (storedH xs k b u):=by
 have e:(kvs.any λ eF=>decide (eF.1=k))=(atKey xs k).isSome:=by
  rw [R2,(r.val k).JI,Option.isSome_map]
 unfold putK storedH;rw [e];by_cases q:(atKey xs k).isSome=true
 ·rw [if_pos q,if_pos q];exact r.um k bt
 ·rw [if_neg q,if_neg q];exact Paired.snoc r #[rfl,ae,bt]
theorem KT.keeps {kvs:List (List Key×V)} {xs:List (List Key×Addr×Value)} (r:KT H kvs xs) (aU : ∀ b ys,H b=some (.tup ys)->H' b=some (.tup ys)):KT H' kvs xs :=
 Paired.HL r λ _ _ z=>#[z.1,aU _ _ z.2.1,z.2.2]
section
variable {w:World} {h:Heap} {a:Addr}
theorem P2 {u:e6} (ok:e5 P w H h) (e:dS H a u):et P w H h a u:=e.ok ok
theorem uq {kvs:List (Key×V)} (ok:e5 P w H h) (e:dS H a (.bF kvs)):kvs.length<=sizeLine/\(a == sysModules)=false /\ ∃ vs,gF kvs vs/\h.DictOf (ic P w) a vs :=
 show et P w H h a (.bF kvs) from P2 ok e
theorem zO {kvs:List (Key×V)} (ok:e5 P w H h) (e:H a=some (.bF kvs)):kvs.length<=sizeLine/\(a == sysModules)=false /\ ∃ vs,gF kvs vs/\h.DictOf (ic P w) a vs:=uq ok (.inl e)
theorem C_ {f5:List Key} (ok:e5 P w H h) (e:H a=some (.tup (f5.map cX))):(tupleKind (ic P w)).is h f5 a:=by
 obtain ⟨_,its,r,o,ah,ai,⟨n,aH⟩,_⟩:=(show et P w H h a (.tup (f5.map cX)) from ok a _ e)
 exact #[o,its.toArray,n,ah,ai,aH,by simpa using Sv r]
theorem CO {kvs:List (List Key×V)} (ok:e5 P w H h) (e:dS H a (.j4 kvs)):kvs.length<=sizeLine/\(a == sysModules)=false /\
  ∃ xs,KT H kvs xs/\h.DictOfH (tupleKind (ic P w)) a xs:=by
 obtain ⟨z,y,xs,r,o,ar,ep,ah,ai,aH,a4,b4⟩:=(show et P w H h a (.j4 kvs) from P2 ok e)
 refine #[z,y,xs,r,o,ar,ep,ah,ai,aH,a4,λ x aj=>?_,b4];have all : ∀ {l:List (List Key×V)} {m:List (List Key×Addr×Value)},KT H l m -> ∀ x∈m,(tupleKind (ic P w)).is h x.1 x.2.1:=by
  intro l m q
  induction q with
  | nil=>intro x aj;exact nomatch aj
  | @cons p q ag nX aZ t cQ =>
   intro x aj;rcases c1.mp aj with e | aj
   ·subst e;exact C_ ok (by rw [<-aZ.1];exact aZ.2.1)
   ·exact cQ x aj
 exact all r x aj
theorem aaH {kvs:List (List Key×V)} (ok:e5 P w H h) (e:H a=some (.j4 kvs)):kvs.length<=sizeLine/\(a == sysModules)=false /\
  ∃ xs,KT H kvs xs/\h.DictOfH (tupleKind (ic P w)) a xs:=CO ok (.inl e)
end
noncomputable def pq (H:az) (a:Addr) (y:V) (r:dG):Prop :=
 (∃ kvs k,dS H a (.bF kvs)/\y=cX k/\r=dU kvs k) \/ ∃ kvs k b,dS H a (.j4 kvs)/\y=.ref b/\H b=some (.tup (k.map cX))/\r=dU kvs k
noncomputable def Co (H:az) (a:Addr) (y v:V) (H':az):Prop :=
 (∃ kvs k,H a=some (.bF kvs)/\y=cX k/\kvs.length<sizeLine/\H'=upd H a (.bF (putK kvs k v))) \/
 ∃ kvs k b,H a=some (.j4 kvs)/\y=.ref b/\H b=some (.tup (k.map cX))/\kvs.length<sizeLine/\H'=upd H a (.j4 (putK kvs k v))
theorem pq.k {a:Addr} {kvs:List (Key×V)} {k:Key} (e:H a=some (.bF kvs)):pq H a (cX k) (dU kvs k):=.inl #[kvs,k,.inl e,rfl,rfl]
theorem Co.k {a:Addr} {kvs:List (Key×V)} {k:Key} {v:V} (e:H a=some (.bF kvs)) (av:kvs.length<sizeLine):Co H a (cX k) v (upd H a (.bF (putK kvs k v))):=.inl #[kvs,k,e,rfl,av,rfl]
section
variable {X:aP} {a:Addr} {v:V} {u r:Value} {o:dG} {E:b2}
theorem Inv.big (I:Inv X pins σ H s):sysModules<s.heap.objs.size:=by
 have h:mainGlobals<s.heap.objs.size:=(I.mod.glob.keeps I.aQ).lt;exact Nat.lt_trans .aA h
theorem So {Q:b2} (br:A.units+1<cLine) (I:Inv X pins σ H s) (g:pq H a y (some v)) (bt:RelV y u) (h : ∀ cV s',Inv X pins σ H s'->RelV v cV->Q cV s') :
  wpAny (model X.prog X.w) A (getItem (.ref a) u) Q E s:=by
 rcases g with ⟨kvs,k,e,eO,l⟩ | ⟨kvs,k,b,e,eO,eV,l⟩
 ·subst eO;obtain ⟨z,hd,vs,rel,dd⟩:=uq I.a7 e;obtain ⟨cV,hw,g7⟩:=iw.some_of (v:=v) (o:=valueAt vs k) (by rw [l];exact rel.val k);exact wpAny_getItem_of (zS bt) dd.mapOf hw (h cV _ (I.tok _) g7)
 ·subst eO;cases (show u=Value.ref b from bt);obtain ⟨z,hd,xs,rel,dd⟩:=CO I.a7 e;obtain ⟨cV,hw,g7⟩:=iw.some_of (v:=v) (o:=(atKey xs k).map (·.2)) (by rw [l];exact rel.val k);obtain ⟨p,aw,fk⟩:=ID.mp hw;refine wpAny_getItem_heap (IE br) (C_ I.a7 eV) dd aw ?_;rw [fk];exact h cV _ (I.tok _) g7
theorem QM {Q:b2} (br:A.units+1<cLine) (I:Inv X pins σ H s) (g:pq H a y o) (bt:RelV y u) (h : ∀ s',Inv X pins σ H s'->Q (.bool (!o.isSome)) s') :
  wpAny (model X.prog X.w) A (compareOp .NotIn u (.ref a)) Q E s:=by
 rcases g with ⟨kvs,k,e,eO,l⟩ | ⟨kvs,k,b,e,eO,eV,l⟩
 ·subst eO;obtain ⟨z,hd,vs,rel,dd⟩:=uq I.a7 e;refine wpAny_notIn_of (zS bt) hd dd.mapOf ?_;rw [<-(rel.val k).JI,<-l];exact h _ (I.tok _)
 ·subst eO;cases (show u=Value.ref b from bt);obtain ⟨z,hd,xs,rel,dd⟩:=CO I.a7 e;refine wpAny_notIn_heap (IE br) (C_ I.a7 eV) hd dd ?_;have q:=(rel.val k).JI;rw [Option.isSome_map] at q;rw [<-q,<-l];exact h _ (I.tok _)
theorem IU {b7:e6} (I:Inv X pins σ H s) (lz:x8 (H a)) (aB:Heap.SameBut a s.heap h') (he : ∃ q,h'.get? a=some q) (new:et X.prog X.w (upd H a b7) h' a b7) :
  Inv X pins σ (upd H a b7) { s with heap:=h',toks:=t' } :=
 I.write (x:=a) (e:=a) lz (.inl rfl) (λ b q ae z=>(aB.2 b ae).trans z) he new
theorem Ik {w:World} {kvs:List (Key×V)} {vs:List (Key×Value)} (z:kvs.length<=sizeLine) (hd:(a == sysModules)=false) (rel:gF kvs vs) (dd:h'.DictOf (ic P w) a vs) :
  et P w H' h' a (.bF kvs):=#[z,hd,vs,rel,dd]
theorem afO {Q:Unit->Shared->Prop} (br:A.units+1<cLine) (I:Inv X pins σ H s) (g:Co H a y v H') (bt:RelV y u) (cx:RelV v r) (h : ∀ s',Inv X pins σ H' s'->Q () s') :
  wpAny (model X.prog X.w) A (setItem (.ref a) u r) Q E s:=by
 rcases g with ⟨kvs,k,e,eO,l,m3⟩ | ⟨kvs,k,b,e,eO,eV,l,m3⟩
 ·subst eO m3;obtain ⟨z,hd,vs,rel,dd⟩:=zO I.a7 e;have a6:vs.length<=sizeLine:=by rw [<-rel.length];exact z
  have av:(putK kvs k v).length<=sizeLine:=by have:=Tn kvs k v;omega
  refine wpAny_setItem_pairs (hsz:=a6) (zS bt) dd λ h' nc aB=>h _ ?_
  have he : ∃ q,h'.get? a=some q:=let ⟨q,_,_,aZ,_⟩:=nc;⟨q,aZ⟩
  exact IU I (by rw [e];exact True.intro) aB he (Ik av hd (rel.put k cx) nc)
 ·subst eO m3;cases (show u=Value.ref b from bt);obtain ⟨z,hd,xs,rel,dd⟩:=aaH I.a7 e;have a6:xs.length<=sizeLine:=by rw [<-Paired.length rel];exact z
  have av:(putK kvs k v).length<=sizeLine:=by have:=Tn kvs k v;omega
  refine wpAny_setItem_heap (hsz:=a6) (IE br) (C_ I.a7 eV) dd λ h' nc aB=>h _ ?_
  obtain ⟨q,ar,ep,aZ,ai,aH,a4,_,b4⟩:=nc;refine IU I (by rw [e];exact True.intro) aB #[q,aZ] #[av,hd,_,(rel.put k eV cx).keeps λ c ys eg=>?_,q,ar,ep,aZ,ai,aH,a4,b4];rw [bj (cW eg e (λ z=>nomatch z))];exact eg
end
section
variable {X:aP} {a:Addr} {kvs:List (Key×V)} {k:Key} {u:Value} {E:b2}
theorem aaG {v:V} {more:List Value} {Q:b2} (I:Inv X pins σ H s) (e:H a=some (.bF kvs)) (bt:RelV (cX k) u) (l:dU kvs k=some v) (hm:more=[] \/ ∃ x,more=[x])
  (h : ∀ cV s',Inv X pins σ (upd H a (.bF (qW kvs k))) s'->RelV v cV->Q cV s'):wpAny (model X.prog X.w) A (call (.builtin "dict.pop") (.ref a::u::more)) Q E s:=by
 obtain ⟨z,hd,vs,rel,dd⟩:=zO I.a7 e;obtain ⟨cV,hw,g7⟩:=iw.some_of (v:=v) (o:=valueAt vs k) (by rw [<-l];exact rel.val k);have aw:(keyPart u).isSome=true:=by
  cases k with
  | inl i=>obtain ⟨t,q⟩:=(show ∃ t,u=Value.int i t from bt);subst q;rfl
  | inr x=>obtain ⟨t,q⟩:=(show ∃ t,u=Value.str x t from bt);subst q;rfl
 have ay:argsOk "dict.pop" ⟨.ref a::u::more,[]⟩:=by
  rcases hm with q | ⟨x,q⟩
  ·subst q;exact PySem.F.args_dict_pop_2 _ _
  ·subst q;exact PySem.F.args_dict_pop_3 _ _ _
 refine call_meetsIn IF dd.typeIs PySem.F.entry_dict_pop ay (meets_dict_pop_there (ic X.prog X.w) a (zS bt) more hm aw)
  #[vs,cV,dd,by rw [<-rel.length];exact z,hw,λ h' nc aB=>h cV _ ?_ g7]
 have he : ∃ q,h'.get? a=some q:=let ⟨q,_,_,aZ,_⟩:=nc;⟨q,aZ⟩
 exact IU I (by rw [e];exact True.intro) aB he (Ik (fl (ad5 kvs k) z) hd (rel.drop k) nc)
theorem PJ {Q:b2} (I:Inv X pins σ H s) (e:dS H a (.bF kvs)) (h : ∀ t s',Inv X pins σ H s'->Q (.int kvs.length t) s'):wpAny (model X.prog X.w) A (call (.builtin "len") [.ref a]) Q E s:=by
 obtain ⟨z,hd,vs,rel,dd⟩:=uq I.a7 e;refine call_len_dict hd dd (by rw [<-rel.length];rw [ef] at z;omega) ?_;rw [<-rel.length];exact h _ _ (I.tok _)
end
noncomputable def Hq (i:Expr):Prop := ∀ df ed,subscripted i false df ed=operate [df,ed] (getItem df ed)
theorem Rf {w:World} {E:b2} {env:Env} {slice:Expr} {pos:Pos} {T id:String} {Q:b2}
  (av:typeLookup (.type T) "__getitem__" = pure (some (.builtin id))) (aB:Hq slice)
  (h:wpAny (model prog w) A (eval value env) (λ o s₁=>wpAny (model prog w) A (eval slice env) (λ i s₂=>s₂.TypeIs o T/\wpAny (model prog w) A (getItem o i) Q E s₂) E s₁) E s) :
  wpAny (model prog w) A (eval (.Subscript value slice pos) env) Q E s:=by
 refine Subscript_ (hb h (λ o s₁ h₁=>hb h₁ (λ i s₂ h₂=>?_) λ _ _ x=>x) λ _ _ x=>x);obtain ⟨b0,h₂⟩:=h₂;unfold subscriptTail;refine aC ?_;rw [getitemInPython_of_ne b0.not_modules];refine aC (wpAny_specialOf b0 av ?_);have fin:wpAny (model prog w) A (subscripted slice false o i) (λ r s₃=>wpAny (model prog w) A (letTemporaryGo value o r>>=λ _=>pure r) Q E s₃) E s₂:=by
  rw [aB o i];exact wpAny_operating (hb h₂ (λ r s₃ h₃=>aC (wpAny_letTemporaryGo (bH h₃))) λ _ _ x=>x)
 first
  | exact bH (aC fin)
  | exact aC (bH (aC fin))
  | exact aC fin
theorem Th {X:aP} {a:Addr} {o:dG} (I:Inv X pins σ H s) (g:pq H a y o):s.TypeIs (.ref a) "dict" := by
 rcases g with ⟨kvs,k,e,_,_⟩ | ⟨kvs,k,b,e,_,_,_⟩
 ·obtain ⟨_,_,vs,_,dd⟩:=uq I.a7 e;exact dd.typeIs
 ·obtain ⟨_,_,xs,_,dd⟩:=CO I.a7 e;exact dd.typeIs
theorem DU {X:aP} {st:Stmt}:h3 X st Qw:=#[aeY]
noncomputable def x6 (a:Addr):h2 :=
 #[λ i H => ∃ xs x,H a=some (.lst xs)/\xs[i]?=some x,
 λ i H v H' => ∃ p,H p=none/\v=.ref p /\ ∃ x,H'=upd H p (.tup [.int (i:Int),x]) /\ ∀ xs,H a=some (.lst xs)->xs[i]?=some x,
 λ i H => ∃ xs,H a=some (.lst xs)/\xs.length<=i]
theorem ag0 {w:World} {bk:Expr} (h8:oN bk=true) {e a:Addr} (fC:e≠it) :
  Turn P w K EI bk (x6 a) [e,it] e (λ i h=>(∃ old,IsEnum h e it (i:Int) old)/\h.IsListIter it a i) where
 mem:=gS
 obj:=λ i h st c ak=>by
  obtain ⟨⟨old,ah⟩,⟨rO,a4,_,i_⟩⟩:=st;have qD : ∀ {o:Obj} {vs:cZ},o.data=.fields vs -> ∀ v,o.data≠.cell v:=λ e v q=>by rw [e] at q;cases q
  simp only [c1,fR,fS] at ak;rcases ak with rfl | rfl
  ·exact #[_,ah,qD rfl]
  ·exact #[_,a4,qD i_]
 keep:=λ i h h' st k=>by
  obtain ⟨⟨old,ah⟩,⟨rO,a4,j8⟩⟩:=st;exact #[#[old,k _ .zs _ ah],#[rO,k _ .zs _ a4,j8]]
 item:=by
  intro X dY hw eW mv ak i pins s σ H E I hf st aS;subst dY hw eW;obtain ⟨⟨old,ah⟩,a4⟩:=st;obtain ⟨xs,x,dn,aj⟩:=aS;obtain ⟨z,its,n,cx,hlen,bX⟩:=I.oo dn;obtain ⟨m7,yg,zf⟩:=cx.get aj;refine wpAny_pyNext_enum_item ah a4 (show s.heap.IsList a its.toArray from #[_,bX,rfl,n,rfl]) (x:=m7) (by simpa using yg) fC λ g e4 dK gG fo dX=>?_
  refine #[_,rfl,?_];have elt:e<s.heap.objs.size:=cu ah;cases bk with
  | Tuple ar dF pp =>
   refine wpAny_letOwnedTupleGo_enum e4 λ g' gn d4=>?_
   have new:g'.get? s.heap.objs.size=some { cls:=.type "tuple", data:=.seq [.int i s.toks,m7].toArray }:=d4.extBut _ _ (jw elt) gG;have aK:Inv X pins σ (upd H s.heap.objs.size (.tup [.int (i:Int),x])) { s with heap:=g',toks:=s.toks+1 }:=by
    refine I.J0 (t':=s.toks+1) (L:=[e,it]) (λ c o e9 fz=>?_) hf (b9 _) #[by show 2<=sizeLine;decide,[.int i s.toks,m7],.cons #[_,rfl] (.cons zf .nil),#[_,new,rfl,#[0,rfl],rfl]];simp only [c1,fR,fS,not_or] at e9;exact d4.extBut c o e9.1 (dX c o e9.1 e9.2 fz)
   refine #[.ref s.heap.objs.size,_,aK,rfl,#[_,I.fresh,rfl,x,rfl,λ OJ bb=>?_],#[#[m7,?_],dK.extBut d4.extBut fC.symm],λ c eH=>?_]
   ·rw [dn] at bb;cases bb;exact aj
   ·rw [show ((i+1:Nat):Int)=(i:Int)+1 by omega];exact gn
   ·obtain ⟨o,fz⟩ : ∃ o,s.heap.get? c=some o:=by
     simp only [c1,fR,fS] at eH;rcases eH with rfl | rfl
     ·exact #[_,ah]
     ·obtain ⟨rO,kD,_⟩:=a4;exact #[_,kD]
    rw [bj (d3 (cu fz))];exact (hf c eH).1
  | _=>exact absurd (show false=true from h8) g9
 done:=by
  intro X dY hw eW mv ak i pins s σ H E I hf st aS;subst dY hw eW;obtain ⟨⟨old,ah⟩,a4⟩:=st;obtain ⟨xs,dn,av⟩:=aS;obtain ⟨z,its,n,cx,hlen,bX⟩:=I.oo dn;refine gE.ad6 (I.kP ak) ah a4 (show s.heap.IsList a its.toArray from #[_,bX,rfl,n,rfl]) (by simp;omega) λ g up=>#[rfl,?_]
  refine I.I9 (t':=s.toks) (L:=[e,it]) (λ c o e9 fz=>?_) hf;simp only [c1,fR,fS,not_or] at e9;exact up c o e9.2 fz
 self:=λ _ _ _ _ _ st h=>by
  obtain ⟨⟨old,ah⟩,_⟩:=st;exact wpAny_pyIter_enum ah h
section
variable {X:aP} {bk:Expr}
noncomputable def PU (a3:dc):TI:=λ σ H R=>a3 σ H λ vs H1 => ∃ a xs,vs=[.ref a]/\H1 a=some (.lst xs)/\R (x6 a) H1
theorem ac0 {a3:dc} {p pos:Pos} (h8:oN bk=true) (aS:dW X "enumerate") (hm:X.mg "enumerate" = none) (ay:iF X [aM] a3) (aB:starEach [aM] X.env=[(false,eval aM X.env)]:=by rfl)
  (ae:bootBuiltins "enumerate" = some (.type "enumerate"):=by decide +kernel):lq X bk (.Call (.Name "enumerate" p) [aM] [] pos) (PU a3):=by
 intro pins s σ H R I h;refine Call_ (pJ I aS hm ae (uE (bq (ay pos pins s σ H _ I h) ?_) aB rfl));rintro us s1 ⟨vs,H1,aK,bJ,bb⟩;obtain ⟨a,xs,e,dn,q⟩:=bb;subst e;obtain ⟨h6,rfl,qe⟩:=vals1 bJ;cases qe;obtain ⟨z,its,n,cx,hlen,bX⟩:=aK.oo dn;refine call_enumerate_1 bX λ g ho f9 m9 up=>?_
 refine wpAny_pyIter_enum ho ?_;have cm:Inv X pins σ H1 { s1 with heap:=g }:=aK.kept (t':=s1.toks) up;refine #[_,[s1.heap.objs.size+1,s1.heap.objs.size],_,_,H1,rfl,cm,ag0 h8 (jw (q3 _)),#[#[_,ho],f9],λ c ak=>?_,q];have big:s1.heap.objs.size<=c:=by
  simp only [c1,fR,fS] at ak;rcases ak with rfl | rfl
  ·exact pS _ _
  ·exact b9 _
 exact aK.qP big (aK.a7.fresh big)
theorem Q8 {a3:dc} {p pos:Pos} (h8:oN bk=true) (aS:dW X "enumerate") (hm:X.mg "enumerate" = none) (ay:fL X [aM] a3) (aB:starEach [aM] X.env=[(false,eval aM X.env)]:=by rfl)
  (ae:bootBuiltins "enumerate" = some (.type "enumerate"):=by decide +kernel):lr X bk (.Call (.Name "enumerate" p) [aM] [] pos) (PU a3):=#[ac0 h8 aS hm ay.o aB ae]
end
theorem Rz {a:Addr} {bz:de} {D:Ends} (Pv:Nat->St->az->Prop) (h0:Pv 0 σ H) (av : ∀ i σ H,i<=xs.length->Pv i σ H->H a=some (.lst xs))
  (aB : ∀ i x p σ H,xs[i]?=some x->H p=none->Pv i σ H->g (.ref p) σ (upd H p (.tup [.int (i:Int),x])) λ σ2 au=>bz { D with bu:=Pv (i+1),cK:=Pv (i+1),aQ:=D.bu } σ2 au) (hd : ∀ σ H,Pv xs.length σ H->D.bu σ H) :
  ∃ W:Nat->Nat->St->az->Prop,(∃ m,W 0 m σ H) /\ ∀ i m σ H,W i m σ H ->
   ((x6 a).stop i H/\D.bu σ H)\/((x6 a).go i H /\ ∃ N:St->az->Prop,(∀ σ' H',N σ' H' -> ∃ cP,cP<m/\W (i+1) cP σ' H') /\ ∀ x H',(x6 a).jl i H x H'->g x σ H' λ σ2 au=>bz { D with bu:=N,cK:=N,aQ:=D.bu } σ2 au):=by
 refine #[λ i m σ H=>m=xs.length - i/\i<=xs.length/\Pv i σ H,#[_,rfl,j0 _,h0],?_];rintro i m σ H ⟨rfl,ax,p⟩;have dn:=av i σ H ax p;by_cases ea:i<xs.length
 ·refine .inr #[#[xs,xs[i],dn,by simp [ea]],Pv (i+1),λ σ' H' iJ=>#[xs.length - (i+1),.aD,rfl,ea,iJ],λ v H' mh=>?_];obtain ⟨q,aZ,rfl,x,rfl,lM⟩:=mh;exact aB i x q σ H (lM xs dn) aZ p
 ·have e:i=xs.length:=by omega
  refine .inl #[#[xs,dn,.aD],hd σ H (e ▸ p)]
section
variable {X:aP}
theorem afG (ak:X.calm=true):gf X (.builtin "min") (λ xs H Q => ∃ (p:Addr) (ns:aV),xs=[.ref p]/\a9 X.K H p (ns.map V.int)/\ns≠[] /\ ∀ M,M∈ns->(∀ a,a∈ns->M<=a)->Q (.int M) H):=by
 intro pins s σ H xs us Q I r h;obtain ⟨p,ns,rfl,aZ,fC,q⟩:=h;obtain ⟨u,rfl,a5⟩:=vals1 r;cases a5;obtain ⟨its,bP,pl,a6⟩:=I.list aZ;have av:=pl.isList;have ax:=intsAre_of bP;obtain ⟨xs,e⟩:=ax.allInts.items;have kf:ns=xs.toList.map (·.1):=by rw [<-ax.numsOf,<-nums_intItems,<-e]
 have hsz:0<xs.size:=by
  have aH:0<ns.length:=by cases ns with | nil=>exact absurd rfl fC | cons=>simp
  rw [kf,bY,jv] at aH;exact aH
 rw [e] at av;refine min_intList (I.ok.hd.1 ak) av hsz λ v h' bI ba aG=>?_
 obtain ⟨t,rfl⟩:=uA ba;obtain ⟨ah,ai⟩:=argBest_lt (numAt xs) (xs.size - 1);refine #[.int _,H,I.kept aG,#[_,rfl],q _ ?_ λ a ay=>?_]
 ·rw [kf,numAt_eq];exact getD_mem (by rw [bY,jv];omega)
 ·rw [kf] at ay;obtain ⟨j,b5,rfl⟩:=mem_getD ay;rw [bY,jv] at b5;rw [<-numAt_eq];exact ai j .aD
end
noncomputable def zw (H:az) (x:V) (c:aV):Prop := ∃ a,x=.ref a/\H a=some (.tup (c.map V.int))
noncomputable def fH (H:az) (xs:bl) (cs:fq):Prop:=xs.length=cs.length /\ ∀ (i:Nat) (x:V),xs[i]?=some x -> ∃ c,cs[i]?=some c/\zw H x c
section
variable {X:aP}
theorem TK : ∀ (ns ms:aV),((List.range (min ns.length ms.length)).all (λ j=>ns.getD j 0 == ms.getD j 0)&&ns.length == ms.length)=decide (ns=ms):=by
 intro ns ms;by_cases h:ns=ms
 ·subst h;simp
 ·rw [dN h];by_cases av:ns.length=ms.length
  ·rw [Bool.and_eq_false_iff];refine .inl ?_;rw [sW];intro z;rw [gT] at z;refine h (IG av λ i ah ai=>?_);have:=z i (wF.mpr .aD);simpa [ah,ai] using this
  ·rw [Bool.and_eq_false_iff];exact .inr (by simpa using av)
theorem ad7 {b:Addr} {vs:List Value} {ms:aV} (av:s.heap.IsTuple l us.toArray) (ae:s.heap.IsTuple b vs.toArray) (ax:IntsAre us ns) (b5:IntsAre vs ms) (br:A.units<cLine):SeqAt.RcAt A s (.ref l) (.ref b) (decide (ns=ms)):=by
 have aM:=ax.length;have aO:=b5.length;rw [<-TK];have:=SeqAt.RcAt.tuples (A:=A) (s:=s) (e:=λ j=>ns.getD j 0 == ms.getD j 0) av ae br λ j ah ai=>?_
 ·rw [fe,fe,aM,aO] at this;exact this
 ·obtain ⟨t,tu⟩:=ax.int_at j us.toArray[j] .zs;obtain ⟨t',FL⟩:=b5.int_at j vs.toArray[j] .zs;rw [tu,FL];exact SeqAt.EqAt.int_int _ _ _ _
theorem abH (br:X.A.units+1<cLine):dC X (compareOp .Eq) (λ x y H Q => ∃ (a b:Addr) (ns ms:aV),x=.ref a/\y=.ref b/\H a=some (.tup (ns.map V.int))/\H b=some (.tup (ms.map V.int))/\Q (.aX (decide (ns=ms))) H):=by
 intro pins s σ H x y v u Q I a5 bt h;obtain ⟨a,b,ns,ms,rfl,rfl,ay,ae,q⟩:=h;cases a5;cases bt;obtain ⟨its,bJ,p1,_⟩:=I.tuple (a0.of ay);obtain ⟨sm,b8,dm,_⟩:=I.tuple (a0.of ae);exact ad7 p1 dm (intsAre_of bJ) (intsAre_of b8) (C0 br) X.prog X.w _ _ #[.aX _,H,I,rfl,q]
end
end bM
namespace rF
open PySem PyProof.Rows
theorem ajq (o:Obj) (f:cZ->cZ):(Obj.mapFields f o).dict=o.dict:=by
 unfold Obj.mapFields;split<;>rfl
noncomputable def Rec (h:Heap) (e:Addr) (C:Value) (d:Option Addr) (head:Value):Prop := ∃ cb vs,h.get? e=some cb/\cb.cls=C/\cb.dict=d/\cb.data=.fields vs/\vs[1]?=some head/\vs[2]?=some .none
noncomputable def Ent (h:Heap) (T:Addr) (da:Value):Prop := ∃ tD ts,h.get? T=some tD/\tD.data=.fields ts/\ts[3]?=some da
noncomputable abbrev mq (l:List Env):List Addr:=l.filterMap (·.frame)
noncomputable def kv (L F:List Addr) (h h':Heap):Prop:=(∀ b o,b∉L->b∉F->h.get? b=some o->h'.get? b=some o) /\ ∀ b o,b∉L->b∈F->h.get? b=some o -> ∃ cR,h'.get? b=some { o with slots:=cR }
theorem kv.trans {mX F:List Addr} {h ah ai:Heap} (x:kv L F h ah) (y:kv mX F ah ai):kv (L++mX) F h ai:=by
 refine #[λ b o nl hi e=>?_,λ b o nl hf e=>?_]
 ·exact y.1 b o (λ z=>nl (jx _ z)) hi (x.1 b o (λ z=>nl (uC _ z)) hi e)
 ·obtain ⟨cR,aM⟩:=x.2 b o (λ z=>nl (uC _ z)) hf e;obtain ⟨pn,aO⟩:=y.2 b _ (λ z=>nl (jx _ z)) hf aM;exact #[pn,aO]
section
variable {M:Model} {E:b2}
theorem Qh {env:Env} {outer:List Env} {L e:Addr} {head:Value} {acz:Bool} {Q:Unit->Shared->Prop}
  (hI:A.frames=some (env::outer)) (av:s.heap.FunFrames base (env::outer)) (hf:env.frame=some L)
  (he:s.heap.get? e=some cb) (hd:cb.data=.fields vs) (hsz:1<vs.size) (ai:vs[2]?=some .none)
  (h : ∀ h' T,s.heap.get? T=none->kv [e] (mq (env::outer)) s.heap h'->Rec h' e cb.cls cb.dict (.ref T)->Ent h' T (rawInt L)->Q () { s with heap:=h' }) :
  wpAny M A (do let a ← frameOf env;let pl ← entryPlaceOf L acz;let b ← EntryCells.newEntry head a .none (rawInt L) .none pl;setField (.ref e) 1 b) Q E s:=by
 have ZO:e∉mq (env::outer):=λ hm=>by
  obtain ⟨_,o,aJ,n_⟩:=av.mem hm;rw [he] at aJ;injection aJ with aJ;subst aJ;exact n_ vs hd
 refine aC (wpAny_frameOf_fun hI av hf λ ah r_=>?_);refine aC (wpAny_entryPlaceOf λ pl dH=>?_);unfold EntryCells.newEntry newFields;refine aC (mG ?_ (dH.sizeOk5 _ _ _ _ _));have r6:ah.get? e=some cb:=(r_.2.1 e ZO).trans he;have Ni:=bK (h:=ah) { cls:=.type "traceback", dict:=none,data:=.fields ([head,.ref L,.none,rawInt L,.none]++(if pl.isEmpty then List.replicate 6 Value.none else pl)).toArray } r6;have BD:ah.objs.size≠e:=jw (cu r6);have tT:=q2 hd (·.setIfInBounds 1 (Value.ref ah.objs.size));have tV:=oz (Obj.mapFields (·.setIfInBounds 1 (Value.ref ah.objs.size))) Ni (wC tT);refine ux Ni hd hsz (h _ ah.objs.size ?_ #[λ b o nl hi q=>?_,λ b o nl ae q=>?_] #[_,_,tV,Obj.cls_mapFields _ _,ajq _ _,tT,by simp [hsz],by simp [ai]] #[_,_,(ju _ _ (ek BD)).trans (d6 ah rfl),rfl,?_])
 ·cases q:s.heap.get? ah.objs.size with
  | none=>rfl
  | some o=>have:=cu q;rw [<-r_.1] at this;exact absurd this (iX _)
 ·have GX:b≠e:=λ z=>nl (by rw [z];exact eC.mpr rfl)
  rw [ju _ _ (ek GX)];exact bK _ ((r_.2.1 b hi).trans q)
 ·have GX:b≠e:=λ z=>nl (by rw [z];exact eC.mpr rfl)
  obtain ⟨cR,aM⟩:=r_.2.2 b o q;refine #[cR,?_];rw [ju _ _ (ek GX)];exact bK _ aM
 ·first | (simp;done) | (rcases dH with rfl | ⟨_,_,_,_,_,_,_,rfl⟩<;>simp)
theorem aeA {env:Env} {outer:List Env} {L e:Addr} {C:Value} {Q:Unit->Shared->Prop}
  (hI:A.frames=some (env::outer)) (av:s.heap.FunFrames base (env::outer)) (hf:env.frame=some L) (aq:Rec s.heap e C d .none)
  (h : ∀ h' T,s.heap.get? T=none->kv [e] (mq (env::outer)) s.heap h'->Rec h' e C d (.ref T)->Ent h' T (rawInt L)->Q () { s with heap:=h' }):wpAny M A (noteFrame (.ref e) env) Q E s:=by
 obtain ⟨cb,vs,he,rfl,rfl,hd,ah,ai⟩:=aq;unfold noteFrame;simp only [hf];refine aC (fc he hd ah ?_);rw [if_neg (show ¬ ((Value.none != Value.none)=true) by decide)];exact Qh hI av hf he hd (wQ.mp ah).1 ai h
theorem acH {env:Env} {outer:List Env} {L e T0:Addr} {C:Value} {Q:Unit->Shared->Prop}
  (hI:A.frames=some (env::outer)) (av:s.heap.FunFrames base (env::outer)) (hf:env.frame=some L) (aq:Rec s.heap e C d (.ref T0)) (aU:Ent s.heap T0 .none) (fC:T0≠e)
  (h : ∀ h' T,s.heap.get? T=none->kv [e,T0] (mq (env::outer)) s.heap h'->Rec h' e C d (.ref T)->Ent h' T (rawInt L)->Q () { s with heap:=h' }):wpAny M A (noteFrame (.ref e) env) Q E s:=by
 obtain ⟨cb,vs,he,rfl,rfl,hd,ah,ai⟩:=aq;obtain ⟨tD,ts,b0,jN,aH⟩:=aU;unfold noteFrame;simp only [hf];refine aC (fc he hd ah ?_);rw [if_pos (show (Value.ref T0 != Value.none)=true from by simp)];refine aC (fc b0 jN aH ?_);rw [if_neg (show ¬ ((Value.none == rawInt L)=true) from by simp [rawInt])];refine aC (ux b0 jN (wQ.mp aH).1 ?_);have other : ∀ b,b≠T0->(s.heap.update T0 (Obj.mapFields (·.setIfInBounds 3 Value.none))).get? b=s.heap.get? b:=λ b ae=>ju _ _ (ek ae)
 have aey : ∀ b o,s.heap.get? b=some o->(∀ vs,o.data≠.fields vs)->b≠T0:=λ b o ae n_ q=>by
  rw [q,b0] at ae;injection ae with ae;subst ae;exact n_ ts jN
 refine Qh hI (av.of_keeps λ b o ae n_=>#[o,(other b (aey b o ae n_)).trans ae,rfl]) hf ((other e (ek fC)).trans he) hd (wQ.mp ah).1 ai λ h' T yu eE kh yT=>?_
 refine h h' T ?_ #[λ b o nl hi q=>?_,λ b o nl ae q=>?_] kh yT
 ·cases q:s.heap.get? T with
  | none=>rfl
  | some o =>
   by_cases z:T=T0
   ·have br:=oz (Obj.mapFields (·.setIfInBounds 3 Value.none)) b0 (wC (q2 jN _));rw [<-z] at br;rw [z] at yu;rw [z] at br;rw [br] at yu;cases yu
   ·rw [other T z,q] at yu;cases yu
 ·have cC:b≠T0:=λ z=>nl (by rw [z];simp)
  exact eE.1 b o (λ z=>nl (by rw [eC.mp z];simp)) hi ((other b cC).trans q)
 ·have cC:b≠T0:=λ z=>nl (by rw [z];simp)
  exact eE.2 b o (λ z=>nl (by rw [eC.mp z];simp)) ae ((other b cC).trans q)
theorem land {F:List Addr} {e T:Addr} {C da:Value} {Q:Unit->Shared->Prop} (aq:Rec s.heap e C d (.ref T)) (aU:Ent s.heap T da) (fC:T≠e) (m4 : ∀ b∈F,b≠T)
  (h : ∀ h',kv [T] F s.heap h'->Rec h' e C d (.ref T)->Ent h' T .none->Q () { s with heap:=h' }):wpAny M A (setFlight (.ref e) none) Q E s:=by
 obtain ⟨cb,vs,he,eP,BH,hd,ah,ai⟩:=aq;obtain ⟨tD,ts,b0,jN,aH⟩:=aU;have Pb:3<ts.size:=(wQ.mp aH).1;unfold setFlight;refine aC (fc he hd ah ?_);rw [if_pos (show (Value.ref T != Value.none)=true from by simp)];refine ux b0 jN Pb (h _ #[λ b o nl _ q=>(ju _ _ (λ z=>nl (by rw [z];exact eC.mpr rfl))).trans q,λ b o nl _ q=>#[o.slots,(ju _ _ (λ z=>nl (by rw [z];exact eC.mpr rfl))).trans q]]
  #[cb,vs,(ju _ _ fC).trans he,eP,BH,hd,ah,ai] #[_,_,oz _ b0 (wC (q2 jN _)),q2 jN _,by simp [Pb]])
noncomputable def z7 (h:Heap) (e:Addr) (head:Value) (L:List Addr):Prop:=(head=.none/\L=[]) \/ ∃ T,head=.ref T/\Ent h T .none/\T≠e/\L=[T]
theorem aaT {env:Env} {outer:List Env} {L e:Addr} {C:Value} {Q:Unit->Shared->Prop}
  (hI:A.frames=some (env::outer)) (av:s.heap.FunFrames base (env::outer)) (hf:env.frame=some L) (aq:Rec s.heap e C d head) (cj:z7 s.heap e head lI)
  (h : ∀ h' T,s.heap.get? T=none->kv (e::lI) (mq (env::outer)) s.heap h'->Rec h' e C d (.ref T)->Ent h' T (rawInt L)->Q () { s with heap:=h' }):wpAny M A (noteFrame (.ref e) env) Q E s:=by
 rcases cj with ⟨rfl,rfl⟩ | ⟨T0,rfl,aU,fC,rfl⟩
 ·exact aeA hI av hf aq h
 ·exact acH hI av hf aq aU fC h
theorem landed {env:Env} {outer:List Env} {L e:Addr} {C:Value} {Q:Unit->Shared->Prop}
  (hI:A.frames=some (env::outer)) (av:s.heap.FunFrames base (env::outer)) (hf:env.frame=some L) (aq:Rec s.heap e C d head) (cj:z7 s.heap e head lI)
  (h : ∀ h' T,s.heap.get? T=none->T≠e->kv (e::lI) (mq (env::outer)) s.heap h'->Rec h' e C d (.ref T)->Ent h' T .none->Q () { s with heap:=h' }) :
  wpAny M A (noteFrame (.ref e) env) (λ _ s'=>wpAny M A (setFlight (.ref e) none) Q E s') E s:=by
 refine aaT hI av hf aq cj λ ah T b0 k1 bJ t1=>?_
 have BD:T≠e:=λ z=>by
  obtain ⟨cb,_,he,_⟩:=aq;rw [z,he] at b0;cases b0
 have Xg : ∀ b∈mq (env::outer),b≠T:=λ b ae z=>by
  obtain ⟨_,o,aJ,_⟩:=av.mem ae;rw [z,b0] at aJ;cases aJ
 refine land (F:=mq (env::outer)) (s:={ s with heap:=ah }) bJ t1 BD Xg λ ai k2 b8 bw=>?_
 have k:=k1.trans k2;refine h ai T b0 BD #[λ b o nl hi q=>k.1 b o (λ z=>?_) hi q,λ b o nl ae q=>k.2 b o (λ z=>?_) ae q] b8 bw
 all_goals
  rcases oB.mp z with z | z
  ·exact nl z
  ·rw [eC.mp z,b0] at q;cases q
theorem leave {env:Env} {outer:List Env} {L e:Addr} {C:Value} {Q:Unit->Shared->Prop}
  (hI:A.frames=some (env::outer)) (av:s.heap.FunFrames base (env::outer)) (hf:env.frame=some L) (aq:Rec s.heap e C d head) (cj:z7 s.heap e head lI)
  (h : ∀ h' T,s.heap.get? T=none->T≠e->kv (e::lI) (mq (env::outer)) s.heap h'->Rec h' e C d (.ref T)->Ent h' T .none->Q () { s with heap:=h' }):wpAny M A (leaving env (.ref e)) Q E s:=by
 unfold leaving;exact aC (landed hI av hf aq cj h)
end
end rF
namespace bM
open PySem PySem.Spec PyProof.Rows rF
theorem et.some {w:World} {h:Heap} {a:Addr} (x:et P w H h a o) : ∃ b7,h.get? a=some b7:=by
 cases o with
 | lst xs=>obtain ⟨_,_,_,_,e⟩:=x;exact #[_,e]
 | tup xs=>obtain ⟨_,_,_,b7,e,_⟩:=x;exact #[_,e]
 | bF kvs=>obtain ⟨_,_,_,_,o,_,_,e,_⟩:=x;exact #[_,e]
 | j4 kvs=>obtain ⟨_,_,_,_,o,_,_,e,_⟩:=x;exact #[_,e]
 | set S n=>obtain ⟨o,_,_,_,e,_⟩:=x;exact #[_,e]
 | ins C aL fs=>obtain ⟨_,_,_,e,_⟩:=x;exact #[_,e]
 | own y=>obtain ⟨_,e⟩:=x;exact #[_,e]
 | kI fs=>obtain ⟨_,⟨_,_,_,e,_⟩,_⟩:=x;exact #[_,e]
 | se lo ax=>obtain ⟨_,_,_,e⟩:=x;exact #[_,e]
 | gI b7 u=>obtain ⟨e,_⟩:=x;exact #[_,e]
 | qK ag=>exact #[_,(show h.get? a=Option.some _ from x)]
 | met f y=>exact #[_,(show h.get? a=Option.some _ from x)]
 | ext φ => obtain ⟨_,⟨_,e⟩,_⟩:=x;exact #[_,e]
theorem e5.gone {w:World} {h:Heap} (x:e5 P w H h) {a:Addr} (e:h.get? a=none):H a=none:=by
 cases q:H a with
 | none=>rfl
 | some o =>
  obtain ⟨b7,z⟩:=(x a o q).some;rw [e] at z;cases z
theorem e5.oL {w:World} {h:Heap} {F:List Addr} (x:e5 P w H h) (k:kv L F h h') (fB : ∀ b∈L,H b=none) (m4 : ∀ b∈F,H b=none):e5 P w H h':=λ a o e =>
 (x a o e).jq (λ b u ae q=>by
  have aF:H b≠none:=by
   rcases ae with rfl | z
   ·rw [e];simp
   ·rw [z];simp
  exact k.1 b u (λ z=>aF (fB b z)) (λ z=>aF (m4 b z)) q) (λ _ q=>q) λ _ _ q=>q
theorem fY.oL {fs:List Addr} {h0 h:Heap} {F:List Addr} (u:fY fs [] bx H h0 h) (k:kv L F h h') (fB : ∀ b∈L,h0.get? b=none) (m4 : ∀ b∈F,b∈fs\/h0.get? b=none):fY fs [] bx H h0 h':=by
 have xT : ∀ b o,h0.get? b=some o->b∉L:=λ b o e z=>by rw [fB b z] at e;cases e
 refine #[λ b o e n hi bu=>?_,λ b o e n hf bu=>?_,u.free,λ b o e bu=>?_,u.lS,u.k7,u.lR]
 ·refine k.1 b o (xT b o e) (λ z=>?_) (u.keep b o e n hi bu);rcases m4 b z with z | z
  ·exact hi z
  ·rw [z] at e;cases e
 ·obtain ⟨cR,aM⟩:=u.slot b o e n hf bu;by_cases ae:b∈F
  ·obtain ⟨pn,aO⟩:=k.2 b _ (xT b o e) ae aM;exact #[pn,aO]
  ·exact #[cR,k.1 b _ (xT b o e) ae aM]
 ·obtain ⟨ey,aM⟩:=u.there b o e bu;by_cases ae:b∈F
  ·obtain ⟨pn,aO⟩:=k.2 b _ (xT b o e) ae aM;exact #[_,aO]
  ·exact #[_,k.1 b _ (xT b o e) ae aM]
noncomputable def iL (P:Program) (w:World):ik:=λ outer H s E ev s' => ∃ (e T C:Addr) (d:Option Addr) (H':az),ev=.ref e/\s'.os=s.os/\AllBare s'.gens/\fY (fO outer) [] H H' s.heap s'.heap/\e5 P w H' s'.heap /\
 s.heap.get? e=none/\s.heap.get? T=none/\T≠e/\H' e=none/\H' T=none/\Rec s'.heap e (.ref C) d (.ref T)/\Ent s'.heap T .none/\E (.ref C) d H'
structure gw (X:aP) (pins:d5) (e:Addr):Prop where
 s0:X.s₀.heap.get? e=none
 loc:e≠X.env.locals
 cell : ∀ x c,X.env.cells.lookup x=some c->c≠e
 pin : ∀ p∈X.j7++pins,p.1≠e
theorem gw.of {X:aP} (I:Inv X pins σ H s) (aj:X.ex=[]) {e:Addr} (h:s.heap.get? e=none):gw X pins e:=by
 refine #[?_,?_,λ x c ak z=>?_,λ p aw z=>?_]
 ·cases q:X.s₀.heap.get? e with
  | none=>rfl
  | some o =>
   obtain ⟨ey,z⟩:=I.base.there e o q (by rw [aj];simp);rw [h] at z;cases z
 ·intro z;obtain ⟨m,⟨o,_,_,aJ,_⟩,_⟩:=I.loc;rw [z,aJ] at h;cases h
 ·obtain ⟨v,o,aJ,_⟩:=I.cell x c ak;rw [<-z,aJ] at h;cases h
 ·obtain ⟨aJ,_⟩:=I.pin p aw;rw [<-z,aJ] at h;cases h
noncomputable def x_ (X:aP) (E:dA):Prop := ∀ (pins:d5) (σ:St) (H:az) (s:Shared) (e C:Addr) (d:Option Addr) (head:Value) (av:List Addr),Inv X pins σ H s->gw X pins e->H e=none ->
 Rec s.heap e (.ref C) d head->z7 s.heap e head av->(∀ b∈av,gw X pins b/\H b=none)->E (.ref C) d H->X.c3 (.ref e) s
theorem pE {X:aP} {E:dA} (aj:X.ex=[]) (k:x_ X E):Passes (iL X.prog X.w) X E:=by
 rintro pins σ H s ev s' I ⟨e,T,C,d,H',rfl,aJ,aS,u,a7,gZ,oZ,lN,iD,d_,aq,aU,gO⟩;exact k pins σ H' s' e C d (.ref T) [T] (I.CN aJ u a7 aS λ b ae=>absurd ae .zs) (gw.of I aj gZ) iD aq (.inr #[T,rfl,aU,lN,rfl]) (λ b ae=>by rw [eC.mp ae];exact #[gw.of I aj oZ,d_]) gO
theorem rb {w:World} {N:bT} {f:Addr} {outer:List Env} {E:dA} :
  x_ (k6 (iL P w) P w K mg base N qual scope f cd A outer s0 bx E) E:=by
 intro pins σ H s e C d head av I gZ iD aq cj yD gO;show wpAny (model P w) (A.deeper (envOfC qual scope s0.heap.objs.size f cd)) (leaving (envOfC qual scope s0.heap.objs.size f cd) (.ref e)) _ _ s;have vT : ∀ b∈mq (envOfC qual scope s0.heap.objs.size f cd::outer),H b=none:=I.uV;refine leave (base:=base) I.ok.frames I.stack rfl aq cj λ h' T b0 lN eE bJ t1=>#[e,T,C,d,H,rfl,I.os,I.bare,?_,?_,gZ.s0,(gw.of I rfl b0).s0,lN,iD,I.a7.gone b0,bJ,t1,gO]
 ·refine (show fY (fO outer) [] bx H s0.heap s.heap from I.base).oL eE (λ b ae=>?_) (λ b ae=>?_)
  ·rcases c1.mp ae with z | z
   ·rw [z];exact gZ.s0
   ·exact (yD b z).1.s0
  ·rcases c1.mp (show b∈s0.heap.objs.size::fO outer from ae) with z | z
   ·refine .inr ?_;cases q:s0.heap.get? b with
    | none=>rfl
    | some o=>have:=cu q;rw [z] at this;exact absurd this (iX _)
   ·exact .inl z
 ·refine I.a7.oL eE (λ b ae=>?_) vT;rcases c1.mp ae with z | z
  ·rw [z];exact iD
  ·exact (yD b z).2
theorem zY {w:World} {N:bT} {f:Addr} {outer:List Env} {E:dA} :
  Passes (iL P w) (k6 (iL P w) P w K mg base N qual scope f cd A outer s0 bx E) E:=pE rfl rb
abbrev jJ:List Value:=[.type "ValueError", .type "Exception", .type "BaseException", .type "object"]
structure mz (K:cD) (mg:Str->c0) (x:Str) (C:Addr):Prop where
 at_:mg x=some (.ref C)
 is:PySem.W.excIn K C jJ "ValueError.__new__" = true
theorem mz.own {x:Str} {C:Addr} {h:Heap} (c:mz K mg x C) (X:K.In h):OwnCls x C jJ "ValueError.__new__" mg h:=by
 obtain ⟨e,q⟩:=c;refine #[e,?_];unfold PySem.W.excIn at q;split at q
 ·rename_i dd cd cR aJ;split at q
  ·rename_i Es bm k0 k1 k2 k3 n k5 hm aB;simp only [jA,oC,Bool.not_eq_true'] at q;obtain ⟨⟨⟨⟨⟨rfl,rfl⟩,O6⟩,aU⟩,a7⟩,tY⟩:=q;obtain ⟨nm,bs,mro,ns,rS,hd,sn,sub,ab,col,del⟩:=cd;dsimp only at hm O6 a7 tY;subst hm O6;have XK:cR=[k0,k1,k2,k3,some (.builtin "ValueError.__new__"),k5].toArray:=by
    obtain ⟨l⟩:=cR;simp only at aB;rw [aB]
   subst XK;exact #[bm,ns,nm,rS,bs,hd,sn,sub,ab,col,dd,k0,k1,k2,k3,k5,_,X _ _ aJ,.of_isNs (IH X a7),PySem.W.nsMap_none_of_in X a7 tY,PySem.W.tail_of_in X aU]
  ·cases q
 ·cases q
noncomputable def acd (C:Addr) (E:dA) (a3:dc):de:=λ _ σ H=>a3 σ H λ vs H1=>vs.length<=sizeLine/\E (.ref C) none H1
theorem u0 {X:aP} {E:dA} {x:Str} {C:Addr} {a:Expr} {ar:List Expr} {a3:dc} {ej pos:Pos} (k:x_ X E) (aj:X.ex=[]) (ak:X.calm=true) (c:mz X.K X.mg x C) (aS:dW X x) (ay:fL X (a::ar) a3) (c4:noStar a=true:=by rfl)
  (dH:(backTo ej (starEach ar X.env)).any (·.1)=false:=by rfl) (hd:(x == ("__debug__" : Str))=false:=by decide):h3 X (.Raise (some (.Call (.Name x np) (a::ar) [] ej)) none pos) (acd C E a3):=#[by
 intro pins s σ H D I h;obtain ⟨d1,N,nm,q,bs,hdct,sn,sub,ab,col,dd,k0,k1,k2,k3,k5,mN,eP,dx,tY,T⟩:=(c.own I.mod.kS).obj;have he:=u_ c4 ar X.env;refine wpAny_Raise_call_subT (C:=C) (nm:=nm) (q:=q) (N:=N) (bs:=bs) (bm:=d1) (hdct:=hdct) (sn:=sn) (sub:=sub) (ab:=ab) (col:=col) (dd:=dd) (k0:=k0) (k1:=k1) (k2:=k2) (k3:=k3) (k5:=k5)
  Dr (mN:=mN) (T.hasType Dr.hasBase) (I.ok.hd.1 ak) (by rw [he];show (false||(backTo ej (starEach ar X.env)).any (·.1))=false;rw [dH];rfl) tY (pV I aS c.at_ #[rfl,?_] hd)
 have h7:=ay.o ej pins s σ H _ I h;rw [he] at h7 ⊢;refine IA (bq h7 ?_);rintro us s1 ⟨vs,H1,aK,r,a6,gO⟩;refine #[rfl,by rw [<-r.length];exact a6,aK.aQ _ _ eP,dx.keeps aK.aQ,T.keeps aK.aQ,λ h' e hm=>?_]
 ·have cm:Inv X pins σ H1 { s1 with heap:=h' }:=aK.kept (t':=s1.toks) hm.keeps;obtain ⟨t,yy,_,_⟩:=hm.there;refine k pins σ H1 _ e C none .none [] cm (gw.of aK aj hm.new) (aK.a7.gone hm.new) #[_,_,yy,rfl,rfl,rfl,rfl,rfl] (.inl #[rfl,rfl]) (λ b ae=>absurd ae .zs) gO]
end bM
namespace PySem
section
variable {M:Model} {E:b2}
variable {nm q NV aY:Str} {C N Mh:Addr} {bs bm MV Bu:List Value} {hdct PM:Bool} {sn OA:bT} {sub Px:List Value} {ab MS:Bool} {col OT:Option Bool} {dd nc:Option Addr} {k0 k1 k2 k3 k5 A9 c_ dP rL Mw:c0} {newId abD:String}
theorem ajN {h:Heap} {g:Array GenState} {d:Drawn} {t:Nat} {os:OsState} {e:Addr} {Q:Bool->Shared->Prop}
  (eP:h.get? C=some (excClassObj nm q C N bs bm hdct sn sub ab col dd k0 k1 k2 k3 k5 newId)) (a8:h.get? D=some (excClassObj NV aY D Mh MV Bu PM OA Px MS OT nc A9 c_ dP rL Mw abD))
  (he:h.get? e=some cb) (zz:cb.cls=.ref C) (k_:Bu.contains (.type "BaseException")=true) (kP:bm.contains (.ref D)=true)
  (aZ:Q true ⟨h,g,d,t,os⟩):wpAny M A (excMatches (.ref e) (.ref D)) Q E ⟨h,g,d,t,os⟩:=by
 have Gd:(Value.ref D::Bu).contains (.type "BaseException")=true:=by rw [Ag,k_,Bool.or_true]
 have Ge:(Value.ref C::bm).contains (.ref D)=true:=by rw [Ag,kP,Bool.or_true]
 have f:=tc_notTuple;unfold excMatches
 repeat (first | (with_reducible refine uQ he ?_;rw [zz]) | with_reducible refine uQ a8 ?_ | (with_reducible refine Ds a8 ?_;rw [Gd]) | (with_reducible refine Ds eP ?_;rw [Ge]) | wp_step)
 exact aZ
end
end PySem
namespace bM
open PySem PySem.Spec PyProof.Rows rF
theorem Inv.oL {X:aP} (I:Inv X pins σ H s) (aj:X.ex=[]) (eE:kv L (fO X.stack) s.heap h') (fB : ∀ b∈L,gw X pins b/\H b=none) :
  Inv X pins σ H { s with heap:=h' }:=by
 have one : ∀ b o,b∉L->s.heap.get? b=some o -> ∃ cR,h'.get? b=some { o with slots:=cR }:=λ b o nl e=>by
  by_cases ae:b∈fO X.stack
  ·exact eE.2 b o nl ae e
  ·exact #[o.slots,eE.1 b o nl ae e]
 refine #[I.ok,I.os,I.bare,?_,?_,λ x c e=>?_,I.free,I.ia,λ p aw=>?_,I.a7.oL eE (λ b ae=>(fB b ae).2) I.uV,I.len]
 ·rw [aj];have u:=I.base;rw [aj] at u;refine u.oL eE (λ b ae=>(fB b ae).1.s0) λ b ae=>?_
  rcases c1.mp (I.q_ b ae) with z | z
  ·refine .inr ?_;cases q:X.s₀.heap.get? b with
   | none=>rfl
   | some o =>
    have:=gQ (cu q) I.ok.above;rw [z] at this;exact absurd this (iX _)
  ·exact .inl z
 ·obtain ⟨m,⟨o,ar,ep,aJ,r⟩,av⟩:=I.loc;obtain ⟨cR,aM⟩:=one X.env.locals o (λ z=>(fB _ z).1.loc rfl) aJ;refine #[m,#[_,ar,ep,aM,r],λ i x v a b c=>?_];obtain ⟨u,cx,l⟩:=av i x v a b c;refine #[u,cx,?_];rcases l with l | ⟨k,c,e,f7,kQ,hd⟩
  ·exact .inl l
  ·obtain ⟨pn,aO⟩:=one c f7 (λ z=>(fB _ z).1.cell x c e rfl) kQ;exact .inr #[k,c,e,_,aO,hd]
 ·obtain ⟨v,f7,kQ,hd⟩:=I.cell x c e;obtain ⟨pn,aO⟩:=one c f7 (λ z=>(fB _ z).1.cell x c e rfl) kQ;exact #[v,_,aO,hd]
 ·obtain ⟨e,n,ne,hi,d⟩:=I.pin p aw;refine #[eE.1 p.1 p.2 (λ z=>(fB _ z).1.pin p aw rfl) (λ z=>?_) e,n,ne,hi,d];rcases c1.mp (I.q_ p.1 z) with y | y
  ·exact ne y
  ·exact hi y
theorem ag6 {X:aP} {M:Model} {E:b2} {i:Nat} {x:Str} {v:V} {Q:Unit->Shared->Prop} (I:Inv X pins σ H s) (dx:X.N.Nodup) (ax:X.N[i]?=some x) (aG:X.env.scope.names.lookup x=some .local) (ba:σ[i]?=some (some v))
  (h : ∀ s',Inv X pins (σ.set i none) H s'->Q () s'):wpAny M A (unbindName X.env x) Q E s:=by
 obtain ⟨m,aF,av⟩:=id I.loc;have zz:(X.env.scope.kind == .class||(X.env.scope.kind == .module&&X.env.locals != X.env.globals))=false:=by rw [I.ok.kind];rfl
 obtain ⟨u,_,lk⟩:=av i x v ax ba (.inl aG);have hm:m x=some u:=by
  rcases lk with ⟨_,e⟩ | ⟨k,_⟩
  ·exact e
  ·have f3:X.env.scope.names.lookup x=some .cell\/X.env.scope.names.lookup x=some .free:=k;rw [aG] at f3;rcases f3 with z | z<;>cases z
 refine wpAny_unbindName_local aG aF hm zz λ h' cV BM aB=>?_
 obtain ⟨MA,_,_,Nq,_⟩:=id aF;have y6 : ∀ b o,X.s₀.heap.get? b=some o->b≠X.env.locals:=λ b o e=>d3 (gQ (cu e) I.ok.above)
 refine h _ #[I.ok,I.os,I.bare,#[λ b o e n ae aj=>?_,λ b o e n ae aj=>?_,I.base.free,λ b o e aj=>?_,I.base.lS,I.base.k7,I.base.lR],#[_,BM,λ j y jH aM aO el=>?_],λ y c e=>?_,I.free,I.ia,λ p aw=>?_,?_,?_]
 ·exact (aB.2 b (y6 b o e)).trans (I.base.keep b o e n ae aj)
 ·obtain ⟨cR,aM⟩:=I.base.slot b o e n ae aj;exact #[cR,(aB.2 b (y6 b o e)).trans aM]
 ·obtain ⟨ey,aM⟩:=I.base.there b o e aj;exact #[ey,(aB.2 b (y6 b o e)).trans aM]
 ·by_cases b5:j=i
  ·subst b5;have hiσ:j < σ.length:=(fJ.mp ba).1;rw [sC hiσ] at aO;cases aO
  ·rw [z3 (ek b5)] at aO;obtain ⟨kH,bP,q⟩:=av j y jH aM aO el;refine #[kH,bP,?_];rcases q with ⟨k,e⟩ | ⟨k,c,e,z⟩
   ·refine .inl #[k,?_];have:y≠x:=λ e=>b5 (Ji dx aM (e ▸ ax))
    simp [this,e]
   ·exact .inr #[k,c,e,z.sameBut aB (I.qm y c e)]
 ·obtain ⟨hl,z⟩:=I.cell y c e;exact #[hl,z.sameBut aB (I.qm y c e)]
 ·obtain ⟨e,n,ne,hi,d⟩:=I.pin p aw;exact #[(aB.2 p.1 ne).trans e,n,ne,hi,d]
 ·intro b b7 e;refine (I.a7 b b7 e).jq (λ c cV ak q=>(aB.2 c ?_).trans q) (λ _ q=>q) λ _ _ q=>q
  rintro rfl;rcases ak with rfl | ak
  ·rw [I.free] at e;cases e
  ·rw [I.free] at ak;cases ak
 ·rw [uN];exact I.len
noncomputable def nx (e C:Addr) (d:Option Addr):e6:=.ext λ h => ∃ cb vs,h.get? e=some cb/\cb.cls=.ref C/\cb.dict=d/\cb.data=.fields vs/\vs[2]?=some .none
theorem Rec.ok {w:World} {h:Heap} {e C:Addr} (r:Rec h e (.ref C) d head):et P w H h e (nx e C d):=by
 obtain ⟨cb,vs,he,ak,hd,hf,_,ai⟩:=r;refine #[#[cb,vs,he,ak,hd,hf,ai],#[_,he],?_];rintro ah ai ⟨G9,zr,a,b,c,d'⟩ k;exact #[G9,zr,k _ a,b,c,d']
theorem Inv.known {X:aP} {e:Addr} (I:Inv X pins σ H s) (aj:X.ex=[]) (gZ:gw X pins e) (he:H e=none) (ok:et X.prog X.w (upd H e o) s.heap e o) (hi : ∀ b∈fO X.stack,b≠e):Inv X pins σ (upd H e o) s:=by
 have y6 : ∀ b b7,X.s₀.heap.get? b=some b7->b≠e:=λ b b7 q z=>by rw [z,gZ.s0] at q;cases q
 refine #[I.ok,I.os,I.bare,#[I.base.keep,I.base.slot,λ b b7 q n aj=>by rw [bj (y6 b b7 q)];exact I.base.free b b7 q n aj,I.base.there,λ b xs q=>?_,λ b b7 u q=>?_,λ b ag q=>?_],I.loc,I.cell,?_,λ x c q=>?_,λ p aw=>?_,λ b b7 q=>?_,I.len]
 ·have:=I.base.lS b xs q;rw [bj (cf this he)];exact this
 ·have:=I.base.k7 b b7 u q;rw [bj (cf this he)];exact this
 ·obtain ⟨m,this⟩:=I.base.lR b ag q;exact #[m,by rw [bj (cf this he)];exact this]
 ·rw [bj (ek gZ.loc)];exact I.free
 ·rw [bj (gZ.cell x c q)];exact I.ia x c q
 ·obtain ⟨a,b,c,d,f⟩:=I.pin p aw;exact #[a,by rw [bj (gZ.pin p aw)];exact b,c,d,f]
 ·by_cases z:b=e
  ·subst z;rw [bL] at q;cases q;exact ok
  ·rw [bj z] at q;refine (I.a7 b b7 q).jq (λ _ _ _ q=>q) (λ c q=>?_) λ c xs q=>?_
   ·rw [bj (cf q he)];exact q
   ·rw [bj (cf q he)];exact q
noncomputable abbrev oy (X:aP) (pins:d5) (W:b2):aP :=
 { X with j7:=X.j7++pins,c3:=λ e s1=>wpAny (model X.prog X.w) X.A (noteFrame e X.env) (λ _ s2=>wpAny (model X.prog X.w) X.A (setFlight e none) (λ _ s3=>W e s3) X.c3 s2) X.c3 s1 }
noncomputable abbrev mJ (X:aP) (e:Addr):aP:={ X with A:=X.A.mark (some (.ref e)),calm:=false,warm:=false,c3:=λ _ _=>False }
section
variable {X:aP} {wA:d5} {W:b2} {e:Addr}
theorem aP.Ok.H_ (ok:X.Ok):(oy X pins W).Ok :=
 #[ok.mod,ok.kind,ok.glob,ok.blt,ok.above,ok.inj,ok.has,ok.o8,ok.hd,ok.frames,ok.qJ,ok.qn,ok.bs,ok.jh,ok.oq,ok.qO,ok.iQ,ok.lF]
theorem aP.Ok.oO (ok:(oy X pins W).Ok):X.Ok :=
 #[ok.mod,ok.kind,ok.glob,ok.blt,ok.above,ok.inj,ok.has,ok.o8,ok.hd,ok.frames,ok.qJ,ok.qn,ok.bs,ok.jh,ok.oq,ok.qO,ok.iQ,ok.lF]
theorem aP.Ok.Iu (ok:X.Ok):(mJ X e).Ok :=
 #[ok.mod,ok.kind,ok.glob,ok.blt,ok.above,ok.inj,ok.has,ok.o8,#[λ h=>(nomatch h),λ h=>(nomatch h)],ok.frames,ok.qJ,ok.qn,ok.bs,ok.jh,ok.oq,ok.qO,ok.iQ,ok.lF]
theorem Inv.H_ (I:Inv X pins σ H s):Inv (oy X pins W) [] σ H s :=
 #[I.ok.H_,I.os,I.bare,I.base,I.loc,I.cell,I.free,I.ia,λ p aw=>I.pin p (by rw [wG] at aw;exact aw),I.a7,I.len]
theorem Inv.oO (I:Inv (oy X pins W) wA σ H s):Inv X pins σ H s :=
 #[I.ok.oO,I.os,I.bare,I.base,I.loc,I.cell,I.free,I.ia,λ p aw=>I.pin p (uC _ aw),I.a7,I.len]
theorem Inv.Iu (I:Inv X pins σ H s):Inv (mJ X e) pins σ H s:=#[I.ok.Iu,I.os,I.bare,I.base,I.loc,I.cell,I.free,I.ia,I.pin,I.a7,I.len]
theorem Inv.DX (ok:X.Ok) (I:Inv (mJ X e) pins σ H s):Inv X pins σ H s:=#[ok,I.os,I.bare,I.base,I.loc,I.cell,I.free,I.ia,I.pin,I.a7,I.len]
theorem gw.oO {b:Addr} (f:gw (oy X pins W) wA b):gw X pins b:=#[f.s0,f.loc,f.cell,λ p aw=>f.pin p (uC _ aw)]
end
structure Under (K:cD) (C F:Addr):Prop where
 is:PySem.W.excIn K C jJ "ValueError.__new__" = true
 NG:PySem.W.mroIn K C (.ref F)=some true
 ne:C≠F
noncomputable def aaA (K:cD) (F:Addr) (i:Nat) (E:dA) (bz ts:de):de:=λ D σ H=>bz D σ H /\ ∀ C d H1,E (.ref C) d H1->Under K C F /\ ∀ (e:Addr) (σ1:St),H1 e=none->i < σ1.length ->
 ts { bu:=λ σ2 au=>D.bu ((σ2.set i (some .bh)).set i none) au,kG:=D.kG,aQ:=λ σ2 au=>D.aQ ((σ2.set i (some .bh)).set i none) au,cK:=λ σ2 au=>D.cK ((σ2.set i (some .bh)).set i none) au } (σ1.set i (some (.ref e))) (upd H1 e (nx e C d))
theorem je.ph {w:World} {x:Str} {st:Stmt} {f:Addr} {fd:FuncData} {N ag:bT} {k:Nat} {sp:b3} (F:je K x qual st f fd) (S:cE N ag (bZ st)) (len : ∀ vs H Q E,sp vs H Q E->vs.length=ag.length)
  (ou : ∀ (bg:Value) (A:Around) (outer:List Env) (s:Shared) (H:az) (vs:bl) (Q:bG) (E:dA),er k (A.deeper (envOfC qual (bZ st) s.heap.objs.size f bg))->sp vs H Q E ->
   ∃ t,jg (k6 (iL P w) P w K mg base N qual (bZ st) f bg A outer s H E) (jB st) t/\t { bu:=λ _ H'=>Q .bh H',kG:=Q } (start N vs) H):eo P w K mg base (iL P w) (k+1) f fd ag sp:=by
 obtain ⟨f7,b6,cX,doc,pm,an,bg,cK,og,rfl,lk,iN⟩:=F.ex;exact PK lk iN S len λ A outer s H vs Q E aq gv=>let ⟨t,a,b⟩:=ou bg A outer s H vs Q E aq gv;⟨t,a.o,b⟩
end bM
namespace PySem.W
open PySem PySem.Spec PySem.Calls PyProof.Rows
section
variable {w:World} {E:b2} {K:Frag} {x C:Addr} {qb:Obj} {b6:Option Obj}
theorem ai_ {a g:Value} {name:Str} (ak:(clsIn K C).isSome=true) (ay:findIn K (.ref C) name=some (some a)) (aS:specialIn K a "__get__" = some (some g)) (aU:takesIn K a=some true):findObj K C b6 name=some (.bind g a):=by
 obtain ⟨cd,ak⟩:=C6.mp ak;unfold findObj;rw [ak,Option.bind_some,ay,Option.bind_some];simp [aS,aU]
structure kZ (K:Frag) (C:Addr):Prop where
 cls:(clsIn K C).isSome=true
 ga:findIn K (.ref C) "__getattribute__" = some (some (.builtin "BaseException.__getattribute__"))
 Mv:findIn K (.ref C) "__getattr__" = some none
 at_:findIn K (.ref C) "__class__" = some (some (.builtin "object.__class__"))
 get:specialIn K (.builtin "object.__class__") "__get__" = some (some (.builtin "getset_descriptor.__get__"))
 bI:takesIn K (.builtin "object.__class__")=some true
 b7:mroIn K C (.type "object")=some true
 be:mroIn K C (.type "BaseException")=some true
theorem afr {bI:Tok} {Q:Fin->Shared->Prop} (X:K.In s.heap) (I:InstAt s.heap x qb C b6) (c:kZ K C) (h:Q (.done (.ret (.ref C))) s) :
  wpAny (model prog w) A (Builtin.«object.__getattribute__» ⟨[.ref x,.str "__class__" bI],[]⟩) Q E s:=by
 obtain ⟨cj,g,d,t,os⟩:=s;have rC:=I.type (M:=model prog w);have i7:=looks_find (M:=model prog w) X I (ai_ c.cls c.at_ c.get c.bI);refine aC (bH (aC (bH (aC (rC.at (aC (i7.at ?_)))))));show wpAny _ _ (holding [Value.builtin "object.__class__"] (call (.builtin "getset_descriptor.__get__") [.builtin "object.__class__", .ref x,.ref C])>>=ret) _ _ _;exact aC (hY (pG (class_get X I c.b7 (bH h))))
theorem R3 {PY:Value} {Q:Unit->Shared->Prop} (X:K.In s.heap) (I:InstAt s.heap x qb C b6) (c:kZ K C) (h:Q () s):wpAny (model prog w) A (checkBuiltinCall "BaseException.__getattribute__" ⟨[.ref x,PY],[]⟩) Q E s:=by
 have aG:builtinKind "BaseException.__getattribute__" = some .slot:=by decide +kernel
 have abq:splitId "BaseException.__getattribute__" = some ("BaseException", "__getattribute__"):=by decide +kernel
 have ay:=F.args_bexc_ga (.ref x) PY;obtain ⟨cj,g,d,t,os⟩:=s;have rC:=I.type (M:=model prog w);have i7:=looks_mroIn (M:=model prog w) X c.be;simp only [checkBuiltinCall,aG,abq];refine aC ?_;unfold isInstance;refine aC (rC.at (i7.at ?_))
 repeat (first | assumption | wp_step)
theorem afq {Q:c0->Shared->Prop} (X:K.In s.heap) (I:InstAt s.heap x qb C b6) (c:kZ K C) (h:Q (some (.ref C)) { s with toks:=s.toks+1 }):wpAny (model prog w) A (getAttr? (.ref x) "__class__") Q E s:=by
 obtain ⟨cj,g,d,t,os⟩:=s;have rC:=I.type (M:=model prog w);have i7:=Ah (M:=model prog w) X c.ga;have bM:=Ah (M:=model prog w) X c.Mv;have di:=Dt.ga.bind (.ref x);unfold getAttr? getAttrBy? getAttrBy;refine aC (wpAny_mkText (aC (pF (hY (aC (rC.at (aC (i7.at ?_))))))));show wpAny _ _ (getAttrByItsOwn _ _ _ _ _ _) _ _ _;unfold getAttrByItsOwn hookBefore;refine aC (bM.at (aC (pF (hY ?_))));show wpAny _ _ (boundAndCalled _ _ _) _ _ _;unfold boundAndCalled
 repeat (any_goals (first | assumption | wp_step))
 refine Du Dt.ga.plain PySem.F.entry_bexc_ga (R3 X I c (afr X I c ?_));exact handed_on rfl (bH h)
noncomputable def Zu (x C:Addr) (h:Heap):Prop := ∃ qb b6,InstAt h x qb C b6
theorem aeo (c:kZ K C):KitX K (.ref x) (.ref C) (Zu x C) where
 ty:=λ _ _ _ ⟨_,_,I⟩=>I.type
 it:=λ _ _ X _=>by
  obtain ⟨V4,n7⟩:=C6.mp c.cls;unfold clsIn at n7;split at n7
  ·rename_i cq d' V3 pn aJ;intro aj5 xB Ey s' k q;unfold isType loadHead;exact aC (wpAny_loadPart (k _ _ (X _ _ aJ)) (bH q))
  ·cases n7
 ne:=λ h xY dd its n cR X XQ=>by
  obtain ⟨V4,n7⟩:=C6.mp c.cls;refine sW.mpr λ q=>?_
  have e:C=xY:=Value.ref.inj (oC.mp q);subst e;unfold clsIn at n7;split at n7
  ·rename_i cq d' V3 pn aJ;have z:=(X _ _ aJ).symm.trans XQ;cases z
  ·cases n7
 ca:=λ X ⟨_,_,I⟩ k=>afq X I c k
end
end PySem.W
namespace bM
open PySem PySem.Spec PyProof.Rows rF
noncomputable def Zx:V->c0
 | .ref a=>some (.ref a)
 | .ty T=>some (.type T)
 | _=>none
noncomputable def aap (K:cD):bl->az->bG->Prop:=λ xs H Q => ∃ e C c A1 b,xs=[.ref e,c]/\H e=some (nx e C none)/\Zx c=some A1/\PySem.W.kZ K C/\PySem.W.kitOne K (.ref C) A1=some b/\Q (.aX b) H
theorem mT {X:aP}:gf X (.builtin "isinstance") (aap X.K):=by
 intro pins s σ H xs us Q I r h;obtain ⟨e,C,c,A1,b,rfl,he,ak,fN,aG,q⟩:=h;obtain ⟨u,cV,rfl,a5,rc⟩:=vals2 r;cases (show u=Value.ref e from a5);have hw:cV=A1:=by
  cases c with
  | ref a=>cases ak;exact rc
  | ty T=>cases ak;exact rc
  | _=>cases ak
 subst hw;obtain ⟨⟨cb,vs,ah,ai,aH,a4,_⟩,_,_⟩:=(show et X.prog X.w H s.heap e (nx e C none) from I.a7 e _ he)
 refine nD (PySem.W.aeo fN) I.eb #[cb,none,ah,ai,?_,?_] aG (λ z=>?_) λ bI=>#[.aX b,H,I.tok _,rfl,q]
 ·unfold PySem.W.notCls;rw [a4]
 ·rw [aH];trivial
 ·cases z
structure jW (k:Nat) (A:Around):Prop where
 oX:A.depth+3 * k+5<recursionLimit
 un:A.units+16 * k+200<cLine
theorem er.u {k:Nat} (r:er k A):jW k A:=#[r.oX,r.un]
theorem er.mark {k:Nat} (r:er k A) (e:c0):jW k (A.mark e):=#[r.oX,r.un]
theorem jW.mono {j k:Nat} (r:jW k A) (h:j<=k):jW j A:=#[by have:=r.oX;omega,by have:=r.un;omega]
theorem jW.deeper {k:Nat} (r:jW (k+1) A) (env:Env):jW k (A.deeper env) :=
 #[by have:=r.oX;show A.depth+1+3 * k+5<_;omega,by have:=r.un;show A.units+3+16 * k+200<_;omega]
theorem jW.depth {k:Nat} (r:jW k A):A.depth<recursionLimit:=by have:=r.oX;omega
structure HU (P:Program) (w:World) (K:cD) (mg:Str->c0) (base:Heap) (k:Nat) (f:Addr) (fd:FuncData) (ag:bT) (sp:b3):Prop where
 len : ∀ vs H Q E,sp vs H Q E->vs.length=ag.length
 run : ∀ (A:Around) (outer:List Env) (s:Shared) (H:az) (args:Args) (us:List Value) (vs:bl) (Q:bG) (E:dA),jW k A->oj P w K mg base A outer s H->BindsTo s fd args (ag.zip us)->Vals vs us->sp vs H Q E ->
  codeAny (model P w) A (.call (.ref f) args) (Et cS outer P w H s Q E) s
noncomputable abbrev Bw (P:Program) (w:World) (K:cD) (mg:Str->c0) (base:Heap) (N:bT) (qual:Str) (scope:Scope) (f:Addr) (cd:Value) (A:Around) (outer:List Env) (s:Shared) (H:az) (E:dA):aP :=
 { k6 cS P w K mg base N qual scope f cd A outer s H E with calm:=false,warm:=false,c3:=λ _ _=>False }
theorem ahx {w:World} {N ag:bT} {f:Addr} {outer:List Env} {E:dA} {vs:bl}
  (S:cE N ag scope) (bX:oj P w K mg base A outer s H) (av:vs.length=ag.length) (r:Vals vs us)
  (x:InCallC s s.heap.objs.size (bindL (envOfC qual scope s.heap.objs.size f cd).kindOf (ag.zip us) λ _=>none) (cellsFrom (s.heap.objs.size+1) scope.names []) (bindC (envOfC qual scope s.heap.objs.size f cd).kindOf (ag.zip us) λ _=>none) s1) :
  Inv (Bw P w K mg base N qual scope f cd A outer s H E) [] (start N vs) H s1:=by
 have I:Inv (k6 cS P w K mg base N qual scope f cd ({ A with handled:=none }) outer s H E) [] (start N vs) H s1:=JH (A:={ A with handled:=none }) S rfl #[bX.frames,bX.mod,bX.bs,bX.jh,bX.iQ,bX.lF,bX.a7,bX.bare] av r x;have ok:=I.ok;exact #[#[ok.mod,ok.kind,ok.glob,ok.blt,ok.above,ok.inj,ok.has,ok.o8,#[λ h=>(nomatch h),λ h=>(nomatch h)],ok.frames,ok.qJ,ok.qn,ok.bs,ok.jh,ok.oq,ok.qO,ok.iQ,ok.lF],I.os,I.bare,I.base,I.loc,I.cell,I.free,I.ia,I.pin,I.a7,I.len]
theorem je.YT {w:World} {x:Str} {st:Stmt} {f:Addr} {fd:FuncData} {N ag:bT} {k:Nat} {sp:b3} (F:je K x qual st f fd) (S:cE N ag (bZ st)) (len : ∀ vs H Q E,sp vs H Q E->vs.length=ag.length)
  (ou : ∀ (bg:Value) (A:Around) (outer:List Env) (s:Shared) (H:az) (vs:bl) (Q:bG) (E:dA),jW k (A.deeper (envOfC qual (bZ st) s.heap.objs.size f bg))->sp vs H Q E ->
   ∃ t,jg (Bw P w K mg base N qual (bZ st) f bg A outer s H E) (jB st) t/\t { bu:=λ _ H'=>Q .bh H',kG:=Q } (start N vs) H):HU P w K mg base (k+1) f fd ag sp:=by
 obtain ⟨f7,b6,cX,doc,pm,an,bg,cK,og,rfl,lk,iN⟩:=F.ex;refine #[len,λ A outer s H args us vs Q E aq bX ae r gv=>?_];have av:=len _ _ _ _ gv;have j3:K.In s.heap:=bX.mod.kS.keeps λ b o e=>(bX.bs b o e).1
 have lim:s.heap.NoLimit:=bX.mod.nolimit.keeps λ b o e=>(bX.bs b o e).1
 have zQ : ∀ y∈ag.zip us,(bZ st).names.lookup y.1=some .local\/((bZ st).names.lookup y.1=some .cell/\((cellsFrom (s.heap.objs.size+1) (bZ st).names []).lookup y.1).isSome=true):=λ ⟨n,v⟩ aT=>by
  rcases S.par n (List.of_mem_zip aT).1 with q | q
  ·exact .inl q
  ·exact .inr #[q,C5 _ _ _ (.inl q)]
 refine Ig aq.depth (j3 _ _ lk) rfl S.co S.gen rfl (Ih j3 iN) (ae _ _ _ _ ?_);refine Ii S.kind zQ λ env he s1 x=>?_
 subst he;refine #[lim.keeps x.toInCall.keep,codeAny_func ?_];obtain ⟨t,aU,aZ⟩:=ou bg A outer s H vs Q E (aq.deeper _) gv;have I:Inv (Bw P w K mg base N qual (bZ st) f bg A outer s H E) [] (start N vs) H s1:=ahx S bX av r x;refine hb (aU.o [] s1 (start N vs) H _ I aZ) (λ da s' aB=>?_) λ e s' aB=>aB.elim
 have fin : ∀ {σ':St} {H':az} {v:V} {u:Value},Inv (Bw P w K mg base N qual (bZ st) f bg A outer s H E) [] σ' H' s'->RelV v u->Q v H'->xt outer P w H s Q u s' :=
  λ {σ' H' v u} J cx q=>#[v,H',J.os,J.bare,J.base,J.a7,cx,q]
 cases da with
 | ret u =>
  obtain ⟨v,σ',H',J,cx,q⟩:=aB;exact fin J cx q
 | next =>
  obtain ⟨σ',H',J,q⟩:=aB;exact fin (v:=V.bh) (u:=Value.none) J rfl q
 | brk =>
  obtain ⟨_,_,_,q⟩:=aB;exact False.elim q
 | cont =>
  obtain ⟨_,_,_,q⟩:=aB;exact False.elim q
section
variable {X:aP} {k:Nat} {f:Addr} {fd:FuncData} {ag:bT} {sp:b3} {x:Str} {p pos:Pos} {e:Expr} {ar:List Expr} {t:dc}
theorem Jk (F:HU X.prog X.w X.K X.mg X.base k f fd ag sp) (aq:jW k X.A) (aS:dW X x) (hm:X.mg x=some (.ref f)) (aG:PySem.W.keepIn X.K (.ref f)=true) (ae:Binds X.K fd ag [])
  (ay:fL X (e::ar) t) (eY:(x == ("__debug__" : Str))=false:=by decide) (c4:noStar e=true:=by rfl) (dH:(backTo pos (starEach ar X.env)).any (·.1)=false:=by rfl) :
  bO X (.Call (.Name x p) (e::ar) [] pos) (mK sp [] iC t):=#[by
 intro pins s σ H Q I h;refine pH (pV I aS hm ?_ eY);refine uF (h₀:=X.base) I.ok.mod.kS aG (bq (ay.o pos pins s σ H _ I h) ?_) (u_ c4 ar X.env) dH;rintro us s1 ⟨vs,H1,aK,r,q⟩;refine #[aK.eb,?_];have b8:Vals (vs++[]) (us++[]):=r.append .nil;have av:(us++[]).length=ag.length:=by rw [<-b8.length];exact F.len _ _ _ _ q
 refine pG (nE (F.run X.A X.stack s1 H1 #[us,[]] (us++[]) (vs++[]) Q iC aq aK.uj (ae s1 us aK.eb av) b8 q) λ r s' aZ=>?_);cases r with
 | error e=>exact False.elim aZ
 | ok da =>
  cases da with
  | ret u=>exact aK.after aZ
  | next=>exact False.elim aZ
  | brk=>exact False.elim aZ
  | cont=>exact False.elim aZ]
end
open PySem PySem.Spec PySem.SeqAt PyProof.Rows rF
theorem TM (k:Bool) : ∀ bs:List Bool,(bs.map Value.bool).countP (isBoolOf k)=bs.count k
 | []=>rfl
 | b::bs=>by
  rw [iZ,List.countP_cons,List.count_cons,TM k bs];rfl
theorem Rx (k:Bool) (bs:List Bool) (y:Value) (aT:y∈bs.map Value.bool) (A:Around) (s:Shared):EqAt A s y (.bool k) (isBoolOf k y):=by
 obtain ⟨b,_,rfl⟩:=e3.mp aT;exact EqAt.bool_bool b k
section
variable {X:aP}
noncomputable def adp:V->bl->az->bG->Prop:=λ x vs H Q => ∃ (l:Addr) (bs:List Bool) (k:Bool),x=.ref l/\vs=[.aX k]/\H l=some (.lst (bs.map V.aX))/\Q (.int (bs.count k:Nat)) H
theorem agc:qj X "list.count" adp:=by
 intro pins s σ H x vs v us Q I a5 cx h;obtain ⟨l,bs,k,rfl,rfl,hP,q⟩:=h;cases a5;obtain ⟨u,rfl,fp⟩:=cx.one;cases (show u=Value.bool k from fp);obtain ⟨z,its,n,r,av,e⟩:=I.oo hP;cases DM r;refine rd PySem.F.slot_list_count #[_,e,rfl] PySem.F.entry_list_count (PySem.F.args_list_count_2 _ _) (list_countAt l _ n none #[] (.bool k) (isBoolOf k)) #[e,λ y aT=>Rx k bs y (by simpa using aT) _ _,?_];refine #[.int (bs.count k:Nat),H,I.tok _,#[s.toks,?_],q];rw [show (bs.map Value.bool).toArray.toList=bs.map Value.bool from rfl,TM]
noncomputable def adq:V->bl->az->bG->Prop:=λ x vs H Q => ∃ (l:Addr) (bs:List Bool) (k:Bool) (j:Nat),x=.ref l/\vs=[.aX k]/\H l=some (.lst (bs.map V.aX))/\bs[j]?=some k/\(∀ m,m<j->bs[m]?=some (!k))/\bs.length<=1000/\Q (.int (j:Nat)) H
theorem agd:qj X "list.index" adq:=by
 intro pins s σ H x vs v us Q I a5 cx h;obtain ⟨l,bs,k,j,rfl,rfl,hP,b5,ae,a6,q⟩:=h;cases a5;obtain ⟨u,rfl,fp⟩:=cx.one;cases (show u=Value.bool k from fp);obtain ⟨z,its,n,r,av,e⟩:=I.oo hP;cases DM r;have Nl:j<bs.length:=(fJ.mp b5).1;refine rd PySem.F.slot_list_index #[_,e,rfl] PySem.F.entry_list_index (PySem.F.args_list_index_2 _ _)
  (list_indexAt l _ n none #[] (.bool k) (isBoolOf k) j (by simpa using Nl) .aD ?_ ?_) #[e,λ y aT=>Rx k bs y (by simpa using aT) _ _,#[.int (j:Nat),H,I.tok _,#[s.toks,rfl],q]]
 ·have:bs[j]=k:=by rw [fT Nl] at b5;exact gR b5
  simp [isBoolOf,this]
 ·intro m hm ea;have ai:=ae m ea;have Xv:m<bs.length:=by omega
  have:bs[m] = !k:=by rw [fT Xv] at ai;exact gR ai
  simp [isBoolOf,this]
end
section
variable {a b:Addr} {bp:TE} {Q:bG}
theorem Rw (aF:min xs.length ys.length<=sizeLine) (Pv:Nat->St->az->bl->Prop) (h0:Pv 0 (pick js σ) (upd H1 D (.lst [])) [])
  (av : ∀ i σ' H' zs,H' D=some (.lst zs)->Pv i σ' H' zs->a0 K H' a xs/\a0 K H' b ys)
  (aB : ∀ i x y p σ' H' zs (R:St->V->az->Prop),xs[i]?=some x->ys[i]?=some y->H' p=none->H' D=some (.lst zs)->zs.length=i->Pv i σ' H' zs->(∀ σ2 z bc,bc D=some (.lst zs)->Pv (i+1) σ2 (upd bc D (.lst (zs++[z]))) (zs++[z])->R σ2 z bc) ->
   g (.ref p) σ' (upd H' p (.tup [x,y])) λ σ2 aW=>bp σ2 aW λ z bc=>R σ2 z bc)
  (c4 : ∀ σ' H' zs,H' D=some (.lst zs)->zs.length=min xs.length ys.length->Pv (min xs.length ys.length) σ' H' zs->Q (.ref D) H'):kn (vG K a b) D js g mS bp σ H1 Q:=by
 refine Aw aF Pv h0 (λ i σ' H' zs ax a8 p=>?_) (λ σ' H' zs a8 i8 c=>#[?_,c4 σ' H' zs a8 i8 c]) λ i σ' H' zs x au R ax a8 a6 p aj k=>?_
 ·obtain ⟨dn,ez⟩:=av i σ' H' zs a8 p;have ah:i<xs.length:=by omega
  have ai:i<ys.length:=by omega
  exact #[xs,ys,xs[i],ys[i],dn,ez,by simp [ah],by simp [ai]]
 ·obtain ⟨dn,ez⟩:=av _ σ' H' zs a8 c;exact #[xs,ys,dn,ez,.aD]
 ·obtain ⟨dn,ez⟩:=av i σ' H' zs a8 p;obtain ⟨q,aZ,rfl,e7,ij,rfl,lM⟩:=aj;obtain ⟨ex,eO⟩:=lM xs ys dn ez;exact aB i e7 ij q σ' H' zs R ex eO aZ a8 a6 p k
end
theorem T8 {a:Addr} {bp:TE} {Q:bG} {o:dG} {f:V->V} (aw:pick js σ=o::σ0) (aF:xs.length<=sizeLine) (a8:H1 D=none) (dT:a0 K H1 a xs)
  (aB : ∀ (x:V) (H':az) (R:bG),aE H1 H'->x∈xs->R (f x) H'->bp (some x::σ0) H' R) (q:Q (.ref D) (upd H1 D (.lst (xs.map f)))):kn (rZ K a) D js (gx 0) mS bp σ H1 Q:=by
 refine DP (xs:=xs) aF (λ i σ' H' ys=>(∃ u,σ'=u::σ0)/\ys=(xs.take i).map f/\H'=upd H1 D (.lst ys)) #[#[o,aw],rfl,rfl] ?_ ?_ ?_
 ·rintro i σ' H' ys _ _ ⟨_,rfl,rfl⟩;exact dT.DL a8
 ·rintro i x σ' H' ys R aj _ _ ⟨⟨u,rfl⟩,rfl,rfl⟩ k;refine aB x _ _ (cJ.aE.new a8) (dr aj) (k _ _ _ bL #[#[_,rfl],(AH aj).symm,I_])
 ·rintro σ' H' ys _ _ ⟨_,rfl,rfl⟩;rw [sV];exact q
theorem nK {X:aP} {ar:List Expr} {k:Nat} {pos:Pos} {t:mn} (eW:X.K=K) (ak:X.warm=true) (h:vI X ar t) (aF:(assignEach ar X.env).length=n:=by rfl) (c4:(assignEach ar X.env).findIdx? (·.1)=none:=by rfl):mY X (.Tuple ar k pos) (wi K n t):=by
 subst eW;exact nH ak h aF c4
noncomputable def aaz (c:TT) (t u:de):de:=λ D σ H => ∃ J:St->az->Prop,(c σ H λ b H1=>if b=true then t { D with bu:=J } σ H1 else u { D with bu:=J } σ H1) /\ ∀ σ' H',J σ' H'->D.bu σ' H'
theorem pO {X:aP} {c:Expr} {a b:List Stmt} {c7:TT} {t u:de} {pos:Pos} (ak:l7 X c c7) (ay:jg X a t) (ae:jg X b u):h3 X (.If c a b pos) (aaz c7 t u):=#[by
 rintro pins s σ H D I ⟨J,ah,ai⟩;refine bq ((cN ak ay ae).o pins s σ H { D with bu:=J } I ah) λ f s' aB=>?_
 cases f with
 | next=>obtain ⟨σ',H',j2,q⟩:=aB;exact #[σ',H',j2,ai σ' H' q]
 | brk=>exact aB
 | cont=>exact aB
 | ret u=>exact aB]
theorem aeL {w:World} {cH:ik} {k:Nat} {f:Addr} {fd:FuncData} {ag:bT}:eo P w K mg base cH k f fd ag (λ _ _ _ _=>False):=#[λ _ _ _ _ h=>h.elim,λ _ _ _ _ _ _ _ _ _ _ _ _ _ h=>h.elim]
end bM
namespace PySem.W
theorem J3 {K:Frag} {C:Addr} {b:Value} {r:Bool} (h:mroIn K C b=some r):(clsIn K C).isSome=true:=by
 unfold mroIn at h;obtain ⟨cd,a,_⟩:=Ai.mp h;rw [a];rfl
theorem w3 {K:Frag} {C:Addr}:kitOne K (.ref C) (.ref C)=some true:=by
 unfold kitOne;rw [if_pos .zs]
theorem af7 {K:Frag} {C:Addr} (ty:typeIn K (.ref D)=some (.type "type")) (mo:mroIn K D (.type "object")=some true) (m:mroIn K C (.ref D)=some false) (n:C≠D):kitOne K (.ref C) (.ref D)=some false:=by
 unfold kitOne;rw [if_neg (λ z=>n (by have:=oC.mp z;injection this))];unfold kitCls;show (if ((clsIn K D).isSome&&typeIn K (.ref D) == some (.type "type"))=true then subIn K (.ref C) (.ref D) else none)=_;rw [J3 mo,ty];exact m
theorem QX {K:Frag} {C:Addr} (m:mroIn K C (.type "ValueError")=some true):kitOne K (.ref C) (.type "ValueError")=some true:=by
 unfold kitOne;rw [if_neg (λ z=>by cases oC.mp z)];unfold kitCls;show (if kitMeta "ValueError" = true then subIn K (.ref C) (.type "ValueError") else none)=_;rw [if_pos (by decide +kernel)];exact m
end PySem.W
namespace gu
noncomputable def pv (p:Nat):Nat->Nat->Nat
 | 0,_=>0
 | f+1,n=>if 2<=p/\1<=n/\n % p=0 then pv p f (n / p)+1 else 0
theorem Sk (p:Nat) : ∀ f n:Nat,n<=f->pv p (f+1) n=pv p f n
 | 0,n,h=>by
  obtain rfl:n=0:=by omega
  exact if_neg (λ z=>by omega)
 | f+1,n,h=>by
  show (if 2<=p/\1<=n/\n % p=0 then pv p (f+1) (n / p)+1 else 0)=if 2<=p/\1<=n/\n % p=0 then pv p f (n / p)+1 else 0
  by_cases q:2<=p/\1<=n/\n % p=0
  ·rw [if_pos q,if_pos q,Sk p f (n / p) (by have:=pT q.2.1 q.1;omega)]
  ·rw [if_neg q,if_neg q]
theorem IS (p n:Nat) : ∀ k:Nat,pv p (n+k) n=pv p n n
 | 0=>rfl
 | k+1=>by rw [show n+(k+1)=(n+k)+1 from rfl,Sk p (n+k) n .aD];exact IS p n k
noncomputable def cnt (p:Nat) (n:Nat):Nat:=pv p n n
theorem QL (p n:Nat):cnt p n=if 2<=p/\1<=n/\n % p=0 then cnt p (n / p)+1 else 0:=by
 have e:cnt p n=pv p (n+1) n:=(IS p n 1).symm;rw [e];show (if 2<=p/\1<=n/\n % p=0 then pv p n (n / p)+1 else 0)=_;by_cases q:2<=p/\1<=n/\n % p=0
 ·rw [if_pos q,if_pos q];have lt:=pT q.2.1 q.1;have:=IS p (n / p) (n - n / p);rw [show n / p+(n - n / p)=n by omega] at this;rw [this];rfl
 ·rw [if_neg q,if_neg q]
theorem Dz {p:Nat} (aw:2<=p) (aF:1<=n) (h:n % p=0):cnt p n=cnt p (n / p)+1:=by
 rw [QL p n,if_pos #[aw,aF,h]]
theorem wX {p:Nat} (h:n % p≠0):cnt p n=0:=by
 rw [QL,if_neg λ z=>h z.2.2]
noncomputable def mH:eG->Nat->eG
 | [],_=>[]
 | p::ag,n=>cnt p n::mH ag (strip p n)
theorem TO : ∀ (ag:eG) (n:Nat),(mH ag n).length=ag.length
 | [],_=>rfl
 | p::ag,n=>by simp only [mH,j1,TO ag]
theorem SY : ∀ (ag:eG) (i p n:Nat),ag[i]?=some p->mH (ag.take (i+1)) n=mH (ag.take i) n++[cnt p (ib (ag.take i) n)]
 | [],_,_,_,h=>by cases h
 | q::ag,0,p,n,h=>by
  have z:q=p:=gR h;subst z;rfl
 | q::ag,i+1,p,n,h=>by
  show cnt q n::mH (ag.take (i+1)) (strip q n)=cnt q n::(mH (ag.take i) (strip q n)++[cnt p (ib (ag.take i) (strip q n))]);rw [SY ag i p (strip q n) h]
theorem Jb {p:Nat} (aw:2<=p) : ∀ n:Nat,1<=n->n=p ^ cnt p n * strip p n:=by
 intro n
 induction n using Nat.strongRecOn with
 | _ n cQ =>
  intro aF;by_cases h:n % p=0
  ·have ah:=xa aF h;have e:=cQ (n / p) (pT aF aw) ah;rw [Dz aw aF h,w8 aw aF h,Nat.pow_succ];have aO:n=p * (n / p):=(Nat.mul_div_cancel' (uO h)).symm
   calc n=p * (n / p):=aO
    _=p * (p ^ cnt p (n / p) * strip p (n / p)):=by rw [<-e]
    _=p ^ cnt p (n / p) * p * strip p (n / p):=by rw [<-sS,sO p]
  ·rw [wX h,u4 h,Nat.pow_zero,Nat.one_mul]
theorem Qf {p:Nat} (aw:2<=p) : ∀ (e r:Nat),1<=r->r % p≠0->cnt p (p ^ e * r)=e
 | 0,r,_,h=>by rw [Nat.pow_zero,Nat.one_mul,wX h]
 | e+1,r,aq,h=>by
  have aM:p ^ (e+1) * r=p * (p ^ e * r):=by rw [Nat.pow_succ,sO (p ^ e) p,sS]
  have k8:1<=p ^ e * r:=Nat.mul_pos (Af .aD) aq;rw [aM,Dz aw (Nat.mul_pos .aD k8) (Nat.mul_mod_right p _),Nat.mul_div_cancel_left _ .aD,Qf aw e r aq h]
theorem afI {p q:Nat} (aw:2<=p) (aZ:2<=q) (c:Nat.Coprime p q) (aF:1<=n):cnt p (strip q n)=cnt p n:=by
 have aM:=Jb aw n aF;have aO:=Jb aZ n aF;have aB:=Au aZ n aF;have aq:=Au aw n aF;have yQ:=agN aw n aF;have U5:Nat.Coprime (p ^ cnt p n) (q ^ cnt q n):=Nat.Coprime.pow _ _ c;have hd:p ^ cnt p n∣strip q n:=by
  have:p ^ cnt p n∣q ^ cnt q n * strip q n:=by rw [<-aO];exact #[strip p n,aM]
  exact U5.dvd_of_dvd_mul_left this
 obtain ⟨r,kh⟩:=hd;have fG:1<=r:=by
  rcases Nat.eq_zero_or_pos r with z | z
  ·rw [z,Nat.mul_zero] at kh;omega
  ·exact z
 have XE:r % p≠0:=λ z=>by
  obtain ⟨t,aU⟩:=uO z;have el:n=p ^ cnt p n * (p * (t * q ^ cnt q n)):=by
   calc n=q ^ cnt q n * strip q n:=aO
    _=q ^ cnt q n * (p ^ cnt p n * (p * t)):=by rw [kh,aU]
    _=p ^ cnt p n * (p * (t * q ^ cnt q n)):=by
     rw [sO (q ^ cnt q n),sS,sS,sO t]
  have l9:p ^ cnt p n * strip p n=p ^ cnt p n * (p * (t * q ^ cnt q n)):=by rw [<-aM];exact el
  have rH:=Nat.eq_of_mul_eq_mul_left (Af .aD) l9;rw [rH,Nat.mul_mod_right] at yQ;exact yQ rfl
 rw [kh,Qf aw _ r fG XE]
theorem Sr : ∀ (ag:eG),(∀ p∈ag,2<=p)->ag.Pairwise Nat.Coprime -> ∀ n,1<=n->mH ag n=ag.map λ p=>cnt p n
 | [],_,_,_,_=>rfl
 | p::ag,h,ak,n,aF=>by
  have aw:=h p gS;rw [List.pairwise_cons] at ak;show cnt p n::mH ag (strip p n)=cnt p n::ag.map λ q=>cnt q n
  rw [Sr ag (λ q aZ=>h q (ht _ aZ)) ak.2 (strip p n) (Au aw n aF)];congr 1;refine wR λ q aZ=>?_
  exact afI (h q (ht _ aZ)) aw (ak.1 q aZ).symm aF
noncomputable def hc (n:Nat):eG:=dE.map λ p=>cnt p n
theorem Tu (aF:1<=n):hc n=mH dE n:=(Sr dE mM Ea n aF).symm
noncomputable def chg (n d:Nat):aV:=List.zipWith (λ a b:Nat=>(a:Int) - (b:Int)) (hc n) (hc d)
theorem J2 (n d:Nat):(chg n d).length=10:=by simp [chg,hc,dE]
noncomputable def e0 (c p:aV):Bool:=(c.zip p).all λ x=>decide (0<=x.2+x.1)
noncomputable def dq:fq->aV->Option Nat
 | [],_=>none
 | c::r,p=>if e0 c p=true then some 0 else (dq r p).map (· + 1)
noncomputable def cT (p c:aV) (m:Int):aV:=List.zipWith (λ a b=>a+m * b) p c
noncomputable def nn (p:aV):Bool:=p.all λ x=>decide (0<=x)
theorem ahL {p c:aV} (aw:p.length=10) (ak:c.length=10):(cT p c m).length=10:=by simp [cT,aw,ak]
noncomputable def m_ (rows:fq):Prop := ∀ c∈rows,c.length=10
theorem s9 : ∀ {rows:fq} {p:aV} {i:Nat},dq rows p=some i -> ∃ c,rows[i]?=some c/\e0 c p=true/\i<rows.length
 | [],_,_,h=>by cases h
 | c::r,p,i,h=>by
  unfold dq at h;by_cases ak:e0 c p=true
  ·rw [if_pos ak] at h;cases h;exact #[c,rfl,ak,.zs]
  ·rw [if_neg ak] at h;cases e:dq r p with
   | none=>rw [e] at h;cases h
   | some j =>
    rw [e] at h;have b5:j+1=i:=gR h;subst b5;obtain ⟨cq,ah,ai,aH⟩:=s9 e;exact #[cq,by simpa using ah,ai,by simp;omega]
theorem DB : ∀ (rows:fq) (p:aV) (i:Nat),(∀ j,j<i -> ∀ c,rows[j]?=some c->e0 c p=false)->(∀ c,rows[i]?=some c->e0 c p=true)->i<rows.length->dq rows p=some i
 | [],_,_,_,_,h=>by simp at h
 | c::r,p,0,_,h,_=>by
  unfold dq;rw [if_pos (h c rfl)]
 | c::r,p,i+1,h,h',av=>by
  have h0:=h 0 .aD c rfl;unfold dq;rw [h0,if_neg .aA,DB r p i (λ j b5 cq e=>h (j+1) .aD cq (by simpa using e)) (λ cq e=>h' cq (by simpa using e)) (by simpa using av)];rfl
theorem JF : ∀ (rows:fq) (p:aV),(∀ (j:Nat) c,rows[j]?=some c->e0 c p=false)->dq rows p=none
 | [],_,_=>rfl
 | c::r,p,h=>by
  unfold dq;rw [h 0 c rfl,if_neg .aA,JF r p λ j cq e=>h (j+1) cq (by simpa using e)];rfl
noncomputable def iP (rows:fq) (p:aV):Option aV:=(dq rows p).map λ i=>cT p (rows.getD i []) 1
noncomputable def goN (rows:fq):Nat->aV->Option aV
 | 0,p=>some p
 | k+1,p=>(goN rows k p).bind (iP rows)
theorem pK {p:aV}:nn p=true ↔ ∀ x∈p,0<=x:=by simp [nn]
theorem As {c p:aV}:e0 c p=true ↔ ∀ (i:Nat) (a b:Int),c[i]?=some a->p[i]?=some b->0<=b+a:=by
 unfold e0;rw [gT];constructor
 ·intro h i a b ah ai;have a6:(c.zip p)[i]?=some (a,b):=by rw [wU];exact #[ah,ai]
  exact eT (h _ (dr a6))
 ·intro h x aj;obtain ⟨i,ax⟩:=mO aj;obtain ⟨a,b⟩:=x;rw [wU] at ax;exact cc (h i a b ax.1 ax.2)
theorem acG {c p:aV} (h:e0 c p=true):nn (cT p c 1)=true:=by
 rw [pK];intro x aj;obtain ⟨i,ax⟩:=mO aj;unfold cT at ax;rw [nJ] at ax;obtain ⟨b,a,ah,ai,rfl⟩:=ax;have:=As.mp h i a b ai ah;omega
theorem IW {i:Nat} {c:aV} (h:rows[i]?=some c):rows.getD i []=c:=by
 rw [pQ,h];rfl
theorem It {p:aV} {i:Nat} {c:aV} (h:dq rows p=some i) (ak:rows[i]?=some c):iP rows p=some (cT p c 1):=by
 unfold iP;rw [h,<-IW ak];rfl
theorem RY {p q:aV} (h:iP rows p=some q) : ∃ i c,dq rows p=some i/\rows[i]?=some c/\e0 c p=true/\q=cT p c 1:=by
 unfold iP at h;cases e:dq rows p with
 | none=>rw [e] at h;cases h
 | some i =>
  rw [e] at h;obtain ⟨c,ah,ai,_⟩:=s9 e;have aH:cT p (rows.getD i []) 1=q:=gR h;rw [IW ah] at aH;exact #[i,c,rfl,ah,ai,aH.symm]
theorem acg {p q:aV} (aq:m_ rows) (aw:p.length=10) (h:iP rows p=some q):q.length=10/\nn q=true:=by
 obtain ⟨i,c,_,ai,aH,rfl⟩:=RY h;exact #[ahL aw (aq c (dr ai)),acG aH]
theorem q7 (aq:m_ rows) {p:aV} (aw:p.length=10) (aF:nn p=true) : ∀ {k:Nat} {q:aV},goN rows k p=some q->q.length=10/\nn q=true
 | 0,q,h=>by cases h;exact #[aw,aF]
 | k+1,q,h=>by
  obtain ⟨r,ah,ai⟩:=Ai.mp h;exact acg aq (q7 aq aw aF ah).1 ai
noncomputable def jT (rows:fq):Nat->aV->eG
 | 0,_=>[]
 | k+1,p=>match dq rows p with
  | none=>[]
  | some i=>i::jT rows k (cT p (rows.getD i []) 1)
theorem Jw {p:aV} (h:dq rows p=none) : ∀ k,jT rows k p=[]
 | 0=>rfl
 | k+1=>by simp only [jT,h]
theorem Jx {p c:aV} {i:Nat} (h:dq rows p=some i) (ak:rows[i]?=some c) (k:Nat):jT rows (k+1) p=i::jT rows k (cT p c 1):=by
 simp only [jT,h];rw [IW ak]
theorem Rh (rows:fq) : ∀ (k:Nat) (p:aV),(jT rows k p).length<=k
 | 0,_=>b9 _
 | k+1,p=>by
  cases h:dq rows p with
  | none=>rw [Jw h];simp
  | some i =>
   obtain ⟨c,ak,_,_⟩:=s9 h;rw [Jx h ak];have:=Rh rows k (cT p c 1);simp;omega
theorem Ss (rows:fq) : ∀ (k:Nat) (p:aV),goN rows (k+1) p=(iP rows p).bind (goN rows k)
 | 0,p=>by
  show iP rows p=(iP rows p).bind λ q=>some q
  cases iP rows p<;>rfl
 | k+1,p=>by
  show (goN rows (k+1) p).bind (iP rows)=(iP rows p).bind λ q=>(goN rows k q).bind (iP rows)
  rw [Ss rows k p];cases iP rows p<;>rfl
theorem Qx (rows:fq) : ∀ (k:Nat) (p:aV),∃ q,goN rows (jT rows k p).length p=some q
 | 0,p=>#[p,rfl]
 | k+1,p=>by
  cases h:dq rows p with
  | none=>exact #[p,by rw [Jw h];rfl]
  | some i =>
   obtain ⟨c,ak,_,_⟩:=s9 h;obtain ⟨q,aZ⟩:=Qx rows k (cT p c 1);refine #[q,?_];rw [Jx h ak,j1,Ss,It h ak];exact aZ
theorem ad1 {i j p:Nat} (h:rl i j=true) (aw:p∈dE):cnt p i=0\/cnt p j=0:=by
 have:=Ts.mp h p aw;by_cases ah:p∣i
 ·refine .inr (wX λ z=>this #[ah,uO z])
 ·exact .inl (wX λ z=>ah (uO z))
noncomputable def fb (l:eG):aV:=l.map λ n:Nat=>(n:Int)
theorem ag8 {i j:Nat} {p:aV} (h:rl i j=true) (aF:nn p=true):nn (List.zipWith (λ x y:Int=>x - y) p (fb (hc j)))=e0 (chg i j) p:=by
 have e : ∀ (k:Nat) (a b:Int),(chg i j)[k]?=some a->p[k]?=some b -> ∃ c:Int,(fb (hc j))[k]?=some c/\(0<=b - c ↔ 0<=b+a):=by
  intro k a b ah ai;unfold chg at ah;rw [nJ] at ah;obtain ⟨x,y,aj,aT,rfl⟩:=ah;refine #[(y:Int),by unfold fb;rw [fK,aT];rfl,?_];unfold hc at aj aT;rw [fK] at aj aT;cases aw:dE[k]? with
  | none=>rw [aw] at aj;cases aj
  | some q =>
   rw [aw] at aj aT;have ex:cnt q i=x:=gR aj;have eO:cnt q j=y:=gR aT;have rG:=pK.mp aF b (dr ai);rcases ad1 h (dr aw) with z | z
   ·rw [z] at ex;omega
   ·rw [z] at eO;omega
 rw [sE,pK,As];constructor
 ·intro h k a b ah ai;obtain ⟨c,ak,iff⟩:=e k a b ah ai;refine iff.mp (h _ ?_);have:(List.zipWith (λ x y:Int=>x - y) p (fb (hc j)))[k]?=some (b - c):=by rw [nJ];exact #[b,c,ai,ak,rfl]
  exact dr this
 ·intro h x aj;obtain ⟨k,aG⟩:=mO aj;rw [nJ] at aG;obtain ⟨b,c,ae,ak,rfl⟩:=aG;have ZQ:k<(fb (hc j)).length:=(fJ.mp ak).1;have lH:k<(chg i j).length:=by rw [J2];simpa [fb,hc,dE] using ZQ
  obtain ⟨cq,nf,iff⟩:=e k _ b (fT lH) ae;rw [ak] at nf;cases nf;exact iff.mpr (h k _ b (fT lH) ae)
end gu
namespace bM
open PySem PyProof.Rows
theorem DO:bootBuiltins "sorted" = some (.builtin "sorted"):=by decide +kernel
end bM
namespace cJ
open PySem bM gu
noncomputable abbrev tupI (c:aV):e6:=.tup (c.map V.int)
theorem _root_.bM.zw.same {x:V} {c:aV} (h:zw H x c) (s:aE H H'):zw H' x c:=by
 obtain ⟨a,e,ay⟩:=h;exact #[a,e,s _ _ ay]
theorem _root_.bM.fH.same {cs:fq} (h:fH H xs cs) (s:aE H H'):fH H' xs cs:=#[h.1,λ i x e=>by
 obtain ⟨c,ak,r⟩:=h.2 i x e;exact #[c,ak,r.same s]]
theorem _root_.bM.fH.but {cs:fq} (h:fH H xs cs) (av:H l=some (.lst ys)) (s:bN l H H'):fH H' xs cs:=#[h.1,λ i x e=>by
 obtain ⟨c,ak,a,eN,ay⟩:=h.2 i x e;exact #[c,ak,a,eN,s _ _ (cW ay av (by intro z;cases z)) ay]]
theorem _root_.bM.fH.nil:fH H [] []:=#[rfl,λ i x e=>by cases e]
theorem _root_.bM.fH.app {cs ds:fq} (h:fH H xs cs) (g:fH H ys ds):fH H (xs++ys) (cs++ds):=by
 refine #[by rw [fm,fm,h.1,g.1],λ i x e=>?_];by_cases ax:i<xs.length
 ·rw [sF ax] at e;obtain ⟨c,ak,r⟩:=h.2 i x e;exact #[c,by rw [sF (by rw [<-h.1];exact ax)];exact ak,r]
 ·rw [wI .aD] at e;obtain ⟨c,ak,r⟩:=g.2 _ x e;exact #[c,by rw [wI (by rw [<-h.1];omega),<-h.1];exact ak,r]
theorem _root_.bM.fH.one {x:V} {c:aV} (h:zw H x c):fH H [x] [c]:=by
 refine #[rfl,λ i y e=>?_];cases i with
 | zero=>cases e;exact #[c,rfl,h]
 | succ i=>cases e
theorem _root_.bM.fH.at {cs:fq} {i:Nat} {x:V} (h:fH H xs cs) (e:xs[i]?=some x) : ∃ c a,cs[i]?=some c/\x=.ref a/\H a=some (tupI c):=by
 obtain ⟨c,ak,a,eN,ay⟩:=h.2 i x e;exact #[c,a,ak,eN,ay]
theorem _root_.bM.fH.of {cs:fq} {i:Nat} {c:aV} (h:fH H xs cs) (e:cs[i]?=some c) : ∃ x a,xs[i]?=some x/\x=.ref a/\H a=some (tupI c):=by
 have ax:i<cs.length:=(fJ.mp e).1;have aj:xs[i]?=some (xs[i]'(by rw [h.1];exact ax)):=fT _;obtain ⟨cq,a,ak,eN,ay⟩:=h.at aj;rw [e] at ak;cases ak;exact #[_,a,aj,eN,ay]
noncomputable def mF:Option Nat->V
 | none=>.bh
 | some i=>.int (i:Int)
noncomputable def h_ (H:az) (xs:bl) (fs:f_):Prop:=xs.length=fs.length /\ ∀ (k:Nat) (x:V),xs[k]?=some x -> ∃ i j c,fs[k]?=some (i,j)/\x=.ref c/\H c=some (.tup [.int i,.int j])/\jX i j=true
theorem h_.same {fs:f_} (h:h_ H xs fs) (s:aE H H'):h_ H' xs fs:=#[h.1,λ k x e=>by
 obtain ⟨i,j,c,ah,ai,aH,a4⟩:=h.2 k x e;exact #[i,j,c,ah,ai,s _ _ aH,a4]]
theorem QU : ∀ {xs:bl},(∀ x∈xs,∃ (c:Addr) (i j:Int),x=.ref c/\H c=some (.tup [.int i,.int j])/\jX i j=true) -> ∃ fs,h_ H xs fs
 | [],_=>#[[],rfl,λ k x e=>by cases e]
 | x::xs,h=>by
  obtain ⟨c,i,j,ah,ai,aH⟩:=h x gS;obtain ⟨fs,f1,f2⟩:=QU λ y aT=>h y (ht _ aT)
  refine #[(i,j)::fs,by simp [f1],λ k y e=>?_];cases k with
  | zero=>cases e;exact #[i,j,c,rfl,ah,ai,aH]
  | succ k=>exact f2 k y (by simpa using e)
noncomputable def rowsOf (fs:f_):fq:=fs.map λ f=>chg f.1.toNat f.2.toNat
theorem pX (fs:f_):m_ (rowsOf fs):=λ c ak=>by
 obtain ⟨f,_,rfl⟩:=e3.mp ak;exact J2 _ _
theorem Az (fs:f_):(rowsOf fs).length=fs.length:=bY _
theorem Ki {i j:Int} (h:jX i j=true):(1<=i/\jC i.toNat=1)/\(1<=j/\jC j.toNat=1):=by
 unfold jX jt at h;simp only [jA,decide_eq_true_eq] at h;exact #[#[h.1.1.1.1,h.1.1.2],#[h.1.2.1.1,h.1.2.2]]
theorem T3 {f:Int->Int->Int} {xs ys:aV} {i:Nat} {x y:Int} (aj:xs[i]?=some x) (aT:ys[i]?=some y):(List.zipWith f xs ys).take (i+1)=(List.zipWith f xs ys).take i++[f x y]:=by
 have a6:(List.zipWith f xs ys)[i]?=some (f x y):=by rw [nJ];exact #[x,y,aj,aT,rfl]
 rw [sU,a6];rfl
theorem AF {a b:Addr} {bp:TE} {Q:bG} {xs ys:aV} {f:Int->Int->Int} (aF:min xs.length ys.length<=sizeLine) (aw : ∃ u v,pick js σ=u::v::σ0) (a8:H1 D=none)
  (ay:H1 a=some (tupI xs)) (ae:H1 b=some (tupI ys))
  (aB : ∀ (x y:Int) (H':az) (R:bG),x∈xs->y∈ys->R (.int (f x y)) H'->bp (some (.int x)::some (.int y)::σ0) H' R)
  (q : ∀ H',aE H1 H'->H' D=some (.lst ((List.zipWith f xs ys).map V.int))->Q (.ref D) H'):kn (vG K a b) D js (wi K 2 (su (gx 0) (su (gx 1) zy))) mS bp σ H1 Q:=by
 obtain ⟨qg,v0,aw⟩:=aw;refine Rw (K:=K) (a:=a) (b:=b) (xs:=xs.map V.int) (ys:=ys.map V.int) (by rw [bY,bY];exact aF) (λ i σ' H' zs=>(∃ u v:dG,σ'=u::v::σ0)/\aE H1 H'/\zs=((List.zipWith f xs ys).take i).map V.int) #[#[qg,v0,aw],aE.new a8,rfl] (λ i σ' H' zs _ ⟨_,s',_⟩=>#[a0.of (s' _ _ ay),a0.of (s' _ _ ae)]) ?_ ?_
 ·rintro i x y p σ' H' zs R aj aT aw ei ki ⟨⟨u,v,rfl⟩,s',rfl⟩ dF;obtain ⟨x,rfl,dD⟩:=l1 aj;obtain ⟨y,rfl,eZ⟩:=l1 aT;refine #[p,_,rfl,a0.of bL,rfl,_,_,rfl,_,_,rfl,rfl,?_];refine aB x y _ _ (dr dD) (dr eZ) (dF _ _ _ ?_ #[#[_,_,rfl],?_,?_])
  ·rw [bj (cf ei aw)];exact ei
  ·intro c o e;rw [bj (cf e a8),bj (cf (s' c o e) aw)];exact s' c o e
  ·rw [T3 dD eZ,mP];rfl
 ·rintro σ' H' zs ei ki ⟨_,s',rfl⟩;refine q H' s' ?_;rw [ei,bY,bY,oA (by rw [wV];exact b9 _)]
end cJ
namespace bM
open PySem PySem.Spec PyProof.Rows
noncomputable def Cp (a b:Addr):h2 :=
 #[λ i H => ∃ xs ys x y,H a=some (.lst xs)/\H b=some (.lst ys)/\xs[i]?=some x/\ys[i]?=some y,
 λ i H v H' => ∃ p,H p=none/\v=.ref p /\ ∃ x y,H'=upd H p (.tup [x,y]) /\ ∀ xs ys,H a=some (.lst xs)->H b=some (.lst ys)->xs[i]?=some x/\ys[i]?=some y,
 λ i H => ∃ xs ys,H a=some (.lst xs)/\H b=some (.lst ys)/\(xs.length<=i\/ys.length<=i)]
section
variable {X:aP} {bk:Expr}
theorem Turn.imp {w:World} {c:Bool} {AV:h2} {hk:Nat->Heap->Prop} (T:Turn P w K c bk J a_ it hk) (ah : ∀ i H,AV.go i H->J.go i H) (ai : ∀ i H x H',J.jl i H x H'->AV.jl i H x H') (aH : ∀ i H,AV.stop i H->J.stop i H):Turn P w K c bk AV a_ it hk :=
 #[T.mem,T.obj,T.keep,λ X a b c d e i pins s σ H E I hf st aS=>bq (T.item X a b c d e i pins s σ H E I hf st (ah _ _ aS)) λ r s1 ⟨u,aM,k⟩=>#[u,aM,bq k λ _ s2 ⟨x,H',gp,hQ,vp,l_⟩=>#[x,H',gp,hQ,ai _ _ _ _ vp,l_]],
  λ X a b c d e i pins s σ H E I hf st aS=>T.done X a b c d e i pins s σ H E I hf st (aH _ _ aS),T.self]
noncomputable def aaP (a3:dc):TI:=λ σ H R=>a3 σ H λ vs H1 => ∃ a b xs ys,vs=[.ref a,.ref b]/\H1 a=some (.lst xs)/\H1 b=some (.lst ys)/\R (Cp a b) H1
theorem DK {a3:dc} {p pos:Pos} (h8:oN bk=true) (aS:dW X "zip") (hm:X.mg "zip" = none) (ay:fL X [aM,aO] a3) (aB:starEach [aM,aO] X.env=[(false,eval aM X.env),(false,eval aO X.env)]:=by rfl) (gd:starEach [aO] X.env=[(false,eval aO X.env)]:=by rfl)
  (ae:bootBuiltins "zip" = some (.type "zip"):=by decide +kernel):lr X bk (.Call (.Name "zip" p) [aM,aO] [] pos) (aaP a3):=#[by
 intro pins s σ H R I h;refine Call_ (pJ I aS hm ae (uE (bq (ay.o pos pins s σ H _ I h) ?_) (by rw [aB,gd]) (by rw [gd];rfl)));rintro us s1 ⟨vs,H1,aK,bJ,bb⟩;obtain ⟨a,b,xs,ys,e,dn,ez,q⟩:=bb;subst e;obtain ⟨h6,j_,rfl,qe,xW⟩:=vals2 bJ;cases qe;cases xW;exact QB (p1:=true) (bb:=true) (J:=Cp a b) aK (a9.of dn) (a9.of ez) (λ d=>(SP h8 d).imp (λ i H ⟨xs,ys,x,y,dn,ez,r⟩=>#[xs,ys,x,y,a9.of dn,a9.of ez,r]) (λ i H x H' ⟨n,a1,a2,x,y,m2,tm⟩=>#[n,a1,a2,x,y,m2,λ xs ys dn ez=>tm xs ys (a9.of dn) (a9.of ez)]) (λ i H ⟨xs,ys,dn,ez,r⟩=>#[xs,ys,a9.of dn,a9.of ez,r])) q]
end
theorem Sn {a b:Addr} {bp:TE} {Q:bG} (aF:min xs.length ys.length<=sizeLine) (Pv:Nat->St->az->bl->Prop) (h0:Pv 0 (pick js σ) (upd H1 D (.lst [])) [])
  (av : ∀ i σ' H' zs,H' D=some (.lst zs)->Pv i σ' H' zs->H' a=some (.lst xs)/\H' b=some (.lst ys))
  (aB : ∀ i x y p σ' H' zs (R:St->V->az->Prop),xs[i]?=some x->ys[i]?=some y->H' p=none->H' D=some (.lst zs)->zs.length=i->Pv i σ' H' zs->(∀ σ2 z bc,bc D=some (.lst zs)->Pv (i+1) σ2 (upd bc D (.lst (zs++[z]))) (zs++[z])->R σ2 z bc) ->
   g (.ref p) σ' (upd H' p (.tup [x,y])) λ σ2 aW=>bp σ2 aW λ z bc=>R σ2 z bc)
  (c4 : ∀ σ' H' zs,H' D=some (.lst zs)->zs.length=min xs.length ys.length->Pv (min xs.length ys.length) σ' H' zs->Q (.ref D) H'):kn (Cp a b) D js g mS bp σ H1 Q:=by
 refine Aw aF Pv h0 (λ i σ' H' zs ax a8 p=>?_) (λ σ' H' zs a8 i8 c=>#[?_,c4 σ' H' zs a8 i8 c]) λ i σ' H' zs x au R ax a8 a6 p aj k=>?_
 ·obtain ⟨dn,ez⟩:=av i σ' H' zs a8 p;have ah:i<xs.length:=by omega
  have ai:i<ys.length:=by omega
  exact #[xs,ys,xs[i],ys[i],dn,ez,by simp [ah],by simp [ai]]
 ·obtain ⟨dn,ez⟩:=av _ σ' H' zs a8 c;exact #[xs,ys,dn,ez,.aD]
 ·obtain ⟨dn,ez⟩:=av i σ' H' zs a8 p;obtain ⟨q,aZ,rfl,e7,ij,rfl,lM⟩:=aj;obtain ⟨ex,eO⟩:=lM xs ys dn ez;exact aB i e7 ij q σ' H' zs R ex eO aZ a8 a6 p k
end bM
namespace cJ
open PySem bM gu
noncomputable def y0:V->Bool
 | .str _=>true
 | _=>false
noncomputable def so:Option e6->Bool
 | some (.lst _)=>true
 | _=>false
noncomputable def yZ (H:az):V->Bool
 | .ref a=>so (H a)
 | _=>false
section
variable {v:V}
theorem qX (k:dV H v) : ∃ t,jn K H v t/\PySem.W.kitOne K t (.type "str")=some (y0 v):=by
 cases v with
 | bh=>exact #[_,.bh,by kernel_rfl]
 | aX b=>exact #[_,.aX b,by kernel_rfl]
 | int i=>exact #[_,.int i,by kernel_rfl]
 | str x=>exact #[_,.str x,by kernel_rfl]
 | ref a =>
  rcases (show (∃ xs,H a=some (.tup xs))\/(∃ xs,H a=some (.lst xs))\/(∃ kvs,H a=some (.bF kvs)) from k) with ⟨xs,e⟩ | ⟨xs,e⟩ | ⟨kvs,e⟩
  ·exact #[_,.tup e,by kernel_rfl]
  ·exact #[_,.lst e,by kernel_rfl]
  ·exact #[_,.bF e,by kernel_rfl]
 | _=>exact False.elim k
theorem CR (k:dV H v) : ∃ t,jn K H v t/\PySem.W.kitOne K t (.type "list")=some (yZ H v):=by
 cases v with
 | bh=>exact #[_,.bh,by kernel_rfl]
 | aX b=>exact #[_,.aX b,by kernel_rfl]
 | int i=>exact #[_,.int i,by kernel_rfl]
 | str x=>exact #[_,.str x,by kernel_rfl]
 | ref a =>
  rcases (show (∃ xs,H a=some (.tup xs))\/(∃ xs,H a=some (.lst xs))\/(∃ kvs,H a=some (.bF kvs)) from k) with ⟨xs,e⟩ | ⟨xs,e⟩ | ⟨kvs,e⟩
  ·refine #[_,.tup e,?_];show _=some (so (H a));rw [e];kernel_rfl
  ·refine #[_,.lst e,?_];show _=some (so (H a));rw [e];kernel_rfl
  ·refine #[_,.bF e,?_];show _=some (so (H a));rw [e];kernel_rfl
 | _=>exact False.elim k
end
theorem eo.or {w:World} {cH:ik} {k:Nat} {f:Addr} {fd:FuncData} {ag:bT} {sp zl:b3} (F:eo P w K mg base cH k f fd ag sp) (Md:eo P w K mg base cH k f fd ag zl) :
  eo P w K mg base cH k f fd ag (λ vs H Q E=>sp vs H Q E\/zl vs H Q E) :=
 #[λ vs H Q E h=>h.elim (F.len vs H Q E) (Md.len vs H Q E),λ A outer s H args us vs Q E aq bX ae r h=>h.elim (F.run A outer s H args us vs Q E aq bX ae r) (Md.run A outer s H args us vs Q E aq bX ae r)]
end cJ
namespace Mm
open PySem PyProof.Rows
section
variable {w:World} {E:b2} {h:Heap} {g:Array GenState} {d:Drawn} {t:Nat} {os:OsState}
variable {nm q:Str} {C N:Addr} {bs bm tL:List Value} {hdct:Bool} {sn:bT} {sub:List Value} {ab:Bool} {col:Option Bool} {dd:Option Addr} {k0 k1 k2 k3 k5:c0} {B newId C9:String}
theorem ag5 (F:ExcBaseFacts B newId C9 tL) (T:OwnTail h tL bm) {rest:List Value} {Q:PySem.Fin->Shared->Prop}
  (eP:h.get? C=some (excClassObj nm q C N bs bm hdct sn sub ab col dd k0 k1 k2 k3 k5 newId)) (aF:h.Ns N mN) (ax:mN "__init__" = some (.ref fI))
  (yA:h.get? fI=some oI) (yB:oI.cls=.type "function")
  (aZ : ∀ h' e,Heap.MadeExcOf h h' e (.ref C) rest ->
   wpAny (model prog w) A (call (.ref fI) (.ref e::rest)) (λ r s'=>r=.none/\Q (.done (.ret (.ref e))) s') E ⟨h',g,d,t,os⟩) (hrest:rest.length<=sizeLine) :
  wpAny (model prog w) A (Builtin.«type.__call__» ⟨.ref C::rest,[]⟩) Q E ⟨h,g,d,t,os⟩:=by
 repeat (first | with_reducible refine uQ eP ?_ | with_reducible refine wpAny_madeBy_exc eP ?_ | wp_step)
 refine codeAny_call_builtin_code (II _ F.quiet) (wpAny_check_new_subT F T eP ?_);refine codeAny_exc_new_subT F T eP ?_ hrest;show wpAny _ _ _ _ _ _;have hC₁:=bK { cls:=.ref C,data:=.fields [.ref h.objs.size,.none,.none,.none,.bool false,.none].toArray }
  (bK { cls:=.type "tuple", data:=.seq rest.toArray } eP)
 have hfI₁:=bK { cls:=.ref C,data:=.fields [.ref h.objs.size,.none,.none,.none,.bool false,.none].toArray }
  (bK { cls:=.type "tuple", data:=.seq rest.toArray } yA)
 have hn₁:((h.push { cls:=.type "tuple", data:=.seq rest.toArray }).push { cls:=.ref C,data:=.fields [.ref h.objs.size,.none,.none,.none,.bool false,.none].toArray }).Ns N mN :=
  let ⟨o,ar,ep,e,r⟩:=aF;⟨o,ar,ep,bK _ (bK _ e),r⟩
 have sj:((h.push { cls:=.type "tuple", data:=.seq rest.toArray }).push
   { cls:=.ref C,data:=.fields [.ref h.objs.size,.none,.none,.none,.bool false,.none].toArray }).get? (h.objs.size+1)=some
   { cls:=.ref C,data:=.fields [.ref h.objs.size,.none,.none,.none,.bool false,.none].toArray }:=by heap_get
 have Ge:(Value.ref C::bm).contains (.ref C)=true:=by simp
 have T₁:=T.keeps (h':=(h.push { cls:=.type "tuple", data:=.seq rest.toArray }).push { cls:=.ref C,data:=.fields [.ref h.objs.size,.none,.none,.none,.bool false,.none].toArray })
  λ b o e=>bK _ (bK _ e)
 unfold isInstance
 repeat (first | with_reducible refine uQ sj ?_ | (with_reducible refine Ds hC₁ ?_;rw [Ge]) | wp_step)
 show wpAny _ _ (typeLookup (.ref C) _) _ _ _;refine wpAny_typeLookup_tail hC₁ hn₁ T₁ F.mroIs F.init.lookup ?_;rw [ax];refine hY (aC ?_);unfold bindSpecial;refine aC (Ac (T := "function") #[_,hfI₁,yB] ?_);rw [if_pos .aA];refine bH (aC (hb (aZ _ (h.objs.size+1) #[λ b o ae=>bK _ (bK _ ae),C3 (lg _),h.objs.size,sj,C3 (b9 _),?_]) (λ r s' aq=>?_) λ _ _ x=>x))
 ·exact bK _ (Heap.get?_push_at rfl rfl)
 ·obtain ⟨rfl,g4⟩:=aq
  wp_walk
  exact g4
theorem call_exc (F:ExcBaseFacts B newId C9 tL) (T:OwnTail h tL bm) {rest:List Value} {Q:b2}
  (eP:h.get? C=some (excClassObj nm q C N bs bm hdct sn sub ab col dd k0 k1 k2 k3 k5 newId)) (aF:h.Ns N mN) (ax:mN "__init__" = some (.ref fI))
  (yA:h.get? fI=some oI) (yB:oI.cls=.type "function")
  (aZ : ∀ h' e,Heap.MadeExcOf h h' e (.ref C) rest ->
   wpAny (model prog w) (A.under (.builtin "type.__call__" ⟨.ref C::rest,[]⟩)) (call (.ref fI) (.ref e::rest)) (λ r s'=>r=.none/\Q (.ref e) s') E ⟨h',g,d,t,os⟩) (hrest:rest.length<=sizeLine) :
  wpAny (model prog w) A (call (.ref C) rest) Q E ⟨h,g,d,t,os⟩:=by
 have f1:=tc_lookup;have f2:=tc_bind (.ref C);have b0:(⟨h,g,d,t,os⟩:Shared).TypeIs (.ref C) "type" := #[_,eP,rfl]
 refine pG (codeAny_of_tree ?_);show wpAny _ _ (callAny (.ref C) _) _ _ _
 repeat (any_goals (first | assumption | with_reducible refine uQ eP ?_ | wp_step))
 refine #[rfl,?_];refine codeAny_call_builtin_at (II _ (by decide +kernel)) entry_typeCall (wpAny_check_type_call_sub eP (ag5 (hrest:=hrest) F T eP aF ax yA yB λ h' e hm=>?_));exact aZ h' e hm
end
section
variable {M:Model} {E:b2} {env:Env}
variable {nm q:Str} {C N:Addr} {bs bm:List Value} {hdct:Bool} {sn:bT} {sub:List Value} {ab:Bool} {col:Option Bool} {dd:Option Addr} {k0 k1 k2 k3 k5:c0} {newId:String}
theorem K6 {x:Sem Value} {Q:Flow->Shared->Prop} (k_:bm.contains (.type "BaseException")=true) (cj:A.handled=none)
  (h:wpAny M A x (λ v s₁ => ∃ e t aL,v=.ref e/\s₁.heap.get? C=some (excClassObj nm q C N bs bm hdct sn sub ab col dd k0 k1 k2 k3 k5 newId) /\
   s₁.heap.get? e=some { cls:=.ref C,dict:=aL,data:=.fields [.ref t,.none,.none,.none,.bool false,.none].toArray }/\E (.ref e) s₁) E s) :
  wpAny M A (raiseStmt env (some x) none) Q E s:=by
 have Gd:(Value.ref C::bm).contains (.type "BaseException")=true:=by rw [Ag,k_,Bool.or_true]
 unfold raiseStmt;refine aC (hb h (λ v s₁ h₁=>?_) λ _ _ x=>x);obtain ⟨e,t,aL,rfl,eP,he,gO⟩:=h₁;obtain ⟨aw,g,d,bI,os⟩:=s₁
 repeat (first | with_reducible refine uQ he ?_ | with_reducible refine uQ eP ?_ | (with_reducible refine Ds eP ?_;rw [Gd]) | wp_step)
 exact wpAny_raiseNew_none cj gO
end
section
variable {w:World} {E:b2} {env:Env}
variable {nm q:Str} {C N:Addr} {bs bm tL:List Value} {hdct:Bool} {sn:bT} {sub:List Value} {ab:Bool} {col:Option Bool} {dd:Option Addr} {k0 k1 k2 k3 k5:c0} {B newId C9:String}
theorem ahW (F:ExcBaseFacts B newId C9 tL) {x:Str} {ej pos:Pos} {args:List Expr} {Q:Flow->Shared->Prop}
  (k_:bm.contains (.type "BaseException")=true) (cj:A.handled=none) (z8:(backTo ej (starEach args env)).any (·.1)=false) (ax:mN "__init__" = some (.ref fI)) (yB:oI.cls=.type "function")
  (h:wpAny (model prog w) A (eval (.Name x np) env) (λ f s₁=>f=.ref C/\wpAny (model prog w) A (evalArgs (.ref C) true (backTo ej (starEach args env)) [])
   (λ a s₂=>a.kw=[]/\a.pos.length<=sizeLine/\s₂.heap.get? C=some (excClassObj nm q C N bs bm hdct sn sub ab col dd k0 k1 k2 k3 k5 newId)/\s₂.heap.Ns N mN/\OwnTail s₂.heap tL bm/\s₂.heap.get? fI=some oI /\
    ∀ h' e,Heap.MadeExcOf s₂.heap h' e (.ref C) a.pos->wpAny (model prog w) (A.under (.builtin "type.__call__" ⟨.ref C::a.pos,[]⟩)) (call (.ref fI) (.ref e::a.pos))
     (λ r s'=>r=.none/\s'.heap.get? C=some (excClassObj nm q C N bs bm hdct sn sub ab col dd k0 k1 k2 k3 k5 newId)/\(∃ t aL,s'.heap.get? e=some { cls:=.ref C,dict:=aL,data:=.fields [.ref t,.none,.none,.none,.bool false,.none].toArray })/\E (.ref e) s') E { s₂ with heap:=h' }) E s₁) E s) :
  wpAny (model prog w) A (exec (.Raise (some (.Call (.Name x np) args [] ej)) none pos) env) Q E s:=by
 rw [arm_exec_Raise]
 first
  | refine aC (nB (K6 (C:=C) (nm:=nm) (q:=q) (N:=N) (bs:=bs) (bm:=bm) (hdct:=hdct) (sn:=sn) (sub:=sub) (ab:=ab) (col:=col) (dd:=dd) (k0:=k0) (k1:=k1) (k2:=k2) (k3:=k3) (k5:=k5) (newId:=newId) k_ cj (aC (hb (wpAny_Call_ofName (hb h (λ f s₁ h₁=>?_) λ _ _ x=>x)) (λ v s₃ h₃=>aC (nB (bH h₃))) λ _ _ x=>x))))
  | (simp only [evalOpt,Option.map];refine aC (nB (K6 (C:=C) (nm:=nm) (q:=q) (N:=N) (bs:=bs) (bm:=bm) (hdct:=hdct) (sn:=sn) (sub:=sub) (ab:=ab) (col:=col) (dd:=dd) (k0:=k0) (k1:=k1) (k2:=k2) (k3:=k3) (k5:=k5) (newId:=newId) k_ cj (aC (hb (wpAny_Call_ofName (hb h (λ f s₁ h₁=>?_) λ _ _ x=>x)) (λ v s₃ h₃=>aC (nB (bH h₃))) λ _ _ x=>x)))))
  | (refine aC (nB (K6 (C:=C) (nm:=nm) (q:=q) (N:=N) (bs:=bs) (bm:=bm) (hdct:=hdct) (sn:=sn) (sub:=sub) (ab:=ab) (col:=col) (dd:=dd) (k0:=k0) (k1:=k1) (k2:=k2) (k3:=k3) (k5:=k5) (newId:=newId) k_ cj ?_));refine aC (hb (wpAny_Call_ofName (hb h (λ f s₁ h₁=>?_) λ _ _ x=>x)) (λ v s₃ h₃=>aC (nB (bH h₃))) λ _ _ x=>x))
 obtain ⟨rfl,h₁⟩:=h₁;unfold callWith;refine aC (hY (hb h₁ (λ a s₂ h₂=>aC (nB ?_)) λ _ _ x=>x));obtain ⟨apos,VV⟩:=a;obtain ⟨Xr,hlen,eP,aF,T,yA,h₂⟩:=h₂;obtain rfl:VV=[]:=Xr;obtain ⟨aw,g,d,bI,os⟩:=s₂;simp only [z8];refine aC (wpAny_keeperOf_exc eP ?_);refine aC (call_exc (hrest:=hlen) F T eP aF ax yA yB λ h' e hm=>hb (h₂ h' e hm) (λ r s' aq=>#[aq.1,?_]) λ _ _ z=>z);obtain ⟨_,gn,⟨t,aL,hD⟩,p6⟩:=aq;refine aC (hY (wpAny_point (bH ?_)));exact #[e,t,aL,rfl,gn,hD,p6]
end
end Mm
namespace PySem.W
open PySem PySem.Spec PySem.Calls PyProof.Rows Builtin.ObjectAttr
theorem adt (self:Value):refuseLoop self "__setattr__" bM.jJ=pure ():=by kernel_rfl
section
variable {w:World} {E:b2} {R:Result->Shared->Prop} {K:Frag} {x C:Addr} {qb:Obj} {b6:Option Obj} {cd:ClassData}
theorem agp {name:Str} {bI:Tok} {v:Value} {r:c0} (X:K.In s.heap) (I:InstAt s.heap x qb C b6) (ak:clsIn K C=some cd) (zD:cd.mro=.ref C::.ref Fr::bM.jJ) (yM:mroIn K C (.type "object")=some true) (aU:takerIn K C name=some r)
  (h : ∀ b,wpAny (model prog w) A.in1 (match r with | some a=>setByDescriptor a (.ref x) v | none=>storeInOwnDict (.ref x) (.ref C) (.str name bI) name v b)
   (λ fin s'=>match fin with | .done f=>R (.ok f) s' | .again cq=>cq.quiet=true/\codeAny (model prog w) A cq R s') (λ e s'=>R (.error e) s') s) :
  codeAny (model prog w) A (.call (.builtin "object.__setattr__") ⟨[.ref x,.str name bI,v],[]⟩) R s:=by
 have xC:=PySem.F.store_object;have sub:Looks (model prog w) s.heap (isInstance (.ref x) (.type "object")) true:=I.type.andThen (looks_mroIn X yM);refine Du xC.slot.plain xC.entry (@check_slot (model prog w) _ _ s "object.__setattr__" "object" "__setattr__" (.ref x) [.str name bI,v] [] _ xC.kind xC.split sub (xC.args (.ref x) (.str name bI) v) ?_);obtain ⟨attr,ay,aq⟩:=Ai.mp aU;have hm:Looks (model prog w) s.heap (mroOf (.ref C)) cd.mro:=(looks_clsIn X ak).andThen .now;have l5:Looks (model prog w) s.heap (storeTaker? attr) r:=by
  cases attr with
  | none=>cases aq;exact .now
  | some a =>
   obtain ⟨b,ae,rfl⟩:=ID.mp aq;refine (looks_takesIn X ae).andThen ?_;cases b<;>exact .now
 rw [osa_eq,refuse_eq];refine aC (aC (I.type.here (aC (hm.here ?_))));rw [zD,refuseLoop_ref,refuseLoop_ref,adt];refine bH (aC (I.type.here (aC ((Ah X ay).here (aC (l5.here ?_))))));exact h _
theorem adw {name:Str} {v:Value} {Q:Unit->Shared->Prop} (X:K.In s.heap) (aj:s.heap.get? x=some ⟨.ref C,none,.fields vs,#[]⟩) (ak:clsIn K C=some cd) (zD:cd.mro=.ref C::.ref Fr::bM.jJ) (hd:cd.hasDict=true)
  (yM:mroIn K C (.type "object")=some true) (aB:findIn K (.ref C) "__setattr__" = some (some (.builtin "object.__setattr__"))) (aU:takerIn K C name=some none)
  (h : ∀ h' aL bI,s.heap.get? aL=none->h'.get? x=some ⟨.ref C,some aL,.fields vs,#[]⟩->h'.Ns1 aL (λ y=>if y=name then some v else none)->(∀ b o,b≠x->s.heap.get? b=some o->h'.get? b=some o)->Q () { s with heap:=h',toks:=bI }) :
  wpAny (model prog w) A (setAttr (.ref x) name v) Q E s:=by
 have I:InstAt s.heap x ⟨.ref C,none,.fields vs,#[]⟩ C none:=#[aj,rfl,rfl,trivial]
 refine set_plain X I aB (agp (s:={ s with toks:=s.toks+1 }) (r:=none) X I ak zD yM aU λ b=>?_);refine aC (bH (aC (aC (wpAny_loadPart aj (aC (PySem.W.Looks.here (s:={ s with toks:=s.toks+1 }) (PySem.W.looks_clsIn X ak) ?_))))));rw [hd];rw [if_neg .zs];show wpAny _ _ (alloc { cls:=.type "dict", data:=.dict #[] }>>=λ d=>update x (λ o=>{ o with dict:=some d })>>=λ _=>dictMade (.ref C) x d) _ _ _;have Bj:x<s.heap.objs.size:=cu aj;have NF:(s.heap.push { cls:=.type "dict", data:=.dict #[] }).get? x=some ⟨.ref C,none,.fields vs,#[]⟩:=bK _ aj;refine aC (wpAny_alloc (aC (wpAny_update NF ?_)));show wpAny _ _ (pure (some s.heap.objs.size)) _ _ _;refine bH ?_;have r_:Heap.SameBut x (s.heap.push { cls:=.type "dict", data:=.dict #[] }) ((s.heap.push { cls:=.type "dict", data:=.dict #[] }).update x λ o=>{ o with dict:=some s.heap.objs.size }):=z0 _ _ _;have NC:((s.heap.push { cls:=.type "dict", data:=.dict #[] }).update x λ o=>{ o with dict:=some s.heap.objs.size }).get? x=some ⟨.ref C,some s.heap.objs.size,.fields vs,#[]⟩:=oz _ NF rfl;generalize ((s.heap.push { cls:=.type "dict", data:=.dict #[] }).update x λ o=>{ o with dict:=some s.heap.objs.size })=ah at r_ NC ⊢;have r5:ah.get? s.heap.objs.size=some { cls:=.type "dict", data:=.dict #[] }:=(r_.2 _ (jw Bj)).trans (d6 _ rfl);have cC:ah.Ns1 s.heap.objs.size (λ _=>none):=Heap.Ns1.of_empty #[_,#[],_,r5,rfl,(λ e he=>absurd he .zs),λ _=>rfl];show wpAny _ _ (storeInDict s.heap.objs.size (.str name s.toks) name v) _ _ _;refine aC (bH (aC ?_));refine wpAny_nsSet1 (s:={ s with heap:=ah,toks:=s.toks+1 }) cC λ h' nj gd=>?_
 obtain ⟨Vt,We,Wd,GA,Gj,n7⟩:=nj.count (PySem.Within.cons (ns:=[]) name v (λ y aT=>absurd rfl aT));refine aC (wpAny_lookBehind GA (by rw [Gj];exact pastItsLine_dict (fl n7 (by show 1<=sizeLine+1;decide))) ?_);refine bH (h h' s.heap.objs.size _ (C3 (b9 _)) ((gd.2 _ (d3 Bj)).trans NC) nj λ b o nb e=>?_);have aX:b<s.heap.objs.size:=cu e;exact (gd.2 _ (d3 aX)).trans ((r_.2 _ nb).trans (bK _ e))
theorem acy {name:Str} {expr:Bool} {v:Value} {Q:b2} (X:K.In s.heap) (I:InstAt s.heap x qb C b6) (c:kZ K C) (hf:findObj K C b6 name=some (.value v)) (cj:handedIn v=true) (h:Q v { s with toks:=s.toks+1 }) :
  wpAny (model prog w) A (getAttr (.ref x) name expr) Q E s:=by
 obtain ⟨ak5,g,d,t,os⟩:=s;have rC:=I.type (M:=model prog w);have i7:=Ah (M:=model prog w) X c.ga;have bM:=Ah (M:=model prog w) X c.Mv;have l5:=looks_find (M:=model prog w) X I hf;have di:=Dt.ga.bind (.ref x);unfold getAttr getAttrBy;refine aC (wpAny_mkText (hY (aC (rC.at (aC (i7.at ?_))))));show wpAny _ _ (getAttrByItsOwn _ _ _ _ _ _) _ _ _;unfold getAttrByItsOwn hookBefore;refine aC (bM.at (aC (pF (hY ?_))));have aM:callGetattribute (.ref x) (.str name t) (.builtin "BaseException.__getattribute__") expr=boundAndCalled (.builtin "BaseException.__getattribute__") (.ref x) (.str name t):=by
  unfold callGetattribute;cases expr<;>rfl
 show wpAny _ _ (callGetattribute (.ref x) (.str name t) (.builtin "BaseException.__getattribute__") expr) _ _ _;rw [aM];unfold boundAndCalled
 repeat (any_goals (first | assumption | wp_step))
 refine Du Dt.ga.plain PySem.F.entry_bexc_ga (R3 X I c ?_);refine aC (bH (aC (bH (aC (rC.at (aC (l5.at ?_)))))));refine bH ?_;show wpAny _ _ (handedOut v) _ _ _;rw [handedOut_of cj];exact bH h
end
end PySem.W
namespace bM
open PySem PySem.Spec PyProof.Rows rF
structure p5 (K:cD) (mg:Str->c0) (x:Str) (C Fr fI:Addr):Prop where
 at_:mg x=some (.ref C)
 b7 : ∃ nm q N bs sn sub ab col dd k0 k1 k2 k3 k5,K.lookup C=some (excClassObj nm q C N bs (.ref Fr::jJ) true sn sub ab col dd k0 k1 k2 k3 k5 "ValueError.__new__")/\PySem.W.nsOkIn K N=true/\PySem.W.nsIn K N "__init__" = some (some (.ref fI))
 fr:PySem.W.excIn K Fr jJ "ValueError.__new__" = true
 fN:PySem.W.kZ K C
 vz:PySem.W.findIn K (.ref C) "__setattr__" = some (some (.builtin "object.__setattr__"))
 fn : ∃ oI,K.lookup fI=some oI/\oI.cls=.type "function"
theorem p5.cls {x:Str} {C:Addr} (c:p5 K mg x C Fr fI) : ∃ cd,PySem.W.clsIn K C=some cd/\cd.mro=.ref C::.ref Fr::jJ/\cd.hasDict=true:=by
 obtain ⟨nm,q,N,bs,sn,sub,ab,col,dd,k0,k1,k2,k3,k5,h,_⟩:=c.b7;have e:PySem.W.clsIn K C=(match K.lookup C with | some ⟨_,_,.cls cd,_⟩=>some cd | _=>none):=rfl;rw [h] at e;exact #[_,e,rfl,rfl]
theorem p5.hd {x:Str} {C:Addr} (c:p5 K mg x C Fr fI):PySem.W.hasDictIn K C=true:=by
 obtain ⟨cd,ah,_,aH⟩:=c.cls;unfold PySem.W.hasDictIn;rw [ah];exact aH
theorem p5.tail {x:Str} {C:Addr} {h:Heap} (c:p5 K mg x C Fr fI) (X:K.In h):OwnTail h jJ (.ref Fr::jJ):=by
 obtain ⟨d1,N,nm,q,bs,hdct,sn,sub,ab,col,dd,k0,k1,k2,k3,k5,mN,eP,dx,tY,T⟩:=(mz.own (mg:=λ _=>some (.ref Fr)) (x:=x) #[rfl,c.fr] X).obj;exact .own eP dx tY .base
theorem ahN {h:Heap} {N:Addr} {n:Str} {v:Value} (X:K.In h) (G:h.Ns N mg) (e:PySem.W.nsIn K N n=some (some v)):mg n=some v:=by
 obtain ⟨o,ar,ep,aJ,hd,_,hf⟩:=G;unfold PySem.W.nsIn at e;split at e
 ·rename_i c d nd b1 cR q;have:=X _ _ q;rw [aJ] at this;cases this;cases hd;split at e
  ·rename_i y he;rw [<-hf];unfold nsFind findBy;rw [<-Array.find?_toList,he];exact gR e
  ·split at e<;>cases e
 ·cases e
noncomputable def mC (e C:Addr) (d:Option Addr) (t:Addr):e6:=.ext λ h=>h.get? e=some { cls:=.ref C,dict:=d,data:=.fields [.ref t,.none,.none,.none,.bool false,.none].toArray }
theorem QS {w:World} {h:Heap} {e C t:Addr} (he:h.get? e=some { cls:=.ref C,dict:=d,data:=.fields [.ref t,.none,.none,.none,.bool false,.none].toArray }):et P w H h e (mC e C d t) :=
 #[he,#[_,he],λ ah ai a k=>k _ a]
theorem Inv.forget {X:aP} {e:Addr} (I:Inv X pins σ H s) (fC : ∀ b,b≠e->H' b=H b) (h0:H' e=none) (aj:(∀ xs,H e≠some (.tup xs))/\(∀ o u,H e≠some (.gI o u))/\(∀ ag,H e≠some (.qK ag)) /\ ∀ b,H e≠some (.own b)):Inv X pins σ H' s:=by
 have le : ∀ b,H b=none->H' b=none:=λ b n=>by
  by_cases z:b=e
  ·rw [z];exact h0
  ·rw [fC b z];exact n
 refine #[I.ok,I.os,I.bare,#[I.base.keep,I.base.slot,λ b b7 q n aj=>le b (I.base.free b b7 q n aj),I.base.there,λ b xs q=>?_,λ b b7 u q=>?_,λ b ag q=>?_],I.loc,I.cell,le _ I.free,λ x c q=>le _ (I.ia x c q),λ p aw=>?_,λ b b7 q=>?_,I.len]
 ·have:=I.base.lS b xs q;rw [fC b λ z=>aj.1 xs (z ▸ this)];exact this
 ·have:=I.base.k7 b b7 u q;rw [fC b λ z=>aj.2.1 b7 u (z ▸ this)];exact this
 ·obtain ⟨m,this⟩:=I.base.lR b ag q;exact #[m,by rw [fC b λ z=>aj.2.2.1 _ (z ▸ this)];exact this]
 ·obtain ⟨a,b,c,d,f⟩:=I.pin p aw;exact #[a,le _ b,c,d,f]
 ·by_cases z:b=e
  ·rw [z,h0] at q;cases q
  ·rw [fC b z] at q;refine (I.a7 b b7 q).jq (λ _ _ _ q=>q) (λ c q=>?_) λ c xs q=>?_
   ·rw [fC c λ z=>aj.2.2.2 _ (z ▸ q)];exact q
   ·rw [fC c λ z=>aj.1 _ (z ▸ q)];exact q
noncomputable def I7 (C:Addr) (f:Str):b3:=λ vs H Q _ => ∃ (e t:Addr) (v:V),vs=[.ref e,v]/\H e=some (mC e C none t) /\ ∀ aL,H aL=none->Q .bh (upd (upd H e (mC e C (some aL) t)) aL (.kI [(f,v)]))
noncomputable def adv (C:Addr) (f:Str) (E:dA) (a3:dc):de:=λ _ σ H=>a3 σ H λ vs H1 => ∃ v,vs=[v] /\ ∀ aL au,aE H1 au->au aL=some (.kI [(f,v)])->E (.ref C) (some aL) au
theorem agA {X:aP} {E:dA} {x f:Str} {C:Addr} {dF:Nat} {fd:FuncData} {ag:bT} {a:Expr} {a3:dc} {ej pos:Pos} (k:x_ X E) (aj:X.ex=[]) (ak:X.calm=true) (c:p5 X.K X.mg x C Fr fI) (F:eo X.prog X.w X.K X.mg X.base cS dF fI fd ag (I7 C f)) (aq:er (dF+1) X.A) (ae:Binds X.K fd ag [])
  (aS:dW X x) (ay:fL X [a] a3) (c4:noStar a=true:=by rfl) (dH:(backTo ej (starEach [] X.env)).any (·.1)=false:=by rfl) (hd:(x == ("__debug__" : Str))=false:=by decide):h3 X (.Raise (some (.Call (.Name x np) [a] [] ej)) none pos) (adv C f E a3):=#[by
 intro pins s σ H D I h;obtain ⟨nm,q,N,bs,sn,sub,ab,col,dd,k0,k1,k2,k3,k5,M9,OX,BB⟩:=c.b7;obtain ⟨oI,W9,W_⟩:=c.fn;have he:=u_ c4 [] X.env;have Xu:X.base.nsMap N "__init__" = some (.ref fI):=ahN I.mod.kS (.of_isNs (IH I.mod.kS OX)) BB;refine Mm.ahW (C:=C) (nm:=nm) (q:=q) (N:=N) (bs:=bs) (bm:=.ref Fr::jJ) (hdct:=true) (sn:=sn) (sub:=sub) (ab:=ab) (col:=col) (dd:=dd) (k0:=k0) (k1:=k1) (k2:=k2) (k3:=k3) (k5:=k5)
  Dr (mN:=X.base.nsMap N) (fI:=fI) (oI:=oI) (by rfl) (I.ok.hd.1 ak) (by rw [he];show (false||(backTo ej (starEach [] X.env)).any (·.1))=false;rw [dH];rfl) Xu W_ (pV I aS c.at_ #[rfl,?_] hd)
 have h7:=ay.o ej pins s σ H _ I h;rw [he] at h7 ⊢;refine IA (bq h7 ?_);rintro us s1 ⟨vs,H1,aK,r,v,ev,gO⟩;subst ev;obtain ⟨u,rfl,fp⟩:=vals1 r;have dx:X.base.Ns N (X.base.nsMap N):=.of_isNs (IH I.mod.kS OX);refine #[rfl,(by show 1<=sizeLine;decide),aK.eb _ _ M9,dx.keeps aK.aQ,c.tail aK.eb,aK.eb _ _ W9,λ h' e hm=>?_];obtain ⟨t,yy,_,_⟩:=hm.there;have cm:Inv X pins σ H1 { s1 with heap:=h' }:=aK.kept (t':=s1.toks) hm.keeps;have gZ:gw X pins e:=gw.of aK aj hm.new;have iD:H1 e=none:=aK.a7.gone hm.new;have YK : ∀ b∈fO X.stack,b≠e:=λ b ae z=>by
  obtain ⟨_,o,aJ,_⟩:=aK.stack.mem ae;rw [z,hm.new] at aJ;cases aJ
 have cv:Inv X pins σ (upd H1 e (mC e C none t)) { s1 with heap:=h' }:=cm.known aj gZ iD (QS yy) YK;have b8:Vals [V.ref e,v] [Value.ref e,u]:=.cons rfl (.cons fp .nil);have aZ:I7 C f [V.ref e,v] (upd H1 e (mC e C none t)) (λ jH au=>jH=.bh /\ ∃ aL,upd H1 e (mC e C none t) aL=none/\au=upd (upd (upd H1 e (mC e C none t)) e (mC e C (some aL) t)) aL (.kI [(f,v)])) iC :=
  #[e,t,v,rfl,bL,λ aL iq=>#[rfl,aL,iq,rfl]]
 have av:([Value.ref e,u]++[]).length=ag.length:=by
  have aM:=F.len _ _ _ _ aZ;rw [<-aM];rfl
 refine pG (nE (F.run _ X.stack _ _ #[[Value.ref e,u],[]] [Value.ref e,u] [V.ref e,v] _ iC (aq.make C [u] []) (cv.uj.make C [u] []) (ae _ [Value.ref e,u] cv.eb av) b8 aZ) λ r s' gJ=>?_);cases r with
 | error e=>exact False.elim gJ
 | ok da =>
  cases da with
  | next=>exact False.elim gJ
  | brk=>exact False.elim gJ
  | cont=>exact False.elim gJ
  | ret akx =>
   obtain ⟨jH,H',eM,cx,ev,aL,iq,m3⟩:=cv.after gJ;subst ev;have B4:aL≠e:=λ z=>by rw [z,bL] at iq;cases iq
   have ZN:H1 aL=none:=by rw [bj B4] at iq;exact iq
   have yl:H' e=some (mC e C (some aL) t):=by rw [m3,bj (ek B4),bL]
   have qS:s'.heap.get? e=some { cls:=.ref C,dict:=some aL,data:=.fields [.ref t,.none,.none,.none,.bool false,.none].toArray }:=(eM.a7 e _ yl).1;have l4:Inv X pins σ (upd H1 aL (.kI [(f,v)])) s':=by
    refine eM.forget (e:=e) (λ b nb=>?_) ?_ #[λ xs z=>?_,λ o u z=>?_,λ ag z=>?_,λ b z=>?_]
    ·rw [m3];by_cases z:b=aL
     ·rw [z,bL,bL]
     ·rw [bj z,bj z,bj nb,bj nb]
    ·rw [bj (ek B4)];exact iD
    ·rw [yl] at z;cases z
    ·rw [yl] at z;cases z
    ·rw [yl] at z;cases z
    ·rw [yl] at z;cases z
   refine #[cx,eM.eb _ _ M9,#[t,some aL,qS],?_];refine k pins σ _ s' e C (some aL) .none [] l4 gZ (by rw [bj (ek B4)];exact iD) #[_,_,qS,rfl,rfl,rfl,rfl,rfl] (.inl #[rfl,rfl]) (λ b ae=>absurd ae .zs) (gO aL _ (cJ.aE.new ZN) bL)]
structure abl (K:cD) (C F:Addr):Prop where
 b7 : ∃ nm q N bs bm hdct sn sub ab col dd k0 k1 k2 k3 k5,K.lookup C=some (excClassObj nm q C N bs bm hdct sn sub ab col dd k0 k1 k2 k3 k5 "ValueError.__new__")
 NG:PySem.W.mroIn K C (.ref F)=some true
 ne:C≠F
noncomputable def aa5 (K:cD) (to jG:TE) (f:Str):de:=λ D σ H=>jG σ H λ y H1=>to σ H1 λ x au => ∃ (e C Fr t:Addr) (cd:ClassData),x=.ref e/\au e=some (mC e C none t)/\PySem.W.clsIn K C=some cd/\cd.mro=.ref C::.ref Fr::jJ/\cd.hasDict=true /\
 PySem.W.mroIn K C (.type "object")=some true/\PySem.W.findIn K (.ref C) "__setattr__" = some (some (.builtin "object.__setattr__"))/\PySem.W.takerIn K C f=some none /\ ∀ aL,au aL=none->D.bu σ (upd (upd au e (mC e C (some aL) t)) aL (.kI [(f,y)]))
theorem adm {X:aP} {o:Expr} {f:Str} {pos:Pos} {a3 jG:TE} (aj:X.ex=[]) (ay:bO X o a3) (ba:bO X value jG) (aB:swapsWith value (some (.Attribute o f pos')) pos.line X.env=pure false):h3 X (.Assign [.Attribute o f pos'] value pos) (aa5 X.K a3 jG f):=#[by
 intro pins s σ H D I h;refine plainObj_wpAny_Assign_Attribute (bq (ba.o pins s σ H _ I h) ?_) aB;rintro u s1 ⟨y,H1,aK,bt,q⟩;refine bq (ay.o pins s1 σ H1 _ aK q) ?_;rintro df s2 ⟨x,au,cm,a5,e,C,Fr,t,cd,ex,he,ak,zD,hd,yM,XF,aU,cg⟩;subst ex;obtain rfl:df=Value.ref e:=a5;have qS:=(cm.a7 e _ he).1;refine PySem.W.adw cm.eb qS ak zD hd yM XF aU λ h' aL bI iq dD aF aG=>?_
 have cv:Inv X pins σ (upd au e (mC e C (some aL) t)) { s2 with heap:=h',toks:=bI }:=cm.write (by rw [he];trivial) (.inl rfl) aG #[_,dD] (QS dD);have O7:au aL=none:=cm.a7.gone iq;have YI:aL≠e:=λ z=>by rw [z,qS] at iq;cases iq
 have fd:gw X pins aL:=gw.of cm aj iq;have eM:Inv X pins σ (upd (upd au e (mC e C (some aL) t)) aL (.kI [(f,y)])) { s2 with heap:=h',toks:=bI }:=by
  refine cv.known aj fd (by rw [bj YI];exact O7) #[_,aF,λ g=>?_] λ b ae z=>?_
  ·by_cases z:g=f
   ·have ae:(g == f)=true:=oC.mpr z;simp only [List.lookup,ae,if_pos z];exact bt
   ·have ae:(g == f)=false:=uB.mpr z;simp only [List.lookup,ae,if_neg z];trivial
  ·obtain ⟨_,o,aJ,_⟩:=cm.stack.mem ae;rw [z,iq] at aJ;cases aJ
 exact #[σ,_,eM,cg aL O7]]
noncomputable def P8 (K:cD) (a3:TE) (f:Str):TE:=λ σ H Q=>a3 σ H λ x H1 => ∃ (e C aL:Addr) (fs:List (Str×V)) (v:V),x=.ref e/\H1 e=some (nx e C (some aL))/\H1 aL=some (.kI fs)/\PySem.W.kZ K C/\PySem.W.hasDictIn K C=true/\PySem.W.findIn K (.ref C) f=some none/\fs.lookup f=some v/\Q v H1
theorem ad8 {X:aP} (I:Inv X pins σ H s) {e C:Addr} {fs:List (Str×V)} (he:H e=some (nx e C (some aL))) (hd:H aL=some (.kI fs)) :
  ∃ (cb:Obj) (dZ:Str->c0) (b6:Obj),PySem.W.InstAt s.heap e cb C (some b6)/\(∀ name,PySem.W.lookIn name b6=some (dZ name)) /\ ∀ f,iw (fs.lookup f) (dZ f):=by
 obtain ⟨⟨cb,vs,ah,ai,aH,a4,_⟩,_,_⟩:=(show et X.prog X.w H s.heap e (nx e C (some aL)) from I.a7 e _ he)
 obtain ⟨dZ,aF,aq⟩:=(show et X.prog X.w H s.heap aL (.kI fs) from I.a7 aL _ hd)
 obtain ⟨b6,aJ,av⟩:=SA aF;refine #[cb,dZ,b6,#[ah,ai,?_,?_],av,aq]
 ·unfold PySem.W.notCls;rw [a4]
 ·rw [aH];exact aJ
theorem adh {X:aP} {e:Expr} {f:Str} {pos:Pos} {a3:TE} (he:bO X e a3) (ae:attributeBase e f X.env (eval e X.env)=eval e X.env):bO X (.Attribute e f pos) (P8 X.K a3 f):=#[by
 intro pins s σ H Q I h;refine QI ae (bq (he.o pins s σ H _ I h) ?_);rintro u s1 ⟨x,H1,aK,a5,a,C,aL,fs,v,ex,eN,U_,fN,cj,ay,l,q⟩;subst ex;obtain rfl:u=Value.ref a:=a5;obtain ⟨cb,dZ,b6,J,av,aq⟩:=ad8 aK eN U_;have Nx:=aq f;rw [l] at Nx;obtain ⟨kH,GC,fp⟩:=Nx.some_of;exact PySem.W.acy aK.eb J fN (PySem.W.findObj_own cj ay rfl (by rw [av,GC])) (Su fp) #[v,H1,aK.tok _,fp,q]]
theorem RN {X:aP} {e:Expr} {f:Str} {pos:Pos} {a3:TE} (eW:X.K=K) (he:bO X e a3) (ae:attributeBase e f X.env (eval e X.env)=eval e X.env):bO X (.Attribute e f pos) (P8 K a3 f):=by
 subst eW;exact adh he ae
structure wq (P:Program) (w:World) (K:cD) (mg:Str->c0) (base:Heap) (k:Nat) (f:Addr) (fd:FuncData) (ag:bT) (sp:b3):Prop where
 len : ∀ vs H Q E,sp vs H Q E->vs.length=ag.length
 run : ∀ (A:Around) (outer:List Env) (s:Shared) (H:az) (args:Args) (us:List Value) (vs:bl) (Q:bG) (E:dA),jW k A->we A s.heap H (fO outer) []->oj P w K mg base A outer s H->BindsTo s fd args (ag.zip us)->Vals vs us->sp vs H Q E ->
  codeAny (model P w) A (.call (.ref f) args) (Et cS outer P w H s Q E) s
theorem wq.fn {cH:ik} {w:World} {k:Nat} {f:Addr} {fd:FuncData} {ag:bT} {sp:b3} (F:wq P w K mg base k f fd ag sp):eo P w K mg base cH k f fd ag sp :=
 #[F.len,λ A outer s H args us vs Q E aq bX ae r gv=>nE (F.run A outer s H args us vs Q E aq.u (.inl aq.hd) bX ae r gv) λ z s' aZ=>by
  cases z with
  | error e=>exact False.elim aZ
  | ok da=>cases da<;>exact aZ]
noncomputable abbrev Bv (P:Program) (w:World) (K:cD) (mg:Str->c0) (base:Heap) (N:bT) (qual:Str) (scope:Scope) (f:Addr) (cd:Value) (A:Around) (outer:List Env) (s:Shared) (H:az) (E:dA):aP :=
 { k6 cS P w K mg base N qual scope f cd A outer s H E with calm:=false,warm:=true,c3:=λ _ _=>False }
theorem ahw {w:World} {N ag:bT} {f:Addr} {outer:List Env} {E:dA} {vs:bl}
  (S:cE N ag scope) (cj:we A s.heap H (fO outer) []) (bX:oj P w K mg base A outer s H) (av:vs.length=ag.length) (r:Vals vs us)
  (x:InCallC s s.heap.objs.size (bindL (envOfC qual scope s.heap.objs.size f cd).kindOf (ag.zip us) λ _=>none) (cellsFrom (s.heap.objs.size+1) scope.names []) (bindC (envOfC qual scope s.heap.objs.size f cd).kindOf (ag.zip us) λ _=>none) s1) :
  Inv (Bv P w K mg base N qual scope f cd A outer s H E) [] (start N vs) H s1:=by
 have I:Inv (k6 cS P w K mg base N qual scope f cd ({ A with handled:=none }) outer s H E) [] (start N vs) H s1:=JH (A:={ A with handled:=none }) S rfl #[bX.frames,bX.mod,bX.bs,bX.jh,bX.iQ,bX.lF,bX.a7,bX.bare] av r x;have ok:=I.ok;exact #[#[ok.mod,ok.kind,ok.glob,ok.blt,ok.above,ok.inj,ok.has,ok.o8,#[λ h=>(nomatch h),λ _=>cj],ok.frames,ok.qJ,ok.qn,ok.bs,ok.jh,ok.oq,ok.qO,ok.iQ,ok.lF],I.os,I.bare,I.base,I.loc,I.cell,I.free,I.ia,I.pin,I.a7,I.len]
theorem je.mx {w:World} {x:Str} {st:Stmt} {f:Addr} {fd:FuncData} {N ag:bT} {k:Nat} {sp:b3} (F:je K x qual st f fd) (S:cE N ag (bZ st)) (len : ∀ vs H Q E,sp vs H Q E->vs.length=ag.length)
  (ou : ∀ (bg:Value) (A:Around) (outer:List Env) (s:Shared) (H:az) (vs:bl) (Q:bG) (E:dA),jW k (A.deeper (envOfC qual (bZ st) s.heap.objs.size f bg))->sp vs H Q E ->
   ∃ t,jg (Bv P w K mg base N qual (bZ st) f bg A outer s H E) (jB st) t/\t { bu:=λ _ H'=>Q .bh H',kG:=Q } (start N vs) H):wq P w K mg base (k+1) f fd ag sp:=by
 obtain ⟨f7,b6,cX,doc,pm,an,bg,cK,og,rfl,lk,iN⟩:=F.ex;refine #[len,λ A outer s H args us vs Q E aq cj bX ae r gv=>?_];have av:=len _ _ _ _ gv;have j3:K.In s.heap:=bX.mod.kS.keeps λ b o e=>(bX.bs b o e).1
 have lim:s.heap.NoLimit:=bX.mod.nolimit.keeps λ b o e=>(bX.bs b o e).1
 have zQ : ∀ y∈ag.zip us,(bZ st).names.lookup y.1=some .local\/((bZ st).names.lookup y.1=some .cell/\((cellsFrom (s.heap.objs.size+1) (bZ st).names []).lookup y.1).isSome=true):=λ ⟨n,v⟩ aT=>by
  rcases S.par n (List.of_mem_zip aT).1 with q | q
  ·exact .inl q
  ·exact .inr #[q,C5 _ _ _ (.inl q)]
 refine Ig aq.depth (j3 _ _ lk) rfl S.co S.gen rfl (Ih j3 iN) (ae _ _ _ _ ?_);refine Ii S.kind zQ λ env he s1 x=>?_
 subst he;refine #[lim.keeps x.toInCall.keep,codeAny_func ?_];obtain ⟨t,aU,aZ⟩:=ou bg A outer s H vs Q E (aq.deeper _) gv;have I:Inv (Bv P w K mg base N qual (bZ st) f bg A outer s H E) [] (start N vs) H s1:=ahw S cj bX av r x;refine hb (aU.o [] s1 (start N vs) H _ I aZ) (λ da s' aB=>?_) λ e s' aB=>aB.elim
 have fin : ∀ {σ':St} {H':az} {v:V} {u:Value},Inv (Bv P w K mg base N qual (bZ st) f bg A outer s H E) [] σ' H' s'->RelV v u->Q v H'->xt outer P w H s Q u s' :=
  λ {σ' H' v u} J cx q=>#[v,H',J.os,J.bare,J.base,J.a7,cx,q]
 cases da with
 | ret u =>
  obtain ⟨v,σ',H',J,cx,q⟩:=aB;exact fin J cx q
 | next =>
  obtain ⟨σ',H',J,q⟩:=aB;exact fin (v:=V.bh) (u:=Value.none) J rfl q
 | brk =>
  obtain ⟨_,_,_,q⟩:=aB;exact False.elim q
 | cont =>
  obtain ⟨_,_,_,q⟩:=aB;exact False.elim q
section
variable {X:aP} {k:Nat} {f:Addr} {fd:FuncData} {ag:bT} {sp:b3} {x:Str} {p pos:Pos} {e:Expr} {ar:List Expr} {t:dc}
theorem lj (F:wq X.prog X.w X.K X.mg X.base k f fd ag sp) (aq:jW k X.A) (hw:X.warm=true) (aS:dW X x) (hm:X.mg x=some (.ref f)) (aG:PySem.W.keepIn X.K (.ref f)=true) (ae:Binds X.K fd ag [])
  (ay:fL X (e::ar) t) (eY:(x == ("__debug__" : Str))=false:=by decide) (c4:noStar e=true:=by rfl) (dH:(backTo pos (starEach ar X.env)).any (·.1)=false:=by rfl) :
  bO X (.Call (.Name x p) (e::ar) [] pos) (mK sp [] iC t):=#[by
 intro pins s σ H Q I h;refine pH (pV I aS hm ?_ eY);refine uF (h₀:=X.base) I.ok.mod.kS aG (bq (ay.o pos pins s σ H _ I h) ?_) (u_ c4 ar X.env) dH;rintro us s1 ⟨vs,H1,aK,r,q⟩;refine #[aK.eb,?_];have b8:Vals (vs++[]) (us++[]):=r.append .nil;have av:(us++[]).length=ag.length:=by rw [<-b8.length];exact F.len _ _ _ _ q
 refine pG (nE (F.run X.A X.stack s1 H1 #[us,[]] (us++[]) (vs++[]) Q iC aq (aK.Gi hw λ b ae=>absurd ae .zs) aK.uj (ae s1 us aK.eb av) b8 q) λ r s' aZ=>?_);cases r with
 | error e=>exact False.elim aZ
 | ok da =>
  cases da with
  | ret u=>exact aK.after aZ
  | next=>exact False.elim aZ
  | brk=>exact False.elim aZ
  | cont=>exact False.elim aZ]
noncomputable def ach (x:Addr) (sp:b3) (t:dc):TE:=λ σ H Q=>t σ H λ vs H1=>(∃ C d,H1 x=some (nx x C d)) /\ ∀ au,au x=none->(∀ b,b≠x->au b=H1 b)->sp (vs++[]) au Q iC
theorem ae7 {y:Addr} (F:wq X.prog X.w X.K X.mg X.base k f fd ag sp) (aq:jW k (mJ X y).A) (aj:X.ex=[]) (aS:dW (mJ X y) x) (hm:X.mg x=some (.ref f)) (aG:PySem.W.keepIn X.K (.ref f)=true) (ae:Binds X.K fd ag [])
  (ay:fL (mJ X y) (e::ar) t) (eY:(x == ("__debug__" : Str))=false:=by decide) (c4:noStar e=true:=by rfl) (dH:(backTo pos (starEach ar X.env)).any (·.1)=false:=by rfl) :
  bO (mJ X y) (.Call (.Name x p) (e::ar) [] pos) (ach y sp t):=#[by
 intro pins s σ H Q I h;refine pH (pV I aS hm ?_ eY);refine uF (h₀:=X.base) I.ok.mod.kS aG (bq (ay.o pos pins s σ H _ I h) ?_) (u_ c4 ar X.env) dH;rintro us s1 ⟨vs,H1,aK,r,⟨C,d,he⟩,EY⟩;refine #[aK.eb,?_];have q:=EY (λ b=>if b=y then none else H1 b) (if_pos rfl) λ b nb=>if_neg nb
 have cm:Inv (mJ X y) pins σ (λ b=>if b=y then none else H1 b) s1:=by
  refine aK.forget (e:=y) (λ b nb=>if_neg nb) (if_pos rfl) #[λ xs z=>?_,λ o u z=>?_,λ ag z=>?_,λ b z=>?_]
  ·rw [he] at z;cases z
  ·rw [he] at z;cases z
  ·rw [he] at z;cases z
  ·rw [he] at z;cases z
 have b7 : ∃ cb vs,s1.heap.get? y=some cb/\cb.cls=.ref C/\cb.dict=d/\cb.data=.fields vs/\vs[2]?=some .none:=(aK.a7 y _ he).1;obtain ⟨cb,zr,ah,_,_,ai,aH⟩:=b7;have YO:y∉fO X.stack:=λ z=>by
  have:=aK.uV y z;rw [he] at this;cases this
 have hd:we (mJ X y).A s1.heap (λ b=>if b=y then none else H1 b) (fO (mJ X y).stack) [] :=
  .inr #[y,cb,zr,rfl,ah,if_pos rfl,YO,.zs,ai,aH]
 have b8:Vals (vs++[]) (us++[]):=r.append .nil;have av:(us++[]).length=ag.length:=by rw [<-b8.length];exact F.len _ _ _ _ q
 refine pG (nE (F.run (mJ X y).A X.stack s1 _ #[us,[]] (us++[]) (vs++[]) Q iC aq hd cm.uj (ae s1 us aK.eb av) b8 q) λ r s' aZ=>?_);cases r with
 | error e=>exact False.elim aZ
 | ok da =>
  cases da with
  | ret u=>exact cm.after aZ
  | next=>exact False.elim aZ
  | brk=>exact False.elim aZ
  | cont=>exact False.elim aZ]
end
noncomputable def Cr (X:aP) (E:St->dA):Prop := ∀ (pins:d5) (σ:St) (H:az) (s:Shared) (e C:Addr) (d:Option Addr) (head:Value) (av:List Addr),Inv X pins σ H s->gw X pins e->H e=none ->
 Rec s.heap e (.ref C) d head->z7 s.heap e head av->(∀ b∈av,gw X pins b/\H b=none)->E σ (.ref C) d H->X.c3 (.ref e) s
theorem afs {X:aP} {W:b2} {E:St->dA} (aj:X.ex=[]) (c4:X.stack=X.env::X.outer) (hf:X.env.frame=some X.env.locals)
  (ER : ∀ (σ:St) (H:az) (s:Shared) (e C T:Addr) (d:Option Addr),Inv X pins σ H s->gw X pins e->H e=none->Rec s.heap e (.ref C) d (.ref T)->Ent s.heap T .none->T≠e->gw X pins T->H T=none->E σ (.ref C) d H->W (.ref e) s)   : Cr (oy X pins W) E:=by
 intro wA σ H s e C d head av I gZ iD aq cj yD gO;have xu:Inv X pins σ H s:=I.oO;show wpAny (model X.prog X.w) X.A (noteFrame (.ref e) X.env) _ _ s;have hI:X.A.frames=some (X.env::X.outer):=by rw [<-c4];exact xu.ok.frames
 have n8:s.heap.FunFrames X.base (X.env::X.outer):=by rw [<-c4];exact xu.stack
 refine landed hI n8 hf aq cj λ h' T b0 lN eE bJ t1=>?_
 have t6:kv (e::av) (fO X.stack) s.heap h':=by rw [c4];exact eE
 have aK:Inv X pins σ H { s with heap:=h' }:=xu.oL aj t6 λ b ae=>by
  rcases c1.mp ae with z | z
  ·rw [z];exact #[gZ.oO,iD]
  ·exact #[(yD b z).1.oO,(yD b z).2]
 exact ER σ H _ e C T d aK gZ.oO iD bJ t1 lN (gw.of xu aj b0) (xu.a7.gone b0) gO
noncomputable def adG (sp:b3) (E:St->dA) (t:dc):TE:=λ σ H Q=>t σ H λ vs H1=>sp (vs++[]) H1 Q (E σ)
section
variable {X:aP} {k:Nat} {f:Addr} {fd:FuncData} {ag:bT} {sp:b3} {x:Str} {p pos:Pos} {e:Expr} {ar:List Expr} {t:dc} {E:St->dA}
theorem agw (F:eo X.prog X.w X.K X.mg X.base (iL X.prog X.w) k f fd ag sp) (aq:er k X.A) (aj:X.ex=[]) (f6:Cr X E) (aS:dW X x) (hm:X.mg x=some (.ref f)) (aG:PySem.W.keepIn X.K (.ref f)=true) (ae:Binds X.K fd ag [])
  (ay:fL X (e::ar) t) (eY:(x == ("__debug__" : Str))=false:=by decide) (c4:noStar e=true:=by rfl) (dH:(backTo pos (starEach ar X.env)).any (·.1)=false:=by rfl) :
  bO X (.Call (.Name x p) (e::ar) [] pos) (adG sp E t):=#[by
 intro pins s σ H Q I h;refine pH (pV I aS hm ?_ eY);refine uF (h₀:=X.base) I.ok.mod.kS aG (bq (ay.o pos pins s σ H _ I h) ?_) (u_ c4 ar X.env) dH;rintro us s1 ⟨vs,H1,aK,r,q⟩;refine #[aK.eb,?_];have b8:Vals (vs++[]) (us++[]):=r.append .nil;have av:(us++[]).length=ag.length:=by rw [<-b8.length];exact F.len _ _ _ _ q
 refine pG (nE (F.run X.A X.stack s1 H1 #[us,[]] (us++[]) (vs++[]) Q (E σ) aq aK.uj (ae s1 us aK.eb av) b8 q) λ r s' aZ=>?_);cases r with
 | error ev =>
  obtain ⟨e,T,C,d,H',rfl,aJ,Xm,u,a7,gZ,oZ,lN,iD,d_,kh,aU,gO⟩:=aZ;exact f6 pins σ H' s' e C d (.ref T) [T] (aK.CN aJ u a7 Xm λ b ae=>absurd ae .zs) (gw.of aK aj gZ) iD kh (.inr #[T,rfl,aU,lN,rfl]) (λ b ae=>by rw [eC.mp ae];exact #[gw.of aK aj oZ,d_]) gO
 | ok da =>
  cases da with
  | ret u=>exact aK.after aZ
  | next=>exact False.elim aZ
  | brk=>exact False.elim aZ
  | cont=>exact False.elim aZ]
end
noncomputable def IL (K:cD) (F:Addr) (U:Addr->Prop):Prop := ∀ C,U C -> ∀ (M:Model) (A:Around) (E:b2) (Q:Bool->Shared->Prop) (s:Shared) (e:Addr) (cb:Obj),K.In s.heap->s.heap.get? e=some cb->cb.cls=.ref C->Q true s->wpAny M A (excMatches (.ref e) (.ref F)) Q E s
theorem ahK {x:Str} {C:Addr} (c:p5 K mg x C Fr fI):IL K C (λ D=>D=C):=by
 rintro _ rfl M A E Q s e cb X he tS aZ;obtain ⟨nm,q,N,bs,sn,sub,ab,col,dd,k0,k1,k2,k3,k5,h,_⟩:=c.b7;obtain ⟨cj,g,d,t,os⟩:=s;refine wpAny_excMatches_sub_self (X _ _ h) he tS ?_ aZ;rw [Ag,show jJ.contains (.type "BaseException")=true by decide +kernel,Bool.or_true]
open PySem PySem.Spec PyProof.Rows rF PySem.W
noncomputable def QE (K:cD) (F:Addr) (V:Addr->Prop):Prop := ∀ C,V C -> ∀ (M:Model) (A:Around) (E:b2) (Q:Bool->Shared->Prop) (s:Shared) (e:Addr) (cb:Obj),K.In s.heap->s.heap.get? e=some cb->cb.cls=.ref C->Q false s->wpAny M A (excMatches (.ref e) (.ref F)) Q E s
theorem aet {C F:Addr} (h:PySem.W.kitOne K (.ref C) (.ref F)=some false) (dM:PySem.W.mroIn K F (.type "BaseException")=some true):QE K F (λ D=>D=C):=by
 rintro D rfl M A E Q s e cb X he ak q;have aj:PySem.W.exmOne K (.ref D) (.ref F)=some false:=by
  unfold PySem.W.kitOne at h;split at h
  ·cases h
  ·unfold PySem.W.exmOne;rw [if_pos (by show (PySem.W.mroIn K F (.type "BaseException") == some true)=true;rw [dM];rfl)];exact h
 have T:Looks M s.heap (typeOf (.ref e)) (.ref D):=ak ▸ (Looks.ld he).andThen .now;exact (PySem.W.exm_one (M:=M) X T aj).here q
noncomputable def OR (X:aP) (E:dA):Prop := ∀ (pins:d5) (σ:St) (H:az) (s:Shared) (e C T:Addr) (d:Option Addr),Inv X pins σ H s->gw X pins e->H e=none->gw X pins T->H T=none ->
 Rec s.heap e (.ref C) d (.ref T)->Ent s.heap T (rawInt X.env.locals)->T≠e->E (.ref C) d H->X.c3 (.ref e) s
theorem adM {w:World} {N:bT} {f:Addr} {outer:List Env} {E:dA} :
  OR (k6 (iL P w) P w K mg base N qual scope f cd A outer s0 bx E) E:=by
 intro pins σ H s e C T d I gZ iD oZ d_ aq aU lN gO;show wpAny (model P w) (A.deeper (envOfC qual scope s0.heap.objs.size f cd)) (leaving (envOfC qual scope s0.heap.objs.size f cd) (.ref e)) _ _ s;unfold leaving;obtain ⟨cb,vs,he,eP,BH,hd,ah,ai⟩:=id aq;obtain ⟨tD,ts,b0,jN,aH⟩:=id aU;refine aC ?_;unfold noteFrame;show wpAny _ _ (field (.ref e) 1>>=_) _ _ s;refine aC (fc he hd ah ?_);rw [if_pos (show (Value.ref T != Value.none)=true from by simp)];refine aC (fc b0 jN aH ?_);rw [if_pos (by show (rawInt s0.heap.objs.size == rawInt s0.heap.objs.size)=true;simp)];refine bH ?_;have vT : ∀ b∈mq (envOfC qual scope s0.heap.objs.size f cd::outer),b≠T:=λ b ae z=>by
  obtain ⟨_,o,aJ,n_⟩:=I.stack.mem ae;rw [z,b0] at aJ;injection aJ with aJ;subst aJ;exact n_ ts jN
 refine land (F:=mq (envOfC qual scope s0.heap.objs.size f cd::outer)) aq aU lN vT λ h' eE bJ t1=>#[e,T,C,d,H,rfl,I.os,I.bare,?_,?_,gZ.s0,oZ.s0,lN,iD,d_,bJ,t1,gO]
 ·refine (show fY (fO outer) [] bx H s0.heap s.heap from I.base).oL eE (λ b ae=>?_) (λ b ae=>?_)
  ·rw [eC.mp ae];exact oZ.s0
  ·rcases c1.mp (show b∈s0.heap.objs.size::fO outer from ae) with z | z
   ·refine .inr ?_;cases q:s0.heap.get? b with
    | none=>rfl
    | some o=>have:=cu q;rw [z] at this;exact absurd this (iX _)
   ·exact .inl z
 ·refine I.a7.oL eE (λ b ae=>?_) (show ∀ b∈mq (envOfC qual scope s0.heap.objs.size f cd::outer),H b=none from I.uV);rw [eC.mp ae];exact d_
noncomputable def aa8 (U V:Addr->Prop) (i:Nat) (G:dA) (E:St->dA) (bz:de) (ts:Addr->de):de:=λ D σ H=>bz D σ H /\ ∀ C d H1 (σ1:St),E σ1 (.ref C) d H1->(V C/\G (.ref C) d H1)\/(U C /\ ∀ (e:Addr),H1 e=none->i < σ1.length ->
 ts e { bu:=λ σ2 au=>D.bu ((σ2.set i (some .bh)).set i none) au,kG:=D.kG,aQ:=λ σ2 au=>D.aQ ((σ2.set i (some .bh)).set i none) au,cK:=λ σ2 au=>D.cK ((σ2.set i (some .bh)).set i none) au } (σ1.set i (some (.ref e))) (upd H1 e (nx e C d)))
theorem Q9 {X:aP} {G:dA} {E:St->dA} {x n:Str} {i:Nat} {F:Addr} {U V:Addr->Prop} {uu:List Stmt} {rG:Stmt} {bz:de} {ts:Addr->de} {np k8 pos:Pos} (aj:X.ex=[]) (c4:X.stack=X.env::X.outer) (hf:X.env.frame=some X.env.locals) (tp:X.mg x=some (.ref F)) (xM:IL X.K F U) (Xa:QE X.K F V) (f6:OR X G) (Nn:X.env.frame=some X.env.locals) (aS:dW X x)
  (dx:X.N.Nodup) (ax:X.N[i]?=some n) (aG:X.env.scope.names.lookup n=some .local)
  (ae : ∀ pins W,Cr (oy X pins W) E->jg (oy X pins W) body bz) (aB : ∀ e,jg (mJ X e) (rG::uu) (ts e)) (hd:(x == ("__debug__" : Str))=false:=by decide) :
  h3 X (.Try body [.ExceptHandler (some (.Name x np)) (some n) (rG::uu) k8] [] [] pos) (aa8 U V i G E bz ts):=#[by
 rintro pins s σ H D I ⟨ah,ai⟩;refine wpAny_Try_except ?_;have ER : ∀ (σ:St) (H:az) (s:Shared) (e C T:Addr) (d:Option Addr),Inv X pins σ H s->gw X pins e->H e=none->Rec s.heap e (.ref C) d (.ref T)->Ent s.heap T .none->T≠e->gw X pins T->H T=none->E σ (.ref C) d H ->
   wpAny (model X.prog X.w) X.A (handleBy (.ref e) X.env [.ExceptHandler (some (.Name x np)) (some n) (rG::uu) k8]) (lu X pins D) X.c3 s:=by
  intro σ H s e C T d I gZ iD aq aU lN oZ d_ gO;obtain ⟨cb,vs,he,tS,BH,Gl,GG⟩:=id aq;rcases ai C d H σ gO with ⟨Vg,kE⟩ | ⟨Vf,XM⟩
  ·refine wpAny_handleBy_cons (codeAny_handlers_test (C4 I.ok.kind aS (Ic (by rw [I.ok.glob];exact I.mod.glob.keeps I.aQ) tp ?_) hd)) (by intro q;cases q);refine Xa C Vg _ _ _ _ _ _ _ I.eb he tS ?_;refine wpAny_handleBy_nil ?_;unfold PySem.passOn;obtain ⟨tD,OH,b0,jN,aH⟩:=id aU;refine aC (fc he Gl GG.1 ?_);rw [if_neg (show ¬ ((Value.ref T == Value.none)=true) from by simp)];refine aC ?_;unfold setFlight;refine aC (fc he Gl GG.1 ?_);rw [if_pos (show (Value.ref T != Value.none)=true from by simp),Nn];refine ux b0 jN (wQ.mp aH).1 (wpAny_throw ?_);have eE:kv [T] (fO X.stack) s.heap (s.heap.update T (Obj.mapFields (·.setIfInBounds 3 (rawInt X.env.locals)))) :=
    #[λ b o nl _ q=>(ju _ _ (λ z=>nl (by rw [z];exact eC.mpr rfl))).trans q,λ b o nl _ q=>#[o.slots,(ju _ _ (λ z=>nl (by rw [z];exact eC.mpr rfl))).trans q]]
   refine f6 pins σ H _ e C T d (I.oL aj eE λ b ae=>by rw [eC.mp ae];exact #[oZ,d_]) gZ iD oZ d_ #[cb,vs,(ju _ _ lN).trans he,tS,BH,Gl,GG] #[_,_,oz _ b0 (wC (q2 jN _)),q2 jN _,?_] lN kE;have:=(wQ.mp aH).1;simp [this]
  have hiσ:i < σ.length:=by rw [I.len];exact (fJ.mp ax).1
  refine wpAny_handleBy_cons (codeAny_handlers_test (C4 I.ok.kind aS (Ic (by rw [I.ok.glob];exact I.mod.glob.keeps I.aQ) tp ?_) hd)) (by intro q;cases q);refine xM C Vf _ _ _ _ _ _ _ I.eb he tS ?_;refine codeAny_handlers_suite_as ?_;refine land (F:=fO X.stack) aq aU lN (λ b ae z=>?_) λ h' eE bJ t1=>?_
  ·obtain ⟨_,o,aJ,n_⟩:=I.stack.mem ae;obtain ⟨tD,OH,b0,jN,_⟩:=aU;rw [z,b0] at aJ;injection aJ with aJ;subst aJ;exact n_ OH jN
  have aK:Inv X pins σ H { s with heap:=h' }:=I.oL aj eE λ b ae=>by rw [eC.mp ae];exact #[oZ,d_]
  have cm:Inv X pins σ (upd H e (nx e C d)) { s with heap:=h' }:=aK.known aj gZ iD (Rec.ok bJ) λ b ae z=>by
   obtain ⟨_,o,aJ,n_⟩:=aK.stack.mem ae;obtain ⟨G9,zr,yy,_,_,r4,_⟩:=bJ;rw [z] at aJ;have:(Option.some G9)=some o:=yy.symm.trans aJ;injection this with this;subst this;exact n_ zr r4
  refine DW cm dx ax (.inl aG) (v:=.ref e) rfl (λ s2 cv=>?_) (.inr aG);refine hb ((aB e).o pins s2 _ _ _ cv.Iu (XM e iD hiσ)) (λ f s3 gv=>?_) λ _ _ z=>z.elim
  have fin : ∀ (σ3:St) (aW:az) (Z:Flow->Shared->Prop) , Inv X pins σ3 aW s3->(∀ s5,Inv X pins ((σ3.set i (some .bh)).set i none) aW s5->Z f s5) ->
    wpAny (model X.prog X.w) X.A (do bindName X.env n .none;unbindBehindTheSuite X.env n k8) (λ _ s5=>Z f s5) X.c3 s3:=by
   intro σ3 aW Z eM Vh;have Xn:i < σ3.length:=by rw [eM.len];exact (fJ.mp ax).1
   refine aC (wpAny_bindName (DW eM dx ax (.inl aG) (v:=.bh) rfl (λ s4 l4=>?_) (.inr aG)));unfold unbindBehindTheSuite;exact rf (ag6 l4 dx ax aG (sC Xn) λ s5 gm=>Vh s5 gm)
  cases f with
  | next =>
   obtain ⟨σ3,aW,eM,q⟩:=gv;exact fin σ3 aW (lu X pins D) (eM.DX I.ok) λ s5 gm=>#[_,_,gm,q]
  | brk =>
   obtain ⟨σ3,aW,eM,q⟩:=gv;exact fin σ3 aW (lu X pins D) (eM.DX I.ok) λ s5 gm=>#[_,_,gm,q]
  | cont =>
   obtain ⟨σ3,aW,eM,q⟩:=gv;exact fin σ3 aW (lu X pins D) (eM.DX I.ok) λ s5 gm=>#[_,_,gm,q]
  | ret u =>
   obtain ⟨v,σ3,aW,eM,cx,q⟩:=gv;exact fin σ3 aW (lu X pins D) (eM.DX I.ok) λ s5 gm=>#[v,_,_,gm,cx,q]
 have kJ:Cr (oy X pins λ e s3=>wpAny (model X.prog X.w) X.A (handleBy e X.env [.ExceptHandler (some (.Name x np)) (some n) (rG::uu) k8]) (lu X pins D) X.c3 s3) E:=afs aj c4 hf ER;refine hb ((ae pins _ kJ).o [] s σ H D I.H_ ah) (λ f s1 gv=>?_) λ _ _ z=>z
 cases f with
 | next =>
  obtain ⟨σ3,aW,eM,q⟩:=gv;exact z4 #[σ3,aW,eM.oO,q]
 | brk =>
  obtain ⟨σ3,aW,eM,q⟩:=gv;exact #[σ3,aW,eM.oO,q]
 | cont =>
  obtain ⟨σ3,aW,eM,q⟩:=gv;exact #[σ3,aW,eM.oO,q]
 | ret u =>
  obtain ⟨v,σ3,aW,eM,cx,q⟩:=gv;exact #[v,σ3,aW,eM.oO,cx,q]]
theorem aim {x:Str} {F:Addr} (tp:mz K mg x F):IL K F (λ C=>Under K C F):=by
 intro C U M A E Q s e cb X he tS q;obtain ⟨bm,N,nm,rS,bs,hdct,sn,sub,ab,col,dd,k0,k1,k2,k3,k5,mN,eP,ak3,tY,akg⟩:=((mz.own (mg:=λ _=>some (.ref C)) (x:=x) #[rfl,U.is]) X).obj;obtain ⟨Bu,Mh,NV,aY,MV,PM,OA,Px,MS,OT,nc,A9,c_,dP,rL,Mw,alh,W4,alB,alG,VU⟩:=(tp.own X).obj;have kP:bm.contains (.ref F)=true:=by
  have m:=U.NG;unfold PySem.W.mroIn at m;obtain ⟨cd,a,b⟩:=Ai.mp m;unfold PySem.W.clsIn at a;split at a
  ·rename_i aJ;have z:=X _ _ aJ;rw [eP] at z;cases z;cases a;split at b
   ·cases b
   ·have i8:(Value.ref C::bm).contains (.ref F)=true:=gR b;rw [Ag] at i8;rcases Bool.or_eq_true_iff.mp i8 with y | y
    ·have:=oC.mp y;injection this with this;exact absurd this.symm U.ne
    ·exact y
  ·cases a
 exact ajN eP W4 he tS (VU.hasType Dr.hasBase) kP q
theorem I2 {X:aP} {E:dA} {x n:Str} {i:Nat} {F:Addr} {uu:List Stmt} {rG:Stmt} {bz ts:de} {np k8 pos:Pos} (aj:X.ex=[]) (c4:X.stack=X.env::X.outer) (hf:X.env.frame=some X.env.locals) (tp:mz X.K X.mg x F) (aS:dW X x)
  (dx:X.N.Nodup) (ax:X.N[i]?=some n) (aG:X.env.scope.names.lookup n=some .local)
  (ae : ∀ pins W,x_ (oy X pins W) E->jg (oy X pins W) body bz) (aB : ∀ e,jg (mJ X e) (rG::uu) ts) (hd:(x == ("__debug__" : Str))=false:=by decide) :
  h3 X (.Try body [.ExceptHandler (some (.Name x np)) (some n) (rG::uu) k8] [] [] pos) (aaA X.K F i E bz ts):=#[λ pins s σ H D I h =>
 (Q9 (U:=λ C=>Under X.K C F) (V:=λ _=>False) (G:=λ _ _ _=>False) (E:=λ _=>E) (ts:=λ _=>ts) aj c4 hf tp.at_ (aim tp) (λ _ z=>z.elim) (λ _ _ _ _ _ _ _ _ _ _ _ _ _ _ _ _ z=>z.elim) hf aS dx ax aG (λ pins W k=>ae pins W k) aB hd).o pins s σ H D I
  #[h.1,λ C d H1 σ1 gO=>.inr #[(h.2 C d H1 gO).1,λ e he ax=>(h.2 C d H1 gO).2 e σ1 he ax]]]
open PySem PySem.Spec PySem.Calls PyProof.Rows
noncomputable def ZF (n:Nat) (t:mn):iH:=λ v σ H Q => ∃ a xs,v=.ref a/\H a=some (.lst xs)/\xs.length=n/\t xs σ H Q
theorem Qr {X:aP} {ar:List Expr} {k:Nat} {pos:Pos} {t:mn} (ak:X.calm=true) (h:vI X ar t)
  (aF:(assignEach ar X.env).length=n:=by rfl) (c4:(assignEach ar X.env).findIdx? (·.1)=none:=by rfl):mY X (.Tuple ar k pos) (ZF n t):=#[by
 intro pins s σ H v u Q I r hw;obtain ⟨a,xs,aM,aZ,av,hw⟩:=hw;subst aM;cases r;obtain ⟨its,cx,p,a6⟩:=I.list (a9.of aZ);rw [assign_Tuple];refine aC (nB ?_);unfold unpack;have hsz:(assignEach ar X.env).length=its.toArray.size:=by simp [aF,<-av,cx.length]
 rw [hsz,c4];refine aC (hY (PySem.W.kun_itemsOf (I.ok.hd.1 ak) p.isList λ h' aj=>?_));have aK:Inv X pins σ H { s with heap:=h' }:=I.kept (t':=s.toks) λ b o e=>aj b o (d3 (cu e)) e
 exact h.o pins _ σ H xs _ Q aK (by simpa using cx) hw]
theorem IM {α: Type} {xs:List α} {x: α} (aF:xs.length=n+1) (h:xs[n]?=some x):il xs (-1)=some x:=by
 have e:xs=xs.take n++[x]:=by
  have ah:xs.take (n+1)=xs:=oA .aD;rw [sU,h] at ah;exact ah.symm
 rw [e];exact Ru _ _
end bM
namespace gu
noncomputable def HV (rows:fq) (m:Nat) (ag:aV) (rws:fq):Prop:=rws.length=(jT rows m ag).length+1/\(∀ i,i<rws.length->rws[i]?=goN rows i ag)/\((jT rows m ag).length=m \/ ∃ cur,goN rows (jT rows m ag).length ag=some cur/\dq rows cur=none)
theorem An (l:eG):(fb l).length=l.length:=by unfold fb;rw [bY]
end gu
namespace bM
open PySem PySem.Spec PyProof.Rows
noncomputable abbrev Itm (K:cD) (a b:Addr):h2:=tI false true K a b
noncomputable abbrev aaQ (K:cD) (a3:dc):TI:=H2 false true K a3
theorem adk {X:aP} {bk:Expr} {a3:dc} {p pos:Pos} (h8:oN bk=true) (aS:dW X "zip") (hm:X.mg "zip" = none) (ay:fL X [aM,aO] a3) (aB:starEach [aM,aO] X.env=[(false,eval aM X.env),(false,eval aO X.env)]:=by rfl) (gd:starEach [aO] X.env=[(false,eval aO X.env)]:=by rfl)
  (ae:bootBuiltins "zip" = some (.type "zip"):=by decide +kernel):lr X bk (.Call (.Name "zip" p) [aM,aO] [] pos) (aaQ X.K a3):=#[Q4 h8 aS hm ay.o aB gd ae]
theorem aea {a b:Addr} {bz:de} {D:Ends} (Pv:Nat->St->az->Prop) (h0:Pv 0 σ H) (av : ∀ i σ H,i<=min xs.length ys.length->Pv i σ H->a0 K H a xs/\a9 K H b ys)
  (aB : ∀ i x y p σ H,xs[i]?=some x->ys[i]?=some y->H p=none->Pv i σ H->g (.ref p) σ (upd H p (.tup [x,y])) λ σ2 au=>bz { D with bu:=Pv (i+1),cK:=Pv (i+1),aQ:=D.bu } σ2 au) (hd : ∀ σ H,Pv (min xs.length ys.length) σ H->D.bu σ H) :
  ∃ W:Nat->Nat->St->az->Prop,(∃ m,W 0 m σ H) /\ ∀ i m σ H,W i m σ H ->
   ((Itm K a b).stop i H/\D.bu σ H)\/((Itm K a b).go i H /\ ∃ N:St->az->Prop,(∀ σ' H',N σ' H' -> ∃ cP,cP<m/\W (i+1) cP σ' H') /\ ∀ x H',(Itm K a b).jl i H x H'->g x σ H' λ σ2 au=>bz { D with bu:=N,cK:=N,aQ:=D.bu } σ2 au) :=
 RB (p:=false) (q:=true) Pv h0 av aB hd
open PySem PySem.Spec PyProof.Rows cJ
section
variable {X:aP}
noncomputable def P0:V->V->az->bG->Prop:=λ x y H Q => ∃ p xs i v,x=.ref p/\y=.int i/\H p=some (.lst xs)/\0<=i/\xs[i.toNat]?=some v/\Q v H
theorem aec:OQ X P0:=by
 intro pins s σ H x y df ed Q I a5 bt h;obtain ⟨p,xs,i,z,rfl,rfl,aZ,h0,he,q⟩:=h;cases a5;obtain ⟨t,rfl⟩:=bt;obtain ⟨its,r,pl,a6⟩:=I.list (a9.of aZ);obtain ⟨w,rJ,g7⟩:=r.get he;have av:=r.length;have aF:=uI;have ax:i.toNat<xs.length:=(fJ.mp he).1;exact wpAny_getItem_list pl.isList h0 .aD (by simpa using rJ) #[z,H,I,g7,q]
theorem adl {o i e:Expr} {to hU bp:TE} {CK pos:Pos} (aJ:bO X o to) (ax:bO X i hU) (he:bO X e bp)
  (ay : ∀ df ed new,augStore i df ed new=(do holding [new,df,ed] (setItem df ed new);release [new,df,ed] [];pure .next):=by intros;rfl):h3 X (.AugAssign (.Subscript o i CK) .Add e pos) (P5 to hU bp P0 (NI λ i j=>i+j) P1):=#[ac5 aJ.o ax.o aec he.o abr set_list ay]
end
end bM
namespace gu
noncomputable abbrev kj (x y:Int):Int:=x - y
noncomputable abbrev jk (x y:Int):Int:=if y<x then y else x
theorem HX : ∀ (s t:aV),(List.zipWith kj s (List.zipWith jk s t)).map Int.toNat=ups (List.zipWith kj s t)
 | [],_=>rfl
 | _::_,[]=>rfl
 | x::s,y::t=>by
  show (x - jk x y).toNat::(List.zipWith kj s (List.zipWith jk s t)).map Int.toNat=(x - y).toNat::ups (List.zipWith kj s t);rw [HX s t];congr 1;unfold jk;split<;>omega
theorem HY : ∀ (s t:aV),(List.zipWith kj t (List.zipWith jk s t)).map Int.toNat=downs (List.zipWith kj s t)
 | [],[]=>rfl
 | [],_::_=>rfl
 | _::_,[]=>rfl
 | x::s,y::t=>by
  show (y - jk x y).toNat::(List.zipWith kj t (List.zipWith jk s t)).map Int.toNat=(-(x - y)).toNat::downs (List.zipWith kj s t);rw [HY s t];congr 1;unfold jk;split<;>omega
theorem Rj : ∀ (s t:aV),(∀ e∈t,0<=e)->(ups (List.zipWith kj s t)).sum<=(ups s).sum
 | [],_,_=>by simp [ups]
 | _::_,[],_=>by simp [ups]
 | x::s,y::t,h=>by
  have ah:=h y gS;have ai:=Rj s t λ e he=>h e (ht _ he)
  show ((x - y).toNat::ups (List.zipWith kj s t)).sum<=(x.toNat::ups s).sum;rw [sT,sT];omega
theorem Sp : ∀ (s t:aV),(∀ e∈s,0<=e)->(downs (List.zipWith kj s t)).sum<=(ups t).sum
 | [],_,_=>by simp [downs]
 | _::_,[],_=>by simp [downs]
 | x::s,y::t,h=>by
  have ah:=h x gS;have ai:=Sp s t λ e he=>h e (ht _ he)
  show ((-(x - y)).toNat::downs (List.zipWith kj s t)).sum<=(y.toNat::ups t).sum;rw [sT,sT];omega
theorem QZ : ∀ {l:eG} {x:Nat},x∈l->x<=l.sum
 | [],_,h=>by cases h
 | y::r,x,h=>by
  rw [sT];rcases c1.mp h with z | z
  ·omega
  ·have:=QZ z;omega
theorem abo {s t:aV} {e:Int} (h:e∈List.zipWith kj s (List.zipWith jk s t)):0<=e:=by
 obtain ⟨k,aG⟩:=mO h;rw [nJ] at aG;obtain ⟨x,m,aj,hm,rfl⟩:=aG;rw [nJ] at hm;obtain ⟨e7,y,dD,aT,rfl⟩:=hm;rw [aj] at dD;cases dD;show 0<=x - jk x y;unfold jk;split<;>omega
theorem abp {s t:aV} {e:Int} (h:e∈List.zipWith kj t (List.zipWith jk s t)):0<=e:=by
 obtain ⟨k,aG⟩:=mO h;rw [nJ] at aG;obtain ⟨y,m,aT,hm,rfl⟩:=aG;rw [nJ] at hm;obtain ⟨x,ij,aj,eZ,rfl⟩:=hm;rw [aT] at eZ;cases eZ;show 0<=y - jk x y;unfold jk;split<;>omega
theorem Qc {l:aV} (h0 : ∀ e∈l,0<=e) (h:(l.map Int.toNat).sum<=n) (aF:n<=1000) : ∀ e∈l,0<=e/\e<2 ^ 62:=λ e he=>by
 have:=QZ (pU (f:=Int.toNat) he);have:=h0 e he;omega
end gu
namespace cJ
open PySem bM gu
theorem K1 {a b:Addr} {bp:TE} {Q:bG} {xs ys:aV} {f:Int->Int->Int} (aF:min xs.length ys.length<=sizeLine) (aw : ∃ u v,pick js σ=u::v::σ0) (a8:H1 D=none)
  (ay:H1 a=some (.lst (xs.map V.int))) (ae:H1 b=some (.lst (ys.map V.int)))
  (aB : ∀ (x y:Int) (H':az) (R:bG),x∈xs->y∈ys->R (.int (f x y)) H'->bp (some (.int x)::some (.int y)::σ0) H' R)
  (q : ∀ H',aE H1 H'->H' D=some (.lst ((List.zipWith f xs ys).map V.int))->Q (.ref D) H'):kn (Cp a b) D js (wi K 2 (su (gx 0) (su (gx 1) zy))) mS bp σ H1 Q:=by
 obtain ⟨qg,v0,aw⟩:=aw;refine Sn (a:=a) (b:=b) (xs:=xs.map V.int) (ys:=ys.map V.int) (by rw [bY,bY];exact aF) (λ i σ' H' zs=>(∃ u v:dG,σ'=u::v::σ0)/\aE H1 H'/\zs=((List.zipWith f xs ys).take i).map V.int) #[#[qg,v0,aw],aE.new a8,rfl] (λ i σ' H' zs _ ⟨_,s',_⟩=>#[s' _ _ ay,s' _ _ ae]) ?_ ?_
 ·rintro i x y p σ' H' zs R aj aT aw ei ki ⟨⟨u,v,rfl⟩,s',rfl⟩ dF;obtain ⟨x,rfl,dD⟩:=l1 aj;obtain ⟨y,rfl,eZ⟩:=l1 aT;refine #[p,_,rfl,a0.of bL,rfl,_,_,rfl,_,_,rfl,rfl,?_];refine aB x y _ _ (dr dD) (dr eZ) (dF _ _ _ ?_ #[#[_,_,rfl],?_,?_])
  ·rw [bj (cf ei aw)];exact ei
  ·intro c o e;rw [bj (cf e a8),bj (cf (s' c o e) aw)];exact s' c o e
  ·rw [T3 dD eZ,mP];rfl
 ·rintro σ' H' zs ei ki ⟨_,s',rfl⟩;refine q H' s' ?_;rw [ei,bY,bY,oA (by rw [wV];exact b9 _)]
noncomputable def ON (a l:Addr) (H H':az):Prop := ∀ c o,c≠a->c≠l->H c=some o->H' c=some o
end cJ
namespace bM
open PySem PySem.Spec PyProof.Rows
theorem aeZ {X:aP} {bk:Expr} {ej pos:Pos} {N:bT} {c7:TT} {bp:TE} {ed:Nat}
  (ym:X.N.Nodup) (yF:X.N[ed]?=some x0) (yU:Loc X.env.scope x0)
  (C:IK X scope cl N js) (ak:X.warm=true) (ax:lq X bk iter gr)
  (aS : ∀ a_ pins s H,nQ (gW X scope cl N a_ pins s H λ _ _=>False) bk g)
  (aU : ∀ a_ pins s H,tJ (gW X scope cl N a_ pins s H λ _ _=>False) cs c7)
  (he : ∀ a_ pins s H,cn (gW X scope cl N a_ pins s H λ _ _=>False) elt bp)
  (yS:swapsWith (.ListComp elt [#[bk,iter,cs,0]] scope ej) (some (.Name x0 pos')) pos.line X.env=pure true)
  (aB : ∀ x,foldedSetIterable iter X.env x=pure x:=by intro _;rfl) (yz:X.fn x0=true\/X.env.scope.names.lookup x0=some .local:=by first | exact .inl rfl | exact .inr rfl | assumption):kz X (.Assign [.Name x0 pos'] (.ListComp elt [#[bk,iter,cs,0]] scope ej) pos) (lQ (wB js gr g c7 bp) (gx ed)):=by
 intro pins s σ H Ew I h;rw [exec_Assign_Name_used _ _ _ _ yS];refine aC (nB (aC ?_));show wpAny _ X.A (do let _ ← comprehension (.ListComp elt [#[bk,iter,cs,0]] scope ej) scope X.env _ (newList []) false (eval iter X.env) (some (assign (.Name x0 pos') X.env))) _ _ s;refine aC (hb (wpAny_comprehension_free (use:=some (assign (.Name x0 pos') X.env)) (Q:=λ _ s'=>lu X pins Ew .next s') rfl aB C.si C.kind C.names (bq (ax pins s σ H _ I h) λ VK s1 ah=>bq ah λ BY s2 ai=>?_)) (λ _ s' aZ=>bH (bH aZ)) λ _ _ e=>e);obtain ⟨it,a_,hk,J,au,e,cm,T,qH,f2,ai⟩:=ai;subst e;obtain ⟨W,⟨m0,gH⟩,turn⟩:=ai s2.heap.objs.size cm.fresh;refine mG (Tr ?_);have cv:Inv X pins σ (upd au s2.heap.objs.size (.lst [])) { s2 with heap:=s2.heap.push { cls:=.type "list", data:=.seq ([]:List Value).toArray } }:=cm.CB (t':=s2.toks) (its:=[]) .nil (j0 _);dsimp only;generalize el:({ s2 with heap:=s2.heap.push { cls:=.type "list", data:=.seq ([]:List Value).toArray } }:Shared)=s3 at cv;have tM:s2.heap.push { cls:=.type "list", data:=.seq ([]:List Value).toArray }=s3.heap:=by rw [<-el]
 have Wb:s2.gens=s3.gens:=by rw [<-el]
 have Wc:s2.os=s3.os:=by rw [<-el]
 rw [tM];have zd:(pushCells (s3.heap.push { cls:=.type "dict", data:=.dict #[] }) scope.names).Ns s3.heap.objs.size (λ _=>none):=(Heap.Ns.new s3.heap (.type "dict")).keeps (Dl _ _);have kV : ∀ b o,s3.heap.get? b=some o->(pushCells (s3.heap.push { cls:=.type "dict", data:=.dict #[] }) scope.names).get? b=some o:=λ b o q=>Dl _ _ b o (bK _ q)
 have e8:=cellsFrom_ok scope.names (s3.heap.push { cls:=.type "dict", data:=.dict #[] }) (s3.heap.objs.size+1) [] #[λ _ _ hm=>(nomatch hm),List.Pairwise.nil] (by rw [ha];exact b9 _);rw [ha] at e8;generalize pushCells (s3.heap.push { cls:=.type "dict", data:=.dict #[] }) scope.names=a4 at zd kV e8 ⊢;generalize m3:upd au s2.heap.objs.size (.lst [])=aW at cv gH;have a8:s2.heap.objs.size<s3.heap.objs.size:=by rw [<-tM,ha];exact q3 _
 have zp : ∀ b o,s2.heap.get? b=some o->s3.heap.get? b=some o:=λ b o q=>by rw [<-tM];exact bK _ q
 have yc : ∀ x c,cl.lookup x=some c->c<s3.heap.objs.size:=λ x c q=>by
  obtain ⟨v,f7,lK,_⟩:=cv.cell x c (C.sub _ _ q);exact cu lK
 have jL : ∀ x c,(cellsFrom (s3.heap.objs.size+1) scope.names cl).lookup x=some c->(cl.lookup x=some c/\x∉ot scope)\/(x∈ot scope/\(x,c)∈cellsFrom (s3.heap.objs.size+1) scope.names []):=λ x c q=>by
  rw [mU,u6] at q;cases e:(cellsFrom (s3.heap.objs.size+1) scope.names []).lookup x with
  | some cq =>
   rw [e] at q;cases q;have m:=mem_of_lookup e;exact .inr #[rk.mpr (u9 m),m]
  | none =>
   rw [e] at q;have aY:cl.lookup x=some c:=q;refine .inl #[aY,λ z=>?_];rw [C.By x z] at aY;cases aY
 have zx : ∀ x c,cl.lookup x=some c->(cellsFrom (s3.heap.objs.size+1) scope.names cl).lookup x=some c:=λ x c q=>by
  rw [mU,u6];cases e:(cellsFrom (s3.heap.objs.size+1) scope.names []).lookup x with
  | none=>exact q
  | some cq =>
   have:=C.By x (rk.mpr (u9 (mem_of_lookup e)));rw [q] at this;cases this
 have k4 : ∀ x c,(x,c)∈cellsFrom (s3.heap.objs.size+1) scope.names []->a4.IsCell c none/\s3.heap.objs.size+1<=c:=λ x c m=>e8.empty x c m
 have qo : ∀ b∈a_,b<s3.heap.objs.size:=λ b ae=>by
  obtain ⟨o,fz,_⟩:=T.obj 0 _ qH b ae;exact cu (zp b o fz)
 have fst : ∀ b∈a_,b∉fO X.stack:=λ b ae z=>by
  rcases c1.mp (cv.q_ b z) with q | q
  ·exact (f2 b ae).2.1 q
  ·exact (f2 b ae).2.2.1 q
 have G_:(gW X scope cl N a_ pins s3 aW λ _ _=>False).Ok:=by
  refine #[I.ok.mod,C.kind,I.ok.glob,I.ok.blt,b9 _,λ x y c bb cg=>?_,λ x z=>?_,λ x c z q=>?_,#[I.ok.hd.1,λ hw=>cv.Gi hw λ b ae=>(f2 b ae).2.2.2.1],I.ok.frames,.inl rfl,λ b ae=>#[d3 (qo b ae),λ x c q=>?_],
   cv.bs,fl I.ok.jh cv.nY,λ b o q ae=>?_,fst,cv.stack,cv.uV]
  ·rcases jL x c bb with ⟨a1,_⟩ | ⟨_,a1⟩
   ·rcases jL y c cg with ⟨a2,_⟩ | ⟨_,a2⟩
    ·exact I.ok.inj x y c (C.sub _ _ a1) (C.sub _ _ a2)
    ·exact absurd (yc x c a1) (Nat.not_lt.mpr (fl (lg _) (k4 y c a2).2))
   ·rcases jL y c cg with ⟨a2,_⟩ | ⟨_,a2⟩
    ·exact absurd (yc y c a2) (Nat.not_lt.mpr (fl (lg _) (k4 x c a1).2))
    ·exact name_of_addr e8.apart a1 a2
  ·rcases C.has x z with ⟨c,h'⟩ | h'
   ·exact #[c,zx x c h']
   ·obtain ⟨c,m⟩:=Eg (n:=s3.heap.objs.size+1) (rk.mp h');obtain ⟨cq,c2⟩:=Ei (e3.mpr #[(x,c),m,rfl]);refine #[cq,?_];show (cellsFrom (s3.heap.objs.size+1) scope.names cl).lookup x=some cq;rw [mU,u6,c2];rfl
  ·rcases jL x c q with ⟨_,a1⟩ | ⟨_,a1⟩
   ·exact absurd (List.contains_iff_mem.mp z) a1
   ·exact fl (lg _) (k4 x c a1).2
  ·rcases jL x c q with ⟨a1,_⟩ | ⟨_,a1⟩
   ·exact (f2 b ae).2.2.2.2.1 x c (C.sub _ _ a1)
   ·exact jw (gQ (qo b ae) (fl (lg _) (k4 x c a1).2))
  rcases (f2 b ae).2.2.2.1 with z | z
  ·exact I.ok.oq b o q z
  ·exact absurd (gQ (cu q) (fl I.ok.jh z)) (iX _)
 have eM:Inv (gW X scope cl N a_ pins s3 aW λ _ _=>False) [] (pick js σ) aW { s3 with heap:=a4 }:=by
  refine #[G_,rfl,cv.bare,fY.kept kV,#[_,zd,λ i x v bb cg eQ=>?_],λ x c q=>?_,cv.a7.fresh (b9 _),λ x c q=>?_,λ p aw=>?_,cv.a7.kept kV,?_]
  ·obtain ⟨j,k1,k2⟩:=RL cg;obtain ⟨ho,x3,f9,m9⟩:=C.seen i j x bb k1;obtain ⟨m,aF,av⟩:=cv.loc;obtain ⟨u,fp,lk⟩:=av j x v ho k2 (.inr (.inl f9));refine #[u,fp,.inr #[m9,?_]];rcases lk with ⟨k,_⟩ | ⟨_,c,eg,f7,lK,tU⟩
   ·have f3:X.env.scope.names.lookup x=some .local:=k;rw [f9] at f3;cases f3
   ·obtain ⟨cq,yf⟩:=(C.has x m9).resolve_right x3;have:=C.sub _ _ yf;rw [eg] at this;cases this;exact #[c,zx x c yf,f7,kV _ _ lK,tU]
  ·rcases jL x c q with ⟨a1,_⟩ | ⟨_,a1⟩
   ·obtain ⟨v,f7,lK,tU⟩:=cv.cell x c (C.sub _ _ a1);exact #[v,f7,kV _ _ lK,tU]
   ·exact #[none,(k4 x c a1).1]
  ·rcases jL x c q with ⟨a1,_⟩ | ⟨_,a1⟩
   ·exact cv.ia x c (C.sub _ _ a1)
   ·exact cv.a7.fresh (fl (lg _) (k4 x c a1).2)
  ·have pe:p∈X.j7++pins:=by simpa using aw
   obtain ⟨bb,cg,eQ,lC,tE⟩:=cv.pin p pe;refine #[kV _ _ bb,cg,d3 (cu bb),λ z=>?_,tE];rcases c1.mp (cv.q_ _ z) with q | q
   ·exact eQ q
   ·exact lC q
  ·show (pick js σ).length=N.length;unfold pick;rw [bY,C.len]
 have stat : ∀ {H':az},(∀ b∈a_,H' b=none) -> ∀ b∈a_,om (gW X scope cl N a_ pins s3 aW λ _ _=>False) [] H' b:=λ aF b ae =>
  #[aF b ae,d3 (qo b ae),fst b ae,.inl ae,λ x c q=>by
   rcases jL x c q with ⟨a1,_⟩ | ⟨_,a1⟩
   ·exact (f2 b ae).2.2.2.2.1 x c (C.sub _ _ a1)
   ·exact jw (gQ (qo b ae) (fl (lg _) (k4 x c a1).2)),λ p aw=>(f2 b ae).2.2.2.2.2 p (by simpa using aw)]
 have zm:hk 0 a4:=T.keep 0 _ _ qH λ b ae o q=>kV b o (zp b o q)
 have bu : ∀ e s',(gW X scope cl N a_ pins s3 aW λ _ _=>False).c3 e s'->False:=λ _ _ z=>z
 have loop:codeAny (model X.prog X.w) X.A (.compLoop (.ListComp elt [#[bk,iter,cs,0]] scope ej) 0 (.ref it) (.ref s2.heap.objs.size) (compEnvC scope (cellsFrom (s3.heap.objs.size+1) scope.names cl) s3.heap.objs.size X.env))
   (compPost (model X.prog X.w) X.A X.c3 (some (assign (.Name x0 pos') X.env)) (λ _ s'=>lu X pins Ew .next s') (.ref s2.heap.objs.size) s3.heap.objs.size) { s3 with heap:=a4 }:=by
  refine QY (λ n s' => ∃ i σ' H' ys,Inv (gW X scope cl N a_ pins s3 aW λ _ _=>False) [] σ' H' s'/\hk i s'.heap/\(∀ b∈a_,H' b=none)/\W i n σ' H' ys) ?_ m0 #[0,_,aW,[],eM,zm,λ b ae=>?_,gH]
  ·rintro n s5 ⟨i,σ5,bW,ys,l4,qI,tN,Fj⟩;obtain ⟨W6,way⟩:=turn i n σ5 bW ys Fj;rcases way with ⟨stop,rS⟩ | ⟨go,a6,xy,dx,step⟩
   ·refine lP bu (bq (T.done (gW X scope cl N a_ pins s3 aW λ _ _=>False) rfl rfl rfl rfl ak i [] s5 σ5 bW _ l4 (stat tN) qI stop) ?_);rintro r b_ ⟨aq,gm⟩;subst aq;obtain ⟨m,aF,_⟩:=gm.loc;have Vb:om X pins bW s3.heap.objs.size:=cv.qP (b9 _) gm.free;have jD:Inv X pins σ bW b_:=?_
    ·refine wpAny_assign_Name (SN (v:=.ref s2.heap.objs.size) jD ym yF yU rfl (λ dp xv XG=>?_) yz);obtain ⟨U2,Za,fA⟩:=XG;obtain ⟨f0,f1,akX,di,f4,fi⟩:=Vb;have tC:s3.heap.objs.size≠U2:=by
      rcases fA with z | z
      ·rw [z];exact f1
      ·exact (f4 _ _ z).symm
     refine #[m,aF.sameBut Za tC,λ h' d4=>#[_,bW,?_,rS]];exact xv.turned (t':=dp.toks) (λ b o ae e=>(d4.2 b ae).trans e) f0 f1 di f4 fi
    have low : ∀ b o,s3.heap.get? b=some o->b≠s3.heap.objs.size:=λ b o q=>d3 (cu q)
    have same : ∀ b,b≠s3.heap.objs.size->b_.heap.get? b=b_.heap.get? b:=λ b ae=>rfl
    have B:=gm.base;refine cv.CN (s':=b_) (H':=bW) (ch:=a_) gm.os #[λ b o q mb ah ai=>?_,λ b o q mb ah ai=>?_,B.free,λ b o q ai=>?_,B.lS,B.k7,B.lR] (λ a o q=>?_) gm.bare (λ b ae=>#[(f2 b ae).2.2.2.1,(f2 b ae).2.1,(f2 b ae).2.2.2.2.1,(f2 b ae).2.2.2.2.2])
    ·exact (same b (low b o q)).trans (B.keep b o q mb ah ai)
    ·obtain ⟨cR,z⟩:=B.slot b o q mb ah ai;exact #[cR,(same b (low b o q)).trans z]
    ·obtain ⟨ey,z⟩:=B.there b o q ai;exact #[ey,(same b (low b o q)).trans z]
    ·have tC : ∀ c u,bW c=some u->c≠s3.heap.objs.size:=λ c u z y=>by
      have:=gm.free;rw [y] at z;rw [show bW s3.heap.objs.size=none from this] at z;cases z
     refine (gm.a7 a o q).jq (λ c u nf z=>(same c ?_).trans z) (λ _ z=>z) λ _ _ z=>z
     rcases nf with eh | eh
     ·rw [eh];exact tC a o q
     ·exact tC c _ eh
   ·refine lP bu (bq (T.item (gW X scope cl N a_ pins s3 aW λ _ _=>False) rfl rfl rfl rfl ak i [] s5 σ5 bW _ l4 (stat tN) qI go) ?_);rintro r b_ ⟨u,aq,dM⟩;subst aq;refine lP bu (bq dM ?_);rintro _ cL ⟨x,dv,jD,rT,Fp,ub,FT⟩;have Fu:=jD.pinned (stat FT) (T.obj _ _ ub);refine lP bu (bq (aS a_ pins s3 aW _ cL σ5 dv x u _ Fu rT (step x dv Fp)) ?_);rintro _ dp ⟨σ8,fg,xv,EZ⟩;refine lP bu (bq (aU a_ pins s3 aW _ dp σ8 fg _ xv EZ) ?_);rintro k ee ⟨hB,xw,qd⟩;have fin : ∀ {s':Shared} {σ':St} {H':az} {oi:bl},Inv (gW X scope cl N a_ pins s3 aW λ _ _=>False) ([]++wJ a_ cL.heap) σ' H' s'->xy σ' H' oi ->
      ∃ cP,cP<n /\ ∃ i σ' H' ys,Inv (gW X scope cl N a_ pins s3 aW λ _ _=>False) [] σ' H' s'/\hk i s'.heap/\(∀ b∈a_,H' b=none)/\W i cP σ' H' ys:=λ {s' σ' H' oi} tl rN=>by
     obtain ⟨cP,hm,wv⟩:=dx σ' H' oi rN;refine #[cP,hm,i+1,σ',H',oi,tl.Ap,T.keep _ _ _ ub λ b ae o q=>(tl.pin (b,o) (jx _ (jx _ (xc ae q)))).1,λ b ae=>?_,wv];obtain ⟨o,q,_⟩:=T.obj _ _ ub b ae;exact (tl.pin (b,o) (jx _ (jx _ (xc ae q)))).2.1
    cases k with
    | false =>
     rw [if_neg g9] at qd ⊢;exact fin xw qd.2
    | true =>
     rw [if_pos rfl] at qd ⊢;refine lP bu (bq (he a_ pins s3 aW _ ee σ8 hB _ xw qd) ?_);rintro y h5 ⟨mh,l3,EB,E4,F6,E0⟩;refine lP bu (bq (D4 _ h5 σ8 l3 (.ref s2.heap.objs.size) [mh] _ [y] (λ _ mW=>xy σ8 mW (ys++[mh])) EB rfl (.cons E4 .nil) #[_,ys,mh,rfl,rfl,F6,a6,E0]) ?_);rintro _ sB ⟨_,mW,EC,_,E1⟩;exact fin EC E1
  ·rw [<-m3,bj]
   ·exact (f2 b ae).1
   ·obtain ⟨o,fz,_⟩:=T.obj 0 _ qH b ae;exact d3 (cu fz)
 have goal:codeAny (model X.prog X.w) X.A (.compStart (.ListComp elt [#[bk,iter,cs,0]] scope ej) 0 (.ref it) (.ref s2.heap.objs.size) (compEnvC scope (cellsFrom (s3.heap.objs.size+1) scope.names cl) s3.heap.objs.size X.env))
   (compPost (model X.prog X.w) X.A X.c3 (some (assign (.Name x0 pos') X.env)) (λ _ s'=>lu X pins Ew .next s') (.ref s2.heap.objs.size) s3.heap.objs.size) { s3 with heap:=a4 } :=
  codeAny_compStart_list loop (T.self _ 0 _ _ _ zm loop)
 subst el;exact goal
theorem ac7 {X:aP} {bk:Expr} {ej pos:Pos} {N:bT} {c7:TT} {bp:TE} {ed:Nat}
  (ym:X.N.Nodup) (yF:X.N[ed]?=some x0) (yU:Loc X.env.scope x0)
  (C:sG X scope cl N js) (ak:X.warm=true) (ax:lq X bk iter gr)
  (aS : ∀ a_ pins s H,nQ (mL X scope cl N a_ pins s H λ _ _=>False) bk g)
  (aU : ∀ a_ pins s H,tJ (mL X scope cl N a_ pins s H λ _ _=>False) cs c7)
  (he : ∀ a_ pins s H,cn (mL X scope cl N a_ pins s H λ _ _=>False) elt bp)
  (yS:swapsWith (.ListComp elt [#[bk,iter,cs,0]] scope ej) (some (.Name x0 pos')) pos.line X.env=pure true)
  (aB : ∀ x,foldedSetIterable iter X.env x=pure x:=by intro _;rfl) (yz:X.fn x0=true\/X.env.scope.names.lookup x0=some .local:=by first | exact .inl rfl | exact .inr rfl | assumption):kz X (.Assign [.Name x0 pos'] (.ListComp elt [#[bk,iter,cs,0]] scope ej) pos) (lQ (wB js gr g c7 bp) (gx ed)) :=
 aeZ ym yF yU C.c ak ax (λ a_ pins s H=>by rw [wY C.sL];exact aS a_ pins s H) (λ a_ pins s H=>by rw [wY C.sL];exact aU a_ pins s H) (λ a_ pins s H=>by rw [wY C.sL];exact he a_ pins s H) yS aB yz
theorem adn {X:aP} {bk:Expr} {ej pos:Pos} {N:bT} {c7:TT} {bp:TE} {i:Nat}
  (ym:X.N.Nodup) (yF:X.N[i]?=some x0) (yU:Loc X.env.scope x0)
  (C:sG X scope cl N js) (ak:X.warm=true) (ax:lr X bk iter gr)
  (aS : ∀ a_ pins s H,mY (mL X scope cl N a_ pins s H λ _ _=>False) bk g)
  (aU : ∀ a_ pins s H,Bm (mL X scope cl N a_ pins s H λ _ _=>False) cs c7)
  (he : ∀ a_ pins s H,bO (mL X scope cl N a_ pins s H λ _ _=>False) elt bp)
  (yS:swapsWith (.ListComp elt [#[bk,iter,cs,0]] scope ej) (some (.Name x0 pos')) pos.line X.env=pure true:=by rfl)
  (aB : ∀ x,foldedSetIterable iter X.env x=pure x:=by intro _;rfl) (yz:X.fn x0=true\/X.env.scope.names.lookup x0=some .local:=by first | exact .inl rfl | exact .inr rfl | assumption):h3 X (.Assign [.Name x0 pos'] (.ListComp elt [#[bk,iter,cs,0]] scope ej) pos) (lQ (wB js gr g c7 bp) (gx i)) :=
 #[ac7 ym yF yU C ak ax.o (λ a b c d=>(aS a b c d).o) (λ a b c d=>(aU a b c d).o) (λ a b c d=>(he a b c d).o) yS aB yz]
end bM
namespace xD
open PySem PyProof.Rows m1
noncomputable abbrev hs (h:Heap) (T:Addr) (a b c:Value):Prop:=h.get? T=some { cls:=.type "tuple", data:=.seq [a,b,c].toArray }
theorem ft {k m:Nat} (h:k≠m):n+k≠n+m:=by omega
theorem p_ {k:Nat} (h:0<k):n≠n+k:=by omega
theorem vr {k:Nat} (h:0<k):n+k≠n:=by omega
theorem d1 {t k:Nat} (h:t<n):t≠n+k:=by omega
section
variable {w:World} {E:b2}
theorem HS {T:Addr} {a b c x:Value} {k:Nat} {Q:Unit->Shared->Prop} (b0:hs s.heap T a b c)
  (h : ∀ h',h'.get? T=some { cls:=.type "tuple", data:=.seq (([a,b,c].toArray:cZ).setIfInBounds k x) }->Heap.SameBut T s.heap h'->Q () { s with heap:=h' }) :
  wpAny (model prog w) A (updateSeq T (·.setIfInBounds k x)) Q E s:=by
 refine Dv b0 rfl (h _ ?_ (z0 ..));rw [oz _ b0 rfl];simp [Obj.mapSeq]
theorem Jz {n:Addr} {k:Nat} {xs ys:cZ} {x y v a b c:Value} {Q:b2} (i7:t1<n) (bM:bw<n) (l5:t3<n)
  (eX:IsZip s.heap (n+5) (n+3) (n+4) .none) (kK:hs s.heap (n+3) (.ref n) (.ref (n+1)) (.ref (n+2))) (n3:hs s.heap (n+4) a b c)
  (gp:s.heap.IsTupleIter n t1 k) (hQ:s.heap.IsTupleIter (n+1) bw k) (vp:s.heap.IsTupleIter (n+2) t3 k) (ew:s.heap.IsTuple t1 xs) (hR:s.heap.IsTuple bw ys) (m5:s.heap.IsTuple t3 zs) (ex:xs[k]?=some x) (eO:ys[k]?=some y) (tv:zs[k]?=some v)
  (q : ∀ g,IsZip g (n+5) (n+3) (n+4) (rawInt s.heap.objs.size)->hs g (n+4) x y v->g.IsTupleIter n t1 (k+1)->g.IsTupleIter (n+1) bw (k+1)->g.IsTupleIter (n+2) t3 (k+1)->hs g s.heap.objs.size x y v ->
   (∀ c o,c≠n+5->c≠n+4->c≠n->c≠n+1->c≠n+2->s.heap.get? c=some o->g.get? c=some o)->Q (.ref s.heap.objs.size) { s with heap:=g }) :
  wpAny (model prog w) A (Builtin.«zip.__next__» ⟨[.ref (n+5)],[]⟩) (λ fin s' => ∃ v,fin=.done (.ret v)/\Q v s') E s:=by
 show wpAny _ _ (field (.ref (n+5)) 2>>=_) _ _ _;refine aC (fc eX rfl (x:=.bool false) rfl ?_);show wpAny _ _ (field (.ref (n+5)) 3>>=_) _ _ _;refine aC (fc eX rfl (x:=.ref (n+3)) rfl (aC (iY kK rfl ?_)));show wpAny _ _ (Builtin.SmallTypes.ownedTupleIsFree (.ref (n+5))>>=_) _ _ _;refine aC ?_;unfold Builtin.SmallTypes.ownedTupleIsFree;refine aC (fc eX rfl (x:=.none) rfl (bH ?_));simp only [nI];refine aC (sA (aC (fc eX rfl (x:=.ref (n+4)) rfl (aC (oG eX .zs λ g1 kk s1=>?_)))));replace kk:IsZip g1 (n+5) (n+3) (n+4) .ellipsis:=kk;refine aC ?_;simp only [List.zipIdx_cons,List.zipIdx_nil,List.forIn_cons,List.forIn_nil];refine aC (aC (rf ?_));show wpAny _ _ (Builtin.SmallTypes.nextOf (.ref n)>>=_) _ _ _;refine aC (pull (gp.extBut s1.extBut (p_ .aA)) (ew.extBut s1.extBut (d1 i7)) ex λ g2 BV s2=>bH ?_);have qL:hs g2 (n+4) a b c:=s2.extBut _ _ (vr .aA) (s1.extBut _ _ (ft .aA) n3);refine aC (iY qL rfl (aC (HS qL λ g3 sf s3=>?_)));replace sf:hs g3 (n+4) x b c:=sf;refine aC (pR (bH (aC (aC (rf ?_)))));show wpAny _ _ (Builtin.SmallTypes.nextOf (.ref (n+1))>>=_) _ _ _;have yV:=((hQ.extBut s1.extBut (ft .aA)).extBut s2.extBut (vr .aA)).extBut s3.extBut (ft .aA);have y1:=((hR.extBut s1.extBut (d1 bM)).extBut s2.extBut (d3 bM)).extBut s3.extBut (d1 bM);refine aC (pull yV y1 eO λ kD HF s4=>bH ?_);have zu:hs kD (n+4) x b c:=s4.extBut _ _ (ft .aA) sf;refine aC (iY zu rfl (aC (HS zu λ hh sg s5=>?_)));replace sg:hs hh (n+4) x y c:=sg;refine aC (pR (bH (aC (aC (rf ?_)))));show wpAny _ _ (Builtin.SmallTypes.nextOf (.ref (n+2))>>=_) _ _ _;have X2:=((((vp.extBut s1.extBut (ft .aA)).extBut s2.extBut (vr .aA)).extBut s3.extBut (ft .aA)).extBut s4.extBut (ft .aA)).extBut s5.extBut (ft .aA);have Yv:=((((m5.extBut s1.extBut (d1 l5)).extBut s2.extBut (d3 l5)).extBut s3.extBut (d1 l5)).extBut s4.extBut (d1 l5)).extBut s5.extBut (d1 l5);refine aC (pull X2 Yv tv λ p8 Z4 b_=>bH ?_);have OK:hs p8 (n+4) x y c:=b_.extBut _ _ (ft .aA) sg;refine aC (iY OK rfl (aC (HS OK λ g0 Cm cL=>?_)));replace Cm:hs g0 (n+4) x y v:=Cm;refine aC (pR (bH (bH (aC (iY Cm rfl (aC (wpAny_newTuple ?_)))))));have nY:g0.objs.size=s.heap.objs.size:=by rw [cL.1,b_.1,s5.1,s4.1,s3.1,s2.1,s1.1]
 have wc:IsZip g0 (n+5) (n+3) (n+4) .ellipsis:=cL.extBut _ _ (ft .aA) (b_.extBut _ _ (ft .aA) (s5.extBut _ _ (ft .aA) (s4.extBut _ _ (ft .aA) (s3.extBut _ _ (ft .aA) (s2.extBut _ _ (vr .aA) kk)))));have Zm : ∀ c o,c≠n+5->c≠n+4->c≠n->c≠n+1->c≠n+2->s.heap.get? c=some o->g0.get? c=some o:=λ c o rH l9 bX aM aO aY =>
  cL.extBut _ _ l9 (b_.extBut _ _ aO (s5.extBut _ _ l9 (s4.extBut _ _ aM (s3.extBut _ _ l9 (s2.extBut _ _ bX (s1.extBut _ _ rH aY))))))
 have Yh:g0.IsTupleIter n t1 (k+1):=((((BV.extBut s3.extBut (p_ .aA)).extBut s4.extBut (p_ .aA)).extBut s5.extBut (p_ .aA)).extBut b_.extBut (p_ .aA)).extBut cL.extBut (p_ .aA);have Yl:g0.IsTupleIter (n+1) bw (k+1):=((HF.extBut s5.extBut (ft .aA)).extBut b_.extBut (ft .aA)).extBut cL.extBut (ft .aA);have Ym:g0.IsTupleIter (n+2) t3 (k+1):=Z4.extBut cL.extBut (ft .aA);have qM:n+5<g0.objs.size:=cu wc;show wpAny _ _ (Builtin.SmallTypes.ownedTupleHandOut (.ref (n+5)) (.ref g0.objs.size)>>=_) _ _ _;refine aC ?_;unfold Builtin.SmallTypes.ownedTupleHandOut;have wd:IsZip (g0.push { cls:=.type "tuple", data:=.seq [x,y,v].toArray }) (n+5) (n+3) (n+4) .ellipsis:=bK _ wc;refine aC (oG wd .zs λ Vd Ho ee=>?_);replace Ho:IsZip Vd (n+5) (n+3) (n+4) (rawInt g0.objs.size):=Ho;refine oG Ho .zs λ A6 Cn h5=>?_
 replace Cn:IsZip A6 (n+5) (n+3) (n+4) (rawInt g0.objs.size):=Cn;have zq : ∀ c o,c≠n+5->g0.get? c=some o->A6.get? c=some o:=λ c o cC aY=>h5.extBut _ _ cC (ee.extBut _ _ cC (bK _ aY))
 have Pj:hs A6 g0.objs.size x y v:=h5.extBut _ _ (jw qM) (ee.extBut _ _ (jw qM) (d6 _ rfl));rw [nY] at Cn Pj;refine bH #[_,rfl,?_];show Q (.ref g0.objs.size) _;rw [nY];refine q A6 Cn (zq _ _ (ft .aA) Cm) ?_ ?_ ?_ Pj λ c o rH l9 bX aM aO aY=>zq c o rH (Zm c o rH l9 bX aM aO aY)
 ·obtain ⟨o,e,r⟩:=Yh;exact #[o,zq _ _ (p_ .aA) e,r]
 ·obtain ⟨o,e,r⟩:=Yl;exact #[o,zq _ _ (ft .aA) e,r]
 ·obtain ⟨o,e,r⟩:=Ym;exact #[o,zq _ _ (ft .aA) e,r]
theorem JA {n:Addr} {k:Nat} {xs:cZ} {a b c:Value} {Q:Fin->Shared->Prop} (hd:gE.In A s.heap) (i7:t1<n)
  (eX:IsZip s.heap (n+5) (n+3) (n+4) .none) (kK:hs s.heap (n+3) (.ref n) (.ref (n+1)) (.ref (n+2)))
  (gp:s.heap.IsTupleIter n t1 k) (ew:s.heap.IsTuple t1 xs) (ex:xs[k]?=none)
  (q : ∀ g e,(∀ c o,c≠n+5->c≠n+4->c≠n->c≠n+1->c≠n+2->s.heap.get? c=some o->g.get? c=some o)->(∃ o,g.get? e=some o/\o.cls=.type "StopIteration")->E (.ref e) { s with heap:=g }) :
  wpAny (model prog w) A (Builtin.«zip.__next__» ⟨[.ref (n+5)],[]⟩) Q E s:=by
 show wpAny _ _ (field (.ref (n+5)) 2>>=_) _ _ _;refine aC (fc eX rfl (x:=.bool false) rfl ?_);show wpAny _ _ (field (.ref (n+5)) 3>>=_) _ _ _;refine aC (fc eX rfl (x:=.ref (n+3)) rfl (aC (iY kK rfl ?_)));show wpAny _ _ (Builtin.SmallTypes.ownedTupleIsFree (.ref (n+5))>>=_) _ _ _;refine aC ?_;unfold Builtin.SmallTypes.ownedTupleIsFree;refine aC (fc eX rfl (x:=.none) rfl (bH ?_));simp only [nI];refine aC (sA (aC (fc eX rfl (x:=.ref (n+4)) rfl (aC (oG eX .zs λ g1 kk s1=>?_)))));replace kk:IsZip g1 (n+5) (n+3) (n+4) .ellipsis:=kk;refine aC ?_;simp only [List.zipIdx_cons,List.zipIdx_nil,List.forIn_cons,List.forIn_nil];refine aC (aC (rf ?_));show wpAny _ _ (Builtin.SmallTypes.nextOf (.ref n)>>=_) _ _ _;have r5:gE.In A g1:=hd.but eX (λ vs e=>by injection e with e;subst e;exact λ z=>nomatch z) s1.extBut;refine aC (ae2 r5 (gp.extBut s1.extBut (p_ .aA)) (ew.extBut s1.extBut (d1 i7)) ex ?_);rintro g2 e s2 ⟨cb,kN,coe⟩;have zv:IsZip g2 (n+5) (n+3) (n+4) .ellipsis:=s2 _ _ (vr .aA) kk;have y7:e≠n+5:=λ y=>by
  subst y;rw [zv] at kN;cases kN;simp at coe
 exact oG zv .zs λ g3 _ s3=>q g3 e (λ c o cC _ g5 _ _ y=>s3.extBut _ _ cC (s2 _ _ g5 (s1.extBut _ _ cC y))) #[cb,s3.extBut _ _ y7 kN,coe]
theorem next_item {n:Addr} {k:Nat} {xs ys:cZ} {x y v a b c:Value} {Q:c0->Shared->Prop} (i7:t1<n) (bM:bw<n) (l5:t3<n)
  (eX:IsZip s.heap (n+5) (n+3) (n+4) .none) (kK:hs s.heap (n+3) (.ref n) (.ref (n+1)) (.ref (n+2))) (n3:hs s.heap (n+4) a b c)
  (gp:s.heap.IsTupleIter n t1 k) (hQ:s.heap.IsTupleIter (n+1) bw k) (vp:s.heap.IsTupleIter (n+2) t3 k) (ew:s.heap.IsTuple t1 xs) (hR:s.heap.IsTuple bw ys) (m5:s.heap.IsTuple t3 zs) (ex:xs[k]?=some x) (eO:ys[k]?=some y) (tv:zs[k]?=some v)
  (q : ∀ g,IsZip g (n+5) (n+3) (n+4) (rawInt s.heap.objs.size)->hs g (n+4) x y v->g.IsTupleIter n t1 (k+1)->g.IsTupleIter (n+1) bw (k+1)->g.IsTupleIter (n+2) t3 (k+1)->hs g s.heap.objs.size x y v ->
   (∀ c o,c≠n+5->c≠n+4->c≠n->c≠n+1->c≠n+2->s.heap.get? c=some o->g.get? c=some o)->Q (some (.ref s.heap.objs.size)) { s with heap:=g }):wpAny (model prog w) A (pyNext (.ref (n+5))) Q E s:=by
 have ty:s.TypeIs (.ref (n+5)) "zip" := #[_,eX,rfl]
 unfold pyNext;refine aC (pF (nA (name:=Str.ofString "__next__") ty sQ (lW sQ ty Dm ?_ (Dn _))));exact Jz i7 bM l5 eX kK n3 gp hQ vp ew hR m5 ex eO tv λ g e4 dK gG fo dX hC gN=>bH (q g e4 dK gG fo dX hC gN)
theorem JM {n:Addr} {k:Nat} {xs:cZ} {a b c:Value} {Q:c0->Shared->Prop} (hd:gE.In A s.heap) (i7:t1<n)
  (eX:IsZip s.heap (n+5) (n+3) (n+4) .none) (kK:hs s.heap (n+3) (.ref n) (.ref (n+1)) (.ref (n+2)))
  (gp:s.heap.IsTupleIter n t1 k) (ew:s.heap.IsTuple t1 xs) (ex:xs[k]?=none)
  (q : ∀ g,(∀ c o,c≠n+5->c≠n+4->c≠n->c≠n+1->c≠n+2->s.heap.get? c=some o->g.get? c=some o)->Q none { s with heap:=g }):wpAny (model prog w) A (pyNext (.ref (n+5))) Q E s:=by
 have ty:s.TypeIs (.ref (n+5)) "zip" := #[_,eX,rfl]
 unfold pyNext;refine aC (pF (nA (name:=Str.ofString "__next__") ty sQ (lW sQ ty Dm ?_ (Dn _))));refine JA (a:=a) (b:=b) (c:=c) hd i7 eX kK gp ew ex ?_;rintro g e up ⟨cb,kN,coe⟩
 exact aC (z1 (T := "StopIteration") (b:=true) #[cb,kN,coe] z2 (bH (q _ up)))
end
theorem ajC (a b c:Value):checkTypeCall "zip" ⟨[a,b,c],[]⟩=pure ():=by kernel_rfl
theorem ajc (a b c:Value):checkBuiltinCall "zip.__new__" ⟨[.type "zip", a,b,c],[]⟩=pure ():=by kernel_rfl
theorem aj0 (a b c d:Value):argsOk "object.__init__" ⟨[a,b,c,d],[]⟩:=by
 unfold argsOk;rw [signature?_of (id := "object.__init__") (n:=['_','_','t','i','n','i','_','_']) (o:=['t','c','e','j','b','o']) (by kernel_rfl) F.owner_object];kernel_rfl
noncomputable abbrev jQ (h:Heap) (t:Addr):Heap:=h.push { cls:=.type "tuple_iterator", data:=.fields [.ref t,.int 0 0].toArray }
noncomputable abbrev qA (h:Heap) (t1 bw t3:Addr):Heap:=jQ (jQ (jQ h t1) bw) t3
noncomputable abbrev qB (h:Heap) (t1 bw t3:Addr):Heap:=(qA h t1 bw t3).push { cls:=.type "tuple", data:=.seq [.ref h.objs.size,.ref (jQ h t1).objs.size,.ref (jQ (jQ h t1) bw).objs.size].toArray }
noncomputable abbrev oe (h:Heap) (t1 bw t3:Addr):Heap:=(qB h t1 bw t3).push { cls:=.type "tuple", data:=.seq [.none,.none,.none].toArray }
noncomputable abbrev t8 (h:Heap) (t1 bw t3:Addr):Heap:=(oe h t1 bw t3).push { cls:=.type "zip", data:=.fields [.none,.bool false,.bool false,.ref (qA h t1 bw t3).objs.size,.ref (qB h t1 bw t3).objs.size].toArray }
theorem JK (t1 bw t3:Addr) (xs ys zs:cZ):Meets (Builtin.«zip.__new__» ⟨[.type "zip", .ref t1,.ref bw,.ref t3],[]⟩) (λ _ R s=>s.heap.IsTuple t1 xs/\s.heap.IsTuple bw ys/\s.heap.IsTuple t3 zs/\R (.ok (.ret (.ref (oe s.heap t1 bw t3).objs.size))) { s with heap:=t8 s.heap t1 bw t3 }) :=
 .of_wp λ prog w A R s h=>by
  obtain ⟨cj,vn,dd,tt,vt⟩:=s;obtain ⟨a1,a2,m2,h⟩:=h;have sub:=sub_zip;have e4:Heap.IsTuple (Shared.heap ⟨cj,vn,dd,tt,vt⟩) t1 xs:=a1;have dK:Heap.IsTuple (Shared.heap ⟨jQ cj t1,vn,dd,tt,vt⟩) bw ys:=Dp a2 _;have gG:Heap.IsTuple (Shared.heap ⟨jQ (jQ cj t1) bw,vn,dd,tt,vt⟩) t3 zs:=Dp (Dp m2 _) _
  wp_walk using uy e4,uy dK,uy gG
  exact #[_,rfl,h]
section
variable {w:World} {E:b2}
theorem make {xs ys:cZ} {Q:b2} (a1:s.heap.IsTuple t1 xs) (a2:s.heap.IsTuple bw ys) (m2:s.heap.IsTuple t3 zs)
  (q : ∀ g,IsZip g (s.heap.objs.size+5) (s.heap.objs.size+3) (s.heap.objs.size+4) .none->hs g (s.heap.objs.size+3) (.ref s.heap.objs.size) (.ref (s.heap.objs.size+1)) (.ref (s.heap.objs.size+2))->hs g (s.heap.objs.size+4) .none .none .none ->
   g.IsTupleIter s.heap.objs.size t1 0->g.IsTupleIter (s.heap.objs.size+1) bw 0->g.IsTupleIter (s.heap.objs.size+2) t3 0->(∀ c o,s.heap.get? c=some o->g.get? c=some o)->Q (.ref (s.heap.objs.size+5)) { s with heap:=g }) :
  wpAny (model prog w) A (call (.type "zip") [.ref t1,.ref bw,.ref t3]) Q E s:=by
 refine callType_new F.called_zip .aA (ajC _ _ _) (ajc _ _ _) (λ obj=>aj0 obj _ _ _) F.entry_zip_new (JK t1 bw t3 xs ys zs) #[a1,a2,m2,?_];have cC:(jQ s.heap t1).objs.size=s.heap.objs.size+1:=ha ..;have dB:(jQ (jQ s.heap t1) bw).objs.size=s.heap.objs.size+2:=by rw [ha,cC]
 have g5:(qA s.heap t1 bw t3).objs.size=s.heap.objs.size+3:=by rw [ha,dB]
 have g6:(qB s.heap t1 bw t3).objs.size=s.heap.objs.size+4:=by rw [ha,g5]
 have hS:(oe s.heap t1 bw t3).objs.size=s.heap.objs.size+5:=by rw [ha,g6]
 have xU:(t8 s.heap t1 bw t3).get? (oe s.heap t1 bw t3).objs.size=some _:=d6 _ rfl;have nV:(t8 s.heap t1 bw t3).get? (qB s.heap t1 bw t3).objs.size=some _:=bK _ (d6 _ rfl);have o4:(t8 s.heap t1 bw t3).get? (qA s.heap t1 bw t3).objs.size=some _:=bK _ (bK _ (d6 _ rfl));have lB:(t8 s.heap t1 bw t3).get? (jQ (jQ s.heap t1) bw).objs.size=some _:=bK _ (bK _ (bK _ (d6 _ rfl)));have dm:(t8 s.heap t1 bw t3).get? (jQ s.heap t1).objs.size=some _:=bK _ (bK _ (bK _ (bK _ (d6 _ rfl))));have p1:(t8 s.heap t1 bw t3).get? s.heap.objs.size=some _:=bK _ (bK _ (bK _ (bK _ (bK _ (d6 _ rfl)))));show _/\_;rw [g5,g6,hS] at xU;rw [cC,dB,g5] at o4;rw [g6] at nV;rw [dB] at lB;rw [cC] at dm;rw [hS];exact #[#[_,xU,rfl],q _ xU o4 nV #[_,p1,rfl,rfl] #[_,dm,rfl,rfl] #[_,lB,rfl,rfl] λ c o y=>bK _ (bK _ (bK _ (bK _ (bK _ (bK _ y)))))]
end
end xD
namespace bM
open PySem PySem.Spec PyProof.Rows xD
noncomputable def x5 (K:cD) (a b c:Addr):h2 :=
 #[λ i H => ∃ xs ys zs x y v,a0 K H a xs/\a0 K H b ys/\a0 K H c zs/\xs[i]?=some x/\ys[i]?=some y/\zs[i]?=some v,
 λ i H w H' => ∃ p,H p=none/\w=.ref p /\ ∃ x y v,H'=upd H p (.tup [x,y,v]) /\ ∀ xs ys zs,a0 K H a xs->a0 K H b ys->a0 K H c zs->xs[i]?=some x/\ys[i]?=some y/\zs[i]?=some v,
 λ i H => ∃ xs,a0 K H a xs/\xs.length<=i]
theorem ag3 {w:World} {bk:Expr} (h8:oN bk=true) {n a b c:Addr} (i7:a<n) (bM:b<n) (l5:c<n) :
  Turn P w K EI bk (x5 K a b c) [n+5,n+4,n,n+1,n+2,n+3] (n+5) (λ i h=>IsZip h (n+5) (n+3) (n+4) .none/\hs h (n+3) (.ref n) (.ref (n+1)) (.ref (n+2))/\(∃ u v w,hs h (n+4) u v w)/\h.IsTupleIter n a i/\h.IsTupleIter (n+1) b i/\h.IsTupleIter (n+2) c i) where
 mem:=gS
 obj:=λ i h st cq ak=>by
  obtain ⟨ah,ai,⟨u,v,cV,aH⟩,⟨rO,a4,_,i_⟩,⟨Bb,b4,_,vh⟩,⟨EX,dM,_,EJ⟩⟩:=st;have qD : ∀ {o:Obj} {vs:cZ},o.data=.fields vs -> ∀ v,o.data≠.cell v:=λ e v q=>by rw [e] at q;cases q
  have y_ : ∀ {o:Obj} {vs:cZ} {n:Nat},o.data=.seq vs n -> ∀ v,o.data≠.cell v:=λ e v q=>by rw [e] at q;cases q
  simp only [c1,fR,fS] at ak;rcases ak with rfl | rfl | rfl | rfl | rfl | rfl
  ·exact #[_,ah,qD rfl]
  ·exact #[_,aH,y_ rfl]
  ·exact #[_,a4,qD i_]
  ·exact #[_,b4,qD vh]
  ·exact #[_,dM,qD EJ]
  ·exact #[_,ai,y_ rfl]
 keep:=λ i h h' st k=>by
  obtain ⟨ah,ai,⟨u,v,cV,aH⟩,⟨rO,a4,j8⟩,⟨Bb,b4,o5⟩,⟨EX,dM,vw⟩⟩:=st;exact #[k _ .zs _ ah,k _ .zs _ ai,#[u,v,cV,k _ .zs _ aH],#[rO,k _ .zs _ a4,j8],#[Bb,k _ .zs _ b4,o5],#[EX,k _ .zs _ dM,vw]]
 item:=by
  intro X dY hw eW mv ak i pins s σ H E I hf st aS;subst dY hw eW;obtain ⟨ah,ai,⟨u,v,cV,aH⟩,a4,b4,dM⟩:=st;obtain ⟨xs,ys,zs,x,y,z,dn,ez,tF,aj,aT,a6⟩:=aS;obtain ⟨its,cx,fM,_⟩:=I.tuple dn;obtain ⟨vZ,g7,nW,_⟩:=I.tuple ez;obtain ⟨GN,Od,pc,_⟩:=I.tuple tF;obtain ⟨m7,yg,zf⟩:=cx.get aj;obtain ⟨n1,FN,Hd⟩:=g7.get aT;obtain ⟨Ff,Wg,Y6⟩:=Od.get a6;refine xD.next_item i7 bM l5 ah ai aH a4 b4 dM (show s.heap.IsTuple a its.toArray from fM) (show s.heap.IsTuple b vZ.toArray from nW) (show s.heap.IsTuple c GN.toArray from pc) (x:=m7) (y:=n1) (v:=Ff) (by simpa using yg) (by simpa using FN) (by simpa using Wg) λ g e4 dK gG fo dX hC gN=>?_
  refine #[_,rfl,?_];have qM:n+5<s.heap.objs.size:=cu ah;cases bk with
  | Tuple ar dF pp =>
   refine wpAny_letOwnedTupleGo_zip e4 λ g' gn d4=>?_
   have new:hs g' s.heap.objs.size m7 n1 Ff:=d4.extBut _ _ (jw qM) hC;have aK:Inv X pins σ (upd H s.heap.objs.size (.tup [x,y,z])) { s with heap:=g' }:=by
    refine I.J0 (t':=s.toks) (L:=[n+5,n+4,n,n+1,n+2,n+3]) (λ c o e9 e=>?_) hf (b9 _) #[by show 3<=sizeLine;decide,[m7,n1,Ff],.cons zf (.cons Hd (.cons Y6 .nil)),#[_,new,rfl,#[0,rfl],rfl]];simp only [c1,fR,fS,not_or] at e9;exact d4.extBut c o e9.1 (gN c o e9.1 e9.2.1 e9.2.2.1 e9.2.2.2.1 e9.2.2.2.2.1 e)
   have F1:hs g' (n+3) (.ref n) (.ref (n+1)) (.ref (n+2)):=d4.extBut _ _ (ft .aA) (gN _ _ (ft .aA) (ft .aA) (vr .aA) (ft .aA) (ft .aA) ai);refine #[.ref s.heap.objs.size,_,aK,rfl,#[_,I.fresh,rfl,x,y,z,rfl,λ OJ oi aly bb cg eQ=>#[by rw [I.Av bb dn];exact aj,by rw [I.Av cg ez];exact aT,by rw [I.Av eQ tF];exact a6]],#[gn,F1,#[_,_,_,d4.extBut _ _ (ft .aA) dK],gG.extBut d4.extBut (p_ .aA),fo.extBut d4.extBut (ft .aA),dX.extBut d4.extBut (ft .aA)],λ c eH=>?_];obtain ⟨o,fz,_⟩ : ∃ o,s.heap.get? c=some o/\True:=by
    simp only [c1,fR,fS] at eH;rcases eH with rfl | rfl | rfl | rfl | rfl | rfl
    ·exact #[_,ah,trivial]
    ·exact #[_,aH,trivial]
    ·obtain ⟨rO,kD,_⟩:=a4;exact #[_,kD,trivial]
    ·obtain ⟨Bb,hh,_⟩:=b4;exact #[_,hh,trivial]
    ·obtain ⟨EX,p8,_⟩:=dM;exact #[_,p8,trivial]
    ·exact #[_,ai,trivial]
   rw [bj (d3 (cu fz))];exact (hf c eH).1
  | _=>exact absurd (show false=true from h8) g9
 done:=by
  intro X dY hw eW mv ak i pins s σ H E I hf st aS;subst dY hw eW;obtain ⟨ah,ai,⟨u,v,cV,aH⟩,a4,b4,dM⟩:=st;obtain ⟨xs,dn,av⟩:=aS;obtain ⟨its,cx,fM,_⟩:=I.tuple dn;have aM:=cx.length;refine xD.JM (a:=.none) (b:=.none) (c:=.none) (I.kP ak) i7 ah ai a4 (show s.heap.IsTuple a its.toArray from fM) (by simp;omega) λ g up=>#[rfl,?_]
  refine I.I9 (t':=s.toks) (L:=[n+5,n+4,n,n+1,n+2,n+3]) (λ c o e9 e=>?_) hf;simp only [c1,fR,fS,not_or] at e9;exact up c o e9.1 e9.2.1 e9.2.2.1 e9.2.2.2.1 e9.2.2.2.2.1 e
 self:=λ _ _ _ _ _ st h=>Dq st.1 h
section
variable {X:aP} {bk:Expr}
theorem vals3 {x z:V} (h:Vals [x,y,z] us) : ∃ u v w,us=[u,v,w]/\RelV x u/\RelV y v/\RelV z w:=by
 cases h with
 | cons ah h =>
  cases h with
  | cons ai h =>
   cases h with
   | cons aH h =>
    cases h;exact #[_,_,_,rfl,ah,ai,aH]
noncomputable def aaO (K:cD) (a3:dc):TI:=λ σ H R=>a3 σ H λ vs H1 => ∃ a b c,vs=[.ref a,.ref b,.ref c]/\(∃ xs,a0 K H1 a xs)/\(∃ ys,a0 K H1 b ys)/\(∃ zs,a0 K H1 c zs)/\R (x5 K a b c) H1
theorem adj {el:Expr} {a3:dc} {p pos:Pos} (h8:oN bk=true) (aS:dW X "zip") (hm:X.mg "zip" = none) (ay:fL X [aM,aO,el] a3) (aB:starEach [aM,aO,el] X.env=[(false,eval aM X.env),(false,eval aO X.env),(false,eval el X.env)]:=by rfl) (gd:starEach [aO,el] X.env=[(false,eval aO X.env),(false,eval el X.env)]:=by rfl)
  (ae:bootBuiltins "zip" = some (.type "zip"):=by decide +kernel):lr X bk (.Call (.Name "zip" p) [aM,aO,el] [] pos) (aaO X.K a3):=#[by
 intro pins s σ H R I h;refine Call_ (pJ I aS hm ae (uE (bq (ay.o pos pins s σ H _ I h) ?_) (by rw [aB,gd]) (by rw [gd];rfl)));rintro us s1 ⟨vs,H1,aK,bJ,bb⟩;obtain ⟨a,b,c,e,⟨xs,dn⟩,⟨ys,ez⟩,⟨zs,tF⟩,q⟩:=bb;subst e;obtain ⟨h6,j_,me,rfl,qe,xW,rc⟩:=vals3 bJ;cases qe;cases xW;cases rc;obtain ⟨its,cx,fM,_⟩:=aK.tuple dn;obtain ⟨vZ,g7,nW,_⟩:=aK.tuple ez;obtain ⟨GN,Od,pc,_⟩:=aK.tuple tF;have xQ:a<s1.heap.objs.size:=by obtain ⟨o,e,_⟩:=fM;exact cu e
 have xR:b<s1.heap.objs.size:=by obtain ⟨o,e,_⟩:=nW;exact cu e
 have lc:c<s1.heap.objs.size:=by obtain ⟨o,e,_⟩:=pc;exact cu e
 refine xD.make (show s1.heap.IsTuple a its.toArray from fM) (show s1.heap.IsTuple b vZ.toArray from nW) (show s1.heap.IsTuple c GN.toArray from pc) λ g ho f9 m9 Fq Fs VO up=>?_
 refine Dq ho ?_;have cm:Inv X pins σ H1 { s1 with heap:=g }:=aK.kept (t':=s1.toks) up;refine #[_,[s1.heap.objs.size+5,s1.heap.objs.size+4,s1.heap.objs.size,s1.heap.objs.size+1,s1.heap.objs.size+2,s1.heap.objs.size+3],_,_,H1,rfl,cm,ag3 h8 xQ xR lc,#[ho,f9,#[_,_,_,m9],Fq,Fs,VO],λ c ak=>?_,q];have big:s1.heap.objs.size<=c:=by
  simp only [c1,fR,fS] at ak;rcases ak with rfl | rfl | rfl | rfl | rfl | rfl
  ·exact pS _ _
  ·exact pS _ _
  ·exact b9 _
  ·exact pS _ _
  ·exact pS _ _
  ·exact pS _ _
 exact aK.qP big (aK.a7.fresh big)]
end
theorem ad_ {a b c:Addr} {zs:bl} {bz:de} {D:Ends} (lM:xs.length=ys.length) (ak_:xs.length=zs.length) (Pv:Nat->St->az->Prop) (h0:Pv 0 σ H) (av : ∀ i σ H,i<=xs.length->Pv i σ H->a0 K H a xs/\a0 K H b ys/\a0 K H c zs)
  (aB : ∀ i x y z p σ H,xs[i]?=some x->ys[i]?=some y->zs[i]?=some z->H p=none->Pv i σ H->g (.ref p) σ (upd H p (.tup [x,y,z])) λ σ2 au=>bz { D with bu:=Pv (i+1),cK:=Pv (i+1),aQ:=D.bu } σ2 au) (hd : ∀ σ H,Pv xs.length σ H->D.bu σ H) :
  ∃ W:Nat->Nat->St->az->Prop,(∃ m,W 0 m σ H) /\ ∀ i m σ H,W i m σ H ->
   ((x5 K a b c).stop i H/\D.bu σ H)\/((x5 K a b c).go i H /\ ∃ N:St->az->Prop,(∀ σ' H',N σ' H' -> ∃ cP,cP<m/\W (i+1) cP σ' H') /\ ∀ x H',(x5 K a b c).jl i H x H'->g x σ H' λ σ2 au=>bz { D with bu:=N,cK:=N,aQ:=D.bu } σ2 au):=by
 refine #[λ i m σ H=>m=xs.length - i/\i<=xs.length/\Pv i σ H,#[_,rfl,j0 _,h0],?_];rintro i m σ H ⟨rfl,ax,p⟩;obtain ⟨dn,ez,tF⟩:=av i σ H ax p;by_cases ea:i<xs.length
 ·have ai:i<ys.length:=by omega
  have aH:i<zs.length:=by omega
  refine .inr #[#[xs,ys,zs,xs[i],ys[i],zs[i],dn,ez,tF,by simp [ea],by simp [ai],by simp [aH]],Pv (i+1),λ σ' H' iJ=>#[xs.length - (i+1),.aD,rfl,ea,iJ],λ v H' mh=>?_];obtain ⟨q,aZ,rfl,x,y,z,rfl,lM⟩:=mh;obtain ⟨ex,eO,tv⟩:=lM xs ys zs dn ez tF;exact aB i x y z q σ H ex eO tv aZ p
 ·have e:i=xs.length:=by omega
  refine .inl #[#[xs,dn,.aD],hd σ H (e ▸ p)]
end bM
namespace OP
open PySem PyProof.Rows
section
variable {w:World} {R:Result->Shared->Prop} {I:Addr} {wr:List Addr} {P:Nat->Value->Prop} {St:Nat->Heap->Prop}
theorem more (W:Walks prog w A.in1 I a_ wr n P St) (dw:Nat->Nat->Bool) (zA:CmpOf prog w A.in1 .Lt P dw) (S:Addr) (n6:S∉a_) (kw:List (Str×Value)) :
  ∀ (k j:Nat) (s:Shared) (qh:Value) (c:Nat),n - (j+1)=k->j+1<=n->St (j+1) s.heap->P (argBest dw j) qh ->
  s.heap.get? S=some { cls:=.type "list", dict:=none,data:=.seq [qh,qh].toArray c,slots:=#[] } ->
  (∀ v h' bI,P (argBest dw (n - 1)) v->(∀ b o,b∉wr->b≠S->s.heap.get? b=some o->h'.get? b=some o)->R (.ok (.ret v)) { s with heap:=h',toks:=bI }) ->
  codeAny (model prog w) A (.builtin "min.loop" ⟨[.ref I,.none,.ref S],kw⟩) R s:=by
 have yr:S∉wr:=λ h=>n6 (W.sub _ h)
 have wx:(toString "min" ++ toString ".loop" : String) = "min.loop" := by decide
 intro k
 induction k with
 | zero =>
  intro j s qh c aG b5 c4 BC dT dj;have kP:j+1=n:=by omega
  refine sR Dw ?_;rw [wN rh _];show wpAny _ A.in1 (seqItems? (.ref S)>>=_) _ _ s;refine aC (iY dT rfl ?_);show wpAny _ A.in1 (tryCatch (pyNext (.ref I)) _>>=_) _ _ s;refine aC (Aj (W.done s _ _ (kP ▸ c4) λ h' bI lH=>?_));have r2:=lH S _ yr dT;show wpAny _ A.in1 (updateSeq S (λ _=>#[])>>=_) _ _ _;refine aC ?_;refine Dv r2 rfl (aC (pR (bH ?_)));refine dj qh _ bI (by rw [<-kP];exact BC) λ b o ke o_ e=>(ju _ _ (ek o_)).trans (lH b o ke e)
 | succ k cQ =>
  intro j s qh c aG b5 c4 BC dT dj;have ea:j+1<n:=by omega
  refine sR Dw ?_;rw [wN rh _];show wpAny _ A.in1 (seqItems? (.ref S)>>=_) _ _ s;refine aC (iY dT rfl ?_);show wpAny _ A.in1 (tryCatch (pyNext (.ref I)) _>>=_) _ _ s;refine aC (Aj (W.item (j+1) s _ _ ea c4 λ v h' bI dY Cz lH=>?_));have r2:=lH S _ yr dT;show wpAny _ A.in1 (tryCatch (holding [v,v] (richCompare .Lt v qh>>=_)) _>>=_) _ _ _;refine aC (Aj (hY (aC (zA (j+1) (argBest dw j) v qh _ _ _ dY BC ?_))));refine aC (hY (sD ?_));refine aC (pR (bH ?_));cases ae:dw (j+1) (argBest dw j) with
  | true =>
   simp only [nI];refine aC ?_;refine Dv r2 rfl (aC (pR ?_));rw [wx];refine bH #[wO rh _,cQ (j+1) _ v _ .aD ea (W.frame _ _ _ Cz λ b Gb o e=>?_) (by simp only [argBest,ae,nI];exact dY) (oz _ r2 rfl)
    λ jH yi zJ o9 zB=>?_]
   ·exact (ju _ _ (λ h:S=b=>n6 (by rw [h];exact Gb))).trans e
   ·exact dj jH yi zJ o9 λ b o ke o_ e=>zB b o ke o_ ((ju _ _ (ek o_)).trans (lH b o ke e))
  | false =>
   simp only [Bool.false_eq_true,if_false];refine aC (pR ?_);rw [wx];refine bH #[wO rh _,cQ (j+1) _ qh c .aD ea Cz (by simp only [argBest,ae,Bool.false_eq_true,if_false];exact BC) r2 λ jH yi zJ o9 zB=>?_];exact dj jH yi zJ o9 λ b o ke o_ e=>zB b o ke o_ (lH b o ke e)
theorem first (W:Walks prog w A.in1 I a_ wr n P St) (dw:Nat->Nat->Bool) (zA:CmpOf prog w A.in1 .Lt P dw) (S:Addr) (n6:S∉a_) (kw:List (Str×Value)) (aF:0<n) {c:Nat} (c4:St 0 s.heap)
  (dT:s.heap.get? S=some { cls:=.type "list", dict:=none,data:=.seq #[] c,slots:=#[] })
  (dj : ∀ v h' bI,P (argBest dw (n - 1)) v->(∀ b o,b∉wr->b≠S->s.heap.get? b=some o->h'.get? b=some o)->R (.ok (.ret v)) { s with heap:=h',toks:=bI }) :
  codeAny (model prog w) A (.builtin "min.loop" ⟨[.ref I,.none,.ref S],kw⟩) R s:=by
 have yr:S∉wr:=λ h=>n6 (W.sub _ h)
 have wx:(toString "min" ++ toString ".loop" : String) = "min.loop" := by decide
 refine sR Dw ?_;rw [wN rh _];show wpAny _ A.in1 (seqItems? (.ref S)>>=_) _ _ s;refine aC (iY dT rfl ?_);show wpAny _ A.in1 (tryCatch (pyNext (.ref I)) _>>=_) _ _ s;refine aC (Aj (W.item 0 s _ _ aF c4 λ v h' bI dY Cz lH=>?_));have r2:=lH S _ yr dT;show wpAny _ A.in1 (updateSeq S (λ _=>[v,v].toArray)>>=_) _ _ _;refine aC ?_;refine Dv r2 rfl ?_;rw [wx];refine bH #[wO rh _,more W dw zA S n6 kw _ 0 _ v _ rfl aF (W.frame _ _ _ Cz λ b Gb o e=>?_) dY (oz _ r2 rfl) λ jH yi zJ o9 zB=>?_]
 ·exact (ju _ _ (λ h:S=b=>n6 (by rw [h];exact Gb))).trans e
 ·exact dj jH yi zJ o9 λ b o ke o_ e=>zB b o ke o_ ((ju _ _ (ek o_)).trans (lH b o ke e))
theorem empty (W:Walks prog w A.in1 I a_ wr n P St) (S:Addr) (n6:S∉a_) (d:Value) (aF:n=0) {c:Nat} (c4:St 0 s.heap)
  (dT:s.heap.get? S=some { cls:=.type "list", dict:=none,data:=.seq #[] c,slots:=#[] })
  (dj : ∀ h' bI,(∀ b o,b∉wr->b≠S->s.heap.get? b=some o->h'.get? b=some o)->R (.ok (.ret d)) { s with heap:=h',toks:=bI }) :
  codeAny (model prog w) A (.builtin "min.loop" ⟨[.ref I,.none,.ref S],[("default", d)]⟩) R s:=by
 have yr:S∉wr:=λ h=>n6 (W.sub _ h)
 subst aF;refine sR Dw ?_;rw [wN rh _];show wpAny _ A.in1 (seqItems? (.ref S)>>=_) _ _ s;refine aC (iY dT rfl ?_);show wpAny _ A.in1 (tryCatch (pyNext (.ref I)) _>>=_) _ _ s;refine aC (Aj (W.done s _ _ c4 λ h' bI lH=>?_));refine aC (sA (bH ?_));exact dj h' bI λ b o ke o_ e=>lH b o ke e
end
section
variable {w:World} {E:b2}
theorem acr {id:String} {b:Builtin} {args:List Value} {Q:b2} (aG:builtinKind id=none) (aw:plainId id=true)
  (ae:entryFor table id=some b) (ay:argsOk id ⟨args,kw⟩)
  (ak:wpAny (model prog w) A.in1 (b ⟨args,kw⟩) (λ fin s'=>match fin with
   | .done f=>(match (Except.ok f:Result) with | .ok (.ret v)=>Q v s' | .ok _=>False | .error e=>E e s')
   | .again cq=>cq.quiet=true/\codeAny (model prog w) A cq (λ r s'=>match r with | .ok (.ret v)=>Q v s' | .ok _=>False | .error e=>E e s') s') E s) :
  wpAny (model prog w) A (call (.builtin id) args kw) Q E s:=by
 refine pG (Du aw ae ?_);simp only [checkBuiltinCall,aG];cases ZY:Manifest.signature? id with
 | none=>exact bH ak
 | some sig =>
  simp only [argsOk,ZY] at ay;have ai:Bind.checkArgs id sig ⟨args,kw⟩=pure ():=ay;exact wpAny_of_eq ai ak
theorem ahl (a d:Value):argsOk "min" ⟨[a],[("default", d)]⟩:=by unfold argsOk;kernel_rfl
theorem adZ (d:Value):Builtin.Builtins.bindParams "min" ["key", "default"] 0 ⟨[],[("default", d)]⟩=pure [none,some d]:=by kernel_rfl
theorem Si {x d:Value} {Q:b2}
  (h:wpAny (model prog w) A.in1 (pyIter x) (λ it s₂ => ∃ I a_ wr n P St dw,it=.ref I/\Walks prog w A.in1 I a_ wr n P St/\St 0 s₂.heap/\(∀ b∈a_,b<s₂.heap.objs.size)/\CmpOf prog w A.in1 .Lt P dw /\
   (0<n -> ∀ v h' bI,P (argBest dw (n - 1)) v->(∀ b o,b∉wr->s₂.heap.get? b=some o->h'.get? b=some o)->Q v { s₂ with heap:=h',toks:=bI }) /\
   (n=0 -> ∀ h' bI,(∀ b o,b∉wr->s₂.heap.get? b=some o->h'.get? b=some o)->Q d { s₂ with heap:=h',toks:=bI })) E s) :
  wpAny (model prog w) A (call (.builtin "min") [x] [("default", d)]) Q E s:=by
 have wx:(toString "min" ++ toString ".loop" : String) = "min.loop" := by decide
 refine acr F.kind_min F.plain_min F.entry_min (ahl _ _) ?_;show wpAny _ A.in1 (Builtin.Builtins.bindParams "min" ["key", "default"] 0 ⟨[],[("default", d)]⟩>>=_) _ _ s;refine aC (wpAny_of_eq (adZ d) ?_);refine aC (bH ?_);refine aC (hb h (λ it s₂ h₂=>?_) λ _ _ e=>e);obtain ⟨I,a_,wr,n,P,St,dw,rfl,W,c4,vS,zA,g4,Xb⟩:=h₂;refine aC (mG ?_);have n6:s₂.heap.objs.size∉a_:=λ hm=>iX _ (vS _ hm)
 rw [wx];by_cases aF:0<n
 ·refine bH #[wO rh _,first W dw zA s₂.heap.objs.size n6 _ aF (W.frame _ _ _ c4 λ b _ o e=>bK _ e) (d6 _ rfl) λ v h' bI dY aG=>?_];exact g4 aF v h' bI dY λ b o ke e=>aG b o ke (d3 (cu e)) (bK _ e)
 ·refine bH #[wO rh _,empty W s₂.heap.objs.size n6 d .aD (W.frame _ _ _ c4 λ b _ o e=>bK _ e) (d6 _ rfl) λ h' bI aG=>?_];exact Xb .aD h' bI λ b o ke e=>aG b o ke (d3 (cu e)) (bK _ e)
theorem min_list {xs:Array (Int×Tok)} {d:Value} {Q:b2} (cj:gE.In A s.heap) (av:s.heap.IsList l (intItems xs))
  (h:0<xs.size -> ∀ v h' bI,(intItems xs)[argBest (λ i j=>decide (numAt xs i<numAt xs j)) (xs.size - 1)]?=some v->(∀ b o,s.heap.get? b=some o->h'.get? b=some o)->Q v { s with heap:=h',toks:=bI })
  (h0:xs.size=0 -> ∀ h' bI,(∀ b o,s.heap.get? b=some o->h'.get? b=some o)->Q d { s with heap:=h',toks:=bI }) :
  wpAny (model prog w) A (call (.builtin "min") [.ref l] [("default", d)]) Q E s:=by
 rcases cj with cj | ⟨x,qb,vs,ah,ai,aH,a4⟩
 rotate_left
 ·have lt:=cu ai;refine Si (iter_intList av λ s₂ e st vS Gx=>?_);subst e;refine #[_,_,_,_,_,_,_,rfl,gE.ag7 (A:=A.in1) ah aH a4 _ l Gx (d3 lt) (intItems xs),#[st.1,st.2,bK _ ai],λ b ae=>?_,CmpOf.ints_lt (numAt xs) (λ _ _=>uA),λ aF v h' bI dY aG=>?_,λ aF h' bI aG=>?_]
  ·simp only [c1,fR,fS] at ae;rcases ae with ae | ae | ae
   ·exact vS b (by rw [ae];exact gS ..)
   ·exact vS b (by rw [ae];exact ht _ (gS ..))
   ·rw [ae];show x<(s.heap.push _).objs.size;rw [ha];exact uz lt
  ·exact h (by simpa [intItems] using aF) v h' bI (by simpa [intItems] using dY) (old_kept aG)
  ·exact h0 (by simpa [intItems] using aF) h' bI (old_kept aG)
 refine Si (iter_intList av λ s₂ e st vS Gx=>?_);subst e;refine #[_,_,_,_,_,_,_,rfl,Walks.list (A:=A.in1) cj _ l Gx (intItems xs),st,vS,CmpOf.ints_lt (numAt xs) (λ _ _=>uA),λ aF v h' bI dY aG=>?_,λ aF h' bI aG=>?_]
 ·exact h (by simpa [intItems] using aF) v h' bI (by simpa [intItems] using dY) (old_kept aG)
 ·exact h0 (by simpa [intItems] using aF) h' bI (old_kept aG)
end
end OP
namespace bM
open PySem PySem.Spec PyProof.Rows
section
variable {X:aP}
noncomputable def aa7 (K:cD) (a3:dc):TE:=λ σ H Q=>a3 σ H λ xs H1 => ∃ (p:Addr) (ns:aV),xs=[.ref p]/\a9 K H1 p (ns.map V.int)/\(ns=[]->Q .bh H1) /\ ∀ M,M∈ns->(∀ a,a∈ns->M<=a)->Q (.int M) H1
theorem Q7 {e:Expr} {a3:dc} {p pos Z6 aae:Pos} {j} (ak:X.warm=true) (aS:dW X "min") (hm:X.mg "min" = none) (ae:bootBuiltins "min" = some (.builtin "min")) (ay:fL X [e] a3) (ah:starEach [e] X.env=[(false,eval e X.env)]:=by rfl) :
  bO X (.Call (.Name "min" p) [e] [#[some "default", .Constant .none j aae,Z6]] pos) (aa7 X.K a3):=#[by
 intro pins s σ H Q I h;refine pH (pJ I aS hm ae ?_ .aA .aA);have aM:backTo pos (starEach [e] X.env)=(false,eval e X.env)::backTo pos (starEach [] X.env):=by rw [ah];rfl
 refine callWith_kw (e:=e) (rest:=[]) ?_ aM (by rw [ah];rfl) rfl rfl;refine bq (ay.o pos pins s σ H _ I h) ?_;rintro us s1 ⟨vs,H1,aK,bJ,bb⟩
 obtain ⟨l,ns,rfl,aZ,EY,cg⟩:=bb;obtain ⟨u,rfl,a5⟩:=vals1 bJ;cases a5;refine kws_cons (bq (Qn pins s1 σ H1 (λ x au=>x=.bh/\au=H1) aK #[rfl,rfl]) ?_);rintro v s2 ⟨x,au,cm,b8,ex,m3⟩;refine kws_nil ?_;subst ex;subst m3;cases b8;obtain ⟨its,bP,pl,a6⟩:=cm.list aZ;have av:=pl.isList;have ax:=intsAre_of bP;obtain ⟨xs,e⟩:=ax.allInts.items;have kf:ns=xs.toList.map (·.1):=by rw [<-ax.numsOf,<-nums_intItems,<-e]
 rw [e] at av;refine OP.min_list (d:=.none) (cm.kP ak) av (λ hsz v h' bI ba aG=>?_) (λ hsz h' bI aG=>?_)
 ·obtain ⟨t,rfl⟩:=uA ba;obtain ⟨ah,ai⟩:=argBest_lt (numAt xs) (xs.size - 1);refine #[.int _,_,cm.kept aG,#[_,rfl],cg _ ?_ λ a ay=>?_]
  ·rw [kf,numAt_eq];exact getD_mem (by rw [bY,jv];omega)
  ·rw [kf] at ay;obtain ⟨j,b5,rfl⟩:=mem_getD ay;rw [bY,jv] at b5;rw [<-numAt_eq];exact ai j .aD
 ·refine #[.bh,_,cm.kept aG,rfl,EY ?_];rw [kf];have:xs.toList=[]:=List.eq_nil_of_length_eq_zero (by rw [jv];exact hsz);rw [this];rfl]
end
end bM
namespace cJ
open PySem bM gu
noncomputable def CS (t:Int->Int->Bool) (f:Int->Int->Int) (xs ys:aV):aV:=((xs.zip ys).filter λ p=>t p.1 p.2).map λ p=>f p.1 p.2
theorem ahA {t:Int->Int->Bool} {f:Int->Int->Int} {l:f_} {i:Nat} {p:Int×Int} (h:l[i]?=some p):((l.take (i+1)).filter λ p=>t p.1 p.2).map (λ p=>f p.1 p.2)=((l.take i).filter λ p=>t p.1 p.2).map (λ p=>f p.1 p.2)++(if t p.1 p.2=true then [f p.1 p.2] else []):=by
 rw [sU,h];simp only [Option.toList_some,List.filter_append,mP];congr 1;by_cases z:t p.1 p.2=true
 ·simp [z]
 ·simp [z]
theorem aie {a b:Addr} {c7:TT} {bp:TE} {Q:bG} {xs ys:aV} {t:Int->Int->Bool} {f:Int->Int->Int} (aF:min xs.length ys.length<=sizeLine) (aw : ∃ u v,pick js σ=u::v::σ0) (a8:H1 D=none)
  (ay:H1 a=some (tupI xs)) (ae:H1 b=some (tupI ys))
  (aU : ∀ (x y:Int) (H':az) (R:Bool->az->Prop),x∈xs->y∈ys->R (t x y) H'->c7 (some (.int x)::some (.int y)::σ0) H' R)
  (aB : ∀ (x y:Int) (H':az) (R:bG),x∈xs->y∈ys->t x y=true->R (.int (f x y)) H'->bp (some (.int x)::some (.int y)::σ0) H' R)
  (q : ∀ H',aE H1 H'->H' D=some (.lst ((CS t f xs ys).map V.int))->Q (.ref D) H'):kn (vG K a b) D js (wi K 2 (su (gx 0) (su (gx 1) zy))) c7 bp σ H1 Q:=by
 obtain ⟨qg,v0,aw⟩:=aw;have ki:(xs.zip ys).length=min xs.length ys.length:=List.length_zip;refine Jc (n:=min xs.length ys.length) aF (λ i σ' H' zs=>(∃ u v:dG,σ'=u::v::σ0)/\aE H1 H'/\H' D=some (.lst zs)/\zs.length<=i/\zs=((((xs.zip ys).take i).filter λ p=>t p.1 p.2).map λ p=>f p.1 p.2).map V.int) #[#[qg,v0,aw],aE.new a8,bL,b9 _,rfl] (λ i σ' H' zs _ ⟨_,_,aH,a4,_⟩=>#[aH,a4]) (λ i σ' H' zs ax ⟨_,s',_⟩=>?_) (λ σ' H' zs ⟨_,s',aH,_,e⟩=>#[?_,?_]) ?_
 ·refine #[_,_,.int xs[i],.int ys[i],a0.of (s' _ _ ay),a0.of (s' _ _ ae),?_,?_]
  ·rw [fK,fT .aD];rfl
  ·rw [fK,fT .aD];rfl
 ·exact #[_,_,a0.of (s' _ _ ay),a0.of (s' _ _ ae),by rw [bY,bY];omega]
 ·refine q H' s' ?_;rw [aH,e,<-ki,sV];rfl
 ·rintro i σ' H' zs v au ax ⟨⟨u,v,rfl⟩,s',aH,a4,e⟩ ⟨p,pe,rfl,x,y,rfl,lM⟩;obtain ⟨aj,aT⟩:=lM _ _ (a0.of (s' _ _ ay)) (a0.of (s' _ _ ae));obtain ⟨x,rfl,dD⟩:=l1 aj;obtain ⟨y,rfl,eZ⟩:=l1 aT;have a6:(xs.zip ys)[i]?=some (x,y):=by rw [wU];exact #[dD,eZ]
  have yR:=ahA (t:=t) (f:=f) a6;refine #[p,_,rfl,a0.of bL,rfl,_,_,rfl,_,_,rfl,rfl,?_];have tO:(upd H' p (.tup [.int x,.int y])) D=some (.lst zs):=by rw [bj (cf aH pe)];exact aH
  have s2:aE H1 (upd H' p (.tup [.int x,.int y])):=aE.more s' pe;refine aU x y _ _ (dr dD) (dr eZ) ?_;cases mu:t x y with
  | true =>
   refine aB x y _ _ (dr dD) (dr eZ) mu #[tO,#[_,_,rfl],?_,bL,?_,?_]
   ·intro c o c2;rw [bj (cf c2 a8)];exact s2 c o c2
   ·rw [fm];show zs.length+1<=i+1;omega
   ·rw [yR,e];simp [mu]
  | false =>
   refine #[tO,#[_,_,rfl],s2,tO,.aD,?_];rw [yR,e];simp [mu]
theorem aiD {a:Addr} {c7:TT} {bp:TE} {Q:bG} {t:V->Bool} (aF:xs.length<=sizeLine) (aw : ∃ u,pick js σ=u::σ0) (a8:H1 D=none)
  (ay:H1 a=some (.lst xs))
  (aU : ∀ (x:V) (H':az) (R:Bool->az->Prop),aE H1 H'->x∈xs->R (t x) H'->c7 (some x::σ0) H' R)
  (aB : ∀ (x:V) (H':az) (R:bG),aE H1 H'->x∈xs->t x=true->R x H'->bp (some x::σ0) H' R)
  (q : ∀ H',aE H1 H'->H' D=some (.lst (xs.filter t))->Q (.ref D) H'):kn (rX K a) D js (gx 0) c7 bp σ H1 Q:=by
 obtain ⟨qg,aw⟩:=aw;refine Jc (n:=xs.length) aF (λ i σ' H' zs=>(∃ u:dG,σ'=u::σ0)/\aE H1 H'/\H' D=some (.lst zs)/\zs.length<=i/\zs=(xs.take i).filter t) #[#[qg,aw],aE.new a8,bL,b9 _,rfl] (λ i σ' H' zs _ ⟨_,_,aH,a4,_⟩=>#[aH,a4]) (λ i σ' H' zs ax ⟨_,s',_⟩=>#[_,xs[i],a9.of (s' _ _ ay),fT ax]) (λ σ' H' zs ⟨_,s',aH,_,e⟩=>#[#[_,a9.of (s' _ _ ay),b9 _],?_]) ?_
 ·refine q H' s' ?_;rw [aH,e,sV]
 ·rintro i σ' H' zs x au ax ⟨⟨u,rfl⟩,s',aH,a4,e⟩ ⟨rfl,aj⟩;have dD:=aj _ (a9.of (s' _ _ ay));have yR:(xs.take (i+1)).filter t=(xs.take i).filter t++(if t x=true then [x] else []):=by
   rw [sU,dD];simp only [Option.toList_some,List.filter_append];congr 1;by_cases z:t x=true
   ·simp [z]
   ·simp [z]
  refine aU x _ _ s' (dr dD) ?_;cases mu:t x with
  | true =>
   refine aB x _ _ s' (dr dD) mu #[aH,#[_,rfl],?_,bL,?_,?_]
   ·intro c o c2;rw [bj (cf c2 a8)];exact s' c o c2
   ·rw [fm];show zs.length+1<=i+1;omega
   ·rw [yR,e];simp [mu]
  | false =>
   refine #[aH,#[_,rfl],s',aH,.aD,?_];rw [yR,e];simp [mu]
end cJ
namespace gu
theorem Qe {p:Nat} (aw:2<=p) (aF:1<=n) (ae:n<=1000000000000):cnt p n<40:=by
 have e:=Jb aw n aF;have ah:p ^ cnt p n<=n:=by
  have aB:=Au aw n aF
  calc p ^ cnt p n<=p ^ cnt p n * strip p n:=Nat.le_mul_of_pos_right _ aB
   _=n:=e.symm
 have ai:2 ^ cnt p n<=p ^ cnt p n:=Nat.pow_le_pow_left aw _;have aH:2 ^ cnt p n<2 ^ 40:=by
  have:(1000000000000:Nat)<2 ^ 40:=by decide
  omega
 exact (Nat.pow_lt_pow_iff_right .aA).mp aH
noncomputable def Mj (rows:fq):Prop := ∀ c∈rows,∀ x∈c,-40<x/\x<40
theorem abn {i j:Nat} (ax:1<=i) (b5:1<=j) (bi:i<=1000000000000) (U3:j<=1000000000000) {x:Int} (h:x∈chg i j) : -40<x/\x<40:=by
 obtain ⟨k,aG⟩:=mO h;unfold chg at aG;rw [nJ] at aG;obtain ⟨a,b,ay,ae,rfl⟩:=aG;have hm:=dr ay;have n9:=dr ae;unfold hc at hm n9;obtain ⟨p,aw,rfl⟩:=e3.mp hm;obtain ⟨iJ,pe,rfl⟩:=e3.mp n9;have:=Qe (mM p aw) ax bi;have:=Qe (mM iJ pe) b5 U3;omega
theorem acD {p c:aV} {t:Int} {i:Nat} {v:Int} (h:(cT p c t)[i]?=some v) : ∃ x y,p[i]?=some x/\c[i]?=some y/\v=x+t * y:=by
 unfold cT at h;rw [nJ] at h;obtain ⟨x,y,aj,aT,rfl⟩:=h;exact #[x,y,aj,aT,rfl]
theorem abC {p c:aV} {t:Int} {i:Nat} {x y:Int} (aj:p[i]?=some x) (aT:c[i]?=some y):(cT p c t)[i]?=some (x+t * y):=by
 unfold cT;rw [nJ];exact #[x,y,aj,aT,rfl]
theorem DQ {p c a:aV} {t:Int}:e0 a (cT p c t)=true ↔ ∀ (i:Nat) (x y z:Int),p[i]?=some x->c[i]?=some y->a[i]?=some z->0<=x+t * y+z:=by
 rw [As];constructor
 ·intro h i x y z aj aT a6;exact h i z _ a6 (abC aj aT)
 ·intro h i z v a6 ba;obtain ⟨x,y,aj,aT,rfl⟩:=acD ba;exact h i x y z aj aT a6
theorem aiF {p c a:aV} {t:Int} (h:e0 a (cT p c t)=false) : ∃ (i:Nat) (x y z:Int),p[i]?=some x/\c[i]?=some y/\a[i]?=some z/\x+t * y+z<0:=by
 by_cases z : ∃ (i:Nat) (x y z:Int),p[i]?=some x/\c[i]?=some y/\a[i]?=some z/\x+t * y+z<0
 ·exact z
 ·exfalso;have:e0 a (cT p c t)=true:=DQ.mpr λ i x y w aj aT hw=>by
   by_cases q:0<=x+t * y+w
   ·exact q
   ·exact absurd #[i,x,y,w,aj,aT,hw,.aD] z
  rw [h] at this;cases this
theorem Ee {p c a:aV} {t:Int} {i:Nat} {x y z:Int} (aj:p[i]?=some x) (aT:c[i]?=some y) (a6:a[i]?=some z) (h:x+t * y+z<0):e0 a (cT p c t)=false:=by
 rw [sW];intro w;have:=DQ.mp w i x y z aj aT a6;omega
noncomputable def zL (p c:aV):Option Nat->Prop
 | none => ∀ t:Nat,e0 c (cT p c t)=true
 | some m=>(∀ t:Nat,t<m->e0 c (cT p c t)=true)/\e0 c (cT p c m)=false /\ ∃ x∈p,(m:Int)<=x
noncomputable def ug (p c a:aV):Option Nat->Prop
 | none => ∀ t:Nat,e0 a (cT p c t)=false
 | some m=>(∀ t:Nat,t<m->e0 a (cT p c t)=false)/\e0 a (cT p c m)=true/\m<=1000
theorem JL {t:Int->Int->Bool} {f:Int->Int->Int} {xs ys:aV}:M∈cJ.CS t f xs ys ↔ ∃ (i:Nat) (x y:Int),xs[i]?=some x/\ys[i]?=some y/\t x y=true/\M=f x y:=by
 unfold cJ.CS;rw [e3];constructor
 ·rintro ⟨⟨x,y⟩,h,rfl⟩;obtain ⟨ah,ai⟩:=q4.mp h;obtain ⟨i,ax⟩:=mO ah;rw [wU] at ax;exact #[i,x,y,ax.1,ax.2,ai,rfl]
 ·rintro ⟨i,x,y,ah,ai,aH,rfl⟩;refine #[(x,y),q4.mpr #[?_,aH],rfl];exact dr (i:=i) (by rw [wU];exact #[ah,ai])
noncomputable abbrev zT (p c:aV):aV:=cJ.CS (λ _ y=>decide (y<0)) (λ x y=>x / (-y)) p c
theorem af8 {p c:aV} (aF:nn p=true) (h:zT p c=[]):zL p c none:=λ t=>DQ.mpr λ i x y z aj aT a6=>by
 rw [aT] at a6;cases a6;have x0:=pK.mp aF x (dr aj);by_cases Fo:y<0
 ·have:x / (-y)∈zT p c:=JL.mpr #[i,x,y,aj,aT,cc Fo,rfl];rw [h] at this;cases this
 ·have:=Ak (sX t) (show 0<=y by omega);omega
theorem af9 {p c:aV} (aF:nn p=true) (h:M∈zT p c) (hm : ∀ a∈zT p c,M<=a):0<=M/\zL p c (some M.toNat):=by
 obtain ⟨i,x,y,aj,aT,aU,rfl⟩:=JL.mp h;have Fo:y<0:=eT aU;have x0:=pK.mp aF x (dr aj);have xx:0<=x / (-y):=Int.ediv_nonneg x0 .aD;refine #[xx,λ t yT=>DQ.mpr λ j e7 ij z dD eZ a6=>?_,?_,x,dr aj,?_]
 ·rw [eZ] at a6;cases a6;have alw:=pK.mp aF e7 (dr dD);by_cases Zq:ij<0
  ·have ah:=hm (e7 / (-ij)) (JL.mpr #[j,e7,ij,dD,eZ,cc Zq,rfl]);have ai:((t:Int)+1)<=e7 / (-ij):=by omega
   have aH:=(Int.le_ediv_iff_mul_le (show 0 < -ij by omega)).mp ai;rw [Int.mul_neg,Int.add_mul,Int.one_mul] at aH;omega
  ·have:=Ak (sX t) (show 0<=ij by omega);omega
 ·refine Ee aj aT aT ?_;have aH : ¬ (x / (-y)+1)<=x / (-y):=by omega
  rw [Int.le_ediv_iff_mul_le (show 0 < -y by omega),Int.mul_neg,Int.add_mul,Int.one_mul] at aH;have e:((x / (-y)).toNat:Int)=x / (-y):=lZ xx;rw [e];omega
 ·rw [lZ xx];exact Int.ediv_le_self _ x0
noncomputable def jm (p c a:aV) (i:Nat) (m:Int):Prop:=0<=m/\m<=1000/\(∀ j,j<i -> ∀ x y z:Int,p[j]?=some x->c[j]?=some y->a[j]?=some z->0 < -z - x->0<y /\ -z - x<=m * y)/\(m=0 \/ ∃ (j:Nat) (x y z:Int),p[j]?=some x/\c[j]?=some y/\a[j]?=some z/\0<y/\(m - 1) * y < -z - x)
theorem jm.start {p c a:aV}:jm p c a 0 0:=#[Int.le_refl _,.aA,λ j h=>absurd h .aD,.inl rfl]
theorem jm.skip {p c a:aV} {i:Nat} {x y z:Int} (h:jm p c a i m) (aj:p[i]?=some x) (a6:a[i]?=some z) (av : ¬ 0 < -z - x):jm p c a (i+1) m:=by
 obtain ⟨ah,ai,aH,a4⟩:=h;refine #[ah,ai,λ j b5 e7 ij eh dD eZ iv lI=>?_,a4];by_cases e:j=i
 ·subst e;rw [aj] at dD;rw [a6] at iv;cases dD;cases iv;exact absurd lI av
 ·exact aH j .aD e7 ij eh dD eZ iv lI
theorem jm.never {p c a:aV} {i:Nat} {x y z:Int} (aj:p[i]?=some x) (aT:c[i]?=some y) (a6:a[i]?=some z) (av:0 < -z - x) (qx:y<=0):ug p c a none:=λ t=>Ee aj aT a6 (by
 have:=Ak (sX t) (show 0 <= -y by omega);rw [Int.mul_neg] at this;omega)
theorem acv {l y:Int} (av:0<l) (aT:0<y):l<=(l+y - 1) / y * y/\((l+y - 1) / y - 1) * y<l/\(l+y - 1) / y<=l/\0<=(l+y - 1) / y:=by
 have ah:=Int.lt_ediv_add_one_mul_self (l+y - 1) aT;have ai:=Int.ediv_mul_le (l+y - 1) (show y≠0 by omega);rw [Int.add_mul,Int.one_mul] at ah;refine #[.aD,by rw [Int.sub_mul,Int.one_mul];omega,?_,Int.ediv_nonneg .aD .aD];refine Int.ediv_le_of_le_mul aT ?_;have:=Ak (show 0<=l - 1 by omega) (show 0<=y - 1 by omega);rw [Int.sub_mul,Int.mul_sub,Int.one_mul,Int.mul_one] at this;omega
theorem jm.more {p c a:aV} {i:Nat} {x y z:Int} (h:jm p c a i m) (aj:p[i]?=some x) (aT:c[i]?=some y) (a6:a[i]?=some z) (av:0 < -z - x) (lI : -z - x<=1000) (qx:0<y):jm p c a (i+1) (if (-z - x+y - 1) / y > m then (-z - x+y - 1) / y else m):=by
 obtain ⟨ah,ai,aH,a4⟩:=h;obtain ⟨gn,hD,p6,vg⟩:=acv av qx;by_cases vU:(-z - x+y - 1) / y > m
 ·rw [if_pos vU];refine #[vg,.aD,λ j b5 e7 ij eh dD eZ iv lI=>?_,.inr #[i,x,y,z,aj,aT,a6,qx,hD]];by_cases e:j=i
  ·subst e;rw [aj] at dD;rw [aT] at eZ;rw [a6] at iv;cases dD;cases eZ;cases iv;exact #[qx,gn]
  ·obtain ⟨k1,k2⟩:=aH j .aD e7 ij eh dD eZ iv lI;have:=Dx (show m<=(-z - x+y - 1) / y by omega) (show 0<=ij by omega);exact #[k1,.aD]
 ·rw [if_neg vU];refine #[ah,ai,λ j b5 e7 ij eh dD eZ iv lI=>?_,a4];by_cases e:j=i
  ·subst e;rw [aj] at dD;rw [aT] at eZ;rw [a6] at iv;cases dD;cases eZ;cases iv;have:=Dx (show (-z - x+y - 1) / y<=m by omega) (show 0<=y by omega);exact #[qx,.aD]
  ·exact aH j .aD e7 ij eh dD eZ iv lI
theorem jm.less {p c a:aV} {i:Nat} (h:jm p c a i m) {t:Nat} (aU:(t:Int)<m):e0 a (cT p c t)=false:=by
 obtain ⟨ah,ai,aH,a4⟩:=h;rcases a4 with z | ⟨j,x,y,z,aj,aT,a6,qx,hm⟩
 ·omega
 ·refine Ee aj aT a6 ?_;have:=Dx (show (t:Int)<=m - 1 by omega) (show 0<=y by omega);omega
theorem jm.yes {p c a:aV} {i:Nat} (h:jm p c a i m) (hf:e0 a (cT p c m)=true):ug p c a (some m.toNat):=by
 have ah:=h.1;have ai:=h.2.1;refine #[λ t aU=>h.less .aD,by rw [lZ ah];exact hf,.aD]
theorem jm.no {p c a:aV} (aw:p.length=10) (h:jm p c a 10 m) (hf:e0 a (cT p c m)=false):ug p c a none:=λ t=>by
 by_cases aU:(t:Int)<m
 ·exact h.less aU
 ·obtain ⟨i,x,y,z,aj,aT,a6,ea⟩:=aiF hf;obtain ⟨ah,ai,aH,a4⟩:=h;refine Ee aj aT a6 ?_;have ax:i<10:=by
   have:=(fJ.mp aj).1;omega
  by_cases av:0 < -z - x
  ·obtain ⟨k1,k2⟩:=aH i ax x y z aj aT a6 av;omega
  ·have Fo:y<0:=by
    by_cases q:y<0
    ·exact q
    ·have:=Ak ah (show 0<=y by omega);omega
   have:=Dx (show m<=(t:Int) by omega) (show 0 <= -y by omega);rw [Int.mul_neg,Int.mul_neg] at this;omega
noncomputable def mm (rows:fq) (p c:aV) (k:Nat):Option Nat->Prop
 | none => ∀ t:Nat,dq rows (cT p c t)=some k
 | some T=>(∀ t:Nat,t<T->dq rows (cT p c t)=some k)/\dq rows (cT p c T)≠some k
theorem S0 : ∀ {rows:fq} {p:aV} {i:Nat},dq rows p=some i -> ∀ j,j<i -> ∀ a,rows[j]?=some a->e0 a p=false
 | [],_,_,h=>by cases h
 | c::r,p,i,h=>by
  unfold dq at h;by_cases ak:e0 c p=true
  ·rw [if_pos ak] at h;cases h;intro j b5;omega
  ·rw [if_neg ak] at h;cases e:dq r p with
   | none=>rw [e] at h;cases h
   | some j6 =>
    rw [e] at h;have ax:j6+1=i:=gR h;subst ax;intro j b5 a ay;cases j with
    | zero=>cases ay;exact sW.mpr ak
    | succ j=>exact S0 e j .aD a (by simpa using ay)
theorem DC {q c:aV} {k:Nat} (aG:rows[k]?=some c):dq rows q=some k ↔ e0 c q=true /\ ∀ j,j<k -> ∀ a,rows[j]?=some a->e0 a q=false:=by
 constructor
 ·intro h;obtain ⟨cq,ah,ai,_⟩:=s9 h;rw [aG] at ah;cases ah;exact #[ai,S0 h]
 ·rintro ⟨ah,ai⟩;exact DB rows q k ai (λ cq e=>by rw [aG] at e;cases e;exact ah) (fJ.mp aG).1
theorem adD {p c:aV} {k:Nat} {o:Option Nat} {os:List (Option Nat)} (aG:rows[k]?=some c) (L:zL p c o) (F : ∀ j,j<k -> ∀ a,rows[j]?=some a -> ∃ q,os[j]?=some q/\ug p c a q) (h:(o::os).filterMap id=[]):mm rows p c k none:=λ t=>by
 have no : ∀ q∈o::os,q=none:=λ q aZ=>by
  cases q with
  | none=>rfl
  | some T =>
   have:T∈(o::os).filterMap id:=z5.mpr #[some T,aZ,rfl];rw [h] at this;cases this
 refine (DC aG).mpr #[?_,λ j b5 a ay=>?_]
 ·have:=no o gS;subst this;exact L t
 ·obtain ⟨q,aZ,f⟩:=F j b5 a ay;have:=no q (ht _ (dr aZ));subst this;exact f t
theorem adE {p c:aV} {k:Nat} {o:Option Nat} {os:List (Option Nat)} (aG:rows[k]?=some c) (aJ:os.length=k) (L:zL p c o) (F : ∀ j,j<k -> ∀ a,rows[j]?=some a -> ∃ q,os[j]?=some q/\ug p c a q) {T:Nat} (h:T∈(o::os).filterMap id) (hm : ∀ a∈(o::os).filterMap id,T<=a):mm rows p c k (some T)/\((∃ x∈p,(T:Int)<=x)\/T<=1000):=by
 have at_ : ∀ q iG,q∈o::os->q=some iG->T<=iG:=λ q iG aZ e=>hm iG (z5.mpr #[q,aZ,by rw [e];rfl])
 obtain ⟨q,aZ,e⟩:=z5.mp h;have eq:q=some T:=e;subst eq;have tW:=(fJ.mp aG).1;have first : ∀ t:Nat,t<T->dq rows (cT p c t)=some k:=λ t aU=>by
  refine (DC aG).mpr #[?_,λ j b5 a ay=>?_]
  ·cases o with
   | none=>exact L t
   | some m=>exact L.1 t (by have:=at_ _ m gS rfl;omega)
  ·obtain ⟨aY,gJ,f⟩:=F j b5 a ay;cases aY with
   | none=>exact f t
   | some m=>exact f.1 t (by have:=at_ _ m (ht _ (dr gJ)) rfl;omega)
 rcases c1.mp aZ with z | z
 ·subst z;exact #[#[first,λ y=>by have:=((DC aG).mp y).1;rw [L.2.1] at this;cases this],.inl L.2.2]
 ·obtain ⟨j,b5⟩:=mO z;have BI:j<k:=by
   have:=(fJ.mp b5).1;omega
  obtain ⟨aY,gJ,f⟩:=F j BI _ (fT .aD);rw [b5] at gJ;cases gJ;exact #[#[first,λ y=>by have:=((DC aG).mp y).2 j BI _ (fT .aD);rw [f.2.1] at this;cases this],.inr f.2.2]
theorem acC {p c:aV} (s t:Int) (aw:p.length=10) (ak:c.length=10):cT (cT p c s) c t=cT p c (s+t):=by
 refine IG (by simp [cT,aw,ak]) λ i ah ai=>?_
 simp only [cT,List.getElem_zipWith];rw [Int.add_mul];omega
theorem Jh {p c:aV} (aw:p.length=10) (ak:c.length=10):cT p c 0=p:=by
 refine IG (by simp [cT,aw,ak]) λ i ah ai=>?_
 simp only [cT,List.getElem_zipWith];omega
end gu
namespace bM
open PySem PySem.Spec PyProof.Rows
section
variable {X:aP} {cH:ik} {k:Nat} {f:Addr} {fd:FuncData} {ag:bT} {sp:b3} {E:dA} {x:Str} {p pos:Pos} {e:Expr} {ar:List Expr} {t:dc} {i:Nat}
theorem Im (br:X.A.units+1<cLine):dC X (compareOp .NotEq) (λ x y H Q => ∃ (a b:Addr) (ns ms:aV),x=.ref a/\y=.ref b/\H a=some (.tup (ns.map V.int))/\H b=some (.tup (ms.map V.int))/\Q (.aX (!decide (ns=ms))) H):=by
 intro pins s σ H x y v u Q I a5 bt h;obtain ⟨a,b,ns,ms,rfl,rfl,ay,ae,q⟩:=h;cases a5;cases bt;obtain ⟨its,bJ,p1,_⟩:=I.tuple (a0.of ay);obtain ⟨sm,b8,dm,_⟩:=I.tuple (a0.of ae);have ax:=intsAre_of bJ;have b5:=intsAre_of b8;have aM:=ax.length;have aO:=b5.length;have:=SeqAt.RcNeAt.tuples (A:=X.A) (s:=s) (e:=λ j=>ns.getD j 0 == ms.getD j 0) p1 dm (C0 br) λ j ah ai=>by
  obtain ⟨t,tu⟩:=ax.int_at j its.toArray[j] .zs;obtain ⟨t',FL⟩:=b5.int_at j sm.toArray[j] .zs;rw [tu,FL];exact SeqAt.EqAt.int_int _ _ _ _
 rw [fe,fe,aM,aO,TK] at this;exact this X.prog X.w _ _ #[.aX _,H,I,rfl,q]
end
open PySem
theorem ow {w:World} {X:aP}:Passes (iL P w) X iC:=(by rintro _ _ _ _ _ _ _ ⟨_,_,_,_,_,_,_,_,_,_,_,_,_,_,_,_,_,gO⟩;exact gO.elim)
end bM
namespace gu
theorem QV (rows:fq) (a:Nat) (p:aV) : ∀ b,goN rows (a+b) p=(goN rows a p).bind (goN rows b)
 | 0=>by
  show goN rows a p=(goN rows a p).bind λ q=>some q
  cases goN rows a p<;>rfl
 | b+1=>by
  show (goN rows (a+b) p).bind (iP rows)=(goN rows a p).bind λ q=>(goN rows b q).bind (iP rows)
  rw [QV rows a p b];cases goN rows a p<;>rfl
theorem Qi {p c:aV} {k:Nat} (aG:rows[k]?=some c) (aw:p.length=10) (ak:c.length=10) : ∀ (s:Nat),(∀ t:Nat,t<s->dq rows (cT p c t)=some k)->goN rows s p=some (cT p c s)
 | 0,_=>by
  show some p=_;rw [show ((0:Nat):Int)=0 from rfl,Jh aw ak]
 | s+1,h=>by
  show (goN rows s p).bind (iP rows)=_;rw [Qi aG aw ak s λ t aU=>h t .aD];show iP rows (cT p c s)=_;rw [It (h s .aD) aG,acC _ _ aw ak];rfl
theorem aee {p q c:aV} {k a s:Nat} (h:goN rows a p=some q) (aG:rows[k]?=some c) (aw:q.length=10) (ak:c.length=10) (aB : ∀ t:Nat,t<s->dq rows (cT q c t)=some k):goN rows (a+s) p=some (cT q c s):=by
 rw [QV,h];exact Qi aG aw ak s aB
theorem Rd {p c:aV} {k T:Nat} {x:Option Nat} (ah:mm rows p c k (some T)) (ai:mm rows p c k x):x=some T:=by
 cases x with
 | none=>exact absurd (ai T) ah.2
 | some iG =>
  congr 1;rcases Nat.lt_trichotomy T iG with q | q | q
  ·exact absurd (ai.1 T q) ah.2
  ·exact q.symm
  ·exact absurd (ah.1 iG q) ai.2
end gu
namespace bM
open PySem PySem.Spec PyProof.Rows
theorem SF {α β: Type} {F: α -> β -> Prop} : ∀ {l₁:List α} {l₂:List β},Paired F l₁ l₂ -> ∀ {i:Nat} {a : α},l₁[i]?=some a -> ∃ b,l₂[i]?=some b/\F a b
 | _,_,.nil,_,_,h=>by cases h
 | _,_,.cons r t,0,_,h=>by cases h;exact #[_,rfl,r]
 | _,_,.cons r t,i+1,_,h=>by
  obtain ⟨b,ah,ai⟩:=SF t (by simpa using h);exact #[b,by simpa using ah,ai]
theorem afL {c7:TT} {bp:TE} {Q:bG} (aF:n<=sizeLine) (Pv:Nat->St->az->bl->Prop) (h0:Pv 0 (pick js σ) (upd H1 D (.lst [])) [])
  (aw : ∀ i σ' H' ys,i<=n->Pv i σ' H' ys->H' D=some (.lst ys)/\ys.length<=i) (pb : ∀ i σ' H' ys,i<n->Pv i σ' H' ys->J.go i H') (c4 : ∀ σ' H' ys,Pv n σ' H' ys->J.stop n H'/\Q (.ref D) H')
  (aB : ∀ i σ' H' ys x au,i<n->Pv i σ' H' ys->J.jl i H' x au->g x σ' au λ σ2 aW=>c7 σ2 aW λ k bW =>
   if k=true then bp σ2 bW λ y bc=>bc D=some (.lst ys)/\Pv (i+1) σ2 (upd bc D (.lst (ys++[y]))) (ys++[y]) else bW D=some (.lst ys)/\Pv (i+1) σ2 bW ys):kn J D js g c7 bp σ H1 Q:=Jc aF Pv h0 aw pb c4 aB
open PySem PySem.Spec PySem.SeqAt PyProof.Rows
section
variable {X:aP}
theorem acB {prog:Program} {w:World} {E:b2} {vs:List Value} {Q:b2} (cj:A.handled=none)
  (av:s.heap.IsTuple l vs.toArray) (ax:IntsAre vs ns) (fC:0<ns.length)
  (h : ∀ h' M (t:Tok) bI,(∀ b o,s.heap.get? b=some o->h'.get? b=some o)->M∈ns->(∀ a,a∈ns->a<=M)->Q (.int M t) { s with heap:=h',toks:=bI }) :
  wpAny (model prog w) A (call (.builtin "max") [.ref l]) Q E s:=by
 obtain ⟨xs,e⟩:=ax.allInts.items;have kf:ns=xs.toList.map (·.1):=by rw [<-ax.numsOf,<-nums_intItems,<-e]
 have hsz:0<xs.size:=by
  have aH:=fC;rw [kf,bY,jv] at aH;exact aH
 rw [e] at av;have ea:l<s.heap.objs.size:=by obtain ⟨_,e,_⟩:=av;exact cu e
 refine call_max_walk (uy av ?_);refine #[_,_,_,_,_,_,_,rfl,Walks.tuple (A:=A.in1) cj _ l (d3 ea) (intItems xs),#[#[_,d6 _ rfl,rfl,rfl],av.push _],λ c ak=>?_,by simpa [intItems] using hsz,CmpOf.ints_gt (numAt xs) (λ _ _=>uA),λ v h' bI dY aG=>?_]
 ·show c<(s.heap.push _).objs.size;rw [ha];rcases c1.mp ak with rfl | ak
  ·exact q3 _
  ·rcases c1.mp ak with rfl | ak
   ·exact uz ea
   ·cases ak
 ·have ba:(intItems xs)[argBest (λ i j=>decide (numAt xs i > numAt xs j)) (xs.size - 1)]?=some v:=by simpa [intItems] using dY
  obtain ⟨t,rfl⟩:=uA ba;obtain ⟨ah,ai⟩:=argBest_gt (numAt xs) (xs.size - 1);refine h _ _ t bI (λ b o eV=>aG b o (λ hm=>?_) (bK _ eV)) ?_ λ a ay=>?_
  ·rcases c1.mp hm with aM | hm
   ·exact absurd (aM ▸ cu eV) (iX _)
   ·cases hm
  ·rw [kf,numAt_eq];exact getD_mem (by rw [bY,jv];omega)
  ·rw [kf] at ay;obtain ⟨j,b5,rfl⟩:=mem_getD ay;rw [bY,jv] at b5;rw [<-numAt_eq];exact ai j .aD
theorem afF (ak:X.calm=true):gf X (.builtin "max") (λ xs H Q => ∃ (p:Addr) (ns:aV),xs=[.ref p]/\a0 X.K H p (ns.map V.int)/\ns≠[] /\ ∀ M,M∈ns->(∀ a,a∈ns->a<=M)->Q (.int M) H):=by
 intro pins s σ H xs us Q I r h;obtain ⟨p,ns,rfl,aZ,fC,q⟩:=h;obtain ⟨u,rfl,a5⟩:=vals1 r;cases a5;obtain ⟨its,bP,pl,a6⟩:=I.tuple aZ;refine acB (I.ok.hd.1 ak) pl (intsAre_of bP) (by cases ns with | nil=>exact absurd rfl fC | cons=>simp) λ h' M t bI k ig ly=>?_
 exact #[.int M,H,I.kept k,#[_,rfl],q M ig ly]
end
end bM
namespace cJ
open PySem bM gu
theorem UL {t:Nat->Bool} (i:Nat):(List.range (i+1)).filter t=(List.range i).filter t++(if t i=true then [i] else []):=by
 rw [List.range_succ,List.filter_append];congr 1;by_cases z:t i=true
 ·simp [z]
 ·simp [z]
end cJ
namespace bM
open PySem PySem.Spec PyProof.Rows
noncomputable def Fv (x:Str):h2:=#[λ i _=>i<x.cps.size,λ i H y H'=>H'=H /\ ∃ c,x.cps[i]?=some c/\y=.str ⟨[c].toArray⟩,λ i _=>x.cps.size<=i]
theorem afj {c:Bool} (eH:c=true) {w:World} {bk:Expr} (x:Str) (t:Tok) (it:Addr):Turn P w K c bk (Fv x) [it] it (λ i h=>h.IsStrIter it "str_ascii_iterator" x t i) where
 mem:=by simp
 obj:=λ i h st b ae=>by
  have e:b=it:=by simpa using ae
  subst e;obtain ⟨o,e,c,d⟩:=st;exact #[o,e,λ v z=>by rw [d] at z;cases z]
 keep:=λ i h h' st k=>by
  obtain ⟨o,e,c,d⟩:=st;exact #[o,k it .zs o e,c,d]
 item:=by
  intro X dY hw eW mv ak i pins s σ H E I hf st aS;subst dY hw eW;have ax:i<x.cps.size:=aS;have aj:x.cps[i]?=some x.cps[i]:=Array.getElem?_eq_getElem ax;obtain ⟨f0,f1,f2,di,f4,fi⟩:=hf it .zs;refine wpAny_pyNext_ascii_item st aj λ h' eI d4=>?_
  have aK:Inv X pins σ H { s with heap:=h',toks:=s.toks+1 }:=I.turned (λ b o ae e=>(d4.2 b (by simpa using ae)).trans e) f0 f1 di f4 fi;obtain ⟨o,e,c,d⟩:=id eI;exact #[_,rfl,zP (s:={ s with heap:=h',toks:=s.toks+1 }) e c d .aA #[.str #[[x.cps[i]].toArray],H,aK,#[_,rfl],#[rfl,_,aj,rfl],eI,λ b ae=>(hf b ae).1]]
 done:=by
  intro X dY hw eW mv ak i pins s σ H E I hf st aS;subst dY hw eW;have ax:x.cps.size<=i:=aS;obtain ⟨f0,f1,f2,di,f4,fi⟩:=hf it .zs;exact wpAny_pyNext_ascii_end (I.ok.hd.1 (mv.trans eH)) st (Array.getElem?_eq_none ax) λ h' eV=>#[rfl,I.turned (t':=s.toks) (λ b o ae e=>eV b o ae e) f0 f1 di f4 fi]
 self:=λ _ _ _ _ _ st h=>wpAny_pyIter_striter_ascii st h
section
variable {X:aP} {bk:Expr}
noncomputable def Pd (d1:TE):TI:=λ σ H R=>d1 σ H λ v H1 => ∃ x:Str,v=.str x/\x.cps.all (· < 128)=true/\R (Fv x) H1
theorem abV {l:Expr} {d1:TE} (av:cn X l d1) (eH:X.calm=true:=by rfl):lq X bk l (Pd d1):=by
 intro pins s σ H R I h;refine bq (av pins s σ H _ I h) ?_;rintro v s1 ⟨y,H1,aK,bJ,bb⟩
 obtain ⟨x,e,ay,q⟩:=bb;subst e;obtain ⟨t,rfl⟩:=(show ∃ t,v=Value.str x t from bJ)
 refine wpAny_pyIter_ascii ay ?_;refine #[s1.heap.objs.size,[s1.heap.objs.size],_,_,H1,rfl,aK.kept (t':=s1.toks) λ b o e=>bK _ e,afj eH x t _,#[_,d6 _ rfl,rfl,rfl],λ b ae=>?_,q];have e:b=s1.heap.objs.size:=by simpa using ae
 subst e;exact aK.qP (b9 _) (aK.a7.fresh (b9 _))
theorem Qs {l:Expr} {d1:TE} (av:bO X l d1) (eH:X.calm=true:=by rfl):lr X bk l (Pd d1):=#[abV av.o eH]
theorem acM:dC X (binaryOp .Add) (λ x y H Q => ∃ a b:Str,x=.str a/\y=.str b/\a.length+b.length<=sizeLine/\Q (.str (a++b)) H):=by
 intro pins s σ H x y v u Q I a5 bt h;obtain ⟨a,b,rfl,rfl,av,q⟩:=h;obtain ⟨t,rfl⟩:=(show ∃ t,v=Value.str a t from a5)
 obtain ⟨t',rfl⟩:=(show ∃ t,u=Value.str b t from bt)
 exact add_str (λ t' bI=>#[.str _,H,I.tok _,#[_,rfl],q]) av
end
end bM
namespace cJ
open PySem bM gu
theorem Sm {c7:TT} {bp:TE} {Q:bG} {x:Str} {t:Nat->Bool} {f:Nat->V} (aF:x.cps.size<=sizeLine) (aw : ∃ u,pick js σ=u::σ0) (a8:H1 D=none)
  (aU : ∀ (i c:Nat) (H':az) (R:Bool->az->Prop),aE H1 H'->x.cps[i]?=some c->(∀ au,aE H' au->R (t i) au)->c7 (some (.str ⟨[c].toArray⟩)::σ0) H' R)
  (aB : ∀ (i c:Nat) (H':az) (R:bG),aE H1 H'->x.cps[i]?=some c->t i=true->(∀ au,aE H' au->R (f i) au)->bp (some (.str ⟨[c].toArray⟩)::σ0) H' R)
  (q : ∀ H',aE H1 H'->H' D=some (.lst (((List.range x.cps.size).filter t).map f))->Q (.ref D) H'):kn (Fv x) D js (gx 0) c7 bp σ H1 Q:=by
 obtain ⟨qg,aw⟩:=aw;refine afL (n:=x.cps.size) aF (λ i σ' H' zs=>(∃ u:dG,σ'=u::σ0)/\aE H1 H'/\H' D=some (.lst zs)/\zs.length<=i/\zs=((List.range i).filter t).map f) #[#[qg,aw],aE.new a8,bL,b9 _,rfl] (λ i σ' H' zs _ ⟨_,_,aH,a4,_⟩=>#[aH,a4]) (λ i σ' H' zs ax _=>ax) (λ σ' H' zs ⟨_,s',aH,_,e⟩=>#[b9 _,?_]) ?_
 ·refine q H' s' ?_;rw [aH,e]
 ·rintro i σ' H' zs v au ax ⟨⟨u,rfl⟩,s',aH,a4,e⟩ ⟨rfl,c,ak,rfl⟩;refine aU i c _ _ s' ak λ aW s3=>?_
  cases mu:t i with
  | true =>
   refine aB i c _ _ (s'.trans s3) ak mu λ bc s4=>#[s4 _ _ (s3 _ _ aH),#[_,rfl],?_,bL,?_,?_]
   ·intro c o c2;rw [bj (cf c2 a8)];exact s4 _ _ (s3 _ _ (s' c o c2))
   ·rw [fm];show zs.length+1<=i+1;omega
   ·rw [UL,e];simp [mu]
  | false =>
   refine #[s3 _ _ aH,#[_,rfl],s'.trans s3,s3 _ _ aH,.aD,?_];rw [UL,e];simp [mu]
end cJ
namespace bM
open PySem PySem.Spec PyProof.Rows cJ
section
variable {X:aP} {cH:ik} {k:Nat} {f C:Addr} {fd:FuncData} {ag:bT} {sp:b3} {fj:bl} {ds:List Value} {E:dA} {x m da:Str} {p pos apos:Pos} {e o:Expr} {ar:List Expr} {a3 jG:TE} {t:dc}
theorem nG (he:bO X e a3) (ae:attributeBase e da X.env (eval e X.env)=eval e X.env):bO X (.Attribute e da pos) (PA X.K a3 da):=#[abL he.o ae]
theorem wK (ay:bO X o a3) (ba:bO X value jG) (aB:swapsWith value (some (.Attribute o da pos')) pos.line X.env=pure false):h3 X (.Assign [.Attribute o da pos'] value pos) (Pu X.K a3 jG da):=#[ab0 ay.o ba.o aB]
theorem gX {pl:Sem Bool} (he:bO X o a3) (c:kL X.K C) (hm:Meth X.K C m f) (F:eo X.prog X.w X.K X.mg X.base cH k f fd ag sp) (aq:er k X.A) (ae:Binds X.K fd ag ds) (hd:Vals fj ds) (aj:Passes cH X E) (ay:fL X (e::ar) t)
  (c4:starEach (e::ar) X.env=(false,eval e X.env)::starEach ar X.env:=by rfl) (dH:(backTo pos (starEach ar X.env)).any (·.1)=false:=by rfl)
  (aU:eval (.Call (.Attribute o m apos) (e::ar) [] pos) X.env=(do
   let df ← eval o X.env
   standAt apos.atName
   let (f,first) ← holding [df] (getMethod df m pl)
   callWith pos f first (backTo pos (starEach (e::ar) X.env)) (backToKw pos (keywordEach [] X.env))):=by rfl) :
  bO X (.Call (.Attribute o m apos) (e::ar) [] pos) (CZ C m sp fj E a3 t):=#[acX (pl:=pl) he.o c hm F aq ae hd aj ay.o c4 dH aU]
theorem DT {pl:Sem Bool} (he:bO X o a3) (c:kL X.K C) (hm:Meth X.K C m f) (F:eo X.prog X.w X.K X.mg X.base cH k f fd ag sp) (aq:er k X.A) (ae:Binds X.K fd ag ds) (hd:Vals fj ds) (aj:Passes cH X E)
  (aU:eval (.Call (.Attribute o m apos) [] [] pos) X.env=(do
   let df ← eval o X.env
   standAt apos.atName
   let (f,first) ← holding [df] (getMethod df m pl)
   callWith pos f first (backTo pos (starEach [] X.env)) (backToKw pos (keywordEach [] X.env))):=by rfl) :
  bO X (.Call (.Attribute o m apos) [] [] pos) (CZ C m sp fj E a3 dI):=#[aeT (pl:=pl) he.o c hm F aq ae hd aj aU]
theorem DJ (M:AW X.K C f) (F:eo X.prog X.w X.K X.mg X.base cH k f fd ag sp) (aq:er (k+1) X.A) (aS:dW X x) (hm:X.mg x=some (.ref C)) (ae:Binds X.K fd ag ds) (hd:Vals fj ds) (aj:Passes cH X E)
  (ay:fL X (e::ar) t) (eY:(x == ("__debug__" : Str))=false:=by decide) (he:starEach (e::ar) X.env=(false,eval e X.env)::starEach ar X.env:=by rfl) (dH:(backTo pos (starEach ar X.env)).any (·.1)=false:=by rfl) :
  bO X (.Call (.Name x p) (e::ar) [] pos) (P9 C sp fj E t):=#[acW M F aq aS hm ae hd aj ay.o eY he dH]
end
noncomputable abbrev cF (x:Str):Key:=Sum.inr x
section
variable {X:aP}
theorem S4 (br:X.A.units+1<cLine):dC X (compareOp .NotIn) (λ y x H Q => ∃ (n:Str) (d:Addr) (kvs:List (Key×V)),y=.str n/\x=.ref d/\H d=some (.bF kvs)/\Q (.aX (!(dU kvs (cF n)).isSome)) H):=by
 intro pins s σ H y x u v Q I bt a5 h;obtain ⟨n,d,kvs,rfl,rfl,hd,q⟩:=h;cases a5;exact QM br I (pq.k (k:=cF n) hd) bt λ s3 cv=>#[.aX _,H,cv,rfl,q]
noncomputable def aci (j9 ty:TE):TE:=λ σ H Q=>j9 σ H λ x H1=>ty σ H1 λ y au => ∃ (d:Addr) (n:Str) (kvs:List (Key×V)) (v:V),x=.ref d/\y=.str n/\au d=some (.bF kvs)/\dU kvs (cF n)=some v/\Q v au
theorem ae8 {o i:Expr} {ty:TE} {pos:Pos} (br:X.A.units+1<cLine) (aJ:bO X o j9) (ax:bO X i ty) (aB:Hq i):bO X (.Subscript o i pos) (aci j9 ty):=#[by
 intro pins s σ H Q I h;refine Rf PySem.F.slot_dict_getitem.lookup aB (bq (aJ.o pins s σ H _ I h) ?_);rintro u s1 ⟨x,H1,aK,a5,bb⟩;refine bq (ax.o pins s1 σ H1 _ aK bb) ?_;rintro ed s2 ⟨y,au,cm,bt,cg⟩;obtain ⟨d,n,kvs,v,rfl,rfl,hd,ba,q⟩:=cg;obtain rfl:u=Value.ref d:=a5;have g:pq au d (.str n) (some v):=by rw [<-ba];exact pq.k (k:=cF n) hd
 exact #[Th cm g,So br cm g bt λ cV s3 cv g7=>#[v,au,cv,g7,q]]]
noncomputable def aca (j9 ty jG:TE):de:=λ D σ H=>jG σ H λ v H1=>j9 σ H1 λ x au=>ty σ au λ y aW => ∃ (d:Addr) (n:Str) (kvs:List (Key×V)),x=.ref d/\y=.str n/\aW d=some (.bF kvs)/\kvs.length<sizeLine /\ ∀ bc,cJ.bN d aW bc->bc d=some (.bF (putK kvs (cF n) v))->D.bu σ bc
theorem Jm {o i:Expr} {ty jG:TE} {pos:Pos} (br:X.A.units+1<cLine) (aJ:bO X o j9) (ax:bO X i ty) (ba:bO X value jG) (aB:swapsWith value (some (.Subscript o i pos')) pos.line X.env=pure false) :
  h3 X (.Assign [.Subscript o i pos'] value pos) (aca j9 ty jG):=#[by
 intro pins s σ H D I h;refine wpAny_Assign_Subscript (bq (ba.o pins s σ H _ I h) ?_) aB;rintro r s1 ⟨v,H1,aK,cx,bb⟩;refine bq (aJ.o pins s1 σ H1 _ aK bb) ?_;rintro u s2 ⟨x,au,cm,a5,cg⟩;refine bq (ax.o pins s2 σ au _ cm cg) ?_;rintro ed s3 ⟨y,aW,cv,bt,eQ⟩;obtain ⟨d,n,kvs,rfl,rfl,hd,av,q⟩:=eQ;obtain rfl:u=Value.ref d:=a5;exact afO br cv (Co.k (k:=cF n) hd av) bt cx λ s4 eM=>#[σ,_,eM,q _ cJ.bN.upd bL]]
noncomputable def ab9:V->bl->az->bG->Prop:=λ x vs H Q => ∃ (d:Addr) (n:Str) (kvs:List (Key×V)) (v:V),x=.ref d/\vs=[.str n]/\H d=some (.bF kvs)/\dU kvs (cF n)=some v /\ ∀ H',cJ.bN d H H'->H' d=some (.bF (qW kvs (cF n)))->Q v H'
theorem RH:vH X "dict.pop" ab9:=by
 intro pins s σ H x vs v us Q I a5 cx h;obtain ⟨d,n,kvs,y,rfl,rfl,hd,ba,q⟩:=h;cases a5;obtain ⟨u,rfl,fp⟩:=cx.one;exact aaG I hd (k:=cF n) fp ba (.inl rfl) λ cV s' j2 g7=>#[y,_,j2,g7,q _ cJ.bN.upd bL]
noncomputable def ab8:V->bl->az->bG->Prop:=λ x vs H Q => ∃ (d:Addr) (n:Str) (kvs:List (Key×V)),x=.ref d/\vs=[.str n]/\H d=some (.bF kvs)/\Q ((dU kvs (cF n)).getD .bh) H
theorem aeu:vH X "dict.get" ab8:=by
 intro pins s σ H x vs v us Q I a5 cx h;obtain ⟨d,n,kvs,rfl,rfl,hd,q⟩:=h;cases a5;obtain ⟨u,rfl,fp⟩:=cx.one;obtain ⟨t,rfl⟩:=(show ∃ t,u=Value.str n t from fp)
 obtain ⟨_,hm,xs,rel,dd⟩:=zO I.a7 hd;refine call_meetsIn PySem.F.slot_dict_get dd.typeIs PySem.F.entry_dict_get (PySem.F.args_dict_get_2 _ _) (meets_dict_get (ic X.prog X.w) d (Tq X.prog X.w n t) hm) #[_,dd.mapOf,?_];exact #[(dU kvs (cF n)).getD .bh,H,I.tok _,(rel.val (cF n)).getD (show RelV V.bh Value.none from rfl),q]
theorem afE:gf X (.builtin "len") (λ xs H Q => ∃ (d:Addr) (kvs:List (Key×V)),xs=[V.ref d]/\H d=some (.bF kvs)/\Q (.int kvs.length) H):=by
 intro pins s σ H xs us Q I r h;obtain ⟨d,kvs,rfl,hd,q⟩:=h;obtain ⟨u,rfl,a5⟩:=vals1 r;cases a5;exact PJ I (.inl hd) λ t s' j2=>#[.int _,H,j2,#[t,rfl],q]
end
end bM
namespace gu
open PySem PySem.NumText
noncomputable abbrev xX (c:Nat):Str:=#[[c].toArray]
noncomputable abbrev fu (x:Str):eG:=x.cps.toList
end gu
namespace bM
open PySem PySem.Spec PyProof.Rows cJ
section
variable {X:aP}
theorem Ql:dC X (compareOp .LtE) (λ x y H Q => ∃ i j:Str,x=.str i/\y=.str j/\Q (.aX (!decide (gu.fu j<gu.fu i))) H):=by
 intro pins s σ H x y v u Q I a5 bt h;obtain ⟨i,j,rfl,rfl,q⟩:=h;obtain ⟨t,rfl⟩:=(show ∃ t,v=Value.str i t from a5)
 obtain ⟨t',rfl⟩:=(show ∃ t,u=Value.str j t from bt)
 exact P.le_str #[.aX _,H,I,rfl,q]
end
end bM
namespace gu
open PySem PySem.NumText
instance (x:eG):Decidable (AllDigits x):=by unfold AllDigits;infer_instance
noncomputable def x4 (x:Str):Prop := ∀ c∈fu x,c<128
theorem x4.all {x:Str} (h:x4 x):x.cps.all (· < 128)=true:=by
 rw [Array.all_eq_true'];intro c ak;exact cc (h c (Array.mem_toList_iff.mpr ak))
open cJ
end gu
namespace Fy
open PySem PySem.W PyProof.Rows bM
section
variable {w:World} {E:b2}
theorem take_all {T:String} {r d:Addr} {P:Nat->Value->Prop} {Mi:Heap->Prop} {R:List Value->Shared->Prop} (K:KdlSrc prog w T r d n P Mi) (cj:A.handled=none) (a7:Mi s.heap) (aF:n<=sizeLine)
  (h : ∀ (g:Heap) (bI:Nat) (acc:cZ),(∀ b o,s.heap.get? b=some o->g.get? b=some o)->s.heap.objs.size<g.objs.size->ItemsOf P acc n->R acc.toList { s with heap:=g,toks:=bI }) :
  wpAny (model prog w) A (collect (.ref r)) R E s:=by
 have lt:=K.there _ a7;have Z_:(s.heap.push (seqObj "list" #[] 0)).get? s.heap.objs.size=some (seqObj "list" #[] 0):=d6 _ rfl;have key:=kdl_extend (A:=A) (s:={ s with heap:=s.heap.push (seqObj "list" #[] 0) })
  (R:=λ (z:Result) (s':Shared) => ∃ (g:Heap) (bI:Nat) (acc:cZ) (c:Nat),z=.ok (.ret (.ref s.heap.objs.size))/\s'={ s with heap:=g,toks:=bI }/\(∀ b o,s.heap.get? b=some o->g.get? b=some o)/\g.get? s.heap.objs.size=some { cls:=.type "list", dict:=none,data:=.seq acc c,slots:=#[] }/\ItemsOf P acc n)
  K cj (K.keep _ _ a7 λ b _ o e=>bK _ e) s.heap.objs.size (jw lt.1) (jw lt.2) (.ref s.heap.objs.size) 0 Z_
  (λ g bI acc c aG dT qQ=>#[g,bI,acc,c,rfl,rfl,λ b o e=>aG b o (d3 (cu e)) (bK _ e),dT,qQ]) aF
 unfold collect;refine aC (wpAny_runValue (sR entry_proto_collect' (show wpAny _ _ (do again (.builtin "list.__iadd__" ⟨[<-newList [],.ref r],[]⟩)) _ _ s from ?_)));refine aC (wpAny_newList (bH #[II _ (by decide +kernel),sR entry_list_iadd' (show wpAny _ _ (Builtin.List.listExtendWith (.ref s.heap.objs.size) (.ref r) (.ref s.heap.objs.size)) _ _ { s with heap:=s.heap.push (seqObj "list" #[] 0) } from ?_)]));refine hb key (λ z s' x=>?_) λ e s' x=>?_
 ·cases z with
  | again c =>
   refine #[x.1,nE x.2 ?_];rintro _ _ ⟨g,bI,acc,cq,aM,aO,aG,dT,qQ⟩;subst aM aO;exact (show wpAny _ A (load s.heap.objs.size>>=_) _ _ _ from aC (zK dT (bH (h g bI acc aG (cu dT) qQ))))
  | done v =>
   obtain ⟨g,bI,acc,cq,aM,aO,aG,dT,qQ⟩:=x;subst aO;cases aM;exact (show wpAny _ A (load s.heap.objs.size>>=_) _ _ _ from aC (zK dT (bH (h g bI acc aG (cu dT) qQ))))
 ·obtain ⟨_,_,_,_,aM,_⟩:=x;cases aM
theorem Tw {d:Addr} {vs:List (Key×Value)} {ns:bT} {R:b2} (cj:A.handled=none) (lo:(d == sysModules)=false) (dd:s.heap.DictOf (ic prog w) d vs) (aG:vs.map (·.1)=ns.map cF) (mr:ns.length<64)
  (k : ∀ (h':Heap) (bI:Nat) (p:Addr) (out:cZ) (e:Nat) (ms:bT),(∀ b b7,s.heap.get? b=some b7->h'.get? b=some b7)->s.heap.objs.size<=p->StrsAre out.toList ms->ms.Perm ns->sortedS ms=true->h'.get? p=some (seqObj "list" out e)->R (.ref p) { s with heap:=h',toks:=bI }) :
  wpAny (model prog w) A (call (.builtin "sorted") [.ref d]) R E s:=by
 obtain ⟨ep,kc⟩:=dd.dictAt;have av:vs.length=ns.length:=by
  have:=nC List.length aG;simpa using this
 refine Calls.call_function_entry kind_sorted plain_sorted entry_sorted (args_sorted1 _) (show wpAny _ _ (Builtin.«sorted» _) _ _ s from ?_);unfold Builtin.«sorted»;refine aC (m:=checkCount "sorted" 1 1 _) (bH (aC (take_all (A:=A.in1) (kdl_dict (knd:=ic prog w) (kvs:=vs) (ep:=ep) lo) cj kc (by rw [av,ef];omega) λ ah t1 acc k1 Yy qQ=>aC (wpAny_newList ?_ ?_))))
 ·have al:acc.toList.length=ns.length:=by rw [jv,qQ.1,av]
  have at' : ∀ (j:Nat) (v:Value),acc.toList[j]?=some v -> ∃ x t,ns[j]?=some x/\v=.str x t:=λ j v ba=>by
   obtain ⟨key,x,aj,ax⟩:=qQ.2 j v (by rw [<-Array.getElem?_toList];exact ba);have ai:(ns.map cF)[j]?=some key:=by rw [<-aG,fK,aj];rfl
   rw [fK] at ai;obtain ⟨y,aT,e⟩:=ID.mp ai;subst e;rcases oS (show sy (cF y) v=true from ax) with ⟨i,t,e,_⟩ | ⟨z,t,e,rfl⟩
   ·cases e
   ·cases e;exact #[y,t,aT,rfl]
  have dT:StrsAre acc.toList ns:=by
   have ah:=strsAre_map acc.toList λ v ba=>by
    obtain ⟨j,b5⟩:=mO ba;obtain ⟨x,t,_,e⟩:=at' j v b5;exact #[x,t,e]
   have e:acc.toList.map strOf=ns:=by
    apply List.ext_getElem?;intro j;rw [fK];cases b5:acc.toList[j]? with
    | some v =>
     obtain ⟨x,t,aj,rfl⟩:=at' j v b5;rw [aj];rfl
    | none =>
     have:=List.getElem?_eq_none_iff.mp b5;rw [List.getElem?_eq_none .aD];rfl
   rw [e] at ah;exact ah
  have Wl:acc.toList.length<64:=by omega
  have Fz:(ah.push (seqObj "list" acc.toList.toArray 0)).get? ah.objs.size=some (seqObj "list" acc.toList.toArray 0):=d6 _ rfl;refine aC (hY (lW slot_list_sort #[_,Fz,rfl] entry_list_sort (list_sort_treeK strKind_oneLt Fz dT.keysOf (λ v₁ v₂ rest e=>keyKind_strs (by rw [<-e];exact dT)) Wl λ eI aw aB=>#[_,rfl,bH #[_,rfl,?_]]) (args_list_sort _)));obtain ⟨ms,ig,ly,EV⟩:=sorted_out_str dT aw aB;obtain ⟨e,he⟩:=sortedHeap_at (out:=(arrOf eI).map (·.2)) Fz;exact k _ t1 ah.objs.size _ e ms (λ i8 b7 y=>(sortedHeap_old (d3 (cu (k1 i8 b7 y))) (by rw [ha];exact uz (cu (k1 i8 b7 y)))).trans (bK _ (k1 i8 b7 y))) (C2 Yy) ig ly EV he
 ·rw [jv,qQ.1,av,ef];omega
end
end Fy
namespace bM
open PySem PySem.Spec PyProof.Rows
section
variable {X:aP}
theorem Kh : ∀ {vs:List Value} {ns:bT},StrsAre vs ns->Vals (ns.map V.str) vs
 | _,_,.nil=>.nil
 | _,_,.cons y t h=>.cons #[t,rfl] (Kh h)
theorem ai9 (ak:X.calm=true):gf X (.builtin "sorted") (λ xs H Q => ∃ (d:Addr) (kvs:List (Key×V)) (ns:bT),xs=[V.ref d]/\H d=some (.bF kvs)/\kvs.map (·.1)=ns.map cF/\ns.length<64 /\ ∀ ms:bT,ms.Perm ns->sortedS ms=true->kY (.lst (ms.map V.str)) H Q):=by
 intro pins s σ H xs us Q I r h;obtain ⟨d,kvs,ns,rfl,hd,aG,mr,q⟩:=h;obtain ⟨u,rfl,a5⟩:=vals1 r;cases a5;obtain ⟨_,lo,vs,rel,dd⟩:=zO I.a7 hd;refine Fy.Tw (I.ok.hd.1 ak) lo dd (by rw [<-rel.keys];exact aG) mr λ aH Hi fM out e ms old ge aJ pm vA FA=>?_
 refine #[.ref fM,_,I.laid (a:=fM) (t':=Hi) old ge (show et X.prog X.w _ _ _ (.lst (ms.map V.str)) from #[?_,out.toList,e,Kh aJ,?_]),rfl,(q ms pm vA).at _ (I.a7.fresh ge)]
 ·rw [bY,pm.length_eq,ef];omega
 ·exact FA
end
open PySem PySem.Spec PyProof.Rows cJ
section
variable {X:aP}
theorem ahm:gf X (.type "dict") (λ xs H Q => ∃ (d:Addr) (kvs:List (Key×V)),xs=[V.ref d]/\dS H d (.bF kvs)/\kY (.bF kvs) H Q):=by
 intro pins s σ H xs us Q I r h;obtain ⟨d,kvs,rfl,hd,q⟩:=h;obtain ⟨u,rfl,a5⟩:=vals1 r;cases a5;obtain ⟨z,lo,vs,rel,dd⟩:=uq I.a7 hd;refine kt_call_dict lo dd (by rw [<-rel.length];exact z) λ h' nc d4=>?_
 have old : ∀ b o,s.heap.get? b=some o->h'.get? b=some o:=λ b o y=>d4.extBut _ _ (d3 (cu y)) (bK _ y)
 have big:(s.heap.objs.size == sysModules)=false:=by
  have:=I.big;rw [uB];exact jw this
 exact #[.ref s.heap.objs.size,_,I.laid (a:=s.heap.objs.size) (t':=s.toks) old (b9 _) (Ik z big rel nc),rfl,q.at _ (I.a7.fresh (b9 _))]
theorem S3 (br:X.A.units+1<cLine):dC X (compareOp .NotIn) (λ y x H Q => ∃ (n:Str) (d:Addr) (kvs:List (Key×V)),y=.str n/\x=.ref d/\dS H d (.bF kvs)/\Q (.aX (!(dU kvs (cF n)).isSome)) H):=by
 intro pins s σ H y x u v Q I bt a5 h;obtain ⟨n,d,kvs,rfl,rfl,hd,q⟩:=h;cases a5;exact QM br I (show pq H d (.str n) _ from .inl #[kvs,cF n,hd,rfl,rfl]) bt λ s3 cv=>#[.aX _,H,cv,rfl,q]
noncomputable def adH (j9 ty:TE):TE:=λ σ H Q=>j9 σ H λ x H1=>ty σ H1 λ y au => ∃ (d:Addr) (n:Str) (kvs:List (Key×V)) (v:V),x=.ref d/\y=.str n/\dS au d (.bF kvs)/\dU kvs (cF n)=some v/\Q v au
theorem JQ {o i:Expr} {ty:TE} {pos:Pos} (br:X.A.units+1<cLine) (aJ:bO X o j9) (ax:bO X i ty) (aB:Hq i):bO X (.Subscript o i pos) (adH j9 ty):=#[by
 intro pins s σ H Q I h;refine Rf PySem.F.slot_dict_getitem.lookup aB (bq (aJ.o pins s σ H _ I h) ?_);rintro u s1 ⟨x,H1,aK,a5,bb⟩;refine bq (ax.o pins s1 σ H1 _ aK bb) ?_;rintro ed s2 ⟨y,au,cm,bt,cg⟩;obtain ⟨d,n,kvs,v,rfl,rfl,hd,ba,q⟩:=cg;obtain rfl:u=Value.ref d:=a5;have g:pq au d (.str n) (some v):=.inl #[kvs,cF n,hd,rfl,ba.symm];exact #[Th cm g,So br cm g bt λ cV s3 cv g7=>#[v,au,cv,g7,q]]]
theorem J1:gf X (.builtin "len") (λ xs H Q => ∃ (d:Addr) (kvs:List (Key×V)),xs=[V.ref d]/\dS H d (.bF kvs)/\Q (.int kvs.length) H):=by
 intro pins s σ H xs us Q I r h;obtain ⟨d,kvs,rfl,hd,q⟩:=h;obtain ⟨u,rfl,a5⟩:=vals1 r;cases a5;exact PJ I hd λ t s' j2=>#[.int _,H,j2,#[t,rfl],q]
theorem KR (ak:X.calm=true):gf X (.builtin "sorted") (λ xs H Q => ∃ (d:Addr) (kvs:List (Key×V)) (ns:bT),xs=[V.ref d]/\dS H d (.bF kvs)/\kvs.map (·.1)=ns.map cF/\ns.length<64 /\ ∀ ms:bT,ms.Perm ns->sortedS ms=true->kY (.lst (ms.map V.str)) H Q):=by
 intro pins s σ H xs us Q I r h;obtain ⟨d,kvs,ns,rfl,hd,aG,mr,q⟩:=h;obtain ⟨u,rfl,a5⟩:=vals1 r;cases a5;obtain ⟨_,lo,vs,rel,dd⟩:=uq I.a7 hd;refine Fy.Tw (I.ok.hd.1 ak) lo dd (by rw [<-rel.keys];exact aG) mr λ aH Hi fM out e ms old ge aJ pm vA FA=>?_
 refine #[.ref fM,_,I.laid (a:=fM) (t':=Hi) old ge (show et X.prog X.w _ _ _ (.lst (ms.map V.str)) from #[?_,out.toList,e,Kh aJ,?_]),rfl,(q ms pm vA).at _ (I.a7.fresh ge)]
 ·rw [bY,pm.length_eq,ef];omega
 ·exact FA
end
theorem Inv.acf {X:aP} {d:Addr} {kvs:List (Key×V)} (I:Inv X pins σ H s) (hd:H d=some (.bF kvs)) (aJ:s.heap.get? d=some b6):Inv X pins σ (upd H d (.gI b6 (.bF kvs))) s:=by
 have up : ∀ {b:Addr} {o:e6},H b=some o->o≠.bF kvs->upd H d (.gI b6 (.bF kvs)) b=some o:=λ {b o} e n=>by rw [bj (cW e hd n)];exact e
 have un : ∀ {b:Addr},H b=none->upd H d (.gI b6 (.bF kvs)) b=none:=λ {b} e=>by rw [bj (λ z=>by rw [z,hd] at e;cases e)];exact e
 refine I.step (g':=s.gens) (d':=s.drawn) (ch:=[]) (λ _ z=>nomatch z) (λ b o _ _ _ e _=>e) (λ b o _ _ _ e _=>#[o.slots,e]) (λ b o _ e n=>un n) (λ b o _ e=>#[o,e]) (λ b xs e=>up e (by intro z;cases z)) (λ b o u e=>up e (by intro z;cases z)) (λ b ag e=>#[#[],by rw [up e (by intro z;cases z)];simp]) (λ m hm=>hm) (λ b u e=>?_) I.bare;by_cases z:b=d
 ·subst z;rw [bL] at e;cases e;exact #[aJ,(I.a7 b _ hd).jq (λ c v _ q=>q) (λ c q=>up q (by intro z;cases z)) λ c ys q=>up q (by intro z;cases z)]
 ·rw [bj z] at e;exact (I.a7 b u e).jq (λ c v _ q=>q) (λ c q=>up q (by intro z;cases z)) λ c ys q=>up q (by intro z;cases z)
noncomputable def vF (b6:Obj) (d:Addr):h2 :=
 #[λ i H => ∃ kvs:List (Key×V),H d=some (.gI b6 (.bF kvs))/\i<kvs.length,λ i H x H'=>H'=H /\ ∀ kvs:List (Key×V),H d=some (.gI b6 (.bF kvs)) -> ∃ k v,kvs[i]?=some (k,v)/\x=cX k,λ i H => ∃ kvs:List (Key×V),H d=some (.gI b6 (.bF kvs))/\kvs.length<=i]
theorem Inv.keysAt {X:aP} {d:Addr} {kvs:List (Key×V)} (I:Inv X pins σ H s) (hd:H d=some (.gI b6 (.bF kvs))) :
  s.heap.get? d=some b6 /\ ∃ vs,gF kvs vs/\s.heap.DictOf (ic X.prog X.w) d vs:=by
 obtain ⟨aJ,_,_,vs,rel,dd⟩:=(show et X.prog X.w H s.heap d (.gI b6 (.bF kvs)) from I.a7 d _ hd)
 exact #[aJ,vs,rel,dd]
noncomputable def Zt (b6:Obj) (d j:Addr) (i:Nat) (h:Heap):Prop := ∃ ar ep,b6.data=.dict ar ep/\h.IsKeyIter j d i ar.size ep
theorem JD {w:World} {h:Heap} {d:Addr} {vs:List (Key×Value)} {ar:Array DictEntry} {ep:Nat} (aJ:h.get? d=some b6) (he:b6.data=.dict ar ep) (dd:h.DictOf (ic P w) d vs):h.DictAt (ic P w) d vs ep/\ar.size=vs.length:=by
 obtain ⟨o,nd,Bz,ah,ai,aH,a4,b4,dM⟩:=dd;rw [aJ] at ah;cases ah;rw [he] at aH;cases aH;exact #[#[b6,ar,aJ,ai,he,a4,b4,dM],by rw [<-b4.length,jv]]
theorem ag1 {c:Bool} (eH:c=true) {w:World} {bk:Expr} {j d:Addr}:Turn P w K c bk (vF b6 d) [j] j (λ i h=>Zt b6 d j i h) where
 mem:=gS
 obj:=λ i h st c ak=>by
  obtain ⟨ar,ep,_,o,ah,ai,aH⟩:=st;rw [eC] at ak;subst ak;exact #[o,ah,λ v q=>by rw [aH] at q;cases q]
 keep:=λ i h h' st k=>by
  obtain ⟨ar,ep,h0,o,ah,ai⟩:=st;exact #[ar,ep,h0,o,k _ .zs _ ah,ai]
 item:=by
  intro X dY hw eW mv ak i pins s σ H E I hf st aS;subst dY hw eW;obtain ⟨ar,ep,h0,ah⟩:=st;obtain ⟨kvs,hd,ax⟩:=aS;obtain ⟨aJ,vs,rel,dd⟩:=I.keysAt hd;obtain ⟨kc,hsz⟩:=JD aJ h0 dd;rw [hsz] at ah;obtain ⟨⟨f3,jH⟩,g1,g2⟩:=SF rel (show kvs[i]?=some (kvs[i].1,kvs[i].2) from fT ax);obtain ⟨f0,f1,f2,di,f4,fi⟩:=hf j .zs;have A4:kvs[i].1=f3:=g2.1;refine wpAny_pyNext_dict_item ah kc g1 λ key h' HA eI d4=>#[key,rfl,?_]
  have aK:Inv X pins σ H { s with heap:=h' }:=I.turned (t':=s.toks) (λ b o ae e=>(d4.2 b ae).trans e) f0 f1 di f4 fi;obtain ⟨o,e,cq,d'⟩:=id eI;refine zP (s:={ s with heap:=h' }) e cq d' .aA #[cX kvs[i].1,H,aK,?_,#[rfl,λ alJ hd2=>?_],#[ar,ep,h0,by rw [hsz];exact eI],λ b ae=>(hf b ae).1]
  ·rw [A4];rcases oS (show sy f3 key=true from HA) with ⟨n,t,rfl,rfl⟩ | ⟨x,t,rfl,rfl⟩
   ·exact #[t,rfl]
   ·exact #[t,rfl]
  ·rw [hd] at hd2;cases hd2;exact #[_,_,fT ax,rfl]
 done:=by
  intro X dY hw eW mv ak i pins s σ H E I hf st aS;subst dY hw eW;obtain ⟨ar,ep,h0,ah⟩:=st;obtain ⟨kvs,hd,ax⟩:=aS;obtain ⟨aJ,vs,rel,dd⟩:=I.keysAt hd;obtain ⟨kc,hsz⟩:=JD aJ h0 dd;rw [hsz] at ah;obtain ⟨f0,f1,f2,di,f4,fi⟩:=hf j .zs;exact wpAny_pyNext_dict_end (I.ok.hd.1 (mv.trans eH)) ah kc (List.getElem?_eq_none (by rw [<-rel.length];exact ax)) λ h' eV=>#[rfl,I.turned (t':=s.toks) (λ b o ae e=>eV b o ae e) f0 f1 di f4 fi]
 self:=λ A i s Q E st h=>by
  obtain ⟨ar,ep,h0,ah⟩:=st;have ty:=ah.typeIs (s:=s);refine wpAny_pyIter_slot ty F.slot_dict_keyiterator_iter (lW F.slot_dict_keyiterator_iter ty F.entry_dict_keyiterator_iter ?_ (F.args_dict_keyiterator_iter_1 _));exact bH #[_,rfl, "dict_keyiterator", _,ty,F.slot_dict_keyiterator_next.lookup,h]
section
variable {X:aP} {bk:Expr}
noncomputable def aaN (j9:TE):TI:=λ σ H R=>j9 σ H λ x H1 => ∃ d kvs,x=.ref d/\dS H1 d (.bF kvs) /\ ∀ b6 au,(∀ c,c≠d->au c=H1 c)->au d=some (.gI b6 (.bF kvs))->R (vF b6 d) au
theorem adi {o:Expr} (aJ:bO X o j9) (eH:X.calm=true:=by rfl):lr X bk o (aaN j9):=#[by
 intro pins s σ H R I h;refine bq (aJ.o pins s σ H _ I h) ?_;rintro u s1 ⟨x,H1,aK,a5,d,kvs,ex,Nw,q⟩
 subst ex;cases a5;have key : ∀ b6:Obj,s1.heap.get? d=some b6->(∃ vs,s1.heap.DictOf (ic X.prog X.w) d vs)->(d == sysModules)=false -> ∀ au,(∀ h',(∀ b o,s1.heap.get? b=some o->h'.get? b=some o)->Inv X pins σ au { s1 with heap:=h' })->au s1.heap.objs.size=none->R (vF b6 d) au->wpAny (model X.prog X.w) X.A (pyIter (.ref d)) (Bl X pins σ bk R) X.c3 s1:=by
  rintro b6 aJ ⟨vs,dd⟩ lo au cm f2 r;obtain ⟨o,ar,ep,ah,ai,aH,a4⟩:=id dd;rw [aJ] at ah;cases ah;obtain ⟨kc,hsz⟩:=JD aJ aH dd;refine wpAny_pyIter_dict lo kc ?_;refine #[s1.heap.objs.size,[s1.heap.objs.size],_,_,au,rfl,cm _ λ b o e=>bK _ e,ag1 eH,#[ar,ep,aH,_,d6 _ rfl,rfl,by rw [hsz];rfl],λ b ae=>?_,r];rw [eC.mp ae];exact aK.qP (b9 _) f2
 rcases Nw with hd | ⟨b6,hd⟩
 ·obtain ⟨_,lo,vs,rel,dd⟩:=zO aK.a7 hd;obtain ⟨b6,ar,ep,ah,ai⟩:=id dd;have fr:H1 s1.heap.objs.size=none:=aK.a7.fresh (b9 _);exact key b6 ah #[vs,dd] lo _ (λ h' k=>((aK.kept (t':=s1.toks) k).acf hd (k _ _ ah))) (by rw [bj (λ z=>by rw [z,hd] at fr;cases fr)];exact fr) (q b6 _ (λ c d0=>bj d0) bL)
 ·obtain ⟨aJ,_,lo,vs,rel,dd⟩:=(show et X.prog X.w H1 s1.heap d (.gI b6 (.bF kvs)) from aK.a7 d _ hd)
  exact key b6 aJ #[vs,dd] lo _ (λ h' k=>aK.kept (t':=s1.toks) k) (aK.a7.fresh (b9 _)) (q b6 H1 (λ _ _=>rfl) hd)]
theorem ad9 {d:Addr} {cp:List (Key×V)} {bz:de} {D:Ends} (Pv:Nat->St->az->Prop) (h0:Pv 0 σ H) (av : ∀ i σ H,i<=cp.length->Pv i σ H->H d=some (.gI b6 (.bF cp)))
  (aB : ∀ i k v σ H,cp[i]?=some (k,v)->Pv i σ H->g (cX k) σ H λ σ2 au=>bz { D with bu:=Pv (i+1),cK:=Pv (i+1),aQ:=D.bu } σ2 au) (hd : ∀ σ H,Pv cp.length σ H->D.bu σ H) :
  ∃ W:Nat->Nat->St->az->Prop,(∃ m,W 0 m σ H) /\ ∀ i m σ H,W i m σ H ->
   ((vF b6 d).stop i H/\D.bu σ H)\/((vF b6 d).go i H /\ ∃ N:St->az->Prop,(∀ σ' H',N σ' H' -> ∃ cP,cP<m/\W (i+1) cP σ' H') /\ ∀ x H',(vF b6 d).jl i H x H'->g x σ H' λ σ2 au=>bz { D with bu:=N,cK:=N,aQ:=D.bu } σ2 au):=by
 refine #[λ i m σ H=>m=cp.length - i/\i<=cp.length/\Pv i σ H,#[cp.length,.zs,j0 _,h0],?_];rintro i m σ H ⟨rfl,ax,p⟩;have q:=av i σ H ax p;by_cases ea:i<cp.length
 ·refine .inr #[#[cp,q,ea],Pv (i+1),λ σ' H' iJ=>#[cp.length - (i+1),.aD,rfl,ea,iJ],λ x H' y=>?_];obtain ⟨e,y⟩:=y;subst e;obtain ⟨k,v,ah,rfl⟩:=y cp q;exact aB i k v σ _ ah p
 ·have e:i=cp.length:=by omega
  subst e;exact .inl #[#[cp,q,b9 _],hd σ H p]
end
end bM
namespace gu
section
variable {α β: Type} [DecidableEq α]
noncomputable def d2 (b:List (α × β)) (x : α):Option β := (b.find? λ p=>decide (p.1=x)).map (·.2)
noncomputable def ix (b:List (α × β)) (x : α) (e : β):List (α × β):=if (b.any λ p=>decide (p.1=x))=true then b.map (λ p=>if p.1=x then (p.1,e) else p) else b++[(x,e)]
noncomputable def iy (b:List (α × β)) (x : α):List (α × β):=b.filter λ p=>decide (p.1≠x)
noncomputable abbrev e1 (b:List (α × β)):List α := b.map (·.1)
theorem xb {p: α × β} {b:List (α × β)} {x: α}:d2 (p::b) x=if p.1=x then some p.2 else d2 b x:=by
 unfold d2;rw [uP];by_cases h:p.1=x
 ·rw [cc h,if_pos h];rfl
 ·rw [dN h,if_neg h]
theorem Ay {b:List (α × β)} {x: α}:d2 b x=none ↔ x∉e1 b:=by
 induction b with
 | nil=>exact #[λ _ h=>by simp at h,λ _=>rfl]
 | cons p b cQ =>
  rw [xb];by_cases h:p.1=x
  ·rw [if_pos h];simp [h]
  ·rw [if_neg h,cQ];simp only [e1,iZ,c1,not_or];exact #[λ z=>#[λ e=>h e.symm,z],λ z=>z.2]
theorem u3 {b:List (α × β)} {x: α} {e: β} (h:d2 b x=some e):(x,e)∈b:=by
 induction b with
 | nil=>cases h
 | cons p b cQ =>
  rw [xb] at h;by_cases aw:p.1=x
  ·rw [if_pos aw] at h;cases h;rw [<-aw];exact gS
  ·rw [if_neg aw] at h;exact ht _ (cQ h)
theorem DR {b:List (α × β)} (c6:(e1 b).Nodup) {x: α} {e: β} (h:(x,e)∈b):d2 b x=some e:=by
 induction b with
 | nil=>cases h
 | cons p b cQ =>
  rw [xb];have t9:=wH.mp c6;rcases c1.mp h with z | z
  ·subst z;rw [if_pos rfl]
  ·rw [if_neg (λ c2=>t9.1 (show p.1∈_ by rw [c2];exact pU (f:=(·.1)) z))];exact cQ t9.2 z
theorem any_keys {b:List (α × β)} {x: α}:(b.any λ p=>decide (p.1=x))=true ↔ x∈e1 b:=by
 rw [List.any_eq_true];constructor
 ·rintro ⟨p,aw,e⟩;rw [<-eT e];exact pU (f:=(·.1)) aw
 ·intro h;obtain ⟨p,aw,e⟩:=e3.mp h;exact #[p,aw,cc e]
theorem uR {b:List (α × β)} {x: α} {e: β} (h:x∈e1 b):ix b x e=b.map (λ p=>if p.1=x then (p.1,e) else p):=if_pos (any_keys.mpr h)
theorem tc {b:List (α × β)} {x: α} {e: β} (h:x∉e1 b):ix b x e=b++[(x,e)]:=if_neg λ z=>h (any_keys.mp z)
theorem keys_map {b:List (α × β)} {x: α} {e: β}:e1 (b.map (λ p=>if p.1=x then (p.1,e) else p))=e1 b:=by
 show List.map _ (List.map _ b)=_;rw [kr];refine wR λ p _=>?_
 show (if p.1=x then (p.1,e) else p).1=p.1;split<;>rfl
theorem J9 {b:List (α × β)} (c6:(e1 b).Nodup) (x : α) (e : β):(e1 (ix b x e)).Nodup:=by
 by_cases h:x∈e1 b
 ·rw [uR h,keys_map];exact c6
 ·rw [tc h];show (List.map _ (b++[(x,e)])).Nodup;rw [mP,List.nodup_append];refine #[c6,.zs,λ a ay c ak z=>?_];have:c=x:=by simpa using ak
  subst z;rw [this] at ay;exact h ay
theorem aif {b:List (α × β)} (c6:(e1 b).Nodup) (x : α):(e1 (iy b x)).Nodup:=c6.sublist (List.filter_sublist.map _)
theorem Sq {b:List (α × β)} {x: α} (h:x∉e1 b):iy b x=b:=List.filter_eq_self.mpr λ p aw=>cc λ z=>h (by rw [<-z];exact pU (f:=(·.1)) aw)
theorem D8 {b c:List (α × β)} (h:b.Perm c) (c6:(e1 b).Nodup) (x : α):d2 b x=d2 c x:=by
 have t9:(e1 c).Nodup:=(h.map _).nodup_iff.mp c6;cases e:d2 b x with
 | none =>
  have:=Ay.mp e;exact (Ay.mpr λ z=>this ((h.map (·.1)).mem_iff.mpr z)).symm
 | some v=>exact (DR t9 (h.mem_iff.mp (u3 e))).symm
theorem JP {b c:List (α × β)} (h:b.Perm c) (x : α) (e : β):(ix b x e).Perm (ix c x e):=by
 by_cases aj:x∈e1 b
 ·rw [uR aj,uR ((h.map (·.1)).mem_iff.mp aj)];exact h.map _
 ·rw [tc aj,tc λ z=>aj ((h.map (·.1)).mem_iff.mpr z)];exact h.append_right _
theorem SX {b c:List (α × β)} (h:b.Perm c) (x : α):(iy b x).Perm (iy c x):=h.filter _
theorem ae3 {b:List (α × β)} (c6:(e1 b).Nodup) {x: α} {e bX: β} (h:d2 b x=some bX):ix (ix b x e) x bX=b:=by
 have aj:x∈e1 b:=pU (f:=(·.1)) (u3 h);rw [uR aj,uR (by rw [keys_map];exact aj),kr]
 conv=>rhs;rw [<-List.map_id b]
 refine wR λ p aw=>?_
 by_cases yO:p.1=x
 ·have ah:=DR c6 (show (x,p.2)∈b by rw [<-yO];exact aw);rw [h] at ah;cases ah;show (if (if p.1=x then (p.1,e) else p).1=x then ((if p.1=x then (p.1,e) else p).1,p.2) else (if p.1=x then (p.1,e) else p))=p;rw [if_pos (show p.1=x from yO),if_pos (show (p.1,e).1=x from yO)]
 ·show (if (if p.1=x then (p.1,e) else p).1=x then ((if p.1=x then (p.1,e) else p).1,bX) else (if p.1=x then (p.1,e) else p))=p;rw [if_neg yO,if_neg yO]
theorem ae4 {b:List (α × β)} {x: α} {e: β} (h:d2 b x=none):iy (ix b x e) x=b:=by
 have aj:=Ay.mp h;rw [tc aj];unfold iy;rw [List.filter_append,List.filter_cons_of_neg .zs,List.filter_nil,wG];exact Sq aj
theorem afR {b:List (α × β)} (c6:(e1 b).Nodup) {x: α} {bX: β} (h:d2 b x=some bX):(ix (iy b x) x bX).Perm b:=by
 have aj:x∉e1 (iy b x):=λ z=>by
  obtain ⟨p,aw,e⟩:=e3.mp z;have:=(q4.mp aw).2;exact absurd e (eT this)
 rw [tc aj]
 induction b with
 | nil=>cases h
 | cons p b cQ =>
  have t9:=wH.mp c6;rw [xb] at h;by_cases aw:p.1=x
  ·rw [if_pos aw] at h;cases h;have aJ:x∉e1 b:=by rw [<-aw];exact t9.1
   have aM:iy (p::b) x=b:=by
    unfold iy;rw [List.filter_cons_of_neg (by simp [aw])];exact Sq aJ
   rw [aM];have aO:(x,p.2)=p:=by rw [<-aw]
   rw [aO];exact List.perm_append_singleton _ _
  ·rw [if_neg aw] at h;have aM:iy (p::b) x=p::iy b x:=by
    unfold iy;rw [List.filter_cons_of_pos (by exact cc aw)]
   rw [aM];exact (cQ t9.2 h (λ z=>by
    obtain ⟨q,aZ,e⟩:=e3.mp z;exact absurd e (eT (q4.mp aZ).2))).cons p
end
open PySem PySem.Spec PyProof.Rows
theorem ady {x y:Str} (h:fu x=fu y):x=y:=by
 cases x;cases y;congr 1;exact Array.toList_inj.mp h
theorem J_ : ∀ (l:bT) (p:Str),risingS p l=true -> ∀ y∈l,fu p<=fu y
 | [],_,_,_,h=>by cases h
 | x::r,p,h,y,aT=>by
  have h':(!ltCps x.cps.toList p.cps.toList&&risingS x r)=true:=h;rw [jA,Bool.not_eq_true',ltCps_eq,decide_eq_false_iff_not] at h';have ah:fu p<=fu x:=h'.1;rcases c1.mp aT with z | z
  ·rw [z];exact ah
  ·exact List.le_trans ah (J_ r x h'.2 y z)
theorem Tx {x:Str} {r:bT} (h:sortedS (x::r)=true):sortedS r=true:=by
 cases r with
 | nil=>rfl
 | cons y r =>
  have h':(!ltCps y.cps.toList x.cps.toList&&risingS y r)=true:=h;exact (sY.mp h').2
theorem Kg : ∀ {a b:bT},sortedS a=true->sortedS b=true->a.Perm b->a=b
 | [],b,_,_,h=>(List.Perm.nil_eq h)
 | x::r,[],_,_,h=>by have:=h.length_eq;simp at this
 | x::r,y::s,ay,ae,h=>by
  have e:x=y:=by
   apply ady;have ah:fu x<=fu y:=by
    rcases c1.mp (h.mem_iff.mpr (gS:y∈y::s)) with z | z
    ·rw [z];exact List.le_refl _
    ·exact J_ r x ay y z
   have ai:fu y<=fu x:=by
    rcases c1.mp (h.mem_iff.mp (gS:x∈x::r)) with z | z
    ·rw [z];exact List.le_refl _
    ·exact J_ s y ae x z
   exact List.le_antisymm ah ai
  subst e;rw [Kg (Tx ay) (Tx ae) h.cons_inv]
section
variable {α β: Type} [DecidableEq α]
noncomputable def uw (b:List (α × β)) (x : α):Option β -> List (α × β)
 | none=>iy b x
 | some e=>ix b x e
theorem S_ {b c:List (α × β)} (h:b.Perm c) (x : α) : ∀ w:Option β,(uw b x w).Perm (uw c x w)
 | none=>SX h x
 | some e=>JP h x e
theorem Ri {b c:List (α × β)} (c6:(e1 b).Nodup) {x: α} {e: β} (h:c.Perm (ix b x e)):(uw c x (d2 b x)).Perm b:=by
 refine (S_ h x _).trans ?_;cases av:d2 b x with
 | none =>
  show (iy (ix b x e) x).Perm b;rw [ae4 av]
 | some bX =>
  show (ix (ix b x e) x bX).Perm b;rw [ae3 c6 av]
theorem afm {b c:List (α × β)} (c6:(e1 b).Nodup) {x: α} {bX: β} (av:d2 b x=some bX) (h:c.Perm (iy b x)):(uw c x (d2 b x)).Perm b:=by
 rw [av];exact (S_ h x _).trans (afR c6 av)
end
end gu
namespace cJ
open PySem bM
structure tk (K:cD) (R:Addr->Prop) (m q:Str) (st:Stmt) (ag:bT) where
 f:Addr
 fd:FuncData
 fn:je K m q st f fd
 at_:R f
 bd:Binds K fd ag []
noncomputable abbrev dQ (K:cD) (mg:Str->c0) (x:Str) (st:Stmt) (ag:bT):=tk K (λ f=>mg x=some (.ref f)) x x st ag
noncomputable abbrev n4 (K:cD) (C:Addr) (m q:Str) (st:Stmt) (ag:bT):=tk K (Meth K C m) m q st ag
noncomputable abbrev MP (K:cD) (C:Addr) (q:Str) (st:Stmt) (ag:bT):=tk K (AW K C) "__init__" q st ag
noncomputable abbrev c8 (P:Program) (w:World) (mg:Str->c0) (base:Heap) (cH:ik) (k:Nat) {K:cD} {R:Addr->Prop} {m q:Str} {st:Stmt} {ag:bT} (D:tk K R m q st ag) (sp:b3):Prop:=eo P w K mg base cH k D.f D.fd ag sp
noncomputable abbrev ml (P:Program) (w:World) (mg:Str->c0) (base:Heap) (k:Nat) {K:cD} {R:Addr->Prop} {m q:Str} {st:Stmt} {ag:bT} (D:tk K R m q st ag) (sp:b3):Prop:=wq P w K mg base k D.f D.fd ag sp
theorem c5 {N P:bT} (h:cE N P sc:=by exact #[rfl,rfl,rfl,by decide +kernel,rfl,by decide +kernel,by decide +kernel]):cE N P sc:=h
section
variable {h:Heap} {x m q p p1 dm lB o4:Str} {st:Stmt} {ag:bT} {C F f:Addr}
noncomputable def rA (x q:Str) (st:Stmt) (ag:bT):Prop := ∀ (cX doc pm:Value) (an:Option Addr) (bg cK:Value) (us:List Value),us.length=ag.length->bindArgs (PySem.W.fnOf x q (mQ st) (jB st) (bZ st) .none cX doc pm an bg cK) ⟨us,[]⟩=pure (ag.zip us)
theorem len0 (h:us.length=0):us=[]:=List.length_eq_zero_iff.mp h
theorem pz (h:us.length=n+1) : ∃ u vs,us=u::vs/\vs.length=n:=by
 cases us with
 | nil=>cases h
 | cons u vs=>exact #[u,vs,rfl,Nat.succ.inj h]
theorem VX (h : ∀ (cX doc pm:Value) (an:Option Addr) (bg cK:Value),bindArgs (PySem.W.fnOf x q (mQ st) (jB st) (bZ st) .none cX doc pm an bg cK) ⟨[],[]⟩=pure []:=by intros;rfl):rA x q st []:=λ cX doc pm an bg cK us av=>by
 rw [len0 av];exact h cX doc pm an bg cK
theorem hX (h : ∀ (cX doc pm:Value) (an:Option Addr) (bg cK u:Value),bindArgs (PySem.W.fnOf x q (mQ st) (jB st) (bZ st) .none cX doc pm an bg cK) ⟨[u],[]⟩=pure [(p,u)]:=by intros;rfl):rA x q st [p]:=λ cX doc pm an bg cK us av=>by
 obtain ⟨gH,v0,rfl,h0⟩:=pz av;rw [len0 h0];exact h cX doc pm an bg cK gH
theorem iM (h : ∀ (cX doc pm:Value) (an:Option Addr) (bg cK u h6:Value),bindArgs (PySem.W.fnOf x q (mQ st) (jB st) (bZ st) .none cX doc pm an bg cK) ⟨[u,h6],[]⟩=pure [(p,u),(p1,h6)]:=by intros;rfl):rA x q st [p,p1]:=λ cX doc pm an bg cK us av=>by
 obtain ⟨gH,v0,rfl,h0⟩:=pz av;obtain ⟨iK,v1,rfl,ah⟩:=pz h0;rw [len0 ah];exact h cX doc pm an bg cK gH iK
theorem ka (h : ∀ (cX doc pm:Value) (an:Option Addr) (bg cK u h6 j_:Value),bindArgs (PySem.W.fnOf x q (mQ st) (jB st) (bZ st) .none cX doc pm an bg cK) ⟨[u,h6,j_],[]⟩=pure [(p,u),(p1,h6),(dm,j_)]:=by intros;rfl):rA x q st [p,p1,dm]:=λ cX doc pm an bg cK us av=>by
 obtain ⟨gH,v0,rfl,h0⟩:=pz av;obtain ⟨iK,v1,rfl,ah⟩:=pz h0;obtain ⟨hl,v2,rfl,ai⟩:=pz ah;rw [len0 ai];exact h cX doc pm an bg cK gH iK hl
theorem VY (h : ∀ (cX doc pm:Value) (an:Option Addr) (bg cK u h6 j_ me:Value),bindArgs (PySem.W.fnOf x q (mQ st) (jB st) (bZ st) .none cX doc pm an bg cK) ⟨[u,h6,j_,me],[]⟩=pure [(p,u),(p1,h6),(dm,j_),(lB,me)]:=by intros;rfl):rA x q st [p,p1,dm,lB]:=λ cX doc pm an bg cK us av=>by
 obtain ⟨gH,v0,rfl,h0⟩:=pz av;obtain ⟨iK,v1,rfl,ah⟩:=pz h0;obtain ⟨hl,v2,rfl,ai⟩:=pz ah;obtain ⟨m8,rU,rfl,aH⟩:=pz ai;rw [len0 aH];exact h cX doc pm an bg cK gH iK hl m8
noncomputable def dk (K:cD) (x:Str) (st:Stmt):Prop := ∃ f fd,PySem.W.nsIn K mainGlobals x=some (some (.ref f))/\je K x x st f fd
theorem dk.mk {b6:Option Addr} {cR:Array c0} {cX cK:Value} (a:PySem.W.nsIn K mainGlobals x=some (some (.ref f))) (l:K.lookup f=some ⟨f7,b6,.func (PySem.W.fnOf x x (mQ st) (jB st) (bZ st) .none cX doc pm an cd cK),cR⟩)
  (c:PySem.W.codeIn K cd x=true) (k:PySem.W.keepIn K (.ref f)=true):dk K x st:=#[f,_,a,Il l c k]
noncomputable def dk.dd (g:dk K x st) (X:K.In h) (G:h.Ns mainGlobals mg) (b:rA x x st ag):dQ K mg x st ag :=
 Classical.choice (let ⟨f,fd,a,F⟩:=g;⟨⟨f,fd,F,PySem.W.mg_of X G a,F.binds b⟩⟩)
noncomputable def iE (K:cD) (C:Addr) (m q:Str) (st:Stmt):Prop := ∃ f fd,PySem.W.findIn K (.ref C) m=some (some (.ref f))/\je K m q st f fd/\PySem.W.isFn K (.ref f)=true
theorem iE.mk {b6:Option Addr} {cR:Array c0} {cX cK:Value} (a:PySem.W.findIn K (.ref C) m=some (some (.ref f))) (l:K.lookup f=some ⟨f7,b6,.func (PySem.W.fnOf m q (mQ st) (jB st) (bZ st) .none cX doc pm an cd cK),cR⟩)
  (c:PySem.W.codeIn K cd q=true) (k:PySem.W.keepIn K (.ref f)=true) (i:PySem.W.isFn K (.ref f)=true):iE K C m q st:=#[f,_,a,Il l c k,i]
noncomputable def iE.o3 (g:iE K C m q st) (b:rA m q st ag):n4 K C m q st ag :=
 Classical.choice (let ⟨f,fd,a,F,i⟩:=g;⟨⟨f,fd,F,⟨a,i,F.bf⟩,F.binds b⟩⟩)
noncomputable def iE.Vr (g:iE K C "__init__" q st) (c:PySem.W.makesIn K C=true) (k:PySem.W.keepIn K (.ref C)=true) (b:rA "__init__" q st ag):MP K C q st ag :=
 Classical.choice (let ⟨f,fd,a,F,i⟩:=g;⟨⟨f,fd,F,⟨c,a,i,k⟩,F.binds b⟩⟩)
structure mZ (K:cD) (C F:Addr):Prop where
 e:PySem.W.excIn K C jJ "ValueError.__new__" = true
 u:PySem.W.mroIn K C (.ref F)=some true
 ne:C≠F
 hn:PySem.W.findIn K (.ref C) "__getattribute__" = some (some (.builtin "BaseException.__getattribute__"))
 Fm:PySem.W.findIn K (.ref C) "__getattr__" = some none
 Fn:PySem.W.findIn K (.ref C) "__class__" = some (some (.builtin "object.__class__"))
 VL:PySem.W.specialIn K (.builtin "object.__class__") "__get__" = some (some (.builtin "getset_descriptor.__get__"))
 VM:PySem.W.takesIn K (.builtin "object.__class__")=some true
 Bi:PySem.W.mroIn K C (.type "object")=some true
 VI:PySem.W.mroIn K C (.type "BaseException")=some true
 v:PySem.W.mroIn K C (.type "ValueError")=some true
theorem mZ.un (a:mZ K C F):Under K C F:=#[a.e,a.u,a.ne]
theorem mZ.fN (a:mZ K C F):PySem.W.kZ K C:=#[PySem.W.J3 a.Bi,a.hn,a.Fm,a.Fn,a.VL,a.VM,a.Bi,a.VI]
theorem mZ.xZ (a:mZ K C F):PySem.W.kitOne K (.ref C) (.type "ValueError")=some true:=PySem.W.QX a.v
structure cO (K:cD) (C D:Addr):Prop where
 m:PySem.W.mroIn K C (.ref D)=some false
 n:C≠D
 ty:PySem.W.typeIn K (.ref D)=some (.type "type")
 mo:PySem.W.mroIn K D (.type "object")=some true
theorem cO.k (a:cO K C D):PySem.W.kitOne K (.ref C) (.ref D)=some false:=PySem.W.af7 a.ty a.mo a.m a.n
noncomputable def KF (K:cD) (C D:Addr) (b:Bool):Prop:=PySem.W.kitOne K (.ref C) (.ref D)=some b
end
end cJ
namespace bM
open PySem PySem.Spec PyProof.Rows
section
variable {X:aP} {cH:ik} {k f3:Nat} {R:Addr->Prop} {m q:Str} {st:Stmt} {ag:bT} {sp:b3} {E:dA} {x:Str} {p pos:Pos} {e:Expr} {ar:List Expr} {t:dc}
theorem bR {D:cJ.tk X.K (λ f=>X.mg x=some (.ref f)) m q st ag} (F:eo X.prog X.w X.K X.mg X.base cH k D.f D.fd ag sp) (aq:er f3 X.A) (aj:Passes cH X E) (ay:fL X (e::ar) t) (aS:dW X x:=by rfl) (aG:k<=f3:=by decide) (eY:(x == ("__debug__" : Str))=false:=by decide) (he:starEach (e::ar) X.env=(false,eval e X.env)::starEach ar X.env:=by rfl) (dH:(backTo pos (starEach ar X.env)).any (·.1)=false:=by rfl):bO X (.Call (.Name x p) (e::ar) [] pos) (mK sp [] E t) :=
 adf F (aq.mono aG) aS D.at_ D.fn.bf D.bd .nil aj ay eY he dH
theorem Io {D:cJ.tk X.K (λ f=>X.mg x=some (.ref f)) m q st ag} (F:eo X.prog X.w X.K X.mg X.base cH k D.f D.fd ag sp) (aq:er f3 X.A) (aj:Passes cH X E) (aS:dW X x:=by rfl) (aG:k<=f3:=by decide) (eY:(x == ("__debug__" : Str))=false:=by decide):bO X (.Call (.Name x p) [] [] pos) (mK sp [] E dI) :=
 ae5 F (aq.mono aG) aS D.at_ D.fn.bf D.bd .nil aj eY
theorem bV {P:bT} {x:Str} {e:Expr} {bp:TE} {pos:Pos} (i:Nat) (S:cE X.N P sc) (he:bO X e bp) (ax:X.N[i]?=some x:=by rfl) (aj:Loc X.env.scope x:=by exact Or.inl rfl) (aB:swapsWith e (some (.Name x pos')) pos.line X.env=pure false:=by rfl) (hf:X.fn x=true\/X.env.scope.names.lookup x=some .local:=by first | exact .inl rfl | exact .inr rfl | assumption):h3 X (.Assign [.Name x pos'] e pos) (lQ bp (gx i)) :=
 Dd S.c6 ax aj he aB hf
theorem d7 {P:bT} {x:Str} {pos:Pos} (i:Nat) (S:cE X.N P sc) (ax:X.N[i]?=some x:=by rfl) (aj:Loc X.env.scope x:=by exact Or.inl rfl) (hf:X.fn x=true\/X.env.scope.names.lookup x=some .local:=by first | exact .inl rfl | exact .inr rfl | assumption):mY X (.Name x pos) (gx i) :=
 l0 S.c6 ax aj hf
theorem bQ {r:bl->az->bG->Prop} {id:String} (ak:gf X (.builtin id) r) (hm:X.mg x=none) (ba:bootBuiltins x=some (.builtin id)) (ay:fL X (e::ar) t) (aS:dW X x:=by rfl) (aF:x ≠ "__name__" := by decide) (eY:(x == ("__debug__" : Str))=false:=by decide) (he:starEach (e::ar) X.env=(false,eval e X.env)::starEach ar X.env:=by rfl) (dH:(backTo pos (starEach ar X.env)).any (·.1)=false:=by rfl):bO X (.Call (.Name x p) (e::ar) [] pos) (uc r t) :=
 ae6 ak aS hm ba ay aF eY he dH
theorem kp {r:bl->az->bG->Prop} {T:String} (ak:gf X (.type T) r) (hm:X.mg x=none) (ba:bootBuiltins x=some (.type T)) (ay:fL X (e::ar) t) (aS:dW X x:=by rfl) (aF:x ≠ "__name__" := by decide) (eY:(x == ("__debug__" : Str))=false:=by decide) (he:starEach (e::ar) X.env=(false,eval e X.env)::starEach ar X.env:=by rfl) (dH:(backTo pos (starEach ar X.env)).any (·.1)=false:=by rfl):bO X (.Call (.Name x p) (e::ar) [] pos) (uc r t) :=
 agx ak aS hm ba ay aF eY he dH
theorem g_ {x:Str} {pos:Pos} (dx:decide X.N.Nodup=true:=by kernel_rfl) (ax:X.N[0]?=some x:=by rfl) (aj:Loc X.env.scope x:=by exact Or.inl rfl) (hf:X.fn x=true\/X.env.scope.names.lookup x=some .local:=by exact Or.inr rfl):mY X (.Name x pos) (gx 0) :=
 l0 (eT dx) ax aj hf
theorem e8 {N rE P:bT} {kU:Scope} (_:cE rE P kU) (HE : ∀ p∈cl,X.env.cells.lookup p.1=some p.2) (aJ:X.env.scope=kU:=by exact rfl) (si:closureFor sc X.env=pure cl:=by exact rfl) (aG:cl.map (·.1)=HI sc:=by exact rfl) (yb:IT sc kU N rE js=true:=by decide +kernel) (dx:X.N=rE:=by exact rfl):sG X sc cl N js :=
 afK aJ si aG HE yb dx
end
theorem bo (h:Nat.ble n 16777216=true:=by rfl):n<=sizeLine:=by rw [ef];exact Nat.le_of_ble_eq_true h
open PySem PySem.Spec PyProof.Rows PyProof.Rows.KTD cJ
end bM
namespace gu
noncomputable def iV:Option Nat->Nat->Nat
 | none,x=>x
 | some T,x=>min T x
inductive fh (R:fq) (ag:aV) (m:Nat):Nat->Nat->aV->Prop
 | nil:fh R ag m 0 0 ag
 | go {st d k:Nat} {cur c:aV} {o:Option Nat} (h:fh R ag m st d cur) (hd:d<m) (aB:st<2000) (hf:dq R cur=some k) (ak:R[k]?=some c) (aJ:mm R cur c k o):fh R ag m (st+1) (d+iV o (m - d)) (cT cur c (iV o (m - d):Nat))
section
variable {R:fq} {ag cur pw c:aV} {m st eI d d' k:Nat} {o ey:Option Nat}
theorem Jv (h:mm R cur c k o) (h':mm R cur c k ey):o=ey:=by
 cases o with
 | some T=>exact (Rd h h').symm
 | none =>
  cases ey with
  | none=>rfl
  | some T=>exact Rd h' h
theorem adF (h:mm R cur c k o) (aF:n<=iV o n) : ∀ t:Nat,t<n->dq R (cT cur c t)=some k:=λ t aU=>by
 cases o with
 | none=>exact h t
 | some T =>
  have BM:n<=min T n:=aF;exact h.1 t .aD
theorem Al (h:mm R cur c k o) (aw:cur.length=10) (ak:c.length=10) (hf:dq R cur=some k) {x:Nat} (aj:0<x):1<=iV o x:=by
 cases o with
 | none=>exact aj
 | some T =>
  have:T≠0:=λ z=>by
   subst z;refine h.2 ?_;rw [show ((0:Nat):Int)=0 from rfl,Jh aw ak];exact hf
  show 1<=min T x;omega
theorem IQ (o:Option Nat) (x:Nat):iV o x<=x:=by
 cases o with
 | none=>exact b9 _
 | some T=>exact Nat.min_le_right _ _
theorem afH (o:Option Nat) (x:Nat):iV o x<=iV o (iV o x):=by
 cases o with
 | none=>exact b9 _
 | some T=>show min T x<=min T (min T x);omega
theorem fh.facts (dj:m_ R) (aw:ag.length=10) (aF:nn ag=true) (h:fh R ag m st d cur):st<=d/\d<=m/\st<=2000/\goN R d ag=some cur:=by
 induction h with
 | nil=>exact #[b9 _,j0 _,j0 _,rfl]
 | go h hd aB hf ak aJ cQ =>
  rename_i st d k cur c o;obtain ⟨gp,hQ,vp,l_⟩:=cQ;have ya:=(q7 dj aw aF l_).1;have Mp:=dj _ (dr ak);have p1:=Al aJ ya Mp hf (show 0<m - d by omega);have dm:=IQ o (m - d);exact #[.aD,.aD,.aD,aee l_ ak ya Mp (adF aJ (afH _ _))]
theorem fh.det (h:fh R ag m st d cur) : ∀ {d':Nat} {pw:aV},fh R ag m st d' pw->d=d'/\cur=pw:=by
 induction h with
 | nil =>
  intro d' pw h';cases h' with
  | nil=>exact #[rfl,rfl]
 | go h hd aB hf ak aJ cQ =>
  intro d' pw h';cases h' with
  | go g nS EP vm vl go' =>
   obtain ⟨rfl,rfl⟩:=cQ g;rw [hf] at vm;cases vm;rw [ak] at vl;cases vl;rw [Jv aJ go'];exact #[rfl,rfl]
theorem fh.pre (dj:m_ R) (aw:ag.length=10) (aF:nn ag=true) (h:fh R ag m st d cur) : ∀ eI,eI<=st -> ∃ d' cq,fh R ag m eI d' cq/\d'<=d/\(eI<st->d'<d/\d'<m/\dq R cq≠none):=by
 induction h with
 | nil =>
  intro eI h';obtain rfl:eI=0:=by omega
  exact #[0,ag,.nil,b9 _,λ z=>by omega]
 | go h hd aB hf ak aJ cQ =>
  rename_i st d k cur c o;intro eI h';obtain ⟨_,_,_,l_⟩:=h.facts dj aw aF;have p1:=Al aJ (q7 dj aw aF l_).1 (dj _ (dr ak)) hf (show 0<m - d by omega);by_cases e:eI=st+1
  ·subst e;exact #[_,_,.go h hd aB hf ak aJ,b9 _,λ z=>by omega]
  ·by_cases aO:eI=st
   ·subst aO;exact #[d,cur,h,.aD,λ _=>#[.aD,hd,by rw [hf];exact λ z=>nomatch z]]
   ·obtain ⟨d',cq,c_,dP,rL⟩:=cQ eI .aD;have:=rL .aD;exact #[d',cq,c_,.aD,λ _=>#[.aD,this.2]]
theorem fh.cut (dj:m_ R) (aw:ag.length=10) (aF:nn ag=true) (h:fh R ag m st d cur) (hd:d<m) (h':fh R ag m eI d' pw):eI<=st->fh R ag d eI d' pw:=by
 induction h' with
 | nil=>exact λ _=>.nil
 | go g nS EP vm vl go' cQ =>
  rename_i Ze fZ k1 alA gn qa;intro aB;have g':=cQ .aD;obtain ⟨iI,hD,c_,dP,_⟩:=h.pre dj aw aF (Ze+1) aB;obtain ⟨aM,aO⟩:=(fh.go g nS EP vm vl go').det c_;obtain ⟨_,_,_,l_⟩:=g.facts dj aw aF;have p1:=Al go' (q7 dj aw aF l_).1 (dj _ (dr vl)) vm (show 0<m - fZ by omega);have eg:iV qa (m - fZ)=iV qa (d - fZ):=by
   cases qa with
   | none =>
    have:fZ+(m - fZ)=iI:=aM;omega
   | some T =>
    have el:fZ+min T (m - fZ)=iI:=aM;show min T (m - fZ)=min T (d - fZ);omega
  rw [eg];exact .go g' .aD EP vm vl go'
theorem fh.again (dj:m_ R) (aw:ag.length=10) (aF:nn ag=true) (h:fh R ag m st d cur) (hd:d<m) (h':fh R ag d eI d' pw):(d'<d->dq R pw≠none/\eI<2000)/\(¬ d'<d->pw=cur):=by
 rcases Nat.lt_or_ge st eI with z | z
 ·obtain ⟨iI,hD,c_,dP,rL⟩:=h'.pre dj aw aF st .aD;have:=(h.cut dj aw aF hd h (b9 _)).det c_;have:=(rL z).2.1;omega
 ·obtain ⟨iI,hD,c_,dP,rL⟩:=h.pre dj aw aF eI z;obtain ⟨rfl,rfl⟩:=(h.cut dj aw aF hd c_ z).det h';have ai:=(h.facts dj aw aF).2.2.1;by_cases e:eI=st
  ·subst e;obtain ⟨aM,aO⟩:=h.det c_;exact #[λ y=>by omega,λ _=>aO.symm]
  ·obtain ⟨k1,k2,k3⟩:=rL .aD;exact #[λ _=>#[k3,.aD],λ y=>by omega]
noncomputable def sq (R:fq) (ag:aV) (m k:Nat) (cur:aV):Prop := ∃ st,fh R ag m st k cur/\(k=m\/dq R cur=none)
noncomputable def sr (R:fq) (ag:aV) (m:Nat):Prop := ∃ d cur,fh R ag m 2000 d cur/\d<m/\dq R cur≠none
theorem sr.gb (dj:m_ R) (aw:ag.length=10) (aF:nn ag=true) (h:sr R ag m):2000<m:=by
 obtain ⟨d,cur,ah,ai,_⟩:=h;have:=ah.facts dj aw aF;omega
theorem sq.facts (dj:m_ R) (aw:ag.length=10) (aF:nn ag=true) (h:sq R ag m k cur):k<=m/\goN R k ag=some cur/\(k=m\/dq R cur=none):=by
 obtain ⟨st,ah,ai⟩:=h;obtain ⟨_,hQ,_,l_⟩:=ah.facts dj aw aF;exact #[hQ,l_,ai]
structure HW (R:fq) (ag:aV) (S:Nat->aV) (gq:Nat->Nat):Prop where
 VZ:S 0=ag
 ok : ∀ j,(S j).length=10
 fst : ∀ j,dq R (S j)=some (gq j)
 ne : ∀ j,gq (j+1)≠gq j
 N3 : ∀ j c,R[gq j]?=some c->S (j+1)=cT (S j) c 1
theorem fh.unit {S:Nat->aV} {gq:Nat->Nat} (dj:m_ R) (U:HW R ag S gq) (h:fh R ag m st d cur):d=st/\cur=S st:=by
 induction h with
 | nil=>exact #[rfl,U.VZ.symm]
 | go h hd aB hf ak aJ cQ =>
  rename_i st d k cur c o;obtain ⟨rfl,rfl⟩:=cQ;have A4:=U.fst d;rw [hf] at A4;cases A4;have ah:mm R (S d) c (gq d) (some 1):=by
   refine #[λ t aU=>?_,?_]
   ·obtain rfl:t=0:=by omega
    rw [show ((0:Nat):Int)=0 from rfl,Jh (U.ok d) (dj _ (dr ak))];exact hf
   ·rw [show ((1:Nat):Int)=1 from rfl,<-U.N3 d c ak,U.fst (d+1)];intro z;exact U.ne d (gR z)
  obtain rfl:=Jv ah aJ;have aM:iV (some 1) (m - d)=1:=by show min 1 (m - d)=1;omega
  rw [aM];exact #[rfl,(U.N3 d c ak).symm]
theorem sq.unit {S:Nat->aV} {gq:Nat->Nat} (dj:m_ R) (aw:ag.length=10) (aF:nn ag=true) (U:HW R ag S gq) (h:sq R ag m k cur):k=m/\m<=2000/\cur=S m:=by
 obtain ⟨st,ah,ai⟩:=h;obtain ⟨aM,aO⟩:=ah.unit dj U;have:=(ah.facts dj aw aF).2.2.1;rcases ai with z | z
 ·subst z;exact #[rfl,.aD,by rw [aO,aM]]
 ·rw [aO,U.fst st] at z;cases z
theorem fh.OV (h0:dq R ag=some k) (ak:R[k]?=some c) (aB:mm R ag c k none) (h:fh R ag m st d cur):(st=0/\d=0/\cur=ag)\/(d=m/\cur=cT ag c (m:Nat)):=by
 induction h with
 | nil=>exact .inl #[rfl,rfl,rfl]
 | go h hd ak7 hf nf aJ cQ =>
  rcases cQ with ⟨rfl,rfl,rfl⟩ | ⟨z,_⟩
  ·rw [h0] at hf;cases hf;rw [ak] at nf;cases nf;obtain rfl:=Jv aB aJ;refine .inr #[?_,?_]
   ·show 0+(m - 0)=m;omega
   ·show cT _ _ ((m - 0:Nat):Int)=_;rw [Nat.sub_zero]
  ·omega
end
open cJ
noncomputable def iR:aV:=[1,0,0,0,0,0,0,0,0,0]
noncomputable def pA:aV:=[0,1,0,0,0,0,0,0,0,0]
noncomputable def qT:aV:=[0,0,0,0,0,0,0,0,0,0]
noncomputable def wu:f_:=[(3,2),(2,3)]
theorem afk:rowsOf wu=[[-1,1,0,0,0,0,0,0,0,0],[1,-1,0,0,0,0,0,0,0,0]]:=by decide +kernel
theorem R1:HW (rowsOf wu) iR (λ j=>if j % 2=0 then iR else pA) (λ j=>j % 2):=by
 rw [afk];refine #[rfl,λ j=>?_,λ j=>?_,λ j=>?_,λ j c ak=>?_]
 ·show (if j % 2=0 then iR else pA).length=10;split<;>rfl
 ·show dq _ (if j % 2=0 then iR else pA)=some (j % 2);rcases Nat.mod_two_eq_zero_or_one j with z | z
  ·rw [z,if_pos rfl];decide
  ·rw [z,if_neg .aA];decide
 ·show (j+1) % 2≠j % 2;omega
 ·show (if (j+1) % 2=0 then iR else pA)=cT (if j % 2=0 then iR else pA) c 1;rcases Nat.mod_two_eq_zero_or_one j with z | z
  ·rw [show j % 2=0 from z] at ak;cases ak;rw [if_neg .aD,if_pos z];decide
  ·rw [show j % 2=1 from z] at ak;cases ak;rw [if_pos .aD,if_neg .aD];decide
noncomputable def q6:f_:=[(2,1)]
theorem JE:rowsOf q6=[iR]:=by decide +kernel
theorem Ry (m:Int):cT qT iR m=[m,0,0,0,0,0,0,0,0,0]:=by
 simp [cT,qT,iR]
theorem QR:mm (rowsOf q6) qT iR 0 none:=λ t=>by
 rw [JE,Ry];have h:e0 iR [(t:Int),0,0,0,0,0,0,0,0,0]=true:=by
  simp [e0,iR];omega
 show (if e0 iR _=true then some 0 else _)=some 0;rw [if_pos h]
theorem Je:dq (rowsOf q6) qT=some 0:=by rw [JE];decide
theorem QQ:(rowsOf q6)[0]?=some iR:=by rw [JE];rfl
theorem afS {m j:Nat} {r:aV} (h:sq (rowsOf q6) qT m j r) (hm:0<m):j=m/\r=[(m:Int),0,0,0,0,0,0,0,0,0]:=by
 obtain ⟨st,L,o⟩:=h;rcases L.OV Je QQ QR with ⟨_,aM,aO⟩ | ⟨aM,aO⟩
 ·rcases o with z | z
  ·omega
  ·rw [aO,Je] at z;cases z
 ·exact #[aM,by rw [aO,Ry]]
theorem afT {m:Nat} (h:sr (rowsOf q6) qT m):False:=by
 obtain ⟨d,cur,L,ah,_⟩:=h;rcases L.OV Je QQ QR with ⟨aM,_,_⟩ | ⟨aM,aO⟩
 ·cases aM
 ·omega
end gu
namespace cJ
open PySem bM gu rF
noncomputable def top (i:Nat):Stmt:=PySem.Challenge.pw_wholefract_k92_benches_at_their_bounds.main.body.getD i (.Pass #[0,0,0,0])
noncomputable abbrev Kb:Stmt:=top 18
noncomputable abbrev Ko:Stmt:=top 19
noncomputable abbrev Ku:Stmt:=top 20
noncomputable abbrev Kn:Stmt:=top 21
noncomputable abbrev LD:Stmt:=top 22
noncomputable abbrev KN:Stmt:=top 23
noncomputable abbrev KY:Stmt:=top 24
noncomputable abbrev JT:Stmt:=top 25
noncomputable abbrev KL:Stmt:=top 28
noncomputable abbrev L5:Stmt:=top 29
noncomputable abbrev Iq:Stmt:=top 30
noncomputable abbrev Ka:Stmt:=top 31
noncomputable abbrev I5:Stmt:=top 32
noncomputable abbrev Ln:Stmt:=top 33
noncomputable abbrev Lm:Stmt:=top 34
noncomputable abbrev La:Stmt:=top 35
noncomputable abbrev Ir:Stmt:=top 36
noncomputable abbrev JS:Stmt:=top 43
noncomputable abbrev JR:Stmt:=top 44
noncomputable abbrev Kp:Stmt:=top 46
noncomputable abbrev I3:Stmt:=top 47
noncomputable abbrev Jr:Stmt:=top 48
noncomputable abbrev JU:Stmt:=top 49
noncomputable abbrev Kc:Stmt:=top 50
noncomputable abbrev Kd:Stmt:=top 51
noncomputable abbrev Kr:Stmt:=top 52
noncomputable abbrev KP:Stmt:=top 53
noncomputable abbrev Ks:Stmt:=top 54
noncomputable abbrev LB:Stmt:=top 55
noncomputable abbrev Jo:Stmt:=top 56
noncomputable abbrev Jn:Stmt:=top 57
noncomputable abbrev JV:Stmt:=top 58
noncomputable abbrev JW:Stmt:=top 59
noncomputable abbrev Jq:Stmt:=top 60
noncomputable abbrev KO:Stmt:=top 61
noncomputable abbrev I4:Stmt:=top 62
noncomputable abbrev LC:Stmt:=top 63
noncomputable abbrev K_:Stmt:=top 64
noncomputable abbrev KZ:Stmt:=top 65
noncomputable abbrev Kq:Stmt:=top 66
noncomputable abbrev K9:Stmt:=top 67
noncomputable abbrev K8:Stmt:=top 68
noncomputable abbrev Ll:Stmt:=top 69
noncomputable abbrev Kt:Stmt:=top 70
noncomputable abbrev Jp:Stmt:=top 71
noncomputable abbrev K0:Stmt:=top 72
noncomputable abbrev Ke:Stmt:=top 73
noncomputable abbrev H9:Stmt:=top 74
noncomputable def ny (s:Stmt) (j:Nat):Stmt:=match s with | .ClassDef _ _ _ b _ _ _ _ _ _ _=>b.getD j (.Pass #[0,0,0,0]) | s=>s
noncomputable abbrev xn:Stmt:=ny (top 2) 0
theorem ajA:cE ["self", "steps"] ["self", "steps"] (bZ xn):=c5
noncomputable abbrev KI:Stmt:=ny (top 42) 0
noncomputable abbrev Kl:Stmt:=ny (top 42) 1
noncomputable abbrev Km:Stmt:=ny (top 42) 2
noncomputable abbrev KD:Stmt:=ny (top 42) 3
noncomputable abbrev KJ:Stmt:=ny (top 42) 4
noncomputable abbrev KX:Stmt:=ny (top 42) 5
noncomputable abbrev K7:Stmt:=ny (top 42) 6
noncomputable abbrev KG:Stmt:=ny (top 42) 7
noncomputable abbrev Lk:Stmt:=ny (top 42) 8
noncomputable abbrev KC:Stmt:=ny (top 42) 9
noncomputable abbrev KH:Stmt:=ny (top 42) 10
theorem ais:cE ["thing"] ["thing"] (bZ Kb):=c5
theorem TV:cE ["thing"] ["thing"] (bZ Ko):=c5
theorem TZ:cE ["number"] ["number"] (bZ Ku):=c5
theorem AE:cE ["prime", "number", "times", "rest"] ["prime", "number"] (bZ Kn):=c5
theorem Eo:cE ["number", "rest", "prime"] ["number"] (bZ LD):=c5
theorem Uj:cE ["thing"] ["thing"] (bZ KN):=c5
theorem Ek:cE ["thing", "top", "bottom"] ["thing"] (bZ KY):=c5
theorem ahX:cE ["thing"] ["thing"] (bZ JT):=c5
theorem Ui:cE ["program"] ["program"] (bZ KL):=c5
theorem Ep:cE ["fraction", "tops", "bottoms"] ["fraction"] (bZ L5):=c5
theorem I6:cE ["changes", "powers", "change", "power"] ["changes", "powers"] (bZ Iq):=c5
theorem Kv:cE ["rows", "powers", "number", "changes"] ["rows", "powers"] (bZ Ka):=c5
theorem RQ:cE ["powers", "changes", "many"] ["powers", "changes", "many"] (bZ I5):=c5
theorem AM:cE ["rows", "powers", "number", "used", "ends"] ["rows", "powers", "number"] (bZ Ln):=c5
theorem UE:cE ["powers", "used"] ["powers", "used"] (bZ Lm):=c5
theorem vb:cE ["powers", "used", "ahead", "many", "power", "change", "change_ahead", "lacking"] ["powers", "used", "ahead"] (bZ La):=c5
theorem hZ:cE ["program", "powers", "many", "rows", "reached", "done", "stretches", "number", "steps"] ["program", "powers", "many"] (bZ Ir):=c5
theorem S6:cE ["thing"] ["thing"] (bZ JS):=c5
theorem S5:cE ["program", "powers", "many", "rest"] ["program", "powers", "many"] (bZ JR):=c5
theorem aiT:cE ["script", "k"] ["script", "k"] (bZ Kp):=c5
theorem w5:cE ["cell", "number", "j", "more"] ["cell"] (bZ I3):=c5
theorem SI:cE ["pot", "far", "found"] ["pot", "far"] (bZ Jr):=c5
theorem Kf:cE ["pot", "wide", "found", "k"] ["pot", "wide"] (bZ JU):=c5
theorem Tv:cE ["pot", "wide"] ["pot"] (bZ Kc):=c5
theorem ait:cE [] [] (bZ Kd):=c5
theorem nO:cE ["line", "found", "prime", "often", "turn"] ["line"] (bZ Kr):=c5
theorem p0:cE ["pot", "places", "found", "turn", "place", "top", "bottom"] ["pot", "places"] (bZ KP):=c5
theorem TX:cE ["pot", "places", "most"] ["pot", "places", "most"] (bZ Ks):=c5
theorem mV:cE ["pot", "places", "most", "found", "some", "k", "sides", "turn", "line", "lap", "less", "top"] ["pot", "places", "most"] (bZ LB):=c5
theorem JX:cE ["pot", "places", "most", "found", "place"] ["pot", "places", "most"] (bZ Jo):=c5
theorem w6:cE ["number", "found", "prime", "often"] ["number"] (bZ Jn):=c5
theorem xd:cE ["program", "found", "top", "bottom", "want"] ["program"] (bZ JV):=c5
theorem ahY:cE ["found"] ["found"] (bZ JW):=c5
theorem w7:cE ["found", "due"] ["found", "due"] (bZ Jq):=c5
theorem AG:cE ["table", "line", "number", "want", "more"] ["table", "line"] (bZ KO):=c5
theorem RP:cE ["table", "line", "number", "often"] ["table", "line", "number", "often"] (bZ I4):=c5
theorem AN:cE ["table", "line", "many", "rows", "used", "number"] ["table", "line", "many"] (bZ LC):=c5
theorem Ux:cE ["thing"] ["thing"] (bZ K_):=c5
theorem nP:cE ["table", "rows", "deed", "way", "name", "thing", "right", "later", "line", "steps", "some", "used"] ["table", "rows", "deed"] (bZ KZ):=c5
theorem xk:cE ["e", "some", "words"] ["e"] (bZ Kq):=c5
theorem AL:cE ["bench", "deed", "way", "name", "thing", "e"] ["bench", "deed"] (bZ K9):=c5
theorem p3:cE ["pot", "places", "rows", "way", "odd", "name", "some", "line"] ["pot", "places", "rows"] (bZ K8):=c5
theorem LF:cE ["bench", "rows", "names", "name"] ["bench", "rows"] (bZ Ll):=c5
theorem TY:cE ["bench", "way", "thing", "e"] ["bench", "way", "thing"] (bZ Kt):=c5
theorem SH:cE ["thing", "e"] ["thing"] (bZ Jp):=c5
theorem AJ:cE ["pot", "far", "bench", "many"] ["pot"] (bZ K0):=c5
theorem aiu:cE ["bench", "kept"] ["bench", "kept"] (bZ Ke):=c5
theorem jz:cE ["script", "pot", "places", "program", "bench", "kept", "deeds", "k", "odd", "deed", "name", "due", "later", "thing"] ["script"] (bZ H9):=c5
theorem Ug:cE ["self", "program"] ["self", "program"] (bZ KI):=c5
theorem aiS:cE ["self", "name", "powers"] ["self", "name", "powers"] (bZ Kl):=c5
theorem KQ:cE ["self", "name", "many", "begin", "end"] ["self", "name", "many"] (bZ Km):=c5
theorem ajh:cE ["self", "name"] ["self", "name"] (bZ KD):=c5
theorem Uh:cE ["self", "deed"] ["self"] (bZ KJ):=c5
theorem ajz:cE ["self"] ["self"] (bZ KX):=c5
theorem ajJ:cE ["self", "name"] ["self", "name"] (bZ K7):=c5
theorem aji:cE ["self", "name"] ["self", "name"] (bZ KG):=c5
theorem ajR:cE ["self", "name"] ["self", "name"] (bZ Lk):=c5
theorem ajg:cE ["self", "name", "what"] ["self", "name", "what"] (bZ KC):=c5
theorem ajj:cE ["self", "name", "what"] ["self", "name", "what"] (bZ KH):=c5
set_option genInjectivity false in
set_option genSizeOf false in
structure bB (K:W.Frag) (mg:Str->c0) where
 w_:dQ K mg "is_whole" Kb ["thing"]
 Tb:dQ K mg "is_powers" Ko ["thing"]
 th:dQ K mg "powers_of" Ku ["number"]
 AD:dQ K mg "how_often" Kn ["prime", "number"]
 xr:dQ K mg "without_primes" LD ["number"]
 TF:dQ K mg "is_program" KN ["thing"]
 T4:dQ K mg "is_fraction" KY ["thing"]
 R6:dQ K mg "is_term" JT ["thing"]
 xj:dQ K mg "changes_of" KL ["program"]
 AO:dQ K mg "fraction_changes" L5 ["fraction"]
 sH:dQ K mg "fits" Iq ["changes", "powers"]
 w9:dQ K mg "first_of" Ka ["rows", "powers"]
 ri:dQ K mg "moved" I5 ["powers", "changes", "many"]
 xo:dQ K mg "stretch_steps" Ln ["rows", "powers", "number"]
 AK:dQ K mg "steps_to_lack" Lm ["powers", "used"]
 AI:dQ K mg "steps_to_fit" La ["powers", "used", "ahead"]
 pI:dQ K mg "leap" Ir ["program", "powers", "many"]
 R5:dQ K mg "is_name" JS ["thing"]
 R4:dQ K mg "gone_on" JR ["program", "powers", "many"]
 Tc:dQ K mg "_law_cell_at" Kp ["script", "k"]
 QC:dQ K mg "_law_pot" I3 ["cell"]
 Ja:dQ K mg "_law_take" Jr ["pot", "far"]
 R7:dQ K mg "_law_order" JU ["pot", "wide"]
 SS:dQ K mg "_law_places" Kc ["pot"]
 SU:dQ K mg "_law_primes" Kd []
 Ed:dQ K mg "_law_product" Kr ["line"]
 TH:dQ K mg "_law_fraction" KP ["pot", "places"]
 Td:dQ K mg "_law_program" Ks ["pot", "places", "most"]
 Uy:dQ K mg "_law_calm_program" LB ["pot", "places", "most"]
 Rm:dQ K mg "_law_line" Jo ["pot", "places", "most"]
 Rl:dQ K mg "_law_exps" Jn ["number"]
 R8:dQ K mg "_law_table" JV ["program"]
 R9:dQ K mg "_law_whole" JW ["found"]
 rm:dQ K mg "_law_same" Jq ["found", "due"]
 TG:dQ K mg "_law_first_of" KO ["table", "line"]
 QD:dQ K mg "_law_put" I4 ["table", "line", "number", "often"]
 Uz:dQ K mg "_law_gone_through" LC ["table", "line", "many"]
 Un:dQ K mg "_law_line_right" K_ ["thing"]
 T5:dQ K mg "_law_bench_due" KZ ["table", "rows", "deed"]
 nL:dQ K mg "_law_kind_of" Kq ["e"]
 Um:dQ K mg "_law_bench_told" K9 ["bench", "deed"]
 Ul:dQ K mg "_law_bench_deed" K8 ["pot", "places", "rows"]
 Us:dQ K mg "_law_bench_right" Ll ["bench", "rows"]
 Te:dQ K mg "_law_refused" Kt ["bench", "way", "thing"]
 Rn:dQ K mg "_law_made" Jp ["thing"]
 T6:dQ K mg "_law_far_right" K0 ["pot"]
 SV:dQ K mg "_law_undone" Ke ["bench", "kept"]
 oT:Addr
 alU:mg "FractError" = some (.ref oT)
 fw:Addr
 aeh:mg "AtRest" = some (.ref fw)
 rn:Addr
 aek:mg "NoText" = some (.ref rn)
 rx:Addr
 ahy:mg "NoNumber" = some (.ref rx)
 fx:Addr
 af0:mg "TooMany" = some (.ref fx)
 rt:Addr
 afY:mg "NoOrder" = some (.ref rt)
 gD:Addr
 aii:mg "NoProgram" = some (.ref gD)
 ro:Addr
 ael:mg "Shared" = some (.ref ro)
 gk:Addr
 ahz:mg "NoPowers" = some (.ref gk)
 ru:Addr
 afZ:mg "NoTrail" = some (.ref ru)
 ff:Addr
 aej:mg "NoName" = some (.ref ff)
 gj:Addr
 aei:mg "NoDeed" = some (.ref gj)
 rj:Addr
 acA:mg "NoRow" = some (.ref rj)
 gV:Addr
 DF:mg "Bench" = some (.ref gV)
 Kw:mz K mg "FractError" oT
 R_:mz K mg "TooMany" fx
 ah_:mz K mg "NoProgram" gD
 ahe:mz K mg "NoPowers" gk
 Ro:mz K mg "NoName" ff
 adQ:mz K mg "NoDeed" gj
 afv:Under K fx oT
 afx:W.kZ K fx
 afw:W.kitOne K (.ref fx) (.type "ValueError")=some true
 En:KF K fx fw false
 Lz:KF K fx rn false
 L3:KF K fx rx false
 ajY:KF K fx fx true
 LQ:KF K fx rt false
 L_:KF K fx gD false
 LA:KF K fx ro false
 L4:KF K fx gk false
 LR:KF K fx ru false
 Ly:KF K fx ff false
 Lx:KF K fx gj false
 Lj:KF K fx rj false
 aia:Under K gD oT
 aic:W.kZ K gD
 aib:W.kitOne K (.ref gD) (.type "ValueError")=some true
 LY:KF K gD fw false
 L1:KF K gD rn false
 Mb:KF K gD rx false
 L9:KF K gD fx false
 L7:KF K gD rt false
 aj4:KF K gD gD true
 L2:KF K gD ro false
 Mc:KF K gD gk false
 L8:KF K gD ru false
 L0:KF K gD ff false
 LZ:KF K gD gj false
 LP:KF K gD rj false
 adS:Under K ff oT
 adW:W.kZ K ff
 adU:W.kitOne K (.ref ff) (.type "ValueError")=some true
 Lf:KF K ff fw false
 Lh:KF K ff rn false
 LI:KF K ff rx false
 Lv:KF K ff fx false
 Ls:KF K ff rt false
 LU:KF K ff gD false
 Li:KF K ff ro false
 LJ:KF K ff gk false
 Lu:KF K ff ru false
 ajI:KF K ff ff true
 Lg:KF K ff gj false
 K5:KF K ff rj false
 ahf:Under K gk oT
 ahh:W.kZ K gk
 ahg:W.kitOne K (.ref gk) (.type "ValueError")=some true
 LK:KF K gk fw false
 LN:KF K gk rn false
 L6:KF K gk rx false
 LX:KF K gk fx false
 LV:KF K gk rt false
 Ma:KF K gk gD false
 LO:KF K gk ro false
 aj1:KF K gk gk true
 LW:KF K gk ru false
 LM:KF K gk ff false
 LL:KF K gk gj false
 Lw:KF K gk rj false
 adR:Under K gj oT
 adV:W.kZ K gj
 adT:W.kitOne K (.ref gj) (.type "ValueError")=some true
 Lb:KF K gj fw false
 Ld:KF K gj rn false
 LG:KF K gj rx false
 Lr:KF K gj fx false
 Lp:KF K gj rt false
 LS:KF K gj gD false
 Le:KF K gj ro false
 LH:KF K gj gk false
 Lq:KF K gj ru false
 Lc:KF K gj ff false
 ajH:KF K gj gj true
 K4:KF K gj rj false
 KS:Addr
 K2:FuncData
 oP:p5 K mg "AtRest" fw oT KS
 Am:je K "__init__" "AtRest.__init__" xn KS K2
 adP:Binds K K2 ["self", "steps"] []
 alT:abl K fw oT
 JB:W.findIn K (.ref fw) "steps" = some none
 alS:W.kitOne K (.ref fw) (.type "ValueError")=some true
 alV:KF K fw fw true
 Uv:KF K fw rn false
 UJ:KF K fw rx false
 UD:KF K fw fx false
 UB:KF K fw rt false
 UO:KF K fw gD false
 Uw:KF K fw ro false
 UK:KF K fw gk false
 UC:KF K fw ru false
 Uu:KF K fw ff false
 Ut:KF K fw gj false
 Uq:KF K fw rj false
 d8:kL K gV
 Eh:q5 K gV "deeds"
 ry:q5 K gV "held"
 Ur:q5 K gV "program"
 nN:MP K gV "Bench.__init__" KI ["self", "program"]
 tg:n4 K gV "put" "Bench.put" Kl ["self", "name", "powers"]
 xe:n4 K gV "run" "Bench.run" Km ["self", "name", "many"]
 xg:n4 K gV "drop" "Bench.drop" KD ["self", "name"]
 xi:n4 K gV "undo" "Bench.undo" KJ ["self"]
 xl:n4 K gV "names" "Bench.names" KX ["self"]
 l2:n4 K gV "powers" "Bench.powers" K7 ["self", "name"]
 pZ:n4 K gV "gone" "Bench.gone" KG ["self", "name"]
 p2:n4 K gV "held_by" "Bench.held_by" Lk ["self", "name"]
 ti:n4 K gV "done" "Bench.done" KC ["self", "name", "what"]
 xh:n4 K gV "hold" "Bench.hold" KH ["self", "name", "what"]
 gh:mg "len" = none
 dz:mg "isinstance" = none
 zU:mg "int" = none
 sJ:mg "bool" = none
 hM:mg "tuple" = none
 uJ:mg "list" = none
 mR:mg "range" = none
 wz:mg "max" = none
 zV:mg "min" = none
 qY:mg "all" = none
 ko:mg "zip" = none
 pD:mg "str" = none
 DS:mg "sorted" = none
 Tp:mg "enumerate" = none
 abB:mg "dict" = none
 aiN:mg "ValueError" = none
 pW:Addr
 w2:mg "PRIMES" = some (.ref pW)
 u2 : ∀ H,a0 K H pW [.int 2,.int 3,.int 5,.int 7,.int 11,.int 13,.int 17,.int 19,.int 23,.int 29]
 Lo : ∃ t,mg "MOST_FRACTIONS" = some (.int 16 t)
 Kj : ∃ t,mg "MOST_TERM" = some (.int 1000000000000 t)
 El : ∃ t,mg "MOST_STRETCHES" = some (.int 2000 t)
 Kz : ∃ t,mg "MOST_POWER" = some (.int 1000000 t)
 JG : ∃ t,mg "LETTERS" = some (.str "abcdefghijklmnopqrstuvwxyz" t)
 K3 : ∃ t,mg "MOST_LETTERS" = some (.int 8 t)
 Ky : ∃ t,mg "MOST_NAMES" = some (.int 12 t)
section
variable {w:World}
noncomputable def agM:b3:=λ vs H Q _ => ∃ (a:Addr) (n gb:Int),vs=[.ref a,.int gb]/\H a=some (.lst [.int n])/\0<gb/\gb<1073741824/\Q (.int (n % gb)) (upd H a (.lst [.int (n / gb)]))
theorem rv (T:bB K mg):c8 P w mg base cS 1 T.Ja agM:=by
 refine T.Ja.fn.en SI (λ vs H Q E h=>?_) (λ bg A outer s H vs Q E aq h=>?_)
 ·obtain ⟨a,n,gb,rfl,_⟩:=h;rfl
 ·obtain ⟨a,n,gb,rfl,ay,h0,ah,q⟩:=h;refine #[_,(aN (bV 2 SI (bU q8 (dt fE (af 0) aI (λ _ _=>rfl)) (af 1)))
   (aN (pN (bU w0 (dt fE (af 0) aI (λ _ _=>rfl)) (af 1)) (Ab (af 0) aI set_list))
   (aR (bE (af 2))))),?_]
  refine #[_,rfl,a,_,_,_,rfl,rfl,a9.of ay,rfl,_,rfl,_,_,rfl,rfl,h0,?_];refine #[_,rfl,a,_,_,_,rfl,rfl,a9.of ay,rfl,_,rfl,_,_,rfl,rfl,#[h0,ah],_,rfl,a,_,_,0,rfl,rfl,ay,rfl,?_];exact #[_,rfl,q]
noncomputable def aiX (K:cD):b3:=λ vs H Q _ => ∃ (a:Addr) (ns:aV) (k:Int),vs=[.ref a,.int k]/\a9 K H a (ns.map V.int)/\0<=k /\ ∀ c:Int,Q (.int c) H
theorem TS (T:bB K mg):c8 P w mg base cS 1 T.Tc (aiX K):=by
 refine T.Tc.fn.en aiT (λ vs H Q E h=>?_) (λ bg A outer s H vs Q E aq h=>?_)
 ·obtain ⟨a,ns,k,rfl,_⟩:=h;rfl
 ·obtain ⟨a,ns,k,rfl,dT,h0,q⟩:=h;refine #[_,(aN (cN (ct nz (af 1) (bQ h1 T.gh gg (aa (af 0) ao)) (bS _))
    (aR (bE (dt fE (af 0) (af 1) (λ _ _=>rfl))))
    cB)
   (aR (bE aI))),?_]
  refine #[_,rfl,_,rfl,a,_,rfl,.inl dT,_,_,rfl,rfl,_,rfl,?_];refine eJ (λ ea=>?_) (λ _=>q 0);have ZS:k<((ns.map V.int).length:Int):=by simpa using ea
  rw [bY] at ZS;have aG:k.toNat<ns.length:=by omega
  have e:(ns.map V.int)[k.toNat]?=some (V.int ns[k.toNat]):=by rw [fK,fT aG];rfl
  exact #[_,rfl,_,rfl,a,_,_,_,rfl,rfl,dT,lY h0 e,q _]
noncomputable def afe:b3:=λ vs H Q _ => ∃ c:Int,vs=[.int c] /\ ∀ (n:Int) (p:Addr),H p=none->Q (.ref p) (upd H p (.lst [.int n]))
theorem RJ (T:bB K mg):c8 P w mg base cS 1 T.QC afe:=by
 refine T.QC.fn.en w5 (λ vs H Q E h=>?_) (λ bg A outer s H vs Q E aq h=>?_)
 ·obtain ⟨c,rfl,_⟩:=h;rfl
 ·obtain ⟨c,rfl,q⟩:=h;refine #[_,(aN (cN (ct H4 (af 0) (bU uK aI aI) (bS _))
    (aR (bE (Aa (aa (bU kq (af 0) (bU uK aI aI)) ao))))
    cB)
   (aN (bV 1 w5 aI)
   (aN (hu fU rfl (oR rfl T.mR (aa aI ao)) (d7 2 w5)
    (aN (bV 3 w5 (bU q8 (bU q9 (bU gL (bU gL (bU q8 (af 0) aI) (bU q9 aI (af 2))) aI) aI) aI))
   (aN (bV 3 w5 (bU q8 (bU gL (bU gL (bU q9 (af 3) (af 3)) (bU q9 aI (af 2))) aI) aI))
   (aR (bV 1 w5 (bU gL (bU q9 (af 1) aI) (af 3)))))))
   (aR (bE (Aa (aa (af 1) ao))))))),?_]
  refine #[_,rfl,_,_,rfl,rfl,#[.aA,.aA,.aA],_,_,rfl,rfl,_,rfl,?_];refine eJ (λ _=>?_) (λ _=>?_)
  ·refine #[_,rfl,_,_,rfl,rfl,#[.aA,.aA,.aA],_,_,rfl,rfl,bo,λ p aw=>?_];exact q _ p aw
  ·refine #[64,rfl,.aA,.aA,oQ (n:=64) (λ i σ au => ∃ (n:Int) (u v:dG),σ=[some (.int c),some (.int n),u,v]/\au=H) #[0,none,none,rfl,rfl] ?_ ?_]
   ·rintro i σ au ax ⟨n,u,v,rfl,rfl⟩;refine #[_,rfl,_,_,rfl,rfl,(by show (0:Int)<2147483629;decide),_,rfl,_,_,rfl,rfl,.inl #[.aA,.aA],_,_,rfl,rfl,_,_,rfl,rfl,_,_,rfl,rfl,.inr #[.aA,.aA],_,_,rfl,rfl,(by show (0:Int)<2147483647;decide),?_];refine #[_,rfl,_,rfl,_,_,rfl,rfl,.inl ?_,_,rfl,_,_,rfl,rfl,.inl #[.aA,.aA],_,_,rfl,rfl,_,_,rfl,rfl,_,_,rfl,rfl,(by show (0:Int)<2147483587;decide),?_]
    ·have ah:=sZ ((c % 2147483629+7919 * (0+(i:Int))+1) * 48271) (show (2147483647:Int)≠0 by decide);have ai:=s6 ((c % 2147483629+7919 * (0+(i:Int))+1) * 48271) (show (0:Int)<2147483647 by decide);exact #[.aD,.aD]
    refine #[_,rfl,_,_,rfl,rfl,.inr #[.aA,.aA],_,rfl,_,_,rfl,rfl,?_];exact #[_,_,_,rfl,rfl]
   ·rintro σ au ⟨n,u,v,rfl,rfl⟩;exact #[_,rfl,bo,λ p aw=>q n p aw]
noncomputable def ah3:b3:=λ vs H Q _ => ∃ (a:Addr) (n n2:Int),vs=[.ref a,.int n2]/\H a=some (.lst [.int n])/\0<=n2/\n2<=100 /\
 ∀ (p:Addr) (H':az) (b1:Int) (ns:aV),H p=none->bN a H H'->H' a=some (.lst [.int b1])->H' p=some (.tup (ns.map V.int))->ns.length=n2.toNat->(∀ m∈ns,0<=m/\m<n2)->Q (.ref p) H'
theorem ahQ (T:bB K mg):c8 P w mg base cS 2 T.R7 ah3:=by
 refine T.R7.fn.en Kf (λ vs H Q E h=>?_) (λ bg A outer s H vs Q E aq h=>?_)
 ·obtain ⟨a,n,n2,rfl,_⟩:=h;rfl
 ·obtain ⟨a,n,n2,rfl,ay,h0,ah,q⟩:=h;refine #[_,(aN (bV 2 Kf (Aa ao))
   (aN (hu fU rfl (oR rfl T.mR (aa (af 1) ao)) (d7 3 Kf)
    (aR (gi (jZ ks PySem.F.slot_list_insert PySem.F.type_list_insert age (af 2) (aa (bR (rv T) aq bD (aa (af 0) (aa (bU gL (af 3) aI) ao))) (aa (af 3) ao))))))
   (aR (bE (kp xm T.hM hL (aa (af 2) ao)))))),?_]
  refine #[bo,λ l av=>?_];have iO:a≠l:=cf ay av;refine #[_,rfl,n2,rfl,.aD,.aD,oQ (n:=n2.toNat) (λ i σ au => ∃ (b1:Int) (ns:aV) (u:dG),σ=[some (.ref a),some (.int n2),some (.ref l),u]/\bN a H au/\au a=some (.lst [.int b1])/\au l=some (.lst (ns.map V.int))/\ns.length=i /\ ∀ m∈ns,0<=m/\m<n2)
   #[n,[],none,rfl,λ b o _ e=>by rw [bj (cf e av)];exact e,by rw [bj iO];exact ay,bL,rfl,λ m hm=>absurd hm .zs] ?_ ?_]
  ·rintro i σ au ax ⟨b1,ns,u,rfl,dw,gc,fP,aF,hm⟩;refine #[_,rfl,.inl #[rfl,_,a9.of fP],_,rfl,_,rfl,_,_,rfl,rfl,a,b1,_,rfl,gc,.aD,.aD,_,rfl,l,_,_,_,rfl,rfl,by rw [bj iO.symm];exact fP,?_,?_,?_,?_]
   ·exact sZ _ .aD
   ·have:=s6 b1 (show (0:Int)<0+(i:Int)+1 by omega);omega
   ·rw [bY,aF,ef];omega
   ·refine #[b1 / (0+(i:Int)+1),ns.take (min (b1 % (0+(i:Int)+1)).toNat (ns.map V.int).length)++(0+(i:Int))::ns.drop (min (b1 % (0+(i:Int)+1)).toNat (ns.map V.int).length),_,rfl,?_,?_,?_,?_,?_]
    ·intro b o nb e;rw [bj (cf e av),bj nb];exact dw b o nb e
    ·rw [bj iO,bL]
    ·rw [bL,mP,iZ,List.map_take,List.map_drop]
    ·rw [fm,j1,nF,List.length_drop,bY,aF];omega
    ·intro m n9;rcases oB.mp n9 with z | z
     ·exact hm m (Dy z)
     ·rcases c1.mp z with z | z
      ·rw [z];omega
      ·exact hm m (List.mem_of_mem_drop z)
  ·rintro σ au ⟨b1,ns,u,rfl,dw,gc,fP,aF,hm⟩;refine #[_,rfl,l,_,rfl,.inl #[a9.of fP,λ p aw=>?_]];have zb:p≠a:=λ z=>by rw [z,gc] at aw;cases aw
   refine q p _ b1 ns (dw.free aw zb) (dw.new aw) ?_ bL aF hm;rw [bj zb.symm];exact gc
noncomputable def aix:b3:=λ vs H Q _ => ∃ (a:Addr) (n:Int),vs=[.ref a]/\H a=some (.lst [.int n]) /\
 ∀ (p:Addr) (H':az) (b1:Int) (ns:aV),bN a H H'->H' a=some (.lst [.int b1])->H' p=some (.tup (ns.map V.int))->1<=ns.length->ns.length<=5->(∀ m∈ns,0<=m/\m<10)->Q (.ref p) H'
theorem aiq (T:bB K mg):c8 P w mg base cS 3 T.SS aix:=by
 refine T.SS.fn.en Tv (λ vs H Q E h=>?_) (λ bg A outer s H vs Q E aq h=>?_)
 ·obtain ⟨a,n,rfl,_⟩:=h;rfl
 ·obtain ⟨a,n,rfl,ay,q⟩:=h;refine #[_,(aN (bV 1 Tv (bU gL aI (bR (rv T) aq bD (aa (af 0) (aa aI ao)))))
   (aN (cN (ct eS (bR (rv T) aq bD (aa (af 0) (aa aI ao))) aI (bS _))
    (aR (bE (kp (ajM rfl) T.hM hL (aa (kp ahn T.mR acq (aa (af 1) ao)) ao))))
    cB)
   (aR (bE (uZ Rc (bR (ahQ T) aq bD (aa (af 0) (aa aI ao))) uS (uT (af 1))))))),?_]
  refine #[_,rfl,a,n,5,rfl,ay,.aA,.aA,_,_,rfl,rfl,?_];refine #[_,rfl,a,_,2,rfl,bL,.aA,.aA,rfl,_,rfl,?_];have tw:=sZ n (show (5:Int)≠0 by decide);have g1:=s6 n (show (0:Int)<5 by decide);refine eJ (λ _=>?_) (λ _=>?_)
  ·refine #[_,rfl,_,rfl,λ p aw=>#[p,_,rfl,bL,.aD,.aD,λ l av=>?_]];have zb:p≠a:=λ z=>by rw [z,bL] at aw;cases aw
   have G1:l≠a:=λ z=>by rw [z,bj zb.symm,bL] at av;cases av
   refine q l _ (n / 5 / 2) ((List.range (1+n % 5).toNat).map λ i=>((i:Nat):Int)) (((bN.upd.set).new aw).new av) ?_ ?_ ?_ ?_ ?_
   ·rw [bj G1.symm,bj zb.symm,bL]
   ·rw [bL,kr];rfl
   ·rw [bY,List.length_range];omega
   ·rw [bY,List.length_range];omega
   ·intro m hm;obtain ⟨i,ax,rfl⟩:=e3.mp hm;have:=wF.mp ax;omega
  ·refine #[_,rfl,a,_,10,rfl,bL,.aA,.aA,λ p H' b1 ns aw dw h7 pe hlen hm=>?_];have sk:ns.length=10:=hlen;refine #[_,rfl,_,rfl,.inl #[p,_,rfl,a0.of pe,?_,λ l av=>?_]]
   ·rintro ⟨_,h⟩;rw [Qu .aD,bY] at h;omega
   have G1:l≠a:=λ z=>by rw [z,h7] at av;cases av
   have e4:bN a H (upd (upd H a (.lst [.int (n / 5)])) a (.lst [.int (n / 5 / 2)])):=bN.upd.set;have dK:bN a H H':=e4.trans dw;refine q l _ b1 (ns.take (1+n % 5).toNat) (dK.new av) ?_ ?_ ?_ ?_ ?_
   ·rw [bj G1.symm];exact h7
   ·rw [bL,Jd .aD,List.map_take]
   ·rw [nF];omega
   ·rw [nF];omega
   ·intro m n9;exact hm m (Dy n9)
noncomputable def hx:bl:=[.int 2,.int 3,.int 5,.int 7,.int 11,.int 13,.int 17,.int 19,.int 23,.int 29]
noncomputable def aiy:b3:=λ vs H Q _=>vs=[] /\ ∀ p,H p=none->Q (.ref p) (upd H p (.tup hx))
theorem Kk (T:bB K mg):c8 P w mg base cS 1 T.SU aiy:=by
 refine T.SU.fn.en ait (λ vs H Q E h=>?_) (λ bg A outer s H vs Q E aq h=>?_)
 ·obtain ⟨rfl,_⟩:=h;rfl
 ·obtain ⟨rfl,q⟩:=h;refine #[_,(aR (bE (Qq (aa aI (aa aI (aa aI (aa aI (aa aI (aa aI (aa aI (aa aI (aa aI (aa aI ao))))))))))))),?_];exact #[bo,λ p aw=>q p aw]
theorem xf {i:Nat} {x:V} (h:hx[i]?=some x) : ∃ p:Nat,x=.int (p:Int)/\dE[i]?=some p/\p<30:=by
 match i,h with
 | 0,h=>cases h;exact #[2,rfl,rfl,.aA]
 | 1,h=>cases h;exact #[3,rfl,rfl,.aA]
 | 2,h=>cases h;exact #[5,rfl,rfl,.aA]
 | 3,h=>cases h;exact #[7,rfl,rfl,.aA]
 | 4,h=>cases h;exact #[11,rfl,rfl,.aA]
 | 5,h=>cases h;exact #[13,rfl,rfl,.aA]
 | 6,h=>cases h;exact #[17,rfl,rfl,.aA]
 | 7,h=>cases h;exact #[19,rfl,rfl,.aA]
 | 8,h=>cases h;exact #[23,rfl,rfl,.aA]
 | 9,h=>cases h;exact #[29,rfl,rfl,.aA]
 | (k+10),h=>cases h
theorem J8 : ∀ (ag ar:eG) (i p e:Nat),ag[i]?=some p->ar[i]?=some e->jY (ag.take (i+1)) (ar.take (i+1))=jY (ag.take i) (ar.take i) * p ^ e
 | [],_,_,_,_,h,_=>by cases h
 | _,[],_,_,_,_,h=>by cases h
 | rP::ag,bX::ar,0,p,e,h,h'=>by
  have z:rP=p:=gR h;have eh:bX=e:=gR h';subst z;subst eh;show rP ^ bX * 1=1 * rP ^ bX;omega
 | rP::ag,bX::ar,i+1,p,e,h,h'=>by
  show rP ^ bX * jY (ag.take (i+1)) (ar.take (i+1))=rP ^ bX * jY (ag.take i) (ar.take i) * p ^ e;rw [J8 ag ar i p e h h',sS]
noncomputable def aiZ (K:cD):b3:=λ vs H Q _ => ∃ (b:Addr) (ar:aV),vs=[.ref b]/\a0 K H b (ar.map V.int)/\ar.length=10/\(∀ e∈ar,0<=e/\e<2 ^ 62) /\ ∀ H',aE H H'->Q (.int (prod (ar.map Int.toNat):Nat)) H'
theorem TU (T:bB K mg):c8 P w mg base cS 2 T.Ed (aiZ K):=by
 refine T.Ed.fn.en nO (λ vs H Q E h=>?_) (λ bg A outer s H vs Q E aq h=>?_)
 ·obtain ⟨b,ar,rfl,_⟩:=h;rfl
 ·obtain ⟨b,ar,rfl,ae,he,hm,q⟩:=h;refine #[_,(aN (bV 1 nO aI)
   (aN (hu fU rfl (pM rfl rfl T.ko (aa (Io (Kk T) aq bD) (aa (af 0) ao))) (nH rfl (du (d7 2 nO) (du (d7 3 nO) hg)))
    (aR (hu fU rfl (oR rfl T.mR (aa (af 3) ao)) (d7 4 nO)
    (aR (bV 1 nO (bU q9 (af 1) (af 2)))))))
   (aR (bE (af 1))))),?_]
  refine #[rfl,λ t aU=>#[_,rfl,t,b,rfl,#[_,a0.of bL],#[_,aE.tup (aE.new aU) ae],?_]];have dH:hx.length=10:=rfl;have Gn:(ar.map V.int).length=10:=by rw [bY];exact he
  refine QT (xs:=hx) (ys:=ar.map V.int) (λ i σ au=>(∃ u v x:dG,σ=[some (.ref b),some (.int (jY (dE.take i) ((ar.map Int.toNat).take i):Nat)),u,v,x])/\aE (upd H t (.tup hx)) au) #[#[none,none,none,rfl],aE.refl _] ?_ ?_ ?_
  ·rintro i σ au ax ⟨_,s2⟩;exact #[a0.of (s2 _ _ bL),aE.tup s2 (aE.tup (aE.new aU) ae)]
  ·rintro i x y z σ au aj aT a6 ⟨⟨u,v,e7,rfl⟩,s2⟩;obtain ⟨p,rfl,aw,uk⟩:=xf aj;obtain ⟨e,rfl,qs⟩:=l1 aT;obtain ⟨bX,aM⟩:=hm e (dr qs);refine #[z,_,rfl,a0.of bL,rfl,_,_,rfl,_,_,rfl,rfl,?_];refine #[_,rfl,e,rfl,.aD,aM,oQ (n:=e.toNat) (λ j σ aW=>(∃ x:dG,σ=[some (.ref b),some (.int ((jY (dE.take i) ((ar.map Int.toNat).take i) * p ^ j:Nat):Int)),some (.int p),some (.int e),x])/\aE (upd H t (.tup hx)) aW) #[#[e7,by rw [Nat.pow_zero,Nat.mul_one];rfl],aE.more s2 a6] ?_ ?_]
   ·rintro j σ aW b5 ⟨⟨hn,rfl⟩,s3⟩;refine #[_,rfl,_,rfl,_,_,rfl,rfl,.inr #[.aD,.aD],#[some (.int (0+(j:Int))),?_],s3];rw [Nat.pow_succ,<-sS,Int.natCast_mul _ p];rfl
   ·rintro σ aW ⟨⟨hn,rfl⟩,s3⟩;refine #[#[some (.int p),some (.int e),hn,?_],s3];have Hw:(ar.map Int.toNat)[i]?=some e.toNat:=by rw [fK,qs];rfl
    rw [J8 dE (ar.map Int.toNat) i p e.toNat aw Hw]
  ·rintro σ au ⟨⟨u,v,x,rfl⟩,s2⟩;have aO:min hx.length (ar.map V.int).length=10:=by rw [dH,Gn];rfl
   refine #[_,rfl,?_];rw [aO];have ho:dE.take 10=dE:=rfl;have f9:(ar.map Int.toNat).take 10=ar.map Int.toNat:=oA (by rw [bY,he];exact b9 _);rw [ho,f9];exact q au ((aE.new aU).trans s2)
noncomputable def MK (a b l:Addr) (H:az) (hE cd:Nat) (σ:St) (au:az):Prop := ∃ (b1:Int) (xs:aV) (u v t1 bw:dG),σ=[some (.ref a),some (.ref b),some (.ref l),u,v,t1,bw]/\bN a H au/\au a=some (.lst [.int b1])/\au l=some (.lst (xs.map V.int))/\xs.length=10/\(ups xs).sum<=hE/\(downs xs).sum<=cd
noncomputable def qC:V->V
 | .int j=>.int (if j > 0 then j else 0)
 | v=>v
noncomputable def v7:V->V
 | .int j=>.int (if 0 - j > 0 then 0 - j else 0)
 | v=>v
theorem acE (xs:aV):(xs.map V.int).map qC=(xs.map λ x=>if x > 0 then x else 0).map V.int:=by rw [kr,kr];rfl
theorem acF (xs:aV):(xs.map V.int).map v7=(xs.map λ x=>if 0 - x > 0 then 0 - x else 0).map V.int:=by rw [kr,kr];rfl
theorem acj (xs:aV):(xs.map λ x=>if x > 0 then x else 0).map Int.toNat=ups xs:=by
 rw [kr];refine wR λ x _=>?_
 show (if x > 0 then x else 0).toNat=x.toNat;split<;>omega
theorem ad3 (xs:aV):(xs.map λ x=>if 0 - x > 0 then 0 - x else 0).map Int.toNat=downs xs:=by
 rw [kr];refine wR λ x _=>?_
 show (if 0 - x > 0 then 0 - x else 0).toNat=(-x).toNat;split<;>omega
theorem J5 : ∀ {l:eG} {x:Nat},x∈l->x<=l.sum
 | [],_,h=>by cases h
 | y::r,x,h=>by
  rw [sT];rcases c1.mp h with z | z
  ·omega
  ·have:=J5 z;omega
noncomputable def ajn:b3:=λ vs H Q _ => ∃ (a b:Addr) (n:Int) (ns:aV),vs=[.ref a,.ref b]/\H a=some (.lst [.int n])/\H b=some (.tup (ns.map V.int))/\1<=ns.length/\ns.length<=10/\(∀ m∈ns,0<=m/\m<10) /\
 ∀ (p:Addr) (H':az) (b1 i j:Int),bN a H H'->H' a=some (.lst [.int b1])->H' p=some (.tup [.int i,.int j])->jX i j=true->Q (.ref p) H'
theorem ajf (T:bB K mg):c8 P w mg base cS 3 T.TH ajn:=by
 refine T.TH.fn.en p0 (λ vs H Q E h=>?_) (λ bg A outer s H vs Q E aq h=>?_)
 ·obtain ⟨a,b,n,ns,rfl,_⟩:=h;rfl
 ·obtain ⟨a,b,n,ns,rfl,ay,ae,ni,nj,hm,q⟩:=h;refine #[_,(aN (bV 2 p0 (bU Qm (Aa (aa aI ao)) aI))
   (aN (hu fU rfl (oR rfl T.mR (aa (bR (rv T) aq bD (aa (af 0) (aa aI ao))) ao)) (d7 3 p0)
    (aN (bV 4 p0 (dt iA (af 1) (bR (rv T) aq bD (aa (af 0) (aa (bQ h1 T.gh gg (aa (af 1) ao)) ao))) (λ _ _=>rfl)))
   (aR (pN (bU gL (dt fE (af 2) (af 4) (λ _ _=>rfl)) aI) (Ab (af 2) (af 4) set_list)))))
   (aN (hu fU rfl (oR rfl T.mR (aa (bR (rv T) aq bD (aa (af 0) (aa aI ao))) ao)) (d7 3 p0)
    (aN (bV 4 p0 (dt iA (af 1) (bR (rv T) aq bD (aa (af 0) (aa (bQ h1 T.gh gg (aa (af 1) ao)) ao))) (λ _ _=>rfl)))
   (aR (pN (bU kq (dt fE (af 2) (af 4) (λ _ _=>rfl)) aI) (Ab (af 2) (af 4) set_list)))))
   (aN (bV 5 p0 (kp xm T.hM hL (aa (hz (e8 p0 (N:=["one"]) (js:=[none]) (gU _)) rfl (w1 (af 2)) (λ _ _ _ _=>g_) (λ _ _ _ _=>hN)
     (λ _ _ _ _=>(bQ (Ar rfl) T.wz wt (aa aI (aa (af 0) ao))))) ao)))
   (aN (bV 6 p0 (kp xm T.hM hL (aa (hz (e8 p0 (N:=["one"]) (js:=[none]) (gU _)) rfl (w1 (af 2)) (λ _ _ _ _=>g_) (λ _ _ _ _=>hN)
     (λ _ _ _ _=>(bQ (Ar rfl) T.wz wt (aa aI (aa (bU kq aI (af 0)) ao))))) ao)))
   (aR (bE (Qq (aa (bR (TU T) aq bD (aa (af 5) ao)) (aa (bR (TU T) aq bD (aa (af 6) ao)) ao)))))))))),?_]
  refine #[bo,λ o2 n8=>#[o2,10,_,rfl,rfl,bL,.aA,.aA,.aA,λ l av=>?_]];have kT:b≠a:=cW ae ay nofun;have NO:a≠o2:=cf ay n8;have iO:a≠l:=cf (by rw [bj NO];exact ay) av;have e4:bN a H (upd (upd H o2 (.lst [.int 0])) l (.lst (List.replicate (10:Int).toNat [V.int 0]).flatten)):=((bN.refl a H).new n8).new av;have yH:H l=none:=by
   have:=av;unfold upd at this;split at this
   ·cases this
   ·exact this
  have turn : ∀ (au:az) (b1:Int),bN a H au->au a=some (.lst [.int b1]) -> ∃ m:Int,0<=m/\m<10/\0<=b1 % ((ns.map V.int).length:Int)/\(ns.map V.int)[(b1 % ((ns.map V.int).length:Int)).toNat]?=some (.int m):=by
   intro au b1 _ _;have Yu:((ns.map V.int).length:Int)=(ns.length:Int):=by rw [bY]
   rw [Yu];have tw:=sZ b1 (show (ns.length:Int)≠0 by omega);have g1:=s6 b1 (show (0:Int)<ns.length by omega);have aG:(b1 % (ns.length:Int)).toNat<ns.length:=by omega
   obtain ⟨m0,ig⟩:=hm _ (sP aG);exact #[ns[(b1 % (ns.length:Int)).toNat],m0,ig,tw,by rw [fK,fT aG];rfl]
  have alL:((ns.map V.int).length:Int)=(ns.length:Int):=by rw [bY]
  have ald:=sZ n (show (4:Int)≠0 by decide);have ale:=s6 n (show (0:Int)<4 by decide);refine #[_,rfl,a,n,4,rfl,(by rw [bj iO,bj NO];exact ay),.aA,.aA,_,rfl,.aD,.aD,oQ (n:=(n % 4).toNat) (λ i σ au=>MK a b l H i 0 σ au) ?_ ?_ ?_]
  ·exact #[n / 4,List.replicate 10 0,none,none,none,none,rfl,e4.set,bL,by rw [bj iO.symm,bL];rfl,rfl,.aA,.aA]
  ·rintro i σ au ax ⟨b1,xs,u,v,t1,bw,rfl,dw,gc,fP,aj,br,hd⟩;obtain ⟨m,m0,ig,tw,sj⟩:=turn au b1 dw gc;have kd:au b=some (.tup (ns.map V.int)):=dw b _ kT ae;refine #[_,rfl,_,rfl,_,rfl,b,_,rfl,.inr (a0.of kd),a,b1,_,rfl,gc,.aD,.aD,b,_,_,_,rfl,rfl,a0.of (by rw [bj kT];exact kd),lY tw sj,?_];have nh:(upd au a (.lst [.int (b1 / ((ns.map V.int).length:Int))])) l=some (.lst (xs.map V.int)):=by rw [bj iO.symm];exact fP
   have yJ:m.toNat<xs.length:=by omega
   have kR:xs[m.toNat]?=some xs[m.toNat]:=fT yJ;have GJ:(xs.map V.int)[m.toNat]?=some (.int xs[m.toNat]):=by rw [fK,kR];rfl
   refine #[_,rfl,_,rfl,l,_,_,_,rfl,rfl,a9.of nh,lY m0 GJ,_,_,rfl,rfl,_,rfl,_,rfl,l,_,_,_,rfl,rfl,nh,z9 m0 (by rw [bY,aj];omega),?_];refine #[b1 / ((ns.map V.int).length:Int),xs.set m.toNat (xs[m.toNat]+1),_,_,t1,bw,rfl,?_,?_,?_,?_,?_,?_]
   ·intro c o d0 e;rw [bj (cf e yH),bj d0];exact dw c o d0 e
   ·rw [bj iO,bL]
   ·rw [bL,rg]
   ·rw [uN];exact aj
   ·exact fl (QA kR) .aD
   ·exact fl (ad4 kR) hd
  rintro σ au ⟨b1,xs,u,v,t1,bw,rfl,dw,gc,fP,aj,br,hd⟩;have alf:=sZ b1 (show (4:Int)≠0 by decide);have alg:=s6 b1 (show (0:Int)<4 by decide);refine #[_,rfl,a,b1,4,rfl,gc,.aA,.aA,_,rfl,.aD,.aD,oQ (n:=(b1 % 4).toNat) (λ i σ au=>MK a b l H 3 i σ au) ?_ ?_ ?_]
  ·exact #[b1 / 4,xs,u,v,t1,bw,rfl,dw.set,bL,by rw [bj iO.symm];exact fP,aj,.aD,hd]
  ·clear br hd aj fP gc dw;rintro i σ au ax ⟨b1,xs,u,v,t1,bw,rfl,dw,gc,fP,aj,br,hd⟩;obtain ⟨m,m0,ig,tw,sj⟩:=turn au b1 dw gc;have kd:au b=some (.tup (ns.map V.int)):=dw b _ kT ae;refine #[_,rfl,_,rfl,_,rfl,b,_,rfl,.inr (a0.of kd),a,b1,_,rfl,gc,.aD,.aD,b,_,_,_,rfl,rfl,a0.of (by rw [bj kT];exact kd),lY tw sj,?_];have nh:(upd au a (.lst [.int (b1 / ((ns.map V.int).length:Int))])) l=some (.lst (xs.map V.int)):=by rw [bj iO.symm];exact fP
   have yJ:m.toNat<xs.length:=by omega
   have kR:xs[m.toNat]?=some xs[m.toNat]:=fT yJ;have GJ:(xs.map V.int)[m.toNat]?=some (.int xs[m.toNat]):=by rw [fK,kR];rfl
   refine #[_,rfl,_,rfl,l,_,_,_,rfl,rfl,a9.of nh,lY m0 GJ,_,_,rfl,rfl,_,rfl,_,rfl,l,_,_,_,rfl,rfl,nh,z9 m0 (by rw [bY,aj];omega),?_];refine #[b1 / ((ns.map V.int).length:Int),xs.set m.toNat (xs[m.toNat] - 1),_,_,t1,bw,rfl,?_,?_,?_,?_,?_,?_]
   ·intro c o d0 e;rw [bj (cf e yH),bj d0];exact dw c o d0 e
   ·rw [bj iO,bL]
   ·rw [bL,rg]
   ·rw [uN];exact aj
   ·exact fl (afn kR) br
   ·exact fl (ahq kR) .aD
  clear br hd aj fP gc dw;rintro σ au ⟨b1,xs,u,v,t1,bw,rfl,dw,gc,fP,aj,br,hd⟩;have tT:(downs xs).sum<=3:=by omega
  refine #[_,rfl,l,rfl,#[_,a9.of fP],λ D a8=>T7 (xs:=xs.map V.int) (f:=qC) rfl (by rw [bY,aj];decide) a8 (a9.of fP) ?_ #[D,_,rfl,.inl #[a9.of bL,λ t aU=>?_]]]
  ·intro x H' R kR r;obtain ⟨j,_,rfl⟩:=e3.mp kR;exact #[_,rfl,_,_,rfl,r]
  have r8:(upd (upd au D (.lst ((xs.map V.int).map qC))) t (.tup ((xs.map V.int).map qC))) l=some (.lst (xs.map V.int)):=(aE.more (aE.new a8) aU) _ _ fP;refine #[_,rfl,l,rfl,#[_,a9.of r8],λ oV ei=>T7 (xs:=xs.map V.int) (f:=v7) rfl (by rw [bY,aj];decide) ei (a9.of r8) ?_ #[oV,_,rfl,.inl #[a9.of bL,λ t' yT=>?_]]]
  ·intro x H' R kR r;obtain ⟨j,_,rfl⟩:=e3.mp kR;exact #[_,rfl,_,_,rfl,rfl,_,_,rfl,r]
  have s4:aE au (upd (upd (upd (upd au D (.lst ((xs.map V.int).map qC))) t (.tup ((xs.map V.int).map qC))) oV (.lst ((xs.map V.int).map v7))) t' (.tup ((xs.map V.int).map v7))):=aE.more (aE.more (aE.more (aE.new a8) aU) ei) yT;have XO:(upd (upd (upd (upd au D (.lst ((xs.map V.int).map qC))) t (.tup ((xs.map V.int).map qC))) oV (.lst ((xs.map V.int).map v7))) t' (.tup ((xs.map V.int).map v7))) t=some (.tup ((xs.map V.int).map qC)):=(aE.more (aE.new ei) yT) _ _ bL;refine #[_,rfl,t,xs.map λ x=>if x > 0 then x else 0,rfl,?_,by rw [bY];exact aj,?_,λ bW s5=>#[_,rfl,t',xs.map λ x=>if 0 - x > 0 then 0 - x else 0,rfl,?_,by rw [bY];exact aj,?_,λ dO b_=>#[bo,λ p aw=>?_]]]
  ·rw [<-acE];exact a0.of XO
  ·intro e he;obtain ⟨x,kR,rfl⟩:=e3.mp he;have:=J5 (pU (f:=Int.toNat) kR);have aH:(xs.map Int.toNat).sum<=3:=br;split<;>omega
  ·rw [<-acF];exact a0.of (s5 _ _ bL)
  ·intro e he;obtain ⟨x,kR,rfl⟩:=e3.mp he;have:=J5 (pU (f:=λ x:Int=>(-x).toNat) kR);have aH:(xs.map λ x:Int=>(-x).toNat).sum<=3:=tT;split<;>omega
  ·have Ow:aE au dO:=(s4.trans s5).trans b_;refine q p _ b1 _ _ ((dw.trans (bN.of Ow)).new aw) ?_ bL ?_
   ·exact (aE.new aw) _ _ (Ow _ _ gc)
   ·rw [acj,ad3];exact Ti br tT
noncomputable def lX (H:az) (x:V):Prop := ∃ (c:Addr) (i j:Int),x=.ref c/\H c=some (.tup [.int i,.int j])/\jX i j=true
theorem lX.jq {x:V} (a:Addr) (n:Int) (h:lX H x) (ay:H a=some (.lst [.int n])) (dw:bN a H H'):lX H' x:=by
 obtain ⟨c,i,j,rfl,ak,f⟩:=h;exact #[c,i,j,rfl,dw c _ (cW ak ay nofun) ak,f]
noncomputable def T1:b3:=λ vs H Q _ => ∃ (a b:Addr) (n most:Int) (ns:aV),vs=[.ref a,.ref b,.int most]/\H a=some (.lst [.int n])/\H b=some (.tup (ns.map V.int))/\1<=ns.length/\ns.length<=10/\(∀ m∈ns,0<=m/\m<10)/\1<=most/\most<=16 /\
 ∀ (p:Addr) (H':az) (b1:Int) (xs:bl),bN a H H'->H' a=some (.lst [.int b1])->H' p=some (.tup xs)->1<=xs.length->(xs.length:Int)<=most->(∀ x∈xs,lX H' x)->Q (.ref p) H'
theorem aiQ (T:bB K mg):c8 P w mg base cS 4 T.Td T1:=by
 refine T.Td.fn.en TX (λ vs H Q E h=>?_) (λ bg A outer s H vs Q E aq h=>?_)
 ·obtain ⟨a,b,n,most,ns,rfl,_⟩:=h;rfl
 ·obtain ⟨a,b,n,most,ns,rfl,ay,ae,ni,nj,hm,k1,k2,q⟩:=h;refine #[_,(aR (bE (kp xm T.hM hL (aa (hz (e8 TX (N:=["k", "pot", "places"]) (js:=[none,some 0,some 1]) (oH.mpr #[rfl,(oH.mpr #[rfl,(gU _)])])) rfl (oR rfl T.mR (aa (bU gL aI (bR (rv T) aq bD (aa (af 0) (aa (af 2) ao)))) ao)) (λ _ _ _ _=>g_) (λ _ _ _ _=>hN)
     (λ _ _ _ _=>(bR (ajf T) aq bD (aa (af 1) (aa (af 2) ao))))) ao)))),?_]
  have kT:b≠a:=cW ae ay nofun;have tw:=sZ n (show most≠0 by omega);have g1:=s6 n (show 0<most by omega);refine #[_,rfl,_,rfl,a,n,most,rfl,ay,.aD,.aD,_,_,rfl,rfl,_,rfl,.aD,.aD,λ D a8=>?_];have B3:D≠a:=λ z=>by rw [z,bL] at a8;cases a8
  have W7:H D=none:=by rw [bj B3] at a8;exact a8
  refine ahp (n:=(1+n % most).toNat) (by rw [ef];omega) (λ i σ' H' ys=>(∃ (u:dG) (b1:Int),σ'=[u,some (.ref a),some (.ref b)]/\H' a=some (.lst [.int b1]))/\bN a H H' /\ ∀ y∈ys,lX H' y) #[#[none,n / most,rfl,by rw [bj B3.symm,bL]],(bN.upd).new a8,λ y aT=>absurd aT .zs] ?_ ?_
  ·rintro i σ' H' ys R ax ei jj ⟨⟨u,b1,rfl,h7⟩,dw,aT⟩ k;have mu:=dw b _ kT ae;refine #[_,rfl,_,rfl,a,b,b1,ns,rfl,h7,mu,ni,nj,hm,λ p bc g6 l_ Vj FE lG ob f4=>?_];have yk:bc D=some (.lst ys):=FE D _ B3 ei;have bf : ∀ c o,c≠D->bc c=some o->(upd bc D (.lst (ys++[V.ref p]))) c=some o:=λ c o d0 e=>by rw [bj d0];exact e
   have YM:p≠D:=cW ob yk nofun;refine k _ _ _ yk #[#[_,g6,rfl,bf _ _ B3.symm lG],?_,?_]
   ·intro c o d0 e;exact bf c o (cf e W7) (FE c o d0 (dw c o d0 e))
   ·intro y X0;rcases oB.mp X0 with z | z
    ·obtain ⟨c,j6,jF,rfl,ak,f⟩:=lX.jq a b1 (aT y z) h7 FE;exact #[c,j6,jF,rfl,bf _ _ (cW ak yk nofun) ak,f]
    ·rw [eC] at z;subst z;exact #[p,l_,Vj,rfl,bf _ _ YM ob,f4]
  ·rintro σ' H' ys ei jj ⟨⟨u,b1,rfl,h7⟩,dw,aT⟩;refine #[D,_,rfl,.inl #[a9.of ei,λ p aw=>?_]];refine q p _ b1 ys (dw.new aw) ((aE.new aw) _ _ h7) bL (by rw [jj];omega) (by rw [jj];omega) λ x aj=>?_
   obtain ⟨c,j6,jF,rfl,ak,f⟩:=aT x aj;exact #[c,j6,jF,rfl,(aE.new aw) _ _ ak,f]
noncomputable def AA:b3:=λ vs H Q _ => ∃ (a:Addr) (n gb:Int),vs=[.ref a,.int gb]/\H a=some (.lst [.int n])/\0<gb/\gb<1073741824 /\
 ∀ (r b1:Int) (H':az),0<=r->r<gb->bN a H H'->H' a=some (.lst [.int b1])->Q (.int r) H'
theorem gC (T:bB K mg):c8 P w mg base cS 1 T.Ja AA :=
 (rv T).imp λ vs H Q E ⟨a,n,gb,e,ay,h0,ah,q⟩=>#[a,n,gb,e,ay,h0,ah,q _ (n / gb) _ (sZ n .aD) (s6 n h0) bN.upd bL]
noncomputable def SK:b3:=λ vs H Q _ => ∃ (a b:Addr) (n most:Int) (ns:aV),vs=[.ref a,.ref b,.int most]/\H a=some (.lst [.int n])/\H b=some (.tup (ns.map V.int))/\ns.length<=10/\(∀ m∈ns,0<=m/\m<10)/\0<=most/\most<=1000000 /\
 ∀ (p:Addr) (H':az) (b1:Int) (ar:aV),bN a H H'->H' a=some (.lst [.int b1])->H' p=some (.tup (ar.map V.int))->ar.length=10->(∀ e∈ar,0<=e/\e<=most)->Q (.ref p) H'
theorem mem_set {α: Type} {xs:List α} {i:Nat} {v x: α} (h:x∈xs.set i v):x=v\/x∈xs:=(List.mem_or_eq_of_mem_set h).elim .inr .inl
theorem SE (T:bB K mg):c8 P w mg base cS 2 T.Rm SK:=by
 refine T.Rm.fn.en JX (λ vs H Q E h=>?_) (λ bg A outer s H vs Q E aq h=>?_)
 ·obtain ⟨a,b,n,most,ns,rfl,_⟩:=h;rfl
 ·obtain ⟨a,b,n,most,ns,rfl,ay,ae,aF,hm,m0,ig,q⟩:=h;refine #[_,(aN (bV 3 JX (bU RK (eK (aa aI ao)) aI))
   (aN (hu fU rfl (pL (af 1)) (d7 4 JX)
    (aR (pN (bR (gC T) aq bD (aa (af 0) (aa (bU gL (af 2) aI) ao))) (Ab (af 3) (af 4) set_list))))
   (aN (cN (ct eS (bR (gC T) aq bD (aa (af 0) (aa aI ao))) aI (bS _))
    (aR (pN (bR (gC T) aq bD (aa (af 0) (aa (bU gL (af 2) aI) ao))) (Ab (af 3) (bR (gC T) aq bD (aa (af 0) (aa aI ao))) set_list)))
    cB)
   (aR (bE (kp va T.hM hL (aa (af 3) ao))))))),?_]
  have kT:b≠a:=cW ae ay nofun;refine #[bo,λ o2 H1 f1 s1 n8=>#[o2,10,_,rfl,rfl,n8,.aA,.aA,.aA,λ l au f2 s2 av=>?_]];have iO:a≠l:=cf (s1 _ _ ay) f2;have yH:H l=none:=s1.free f2;refine #[_,rfl,b,rfl,#[_,a0.of (s2 _ _ (s1 _ _ ae))],DA (xs:=ns.map V.int) (λ i σ aW => ∃ (b1:Int) (ar:aV) (u:dG),σ=[some (.ref a),some (.ref b),some (.int most),some (.ref l),u]/\bN a H aW/\aW a=some (.lst [.int b1])/\aW l=some (.lst (ar.map V.int))/\ar.length=10 /\ ∀ e∈ar,0<=e/\e<=most)
   #[n,List.replicate 10 0,none,rfl,bN.of (s1.trans s2),s2 _ _ (s1 _ _ ay),av,rfl,λ e he=>by rw [(List.mem_replicate.mp he).2];omega] (λ i σ aW _ ⟨_,_,_,_,dw,_⟩=>a0.of (dw _ _ kT ae)) ?_ ?_]
  ·rintro i x σ aW aj ⟨b1,ar,u,rfl,dw,tQ,nh,he,ng⟩;obtain ⟨m,rfl,Xw⟩:=l1 aj;obtain ⟨k0,k1⟩:=hm m (dr Xw);refine #[_,rfl,_,rfl,_,_,rfl,rfl,a,b1,_,rfl,tQ,.aD,.aD,λ r dB bc cG bJ fo lG=>?_];refine #[_,rfl,_,rfl,l,_,_,_,rfl,rfl,fo _ _ iO.symm nh,z9 k0 (by rw [bY,he];omega),#[dB,ar.set m.toNat r,_,rfl,?_,?_,?_,?_,?_]]
   ·intro c o d0 e;rw [bj (cf e yH)];exact fo c o d0 (dw c o d0 e)
   ·rw [bj iO];exact lG
   ·rw [bL,rg]
   ·rw [uN];exact he
   ·intro e Gz;rcases mem_set Gz with z | z
    ·rw [z];omega
    ·exact ng e z
  rintro σ aW ⟨b1,ar,u,rfl,dw,tQ,nh,he,ng⟩;have fin : ∀ (bW:az) (hS:Int) (nd:aV),bN a H bW->bW a=some (.lst [.int hS])->bW l=some (.lst (nd.map V.int))->nd.length=10->(∀ e∈nd,0<=e/\e<=most) -> ∀ p H',bW p=none->aE bW H'->H' p=some (.tup (nd.map V.int))->Q (.ref p) H' :=
   λ bW hS nd V1 qp Nm Gm ZP p H' a_ sp aw=>q p H' hS nd (V1.trans (bN.of sp)) (sp _ _ qp) aw Gm ZP
  refine #[_,rfl,a,b1,6,rfl,tQ,.aA,.aA,λ r dB bc cG bJ fo lG=>#[rfl,_,rfl,eJ (λ _=>?_) (λ _=>?_)]]
  ·refine #[_,rfl,_,rfl,_,_,rfl,rfl,a,dB,_,rfl,lG,.aD,.aD,λ hj g5 bW Hc alr dX qp=>?_];refine #[_,rfl,_,rfl,a,g5,10,rfl,qp,.aA,.aA,λ j8 g6 dO YZ als hC Xh=>?_];have Xs:dO l=some (.lst (ar.map V.int)):=hC _ _ iO.symm (dX _ _ iO.symm (fo _ _ iO.symm nh));refine #[l,_,_,_,rfl,rfl,Xs,z9 YZ (by rw [bY,he];omega),?_];refine #[_,rfl,l,_,rfl,a9.of bL,?_];rw [<-rg];refine fin _ g6 (ar.set j8.toNat hj) ?_ ?_ ?_ ?_ ?_
   ·intro c o d0 e;rw [bj (cf e yH)];exact hC c o d0 (dX c o d0 (fo c o d0 (dw c o d0 e)))
   ·rw [bj iO];exact Xh
   ·rw [bL]
   ·rw [uN];exact he
   ·intro e Gz;rcases mem_set Gz with z | z
    ·rw [z];omega
    ·exact ng e z
  ·have r8:bc l=some (.lst (ar.map V.int)):=fo _ _ iO.symm nh;exact #[_,rfl,l,_,rfl,a9.of r8,fin bc dB ar (dw.trans fo) lG r8 he ng]
noncomputable def Ju:b3:=λ vs H Q _ => ∃ v,vs=[v]/\dV H v/\Q (.aX (vY v)) H
theorem TQ (T:bB K mg):ml P w mg base 1 T.w_ Ju:=by
 refine T.w_.fn.mx ais (λ vs H Q E h=>?_) (λ bg A outer s H vs Q E aq h=>?_)
 ·obtain ⟨v,rfl,_⟩:=h;rfl
 ·obtain ⟨v,rfl,k,q⟩:=h;refine #[_,(aR (bE (jy (bQ eL T.dz dy (aa (af 0) (aa (eB (by rfl) T.zU zM) ao))) (i0 (Qp (bQ eL T.dz dy (aa (af 0) (aa (eB (by rfl) T.sJ sI) ao)))))))),?_];obtain ⟨t,ty,e⟩:=zR (K:=K) k;obtain ⟨t',Hj,c2⟩:=wy (K:=K) k;rw [<-Qj] at q;refine #[v,rfl,v, "int", t,_,rfl,ty,e,_,rfl,?_];cases ax:BX v with
  | false =>
   rw [ax] at q;exact bA q
  | true =>
   rw [ax] at q;exact cA #[v,rfl,v, "bool", t',_,rfl,Hj,c2,_,rfl,q]
theorem Tt (T:bB K mg):c8 P w mg base cS 1 T.w_ Ju:=(TQ T).fn
noncomputable def natAt (σ:St) (i:Nat):Nat:=match σ[i]? with
 | some (some (.int r))=>r.toNat
 | _=>0
theorem wZ {i j:Int} (h:decide (V.int i=V.int j)=true):i=j:=by
 have:=eT h;injection this
theorem IX {i j:Int} (h : ¬ decide (V.int i=V.int j)=true):i≠j:=λ z=>h (cc (by rw [z]))
theorem TC : ∀ (ag:eG) (i p n:Nat),ag[i]?=some p->ib (ag.take (i+1)) n=strip p (ib (ag.take i) n):=by
 intro ag i p n h;unfold ib;rw [sU,h,List.foldl_append];rfl
noncomputable def UM:b3:=λ vs H Q _ => ∃ m:Int,vs=[.int m]/\1<=m/\Q (.int (jC m.toNat:Nat)) H
theorem UN (T:bB K mg):ml P w mg base 1 T.xr UM:=by
 refine T.xr.fn.mx Eo (λ vs H Q E h=>?_) (λ bg A outer s H vs Q E aq h=>?_)
 ·obtain ⟨m,rfl,_⟩:=h;rfl
 ·obtain ⟨m,rfl,hm,q⟩:=h;refine #[_,(aN (bV 1 Eo (af 0))
   (aN (hu fU rfl (pL (ky (v:=.ref T.pW) (by rfl) T.w2 rfl)) (d7 2 Eo)
    (aR (u1 fU (ct eS (bU q8 (af 1) (af 2)) aI (bS _))
    (aR (bV 1 Eo (bU w0 (af 1) (af 2)))))))
   (aR (bE (af 1))))),?_]
  refine #[_,rfl,T.pW,rfl,#[hx,T.u2 H],DA (xs:=hx) (λ i σ au=>(∃ u:dG,σ=[some (.int m),some (.int (ib (dE.take i) m.toNat:Nat)),u])/\au=H) #[#[none,?_],rfl] (λ i σ au _ _=>T.u2 au) ?_ ?_]
  ·show [some (V.int m),some (V.int m),none]=_;rw [show ib (dE.take 0) m.toNat=m.toNat from rfl,lZ .aD]
  ·rintro i x σ au aj ⟨⟨u,rfl⟩,rfl⟩;obtain ⟨p,rfl,aw,uk⟩:=xf aj;have fk:2<=p:=mM p (dr aw);have k8:1<=ib (dE.take i) m.toNat:=Eb _ (λ r aq=>mM r (Dy aq)) _ .aD;refine u5 (λ σ aW => ∃ r:Nat,σ=[some (.int m),some (.int (r:Int)),some (.int (p:Int))]/\1<=r/\strip p r=strip p (ib (dE.take i) m.toNat)/\aW=au) (λ σ _=>natAt σ 1) #[_,rfl,k8,rfl,rfl] ?_;rintro σ aW ⟨r,rfl,fG,oc,rfl⟩;refine #[_,rfl,_,rfl,_,_,rfl,rfl,(by show (0:Int)<p;omega),rfl,_,rfl,eJ (λ h=>?_) (λ h=>?_)]
   ·have h0:(r:Int) % (p:Int)=0:=wZ h;have hq:r % p=0:=by omega
    refine uf #[_,rfl,_,rfl,_,_,rfl,rfl,#[.aD,.aD],?_];refine #[#[r / p,?_,xa fG hq,by rw [<-w8 fk fG hq];exact oc,rfl],?_]
    ·rw [wW];rfl
    ·show ((r:Int) / (p:Int)).toNat<((r:Int)).toNat;rw [<-wW,iz,iz];exact pT fG fk
   ·have h0 : ¬ (r:Int) % (p:Int)=0:=IX h;have hq:r % p≠0:=by omega
    refine #[#[some (.int (p:Int)),?_],rfl];rw [TC dE i p _ aw,<-oc,u4 hq]
  ·rintro σ au ⟨⟨u,rfl⟩,rfl⟩;exact #[_,rfl,q]
theorem ajX (T:bB K mg):c8 P w mg base cS 1 T.xr UM:=(UN T).fn
noncomputable def aiV:b3:=λ vs H Q _ => ∃ (p:Nat) (m:Int),vs=[.int (p:Int),.int m]/\2<=p/\p<30/\1<=m/\Q (.int (cnt p m.toNat:Nat)) H
theorem ajd (T:bB K mg):ml P w mg base 1 T.AD aiV:=by
 refine T.AD.fn.mx AE (λ vs H Q E h=>?_) (λ bg A outer s H vs Q E aq h=>?_)
 ·obtain ⟨p,m,rfl,_⟩:=h;rfl
 ·obtain ⟨p,m,rfl,fk,uk,hm,q⟩:=h;refine #[_,(aN (bV 2 AE aI)
   (aN (bV 3 AE (af 1))
   (aN (u1 fU (ct eS (bU q8 (af 3) (af 0)) aI (bS _))
    (aN (bV 3 AE (bU w0 (af 3) (af 0)))
   (aR (bV 2 AE (bU gL (af 2) aI)))))
   (aR (bE (af 2)))))),?_]
  refine #[_,rfl,?_];refine u5 (λ σ aW => ∃ o r:Nat,σ=[some (.int (p:Int)),some (.int m),some (.int (o:Int)),some (.int (r:Int))]/\1<=r/\o+cnt p r=cnt p m.toNat/\aW=H) (λ σ _=>natAt σ 3) #[0,m.toNat,by rw [lZ .aD];rfl,.aD,Nat.zero_add _,rfl] ?_;rintro σ aW ⟨o,r,rfl,fG,vV,rfl⟩;refine #[_,rfl,_,rfl,_,_,rfl,rfl,(by show (0:Int)<p;omega),rfl,_,rfl,eJ (λ h=>?_) (λ h=>?_)]
  ·have h0:(r:Int) % (p:Int)=0:=wZ h;have hq:r % p=0:=by omega
   refine uf #[_,rfl,_,rfl,_,_,rfl,rfl,#[.aD,.aD],_,rfl,_,_,rfl,rfl,?_];refine #[#[o+1,r / p,?_,xa fG hq,by rw [Dz fk fG hq] at vV;omega,rfl],?_]
   ·rw [wW,Int.natCast_add];rfl
   ·show ((r:Int) / (p:Int)).toNat<((r:Int)).toNat;rw [<-wW,iz,iz];exact pT fG fk
  ·have h0 : ¬ (r:Int) % (p:Int)=0:=IX h;have hq:r % p≠0:=by omega
   rw [wX hq,Nat.add_zero] at vV;subst vV;exact #[_,rfl,q]
theorem D_ (T:bB K mg):c8 P w mg base cS 1 T.R9 Ju:=by
 refine T.R9.fn.en ahY (λ vs H Q E h=>?_) (λ bg A outer s H vs Q E aq h=>?_)
 ·obtain ⟨v,rfl,_⟩:=h;rfl
 ·obtain ⟨v,rfl,k,q⟩:=h;refine #[_,(aR (bE (jy (bQ eL T.dz dy (aa (af 0) (aa (eB (by rfl) T.zU zM) ao))) (i0 (Qp (bQ eL T.dz dy (aa (af 0) (aa (eB (by rfl) T.sJ sI) ao)))))))),?_];obtain ⟨t,ty,e⟩:=zR (K:=K) k;obtain ⟨t',Hj,c2⟩:=wy (K:=K) k;rw [<-Qj] at q;refine #[v,rfl,v, "int", t,_,rfl,ty,e,_,rfl,?_];cases ax:BX v with
  | false =>
   rw [ax] at q;exact bA q
  | true =>
   rw [ax] at q;exact cA #[v,rfl,v, "bool", t',_,rfl,Hj,c2,_,rfl,q]
noncomputable def zW (ar:eG):bl:=ar.map λ e=>V.int ((e:Nat):Int)
noncomputable def agK:b3:=λ vs H Q _ => ∃ m:Int,vs=[.int m]/\1<=m/\(jC m.toNat≠1 -> ∀ H',aE H H'->Q .bh H') /\
 (jC m.toNat=1 -> ∀ p H',aE H H'->H p=none->H' p=some (.tup (zW (mH dE m.toNat)))->Q (.ref p) H')
theorem SD (T:bB K mg):c8 P w mg base cS 2 T.Rl agK:=by
 refine T.Rl.fn.en w6 (λ vs H Q E h=>?_) (λ bg A outer s H vs Q E aq h=>?_)
 ·obtain ⟨m,rfl,_⟩:=h;rfl
 ·obtain ⟨m,rfl,hm,bb,cg⟩:=h;refine #[_,(aN (bV 1 w6 (Aa ao))
   (aN (hu fU rfl (pL (Io (Kk T) aq bD)) (d7 2 w6)
    (aN (bV 3 w6 aI)
   (aN (u1 fU (ct eS (bU q8 (af 0) (af 2)) aI (bS _))
    (aN (bV 0 w6 (bU w0 (af 0) (af 2)))
   (aR (bV 3 w6 (bU gL (af 3) aI)))))
   (aR (gi (jZ ks oJ oK D4 (af 1) (aa (af 3) ao)))))))
   (aN (cN (ct ov (af 0) aI (bS _))
    (aR (bE e2))
    cB)
   (aR (bE (kp xm T.hM hL (aa (af 1) ao))))))),?_]
  refine #[bo,λ l av=>#[rfl,λ t aU=>#[t,rfl,#[_,a0.of bL],?_]]];have s0:aE H (upd (upd H l (.lst [])) t (.tup hx)):=aE.more (aE.new av) aU;have N2:t≠l:=λ z=>by rw [z,bL] at aU;cases aU
  refine DA (xs:=hx) (λ i σ au=>(∃ u v:dG,σ=[some (.int (ib (dE.take i) m.toNat:Nat)),some (.ref l),u,v])/\aE H au/\au t=some (.tup hx)/\au l=some (.lst (zW (mH (dE.take i) m.toNat)))) #[#[none,none,?_],s0,bL,by rw [bj N2.symm,bL];rfl] (λ i σ au _ ⟨_,_,a,_⟩=>a0.of a) ?_ ?_
  ·show [some (V.int m),some (V.ref l),none,none]=_;rw [show ib (dE.take 0) m.toNat=m.toNat from rfl,lZ .aD]
  ·rintro i x σ au aj ⟨⟨u,v,rfl⟩,s2,nq,fP⟩;obtain ⟨p,rfl,aw,uk⟩:=xf aj;have fk:2<=p:=mM p (dr aw);have k8:1<=ib (dE.take i) m.toNat:=Eb _ (λ r aq=>mM r (Dy aq)) _ .aD;refine u5 (λ σ aW => ∃ r o:Nat,σ=[some (.int (r:Int)),some (.ref l),some (.int (p:Int)),some (.int (o:Int))]/\1<=r/\strip p r=strip p (ib (dE.take i) m.toNat)/\o+cnt p r=cnt p (ib (dE.take i) m.toNat)/\aW=au) (λ σ _=>natAt σ 0) #[_,0,rfl,k8,rfl,Nat.zero_add _,rfl] ?_;rintro σ aW ⟨r,o,rfl,fG,oc,vV,rfl⟩;refine #[_,rfl,_,rfl,_,_,rfl,rfl,(by show (0:Int)<p;omega),rfl,_,rfl,eJ (λ h=>?_) (λ h=>?_)]
   ·have h0:(r:Int) % (p:Int)=0:=wZ h;have hq:r % p=0:=by omega
    refine uf #[_,rfl,_,rfl,_,_,rfl,rfl,#[.aD,.aD],_,rfl,_,_,rfl,rfl,?_];refine #[#[r / p,o+1,?_,xa fG hq,by rw [<-w8 fk fG hq];exact oc,by rw [Dz fk fG hq] at vV;omega,rfl],?_]
    ·rw [wW,Int.natCast_add];rfl
    ·show ((r:Int) / (p:Int)).toNat<((r:Int)).toNat;rw [<-wW,iz,iz];exact pT fG fk
   ·have h0 : ¬ (r:Int) % (p:Int)=0:=IX h;have hq:r % p≠0:=by omega
    have hlen:(zW (mH (dE.take i) m.toNat)).length<sizeLine:=by
     show (List.map _ _).length<_;rw [bY,TO,nF,ef];show min i 10<_;omega
    refine #[_,rfl,.inl #[rfl,_,a9.of fP],_,rfl,l,_,_,rfl,rfl,fP,hlen,#[#[some (.int (p:Int)),some (.int (o:Int)),?_],?_,?_,?_]]
    ·rw [TC dE i p _ aw,<-oc,u4 hq]
    ·intro b b7 eV;rw [bj (cf eV av)];exact s2 _ _ eV
    ·rw [bj N2];exact nq
    ·rw [bL,SY dE i p _ aw,<-vV,wX hq,Nat.add_zero];show _=some (e6.lst (List.map _ (_++[o])));rw [mP];rfl
  ·rintro σ au ⟨⟨u,v,rfl⟩,s2,nq,fP⟩;have e:ib (dE.take hx.length) m.toNat=jC m.toNat:=rfl;have k8:1<=jC m.toNat:=ai2 .aD;rw [e];refine #[_,rfl,_,_,rfl,rfl,_,rfl,eJ (λ h=>?_) (λ h=>?_)]
   ·have ah:(1:Int)<(jC m.toNat:Nat):=eT h;exact bb .aD au s2
   ·have ah : ¬ (1:Int)<(jC m.toNat:Nat):=λ z=>h (cc z)
    refine #[_,rfl,l,_,rfl,.inl #[a9.of fP,λ p aw=>cg .aD p _ (aE.more s2 aw) (s2.free aw) bL]]
noncomputable def ai1:b3:=λ vs H Q _ => ∃ i:Int,vs=[.int i]/\1<=i/\jC i.toNat=1 /\ ∀ p H',aE H H'->H' p=some (tupI (fb (hc i.toNat)))->Q (.ref p) H'
theorem T9 (T:bB K mg):ml P w mg base 2 T.th ai1:=by
 refine T.th.fn.mx TZ (λ vs H Q E h=>?_) (λ bg A outer s H vs Q E aq h=>?_)
 ·obtain ⟨i,rfl,_⟩:=h;rfl
 ·obtain ⟨i,rfl,ah,a6,q⟩:=h;refine #[_,(aN (cN (eD.pt (gA (gM (eu (lj (TQ T) (aq.mono .aA) rfl rfl T.w_.at_ T.w_.fn.bf T.w_.bd (aa (af 0) ao)))) (gA (ct nz (af 0) aI (bS _)) (hv (ct iW (lj (UN T) (aq.mono .aA) rfl rfl T.xr.at_ T.xr.fn.bf T.xr.bd (aa (af 0) ao)) aI (bS _))))))
    (aR DU)
    cB)
   (aR (bE (kp va T.hM hL (aa (hz (e8 TZ (N:=["prime", "number"]) (js:=[none,some 0]) (oH.mpr #[rfl,(gU _)])) rfl (pL (ky (v:=.ref T.pW) (by rfl) T.w2 rfl)) (λ _ _ _ _=>g_) (λ _ _ _ _=>hN)
     (λ _ _ _ _=>(lj (ajd T) (aq.mono .aA) rfl rfl T.AD.at_ T.AD.fn.bf T.AD.bd (aa (af 0) (aa (af 1) ao))))) ao))))),?_]
  refine #[_,rfl,_,rfl,trivial,_,rfl,bA ?_];refine #[_,rfl,_,_,rfl,rfl,_,rfl,?_];rw [dN (show ¬ i<1 by omega)];refine bA #[_,rfl,i,rfl,ah,rfl,_,rfl,?_];rw [a6];refine bA ?_;refine #[T.pW,rfl,#[hx,T.u2 H],λ D a8=>TL (xs:=hx) (f:=λ v=>match v with | .int p=>V.int (cnt p.toNat i.toNat:Nat) | v=>v) rfl .aA a8 (T.u2 H) ?_ ?_]
  ·intro x H' R aj r;obtain ⟨z,a6⟩:=mO aj;obtain ⟨p,rfl,aw,uk⟩:=xf a6;have fk:2<=p:=mM p (dr aw);refine #[_,rfl,_,rfl,p,i,rfl,fk,uk,.aD,?_];have b8:R (V.int (cnt ((p:Int).toNat) i.toNat:Nat)) H':=r;rw [iz] at b8;exact b8
  ·refine #[D,_,rfl,a9.of bL,λ p H' a_ sp aw=>q p H' ((aE.new a8).trans sp) ?_];rw [aw];rfl
theorem Rk (n d:Nat):List.zipWith (λ x y:Int=>x - y) (fb (hc n)) (fb (hc d))=chg n d:=by
 unfold fb chg;rw [List.zipWith_map]
noncomputable def aj2:b3:=λ vs H Q _ => ∃ (b:Addr) (i j:Int),vs=[.ref b]/\H b=some (.tup [.int i,.int j])/\jX i j=true /\ ∀ p H',aE H H'->H' p=some (tupI (chg i.toNat j.toNat))->Q (.ref p) H'
theorem aj3 (T:bB K mg):ml P w mg base 3 T.AO aj2:=by
 refine T.AO.fn.mx Ep (λ vs H Q E h=>?_) (λ bg A outer s H vs Q E aq h=>?_)
 ·obtain ⟨b,i,j,rfl,_⟩:=h;rfl
 ·obtain ⟨b,i,j,rfl,ae,hf,q⟩:=h;refine #[_,(aN (bV 1 Ep (lj (T9 T) (aq.mono .aA) rfl rfl T.th.at_ T.th.fn.bf T.th.bd (aa (dt iA (af 0) aI (λ _ _=>rfl)) ao)))
   (aN (bV 2 Ep (lj (T9 T) (aq.mono .aA) rfl rfl T.th.at_ T.th.fn.bf T.th.bd (aa (dt iA (af 0) aI (λ _ _=>rfl)) ao)))
   (aR (bE (kp va T.hM hL (aa (hz (e8 Ep (N:=["top", "bottom"]) (js:=[none,none]) (gU _)) rfl (pM rfl rfl T.ko (aa (af 1) (aa (af 2) ao))) (λ _ _ _ _=>(nK (K:=K) (n:=2) rfl rfl (du g_ (du (l0 (i:=1) (show List.Nodup (["top", "bottom"]:bT) from by decide +kernel) rfl (Or.inl rfl) (Or.inr rfl)) hg)))) (λ _ _ _ _=>hN)
     (λ _ _ _ _=>(bU kq (af 0) (af 1)))) ao)))))),?_]
  obtain ⟨⟨gp,hQ⟩,⟨c_,dP⟩⟩:=Ki hf;refine #[_,rfl,b,_,_,_,rfl,rfl,a0.of ae,rfl,i,rfl,gp,hQ,λ p1 H1 s1 iu=>?_];refine #[_,rfl,b,_,_,_,rfl,rfl,a0.of (s1 _ _ ae),rfl,j,rfl,c_,dP,λ dm au s2 fk=>?_];refine #[_,rfl,_,rfl,p1,dm,rfl,#[_,a0.of (s2 _ _ iu)],#[_,a0.of fk],λ D a8=>?_];refine AF (f:=λ x y=>x - y) (σ0:=[]) (xs:=fb (hc i.toNat)) (ys:=fb (hc j.toNat)) (by simp [fb,hc,dE];decide) #[_,_,rfl] a8 (s2 _ _ iu) fk (λ x y H' R _ _ r=>#[_,rfl,_,rfl,_,_,rfl,rfl,r]) λ aW s3 aH=>?_
  refine #[D,_,rfl,a9.of aH,λ p bc a_ s4 aw=>q p bc (((s1.trans s2).trans s3).trans s4) ?_];rw [aw,Rk]
noncomputable def Uk:b3:=λ vs H Q _ => ∃ (b:Addr) (xs:bl) (fs:f_),vs=[.ref b]/\H b=some (.tup xs)/\h_ H xs fs/\xs.length<=1000 /\
 ∀ l H' ys,H l=none->aE H H'->H' l=some (.lst ys)->fH H' ys (rowsOf fs)->Q (.ref l) H'
theorem Uo (T:bB K mg):ml P w mg base 4 T.xj Uk:=by
 refine T.xj.fn.mx Ui (λ vs H Q E h=>?_) (λ bg A outer s H vs Q E aq h=>?_)
 ·obtain ⟨b,xs,fs,rfl,_⟩:=h;rfl
 ·obtain ⟨b,xs,fs,rfl,ae,hf,av,q⟩:=h;refine #[_,(aR (bE (hz (e8 Ui (N:=["fraction"]) (js:=[none]) (gU _)) rfl (pL (af 0)) (λ _ _ _ _=>g_) (λ _ _ _ _=>hN)
     (λ _ _ _ _=>(lj (aj3 T) (aq.mono .aA) rfl rfl T.AO.at_ T.AO.fn.bf T.AO.bd (aa (af 0) ao)))))),?_]
  refine #[_,rfl,b,rfl,#[_,a0.of ae],λ D a8=>?_];refine DP (xs:=xs) (by rw [ef];omega) (λ i σ' H' ys=>(∃ u:dG,σ'=[u])/\aE H H'/\fH H' ys ((rowsOf fs).take i)) #[#[_,rfl],aE.new a8,fH.nil] (λ i σ' H' ys _ _ ⟨_,s',_⟩=>a0.of (s' _ _ ae)) ?_ ?_
  ·rintro i x σ' H' ys R aj ei jj ⟨⟨u,rfl⟩,s',kh⟩ dF;obtain ⟨a,d,c,f1,rfl,ak,f4⟩:=hf.2 i x aj;refine #[_,rfl,c,a,d,rfl,s' _ _ ak,f4,λ p au s2 aw=>?_];refine dF _ _ _ (s2 _ _ ei) #[#[_,rfl],?_,?_]
   ·intro e o fz;rw [bj (cf fz a8)];exact s2 _ _ (s' _ _ fz)
   ·have aM:(rowsOf fs)[i]?=some (chg a.toNat d.toNat):=by unfold rowsOf;rw [fK,f1];rfl
    rw [sU,aM];exact fH.but ((kh.same s2).app (fH.one #[p,rfl,aw])) (s2 _ _ ei) bN.upd
  ·rintro σ' H' ys ei jj ⟨_,s',kh⟩;rw [oA (by rw [Az,<-hf.1];exact b9 _)] at kh;exact q D H' ys a8 s' ei kh
theorem aje (T:bB K mg):c8 P w mg base cS 4 T.xj Uk:=(Uo T).fn
noncomputable def adB:b3:=λ vs H Q _ => ∃ (a b:Addr) (cs ag:aV),vs=[.ref a,.ref b]/\H a=some (tupI cs)/\H b=some (tupI ag) /\ ∀ H',aE H H'->Q (.aX (e0 cs ag)) H'
theorem acw {cs ag:aV} {i:Nat} {a b:Int} (ah:cs[i]?=some a) (ai:ag[i]?=some b) (h:b+a<0):e0 cs ag=false:=by
 rw [sW];intro z;have:=As.mp z i a b ah ai;omega
theorem RI (T:bB K mg):ml P w mg base 1 T.sH adB:=by
 refine T.sH.fn.mx I6 (λ vs H Q E h=>?_) (λ bg A outer s H vs Q E aq h=>?_)
 ·obtain ⟨a,b,cs,ag,rfl,_⟩:=h;rfl
 ·obtain ⟨a,b,cs,ag,rfl,ay,ae,q⟩:=h;refine #[_,(aN (hu fU rfl (pM rfl rfl T.ko (aa (af 0) (aa (af 1) ao))) (nH rfl (du (d7 2 I6) (du (d7 3 I6) hg)))
    (aR (cN (ct nz (bU gL (af 3) (af 2)) aI (bS _))
    (aR (bE gz))
    cB)))
   (aR (bE gz))),?_]
  refine #[_,rfl,_,rfl,a,b,rfl,#[_,a0.of ay],#[_,a0.of ae],?_];refine QT (xs:=cs.map V.int) (ys:=ag.map V.int) (λ i σ au=>(∃ u v:dG,σ=[some (.ref a),some (.ref b),u,v])/\aE H au /\ ∀ j,j<i -> ∀ x y,cs[j]?=some x->ag[j]?=some y->0<=y+x) #[#[none,none,rfl],aE.refl H,λ j b5=>by omega] (λ i σ au _ ⟨_,s2,_⟩=>#[a0.of (s2 _ _ ay),a0.of (s2 _ _ ae)]) ?_ ?_
  ·rintro i x y p σ au aj aT aw ⟨⟨u,v,rfl⟩,s2,jo⟩;obtain ⟨x,rfl,dD⟩:=l1 aj;obtain ⟨y,rfl,eZ⟩:=l1 aT;refine #[p,_,rfl,a0.of bL,rfl,_,_,rfl,_,_,rfl,rfl,?_];refine #[_,rfl,_,rfl,_,_,rfl,rfl,_,_,rfl,rfl,_,rfl,eJ (λ h=>?_) (λ h=>?_)]
   ·have h0:y+x<0:=eT h;have aY:=q _ (aE.more (o:=.tup [.int x,.int y]) s2 aw);rw [acw dD eZ h0] at aY;exact aY
   ·have h0 : ¬ y+x<0:=λ z=>h (cc z)
    refine #[#[_,_,rfl],aE.more s2 aw,λ j b5 e7 ij aM aO=>?_];by_cases yG:j=i
    ·subst yG;rw [dD] at aM;rw [eZ] at aO;cases aM;cases aO;omega
    ·exact jo j .aD e7 ij aM aO
  ·rintro σ au ⟨⟨u,v,rfl⟩,s2,jo⟩;have aY:=q au s2;rw [As.mpr λ j x y aM aO=>jo j ?_ x y aM aO] at aY
   ·exact aY
   ·have ah:=(fJ.mp aM).1;have ai:=(fJ.mp aO).1;rw [bY,bY];omega
noncomputable def Tz:b3:=λ vs H Q _ => ∃ (l b:Addr) (ys:bl) (rows:fq) (ag:aV),vs=[.ref l,.ref b]/\H l=some (.lst ys)/\fH H ys rows/\H b=some (tupI ag) /\ ∀ H',aE H H'->Q (mF (dq rows ag)) H'
theorem TP (T:bB K mg):ml P w mg base 2 T.w9 Tz:=by
 refine T.w9.fn.mx Kv (λ vs H Q E h=>?_) (λ bg A outer s H vs Q E aq h=>?_)
 ·obtain ⟨l,b,ys,rows,ag,rfl,_⟩:=h;rfl
 ·obtain ⟨l,b,ys,rows,ag,rfl,av,oc,ae,q⟩:=h;refine #[_,(aN (hu fU rfl (Q8 rfl rfl T.Tp (aa (af 0) ao)) (nH rfl (du (d7 2 Kv) (du (d7 3 Kv) hg)))
    (aR (cN (eu (lj (RI T) (aq.mono .aA) rfl rfl T.sH.at_ T.sH.fn.bf T.sH.bd (aa (af 3) (aa (af 1) ao))))
    (aR (bE (af 2)))
    cB)))
   (aR (bE e2))),?_]
  refine #[_,rfl,l,ys,rfl,av,?_];refine Rz (xs:=ys) (λ i σ au=>(∃ u v:dG,σ=[some (.ref l),some (.ref b),u,v])/\aE H au /\ ∀ j,j<i -> ∀ c,rows[j]?=some c->e0 c ag=false) #[#[none,none,rfl],aE.refl H,λ j b5=>by omega] (λ i σ au _ ⟨_,s2,_⟩=>s2 _ _ av) ?_ ?_
  ·rintro i x p σ au aj aw ⟨⟨u,v,rfl⟩,s2,jo⟩;obtain ⟨c,a,ak,rfl,ay⟩:=oc.at aj;have s3:=aE.more (o:=.tup [.int (i:Int),.ref a]) s2 aw;refine #[p,_,rfl,a0.of bL,rfl,_,_,rfl,_,_,rfl,rfl,?_];refine #[_,rfl,_,rfl,a,b,c,ag,rfl,s3 _ _ ay,s3 _ _ ae,λ bc s4=>#[_,rfl,eJ (λ h=>?_) (λ h=>?_)]]
   ·have aY:=q bc (s3.trans s4);rw [DB rows ag i jo (λ cq e=>by rw [ak] at e;cases e;exact h) (fJ.mp ak).1] at aY;exact #[_,rfl,aY]
   ·refine #[#[_,_,rfl],s3.trans s4,λ j b5 cq e=>?_];by_cases yG:j=i
    ·subst yG;rw [ak] at e;cases e;cases z:e0 c ag with
     | true=>exact absurd z h
     | false=>rfl
    ·exact jo j .aD cq e
  ·rintro σ au ⟨⟨u,v,rfl⟩,s2,jo⟩;have aY:=q au s2;rw [JF rows ag λ j c e=>jo j (by rw [oc.1];exact (fJ.mp e).1) c e] at aY;exact aY
theorem aip (T:bB K mg):c8 P w mg base cS 2 T.w9 Tz:=(TP T).fn
noncomputable def RU:b3:=λ vs H Q _ => ∃ (a b:Addr) (ag cs:aV) (m:Int),vs=[.ref a,.ref b,.int m]/\H a=some (tupI ag)/\H b=some (tupI cs)/\(-(2 ^ 64)<m/\m<2 ^ 64)/\ag.length<=1000 /\ ∀ p H',aE H H'->H' p=some (tupI (cT ag cs m))->Q (.ref p) H'
theorem JN (T:bB K mg):ml P w mg base 1 T.ri RU:=by
 refine T.ri.fn.mx RQ (λ vs H Q E h=>?_) (λ bg A outer s H vs Q E aq h=>?_)
 ·obtain ⟨a,b,ag,cs,m,rfl,_⟩:=h;rfl
 ·obtain ⟨a,b,ag,cs,m,rfl,ay,ae,hm,av,q⟩:=h;refine #[_,(aR (bE (kp va T.hM hL (aa (hz (e8 RQ (N:=["power", "change", "many"]) (js:=[none,none,some 2]) (oH.mpr #[rfl,(gU _)])) rfl (pM rfl rfl T.ko (aa (af 0) (aa (af 1) ao))) (λ _ _ _ _=>(nK (K:=K) (n:=2) rfl rfl (du g_ (du (l0 (i:=1) (show List.Nodup (["power", "change", "many"]:bT) from by decide +kernel) rfl (Or.inl rfl) (Or.inr rfl)) hg)))) (λ _ _ _ _=>hN)
     (λ _ _ _ _=>(bU gL (af 0) (bU q9 (af 2) (af 1))))) ao)))),?_]
  refine #[_,rfl,_,rfl,a,b,rfl,#[_,a0.of ay],#[_,a0.of ae],λ D a8=>?_];refine AF (f:=λ x y=>x+m * y) (σ0:=[some (.int m)]) (xs:=ag) (ys:=cs) (by rw [ef];omega) #[_,_,rfl] a8 ay ae (λ x y H' R _ _ r=>#[_,rfl,_,rfl,_,rfl,_,_,rfl,rfl,.inl hm,_,_,rfl,rfl,r]) λ aW s3 aH=>?_
  exact #[D,_,rfl,a9.of aH,λ p bc a_ s4 aw=>q p bc (s3.trans s4) aw]
theorem aeK (T:bB K mg):c8 P w mg base cS 1 T.ri RU:=(JN T).fn
noncomputable def ajS:b3:=λ vs H Q _ => ∃ (a b:Addr) (ag cs:aV),vs=[.ref a,.ref b]/\H a=some (tupI ag)/\H b=some (tupI cs)/\ag.length=10/\cs.length=10/\nn ag=true/\(∀ x∈cs,-40<x/\x<40) /\ ∀ H' o,aE H H'->zL ag cs o->Q (mF o) H'
theorem ajU (T:bB K mg):ml P w mg base 1 T.AK ajS:=by
 refine T.AK.fn.mx UE (λ vs H Q E h=>?_) (λ bg A outer s H vs Q E aq h=>?_)
 ·obtain ⟨a,b,ag,cs,rfl,_⟩:=h;rfl
 ·obtain ⟨a,b,ag,cs,rfl,ay,ae,es,mD,gP,Gf,q⟩:=h;refine #[_,(aR (bE (Q7 rfl (by rfl) T.zV zN (aa (hz (e8 UE (N:=["power", "change"]) (js:=[none,none]) (gU _)) rfl (pM rfl rfl T.ko (aa (af 0) (aa (af 1) ao))) (λ _ _ _ _=>(nK (K:=K) (n:=2) rfl rfl (du g_ (du (l0 (i:=1) (show List.Nodup (["power", "change"]:bT) from by decide +kernel) rfl (Or.inl rfl) (Or.inr rfl)) hg)))) (λ _ _ _ _=>(Q_ (ct nz (af 1) aI (bS _))))
     (λ _ _ _ _=>(bU w0 (af 0) (qZ ra (af 1))))) ao)))),?_]
  refine #[_,rfl,_,rfl,a,b,rfl,#[_,a0.of ay],#[_,a0.of ae],λ D a8=>?_];refine aie (K:=K) (t:=λ _ y=>decide (y<0)) (f:=λ x y=>x / (-y)) (σ0:=[]) (xs:=ag) (ys:=cs) (by rw [es,mD,ef];decide) #[_,_,rfl] a8 ay ae (λ x y H' R _ _ r=>#[_,rfl,_,_,rfl,rfl,_,rfl,r]) (λ x y H' R _ aT aU r=>?_) λ H1 s1 ah=>?_
  ·have ah:y<0:=eT aU;have ai:=Gf y aT;exact #[_,rfl,_,rfl,_,rfl,_,_,rfl,rfl,#[.aD,.aD],r]
  ·refine #[D,zT ag cs,rfl,a9.of ah,λ e=>q H1 none s1 (af8 gP e),λ M ig ly=>?_];obtain ⟨xx,L⟩:=af9 gP ig ly;have:=q H1 _ s1 L;rw [show mF (some M.toNat)=V.int M by show V.int (M.toNat:Int)=_;rw [lZ xx]] at this;exact this
noncomputable def ajL:b3:=λ vs H Q _ => ∃ (a b c:Addr) (ag cs ds:aV),vs=[.ref a,.ref b,.ref c]/\H a=some (tupI ag)/\H b=some (tupI cs)/\H c=some (tupI ds)/\ag.length=10/\cs.length=10/\ds.length=10/\nn ag=true/\(∀ x∈cs,-40<x/\x<40)/\(∀ x∈ds,-40<x/\x<40) /\ ∀ H' o,aE H H'->ug ag cs ds o->Q (mF o) H'
theorem ajP (T:bB K mg):ml P w mg base 2 T.AI ajL:=by
 refine T.AI.fn.mx vb (λ vs H Q E h=>?_) (λ bg A outer s H vs Q E aq h=>?_)
 ·obtain ⟨a,b,c,ag,cs,ds,rfl,_⟩:=h;rfl
 ·obtain ⟨a,b,c,ag,cs,ds,rfl,ay,ae,ak,es,mD,Cu,gP,Gf,eY,q⟩:=h;refine #[_,(aN (bV 3 vb aI)
   (aN (hu fU rfl (adj rfl rfl T.ko (aa (af 0) (aa (af 1) (aa (af 2) ao)))) (nH rfl (du (d7 4 vb) (du (d7 5 vb) (du (d7 6 vb) hg))))
    (aN (bV 7 vb (bU kq (qZ ra (af 6)) (af 4)))
   (aR (cN (ct ov (af 7) aI (bS _))
    (aN (cN (ct zX (af 5) aI (bS _))
    (aR (bE e2))
    cB)
   (aR (bV 3 vb (bQ (Ar rfl) T.wz wt (aa (af 3) (aa (bU w0 (bU kq (bU gL (af 7) (af 5)) aI) (af 5)) ao))))))
    cB))))
   (aN (cN (eu (lj (RI T) (aq.mono .aA) rfl rfl T.sH.at_ T.sH.fn.bf T.sH.bd (aa (af 2) (aa (lj (JN T) (aq.mono .aA) rfl rfl T.ri.at_ T.ri.fn.bf T.ri.bd (aa (af 0) (aa (af 1) (aa (af 3) ao)))) ao))))
    (aR (bE (af 3)))
    cB)
   (aR (bE e2))))),?_]
  refine #[_,rfl,_,rfl,_,rfl,a,b,c,rfl,#[_,a0.of ay],#[_,a0.of ae],#[_,a0.of ak],?_];refine ad_ (K:=K) (xs:=ag.map V.int) (ys:=cs.map V.int) (zs:=ds.map V.int) (by rw [bY,bY,es,mD]) (by rw [bY,bY,es,Cu]) (λ i σ au => ∃ (m:Int) (h6 j_ me Fd:dG),σ=[some (.ref a),some (.ref b),some (.ref c),some (.int m),h6,j_,me,Fd]/\aE H au/\jm ag cs ds i m) #[0,none,none,none,none,rfl,aE.refl H,jm.start] (λ i σ au _ ⟨_,_,_,_,_,_,s2,_⟩=>#[a0.of (s2 _ _ ay),a0.of (s2 _ _ ae),a0.of (s2 _ _ ak)]) ?_ ?_
  ·rintro i x y z p σ au aj aT a6 aw ⟨m,h6,j_,me,Fd,rfl,s2,rK⟩;obtain ⟨x,rfl,dD⟩:=l1 aj;obtain ⟨y,rfl,eZ⟩:=l1 aT;obtain ⟨z,rfl,iv⟩:=l1 a6;have s3:aE H (upd au p (.tup [.int x,.int y,.int z])):=aE.more s2 aw;have akA:=eY z (dr iv);have akz:=Gf y (dr eZ);have x0:=pK.mp gP x (dr dD);refine #[p,_,rfl,a0.of bL,rfl,_,_,rfl,_,_,rfl,_,_,rfl,rfl,?_];refine #[_,rfl,_,rfl,_,rfl,_,_,rfl,rfl,?_];refine #[_,rfl,_,_,rfl,rfl,_,rfl,eJ (λ h=>?_) (λ h=>?_)]
   ·have av:0 < -z - x:=eT h;refine #[_,rfl,_,_,rfl,rfl,_,rfl,eJ (λ h'=>?_) (λ h'=>?_)]
    ·exact q _ none s3 (jm.never dD eZ iv av (eT h'))
    ·have qx:0<y:=by
      have : ¬ y<=0:=λ w=>h' (cc w)
      omega
     exact #[_,rfl,_,rfl,_,rfl,_,_,rfl,rfl,_,_,rfl,rfl,_,rfl,_,_,rfl,rfl,#[qx,.aD],_,_,rfl,_,_,_,_,_,rfl,s3,rK.more dD eZ iv av .aD qx]
   ·exact #[m,_,_,_,_,rfl,s3,rK.skip (y:=y) dD iv λ w=>h (cc w)]
  ·rintro σ au ⟨m,h6,j_,me,Fd,rfl,s2,rK⟩;rw [bY,es] at rK;have h0:=rK.1;have ah:=rK.2.1;refine #[_,rfl,_,rfl,_,rfl,_,rfl,a,b,ag,cs,m,rfl,s2 _ _ ay,s2 _ _ ae,#[.aD,.aD],.aD,λ r aW s3 aH=>?_];refine #[c,r,ds,cT ag cs m,rfl,s3 _ _ (s2 _ _ ak),aH,λ bc s4=>?_];have zh:=(s2.trans s3).trans s4;refine #[_,rfl,eJ (λ h=>?_) (λ h=>?_)]
   ·have:=q bc _ zh (rK.yes h);rw [show mF (some m.toNat)=V.int m by show V.int (m.toNat:Int)=_;rw [lZ h0]] at this;exact #[_,rfl,this]
   ·exact q bc none zh (rK.no es (sW.mpr h))
theorem J7 : ∀ (os:List (Option Nat)),(os.map mF).filter (λ v => !decide (v=V.bh))=((os.filterMap id).map λ n:Nat=>(n:Int)).map V.int
 | []=>rfl
 | none::os=>by
  show (os.map mF).filter _=_;rw [J7 os];rfl
 | some n::os=>by
  show V.int (n:Int)::(os.map mF).filter _=_;rw [J7 os];rfl
noncomputable def UH:b3:=λ vs H Q _ => ∃ (l a:Addr) (ys:bl) (rows:fq) (ag c:aV) (k:Nat),vs=[.ref l,.ref a,.int (k:Int)]/\H l=some (.lst ys)/\fH H ys rows/\ys.length<=1000/\H a=some (tupI ag)/\ag.length=10/\nn ag=true/\m_ rows/\Mj rows/\rows[k]?=some c /\
 ∀ H' o,aE H H'->mm rows ag c k o->(∀ T,o=some T->(∃ x∈ag,(T:Int)<=x)\/T<=1000)->Q (mF o) H'
theorem UI (T:bB K mg):ml P w mg base 3 T.xo UH:=by
 refine T.xo.fn.mx AM (λ vs H Q E h=>?_) (λ bg A outer s H vs Q E aq h=>?_)
 ·obtain ⟨l,a,ys,rows,ag,c,k,rfl,_⟩:=h;rfl
 ·obtain ⟨l,a,ys,rows,ag,c,k,rfl,av,dj,jj,ay,es,gP,R,B,aG,q⟩:=h;refine #[_,(aN (Dd (i:=3) AM.c6 rfl (Or.inr rfl) (dt fE (af 0) (af 2) (λ _ _=>rfl)))
   (aN (bV 4 AM (bU Ao (eK (aa (lj (ajU T) (aq.mono .aA) rfl rfl T.AK.at_ T.AK.fn.bf T.AK.bd (aa (af 1) (aa (af 3) ao))) ao)) (hz (e8 AM (N:=["ahead", "powers", "used"]) (js:=[none,some 1,some 3]) (oH.mpr #[rfl,(oH.mpr #[rfl,(gU _)])])) rfl (w1 (uZ adz (af 0) uS (uT (af 2)))) (λ _ _ _ _=>g_) (λ _ _ _ _=>hN)
     (λ _ _ _ _=>(lj (ajP T) (aq.mono .aA) rfl rfl T.AI.at_ T.AI.fn.bf T.AI.bd (aa (af 1) (aa (af 2) (aa (af 0) ao))))))))
   (aR (bE (Q7 rfl (by rfl) T.zV zN (aa (hz (e8 AM (N:=["end"]) (js:=[none]) (gU _)) rfl (w1 (af 4)) (λ _ _ _ _=>g_) (λ _ _ _ _=>(Q_ (ct I0 (af 0) e2 (bS _))))
     (λ _ _ _ _=>(af 0))) ao)))))),?_]
  obtain ⟨x,e,aj,rfl,he⟩:=dj.of aG;have eH:=dr aG;have tW:=(fJ.mp aG).1;refine #[_,rfl,_,rfl,l,_,_,_,rfl,rfl,a9.of av,lY (sX k) (by rw [iz];exact aj),?_];refine #[_,rfl,_,rfl,a,e,ag,c,rfl,ay,he,es,R c eH,gP,B c eH,λ H1 o s1 fB=>?_];refine #[bo,λ ew au f2 s2 hr=>?_];have nt:=s1.trans s2;refine #[_,rfl,_,rfl,_,rfl,l,ys,rfl,a9.of (nt _ _ av),λ d hd=>?_];rw [Jd (sX k),iz];have s3:aE au (upd au d (.lst (ys.take k))):=aE.new hd;have qv:(ys.take k).length=k:=by rw [nF,dj.1];omega
  refine #[d,rfl,#[_,a9.of bL],λ D a8=>?_];refine Sl (K:=K) (xs:=ys.take k) (by rw [qv,ef,<-dj.1] at *;omega) (λ i σ' H' zs=>(∃ u:dG,σ'=[u,some (.ref a),some (.ref e)])/\aE (upd au d (.lst (ys.take k))) H' /\ ∃ os:List (Option Nat),zs=os.map mF/\os.length=i /\ ∀ j,j<i -> ∀ r,rows[j]?=some r -> ∃ z,os[j]?=some z/\ug ag c r z) #[#[_,rfl],aE.new a8,[],rfl,rfl,λ j b5=>absurd b5 .aD] (λ i σ' H' zs _ _ ⟨_,s',_⟩=>a9.of (s' _ _ bL)) ?_ ?_
  ·rintro j x σ' H' zs Mk dD ei ki ⟨⟨u,rfl⟩,s',os,rfl,oa,m4⟩ dF;have BI:j<k:=by
    have:=(fJ.mp dD).1;omega
   have lM:ys[j]?=some x:=by rw [List.getElem?_take_of_lt BI] at dD;exact dD
   obtain ⟨r,qe,fG,rfl,XD⟩:=dj.at lM;have yQ:=dr fG;have E7:aE H H':=(nt.trans s3).trans s';refine #[_,rfl,_,rfl,_,rfl,a,e,qe,ag,c,r,rfl,E7 _ _ ay,E7 _ _ he,E7 _ _ XD,es,R c eH,R r yQ,gP,B c eH,B r yQ,λ bc z s4 a6=>?_];refine dF _ _ _ (s4 _ _ ei) #[#[_,rfl],?_,os++[z],?_,?_,?_]
   ·intro hD mc aO;rw [bj (cf aO a8)];exact s4 _ _ (s' hD mc aO)
   ·rw [mP];rfl
   ·rw [fm,oa];rfl
   ·intro i ax bP kh;by_cases Xo:i<j
    ·obtain ⟨eh,ah,ai⟩:=m4 i Xo bP kh;exact #[eh,by rw [sF .aD];exact ah,ai]
    ·have:i=j:=by omega
     subst this;rw [fG] at kh;cases kh;exact #[z,by rw [<-oa,List.getElem?_concat_length],a6]
  ·rintro σ' bc zs yk ki ⟨_,s4,os,rfl,oa,m4⟩;rw [qv] at oa m4;have zh:=s3.trans s4;refine #[ew,D,_,_,rfl,rfl,zh _ _ hr,yk,?_,λ EL bW fi s5 b4=>?_]
   ·rw [bY,oa,ef];show 1+k<=_;have:=dj.1;omega
   have v9:aE H bW:=(nt.trans zh).trans s5;refine #[_,rfl,EL,rfl,#[_,a9.of b4],λ Ex tO=>?_];refine aiD (K:=K) (t:=λ v => !decide (v=V.bh)) (σ0:=[]) (xs:=(o::os).map mF) ?_ #[_,rfl] tO b4 (λ x H' Mk _ _ r=>#[_,rfl,rfl,_,rfl,r]) (λ x H' Mk _ _ _ r=>#[_,rfl,r]) λ dO b_ dM=>?_
   ·rw [bY,j1,oa,ef];have:=dj.1;omega
   rw [J7] at dM;refine #[Ex,_,rfl,a9.of dM,λ xK=>?_,λ M ig ly=>?_]
   ·exact q dO none (v9.trans b_) (adD aG fB m4 (List.map_eq_nil_iff.mp xK)) (λ T z=>by cases z)
   ·obtain ⟨n,aF,rfl⟩:=e3.mp ig;obtain ⟨ah,ai⟩:=adE aG oa fB m4 aF λ b ae=>by
     have:=ly (b:Int) (pU ae);omega
    exact q dO (some n) (v9.trans b_) ah (λ T z=>by cases z;exact ai)
theorem ajQ (T:bB K mg):c8 P w mg base cS 3 T.xo UH:=(UI T).fn
theorem Rg {i:Int} (h:jt i=true):i<=1000000000000:=by
 unfold jt at h;simp only [jA,decide_eq_true_eq] at h;exact h.1.2
theorem aeb {i j:Int} (h:jX i j=true):i<=1000000000000/\j<=1000000000000:=by
 unfold jX at h;simp only [jA] at h;exact #[Rg h.1.1,Rg h.1.2]
theorem Ra {fs:f_} (hf:h_ H xs fs):Mj (rowsOf fs):=λ c ak x aj=>by
 obtain ⟨⟨i,j⟩,hm,rfl⟩:=e3.mp ak;obtain ⟨k,aG⟩:=mO hm;have tW:k<xs.length:=by rw [hf.1];exact (fJ.mp aG).1
 obtain ⟨j6,jF,a,ah,_,_,f⟩:=hf.2 k _ (fT tW);rw [aG] at ah;cases ah;obtain ⟨⟨gp,_⟩,⟨c_,_⟩⟩:=Ki f;obtain ⟨aks,akt⟩:=aeb f;exact abn .aD .aD .aD .aD aj
noncomputable def intOf:Option dG->Nat
 | some (some (V.int i))=>i.toNat
 | _=>0
noncomputable def OS (σ:St):Nat:=intOf σ[5]?
noncomputable def afh:b3:=λ vs H Q _ => ∃ (b a:Addr) (xs:bl) (fs:f_) (ag:aV) (m:Int),vs=[.ref b,.ref a,.int m]/\H b=some (.tup xs)/\h_ H xs fs/\xs.length<=1000/\H a=some (tupI ag)/\ag.length=10/\nn ag=true/\0<=m/\m<2 ^ 62 /\
 (∀ st d cur,fh (rowsOf fs) ag m.toNat st d cur->d<m.toNat->dq (rowsOf fs) cur≠none/\st<2000) /\
 (∀ st cur,fh (rowsOf fs) ag m.toNat st m.toNat cur -> ∀ aY H',aE H H'->H' aY=some (tupI cur)->Q (.ref aY) H')
theorem aeH (T:bB K mg):ml P w mg base 5 T.pI afh:=by
 refine T.pI.fn.mx hZ (λ vs H Q E h=>?_) (λ bg A outer s H vs Q E aq h=>?_)
 ·obtain ⟨b,a,xs,fs,ag,m,rfl,_⟩:=h;rfl
 ·obtain ⟨b,a,xs,fs,ag,m,rfl,ae,hf,av,ay,es,gP,m0,tB,dx,bb⟩:=h;refine #[_,(aN (bV 3 hZ (lj (Uo T) (aq.mono .aA) rfl rfl T.xj.at_ T.xj.fn.bf T.xj.bd (aa (af 0) ao)))
   (aN (bV 4 hZ (af 1))
   (aN (bV 5 hZ aI)
   (aN (bV 6 hZ aI)
   (aN (u1 fU (ct nz (af 5) (af 2) (bS _))
    (aN (bV 7 hZ (lj (TP T) (aq.mono .aA) rfl rfl T.w9.at_ T.w9.fn.bf T.w9.bd (aa (af 3) (aa (af 4) ao))))
   (aN (cN (ct oF (af 7) e2 (bS _))
    (aR DU)
    cB)
   (aN (cN (ct eS (af 6) (uY (by rfl) T.El) (bS _))
    (aR DU)
    cB)
   (aN (bV 8 hZ (lj (UI T) (aq.mono .aA) rfl rfl T.xo.at_ T.xo.fn.bf T.xo.bd (aa (af 3) (aa (af 4) (aa (af 7) ao)))))
   (aN (pO (eD.pt (gA (ct oF (af 8) e2 (bS _)) (hv (ct ov (af 8) (bU kq (af 2) (af 5)) (bS _)))))
    (aR (bV 8 hZ (bU kq (af 2) (af 5))))
    cB)
   (aN (bV 4 hZ (lj (JN T) (aq.mono .aA) rfl rfl T.ri.at_ T.ri.fn.bf T.ri.bd (aa (af 4) (aa (dt fE (af 3) (af 7) (λ _ _=>rfl)) (aa (af 8) ao)))))
   (aN (bV 5 hZ (bU gL (af 5) (af 8)))
   (aR (bV 6 hZ (bU gL (af 6) aI)))))))))))
   (aR (bE (af 4)))))))),?_]
  refine #[_,rfl,b,xs,fs,rfl,ae,hf,av,λ l H1 ys da s1 hr fG=>?_];have R:=pX fs;have B:=Ra hf;have jj:ys.length<=1000:=by rw [fG.1,Az,<-hf.1];exact av
  refine #[_,rfl,?_];refine u5 (λ σ aW => ∃ (hE:Addr) (cur:aV) (d st:Nat) (u v:dG),σ=[some (.ref b),some (.ref a),some (.int m),some (.ref l),some (.ref hE),some (.int (d:Int)),some (.int (st:Int)),u,v]/\aE H1 aW/\aW hE=some (tupI cur)/\fh (rowsOf fs) ag m.toNat st d cur)
   (λ σ _=>m.toNat - OS σ) #[a,ag,0,0,none,none,rfl,aE.refl H1,s1 _ _ ay,.nil] ?_
  rintro σ aW ⟨hE,cur,d,st,u,v,rfl,s3,qq,L⟩;obtain ⟨XI,Xk,gd,aS⟩:=L.facts R es gP;have mD:=q7 R es gP aS;refine #[_,rfl,_,rfl,_,_,rfl,rfl,_,rfl,eJ (λ h=>?_) (λ h=>?_)]
  ·have h0:(d:Int)<m:=eT h;have hq:d<m.toNat:=by omega
   refine uf #[_,rfl,_,rfl,l,hE,ys,rowsOf fs,cur,rfl,s3 _ _ hr,fG.same s3,qq,λ bc s4=>?_];cases kl:dq (rowsOf fs) cur with
   | none =>
    exact absurd kl (dx st d cur L hq).1
   | some k =>
    obtain ⟨c,ak,_,aG⟩:=s9 kl;obtain ⟨x,e,aj,rfl,he⟩:=(fG.same s3).of ak;have r3:=R c (dr ak);refine #[_,rfl,rfl,_,rfl,bA #[_,rfl,rfl,_,rfl,?_]];have ai:=(dx st d cur L hq).2;rw [dN (show ¬ V.int (st:Int)=V.int 2000 from λ z=>by injection z with z;omega)];refine bA ?_;refine #[_,rfl,_,rfl,_,rfl,l,hE,ys,rowsOf fs,cur,c,k,rfl,s4 _ _ (s3 _ _ hr),(fG.same s3).same s4,jj,s4 _ _ qq,mD.1,mD.2,R,B,ak,λ bW o s5 dT b0=>?_];have qG:=s4.trans s5;have p1:=Al dT mD.1 r3 kl (show 0<m.toNat - d by omega);have dm:=IQ o (m.toNat - d);have mX:=fh.go L hq .aD kl ak dT;refine #[λ σ' H'=>σ'=[some (.ref b),some (.ref a),some (.int m),some (.ref l),some (.ref hE),some (.int (d:Int)),some (.int (st:Int)),some (.int (k:Int)),some (.int (iV o (m.toNat - d):Nat))]/\bW=H',?_,?_]
    ·have all : ∀ {v:Int},v=(iV o (m.toNat - d):Nat)->[some (V.ref b),some (.ref a),some (.int m),some (.ref l),some (.ref hE),some (.int (d:Int)),some (.int (st:Int)),some (.int (k:Int)),some (.int v)]=[some (.ref b),some (.ref a),some (.int m),some (.ref l),some (.ref hE),some (.int (d:Int)),some (.int (st:Int)),some (.int (k:Int)),some (.int (iV o (m.toNat - d):Nat))]:=λ e=>by rw [e]
     cases o with
     | none =>
      exact #[_,rfl,rfl,_,rfl,cA (cA #[_,rfl,_,rfl,_,_,rfl,rfl,all (by show m - (d:Int)=((m.toNat - d:Nat):Int);omega),rfl])]
     | some iG =>
      refine #[_,rfl,rfl,_,rfl,bA #[_,rfl,_,rfl,_,rfl,_,_,rfl,rfl,_,_,rfl,rfl,_,rfl,eJ (λ h'=>?_) (λ h'=>?_)]]
      ·have vU:(iG:Int) > m - d:=eT h';exact #[_,rfl,_,rfl,_,_,rfl,rfl,all (by show m - (d:Int)=((min iG (m.toNat - d):Nat):Int);omega),rfl]
      ·have vU : ¬ (iG:Int) > m - d:=λ z=>h' (cc z)
       exact #[all (by show (iG:Int)=((min iG (m.toNat - d):Nat):Int);omega),rfl]
    rintro σ' H' ⟨rfl,rfl⟩;generalize iV o (m.toNat - d)=qf at *;refine #[_,rfl,_,rfl,_,rfl,l,_,_,_,rfl,rfl,a9.of (qG _ _ (s3 _ _ hr)),lY (sX k) (by rw [iz];exact aj),_,rfl,hE,e,cur,c,(qf:Int),rfl,qG _ _ qq,qG _ _ he,#[.aD,.aD],.aD,λ p dO b_ fQ=>?_];refine #[_,rfl,_,rfl,_,_,rfl,rfl,_,rfl,_,_,rfl,rfl,#[p,cT cur c qf,d+qf,st+1,_,_,rfl,(s3.trans qG).trans b_,fQ,mX],?_];show m.toNat - ((d:Int)+(qf:Int)).toNat<m.toNat - ((d:Int)).toNat;omega
  ·have h0 : ¬ (d:Int)<m:=λ z=>h (cc z)
   obtain rfl:d=m.toNat:=by omega
   exact #[_,rfl,bb st cur L hE aW (s1.trans s3) qq]
theorem ajv (T:bB K mg):eo P w K mg base cS 1 T.KS T.K2 ["self", "steps"] (I7 T.fw "steps"):=by
 refine T.Am.en ajA (λ vs H Q E h=>?_) (λ bg A outer s H vs Q E aq h=>?_)
 ·obtain ⟨e,t,v,rfl,_⟩:=h;rfl
 ·obtain ⟨e,t,v,rfl,he,q⟩:=h;refine #[_,(aR (adm rfl (af 0) (af 1) rfl)),?_];obtain ⟨cd,gn,hD,p6⟩:=T.oP.cls;refine #[_,rfl,_,rfl,e,T.fw,T.oT,t,cd,rfl,he,gn,hD,p6,T.oP.fN.b7,T.oP.vz,?_,λ aL iq=>q aL iq];show PySem.W.takerIn K T.fw "steps" = some none;unfold PySem.W.takerIn;rw [T.JB];rfl
noncomputable def afg (UT Eu:Addr):b3:=λ vs H Q E => ∃ (b a:Addr) (xs:bl) (fs:f_) (ag:aV) (m:Int),vs=[.ref b,.ref a,.int m]/\H b=some (.tup xs)/\h_ H xs fs/\xs.length<=1000/\H a=some (tupI ag)/\ag.length=10/\nn ag=true/\0<=m/\m<2 ^ 62 /\
 (∀ st cur,fh (rowsOf fs) ag m.toNat st m.toNat cur -> ∀ aY H',aE H H'->H' aY=some (tupI cur)->Q (.ref aY) H') /\
 (∀ st d cur,fh (rowsOf fs) ag m.toNat st d cur->d<m.toNat->dq (rowsOf fs) cur=none -> ∀ aL H',aE H H'->H' aL=some (.kI [("steps", .int (d:Int))])->E (.ref UT) (some aL) H') /\
 (sr (rowsOf fs) ag m.toNat -> ∀ H',aE H H'->E (.ref Eu) none H')
theorem aeJ (T:bB K mg):c8 P w mg base (iL P w) 5 T.pI (afg T.fw T.fx):=by
 refine T.pI.fn.ph hZ (λ vs H Q E h=>?_) (λ bg A outer s H vs Q E aq h=>?_)
 ·obtain ⟨b,a,xs,fs,ag,m,rfl,_⟩:=h;rfl
 ·obtain ⟨b,a,xs,fs,ag,m,rfl,ae,hf,av,ay,es,gP,m0,tB,bb,cg,eQ⟩:=h;refine #[_,(aN (bV 3 hZ (bR (aje T) aq bD (aa (af 0) ao)))
   (aN (bV 4 hZ (af 1))
   (aN (bV 5 hZ aI)
   (aN (bV 6 hZ aI)
   (aN (u1 PassesOwn.leaving (ct nz (af 5) (af 2) (bS _))
    (aN (bV 7 hZ (bR (aip T) aq bD (aa (af 3) (aa (af 4) ao))))
   (aN (cN (ct oF (af 7) e2 (bS _))
    (aR (agA rb rfl rfl T.oP (ajv T) (aq.mono .aA) T.adP (by rfl) (aa (af 5) ao)))
    cB)
   (aN (cN (ct eS (af 6) (uY (by rfl) T.El) (bS _))
    (aR (u0 rb rfl rfl T.R_ (by rfl) (aa ck ao)))
    cB)
   (aN (bV 8 hZ (bR (ajQ T) aq bD (aa (af 3) (aa (af 4) (aa (af 7) ao)))))
   (aN (pO (eD.pt (gA (ct oF (af 8) e2 (bS _)) (hv (ct ov (af 8) (bU kq (af 2) (af 5)) (bS _)))))
    (aR (bV 8 hZ (bU kq (af 2) (af 5))))
    cB)
   (aN (bV 4 hZ (bR (aeK T) aq bD (aa (af 4) (aa (dt fE (af 3) (af 7) (λ _ _=>rfl)) (aa (af 8) ao)))))
   (aN (bV 5 hZ (bU gL (af 5) (af 8)))
   (aR (bV 6 hZ (bU gL (af 6) aI)))))))))))
   (aR (bE (af 4)))))))),?_]
  refine #[_,rfl,b,xs,fs,rfl,ae,hf,av,λ l H1 ys da s1 hr fG=>?_];have R:=pX fs;have B:=Ra hf;have jj:ys.length<=1000:=by rw [fG.1,Az,<-hf.1];exact av
  refine #[_,rfl,?_];refine u5 (λ σ aW => ∃ (hE:Addr) (cur:aV) (d st:Nat) (u v:dG),σ=[some (.ref b),some (.ref a),some (.int m),some (.ref l),some (.ref hE),some (.int (d:Int)),some (.int (st:Int)),u,v]/\aE H1 aW/\aW hE=some (tupI cur)/\fh (rowsOf fs) ag m.toNat st d cur)
   (λ σ _=>m.toNat - OS σ) #[a,ag,0,0,none,none,rfl,aE.refl H1,s1 _ _ ay,.nil] ?_
  rintro σ aW ⟨hE,cur,d,st,u,v,rfl,s3,qq,L⟩;obtain ⟨XI,Xk,gd,aS⟩:=L.facts R es gP;have mD:=q7 R es gP aS;refine #[_,rfl,_,rfl,_,_,rfl,rfl,_,rfl,eJ (λ h=>?_) (λ h=>?_)]
  ·have h0:(d:Int)<m:=eT h;have hq:d<m.toNat:=by omega
   refine uf #[_,rfl,_,rfl,l,hE,ys,rowsOf fs,cur,rfl,s3 _ _ hr,fG.same s3,qq,λ bc s4=>?_];cases kl:dq (rowsOf fs) cur with
   | none =>
    refine #[_,rfl,rfl,_,rfl,cA #[_,rfl,_,rfl,λ aL bW s5 iq=>?_]];exact cg st d cur L hq kl aL bW (((s1.trans s3).trans s4).trans s5) iq
   | some k =>
    obtain ⟨c,ak,_,aG⟩:=s9 kl;obtain ⟨x,e,aj,rfl,he⟩:=(fG.same s3).of ak;have r3:=R c (dr ak);refine #[_,rfl,rfl,_,rfl,bA #[_,rfl,rfl,_,rfl,?_]];by_cases ai:st=2000
    ·rw [cc (show V.int (st:Int)=V.int 2000 by rw [ai];rfl)];subst ai;exact cA #[bo,eQ #[d,cur,L,hq,by rw [kl];exact λ z=>nomatch z] bc ((s1.trans s3).trans s4)]
    rw [dN (show ¬ V.int (st:Int)=V.int 2000 from λ z=>by injection z with z;omega)];refine bA ?_;refine #[_,rfl,_,rfl,_,rfl,l,hE,ys,rowsOf fs,cur,c,k,rfl,s4 _ _ (s3 _ _ hr),(fG.same s3).same s4,jj,s4 _ _ qq,mD.1,mD.2,R,B,ak,λ bW o s5 dT b0=>?_];have qG:=s4.trans s5;have p1:=Al dT mD.1 r3 kl (show 0<m.toNat - d by omega);have dm:=IQ o (m.toNat - d);have mX:=fh.go L hq .aD kl ak dT;refine #[λ σ' H'=>σ'=[some (.ref b),some (.ref a),some (.int m),some (.ref l),some (.ref hE),some (.int (d:Int)),some (.int (st:Int)),some (.int (k:Int)),some (.int (iV o (m.toNat - d):Nat))]/\bW=H',?_,?_]
    ·have all : ∀ {v:Int},v=(iV o (m.toNat - d):Nat)->[some (V.ref b),some (.ref a),some (.int m),some (.ref l),some (.ref hE),some (.int (d:Int)),some (.int (st:Int)),some (.int (k:Int)),some (.int v)]=[some (.ref b),some (.ref a),some (.int m),some (.ref l),some (.ref hE),some (.int (d:Int)),some (.int (st:Int)),some (.int (k:Int)),some (.int (iV o (m.toNat - d):Nat))]:=λ e=>by rw [e]
     cases o with
     | none =>
      exact #[_,rfl,rfl,_,rfl,cA (cA #[_,rfl,_,rfl,_,_,rfl,rfl,all (by show m - (d:Int)=((m.toNat - d:Nat):Int);omega),rfl])]
     | some iG =>
      refine #[_,rfl,rfl,_,rfl,bA #[_,rfl,_,rfl,_,rfl,_,_,rfl,rfl,_,_,rfl,rfl,_,rfl,eJ (λ h'=>?_) (λ h'=>?_)]]
      ·have vU:(iG:Int) > m - d:=eT h';exact #[_,rfl,_,rfl,_,_,rfl,rfl,all (by show m - (d:Int)=((min iG (m.toNat - d):Nat):Int);omega),rfl]
      ·have vU : ¬ (iG:Int) > m - d:=λ z=>h' (cc z)
       exact #[all (by show (iG:Int)=((min iG (m.toNat - d):Nat):Int);omega),rfl]
    rintro σ' H' ⟨rfl,rfl⟩;generalize iV o (m.toNat - d)=qf at *;refine #[_,rfl,_,rfl,_,rfl,l,_,_,_,rfl,rfl,a9.of (qG _ _ (s3 _ _ hr)),lY (sX k) (by rw [iz];exact aj),_,rfl,hE,e,cur,c,(qf:Int),rfl,qG _ _ qq,qG _ _ he,#[.aD,.aD],.aD,λ p dO b_ fQ=>?_];refine #[_,rfl,_,rfl,_,_,rfl,rfl,_,rfl,_,_,rfl,rfl,#[p,cT cur c qf,d+qf,st+1,_,_,rfl,(s3.trans qG).trans b_,fQ,mX],?_];show m.toNat - ((d:Int)+(qf:Int)).toNat<m.toNat - ((d:Int)).toNat;omega
  ·have h0 : ¬ (d:Int)<m:=λ z=>h (cc z)
   obtain rfl:d=m.toNat:=by omega
   exact #[_,rfl,bb st cur L hE aW (s1.trans s3) qq]
noncomputable def abd (T:bB K mg) (H:az) (b a:Addr) (fs:f_) (ag:aV) (m:Int):St->dA:=λ σ AQ d H1=>σ=[some (.ref b),some (.ref a),some (.int m),none]/\aE H H1/\((AQ=.ref T.fw /\ ∃ (aL:Addr) (st n:Nat) (r:aV),d=some aL/\H1 aL=some (.kI [("steps", .int (n:Int))])/\n<m.toNat/\fh (rowsOf fs) ag m.toNat st n r/\dq (rowsOf fs) r=none)\/(AQ=.ref T.fx/\d=none/\sr (rowsOf fs) ag m.toNat))
noncomputable def ah0 (Eu:Addr):b3:=λ vs H Q E => ∃ (b a:Addr) (xs:bl) (fs:f_) (ag:aV) (m:Int),vs=[.ref b,.ref a,.int m]/\H b=some (.tup xs)/\h_ H xs fs/\xs.length<=1000/\H a=some (tupI ag)/\ag.length=10/\nn ag=true/\0<=m/\m<2 ^ 62 /\
 (∀ (k:Nat) r t aY H',sq (rowsOf fs) ag m.toNat k r->aE H H'->H' t=some (.tup [.int (k:Int),.ref aY])->H' aY=some (tupI r)->Q (.ref t) H')/\(sr (rowsOf fs) ag m.toNat -> ∀ H',aE H H'->E (.ref Eu) none H')
theorem ahO (T:bB K mg):c8 P w mg base (iL P w) 7 T.R4 (ah0 T.fx):=by
 refine T.R4.fn.ph S5 (λ vs H Q E h=>?_) (λ bg A outer s H vs Q E aq h=>?_)
 ·obtain ⟨b,a,xs,fs,ag,m,rfl,_⟩:=h;rfl
 ·obtain ⟨b,a,xs,fs,ag,m,rfl,ae,hf,av,ay,es,gP,m0,tB,q,Vx⟩:=h;refine #[_,(aR (Q9 (G:=E) (E:=(abd T H b a fs ag m)) (i:=3) rfl rfl rfl T.oP.at_ (ahK T.oP) (aet T.En T.oP.fN.be) adM rfl (by rfl) S5.c6 rfl rfl (λ _ _ kJ=>(aR (bE (dh (aa (bQ (Ar rfl) T.wz wt (aa (af 2) (aa aI ao))) (aa (agw (aeJ T) (aq.mono .aA) rfl kJ rfl T.pI.at_ T.pI.fn.bf T.pI.bd (aa (af 0) (aa (af 1) (aa (af 2) ao)))) ao))))))
    (λ _=>(aR (bE (dh (aa (RN (K:=K) rfl (af 3) (by rfl)) (aa (ae7 (aeH T) ((aq.mark _).mono .aA) rfl rfl T.pI.at_ T.pI.fn.bf T.pI.bd (aa (af 0) (aa (af 1) (aa (RN (K:=K) rfl (af 3) (by rfl)) ao)))) ao)))))))),?_]
  have R:=pX fs;refine #[#[_,rfl,_,_,rfl,_,rfl,_,rfl,_,rfl,b,a,xs,fs,ag,m,rfl,ae,hf,av,ay,es,gP,m0,tB,λ st r L aY H1 s1 gJ=>?_,λ st n r L aF Gp aL H' s' iq=>#[rfl,s',.inl #[rfl,aL,st,n,r,rfl,iq,aF,L,Gp]],λ M H' s'=>#[rfl,s',.inr #[rfl,rfl,M]]],?_]
  ·refine #[bo,λ t au f2 s2 aU=>?_];refine q m.toNat r t aY au #[st,L,.inl rfl] (s1.trans s2) ?_ (s2 _ _ gJ);rw [aU];show some (e6.tup [V.int (if (0:Int) > m then 0 else m),_])=_;rw [if_neg .aD,lZ m0]
  ·rintro C d H1 σ1 ⟨rfl,s1,⟨eP,aL,st,n,r,rfl,iq,aF,L,Gp⟩ | ⟨eP,rfl,M⟩⟩
   ·cases eP;refine .inr #[rfl,λ e he hσ=>?_];have s2:aE H1 (upd H1 e (nx e T.fw (some aL))):=aE.new he;have hd2:=s2 _ _ iq;have gZ:H e=none:=s1.free he;refine #[_,rfl,e,T.fw,aL,_,_,rfl,bL,hd2,T.oP.fN,T.oP.hd,T.JB,rfl,_,rfl,_,rfl,_,rfl,e,T.fw,aL,_,_,rfl,bL,hd2,T.oP.fN,T.oP.hd,T.JB,rfl,#[_,_,bL],λ au ai k2=>?_];have h9:aE H au:=λ c o eg=>by
     have d0:c≠e:=λ z=>by rw [z,gZ] at eg;cases eg
     rw [k2 c d0,bj d0];exact s1 _ _ eg
    refine #[b,a,xs,fs,ag,(n:Int),rfl,h9 _ _ ae,hf.same h9,av,h9 _ _ ay,es,gP,.aD,.aD,λ eI d' cq mX h'=>?_,λ eI cq mX aY aW s3 gJ=>?_]
    ·rw [iz] at mX h';exact (L.again R es gP aF mX).1 h'
    ·rw [iz] at mX;rw [(L.again R es gP aF mX).2 (iX _)] at gJ;refine #[bo,λ t bc f4 s4 aU=>?_];exact q n r t aY bc #[st,L,.inr Gp] ((h9.trans s3).trans s4) aU (s4 _ _ gJ)
   ·cases eP;exact .inl #[rfl,Vx M H1 s1]
noncomputable def ajo:b3:=λ vs H Q _ => ∃ (b:Addr) (ar:aV),vs=[.ref b]/\H b=some (.lst (ar.map V.int))/\ar.length=10/\(∀ e∈ar,0<=e/\e<2 ^ 62) /\ ∀ H',aE H H'->Q (.int (prod (ar.map Int.toNat):Nat)) H'
theorem Ue (T:bB K mg):c8 P w mg base cS 2 T.Ed ajo:=by
 refine T.Ed.fn.en nO (λ vs H Q E h=>?_) (λ bg A outer s H vs Q E aq h=>?_)
 ·obtain ⟨b,ar,rfl,_⟩:=h;rfl
 ·obtain ⟨b,ar,rfl,ae,he,hm,q⟩:=h;refine #[_,(aN (bV 1 nO aI)
   (aN (hu fU rfl (adk rfl rfl T.ko (aa (Io (Kk T) aq bD) (aa (af 0) ao))) (nH rfl (du (d7 2 nO) (du (d7 3 nO) hg)))
    (aR (hu fU rfl (oR rfl T.mR (aa (af 3) ao)) (d7 4 nO)
    (aR (bV 1 nO (bU q9 (af 1) (af 2)))))))
   (aR (bE (af 1))))),?_]
  refine #[rfl,λ t aU=>#[_,rfl,t,b,rfl,#[_,a0.of bL],#[_,a9.of ((aE.new aU) _ _ ae)],?_]];have dH:hx.length=10:=rfl;have Gn:(ar.map V.int).length=10:=by rw [bY];exact he
  refine aea (xs:=hx) (ys:=ar.map V.int) (λ i σ au=>(∃ u v x:dG,σ=[some (.ref b),some (.int (jY (dE.take i) ((ar.map Int.toNat).take i):Nat)),u,v,x])/\aE (upd H t (.tup hx)) au) #[#[none,none,none,rfl],aE.refl _] ?_ ?_ ?_
  ·rintro i σ au ax ⟨_,s2⟩;exact #[a0.of (s2 _ _ bL),a9.of (s2 _ _ ((aE.new aU) _ _ ae))]
  ·rintro i x y z σ au aj aT a6 ⟨⟨u,v,e7,rfl⟩,s2⟩;obtain ⟨p,rfl,aw,uk⟩:=xf aj;obtain ⟨e,rfl,qs⟩:=l1 aT;obtain ⟨bX,aM⟩:=hm e (dr qs);refine #[z,_,rfl,a0.of bL,rfl,_,_,rfl,_,_,rfl,rfl,?_];refine #[_,rfl,e,rfl,.aD,aM,oQ (n:=e.toNat) (λ j σ aW=>(∃ x:dG,σ=[some (.ref b),some (.int ((jY (dE.take i) ((ar.map Int.toNat).take i) * p ^ j:Nat):Int)),some (.int p),some (.int e),x])/\aE (upd H t (.tup hx)) aW) #[#[e7,by rw [Nat.pow_zero,Nat.mul_one];rfl],aE.more s2 a6] ?_ ?_]
   ·rintro j σ aW b5 ⟨⟨hn,rfl⟩,s3⟩;refine #[_,rfl,_,rfl,_,_,rfl,rfl,.inr #[.aD,.aD],#[some (.int (0+(j:Int))),?_],s3];rw [Nat.pow_succ,<-sS,Int.natCast_mul _ p];rfl
   ·rintro σ aW ⟨⟨hn,rfl⟩,s3⟩;refine #[#[some (.int p),some (.int e),hn,?_],s3];have Hw:(ar.map Int.toNat)[i]?=some e.toNat:=by rw [fK,qs];rfl
    rw [J8 dE (ar.map Int.toNat) i p e.toNat aw Hw]
  ·rintro σ au ⟨⟨u,v,x,rfl⟩,s2⟩;have aO:min hx.length (ar.map V.int).length=10:=by rw [dH,Gn];rfl
   refine #[_,rfl,?_];rw [aO];have ho:dE.take 10=dE:=rfl;have f9:(ar.map Int.toNat).take 10=ar.map Int.toNat:=oA (by rw [bY,he];exact b9 _);rw [ho,f9];exact q au ((aE.new aU).trans s2)
noncomputable def aaD (H:az) (z:V):Prop := ∃ (l:Addr) (s:aV),z=.ref l/\H l=some (.lst (s.map V.int))/\s.length=10/\(∀ e∈s,0<=e)/\(ups s).sum<=2
theorem ajV (T:bB K mg):c8 P w mg base cS 5 T.Uy T1:=by
 refine T.Uy.fn.en mV (λ vs H Q E h=>?_) (λ bg A outer s H vs Q E aq h=>?_)
 ·obtain ⟨a,b,n,most,ns,rfl,_⟩:=h;rfl
 ·obtain ⟨a,b,n,most,ns,rfl,ay,ae,ni,nj,hm,k1,k2,q⟩:=h;refine #[_,(aN (bV 3 mV (bR (aiQ T) aq bD (aa (af 0) (aa (af 1) (aa (af 2) ao)))))
   (aN (cN (ct eS (bR (gC T) aq bD (aa (af 0) (aa aI ao))) aI (bS _))
    (aR (bE (af 3)))
    cB)
   (aN (bV 4 mV (eK ao))
   (aN (hu fU rfl (oR rfl T.mR (aa (bU gL aI (bR (gC T) aq bD (aa (af 0) (aa (af 2) ao)))) ao)) (d7 5 mV)
    (aN (bV 6 mV (eK ao))
   (aN (hu fU rfl (oR rfl T.mR (aa aI ao)) (d7 7 mV)
    (aN (bV 8 mV (bU RK (eK (aa aI ao)) aI))
   (aN (hu fU rfl (oR rfl T.mR (aa (bU gL aI (bR (gC T) aq bD (aa (af 0) (aa aI ao)))) ao)) (d7 9 mV)
    (aR (adl (af 8) (dt iA (af 1) (bR (gC T) aq bD (aa (af 0) (aa (bQ h1 T.gh gg (aa (af 1) ao)) ao))) (λ _ _=>rfl)) aI)))
   (aR (gi (jZ ks oJ oK pY (af 6) (aa (af 8) ao)))))))
   (aN (adn (i:=10) mV.c6 rfl (Or.inl rfl) (e8 mV (N:=["one", "other"]) (js:=[none,none]) (gU _)) rfl (DK rfl rfl T.ko (aa (dt fE (af 6) aI (λ _ _=>rfl)) (aa (dt fE (af 6) aI (λ _ _=>rfl)) ao))) (λ _ _ _ _=>(nK (K:=K) (n:=2) rfl rfl (du g_ (du (l0 (i:=1) (show List.Nodup (["one", "other"]:bT) from by decide +kernel) rfl (Or.inl rfl) (Or.inr rfl)) hg)))) (λ _ _ _ _=>hN)
     (λ _ _ _ _=>(bQ (Sh rfl) T.zV zN (aa (af 0) (aa (af 1) ao)))))
   (aN (bV 11 mV (bR (Ue T) aq bD (aa (hz (e8 mV (N:=["one", "other"]) (js:=[none,none]) (gU _)) rfl (DK rfl rfl T.ko (aa (dt fE (af 6) aI (λ _ _=>rfl)) (aa (af 10) ao))) (λ _ _ _ _=>(nK (K:=K) (n:=2) rfl rfl (du g_ (du (l0 (i:=1) (show List.Nodup (["one", "other"]:bT) from by decide +kernel) rfl (Or.inl rfl) (Or.inr rfl)) hg)))) (λ _ _ _ _=>hN)
     (λ _ _ _ _=>(bU kq (af 0) (af 1)))) ao)))
   (aR (gi (jZ ks oJ oK pY (af 4) (aa (dh (aa (af 11) (aa (bR (Ue T) aq bD (aa (hz (e8 mV (N:=["one", "other"]) (js:=[none,none]) (gU _)) rfl (DK rfl rfl T.ko (aa (dt fE (af 6) aI (λ _ _=>rfl)) (aa (af 10) ao))) (λ _ _ _ _=>(nK (K:=K) (n:=2) rfl rfl (du g_ (du (l0 (i:=1) (show List.Nodup (["one", "other"]:bT) from by decide +kernel) rfl (Or.inl rfl) (Or.inr rfl)) hg)))) (λ _ _ _ _=>hN)
     (λ _ _ _ _=>(bU kq (af 0) (af 1)))) ao)) ao))) ao)))))))))
   (aR (bE (kp va T.hM hL (aa (af 4) ao)))))))),?_]
  have kT:b≠a:=cW ae ay nofun;refine #[_,rfl,_,rfl,_,rfl,a,b,n,most,ns,rfl,ay,ae,ni,nj,hm,k1,k2,λ p H1 cC xs e4 yv iu gs Bj hI=>?_];refine #[_,rfl,a,cC,3,rfl,yv,.aA,.aA,λ r dB au cG E6 dK gc=>#[rfl,_,rfl,eJ (λ h=>?_) (λ h=>?_)]]
  ·exact #[_,rfl,q p au dB xs (e4.trans dK) gc (dK _ _ (cW iu yv nofun) iu) gs Bj λ x aj=>lX.jq a cC (hI x aj) yv dK]
  refine #[bo,λ jb aW di s3 ZZ=>?_];have gG:bN a H aW:=(e4.trans dK).trans (bN.of s3);have Wr:H jb=none:=(e4.trans dK).aaI gc di;have CD:jb≠a:=λ z=>by rw [z,gc] at di;cases di
  refine #[_,rfl,_,rfl,a,dB,most,rfl,s3 _ _ gc,.aD,.aD,λ bP g6 bc alp alu fo lG=>#[_,_,rfl,rfl,_,rfl,.aD,.aD,?_]];refine oQ (n:=(1+bP).toNat) (λ i σ bW => ∃ (hS:Int) (ys:bl) (Fe vC jc u8 n0 lO nu:dG),σ=[some (.ref a),some (.ref b),some (.int most),some (.ref p),some (.ref jb),Fe,vC,jc,u8,n0,lO,nu]/\bN a H bW/\bW a=some (.lst [.int hS])/\bW jb=some (.lst ys)/\ys.length=i /\ ∀ y∈ys,lX bW y)
   #[g6,[],none,none,none,none,none,none,none,rfl,gG.trans fo,lG,fo _ _ CD ZZ,rfl,λ y aT=>absurd aT .zs] ?_ ?_
  ·rintro i σ bW ax ⟨hS,ys,Fe,vC,jc,u8,n0,lO,nu,rfl,dX,qp,zE,jj,Gr⟩;refine #[bo,λ hT dO kB b_ Cy=>?_];have HO:hT≠a:=λ z=>by rw [z,qp] at kB;cases kB
   have aag:jb≠hT:=λ z=>by rw [<-z,zE] at kB;cases kB
   refine #[2,rfl,.aA,.aA,oQ (n:=2) (λ j σ dv => ∃ (ja:Int) (zs:bl) (mf Fg Fh:dG),σ=[some (.ref a),some (.ref b),some (.int most),some (.ref p),some (.ref jb),some (.int (0+(i:Int))),some (.ref hT),mf,Fg,Fh,lO,nu]/\ON a hT dO dv/\dv a=some (.lst [.int ja])/\dv hT=some (.lst zs)/\zs.length=j /\ ∀ z∈zs,aaD dv z)
    #[hS,[],_,_,_,rfl,λ c o _ _ e=>e,b_ _ _ qp,Cy,rfl,λ y aT=>absurd aT .zs] ?_ ?_]
   ·rintro j σ dv b5 ⟨ja,zs,mf,Fg,Fh,rfl,gN,yw,sl,ki,BU⟩;refine #[bo,λ o2 fg f8 dp fA=>#[o2,10,_,rfl,rfl,fA,.aA,.aA,.aA,λ ln hB vk ee lx=>?_]];have Cd:=dp.trans ee;have yh:dv ln=none:=dp.free vk;have HM:ln≠a:=λ z=>by rw [z,yw] at yh;cases yh
    have Pk:ln≠hT:=λ z=>by rw [z,sl] at yh;cases yh
    refine #[_,rfl,a,ja,2,rfl,Cd _ _ yw,.aA,.aA,λ b8 GU qi Hb alq r0 ZG=>#[_,_,rfl,rfl,_,rfl,.aD,.aD,?_]];have HZ:qi ln=some (.lst ((List.replicate 10 (0:Int)).map V.int)):=r0 _ _ HM lx;have OY:qi b=some (.tup (ns.map V.int)):=by
     refine r0 _ _ kT (Cd _ _ (gN _ _ kT ?_ (b_ _ _ (dX _ _ kT ae))));exact λ z=>by rw [<-z] at Cy;rw [b_ _ _ (dX _ _ kT ae)] at Cy;cases Cy
    refine oQ (n:=(1+b8).toNat) (λ t σ o6 => ∃ (y3:Int) (ar:aV) (Fl:dG),σ=[some (.ref a),some (.ref b),some (.int most),some (.ref p),some (.ref jb),some (.int (0+(i:Int))),some (.ref hT),some (.int (0+(j:Int))),some (.ref ln),Fl,lO,nu]/\ON a ln qi o6/\o6 a=some (.lst [.int y3])/\o6 ln=some (.lst (ar.map V.int))/\ar.length=10/\(∀ e∈ar,0<=e)/\(ups ar).sum<=t)
     #[GU,List.replicate 10 0,_,rfl,λ c o _ _ e=>e,ZG,HZ,rfl,.aA,.aA] ?_ ?_
    ·rintro t σ o6 aU ⟨y3,ar,Fl,rfl,n5,Hv,H0,ng,kO,Nk⟩;have YH:b≠ln:=λ z=>by rw [<-z,OY] at HZ;cases HZ
     have OZ:=n5 _ _ kT YH OY;refine #[_,rfl,_,rfl,_,rfl,_,rfl,b,_,rfl,.inr (a0.of OZ),a,y3,_,rfl,Hv,by rw [bY];omega,by rw [bY];omega,λ hj GV vE Hc YY hW ZH=>?_];rw [bY] at YY;have BR:hj.toNat<ns.length:=by omega
     obtain ⟨N6,aln⟩:=hm _ (sP BR);have px:=hW _ _ kT OZ;have PS:=hW _ _ HM H0;have kg:(ns[hj.toNat]).toNat<ar.length:=by omega
     have sj:(ar.map V.int)[(ns[hj.toNat]).toNat]?=some (.int ar[(ns[hj.toNat]).toNat]):=by rw [fK,fT kg];rfl
     refine #[b,_,_,.int ns[hj.toNat],rfl,rfl,a0.of px,lY Hc (by rw [fK,fT BR];rfl),?_];refine #[ln,_,_,_,rfl,rfl,PS,N6,sj,_,_,rfl,rfl,ln,_,_,_,rfl,rfl,PS,z9 N6 (by rw [bY];omega),?_];refine #[GV,ar.set (ns[hj.toNat]).toNat (ar[(ns[hj.toNat]).toNat]+1),_,rfl,?_,?_,?_,?_,?_,?_]
     ·intro c o na nl e;rw [bj nl];exact hW _ _ na (n5 _ _ na nl e)
     ·rw [bj HM.symm];exact ZH
     ·rw [bL,rg]
     ·rw [uN];exact ng
     ·intro e he;rcases List.mem_or_eq_of_mem_set he with z | z
      ·exact kO e z
      ·have:=kO _ (sP kg);omega
     ·have:=QA (fT kg);omega
    ·rintro σ o6 ⟨y3,ar,Fl,rfl,n5,Hv,H0,ng,kO,Nk⟩;have PT:o6 hT=some (.lst zs):=n5 _ _ HO Pk.symm (r0 _ _ HO (Cd _ _ sl));refine #[_,rfl,.inl #[rfl,_,a9.of PT],_,rfl,hT,_,_,rfl,rfl,PT,by rw [ef];omega,λ vE hW jM=>?_];have keep : ∀ c o,c≠a->c≠hT->dv c=some o->vE c=some o:=λ c o na c6 e =>
      hW _ _ c6 (n5 _ _ na (λ z=>by rw [z,yh] at e;cases e) (r0 _ _ na (Cd _ _ e)))
     refine #[y3,zs++[.ref ln],_,_,_,rfl,λ c o na c6 e=>keep c o na c6 (gN c o na c6 e),hW _ _ HO.symm Hv,jM,by rw [fm,ki];rfl,λ z a6=>?_];rcases oB.mp a6 with eh | eh
     ·obtain ⟨l,s',rfl,av,r⟩:=BU z eh;refine #[l,s',rfl,keep l _ ?_ ?_ av,r]
      ·intro y;rw [y,yw] at av;have ji:=r.1;have:(s'.map V.int).length=1:=by injection av with z;injection z with z;rw [<-z];rfl
       rw [bY] at this;omega
      ·intro y;rw [y,sl] at av;have ji:=r.1;have:(s'.map V.int).length=zs.length:=by injection av with z;injection z with z;rw [<-z]
       rw [bY,ki] at this;omega
     ·rw [eC] at eh;subst eh;exact #[ln,ar,rfl,hW _ _ Pk H0,ng,kO,.aD]
   ·rintro σ dv ⟨ja,zs,mf,Fg,Fh,rfl,gN,yw,sl,ki,BU⟩;obtain ⟨x3,ho,rfl⟩:=Qy ki
    ·obtain ⟨o2,t0,rfl,n8,CG,Zf,Zg⟩:=BU x3 .zs;obtain ⟨ew,t1,rfl,hr,CH,Zh,Zi⟩:=BU ho .zs;have BL:(List.zipWith jk t0 t1).length=10:=by rw [wV,CG,CH];rfl
     refine #[_,rfl,hT,_,_,_,rfl,rfl,a9.of sl,rfl,_,rfl,hT,_,_,_,rfl,rfl,a9.of sl,rfl,o2,ew,_,_,rfl,n8,hr,λ D a8=>?_];refine K1 (K:=K) (f:=jk) (σ0:=[]) (xs:=t0) (ys:=t1) (by rw [CG,CH,ef];decide) #[_,_,rfl] a8 n8 hr (λ x y H' R _ _ r=>#[_,rfl,_,rfl,_,_,rfl,r]) λ fg dp fA=>?_
     refine #[_,rfl,hT,_,_,_,rfl,rfl,a9.of (dp _ _ sl),rfl,_,rfl,o2,D,_,_,rfl,dp _ _ n8,fA,λ Ex tO=>?_];refine K1 (K:=K) (f:=kj) (σ0:=[]) (xs:=t0) (ys:=List.zipWith jk t0 t1) (by rw [CG,BL,ef];decide) #[_,_,rfl] tO (dp _ _ n8) fA (λ x y H' R _ _ r=>#[_,rfl,_,rfl,_,_,rfl,rfl,r]) λ hB ee lx=>?_
     have VC:=fl (Rj t0 t1 Zh) Zg;have Zb:=fl (Sp t0 t1 Zf) Zi;refine #[Ex,_,rfl,lx,by rw [wV,CG,BL];rfl,Qc (λ e he=>abo he) (by rw [HX];exact VC) .aA,λ l3 h5=>?_];have zk:=(dp.trans ee).trans h5;have alQ:jb≠a:=CD;have HD:dv jb=some (.lst ys):=gN _ _ CD aag (b_ _ _ zE);refine #[_,rfl,.inl #[rfl,_,a9.of (zk _ _ HD)],_,rfl,_,rfl,hT,_,_,_,rfl,rfl,a9.of (zk _ _ sl),rfl,_,rfl,ew,D,_,_,rfl,zk _ _ hr,h5 _ _ (ee _ _ fA),λ UU W5=>?_];refine K1 (K:=K) (f:=kj) (σ0:=[]) (xs:=t1) (ys:=List.zipWith jk t0 t1) (by rw [CH,BL,ef];decide) #[_,_,rfl] W5 (zk _ _ hr) (h5 _ _ (ee _ _ fA)) (λ x y H' R _ _ r=>#[_,rfl,_,rfl,_,_,rfl,rfl,r]) λ mW sB tx=>?_
     refine #[UU,_,rfl,tx,by rw [wV,CH,BL];rfl,Qc (λ e he=>abp he) (by rw [HY];exact Zb) .aA,λ AU Bd=>?_];have Y_:=(zk.trans sB).trans Bd;refine #[bo,λ xY ake akk VB ei=>?_];have Ce:=Y_.trans VB;refine #[jb,ys,_,rfl,rfl,Ce _ _ HD,by rw [ef];omega,λ UZ EG gO=>?_];rw [HX,HY] at ei;have keep : ∀ c o,c≠a->c≠jb->bW c=some o->UZ c=some o:=λ c o na nm e =>
      EG _ _ nm (Ce _ _ (gN _ _ na (λ z=>by rw [z,kB] at e;cases e) (b_ _ _ e)))
     refine #[ja,ys++[.ref xY],_,_,_,_,_,_,_,rfl,λ c o na e=>keep c o na (λ z=>by rw [z,Wr] at e;cases e) (dX c o na e),EG _ _ CD.symm (Ce _ _ yw),gO,by rw [fm,jj];rfl,λ y aT=>?_];rcases oB.mp aT with eh | eh
     ·obtain ⟨c,j6,jF,rfl,ak,f⟩:=Gr y eh;exact #[c,j6,jF,rfl,keep _ _ (cW ak qp nofun) (cW ak zE nofun) ak,f]
     ·rw [eC] at eh;subst eh;exact #[xY,_,_,rfl,EG _ _ (cW ei (Ce _ _ HD) nofun) ei,Ti .aD .aD]
  ·rintro σ bW ⟨hS,ys,Fe,vC,jc,u8,n0,lO,nu,rfl,dX,qp,zE,jj,Gr⟩;refine #[_,rfl,jb,ys,rfl,a9.of zE,λ iJ dO kB b_ dM=>?_];refine q iJ dO hS ys (dX.trans (bN.of b_)) (b_ _ _ qp) dM (by rw [jj];omega) (by rw [jj];omega) λ x aj=>?_
   obtain ⟨c,j6,jF,rfl,ak,f⟩:=Gr x aj;exact #[c,j6,jF,rfl,b_ _ _ ak,f]
end
theorem aiB:bootBuiltins "ValueError" = some (.type "ValueError"):=by decide +kernel
section
variable {w:World}
theorem agi {p:aV} (ah:M∈p) (ai : ∀ a∈p,M<=a):nn p=decide (0<=M):=by
 by_cases h:0<=M
 ·rw [cc h,pK];intro x aj;have:=ai x aj;omega
 ·rw [dN h,sW];intro z;exact h (pK.mp z M ah)
noncomputable def mA (H:az) (ts:bl) (fs:f_):Prop:=ts.length=fs.length /\ ∀ (k:Nat) (x:V),ts[k]?=some x -> ∃ i j e u m,fs[k]?=some (i,j)/\x=.ref e/\H e=some (.tup [.ref u,.ref m])/\H u=some (tupI (fb (hc j.toNat)))/\H m=some (tupI (chg i.toNat j.toNat))/\jX i j=true
theorem mA.same {fs:f_} (h:mA H xs fs) (s:aE H H'):mA H' xs fs:=#[h.1,λ k x e=>by
 obtain ⟨i,j,c,u,m,ah,ai,aH,a4,b4,dM⟩:=h.2 k x e;exact #[i,j,c,u,m,ah,ai,s _ _ aH,s _ _ a4,s _ _ b4,dM]]
theorem mA.but {fs:f_} (h:mA H xs fs) (av:H l=some (.lst ys)) (s:bN l H H'):mA H' xs fs:=#[h.1,λ k x e=>by
 obtain ⟨i,j,c,u,m,ah,ai,aH,a4,b4,dM⟩:=h.2 k x e;have n : ∀ {b:Addr} {zs:bl},H b=some (.tup zs)->b≠l:=λ ae=>cW ae av nofun
 exact #[i,j,c,u,m,ah,ai,s _ _ (n aH) aH,s _ _ (n a4) a4,s _ _ (n b4) b4,dM]]
theorem Q1 (l:eG):zW l=(fb l).map V.int:=by
 unfold zW fb;rw [kr];rfl
noncomputable def ah5:b3:=λ vs H Q _ => ∃ (b:Addr) (xs:bl) (fs:f_),vs=[.ref b]/\H b=some (.tup xs)/\h_ H xs fs/\xs.length<=1000 /\
 ∀ l H' ts,H l=none->aE H H'->H' l=some (.lst ts)->mA H' ts fs->Q (.ref l) H'
theorem ahT (T:bB K mg):c8 P w mg base cS 4 T.R8 ah5:=by
 refine T.R8.fn.en xd (λ vs H Q E h=>?_) (λ bg A outer s H vs Q E aq h=>?_)
 ·obtain ⟨b,xs,fs,rfl,_⟩:=h;rfl
 ·obtain ⟨b,xs,fs,rfl,ae,hf,av,q⟩:=h;refine #[_,(aN (bV 1 xd (eK ao))
   (aN (hu fU rfl (pL (af 0)) (nH rfl (du (d7 2 xd) (du (d7 3 xd) hg)))
    (aN (bV 4 xd (bR (SD T) aq bD (aa (af 3) ao)))
   (aR (gi (jZ ks oJ oK pY (af 1) (aa (dh (aa (af 4) (aa (kp va T.hM hL (aa (hz (e8 xd (N:=["one", "other"]) (js:=[none,none]) (gU _)) rfl (pM rfl rfl T.ko (aa (bR (SD T) aq bD (aa (af 2) ao)) (aa (af 4) ao))) (λ _ _ _ _=>(nK (K:=K) (n:=2) rfl rfl (du g_ (du (l0 (i:=1) (show List.Nodup (["one", "other"]:bT) from by decide +kernel) rfl (Or.inl rfl) (Or.inr rfl)) hg)))) (λ _ _ _ _=>hN)
     (λ _ _ _ _=>(bU kq (af 0) (af 1)))) ao)) ao))) ao))))))
   (aR (bE (af 1))))),?_]
  refine #[bo,λ t H1 f1 s1 XN=>?_];refine #[_,rfl,b,rfl,#[_,a0.of (s1 _ _ ae)],DA (xs:=xs) (λ i σ au=>(∃ u v x:dG,σ=[some (.ref b),some (.ref t),u,v,x])/\aE H au /\ ∃ ts,au t=some (.lst ts)/\mA au ts (fs.take i)) #[#[none,none,none,rfl],s1,[],XN,#[rfl,λ k x e=>by cases e]] (λ i σ au _ ⟨_,s2,_⟩=>a0.of (s2 _ _ ae)) ?_ ?_]
  ·rintro k x σ au aj ⟨⟨u,v,e7,rfl⟩,s2,ts,nq,vP⟩;obtain ⟨i,j,c,M0,rfl,ak,f4⟩:=hf.2 k x aj;obtain ⟨⟨gp,hQ⟩,⟨c_,dP⟩⟩:=Ki f4;refine #[c,_,rfl,a0.of (s2 _ _ ak),rfl,_,_,rfl,_,_,rfl,rfl,?_];refine #[_,rfl,j,rfl,c_,λ z=>absurd dP z,λ _ iK aW s3 di vX=>?_];rw [<-Tu .aD,Q1] at vX;refine #[_,rfl,.inl #[rfl,_,a9.of (s3 _ _ nq)],_,rfl,_,rfl,i,rfl,gp,λ z=>absurd hQ z,λ _ hl bc s4 akY sa=>?_];rw [<-Tu .aD,Q1] at sa;refine #[_,rfl,hl,iK,rfl,#[_,a0.of sa],#[_,a0.of (s4 _ _ vX)],λ D a8=>?_];refine AF (f:=λ x y=>x - y) (σ0:=[]) (xs:=fb (hc i.toNat)) (ys:=fb (hc j.toNat)) (by simp [fb,hc,dE];decide) #[_,_,rfl] a8 sa (s4 _ _ vX) (λ x y H' R _ _ r=>#[_,rfl,_,rfl,_,_,rfl,rfl,r]) λ bW s5 b4=>?_
   refine #[D,_,rfl,a9.of b4,λ m dO kB b_ Gy=>?_];rw [Rk] at Gy;refine #[bo,λ e dv p7 cL Nj=>?_];have zi:=(((s3.trans s4).trans s5).trans b_).trans cL;have Nz:dv iK=some (tupI (fb (hc j.toNat))):=cL _ _ (b_ _ _ (s5 _ _ (s4 _ _ vX)));refine #[t,ts,.ref e,rfl,rfl,zi _ _ nq,?_,λ fg kA fA=>?_]
   ·rw [vP.1,nF,ef];have:=hf.1;omega
   have n : ∀ {b:Addr} {zs:bl},dv b=some (.tup zs)->b≠t:=λ ae=>cW ae (zi _ _ nq) nofun
   refine #[#[_,_,_,rfl],?_,_,fA,?_]
   ·intro d o fz;exact kA d o (λ z=>by rw [z,f1] at fz;cases fz) (zi _ _ (s2 _ _ fz))
   ·have yt:=(vP.same zi).but (zi _ _ nq) kA;have qv:fs.take (k+1)=fs.take k++[(i,j)]:=by rw [sU,M0];rfl
    have tW:ts.length=k:=by
     rw [vP.1,nF];have:=(fJ.mp M0).1;omega
    refine #[by rw [qv,fm,fm,yt.1];rfl,λ f3 y eO=>?_];by_cases aG:f3<ts.length
    ·rw [sF aG] at eO;obtain ⟨j6,jF,cq,kH,cP,g1,g2⟩:=yt.2 f3 y eO;exact #[j6,jF,cq,kH,cP,by rw [qv,sF (by rw [<-yt.1];exact aG)];exact g1,g2]
    ·rw [wI .aD] at eO;have Gv:f3 - ts.length=0:=by
      have:=(fJ.mp eO).1;simp at this;omega
     rw [Gv] at eO;have Wh:y=.ref e:=by simpa using eO.symm
     refine #[i,j,e,iK,m,?_,Wh,kA _ _ (n Nj) Nj,kA _ _ (n Nz) Nz,kA _ _ (n (cL _ _ Gy)) (cL _ _ Gy),f4];rw [qv,wI (by rw [<-yt.1];omega),<-yt.1,Gv];rfl
  ·rintro σ au ⟨⟨u,v,e7,rfl⟩,s2,ts,nq,vP⟩;rw [hf.1,sV] at vP;exact #[_,rfl,q t au ts f1 s2 nq vP]
theorem aih {i j:Int} (h:jX i j=true):rl i.toNat j.toNat=true:=by
 unfold jX at h;simp only [jA] at h;exact h.2
noncomputable def ajm:b3:=λ vs H Q _ => ∃ (l b:Addr) (ts:bl) (fs:f_) (ag:aV),vs=[.ref l,.ref b]/\H l=some (.lst ts)/\mA H ts fs/\H b=some (tupI ag)/\ag.length=10/\nn ag=true /\ ∀ H',aE H H'->Q (mF (dq (rowsOf fs) ag)) H'
theorem Ud (T:bB K mg):c8 P w mg base cS 1 T.TG ajm:=by
 refine T.TG.fn.en AG (λ vs H Q E h=>?_) (λ bg A outer s H vs Q E aq h=>?_)
 ·obtain ⟨l,b,ts,fs,ag,rfl,_⟩:=h;rfl
 ·obtain ⟨l,b,ts,fs,ag,rfl,av,b0,ae,es,gP,q⟩:=h;refine #[_,(aN (hu fU rfl (Q8 rfl rfl T.Tp (aa (af 0) ao)) (nH rfl (du (d7 2 AG) (du (nH rfl (du (d7 3 AG) (du (d7 4 AG) hg))) hg)))
    (aR (cN (ct H4 (bQ (afG rfl) T.zV zN (aa (hz (e8 AG (N:=["one", "other"]) (js:=[none,none]) (gU _)) rfl (pM rfl rfl T.ko (aa (af 1) (aa (af 3) ao))) (λ _ _ _ _=>(nK (K:=K) (n:=2) rfl rfl (du g_ (du (l0 (i:=1) (show List.Nodup (["one", "other"]:bT) from by decide +kernel) rfl (Or.inl rfl) (Or.inr rfl)) hg)))) (λ _ _ _ _=>hN)
     (λ _ _ _ _=>(bU kq (af 0) (af 1)))) ao)) aI (bS _))
    (aR (bE (af 2)))
    cB)))
   (aR (bE e2))),?_]
  refine #[_,rfl,l,ts,rfl,av,?_];refine Rz (xs:=ts) (λ i σ au=>(∃ u v x:dG,σ=[some (.ref l),some (.ref b),u,v,x])/\aE H au /\ ∀ j,j<i -> ∀ c,(rowsOf fs)[j]?=some c->e0 c ag=false) #[#[none,none,none,rfl],aE.refl H,λ j b5=>by omega] (λ i σ au _ ⟨_,s2,_⟩=>s2 _ _ av) ?_ ?_
  ·rintro k x p σ au aj aw ⟨⟨u,v,e7,rfl⟩,s2,jo⟩;obtain ⟨i,j,e,h6,m,f1,rfl,he,GD,hm,f4⟩:=b0.2 k x aj;have s3:=aE.more (o:=.tup [.int (k:Int),.ref e]) s2 aw;refine #[p,_,rfl,a0.of bL,rfl,_,_,rfl,_,_,rfl,e,_,rfl,a0.of (s3 _ _ he),rfl,_,_,rfl,_,_,rfl,rfl,rfl,?_];refine #[_,rfl,_,rfl,b,h6,rfl,#[_,a0.of (s3 _ _ ae)],#[_,a0.of (s3 _ _ GD)],λ D a8=>?_];refine AF (f:=λ x y=>x - y) (σ0:=[]) (xs:=ag) (ys:=fb (hc j.toNat)) (by rw [es];simp [fb,hc,dE];decide) #[_,_,rfl] a8 (s3 _ _ ae) (s3 _ _ GD) (λ x y H' R _ _ r=>#[_,rfl,_,rfl,_,_,rfl,rfl,r]) λ bW s5 b4=>?_
   have ak:(rowsOf fs)[k]?=some (chg i.toNat j.toNat):=by unfold rowsOf;rw [fK,f1];rfl
   refine #[D,_,rfl,a9.of b4,λ z=>?_,λ M ig ly=>#[_,_,rfl,rfl,_,rfl,?_]]
   ·have:=nC List.length z;rw [wV,es] at this;simp [fb,hc,dE] at this
   have U8:=agi ig ly;rw [<-U8,ag8 (aih f4) gP];refine eJ (λ h=>?_) (λ h=>?_)
   ·have aY:=q bW (s3.trans s5);rw [DB (rowsOf fs) ag k jo (λ cq c2=>by rw [ak] at c2;cases c2;exact h) (fJ.mp ak).1] at aY;exact #[_,rfl,aY]
   ·refine #[#[_,_,_,rfl],s3.trans s5,λ jF b5 cq c2=>?_];by_cases yG:jF=k
    ·subst yG;rw [ak] at c2;cases c2;cases z:e0 (chg i.toNat j.toNat) ag with
     | true=>exact absurd z h
     | false=>rfl
    ·exact jo jF .aD cq c2
  ·rintro σ au ⟨⟨u,v,e7,rfl⟩,s2,jo⟩;have aY:=q au s2;rw [JF (rowsOf fs) ag λ j c e=>jo j (by rw [b0.1,<-Az];exact (fJ.mp e).1) c e] at aY;exact aY
noncomputable def aff:b3:=λ vs H Q _ => ∃ (l b:Addr) (ts:bl) (fs:f_) (ag c:aV) (k:Nat) (m:Int),vs=[.ref l,.ref b,.int (k:Int),.int m]/\H l=some (.lst ts)/\mA H ts fs/\H b=some (tupI ag)/\ag.length=10/\(rowsOf fs)[k]?=some c/\(-(2 ^ 64)<m/\m<2 ^ 64) /\ ∀ p H',aE H H'->H' p=some (tupI (cT ag c m))->Q (.ref p) H'
theorem aeI (T:bB K mg):c8 P w mg base cS 1 T.QD aff:=by
 refine T.QD.fn.en RP (λ vs H Q E h=>?_) (λ bg A outer s H vs Q E aq h=>?_)
 ·obtain ⟨l,b,ts,fs,ag,c,k,m,rfl,_⟩:=h;rfl
 ·obtain ⟨l,b,ts,fs,ag,c,k,m,rfl,av,b0,ae,es,ak,hm,q⟩:=h;refine #[_,(aR (bE (kp va T.hM hL (aa (hz (e8 RP (N:=["one", "other", "often"]) (js:=[none,none,some 3]) (oH.mpr #[rfl,(gU _)])) rfl (pM rfl rfl T.ko (aa (af 1) (aa (dt iA (dt fE (af 0) (af 2) (λ _ _=>rfl)) aI (λ _ _=>rfl)) ao))) (λ _ _ _ _=>(nK (K:=K) (n:=2) rfl rfl (du g_ (du (l0 (i:=1) (show List.Nodup (["one", "other", "often"]:bT) from by decide +kernel) rfl (Or.inl rfl) (Or.inr rfl)) hg)))) (λ _ _ _ _=>hN)
     (λ _ _ _ _=>(bU gL (af 0) (bU q9 (af 2) (af 1))))) ao)))),?_]
  have aG:k<ts.length:=by rw [b0.1,<-Az];exact (fJ.mp ak).1
  obtain ⟨i,j,e,h6,cP,f1,ex,he,GD,n9,f4⟩:=b0.2 k _ (fT aG);have r3:c=chg i.toNat j.toNat:=by
   unfold rowsOf at ak;rw [fK,f1] at ak;exact (gR ak).symm
  refine #[_,rfl,_,rfl,_,rfl,l,_,_,_,rfl,rfl,a9.of av,lY (sX k) (by rw [iz,fT aG,ex]),e,_,_,_,rfl,rfl,a0.of he,rfl,b,cP,rfl,#[_,a0.of ae],#[_,a0.of n9],λ D a8=>?_];refine AF (f:=λ x y=>x+m * y) (σ0:=[some (.int m)]) (xs:=ag) (ys:=chg i.toNat j.toNat) (by rw [es,J2];decide) #[_,_,rfl] a8 ae n9 (λ x y H' R _ _ r=>#[_,rfl,_,rfl,_,rfl,_,_,rfl,rfl,.inl hm,_,_,rfl,rfl,r]) λ aW s3 aH=>?_
  refine #[D,_,rfl,a9.of aH,λ p bc a_ s4 aw=>q p bc (s3.trans s4) ?_];rw [aw,r3];rfl
noncomputable def zZ:V->Bool
 | .bh=>true
 | .aX _=>true
 | .int _=>true
 | .str _=>true
 | _=>false
theorem D3 {v:V} (h:zZ v=true):dV H v:=by
 cases v<;>first | trivial | cases h
noncomputable def RV:b3:=λ vs H Q _ => ∃ found vM,vs=[found,vM]/\dV H found/\zZ vM=true/\Q (.aX (decide (found=vM))) H
theorem aeM (T:bB K mg):c8 P w mg base cS 2 T.rm (λ _ _ _ _=>False):=aeL
theorem J6 (T:bB K mg):c8 P w mg base cS 3 T.rm RV:=by
 refine T.rm.fn.en w7 (λ vs H Q E h=>?_) (λ bg A outer s H vs Q E aq h=>?_)
 ·obtain ⟨found,vM,rfl,_⟩:=h;rfl
 ·obtain ⟨found,vM,rfl,gq,hT,q⟩:=h;refine #[_,(aN (cN (ct oF (af 1) e2 (bS _))
    (aR (bE (hy oF (af 0) e2 (bS _))))
    cB)
   (aN (cN (eu (bQ eL T.dz dy (aa (af 1) (aa (eB (by rfl) T.sJ sI) ao))))
    (aR (bE (jy (bQ eL T.dz dy (aa (af 0) (aa (eB (by rfl) T.sJ sI) ao))) (i0 (hy eS (af 0) (af 1) (bS _))))))
    cB)
   (aN (cN (eu (bQ eL T.dz dy (aa (af 1) (aa (eB (by rfl) T.zU zM) ao))))
    (aR (bE (jy (bR (D_ T) aq bD (aa (af 0) ao)) (i0 (hy eS (af 0) (af 1) (bS _))))))
    cB)
   (aN (cN (eu (bQ eL T.dz dy (aa (af 1) (aa (eB (by rfl) T.pD pC) ao))))
    (aR (bE (jy (bQ eL T.dz dy (aa (af 0) (aa (eB (by rfl) T.pD pC) ao))) (i0 (hy eS (af 0) (af 1) (bS _))))))
    cB)
   (aN (cN (eD.pt (gA (ct iW (bQ eL T.dz dy (aa (af 1) (aa (eB (by rfl) T.hM hL) ao))) (bQ eL T.dz dy (aa (af 0) (aa (eB (by rfl) T.hM hL) ao))) (bS _)) (hv (ct iW (bQ eL T.dz dy (aa (af 1) (aa (eB (by rfl) T.uJ uH) ao))) (bQ eL T.dz dy (aa (af 0) (aa (eB (by rfl) T.uJ uH) ao))) (bS _)))))
    (aR (bE gz))
    cB)
   (aR (bE (jy (hy eS (bQ h1 T.gh gg (aa (af 0) ao)) (bQ h1 T.gh gg (aa (af 1) ao)) (bS _)) (i0 (bQ (rp rfl) T.qY qV (aa (hz (e8 w7 (N:=["one", "other"]) (js:=[none,none]) (gU _)) rfl (pM rfl rfl T.ko (aa (af 0) (aa (af 1) ao))) (λ _ _ _ _=>(nK (K:=K) (n:=2) rfl rfl (du g_ (du (l0 (i:=1) (show List.Nodup (["one", "other"]:bT) from by decide +kernel) rfl (Or.inl rfl) (Or.inr rfl)) hg)))) (λ _ _ _ _=>hN)
     (λ _ _ _ _=>(bR (aeM T) aq bD (aa (af 0) (aa (af 1) ao))))) ao))))))))))),?_]
  refine #[_,rfl,rfl,_,rfl,?_];obtain ⟨bz,ue,eV⟩:=wy (K:=K) (H:=H) (D3 (H:=H) hT);obtain ⟨hU,wa,oY⟩:=zR (K:=K) (H:=H) (D3 (H:=H) hT);obtain ⟨ts,tys,ar⟩:=qX (K:=K) (H:=H) (D3 (H:=H) hT);obtain ⟨kC,Ws,Wj⟩:=wy (K:=K) gq;obtain ⟨fs,Wt,Wk⟩:=qX (K:=K) gq;cases vM with
  | bh=>exact cA #[_,rfl,rfl,q]
  | aX b =>
   refine bA #[_,rfl,_, "bool", bz,_,rfl,ue,eV,_,rfl,cA ?_];refine #[_,rfl,_, "bool", kC,_,rfl,Ws,Wj,_,rfl,?_];cases found with
   | aX c=>exact cA #[_,rfl,_,rfl,rfl,q]
   | bh=>exact bA q
   | int i=>exact bA q
   | str x=>exact bA q
   | ref a=>exact bA q
   | jK _=>exact False.elim gq
   | ip _=>exact False.elim gq
   | ty _=>exact False.elim gq
  | int i =>
   refine bA #[_,rfl,_, "bool", bz,_,rfl,ue,eV,_,rfl,bA ?_];refine #[_,rfl,_, "int", hU,_,rfl,wa,oY,_,rfl,cA ?_];refine #[_,rfl,found,rfl,gq,_,rfl,?_];cases found with
   | int j=>exact cA #[_,rfl,_,rfl,rfl,q]
   | bh=>exact bA q
   | aX i=>exact bA q
   | str x=>exact bA q
   | ref a=>exact bA q
   | jK _=>exact False.elim gq
   | ip _=>exact False.elim gq
   | ty _=>exact False.elim gq
  | str x =>
   refine bA #[_,rfl,_, "bool", bz,_,rfl,ue,eV,_,rfl,bA ?_];refine #[_,rfl,_, "int", hU,_,rfl,wa,oY,_,rfl,bA ?_];refine #[_,rfl,_, "str", ts,_,rfl,tys,ar,_,rfl,cA ?_];refine #[_,rfl,_, "str", fs,_,rfl,Wt,Wk,_,rfl,?_];cases found with
   | str y=>exact cA #[_,rfl,_,rfl,rfl,q]
   | bh=>exact bA q
   | aX i=>exact bA q
   | int x=>exact bA q
   | ref a=>exact bA q
   | jK _=>exact False.elim gq
   | ip _=>exact False.elim gq
   | ty _=>exact False.elim gq
  | _=>cases hT
noncomputable def CX:bl->bl->Bool
 | [],[]=>true
 | x::xs,y::ys=>decide (x=y)&&CX xs ys
 | _,_=>false
theorem Js : ∀ xs ys:bl,CX xs ys=decide (xs=ys)
 | [],[]=>rfl
 | [],_::_=>rfl
 | _::_,[]=>rfl
 | x::xs,y::ys=>by
  show (decide (x=y)&&CX xs ys)=_;rw [Js xs ys];by_cases ah:x=y
  ·by_cases ai:xs=ys
   ·rw [ah,ai];simp
   ·rw [dN ai,s7,dN];intro z;injection z with _ z;exact ai z
  ·rw [dN ah,Bool.false_and,dN];intro z;injection z with z _;exact ah z
theorem QG : ∀ (xs ys:bl),xs.length=ys.length->((xs.zip ys).map λ p=>decide (p.1=p.2)).all id=decide (xs=ys)
 | [],[],_=>rfl
 | [],_::_,h=>by cases h
 | _::_,[],h=>by cases h
 | x::xs,y::ys,h=>by
  rw [<-Js];show (decide (x=y)&&((xs.zip ys).map λ p=>decide (p.1=p.2)).all id)=(decide (x=y)&&CX xs ys);rw [QG xs ys (by simpa using h),Js]
noncomputable def RW:b3:=λ vs H Q _ => ∃ (found:V) (b:Addr) (ys:bl),vs=[found,.ref b]/\dg H found/\H b=some (.tup ys)/\ys.length<=1000/\(∀ y∈ys,zZ y=true) /\ ∀ H',aE H H'->Q (.aX (decide (dR H found=some ys))) H'
theorem ahR (T:bB K mg):c8 P w mg base cS 4 T.rm RW:=by
 refine T.rm.fn.en w7 (λ vs H Q E h=>?_) (λ bg A outer s H vs Q E aq h=>?_)
 ·obtain ⟨found,b,ys,rfl,_⟩:=h;rfl
 ·obtain ⟨found,b,ys,rfl,⟨gq,Ys⟩,ae,jj,X1,q⟩:=h;refine #[_,(aN (cN (ct oF (af 1) e2 (bS _))
    (aR (bE (hy oF (af 0) e2 (bS _))))
    cB)
   (aN (cN (eu (bQ eL T.dz dy (aa (af 1) (aa (eB (by rfl) T.sJ sI) ao))))
    (aR (bE (jy (bQ eL T.dz dy (aa (af 0) (aa (eB (by rfl) T.sJ sI) ao))) (i0 (hy eS (af 0) (af 1) (bS _))))))
    cB)
   (aN (cN (eu (bQ eL T.dz dy (aa (af 1) (aa (eB (by rfl) T.zU zM) ao))))
    (aR (bE (jy (bR (D_ T) aq bD (aa (af 0) ao)) (i0 (hy eS (af 0) (af 1) (bS _))))))
    cB)
   (aN (cN (eu (bQ eL T.dz dy (aa (af 1) (aa (eB (by rfl) T.pD pC) ao))))
    (aR (bE (jy (bQ eL T.dz dy (aa (af 0) (aa (eB (by rfl) T.pD pC) ao))) (i0 (hy eS (af 0) (af 1) (bS _))))))
    cB)
   (aN (cN (eD.pt (gA (ct iW (bQ eL T.dz dy (aa (af 1) (aa (eB (by rfl) T.hM hL) ao))) (bQ eL T.dz dy (aa (af 0) (aa (eB (by rfl) T.hM hL) ao))) (bS _)) (hv (ct iW (bQ eL T.dz dy (aa (af 1) (aa (eB (by rfl) T.uJ uH) ao))) (bQ eL T.dz dy (aa (af 0) (aa (eB (by rfl) T.uJ uH) ao))) (bS _)))))
    (aR (bE gz))
    cB)
   (aR (bE (jy (hy eS (bQ h1 T.gh gg (aa (af 0) ao)) (bQ h1 T.gh gg (aa (af 1) ao)) (bS _)) (i0 (bQ (rp rfl) T.qY qV (aa (hz (e8 w7 (N:=["one", "other"]) (js:=[none,none]) (gU _)) rfl (pM rfl rfl T.ko (aa (af 0) (aa (af 1) ao))) (λ _ _ _ _=>(nK (K:=K) (n:=2) rfl rfl (du g_ (du (l0 (i:=1) (show List.Nodup (["one", "other"]:bT) from by decide +kernel) rfl (Or.inl rfl) (Or.inr rfl)) hg)))) (λ _ _ _ _=>hN)
     (λ _ _ _ _=>(bR (J6 T) aq bD (aa (af 0) (aa (af 1) ao))))) ao))))))))))),?_]
  have ma:dV H (.ref b):=Jg ae;obtain ⟨bz,ue,eV⟩:=wy (K:=K) ma;obtain ⟨hU,wa,oY⟩:=zR (K:=K) ma;obtain ⟨ts,tys,ar⟩:=qX (K:=K) ma;obtain ⟨tt,Hm,tu⟩:=sx (K:=K) ma;obtain ⟨d1,Hl,j5⟩:=CR (K:=K) ma;obtain ⟨EO,FV,FQ⟩:=sx (K:=K) gq;obtain ⟨da,FU,FP⟩:=CR (K:=K) gq;have U9:dR H (.ref b)=some ys:=kx ae;have EK:yZ H (.ref b)=false:=by show so (H b)=false;rw [ae];rfl
  refine #[_,rfl,rfl,_,rfl,bA ?_];refine #[_,rfl,_, "bool", bz,_,rfl,ue,eV,_,rfl,bA ?_];refine #[_,rfl,_, "int", hU,_,rfl,wa,oY,_,rfl,bA ?_];refine #[_,rfl,_, "str", ts,_,rfl,tys,ar,_,rfl,bA ?_];refine #[_,rfl,_, "tuple", tt,_,rfl,Hm,tu,_,rfl,_, "tuple", EO,_,rfl,FV,FQ,rfl,_,rfl,?_];rw [U9];cases b0:dR H found with
  | none =>
   refine cA (cA ?_);have aY:=q H (aE.refl H);rw [b0] at aY;exact aY
  | some xs =>
   obtain ⟨a,rfl,ay⟩:=uX b0;obtain ⟨GI,XZ⟩:=Ys xs b0;have EN:yZ H (.ref a)=false:=by show so (H a)=false;rw [ay];rfl
   refine bA #[_,rfl,_, "list", d1,_,rfl,Hl,j5,_,rfl,_, "list", da,_,rfl,FU,FP,rfl,_,rfl,?_];rw [EK,EN];refine bA ?_;refine #[_,rfl,a,xs,rfl,.inr (a0.of ay),_,rfl,b,ys,rfl,.inr (a0.of ae),rfl,_,rfl,?_];by_cases hle:xs.length=ys.length
   ·rw [show decide (V.int ((xs.length:Nat):Int)=V.int ((ys.length:Nat):Int))=true by rw [hle];simp];refine cA ?_;refine #[_,rfl,_,rfl,a,b,rfl,#[_,a0.of ay],#[_,a0.of ae],λ D a8=>?_];refine Rw (K:=K) (a:=a) (b:=b) (xs:=xs) (ys:=ys) (by rw [ef];omega) (λ i σ' H' zs=>(∃ u v:dG,σ'=[u,v])/\aE H H'/\zs=(((xs.zip ys).take i).map λ p=>decide (p.1=p.2)).map V.aX) #[#[_,_,rfl],aE.new a8,rfl] (λ i σ' H' zs _ ⟨_,s',_⟩=>#[a0.of (s' _ _ ay),a0.of (s' _ _ ae)]) ?_ ?_
    ·rintro i x y p σ' H' zs R aj aT aw ei ki ⟨⟨u,v,rfl⟩,s',rfl⟩ dF;refine #[p,_,rfl,a0.of bL,rfl,_,_,rfl,_,_,rfl,rfl,?_];have sp:aE H (upd H' p (.tup [x,y])):=aE.more s' aw;refine #[_,rfl,_,rfl,x,y,rfl,aE.kind sp (XZ x (dr aj)),X1 y (dr aT),?_];refine dF _ _ _ ?_ #[#[_,_,rfl],?_,?_]
     ·rw [bj (cf ei aw)];exact ei
     ·intro c o e;rw [bj (cf e a8)];exact sp c o e
     ·have a6:(xs.zip ys)[i]?=some (x,y):=by
       rw [wU];exact #[aj,aT]
      rw [AH a6,mP];rfl
    ·rintro σ' H' zs ei ki ⟨_,s',rfl⟩;refine #[D,_,rfl,a9.of ei,?_];have aM:(xs.zip ys).take (min xs.length ys.length)=xs.zip ys:=oA (by rw [List.length_zip];exact b9 _);rw [aM,QG xs ys hle];have aY:=q H' s';rw [b0] at aY;have aO:decide (some xs=some ys)=decide (xs=ys):=by
      by_cases z:xs=ys
      ·rw [z];simp
      ·rw [dN z,dN];intro y;injection y with y;exact z y
     rw [aO] at aY;exact aY
   ·rw [show decide (V.int ((xs.length:Nat):Int)=V.int ((ys.length:Nat):Int))=false from dN (λ z=>hle (by injection z with z;omega))];refine bA ?_;have aY:=q H (aE.refl H);rw [b0,dN (λ z=>hle (by injection z with z;rw [z]))] at aY;exact aY
noncomputable def SM:b3:=λ vs H Q E=>RV vs H Q E\/RW vs H Q E
theorem D5 (T:bB K mg):c8 P w mg base cS 4 T.rm SM:=eo.or ((J6 T).mono .aA) (ahR T)
noncomputable def D2:bT:=["rest", "deed", "name", "number", "order", "powers", "program", "row", "text", "trail", "shared", "many"]
structure uG (T:bB K mg) (C:Addr) (i:Nat):Prop where
 fN:PySem.W.kZ K C
 VF:PySem.W.kitOne K (.ref C) (.type "ValueError")=some true
 k0:PySem.W.kitOne K (.ref C) (.ref T.fw)=some (i == 0)
 k1:PySem.W.kitOne K (.ref C) (.ref T.gj)=some (i == 1)
 k2:PySem.W.kitOne K (.ref C) (.ref T.ff)=some (i == 2)
 k3:PySem.W.kitOne K (.ref C) (.ref T.rx)=some (i == 3)
 kF:PySem.W.kitOne K (.ref C) (.ref T.rt)=some (i == 4)
 k5:PySem.W.kitOne K (.ref C) (.ref T.gk)=some (i == 5)
 tA:PySem.W.kitOne K (.ref C) (.ref T.gD)=some (i == 6)
 rM:PySem.W.kitOne K (.ref C) (.ref T.rj)=some (i == 7)
 Vm:PySem.W.kitOne K (.ref C) (.ref T.rn)=some (i == 8)
 vq:PySem.W.kitOne K (.ref C) (.ref T.ru)=some (i == 9)
 sb:PySem.W.kitOne K (.ref C) (.ref T.ro)=some (i == 10)
 Yn:PySem.W.kitOne K (.ref C) (.ref T.fx)=some (i == 11)
noncomputable abbrev uM (i:Nat):List Bool:=[i == 0,i == 1,i == 2,i == 3,i == 4,i == 5,i == 6,i == 7,i == 8,i == 9,i == 10,i == 11]
theorem ai4 : ∀ i,i<12->(uM i).count true=1:=by decide
theorem ag4 : ∀ i,i<12->(uM i)[i]?=some true:=by decide
theorem ai3 : ∀ i,i<12 -> ∀ m,m<i->(uM i)[m]?=some (!true):=by decide
noncomputable def aiY (T:bB K mg):b3:=λ vs H Q _ => ∃ (e C:Addr) (i:Nat) (x:Str),vs=[.ref e]/\H e=some (nx e C none)/\uG T C i/\i<12/\D2[i]?=some x /\ ∀ H',aE H H'->Q (.str x) H'
theorem KU (T:bB K mg):HU P w K mg base 1 T.nL.f T.nL.fd ["e"] (aiY T):=by
 refine T.nL.fn.YT xk (λ vs H Q E h=>?_) (λ bg A outer s H vs Q E aq h=>?_)
 ·obtain ⟨e,C,i,x,rfl,_⟩:=h;rfl
 ·obtain ⟨e,C,i,x,rfl,he,k,ax,aj,q⟩:=h;refine #[_,(aN (bV 1 xk (eK (aa (bQ mT T.dz dy (aa (af 0) (aa (ky (v:=.ref T.fw) (by rfl) T.aeh rfl) ao))) (aa (bQ mT T.dz dy (aa (af 0) (aa (ky (v:=.ref T.gj) (by rfl) T.aei rfl) ao))) (aa (bQ mT T.dz dy (aa (af 0) (aa (ky (v:=.ref T.ff) (by rfl) T.aej rfl) ao))) (aa (bQ mT T.dz dy (aa (af 0) (aa (ky (v:=.ref T.rx) (by rfl) T.ahy rfl) ao))) ao))))))
   (aN (bV 1 xk (bU Ao (af 1) (eK (aa (bQ mT T.dz dy (aa (af 0) (aa (ky (v:=.ref T.rt) (by rfl) T.afY rfl) ao))) (aa (bQ mT T.dz dy (aa (af 0) (aa (ky (v:=.ref T.gk) (by rfl) T.ahz rfl) ao))) (aa (bQ mT T.dz dy (aa (af 0) (aa (ky (v:=.ref T.gD) (by rfl) T.aii rfl) ao))) (aa (bQ mT T.dz dy (aa (af 0) (aa (ky (v:=.ref T.rj) (by rfl) T.acA rfl) ao))) ao)))))))
   (aN (bV 1 xk (bU Ao (af 1) (eK (aa (bQ mT T.dz dy (aa (af 0) (aa (ky (v:=.ref T.rn) (by rfl) T.aek rfl) ao))) (aa (bQ mT T.dz dy (aa (af 0) (aa (ky (v:=.ref T.ru) (by rfl) T.afZ rfl) ao))) (aa (bQ mT T.dz dy (aa (af 0) (aa (ky (v:=.ref T.ro) (by rfl) T.ael rfl) ao))) (aa (bQ mT T.dz dy (aa (af 0) (aa (ky (v:=.ref T.fx) (by rfl) T.af0 rfl) ao))) ao)))))))
   (aN (cN (eD.pt (gA (ct iW (jZ ks PySem.F.slot_list_count PySem.F.type_list_count agc (af 1) (aa gz ao)) aI (bS _)) (hv (gM (eu (bQ mT T.dz dy (aa (af 0) (aa (eB (by rfl) T.aiN aiB) ao))))))))
    (aR (bE ck))
    cB)
   (aN (bV 2 xk (eK (aa ck (aa ck (aa ck (aa ck (aa ck (aa ck (aa ck (aa ck ao))))))))))
   (aN (bV 2 xk (bU Ao (af 2) (eK (aa ck (aa ck (aa ck (aa ck ao)))))))
   (aR (bE (dt fE (af 2) (jZ ks PySem.F.slot_list_index PySem.F.type_list_index agd (af 1) (aa gz ao)) (λ _ _=>rfl)))))))))),?_]
  have fN:=k.fN;refine #[_,rfl,e,C,_,_,_,rfl,he,rfl,fN,k.k0,_,rfl,e,C,_,_,_,rfl,he,rfl,fN,k.k1,_,rfl,e,C,_,_,_,rfl,he,rfl,fN,k.k2,_,rfl,e,C,_,_,_,rfl,he,rfl,fN,k.k3,bo,λ ew H1 f1 s1 hr=>?_];have r6:=s1 _ _ he;refine #[_,rfl,_,rfl,e,C,_,_,_,rfl,r6,rfl,fN,k.kF,_,rfl,e,C,_,_,_,rfl,r6,rfl,fN,k.k5,_,rfl,e,C,_,_,_,rfl,r6,rfl,fN,k.tA,_,rfl,e,C,_,_,_,rfl,r6,rfl,fN,k.rM,bo,λ hR au f2 s2 fP=>#[ew,hR,_,_,rfl,rfl,s2 _ _ hr,fP,bo,λ m5 aW di s3 nh=>?_]];have tV:=s3 _ _ (s2 _ _ r6);refine #[_,rfl,_,rfl,e,C,_,_,_,rfl,tV,rfl,fN,k.Vm,_,rfl,e,C,_,_,_,rfl,tV,rfl,fN,k.vq,_,rfl,e,C,_,_,_,rfl,tV,rfl,fN,k.sb,_,rfl,e,C,_,_,_,rfl,tV,rfl,fN,k.Yn,bo,λ p9 bc f4 s4 r8=>#[m5,p9,_,_,rfl,rfl,s4 _ _ nh,r8,bo,λ xP bW fi s5 Nm=>?_]];have Gm:=s5 _ _ (s4 _ _ tV);have av:bW xP=some (.lst ((uM i).map V.aX)):=Nm;refine #[_,rfl,.inl #[rfl,_,a9.of av],xP,uM i,true,rfl,rfl,av,rfl,_,rfl,aaR (by rw [ai4 i ax];rfl) ?_];refine #[_,rfl,e,C,_,_,_,rfl,Gm,rfl,fN,k.VF,_,rfl,bA ?_];refine #[bo,λ iK dO kB b_ GH=>?_];refine #[_,rfl,bo,λ hl dv p7 cL vW=>#[iK,hl,_,_,rfl,rfl,cL _ _ GH,vW,bo,λ m8 fg f8 dp vX=>?_]];have BJ:fg xP=some (.lst ((uM i).map V.aX)):=dp _ _ (cL _ _ (b_ _ _ av));have hw:fg m8=some (.lst (D2.map V.str)):=vX;have kc:(D2.map V.str)[i]?=some (.str x):=by rw [fK,aj];rfl
  exact #[_,rfl,_,rfl,.inl #[rfl,_,a9.of BJ],xP,uM i,true,i,rfl,rfl,BJ,ag4 i ax,ai3 i ax,(by show 12<=1000;decide),m8,_,_,_,rfl,rfl,a9.of hw,QH kc,q fg (((((((s1.trans s2).trans s3).trans s4).trans s5).trans b_).trans cL).trans dp)]
theorem af6 (T:bB K mg):uG T T.ff 2:=#[T.adW,T.adU,T.Lf,T.Lg,T.ajI,T.LI,T.Ls,T.LJ,T.LU,T.K5,T.Lh,T.Lu,T.Li,T.Lv]
theorem aij (T:bB K mg):uG T T.gk 5:=#[T.ahh,T.ahg,T.LK,T.LL,T.LM,T.L6,T.LV,T.aj1,T.Ma,T.Lw,T.LN,T.LW,T.LO,T.LX]
theorem af4 (T:bB K mg):uG T T.gj 1:=#[T.adV,T.adT,T.Lb,T.ajH,T.Lc,T.LG,T.Lp,T.LH,T.LS,T.K4,T.Ld,T.Lq,T.Le,T.Lr]
theorem af5 (T:bB K mg):uG T T.fx 11:=#[T.afx,T.afw,T.En,T.Lx,T.Ly,T.L3,T.LQ,T.L4,T.L_,T.Lj,T.Lz,T.LR,T.LA,T.ajY]
theorem aiG (T:bB K mg):uG T T.gD 6:=#[T.aic,T.aib,T.LY,T.LZ,T.L0,T.Mb,T.L7,T.Mc,T.aj4,T.LP,T.L1,T.L8,T.L2,T.L9]
end
noncomputable def mI (c:Nat):Bool:=decide (97<=c/\c<=122)
theorem lets (c:Nat):decide (c∈(("abcdefghijklmnopqrstuvwxyz" : String):Str).cps.toList)=mI c:=by
 have e:(("abcdefghijklmnopqrstuvwxyz" : String):Str).cps.toList=List.range' 97 26:=by decide +kernel
 rw [e];unfold mI;exact decide_eq_decide.mpr (List.mem_range'_1.trans #[λ h=>#[h.1,.aD],λ h=>#[h.1,.aD]])
theorem Rb (x:Str) (t:Nat->Bool):(((List.range x.cps.size).map λ i=>t (x.cps.getD i 0)).all id)=(fu x).all t:=by
 have e:fu x=(List.range x.cps.size).map λ i=>x.cps.getD i 0:=by
  apply List.ext_getElem?;intro i;rcases Nat.lt_or_ge i x.cps.size with h | h
  ·rw [fK,List.getElem?_range h];simp [fu,h]
  ·rw [List.getElem?_eq_none (by show x.cps.toList.length<=i;rw [jv];exact h),List.getElem?_eq_none (by rw [bY,List.length_range];exact h)]
 rw [e,List.all_map,List.all_map];rfl
section
variable {w:World}
noncomputable def q1:V->Bool
 | .int i=>jt i
 | _=>false
noncomputable def ah1:b3:=λ vs H Q _ => ∃ v,vs=[v]/\dV H v/\Q (.aX (q1 v)) H
theorem S2 (T:bB K mg):c8 P w mg base cS 2 T.R6 ah1:=by
 refine T.R6.fn.en ahX (λ vs H Q E h=>?_) (λ bg A outer s H vs Q E aq h=>?_)
 ·obtain ⟨v,rfl,_⟩:=h;rfl
 ·obtain ⟨v,rfl,k,q⟩:=h;refine #[_,(aN (cN (eD.pt (gA (gM (eu (bR (Tt T) aq bD (aa (af 0) ao)))) (gA (ct nz (af 0) aI (bS _)) (hv (ct ov (af 0) (uY (by rfl) T.Kj) (bS _))))))
    (aR (bE gz))
    cB)
   (aR (bE (hy eS (bR (ajX T) aq bD (aa (af 0) ao)) aI (bS _))))),?_]
  refine #[_,rfl,v,rfl,k,_,rfl,?_];cases hw:vY v with
  | false =>
   refine cA (cA ?_);have e:q1 v=false:=by cases v<;>first | rfl | cases hw
   rw [e] at q;exact q
  | true =>
   obtain ⟨i,rfl⟩:=IZ hw;refine bA #[_,rfl,_,_,rfl,rfl,_,rfl,eJ (λ h=>?_) (λ h=>#[_,rfl,_,_,rfl,rfl,_,rfl,eJ (λ h'=>?_) (λ h'=>?_)])]
   ·have ah:i<1:=eT h;have e:q1 (.int i)=false:=by
     show (decide (1<=i)&&decide (i<=1000000000000)&&decide (jC i.toNat=1))=false;rw [dN (by omega : ¬ 1<=i)];rfl
    rw [e] at q;exact cA q
   ·have ah:1000000000000<i:=eT h';have e:q1 (.int i)=false:=by
     show (decide (1<=i)&&decide (i<=1000000000000)&&decide (jC i.toNat=1))=false;rw [dN (by omega : ¬ i<=1000000000000),s7];rfl
    rw [e] at q;exact q
   ·have ah : ¬ i<1:=λ z=>h (cc z)
    have ai : ¬ 1000000000000<i:=λ z=>h' (cc z)
    refine #[_,rfl,i,rfl,.aD,rfl,?_];have e:q1 (.int i)=decide (V.int (jC i.toNat:Nat)=V.int 1):=by
     show (decide (1<=i)&&decide (i<=1000000000000)&&decide (jC i.toNat=1))=_;rw [cc (by omega:1<=i),cc (by omega:i<=1000000000000),Bool.and_self,s8];by_cases z:jC i.toNat=1
     ·rw [z];rfl
     ·rw [dN z,dN];intro y;injection y with y;omega
    rw [e] at q;exact q
noncomputable def eR (H:az) (v:V):Bool:=match dR H v with
 | some [.int i,.int j]=>jX i j
 | _=>false
theorem ahk (i j:Nat):((hx.map λ v=>match v with | .int p=>V.aX ((!decide (V.int ((i:Int) % p)=V.int 0)) || !decide (V.int ((j:Int) % p)=V.int 0)) | v=>v))=(dE.map λ p=>(i % p != 0||j % p != 0)).map V.aX:=by
 have e : ∀ (a p:Nat),(!decide (V.int ((a:Int) % (p:Int))=V.int 0))=(a % p != 0):=by
  intro a p;by_cases z:a % p=0
  ·have:(a:Int) % (p:Int)=0:=by omega
   rw [this,z];rfl
  ·have:(a:Int) % (p:Int)≠0:=by omega
   rw [dN (λ y=>this (by injection y))];have:(a % p != 0)=true:=by simpa using z
   rw [this];rfl
 have aO:hx=dE.map λ p=>V.int ((p:Nat):Int):=rfl
 rw [aO,kr,kr];refine wR λ p _=>?_
 show V.aX ((!decide (V.int ((i:Int) % (p:Int))=V.int 0)) || !decide (V.int ((j:Int) % (p:Int))=V.int 0))=V.aX (i % p != 0||j % p != 0);rw [e,e]
noncomputable def ajB:b3:=λ vs H Q _ => ∃ v,vs=[v]/\dg H v /\ ∀ H',aE H H'->Q (.aX (eR H v)) H'
theorem ajw (T:bB K mg):c8 P w mg base cS 3 T.T4 ajB:=by
 refine T.T4.fn.en Ek (λ vs H Q E h=>?_) (λ bg A outer s H vs Q E aq h=>?_)
 ·obtain ⟨v,rfl,_⟩:=h;rfl
 ·obtain ⟨v,rfl,⟨k,bf⟩,q⟩:=h;refine #[_,(aN (cN (eD.pt (gA (gM (eu (bQ eL T.dz dy (aa (af 0) (aa (eB (by rfl) T.hM hL) ao))))) (hv (ct iW (bQ h1 T.gh gg (aa (af 0) ao)) aI (bS _)))))
    (aR (bE gz))
    cB)
   (aN (Dd (i:=1) Ek.c6 rfl (Or.inr rfl) (dt iA (af 0) aI (λ _ _=>rfl)))
   (aN (Dd (i:=2) Ek.c6 rfl (Or.inr rfl) (dt iA (af 0) aI (λ _ _=>rfl)))
   (aN (cN (eD.pt (gA (gM (eu (bR (S2 T) aq bD (aa (af 1) ao)))) (hv (gM (eu (bR (S2 T) aq bD (aa (af 2) ao)))))))
    (aR (bE gz))
    cB)
   (aR (bE (bQ (rp rfl) T.qY qV (aa (hz (e8 Ek (N:=["prime", "top", "bottom"]) (js:=[none,some 1,some 2]) (oH.mpr #[rfl,(oH.mpr #[rfl,(gU _)])])) rfl (pL (ky (v:=.ref T.pW) (by rfl) T.w2 rfl)) (λ _ _ _ _=>g_) (λ _ _ _ _=>hN)
     (λ _ _ _ _=>(aa3 (hy iW (bU q8 (af 1) (af 0)) aI (bS _)) (i0 (hy iW (bU q8 (af 2) (af 0)) aI (bS _)))))) ao)))))))),?_]
  obtain ⟨t,ty,e⟩:=sx (K:=K) k;refine #[_,rfl,v, "tuple", t,_,rfl,ty,e,_,rfl,?_];cases b0:dR H v with
  | none =>
   refine cA (cA ?_);have aY:=q H (aE.refl H);rw [show eR H v=false by unfold eR;rw [b0]] at aY;exact aY
  | some xs =>
   obtain ⟨a,rfl,ay⟩:=uX b0;obtain ⟨av,aG⟩:=bf xs b0;refine bA #[_,rfl,a,xs,rfl,.inr (a0.of ay),rfl,_,rfl,eJ (λ h=>?_) (λ h=>?_)]
   ·have aY:=q H (aE.refl H);have aO:xs.length≠2:=λ z=>by
     rw [z] at h;exact absurd h .aA
    rw [show eR H (.ref a)=false by
     unfold eR;rw [b0];split
     ·rename_i i j z;cases z;exact absurd rfl aO
     ·rfl] at aY
    exact aY
   ·have aO:xs.length=2:=by
     have h':decide (V.int (xs.length:Int)=V.int 2)=true:=by
      cases z:decide (V.int (xs.length:Int)=V.int 2) with
      | true=>rfl
      | false=>rw [z] at h;exact absurd rfl h
     have:=wZ h';omega
    obtain ⟨x,y,rfl⟩:=Qy aO
    ·have f6:dV H x:=aG x .zs;have ET:dV H y:=aG y .zs;refine #[_,rfl,a,_,_,x,rfl,rfl,a0.of ay,rfl,?_];refine #[_,rfl,a,_,_,y,rfl,rfl,a0.of ay,rfl,?_];have Mu : ∀ {b:Bool},q1 x=false\/q1 y=false->eR H (.ref a)=false:=by
      intro _ z;unfold eR;rw [b0];split
      ·rename_i i j f9;cases f9;show (jt i&&jt j&&rl i.toNat j.toNat)=false;rcases z with z | z
       ·rw [show jt i=false from z];rfl
       ·rw [show jt j=false from z,s7];rfl
      ·rfl
     refine #[_,rfl,x,rfl,f6,_,rfl,?_];cases Fc:q1 x with
     | false =>
      refine cA (cA ?_);have aY:=q H (aE.refl H);rw [Mu (b:=true) (.inl Fc)] at aY;exact aY
     | true =>
      refine bA #[_,rfl,y,rfl,ET,_,rfl,?_];cases bw:q1 y with
      | false =>
       refine cA ?_;have aY:=q H (aE.refl H);rw [Mu (b:=true) (.inr bw)] at aY;exact aY
      | true =>
       refine bA ?_;obtain ⟨i,rfl⟩ : ∃ i,x=.int i:=by cases x<;>first | exact #[_,rfl] | cases Fc
       obtain ⟨j,rfl⟩ : ∃ j,y=.int j:=by cases y<;>first | exact #[_,rfl] | cases bw
       have tH:jt i=true:=Fc;have my:jt j=true:=bw;have gp:1<=i:=by
        unfold jt at tH;simp only [jA,decide_eq_true_eq] at tH;exact tH.1.1
       have c_:1<=j:=by
        unfold jt at my;simp only [jA,decide_eq_true_eq] at my;exact my.1.1
       refine #[T.pW,rfl,#[hx,T.u2 H],λ D a8=>TL (xs:=hx) (f:=λ v=>match v with | .int p=>V.aX ((!decide (V.int ((i.toNat:Int) % p)=V.int 0)) || !decide (V.int ((j.toNat:Int) % p)=V.int 0)) | v=>v) rfl .aA a8 (T.u2 H) ?_ ?_]
       ·intro x H' R aj r;obtain ⟨z,a6⟩:=mO aj;obtain ⟨p,rfl,aw,uk⟩:=xf a6;have fk:2<=p:=mM p (dr aw);have oY:((i.toNat:Nat):Int)=i:=lZ .aD;have vj:((j.toNat:Nat):Int)=j:=lZ .aD;have bP:R (V.aX ((!decide (V.int (i % (p:Int))=V.int 0)) || !decide (V.int (j % (p:Int))=V.int 0))) H':=by
         have b8:R (V.aX ((!decide (V.int ((i.toNat:Int) % (p:Int))=V.int 0)) || !decide (V.int ((j.toNat:Int) % (p:Int))=V.int 0))) H':=r;rw [oY,vj] at b8;exact b8
        refine #[_,rfl,_,rfl,_,_,rfl,rfl,(by show (0:Int)<p;omega),rfl,_,rfl,?_];cases z:decide (V.int (i % (p:Int))=V.int 0) with
        | false =>
         rw [z] at bP;exact cA bP
        | true =>
         rw [z] at bP;exact bA #[_,rfl,_,rfl,_,_,rfl,rfl,(by show (0:Int)<p;omega),rfl,bP]
       ·rw [ahk];refine #[D,_,rfl,a9.of bL,?_];have el:eR H (.ref a)=(dE.map λ p=>(i.toNat % p != 0||j.toNat % p != 0)).all id:=by
         unfold eR;rw [b0];show (jt i&&jt j&&rl i.toNat j.toNat)=_;rw [tH,my,Bool.and_self,s8];rw [List.all_map];rfl
        rw [el] at q;exact q _ (aE.new a8)
theorem aE.dR (s:aE H H') {v:V} (k:dV H v):cJ.dR H' v=cJ.dR H v:=(kX.of s).dR k
theorem aE.dg (s:aE H H') {v:V} (k:cJ.dg H v):cJ.dg H' v:=(kX.of s).dg k
theorem aE.eR (s:aE H H') {v:V} (k:dV H v):cJ.eR H' v=cJ.eR H v:=by
 unfold cJ.eR;rw [aE.dR s k]
noncomputable def jr (H:az) (v:V):Bool:=match dR H v with
 | some xs=>decide (1<=xs.length)&&decide (xs.length<=16)&&xs.all (eR H)
 | none=>false
noncomputable def ajl:b3:=λ vs H Q _ => ∃ v,vs=[v]/\kW H v /\ ∀ H',aE H H'->Q (.aX (jr H v)) H'
theorem Uc (T:bB K mg):c8 P w mg base cS 4 T.TF ajl:=by
 refine T.TF.fn.en Uj (λ vs H Q E h=>?_) (λ bg A outer s H vs Q E aq h=>?_)
 ·obtain ⟨v,rfl,_⟩:=h;rfl
 ·obtain ⟨v,rfl,⟨k,bf⟩,q⟩:=h;refine #[_,(aN (cN (eD.pt (gA (gM (eu (bQ eL T.dz dy (aa (af 0) (aa (eB (by rfl) T.hM hL) ao))))) (gA (ct nz (bQ h1 T.gh gg (aa (af 0) ao)) aI (bS _)) (hv (ct ov (bQ h1 T.gh gg (aa (af 0) ao)) (uY (by rfl) T.Lo) (bS _))))))
    (aR (bE gz))
    cB)
   (aR (bE (bQ (rp rfl) T.qY qV (aa (hz (e8 Uj (N:=["part"]) (js:=[none]) (gU _)) rfl (pL (af 0)) (λ _ _ _ _=>g_) (λ _ _ _ _=>hN)
     (λ _ _ _ _=>(bR (ajw T) aq bD (aa (af 0) ao)))) ao))))),?_]
  obtain ⟨t,ty,e⟩:=sx (K:=K) k;refine #[_,rfl,v, "tuple", t,_,rfl,ty,e,_,rfl,?_];cases b0:dR H v with
  | none =>
   refine cA (cA ?_);have aY:=q H (aE.refl H);rw [show jr H v=false by unfold jr;rw [b0]] at aY;exact aY
  | some xs =>
   obtain ⟨a,rfl,ay⟩:=uX b0;obtain ⟨av,aG⟩:=bf xs b0;have rQ:jr H (.ref a)=(decide (1<=xs.length)&&decide (xs.length<=16)&&xs.all (eR H)):=by unfold jr;rw [b0]
   refine bA #[_,rfl,a,xs,rfl,.inr (a0.of ay),_,_,rfl,rfl,_,rfl,eJ (λ h=>?_) (λ h=>#[_,rfl,a,xs,rfl,.inr (a0.of ay),_,_,rfl,rfl,_,rfl,eJ (λ h'=>?_) (λ h'=>?_)])]
   ·have ah:(xs.length:Int)<1:=eT h;have aY:=q H (aE.refl H);rw [rQ,dN (by omega : ¬ 1<=xs.length)] at aY;exact cA aY
   ·have ah:(16:Int)<xs.length:=eT h';have aY:=q H (aE.refl H);rw [rQ,dN (by omega : ¬ xs.length<=16),s7] at aY;exact aY
   ·have ah : ¬ (xs.length:Int)<1:=λ z=>h (cc z)
    have ai : ¬ (16:Int)<xs.length:=λ z=>h' (cc z)
    refine #[_,rfl,a,rfl,#[_,a0.of ay],λ D a8=>DP (K:=K) (a:=a) (xs:=xs) (by rw [ef];omega) (λ i σ' H' ys=>(∃ u:dG,σ'=[u])/\aE H H'/\ys=((xs.take i).map (eR H)).map V.aX) #[#[_,rfl],aE.new a8,rfl] (λ i σ' H' ys _ _ ⟨_,s',_⟩=>a0.of (s' _ _ ay)) ?_ ?_]
    ·rintro i x σ' H' ys R aj ei jj ⟨⟨u,rfl⟩,s',rfl⟩ dF;obtain ⟨f6,_⟩:=id (aG x (dr aj));refine #[_,rfl,x,rfl,aE.dg s' (aG x (dr aj)),λ bc s4=>dF _ _ _ (s4 _ _ ei) #[#[_,rfl],?_,?_]]
     ·intro b o eV;rw [bj (cf eV a8)];exact s4 _ _ (s' _ _ eV)
     ·rw [aE.eR s' f6,AH aj,mP];rfl
    ·rintro σ' H' ys ei jj ⟨_,s',rfl⟩;refine #[D,_,rfl,a9.of ei,?_];have aY:=q H' s';rw [rQ,cc (by omega:1<=xs.length),cc (by omega:xs.length<=16),Bool.and_self,s8] at aY;rw [sV,List.all_map];exact aY
noncomputable def gK:V->Bool
 | .int i=>decide (0<=i)
 | _=>false
noncomputable def ox (H:az) (v:V):Bool:=match dR H v with
 | some xs=>decide (xs.length=10)&&xs.all gK
 | none=>false
noncomputable def aiW:b3:=λ vs H Q _ => ∃ v,vs=[v]/\dg H v /\ ∀ H',aE H H'->Q (.aX (ox H v)) H'
theorem aiP (T:bB K mg):c8 P w mg base cS 2 T.Tb aiW:=by
 refine T.Tb.fn.en TV (λ vs H Q E h=>?_) (λ bg A outer s H vs Q E aq h=>?_)
 ·obtain ⟨v,rfl,_⟩:=h;rfl
 ·obtain ⟨v,rfl,⟨k,bf⟩,q⟩:=h;refine #[_,(aN (cN (eD.pt (gA (gM (eu (bQ eL T.dz dy (aa (af 0) (aa (eB (by rfl) T.hM hL) ao))))) (hv (ct iW (bQ h1 T.gh gg (aa (af 0) ao)) (bQ h1 T.gh gg (aa (ky (v:=.ref T.pW) (by rfl) T.w2 rfl) ao)) (bS _)))))
    (aR (bE gz))
    cB)
   (aR (bE (bQ (rp rfl) T.qY qV (aa (hz (e8 TV (N:=["part"]) (js:=[none]) (gU _)) rfl (pL (af 0)) (λ _ _ _ _=>g_) (λ _ _ _ _=>hN)
     (λ _ _ _ _=>(jy (bR (Tt T) aq bD (aa (af 0) ao)) (i0 (hy H4 (af 0) aI (bS _)))))) ao))))),?_]
  obtain ⟨t,ty,e⟩:=sx (K:=K) k;refine #[_,rfl,v, "tuple", t,_,rfl,ty,e,_,rfl,?_];cases b0:dR H v with
  | none =>
   refine cA (cA ?_);have aY:=q H (aE.refl H);rw [show ox H v=false by unfold ox;rw [b0]] at aY;exact aY
  | some xs =>
   obtain ⟨a,rfl,ay⟩:=uX b0;obtain ⟨av,aG⟩:=bf xs b0;have rQ:ox H (.ref a)=(decide (xs.length=10)&&xs.all gK):=by unfold ox;rw [b0]
   refine bA #[_,rfl,a,xs,rfl,.inr (a0.of ay),T.pW,_,rfl,.inr (T.u2 H),rfl,_,rfl,eJ (λ h=>?_) (λ h=>?_)]
   ·have aO:xs.length≠10:=λ z=>by
     rw [z] at h;exact absurd h .aA
    have aY:=q H (aE.refl H);rw [rQ,dN aO] at aY;exact aY
   ·have aO:xs.length=10:=by
     have h':decide (V.int (xs.length:Int)=V.int 10)=true:=by
      cases z:decide (V.int (xs.length:Int)=V.int 10) with
      | true=>rfl
      | false=>exact absurd (show (!decide (V.int (xs.length:Int)=V.int 10))=true by rw [z];rfl) h
     have:=wZ h';omega
    refine #[_,rfl,a,rfl,#[_,a0.of ay],λ D a8=>T8 (xs:=xs) (f:=λ v=>.aX (gK v)) rfl (by rw [aO];decide) a8 (a0.of ay) ?_ #[D,xs.map gK,rfl,?_,?_]]
    ·intro x H' R s' aj r;refine #[_,rfl,x,rfl,aE.kind s' (aG x aj),_,rfl,?_];cases hw:vY x with
     | false =>
      refine bA ?_;have el:gK x=false:=by cases x<;>first | rfl | cases hw
      have b8:R (.aX (gK x)) H':=r;rw [el] at b8;exact b8
     | true =>
      obtain ⟨n,rfl⟩:=IZ hw;exact cA #[_,rfl,_,_,rfl,rfl,r]
    ·rw [kr];exact a9.of bL
    ·have aY:=q _ (aE.new (o:=.lst (xs.map λ v=>V.aX (gK v))) a8);rw [rQ,cc aO,s8] at aY;rw [List.all_map];exact aY
noncomputable def fD:V->Bool
 | .str x=>decide (1<=x.length)&&decide (x.length<=8)&&(fu x).all mI
 | _=>false
noncomputable def qk (H:az) (v:V):Prop:=dV H v /\ ∀ x,v=.str x->x4 x/\x.length<=1000
theorem qk.same {v:V} (h:qk H v) (s:aE H H'):qk H' v:=#[aE.kind s h.1,h.2]
noncomputable def aiw:b3:=λ vs H Q _ => ∃ v,vs=[v]/\qk H v /\ ∀ H',aE H H'->Q (.aX (fD v)) H'
theorem ahP (T:bB K mg):c8 P w mg base cS 1 T.R5 aiw:=by
 refine T.R5.fn.en S6 (λ vs H Q E h=>?_) (λ bg A outer s H vs Q E aq h=>?_)
 ·obtain ⟨x,rfl,_⟩:=h;rfl
 ·obtain ⟨v,rfl,⟨k,aj⟩,q⟩:=h;refine #[_,(aN (cN (eD.pt (gA (gM (eu (bQ eL T.dz dy (aa (af 0) (aa (eB (by rfl) T.pD pC) ao))))) (gA (ct nz (bQ Kx T.gh gg (aa (af 0) ao)) aI (bS _)) (hv (ct ov (bQ Kx T.gh gg (aa (af 0) ao)) (uY (by rfl) T.K3) (bS _))))))
    (aR (bE gz))
    cB)
   (aR (bE (bQ (rp rfl) T.qY qV (aa (hz (e8 S6 (N:=["sign"]) (js:=[none]) (gU _)) rfl (Qs (af 0)) (λ _ _ _ _=>g_) (λ _ _ _ _=>hN)
     (λ _ _ _ _=>(hy ago (af 0) (ae9 (by rfl) T.JG) (by with_unfolding_all rfl)))) ao))))),?_]
  obtain ⟨t,ty,e⟩:=qX (K:=K) k;refine #[_,rfl,v, "str", t,_,rfl,ty,e,_,rfl,?_];cases aB:y0 v with
  | false =>
   have aY:=q H (aE.refl H);rw [show fD v=false by cases v<;>first | rfl | cases aB] at aY;exact cA (cA aY)
  | true =>
   obtain ⟨x,rfl⟩ : ∃ x,v=.str x:=by cases v<;>first | exact #[_,rfl] | cases aB
   obtain ⟨ay,av⟩:=aj x rfl;have a6:x.length<=sizeLine:=by rw [ef];omega
   refine bA #[_,rfl,_,rfl,a6,_,_,rfl,rfl,_,rfl,eJ (λ h=>?_) (λ h=>?_)]
   ·have h0:(x.length:Int)<1:=eT h;have aY:=q H (aE.refl H);rw [show fD (.str x)=false by show (decide _&&decide _&&_)=false;rw [dN (by omega : ¬ 1<=x.length)];rfl] at aY;exact cA aY
   have h0 : ¬ (x.length:Int)<1:=λ z=>h (cc z)
   refine #[_,rfl,_,rfl,a6,_,_,rfl,rfl,_,rfl,eJ (λ h'=>?_) (λ h'=>?_)]
   ·have ah:(x.length:Int) > 8:=eT h';have aY:=q H (aE.refl H);rw [show fD (.str x)=false by show (decide _&&decide _&&_)=false;rw [dN (by omega : ¬ x.length<=8),s7];rfl] at aY;exact aY
   have ah : ¬ (x.length:Int) > 8:=λ z=>h' (cc z)
   refine #[_,rfl,_,rfl,ay.all,λ D a8=>Sm (x:=x) (σ0:=[]) (t:=λ _=>true) (f:=λ i=>V.aX (mI (x.cps.getD i 0))) (by show x.length<=_;exact a6) #[_,rfl] a8 (λ i c H' R s' ak r=>r H' (aE.refl _)) (λ i c H' R s' ak aU r=>?_) λ H1 s1 r1=>?_]
   ·have e:x.cps.getD i 0=c:=by rw [Array.getD_eq_getD_getElem?,ak];rfl
    have bP:=r H' (aE.refl _);rw [e] at bP;refine #[_,rfl,_,_,rfl,rfl,?_];rw [show (⟨[c].toArray⟩:Str)=xX c from rfl,StrLaws.found_one,lets];exact bP
   ·have e:(((List.range x.cps.size).filter λ _=>true).map λ i=>V.aX (mI (x.cps.getD i 0)))=((List.range x.cps.size).map λ i=>mI (x.cps.getD i 0)).map V.aX:=by
     rw [List.filter_eq_self.mpr (λ _ _=>rfl),kr];rfl
    rw [e] at r1;refine #[D,_,rfl,a9.of r1,?_];rw [Rb];have aY:=q H1 s1;rw [show fD (.str x)=(fu x).all mI by show (decide _&&decide _&&_)=_;rw [cc (by omega:1<=x.length),cc (by omega:x.length<=8)];rfl] at aY;exact aY
structure fF (T:bB K mg) (H:az) (bn pr hd dl:Addr) (kvs:List (Key×V)) (ds:bl):Prop where
 at_ : ∃ aL,H bn=some (.ins T.gV aL [("program", .ref pr),("held", .ref hd),("deeds", .ref dl)])
 hd:H hd=some (.bF kvs)
 dl:H dl=some (.lst ds)
theorem fF.same {T:bB K mg} {bn hd dl:Addr} {kvs:List (Key×V)} {ds:bl} (b:fF T H bn pr hd dl kvs ds) (s:aE H H'):fF T H' bn pr hd dl kvs ds :=
 #[let ⟨aL,h⟩:=b.at_;⟨aL,s _ _ h⟩,s _ _ b.hd,s _ _ b.dl]
noncomputable def CP (kvs:List (Key×V)) (x:Str):V->List (Key×V)
 | .bh=>qW kvs (cF x)
 | w=>putK kvs (cF x) w
noncomputable def jI (a b:Addr) (H H':az):Prop := ∀ c o,c≠a->c≠b->H c=some o->H' c=some o
noncomputable def adC (T:bB K mg):b3:=λ vs H Q _ => ∃ (bn pr hd dl:Addr) (kvs:List (Key×V)) (ds:bl) (x:Str) (w:V),vs=[.ref bn,.str x,w]/\fF T H bn pr hd dl kvs ds/\kvs.length<=100/\((w=.bh /\ ∃ v,dU kvs (cF x)=some v) \/ ∃ t,w=.ref t) /\
 ∀ H',bN hd H H'->H' hd=some (.bF (CP kvs x w))->Q .bh H'
theorem Ua (T:bB K mg):c8 P w mg base cS 1 T.xh (adC T):=by
 refine T.xh.fn.en ajj (λ vs H Q E h=>?_) (λ bg A outer s H vs Q E aq h=>?_)
 ·obtain ⟨bn,pr,hd,dl,kvs,ds,x,w,rfl,_⟩:=h;rfl
 ·obtain ⟨bn,pr,hd,dl,kvs,ds,x,w,rfl,B,aG,hw,q⟩:=h;refine #[_,(aR (cN (ct oF (af 2) e2 (bS _))
    (aR (gi (jZ IJ IF PySem.F.type_dict_pop RH (nG (af 0) (by rfl)) (aa (af 1) ao))))
    (aR (Jm (lb aq) (nG (af 0) (by rfl)) (af 1) (af 2) rfl)))),?_]
  obtain ⟨aL,ae⟩:=B.at_;rcases hw with ⟨rfl,v,ba⟩ | ⟨t,rfl⟩
  ·refine #[_,rfl,rfl,_,rfl,cA #[_,rfl,bn,_,aL,_,_,rfl,ae,T.d8,T.ry,rfl,?_,_,rfl,hd,x,kvs,v,rfl,rfl,B.hd,ba,λ H' i8 h'=>q H' i8 h']];exact .inr (.inr (.inl #[rfl,.inl #[kvs,B.hd]]))
  ·refine #[_,rfl,rfl,_,rfl,bA #[_,rfl,_,rfl,bn,_,aL,_,_,rfl,ae,T.d8,T.ry,rfl,_,rfl,hd,x,kvs,rfl,rfl,B.hd,by rw [ef];omega,λ H' i8 h'=>q H' i8 h']]
noncomputable def adA (T:bB K mg):b3:=λ vs H Q _ => ∃ (bn pr hd dl:Addr) (kvs:List (Key×V)) (ds:bl) (x:Str) (w:V),vs=[.ref bn,.str x,w]/\fF T H bn pr hd dl kvs ds/\kvs.length<=100/\ds.length<=1000/\((w=.bh /\ ∃ v,dU kvs (cF x)=some v) \/ ∃ t,w=.ref t) /\
 ∀ t H',jI hd dl H H'->H' t=some (.tup [.str x,(dU kvs (cF x)).getD .bh])->fF T H' bn pr hd dl (CP kvs x w) (ds++[.ref t])->Q .bh H'
theorem KV (T:bB K mg):c8 P w mg base cS 2 T.ti (adA T):=by
 refine T.ti.fn.en ajg (λ vs H Q E h=>?_) (λ bg A outer s H vs Q E aq h=>?_)
 ·obtain ⟨bn,pr,hd,dl,kvs,ds,x,w,rfl,_⟩:=h;rfl
 ·obtain ⟨bn,pr,hd,dl,kvs,ds,x,w,rfl,B,aG,e_,hw,q⟩:=h;refine #[_,(aN (gi (jZ ks oJ oK pY (nG (af 0) (by rfl)) (aa (dh (aa (af 1) (aa (jZ IJ PySem.F.slot_dict_get PySem.F.type_dict_get aeu (nG (af 0) (by rfl)) (aa (af 1) ao)) ao))) ao)))
   (aR (gi (gX (af 0) T.d8 T.xh.at_ (Ua T) (aq.mono .aA) T.xh.bd .nil bD (aa (af 1) (aa (af 2) ao)))))),?_]
  obtain ⟨aL,ae⟩:=B.at_;have y8:hd≠dl:=cW B.hd B.dl nofun;have GW:bn≠dl:=cW ae B.dl nofun;have GY:bn≠hd:=cW ae B.hd nofun;refine #[_,rfl,bn,_,aL,_,_,rfl,ae,T.d8,T.Eh,rfl,.inl #[rfl,_,a9.of B.dl],_,rfl,_,rfl,bn,_,aL,_,_,rfl,ae,T.d8,T.ry,rfl,.inr (.inr (.inl #[rfl,.inl #[kvs,B.hd]])),_,rfl,hd,x,kvs,rfl,rfl,B.hd,bo,λ t H1 f1 s1 aU=>?_];refine #[dl,ds,_,rfl,rfl,s1 _ _ B.dl,by rw [ef];omega,λ au dK ai=>?_];have G5:t≠dl:=λ z=>by rw [z,B.dl] at f1;cases f1
  have YP:t≠hd:=λ z=>by rw [z,B.hd] at f1;cases f1
  have iB:fF T au bn pr hd dl kvs (ds++[.ref t]):=#[#[aL,dK _ _ GW (s1 _ _ ae)],dK _ _ y8 (s1 _ _ B.hd),ai]
  obtain ⟨yd,kd⟩:=iB.at_;refine #[_,rfl,bn,yd,_,rfl,kd,rfl,_,rfl,_,rfl,bn,pr,hd,dl,kvs,_,x,w,rfl,iB,aG,hw,λ aW gG aH=>?_];refine q t aW (λ c o cC dB eg=>gG _ _ cC (dK _ _ dB (s1 _ _ eg))) (gG _ _ YP (dK _ _ G5 aU)) #[#[yd,gG _ _ GY kd],aH,gG _ _ (ek y8) iB.dl]
noncomputable def la (kvs:List (Key×V)):V->dG
 | .str x=>dU kvs (cF x)
 | _=>none
noncomputable def aiv (T:bB K mg):b3:=λ vs H Q E => ∃ (bn pr hd dl:Addr) (kvs:List (Key×V)) (ds:bl) (v:V),vs=[.ref bn,v]/\fF T H bn pr hd dl kvs ds/\dV H v/\(∀ u,la kvs v=some u->Q u H)/\(la kvs v=none->E (.ref T.ff) none H)
theorem Em (T:bB K mg):c8 P w mg base (iL P w) 1 T.p2 (aiv T):=by
 refine T.p2.fn.ph ajR (λ vs H Q E h=>?_) (λ bg A outer s H vs Q E aq h=>?_)
 ·obtain ⟨bn,pr,hd,dl,kvs,ds,v,rfl,_⟩:=h;rfl
 ·obtain ⟨bn,pr,hd,dl,kvs,ds,v,rfl,B,k,q,cg⟩:=h;refine #[_,(aN (cN (eD.pt (gA (gM (eu (bQ eL T.dz dy (aa (af 1) (aa (eB (by rfl) T.pD pC) ao))))) (hv (ct (S4 (lb aq)) (af 1) (nG (af 0) (by rfl)) (by with_unfolding_all rfl)))))
    (aR (u0 rb rfl rfl T.Ro (by rfl) (aa ck ao)))
    cB)
   (aR (bE (ae8 (lb aq) (nG (af 0) (by rfl)) (af 1) (λ _ _=>rfl))))),?_]
  obtain ⟨aL,ae⟩:=B.at_;obtain ⟨t,ty,e⟩:=qX (K:=K) k;refine #[_,rfl,v, "str", t,_,rfl,ty,e,_,rfl,?_];cases aB:y0 v with
  | false=>exact cA (cA #[bo,cg (by cases v<;>first | rfl | cases aB)])
  | true =>
   obtain ⟨x,rfl⟩ : ∃ x,v=.str x:=by cases v<;>first | exact #[_,rfl] | cases aB
   refine bA #[_,rfl,_,rfl,bn,_,aL,_,_,rfl,ae,T.d8,T.ry,rfl,x,hd,kvs,rfl,rfl,B.hd,_,rfl,?_];cases ba:dU kvs (cF x) with
   | none=>exact cA #[bo,cg ba]
   | some u=>exact bA #[_,rfl,bn,_,aL,_,_,rfl,ae,T.d8,T.ry,rfl,_,rfl,hd,x,kvs,u,rfl,rfl,B.hd,ba,q u ba]
noncomputable def RT (T:bB K mg):b3:=λ vs H Q E => ∃ (bn pr hd dl:Addr) (kvs:List (Key×V)) (ds:bl) (v:V),vs=[.ref bn,v]/\fF T H bn pr hd dl kvs ds/\dV H v/\(la kvs v=none->E (.ref T.ff) none H) /\ ∀ u,la kvs v=some u -> ∃ (w:Addr) (a b:V),u=.ref w/\H w=some (.tup [a,b])/\Q a H
theorem xp (T:bB K mg):c8 P w mg base (iL P w) 2 T.l2 (RT T):=by
 refine T.l2.fn.ph ajJ (λ vs H Q E h=>?_) (λ bg A outer s H vs Q E aq h=>?_)
 ·obtain ⟨bn,pr,hd,dl,kvs,ds,v,rfl,_⟩:=h;rfl
 ·obtain ⟨bn,pr,hd,dl,kvs,ds,v,rfl,B,k,cg,q⟩:=h;refine #[_,(aR (bE (dt iA (gX (af 0) T.d8 T.p2.at_ (Em T) (aq.mono .aA) T.p2.bd .nil zY (aa (af 1) ao)) aI (λ _ _=>rfl)))),?_];obtain ⟨aL,ae⟩:=B.at_;refine #[_,rfl,bn,aL,_,rfl,ae,rfl,_,rfl,bn,pr,hd,dl,kvs,ds,v,rfl,B,k,λ u br=>?_,cg];obtain ⟨w,a,b,rfl,hw,q⟩:=q u br;exact #[w,_,_,_,rfl,rfl,a0.of hw,rfl,q]
noncomputable def SJ (T:bB K mg):b3:=λ vs H Q E => ∃ (bn pr hd dl:Addr) (kvs:List (Key×V)) (ds:bl) (v:V),vs=[.ref bn,v]/\fF T H bn pr hd dl kvs ds/\dV H v/\(la kvs v=none->E (.ref T.ff) none H) /\ ∀ u,la kvs v=some u -> ∃ (w:Addr) (a b:V),u=.ref w/\H w=some (.tup [a,b])/\Q b H
theorem Ej (T:bB K mg):c8 P w mg base (iL P w) 2 T.pZ (SJ T):=by
 refine T.pZ.fn.ph aji (λ vs H Q E h=>?_) (λ bg A outer s H vs Q E aq h=>?_)
 ·obtain ⟨bn,pr,hd,dl,kvs,ds,v,rfl,_⟩:=h;rfl
 ·obtain ⟨bn,pr,hd,dl,kvs,ds,v,rfl,B,k,cg,q⟩:=h;refine #[_,(aR (bE (dt iA (gX (af 0) T.d8 T.p2.at_ (Em T) (aq.mono .aA) T.p2.bd .nil zY (aa (af 1) ao)) aI (λ _ _=>rfl)))),?_];obtain ⟨aL,ae⟩:=B.at_;refine #[_,rfl,bn,aL,_,rfl,ae,rfl,_,rfl,bn,pr,hd,dl,kvs,ds,v,rfl,B,k,λ u br=>?_,cg];obtain ⟨w,a,b,rfl,hw,q⟩:=q u br;exact #[w,_,_,_,rfl,rfl,a0.of hw,rfl,q]
noncomputable def agI (T:bB K mg):b3:=λ vs H Q _ => ∃ (bn pr hd dl:Addr) (kvs:List (Key×V)) (ds:bl) (ns:bT),vs=[.ref bn]/\fF T H bn pr hd dl kvs ds/\kvs.map (·.1)=ns.map cF/\ns.length<64 /\ ∀ ms:bT,ms.Perm ns->PyProof.Rows.sortedS ms=true -> ∀ l H',H l=none->aE H H'->H' l=some (.lst (ms.map V.str))->Q (.ref l) H'
theorem Up (T:bB K mg):c8 P w mg base cS 1 T.xl (agI T):=by
 refine T.xl.fn.en ajz (λ vs H Q E h=>?_) (λ bg A outer s H vs Q E aq h=>?_)
 ·obtain ⟨bn,pr,hd,dl,kvs,ds,ns,rfl,_⟩:=h;rfl
 ·obtain ⟨bn,pr,hd,dl,kvs,ds,ns,rfl,B,aG,mr,q⟩:=h;refine #[_,(aR (bE (bQ (ai9 rfl) T.DS DO (aa (nG (af 0) (by rfl)) ao)))),?_];obtain ⟨aL,ae⟩:=B.at_;exact #[_,rfl,bn,_,aL,_,_,rfl,ae,T.d8,T.ry,rfl,hd,kvs,ns,rfl,B.hd,aG,mr,λ ms pm vA l H' f s' e=>q ms pm vA l H' f s' e]
noncomputable def D6 (T:bB K mg):b3:=λ vs H Q E => ∃ (bn pr hd dl:Addr) (kvs:List (Key×V)) (ds:bl),vs=[.ref bn]/\fF T H bn pr hd dl kvs ds/\kvs.length<=100/\(ds=[]->E (.ref T.gj) none H) /\
 ∀ kb u,ds=kb++[u] -> ∃ (t:Addr) (x:Str) (w:V),u=.ref t/\H t=some (.tup [.str x,w])/\((w=.bh /\ ∃ v,dU kvs (cF x)=some v) \/ ∃ a,w=.ref a) /\ ∀ H',jI hd dl H H'->fF T H' bn pr hd dl (CP kvs x w) kb->Q .bh H'
theorem Ub (T:bB K mg):c8 P w mg base (iL P w) 2 T.xi (D6 T):=by
 refine T.xi.fn.ph Uh (λ vs H Q E h=>?_) (λ bg A outer s H vs Q E aq h=>?_)
 ·obtain ⟨bn,pr,hd,dl,kvs,ds,rfl,_⟩:=h;rfl
 ·obtain ⟨bn,pr,hd,dl,kvs,ds,rfl,B,aG,cg,q⟩:=h;refine #[_,(aN (cN (ct eS (bQ h1 T.gh gg (aa (nG (af 0) (by rfl)) ao)) aI (bS _))
    (aR (u0 rb rfl rfl T.adQ (by rfl) (aa ck ao)))
    cB)
   (aN (bV 1 Uh (Qo ks PySem.F.slot_list_pop PySem.F.type_list_pop Qk (nG (af 0) (by rfl))))
   (aR (gi (gX (af 0) T.d8 T.xh.at_ (Ua T) (aq.mono .aA) T.xh.bd .nil bD (aa (dt iA (af 1) aI (λ _ _=>rfl)) (aa (dt iA (af 1) aI (λ _ _=>rfl)) ao))))))),?_]
  obtain ⟨aL,ae⟩:=B.at_;have y8:hd≠dl:=cW B.hd B.dl nofun;have GW:bn≠dl:=cW ae B.dl nofun;have GY:bn≠hd:=cW ae B.hd nofun;refine #[_,rfl,bn,_,aL,_,_,rfl,ae,T.d8,T.Eh,rfl,dl,_,rfl,.inl (a9.of B.dl),rfl,_,rfl,?_];by_cases aF:ds=[]
  ·subst aF;exact cA #[bo,cg rfl]
  obtain ⟨kb,u,rfl⟩ : ∃ kb u,ds=kb++[u]:=#[ds.dropLast,ds.getLast aF,(List.dropLast_concat_getLast aF).symm]
  obtain ⟨t,x,w,rfl,aU,hw,q⟩:=q kb u rfl;have G5:t≠dl:=cW aU B.dl nofun;rw [dN (show ¬ V.int ((kb++[V.ref t]).length:Int)=V.int 0 from λ z=>by injection z with z;rw [fm] at z;simp at z;omega)];refine bA #[_,rfl,bn,_,aL,_,_,rfl,ae,T.d8,T.Eh,rfl,.inl #[rfl,_,a9.of B.dl],dl,_,.ref t,rfl,rfl,B.dl,.zs,?_];have dK:bN dl H (upd H dl (.lst (kb++[V.ref t]).dropLast)):=bN.upd;have iB:fF T (upd H dl (.lst (kb++[V.ref t]).dropLast)) bn pr hd dl kvs kb:=#[#[aL,dK _ _ GW ae],dK _ _ y8 B.hd,by rw [bL,List.dropLast_concat]]
  generalize upd H dl (.lst (kb++[V.ref t]).dropLast)=au at dK iB;obtain ⟨yd,kd⟩:=iB.at_;have nq:=dK _ _ G5 aU;refine #[_,rfl,bn,yd,_,rfl,kd,rfl,_,rfl,t,_,_,_,rfl,rfl,a0.of nq,rfl,_,rfl,t,_,_,_,rfl,rfl,a0.of nq,rfl,bn,pr,hd,dl,kvs,_,x,w,rfl,iB,aG,hw,λ aW gG aH=>?_];exact q aW (λ c o cC dB eg=>gG _ _ cC (dK _ _ dB eg)) #[#[yd,gG _ _ GY kd],aH,gG _ _ (ek y8) iB.dl]
noncomputable def JY (T:bB K mg):b3:=λ vs H Q E => ∃ (bn pr hd dl:Addr) (kvs:List (Key×V)) (ds:bl) (v:V),vs=[.ref bn,v]/\fF T H bn pr hd dl kvs ds/\kvs.length<=100/\ds.length<=1000/\dV H v/\(la kvs v=none->E (.ref T.ff) none H) /\
 ∀ x u,v=.str x->dU kvs (cF x)=some u -> ∀ t H',jI hd dl H H'->H' t=some (.tup [.str x,u])->fF T H' bn pr hd dl (qW kvs (cF x)) (ds++[.ref t])->Q .bh H'
theorem T_ (T:bB K mg):c8 P w mg base (iL P w) 3 T.xg (JY T):=by
 refine T.xg.fn.ph ajh (λ vs H Q E h=>?_) (λ bg A outer s H vs Q E aq h=>?_)
 ·obtain ⟨bn,pr,hd,dl,kvs,ds,v,rfl,_⟩:=h;rfl
 ·obtain ⟨bn,pr,hd,dl,kvs,ds,v,rfl,B,aG,e_,k,cg,q⟩:=h;refine #[_,(aN (gi (gX (af 0) T.d8 T.p2.at_ (Em T) (aq.mono .aA) T.p2.bd .nil zY (aa (af 1) ao)))
   (aR (gi (gX (af 0) T.d8 T.ti.at_ (KV T) (aq.mono .aA) T.ti.bd .nil bD (aa (af 1) (aa e2 ao)))))),?_]
  obtain ⟨aL,ae⟩:=B.at_;refine #[_,rfl,bn,aL,_,rfl,ae,rfl,_,rfl,bn,pr,hd,dl,kvs,ds,v,rfl,B,k,λ u br=>?_,cg];obtain ⟨x,rfl⟩ : ∃ x,v=.str x:=by cases v<;>first | exact #[_,rfl] | cases br
  have ba:dU kvs (cF x)=some u:=br;refine #[_,rfl,bn,aL,_,rfl,ae,rfl,_,rfl,bn,pr,hd,dl,kvs,ds,x,.bh,rfl,B,aG,e_,.inl #[rfl,u,ba],λ t H' f3 aU ie=>?_];rw [ba] at aU;exact q x u rfl ba t H' f3 aU ie
end
noncomputable def jU:V->Bool
 | .int i=>decide (i<=1000000)
 | _=>false
noncomputable def gy (H:az) (v:V):Bool:=match dR H v with
 | some xs=>decide (xs.length=10)&&xs.all gK&&xs.all jU
 | none=>false
theorem Jj : ∀ {xs:bl},xs.all gK=true -> ∃ ag:aV,xs=ag.map V.int /\ ∀ i∈ag,0<=i
 | [],_=>#[[],rfl,λ _ h=>by cases h]
 | x::xs,h=>by
  rw [List.all_cons,jA] at h;obtain ⟨ag,rfl,aw⟩:=Jj h.2;obtain ⟨i,rfl,ax⟩ : ∃ i:Int,x=.int i/\0<=i:=by
   cases x with
   | int i=>exact #[i,rfl,eT h.1]
   | _=>cases h.1
  exact #[i::ag,rfl,λ j b5=>(c1.mp b5).elim (λ z=>by rw [z];exact ax) (aw j)]
section
variable {w:World}
noncomputable def DV (T:bB K mg):b3:=λ vs H Q E => ∃ (bn pr hd dl:Addr) (kvs:List (Key×V)) (ds:bl) (v p:V),vs=[.ref bn,v,p]/\fF T H bn pr hd dl kvs ds/\kvs.length<=12/\ds.length<=1000/\qk H v/\dg H p /\
 (fD v=false -> ∀ H',aE H H'->E (.ref T.ff) none H')/\(fD v=true->gy H p=false -> ∀ H',aE H H'->E (.ref T.gk) none H') /\
 (∀ x,v=.str x->fD v=true->gy H p=true->dU kvs (cF x)=none->kvs.length=12 -> ∀ H',aE H H'->E (.ref T.fx) none H') /\
 (∀ x a ag,v=.str x->fD v=true->p=.ref a->H a=some (tupI ag)->ag.length=10->(∀ i∈ag,0<=i/\i<=1000000)->(dU kvs (cF x)≠none\/kvs.length<12) -> ∀ t w H',jI hd dl H H'->H' w=some (.tup [.ref a,.int 0])->H' t=some (.tup [.str x,(dU kvs (cF x)).getD .bh])->fF T H' bn pr hd dl (putK kvs (cF x) (.ref w)) (ds++[.ref t])->Q .bh H')
theorem KA (T:bB K mg):c8 P w mg base (iL P w) 3 T.tg (DV T):=by
 refine T.tg.fn.ph aiS (λ vs H Q E h=>?_) (λ bg A outer s H vs Q E aq h=>?_)
 ·obtain ⟨bn,pr,hd,dl,kvs,ds,v,p,rfl,_⟩:=h;rfl
 ·obtain ⟨bn,pr,hd,dl,kvs,ds,v,p,rfl,B,aG,e_,ba,aw,bb,cg,lC,eQ⟩:=h;refine #[_,(aN (cN (gM (eu (bR (ahP T) aq bD (aa (af 1) ao))))
    (aR (u0 rb rfl rfl T.Ro (by rfl) (aa ck ao)))
    cB)
   (aN (cN (eD.pt (gA (gM (eu (bR (aiP T) aq bD (aa (af 2) ao)))) (hv (ct ov (bQ (afF rfl) T.wz wt (aa (af 2) ao)) (uY (by rfl) T.Kz) (bS _)))))
    (aR (u0 rb rfl rfl T.ahe (by rfl) (aa ck ao)))
    cB)
   (aN (pO (eD.pt (uL (ct (S4 (lb aq)) (af 1) (nG (af 0) (by rfl)) (by with_unfolding_all rfl)) (uU (ct eS (bQ afE T.gh gg (aa (nG (af 0) (by rfl)) ao)) (uY (by rfl) T.Ky) (bS _)))))
    (aR (u0 rb rfl rfl T.R_ (by rfl) (aa ck ao)))
    cB)
   (aR (gi (gX (af 0) T.d8 T.ti.at_ (KV T) (aq.mono .aA) T.ti.bd .nil bD (aa (af 1) (aa (dh (aa (af 2) (aa aI ao))) ao)))))))),?_]
  refine #[_,rfl,v,rfl,ba,λ H1 s1=>#[_,rfl,?_]];cases aF:fD v with
  | false=>exact cA #[bo,bb aF H1 s1]
  | true =>
   obtain ⟨x,rfl⟩ : ∃ x,v=.str x:=by cases v<;>first | exact #[_,rfl] | cases aF
   refine bA #[_,rfl,p,rfl,aE.dg s1 aw,λ au s2=>#[_,rfl,?_]];have XB:ox H1 p=ox H p:=by unfold ox;rw [aE.dR s1 aw.1]
   rw [XB];cases BQ:ox H p with
   | false =>
    refine cA (cA #[bo,cg aF ?_ au (s1.trans s2)]);unfold ox at BQ;unfold gy;cases b0:dR H p with
    | none=>rfl
    | some xs =>
     rw [b0] at BQ;show (decide (xs.length=10)&&xs.all gK&&xs.all jU)=false;rw [show (decide (xs.length=10)&&xs.all gK)=false from BQ];rfl
   | true =>
    have wj:=BQ;unfold ox at wj;cases b0:dR H p with
    | none=>rw [b0] at wj;cases wj
    | some xs =>
     rw [b0] at wj;obtain ⟨a,rfl,ay⟩:=uX b0;have jM:=sY.mp (show (decide (xs.length=10)&&xs.all gK)=true from wj);have sk:xs.length=10:=eT jM.1;obtain ⟨ag,rfl,Nv⟩:=Jj jM.2;have es:ag.length=10:=by rw [bY] at sk;exact sk
     have h9:=s1.trans s2;refine bA #[_,rfl,a,ag,rfl,a0.of (h9 _ _ ay),(by intro z;rw [z] at es;cases es),λ M xM yJ=>#[_,_,rfl,rfl,_,rfl,?_]];by_cases O3:M > 1000000
     ·rw [cc O3];refine cA #[bo,cg aF ?_ au h9];unfold gy;rw [b0];show (decide ((ag.map V.int).length=10)&&(ag.map V.int).all gK&&(ag.map V.int).all jU)=false;rw [show (ag.map V.int).all jU=false from ?_,s7];rw [sW];intro z;have:=eT (show decide (M<=1000000)=true from gT.mp z (.int M) (pU xM));omega
     ·rw [dN O3];refine bA ?_;have jo : ∀ i∈ag,0<=i/\i<=1000000:=λ i ax=>#[Nv i ax,by have:=yJ i ax;omega]
      have iB:=B.same h9;obtain ⟨aL,ae⟩:=iB.at_;refine #[λ σ' H'=>σ'=[some (.ref bn),some (.str x),some (.ref a)]/\au=H'/\(dU kvs (cF x)≠none\/kvs.length<12),?_,?_]
      ·refine #[_,rfl,_,rfl,bn,_,aL,_,_,rfl,ae,T.d8,T.ry,rfl,x,hd,kvs,rfl,rfl,iB.hd,_,rfl,?_];cases aB:(dU kvs (cF x)).isSome with
       | true=>exact bA (bA #[rfl,rfl,.inl λ z=>by rw [z] at aB;cases aB])
       | false =>
        have lJ:dU kvs (cF x)=none:=by
         cases h:dU kvs (cF x) with
         | none=>rfl
         | some u=>rw [h] at aB;cases aB
        refine cA #[_,rfl,bn,_,aL,_,_,rfl,ae,T.d8,T.ry,rfl,hd,kvs,rfl,iB.hd,rfl,_,rfl,?_];by_cases jM:kvs.length=12
        ·rw [cc (show V.int (kvs.length:Int)=V.int 12 by rw [jM];rfl)];refine cA #[bo,lC x rfl aF ?_ lJ jM au h9];unfold gy;rw [b0];show (decide ((ag.map V.int).length=10)&&(ag.map V.int).all gK&&(ag.map V.int).all jU)=true;rw [show (decide ((ag.map V.int).length=10)&&(ag.map V.int).all gK)=true from wj,s8,gT];intro y aT;obtain ⟨i,ax,rfl⟩:=e3.mp aT;exact cc (jo i ax).2
        rw [dN (show ¬ V.int (kvs.length:Int)=V.int 12 from λ z=>by injection z with z;omega)];exact bA #[rfl,rfl,.inr .aD]
      ·rintro σ' H' ⟨rfl,rfl,sv⟩;refine #[_,rfl,bn,aL,_,rfl,ae,rfl,_,rfl,_,rfl,bo,λ w aW di s3 hw=>?_];refine #[bn,pr,hd,dl,kvs,ds,x,.ref w,rfl,iB.same s3,.aD,e_,.inr #[w,rfl],λ t bc kF aU rz=>?_];have G6:w≠dl:=λ z=>by rw [z,iB.dl] at di;cases di
       have G7:w≠hd:=λ z=>by rw [z,iB.hd] at di;cases di
       exact eQ x a ag rfl aF rfl ay es jo sv t w bc (λ c o cC dB eg=>kF _ _ cC dB (s3 _ _ (h9 _ _ eg))) (kF _ _ G7 G6 hw) aU rz
noncomputable def Jt (T:bB K mg):b3:=λ vs H Q E => ∃ (bn pr hd dl:Addr) (kvs:List (Key×V)) (ds:bl) (v:V) (m:Int),vs=[.ref bn,v,.int m]/\fF T H bn pr hd dl kvs ds/\kvs.length<=100/\ds.length<=1000/\dV H v/\0<=m/\m<2 ^ 62/\(la kvs v=none->E (.ref T.ff) none H) /\
 ∀ x u,v=.str x->dU kvs (cF x)=some u -> ∃ (w a:Addr) (xs:bl) (fs:f_) (ag:aV) (n:Int),u=.ref w/\H pr=some (.tup xs)/\h_ H xs fs/\xs.length<=1000/\H w=some (.tup [.ref a,.int n])/\H a=some (tupI ag)/\ag.length=10/\nn ag=true/\(sr (rowsOf fs) ag m.toNat -> ∀ H',aE H H'->E (.ref T.fx) none H') /\
  ∀ (k:Nat) r aY cV t H',sq (rowsOf fs) ag m.toNat k r->jI hd dl H H'->H' aY=some (tupI r)->H' cV=some (.tup [.ref aY,.int (n+(k:Int))])->H' t=some (.tup [.str x,.ref w]) ->
   fF T H' bn pr hd dl (putK kvs (cF x) (.ref cV)) (ds++[.ref t])->Q (.int (k:Int)) H'
theorem TR (T:bB K mg):c8 P w mg base (iL P w) 8 T.xe (Jt T):=by
 refine T.xe.fn.ph KQ (λ vs H Q E h=>?_) (λ bg A outer s H vs Q E aq h=>?_)
 ·obtain ⟨bn,pr,hd,dl,kvs,ds,v,m,rfl,_⟩:=h;rfl
 ·obtain ⟨bn,pr,hd,dl,kvs,ds,v,m,rfl,B,aG,e_,Xq,m0,tB,cg,q⟩:=h;refine #[_,(aN (bV 3 KQ (gX (af 0) T.d8 T.p2.at_ (Em T) (aq.mono .aA) T.p2.bd .nil zY (aa (af 1) ao)))
   (aN (bV 4 KQ (bR (ahO T) aq zY (aa (nG (af 0) (by rfl)) (aa (dt iA (af 3) aI (λ _ _=>rfl)) (aa (af 2) ao)))))
   (aN (gi (gX (af 0) T.d8 T.ti.at_ (KV T) (aq.mono .aA) T.ti.bd .nil bD (aa (af 1) (aa (dh (aa (dt iA (af 4) aI (λ _ _=>rfl)) (aa (bU gL (dt iA (af 3) aI (λ _ _=>rfl)) (dt iA (af 4) aI (λ _ _=>rfl))) ao))) ao))))
   (aR (bE (dt iA (af 4) aI (λ _ _=>rfl))))))),?_]
  obtain ⟨aL,ae⟩:=B.at_;refine #[_,rfl,bn,aL,_,rfl,ae,rfl,_,rfl,bn,pr,hd,dl,kvs,ds,v,rfl,B,Xq,λ u br=>?_,cg];obtain ⟨x,rfl⟩ : ∃ x,v=.str x:=by cases v<;>first | exact #[_,rfl] | cases br
  have ba:dU kvs (cF x)=some u:=br;obtain ⟨w,a,xs,fs,ag,n,rfl,nk,hf,av,hw,ay,es,gP,E2,q⟩:=q x u rfl ba;refine #[_,rfl,bn,_,aL,_,_,rfl,ae,T.d8,T.Ur,rfl,_,rfl,w,_,_,_,rfl,rfl,a0.of hw,rfl,_,rfl,pr,a,xs,fs,ag,m,rfl,nk,hf,av,ay,es,gP,m0,tB,λ k r e aY H1 kE s1 he gJ=>?_,E2];have Er:=B.same s1;refine #[_,rfl,bn,aL,_,rfl,s1 _ _ ae,rfl,_,rfl,_,rfl,e,_,_,_,rfl,rfl,a0.of he,rfl,_,rfl,w,_,_,_,rfl,rfl,a0.of (s1 _ _ hw),rfl,_,rfl,e,_,_,_,rfl,rfl,a0.of he,rfl,_,_,rfl,rfl,bo,λ cV au f2 s2 pg=>?_];have iB:=Er.same s2;refine #[bn,pr,hd,dl,kvs,ds,x,.ref cV,rfl,iB,aG,e_,.inr #[cV,rfl],λ t aW k3 aU UQ=>?_];rw [ba] at aU;have G6:cV≠dl:=λ z=>by rw [z,Er.dl] at f2;cases f2
  have G7:cV≠hd:=λ z=>by rw [z,Er.hd] at f2;cases f2
  have bf : ∀ {c:Addr} {xs:bl},au c=some (.tup xs)->aW c=some (.tup xs):=λ {c xs} ak=>k3 _ _ (cW ak iB.hd nofun) (cW ak iB.dl nofun) ak
  refine #[_,rfl,e,_,_,_,rfl,rfl,a0.of (bf (s2 _ _ he)),rfl,?_];exact q k r aY cV t aW kE (λ c o cC dB eg=>k3 _ _ cC dB (s2 _ _ (s1 _ _ eg))) (bf (s2 _ _ gJ)) (k3 _ _ G7 G6 pg) aU UQ
end
theorem agv {p:Addr} (h:H p=some (.tup xs)) (ah:1<=xs.length) (ai:xs.length<=16) (hf : ∀ x∈xs,lX H x):jr H (.ref p)=true:=by
 unfold jr;rw [kx h];show (decide _&&decide _&&xs.all (eR H))=true;rw [cc ah,cc ai];refine gT.mpr λ x aj=>?_
 obtain ⟨c,i,j,rfl,ak,f⟩:=hf x aj;unfold eR;rw [kx ak];exact f
theorem afp {p:Addr} (h:H p=some (.tup xs)) (ai:xs.length<=16) (hf : ∀ x∈xs,lX H x):kW H (.ref p) :=
 DN h .aD λ x aj=>by
  obtain ⟨c,i,j,rfl,ak,f⟩:=hf x aj;exact lh ak .zs (all2 trivial trivial)
section
variable {w:World}
noncomputable def RS (T:bB K mg):b3:=λ vs H Q _ => ∃ (bn aL pr:Addr) (xs:bl),vs=[.ref bn,.ref pr]/\H bn=some (.ins T.gV aL [])/\H pr=some (.tup xs)/\1<=xs.length/\xs.length<=16/\(∀ x∈xs,lX H x) /\
 ∀ hd dl H',bN bn H H'->H hd=none->H dl=none->fF T H' bn pr hd dl [] []->Q .bh H'
theorem KW (T:bB K mg):c8 P w mg base cS 5 T.nN (RS T):=by
 refine T.nN.fn.en Ug (λ vs H Q E h=>?_) (λ bg A outer s H vs Q E aq h=>?_)
 ·obtain ⟨bn,aL,pr,xs,rfl,_⟩:=h;rfl
 ·obtain ⟨bn,aL,pr,xs,rfl,ae,nk,gs,zt,hI,q⟩:=h;refine #[_,(aN (cN (gM (eu (bR (Uc T) aq bD (aa (af 1) ao))))
    (aR DU)
    cB)
   (aN (wK (af 0) (af 1) rfl)
   (aN (wK (af 0) w4 rfl)
   (aR (wK (af 0) (eK ao) rfl))))),?_]
  refine #[_,rfl,.ref pr,rfl,afp nk zt hI,λ H1 s1=>#[_,rfl,?_]];rw [agv nk gs zt hI];refine bA #[_,rfl,_,rfl,bn,_,aL,_,rfl,s1 _ _ ae,T.d8,T.Ur,.aA,?_];refine λ hd au f2 s2 ai=>#[_,rfl,bn,_,aL,_,rfl,s2 _ _ bL,T.d8,T.ry,(by show (1:Nat)<1000;decide),?_]
  refine #[bo,λ dl aW di s3 aH=>#[_,rfl,bn,_,aL,_,rfl,s3 _ _ bL,T.d8,T.Eh,(by show (2:Nat)<1000;decide),?_]];have B6:hd≠bn:=λ z=>by rw [z,bL] at f2;cases f2
  have GZ:dl≠bn:=λ z=>by rw [z,bL] at di;cases di
  have alj:dl≠hd:=λ z=>by rw [z,bj B6,ai] at di;cases di
  have FR:H hd=none:=s1.free (by rw [bj B6] at f2;exact f2);have BA:H dl=none:=by
   rw [bj GZ] at di;have g:=s2.free di;rw [bj GZ] at g;exact s1.free g
  refine q hd dl _ (λ c o d0 eg=>?_) FR BA #[#[aL,bL],?_,?_]
  ·rw [bj d0];refine s3 _ _ ?_;rw [bj d0];refine s2 _ _ ?_;rw [bj d0];exact s1 _ _ eg
  ·rw [bj B6];refine s3 _ _ ?_;rw [bj B6];exact ai
  ·rw [bj GZ];exact aH
noncomputable def RX:b3:=λ vs H Q _ => ∃ (l d:Addr) (xs:bl),vs=[.ref l,.ref d]/\H l=some (.lst xs)/\H d=some (.lst xs)/\xs.length<=1000/\(∀ x∈xs,zZ x=true) /\ ∀ H',aE H H'->Q (.aX true) H'
theorem ahS (T:bB K mg):c8 P w mg base cS 5 T.rm RX:=by
 refine T.rm.fn.en w7 (λ vs H Q E h=>?_) (λ bg A outer s H vs Q E aq h=>?_)
 ·obtain ⟨l,d,xs,rfl,_⟩:=h;rfl
 ·obtain ⟨l,d,xs,rfl,av,hd,GI,XH,q⟩:=h;refine #[_,(aN (cN (ct oF (af 1) e2 (bS _))
    (aR (bE (hy oF (af 0) e2 (bS _))))
    cB)
   (aN (cN (eu (bQ eL T.dz dy (aa (af 1) (aa (eB (by rfl) T.sJ sI) ao))))
    (aR (bE (jy (bQ eL T.dz dy (aa (af 0) (aa (eB (by rfl) T.sJ sI) ao))) (i0 (hy eS (af 0) (af 1) (bS _))))))
    cB)
   (aN (cN (eu (bQ eL T.dz dy (aa (af 1) (aa (eB (by rfl) T.zU zM) ao))))
    (aR (bE (jy (bR (D_ T) aq bD (aa (af 0) ao)) (i0 (hy eS (af 0) (af 1) (bS _))))))
    cB)
   (aN (cN (eu (bQ eL T.dz dy (aa (af 1) (aa (eB (by rfl) T.pD pC) ao))))
    (aR (bE (jy (bQ eL T.dz dy (aa (af 0) (aa (eB (by rfl) T.pD pC) ao))) (i0 (hy eS (af 0) (af 1) (bS _))))))
    cB)
   (aN (cN (eD.pt (gA (ct iW (bQ eL T.dz dy (aa (af 1) (aa (eB (by rfl) T.hM hL) ao))) (bQ eL T.dz dy (aa (af 0) (aa (eB (by rfl) T.hM hL) ao))) (bS _)) (hv (ct iW (bQ eL T.dz dy (aa (af 1) (aa (eB (by rfl) T.uJ uH) ao))) (bQ eL T.dz dy (aa (af 0) (aa (eB (by rfl) T.uJ uH) ao))) (bS _)))))
    (aR (bE gz))
    cB)
   (aR (bE (jy (hy eS (bQ h1 T.gh gg (aa (af 0) ao)) (bQ h1 T.gh gg (aa (af 1) ao)) (bS _)) (i0 (bQ (rp rfl) T.qY qV (aa (hz (e8 w7 (N:=["one", "other"]) (js:=[none,none]) (gU _)) rfl (DK rfl rfl T.ko (aa (af 0) (aa (af 1) ao))) (λ _ _ _ _=>(nK (K:=K) (n:=2) rfl rfl (du g_ (du (l0 (i:=1) (show List.Nodup (["one", "other"]:bT) from by decide +kernel) rfl (Or.inl rfl) (Or.inr rfl)) hg)))) (λ _ _ _ _=>hN)
     (λ _ _ _ _=>(bR (J6 T) aq bD (aa (af 0) (aa (af 1) ao))))) ao))))))))))),?_]
  have ma:dV H (.ref d):=Jf hd;have gq:dV H (.ref l):=Jf av;obtain ⟨bz,ue,eV⟩:=wy (K:=K) ma;obtain ⟨hU,wa,oY⟩:=zR (K:=K) ma;obtain ⟨ts,tys,ar⟩:=qX (K:=K) ma;obtain ⟨tt,Hm,tu⟩:=sx (K:=K) ma;obtain ⟨d1,Hl,j5⟩:=CR (K:=K) ma;obtain ⟨EO,FV,FQ⟩:=sx (K:=K) gq;obtain ⟨da,FU,FP⟩:=CR (K:=K) gq;have EK:yZ H (.ref d)=true:=by show so (H d)=true;rw [hd];rfl
  have EN:yZ H (.ref l)=true:=by show so (H l)=true;rw [av];rfl
  refine #[_,rfl,rfl,_,rfl,bA ?_];refine #[_,rfl,_, "bool", bz,_,rfl,ue,eV,_,rfl,bA ?_];refine #[_,rfl,_, "int", hU,_,rfl,wa,oY,_,rfl,bA ?_];refine #[_,rfl,_, "str", ts,_,rfl,tys,ar,_,rfl,bA ?_];refine #[_,rfl,_, "tuple", tt,_,rfl,Hm,tu,_,rfl,_, "tuple", EO,_,rfl,FV,FQ,rfl,_,rfl,?_];rw [IY hd,IY av];refine bA #[_,rfl,_, "list", d1,_,rfl,Hl,j5,_,rfl,_, "list", da,_,rfl,FU,FP,rfl,_,rfl,?_];rw [EK,EN];refine bA ?_;refine #[_,rfl,l,xs,rfl,.inl (a9.of av),_,rfl,d,xs,rfl,.inl (a9.of hd),rfl,_,rfl,?_];rw [cc rfl];refine cA ?_;refine #[_,rfl,_,rfl,l,d,xs,xs,rfl,av,hd,λ D a8=>?_];refine Sn (xs:=xs) (ys:=xs) (by rw [ef];omega) (λ i σ' H' zs=>(∃ u v:dG,σ'=[u,v])/\aE H H'/\zs=(List.replicate i true).map V.aX) #[#[_,_,rfl],aE.new a8,rfl] (λ i σ' H' zs _ ⟨_,s',_⟩=>#[s' _ _ av,s' _ _ hd]) ?_ ?_
  ·rintro i x y p σ' H' zs vd dD eZ aw ei ki ⟨⟨u,v,rfl⟩,s',rfl⟩ dF;rw [dD] at eZ;cases eZ;have aB:=XH x (dr dD);refine #[p,_,rfl,a0.of bL,rfl,_,_,rfl,_,_,rfl,rfl,?_];have sp:aE H (upd H' p (.tup [x,x])):=aE.more s' aw;refine #[_,rfl,_,rfl,x,x,rfl,D3 aB,aB,?_];rw [cc rfl];refine dF _ _ _ ?_ #[#[_,_,rfl],?_,?_]
   ·rw [bj (cf ei aw)];exact ei
   ·intro hD o e;rw [bj (cf e a8)];exact sp hD o e
   ·rw [List.replicate_succ',mP];rfl
  ·rintro σ' H' zs ei ki ⟨_,s',rfl⟩;refine #[D,_,rfl,a9.of ei,?_];rw [show (List.replicate (min xs.length xs.length) true).all id=true by simp];exact q H' s'
noncomputable def ah4:b3:=λ vs H Q E=>SM vs H Q E\/RX vs H Q E
theorem D9 (T:bB K mg):c8 P w mg base cS 5 T.rm ah4:=eo.or ((D5 T).mono .aA) (ahS T)
noncomputable def CT (H:az) (a:Addr):Nat:=match H a with
 | some (.lst xs)=>xs.length
 | _=>0
noncomputable def ajZ:b3:=λ vs H Q _ => ∃ (l b:Addr) (ts:bl) (fs:f_) (ag:aV) (m:Int),vs=[.ref l,.ref b,.int m]/\H l=some (.lst ts)/\mA H ts fs/\H b=some (tupI ag)/\ag.length=10/\nn ag=true/\0<=m/\m<=5000 /\
 ∀ aY r u H' rs rws,H aY=none->H r=none->H u=none->aE H H'->H' aY=some (.lst [.ref r,.ref u])->H' r=some (.lst rs)->fH H' rs rws->HV (rowsOf fs) m.toNat ag rws->H' u=some (.lst ((fb (jT (rowsOf fs) m.toNat ag)).map V.int))->Q (.ref aY) H'
theorem ajW (T:bB K mg):c8 P w mg base cS 5 T.Uz ajZ:=by
 refine T.Uz.fn.en AN (λ vs H Q E h=>?_) (λ bg A outer s H vs Q E aq h=>?_)
 ·obtain ⟨l,b,ts,fs,ag,m,rfl,_⟩:=h;rfl
 ·obtain ⟨l,b,ts,fs,ag,m,rfl,av,b0,ae,es,gP,m0,tB,q⟩:=h;refine #[_,(aN (bV 3 AN (eK (aa (af 1) ao)))
   (aN (bV 4 AN (eK ao))
   (aN (bV 5 AN (bR (Ud T) aq bD (aa (af 0) (aa (af 1) ao))))
   (aN (u1 fU (eD.pt (uL (ct nz (bQ h1 T.gh gg (aa (af 4) ao)) (af 2) (bS _)) (uU (ct I0 (af 5) e2 (bS _)))))
    (aN (gi (jZ ks oJ oK pY (af 4) (aa (af 5) ao)))
   (aN (gi (jZ ks oJ oK pY (af 3) (aa (bR (aeI T) aq bD (aa (af 0) (aa (dt fE (af 3) (qZ ra aI) (λ _ _=>rfl)) (aa (af 5) (aa aI ao))))) ao)))
   (aR (bV 5 AN (bR (Ud T) aq bD (aa (af 0) (aa (dt fE (af 3) (qZ ra aI) (λ _ _=>rfl)) ao))))))))
   (aR (bE (eK (aa (af 3) (aa (af 4) ao))))))))),?_]
  refine #[_,rfl,bo,λ r H1 f1 s1 fG=>?_];refine #[bo,λ u au f2 s2 XR=>?_];have N1:r≠u:=λ z=>by rw [z,f2] at fG;cases fG
  have nt:=s1.trans s2;have A5:H u=none:=s1.free f2;have R:=pX fs;refine #[_,rfl,_,rfl,l,b,ts,fs,ag,rfl,nt _ _ av,b0.same nt,nt _ _ ae,es,gP,λ aW s3=>?_];refine u5 (λ σ bc => ∃ (ws:eG) (rs:bl) (rws:fq) (cur:aV),σ=[some (.ref l),some (.ref b),some (.int m),some (.ref r),some (.ref u),some (mF (dq (rowsOf fs) cur))]/\aE H bc/\bc u=some (.lst ((fb ws).map V.int))/\bc r=some (.lst rs)/\fH bc rs rws/\rws.length=ws.length+1/\(∀ i,i<rws.length->rws[i]?=goN (rowsOf fs) i ag)/\goN (rowsOf fs) ws.length ag=some cur/\ws.length<=m.toNat/\ws++jT (rowsOf fs) (m.toNat - ws.length) cur=jT (rowsOf fs) m.toNat ag)
   (λ _ bc=>m.toNat - CT bc u) #[[],[.ref b],[ag],ag,rfl,nt.trans s3,s3 _ _ XR,s3 _ _ (s2 _ _ fG),fH.one #[b,rfl,s3 _ _ (nt _ _ ae)],rfl,(λ i ax=>by
    have:i=0:=by simpa using ax
    subst this;rfl),rfl,j0 _,rfl] ?_
  rintro σ bc ⟨ws,rs,rws,cur,rfl,s4,qw,GB,tP,r9,pb,Ct,BS,t2⟩;have Np:(((fb ws).map V.int).length:Int)=(ws.length:Int):=by rw [bY,An]
  have mD:=q7 R es gP Ct;have kc:rws[ws.length]?=some cur:=by rw [pb _ .aD];exact Ct
  refine #[_,rfl,u,_,rfl,.inl (a9.of qw),_,rfl,_,_,rfl,rfl,_,rfl,eJ (λ h=>?_) (λ h=>?_)]
  ·have h0:(((fb ws).map V.int).length:Int)<m:=eT h;rw [Np] at h0;obtain ⟨d,hd⟩ : ∃ d,m.toNat - ws.length=d+1:=#[m.toNat - ws.length - 1,.aD]
   refine #[_,rfl,rfl,_,rfl,?_];cases kl:dq (rowsOf fs) cur with
   | none =>
    refine bA ?_;rw [Jw kl,wG] at t2;refine #[_,rfl,_,rfl,bo,λ aY bW fi s5 b4=>?_];rw [<-t2] at q;refine q aY r u bW rs rws (s4.free fi) f1 A5 (s4.trans s5) b4 (s5 _ _ GB) (tP.same s5) ?_ (s5 _ _ qw);unfold HV;rw [<-t2];exact #[r9,pb,.inr #[cur,Ct,kl]]
   | some k =>
    obtain ⟨c,ak,_,aG⟩:=s9 kl;obtain ⟨x,e,aj,rfl,he⟩:=tP.of kc;refine cA (uf #[_,rfl,.inl #[rfl,_,a9.of qw],_,rfl,u,_,_,rfl,rfl,qw,?_,λ bW dX b4=>?_])
    ·rw [bY,An,ef];omega
    have k5 : ∀ c o,H c=some o->bW c=some o:=λ c o fz=>dX c o (λ z=>by rw [z,A5] at fz;cases fz) (s4 _ _ fz)
    have yP:bW r=some (.lst rs):=dX _ _ N1 GB;have Xd:fH bW rs rws:=tP.but qw dX;have YJ:e≠u:=cW he qw nofun;have Xf:mA bW ts fs:=(b0.same s4).but qw dX;have E6:rs.length=ws.length+1:=by rw [tP.1,r9]
    refine #[_,rfl,.inl #[rfl,_,a9.of yP],_,rfl,_,rfl,_,rfl,r,_,_,_,rfl,rfl,a9.of yP,IM E6 aj,_,rfl,l,e,ts,fs,cur,c,k,1,rfl,k5 _ _ av,Xf,dX _ _ YJ he,mD.1,ak,#[.aA,.aA],λ p dO b_ fQ=>?_];refine #[r,rs,_,rfl,rfl,b_ _ _ yP,?_,λ dv gN hF=>?_]
    ·rw [E6,ef];omega
    have rM:aE H dv:=λ c o fz=>gN c o (λ z=>by rw [z,f1] at fz;cases fz) (b_ _ _ (k5 _ _ fz))
    have c4:=It kl ak;have YN:p≠r:=cW fQ (b_ _ _ yP) nofun;have mw:dv p=some (tupI (cT cur c 1)):=gN _ _ YN fQ;have yp:fH dv (rs++[.ref p]) (rws++[cT cur c 1]):=((Xd.same b_).app (fH.one #[p,rfl,fQ])).but (b_ _ _ yP) gN;have yL:goN (rowsOf fs) (ws.length+1) ag=some (cT cur c 1):=by
     show (goN (rowsOf fs) ws.length ag).bind _=_;rw [Ct];exact c4
    have Cw:=q7 R es gP yL;refine #[_,rfl,_,rfl,_,rfl,r,_,_,_,rfl,rfl,a9.of hF,Ru _ _,l,p,ts,fs,cT cur c 1,rfl,rM _ _ av,b0.same rM,mw,Cw.1,Cw.2,λ fg dp=>?_];have NA:fg u=some (.lst ((fb (ws++[k])).map V.int)):=by
     rw [dp _ _ (gN _ _ (λ z=>N1 z.symm) (b_ _ _ b4))];unfold fb;rw [mP,mP];rfl
    refine #[#[ws++[k],rs++[.ref p],rws++[cT cur c 1],cT cur c 1,rfl,rM.trans dp,NA,dp _ _ hF,yp.same dp,?_,?_,?_,?_,?_],?_]
    ·rw [fm,fm,r9];rfl
    ·intro i ax;by_cases yE:i<rws.length
     ·rw [sF yE];exact pb i yE
     ·have:i=ws.length+1:=by
       rw [fm] at ax;have:[cT cur c 1].length=1:=rfl;omega
      subst this;rw [<-r9,List.getElem?_concat_length,r9,yL]
    ·rw [fm];exact yL
    ·rw [fm];show ws.length+1<=_;omega
    ·rw [hd,Jx kl ak] at t2;rw [fm,show m.toNat - (ws.length + [k].length)=d by show m.toNat - (ws.length+1)=d;omega,List.append_assoc];exact t2
    ·show m.toNat - CT fg u<m.toNat - CT bc u;unfold CT;rw [NA,qw];show m.toNat - ((fb (ws++[k])).map V.int).length<m.toNat - ((fb ws).map V.int).length;rw [bY,bY,An,An,fm];show m.toNat - (ws.length+1)<m.toNat - ws.length;omega
  ·have h0 : ¬ (((fb ws).map V.int).length:Int)<m:=λ z=>h (cc z)
   rw [Np] at h0;have XY:ws.length=m.toNat:=by omega
   rw [show m.toNat - ws.length=0 by omega] at t2;have Pc:ws=jT (rowsOf fs) m.toNat ag:=by rw [<-t2];show ws=ws++[];rw [wG]
   refine bA #[_,rfl,_,rfl,bo,λ aY bW fi s5 b4=>?_];rw [<-Pc] at q;refine q aY r u bW rs rws (s4.free fi) f1 A5 (s4.trans s5) b4 (s5 _ _ GB) (tP.same s5) ?_ (s5 _ _ qw);unfold HV;rw [<-Pc];exact #[r9,pb,.inl XY]
noncomputable def gB (T:bB K mg) (Q:bG):dA:=λ AQ d H1=>d=none /\ ∃ (C:Addr) (i:Nat) (x:Str),AQ=.ref C/\uG T C i/\i<12/\D2[i]?=some x/\Under K C T.oT /\ ∀ H',aE H1 H'->Q (.str x) H'
theorem gB.name (T:bB K mg) {Q:bG} (q : ∀ H',aE H1 H'->Q (.str "name") H'):gB T Q (.ref T.ff) none H1:=#[rfl,T.ff,2, "name", rfl,af6 T,.aA,rfl,T.adS,q]
theorem gB.abY (T:bB K mg) {Q:bG} (q : ∀ H',aE H1 H'->Q (.str "powers") H'):gB T Q (.ref T.gk) none H1:=#[rfl,T.gk,5, "powers", rfl,aij T,.aA,rfl,T.ahf,q]
theorem gB.Cs (T:bB K mg) {Q:bG} (q : ∀ H',aE H1 H'->Q (.str "deed") H'):gB T Q (.ref T.gj) none H1:=#[rfl,T.gj,1, "deed", rfl,af4 T,.aA,rfl,T.adR,q]
theorem gB.many (T:bB K mg) {Q:bG} (q : ∀ H',aE H1 H'->Q (.str "many") H'):gB T Q (.ref T.fx) none H1:=#[rfl,T.fx,11, "many", rfl,af5 T,.aA,rfl,T.afv,q]
noncomputable def u7 (T:bB K mg):b3:=λ vs H Q _ => ∃ (bn cz aL:Addr) (da:List (Str×V)) (way:Str) (v bC:V),vs=[.ref bn,.ref cz]/\H cz=some (.tup [.str way,v,bC])/\H bn=some (.ins T.gV aL da)/\da.lookup ("put" : Str)=none/\da.lookup ("run" : Str)=none/\da.lookup ("drop" : Str)=none/\da.lookup ("undo" : Str)=none /\
 ((way = "put" /\ DV T [.ref bn,v,bC] H Q (gB T Q))\/(way = "run" /\ Jt T [.ref bn,v,bC] H Q (gB T Q))\/(way = "drop" /\ JY T [.ref bn,v] H Q (gB T Q))\/(way = "undo" /\ D6 T [.ref bn] H Q (gB T Q)))
theorem oM {x y:Str} (h:x≠y):decide (V.str x=V.str y)=false:=dN λ z=>by injection z with z;exact h z
theorem xq (T:bB K mg):c8 P w mg base cS 9 T.Um (u7 T):=by
 refine T.Um.fn.en AL (λ vs H Q E h=>?_) (λ bg A outer s H vs Q E aq h=>?_)
 ·obtain ⟨bn,cz,aL,da,way,v,bC,rfl,_⟩:=h;rfl
 ·obtain ⟨bn,cz,aL,da,way,v,bC,rfl,jO,ae,ew,hR,m5,p9,h⟩:=h;refine #[_,(aN (pN (af 1) (nH rfl (du (d7 2 AL) (du (d7 3 AL) (du (d7 4 AL) hg)))))
   (aR (I2 (E:=(gB T Q)) (i:=5) rfl rfl rfl T.Kw (by rfl) AL.c6 rfl rfl (λ _ _ kJ=>(aN (cN (ct eS (af 2) ck (bS _))
    (aR (bE (gX (af 0) T.d8 T.tg.at_ (KA T) (aq.mono .aA) T.tg.bd .nil (pE rfl kJ) (aa (af 3) (aa (af 4) ao)))))
    cB)
   (aN (cN (ct eS (af 2) ck (bS _))
    (aR (bE (gX (af 0) T.d8 T.xe.at_ (TR T) (aq.mono .aA) T.xe.bd .nil (pE rfl kJ) (aa (af 3) (aa (af 4) ao)))))
    cB)
   (aN (cN (ct eS (af 2) ck (bS _))
    (aR (bE (gX (af 0) T.d8 T.xg.at_ (T_ T) (aq.mono .aA) T.xg.bd .nil (pE rfl kJ) (aa (af 3) ao))))
    cB)
   (aR (bE (DT (af 0) T.d8 T.xi.at_ (Ub T) (aq.mono .aA) T.xi.bd .nil (pE rfl kJ))))))))
    (λ _=>(aR (bE (Jk (KU T) ((aq.mark _).mono .aA) rfl T.nL.at_ T.nL.fn.bf T.nL.bd (aa (af 5) ao)))))))),?_]
  refine #[_,rfl,cz,_,rfl,a0.of jO,rfl,_,_,rfl,_,_,rfl,_,_,rfl,rfl,#[_,rfl,rfl,_,rfl,?_],?_]
  ·rcases h with ⟨rfl,h⟩ | ⟨rfl,h⟩ | ⟨rfl,h⟩ | ⟨rfl,h⟩
   ·rw [cc rfl];exact cA #[_,rfl,bn,aL,da,rfl,ae,ew,_,rfl,_,rfl,h]
   ·rw [oM (show ("run" : Str) ≠ "put" by decide)];refine bA #[_,rfl,rfl,_,rfl,?_];rw [cc rfl];exact cA #[_,rfl,bn,aL,da,rfl,ae,hR,_,rfl,_,rfl,h]
   ·rw [oM (show ("drop" : Str) ≠ "put" by decide)];refine bA #[_,rfl,rfl,_,rfl,?_];rw [oM (show ("drop" : Str) ≠ "run" by decide)];refine bA #[_,rfl,rfl,_,rfl,?_];rw [cc rfl];exact cA #[_,rfl,bn,aL,da,rfl,ae,m5,_,rfl,h]
   ·rw [oM (show ("undo" : Str) ≠ "put" by decide)];refine bA #[_,rfl,rfl,_,rfl,?_];rw [oM (show ("undo" : Str) ≠ "run" by decide)];refine bA #[_,rfl,rfl,_,rfl,?_];rw [oM (show ("undo" : Str) ≠ "drop" by decide)];exact bA #[_,rfl,bn,aL,da,rfl,ae,p9,h]
  ·rintro C d H1 ⟨rfl,Es,i,x,eP,xO,ax,aj,un,q⟩;cases eP;exact #[un,λ e σ1 he hσ=>#[_,sC hσ,e,C,i,x,rfl,bL,xO,ax,aj,λ H' s'=>q H' ((aE.new he).trans s')]]
end
noncomputable def mi (H H':az):Prop := ∀ c xs,H c=some (.tup xs)->H' c=some (.tup xs)
theorem mi.of (s:aE H H'):mi H H':=λ c xs h=>s _ _ h
theorem h_.eA {fs:f_} (h:h_ H xs fs) (k:mi H H'):h_ H' xs fs:=#[h.1,λ i x aj=>by
 obtain ⟨a,b,c,ah,ai,aH,a4⟩:=h.2 i x aj;exact #[a,b,c,ah,ai,k _ _ aH,a4]]
noncomputable abbrev Ent:=aV×Int
noncomputable abbrev d9:=List (Str×Ent)
noncomputable def nv (H:az) (u:V) (e:Ent):Prop := ∃ w a:Addr,u=.ref w/\H w=some (.tup [.ref a,.int e.2])/\H a=some (tupI e.1)
theorem nv.eA {u:V} {e:Ent} (h:nv H u e) (k:mi H H'):nv H' u e:=by
 obtain ⟨w,a,aM,ah,ai⟩:=h;exact #[w,a,aM,k _ _ ah,k _ _ ai]
inductive ec (H:az):List (Key×V)->d9->Prop
 | nil:ec H [] []
 | cons {x:Str} {u:V} {e:Ent} {kvs:List (Key×V)} {aQ:d9}:nv H u e->ec H kvs aQ->ec H ((cF x,u)::kvs) ((x,e)::aQ)
section
variable {kvs:List (Key×V)} {aQ:d9} {x:Str} {u:V} {e:Ent}
theorem z_ {x y:Str} (h:cF x=cF y):x=y:=by injection h
theorem ec.eA (k:mi H H') : ∀ {kvs:List (Key×V)} {aQ:d9},ec H kvs aQ->ec H' kvs aQ
 | _,_,.nil=>.nil
 | _,_,.cons h t=>.cons (h.eA k) (t.eA k)
theorem ec.len : ∀ {kvs:List (Key×V)} {aQ:d9},ec H kvs aQ->kvs.length=aQ.length
 | _,_,.nil=>rfl
 | _,_,.cons _ t=>by rw [j1,j1,t.len]
theorem ec.keys : ∀ {kvs:List (Key×V)} {aQ:d9},ec H kvs aQ->kvs.map (·.1)=(e1 aQ).map cF
 | _,_,.nil=>rfl
 | _,_,.cons _ t=>by rw [iZ,t.keys];rfl
theorem ec.none : ∀ {kvs:List (Key×V)} {aQ:d9},ec H kvs aQ->d2 aQ x=none->dU kvs (cF x)=none
 | _,_,.nil,_=>rfl
 | _,_,.cons (x:=y) _ t,h=>by
  rw [xb] at h;by_cases aT:y=x
  ·rw [if_pos aT] at h;cases h
  ·rw [if_neg aT] at h;rw [Aq (λ z=>aT (z_ z))];exact t.none h
theorem ec.some : ∀ {kvs:List (Key×V)} {aQ:d9},ec H kvs aQ->d2 aQ x=Option.some e -> ∃ u,dU kvs (cF x)=Option.some u/\nv H u e
 | _,_,.nil,h=>by cases h
 | _,_,.cons (x:=y) (u:=u) br t,h=>by
  rw [xb] at h;by_cases aT:y=x
  ·rw [if_pos aT] at h;cases h;exact #[u,DY (by rw [aT]),br]
  ·rw [if_neg aT] at h;obtain ⟨kH,ah,ai⟩:=t.some h;exact #[kH,by rw [Aq (λ z=>aT (z_ z))];exact ah,ai]
theorem ec.app : ∀ {kvs:List (Key×V)} {aQ:d9},ec H kvs aQ->nv H u e->ec H (kvs++[(cF x,u)]) (aQ++[(x,e)])
 | _,_,.nil,h=>.cons h .nil
 | _,_,.cons br t,h=>.cons br (t.app h)
theorem ec.um (br:nv H u e) : ∀ {kvs:List (Key×V)} {aQ:d9},ec H kvs aQ->ec H (kvs.map λ eF=>if eF.1=cF x then (eF.1,u) else eF) (aQ.map λ p=>if p.1=x then (p.1,e) else p)
 | _,_,.nil=>.nil
 | _,_,.cons (x:=y) h t=>by
  rw [iZ,iZ];by_cases aT:y=x
  ·rw [if_pos (show cF y=cF x by rw [aT]),if_pos aT];exact .cons br (t.um br)
  ·rw [if_neg (λ z=>aT (z_ z)),if_neg aT];exact .cons h (t.um br)
theorem ec.put (d:ec H kvs aQ) (br:nv H u e):ec H (putK kvs (cF x) u) (ix aQ x e):=by
 unfold putK ix;have ZI:(kvs.any λ eF=>decide (eF.1=cF x))=(aQ.any λ p=>decide (p.1=x)):=by
  induction d with
  | nil=>rfl
  | @cons y _ _ _ _ _ _ cQ =>
   rw [List.any_cons,List.any_cons,cQ];have:decide (cF y=cF x)=decide (y=x):=decide_eq_decide.mpr #[z_,λ z=>by rw [z]];show (decide (cF y=cF x)||_)=(decide (y=x)||_);rw [this]
 rw [ZI];split
 ·exact d.um br
 ·exact d.app br
theorem ec.drop : ∀ {kvs:List (Key×V)} {aQ:d9},ec H kvs aQ->ec H (qW kvs (cF x)) (iy aQ x)
 | _,_,.nil=>.nil
 | _,_,.cons (x:=y) h t=>by
  unfold qW iy;by_cases aT:y=x
  ·rw [List.filter_cons_of_neg (by simp [aT]),List.filter_cons_of_neg (by simp [aT])];exact t.drop
  ·rw [List.filter_cons_of_pos (by exact cc λ z=>aT (z_ z)),List.filter_cons_of_pos (by exact cc aT)];exact .cons h t.drop
end
section
variable {w:World}
noncomputable def sz (v:V):Bool:=gK v&&jU v
theorem Rt : ∀ xs:bl,(xs.all gK&&xs.all jU)=xs.all sz
 | []=>rfl
 | x::xs=>by
  rw [List.all_cons,List.all_cons,List.all_cons,<-Rt xs];unfold sz;cases gK x<;>cases jU x<;>cases xs.all gK<;>cases xs.all jU<;>rfl
theorem aeq {v:V} (h:dR H v=some xs):gy H v=(decide (xs.length=10)&&xs.all sz):=by
 unfold gy;rw [h,<-Rt xs,<-Bool.and_assoc]
noncomputable def ajK:b3:=λ vs H Q _ => ∃ v,vs=[v]/\dg H v /\ ∀ H',aE H H'->Q (.aX (gy H v)) H'
theorem ajG (T:bB K mg):c8 P w mg base cS 2 T.Un ajK:=by
 refine T.Un.fn.en Ux (λ vs H Q E h=>?_) (λ bg A outer s H vs Q E aq h=>?_)
 ·obtain ⟨v,rfl,_⟩:=h;rfl
 ·obtain ⟨v,rfl,⟨k,bf⟩,q⟩:=h;refine #[_,(aN (cN (eD.pt (gA (gM (eu (bQ eL T.dz dy (aa (af 0) (aa (eB (by rfl) T.hM hL) ao))))) (hv (ct iW (bQ h1 T.gh gg (aa (af 0) ao)) aI (bS _)))))
    (aR (bE gz))
    cB)
   (aR (bE (bQ (rp rfl) T.qY qV (aa (hz (e8 Ux (N:=["one"]) (js:=[none]) (gU _)) rfl (pL (af 0)) (λ _ _ _ _=>g_) (λ _ _ _ _=>hN)
     (λ _ _ _ _=>(jy (bR (D_ T) aq bD (aa (af 0) ao)) (i0 (Jl zX zX aI (af 0) (bU uK aI aI)))))) ao))))),?_]
  obtain ⟨t,ty,e⟩:=sx (K:=K) k;refine #[_,rfl,v, "tuple", t,_,rfl,ty,e,_,rfl,?_];cases b0:dR H v with
  | none =>
   refine cA (cA ?_);have aY:=q H (aE.refl H);rw [show gy H v=false by unfold gy;rw [b0]] at aY;exact aY
  | some xs =>
   obtain ⟨a,rfl,ay⟩:=uX b0;obtain ⟨av,aG⟩:=bf xs b0;rw [aeq b0] at q;refine bA #[_,rfl,a,xs,rfl,.inr (a0.of ay),rfl,_,rfl,eJ (λ h=>?_) (λ h=>?_)]
   ·have aO:xs.length≠10:=λ z=>by
     rw [z] at h;exact absurd h .aA
    have aY:=q H (aE.refl H);rw [dN aO] at aY;exact aY
   ·have aO:xs.length=10:=by
     have h':decide (V.int (xs.length:Int)=V.int 10)=true:=by
      cases z:decide (V.int (xs.length:Int)=V.int 10) with
      | true=>rfl
      | false=>exact absurd (show (!decide (V.int (xs.length:Int)=V.int 10))=true by rw [z];rfl) h
     have:=wZ h';omega
    refine #[_,rfl,a,rfl,#[_,a0.of ay],λ D a8=>T8 (xs:=xs) (f:=λ v=>.aX (sz v)) rfl (by rw [aO];decide) a8 (a0.of ay) ?_ #[D,xs.map sz,rfl,?_,?_]]
    ·intro x H' R s' aj r;refine #[_,rfl,x,rfl,aE.kind s' (aG x aj),_,rfl,?_];cases hw:vY x with
     | false =>
      refine bA ?_;have el:sz x=false:=by cases x<;>first | rfl | cases hw
      have b8:R (.aX (sz x)) H':=r;rw [el] at b8;exact b8
     | true =>
      obtain ⟨n,rfl⟩:=IZ hw;refine cA #[_,rfl,_,_,rfl,rfl,_,rfl,?_];by_cases h0:0<=n
      ·rw [cc h0];refine cA #[_,_,rfl,rfl,#[.aA,.aA,.aA],_,_,rfl,rfl,?_];have b8:R (.aX (decide (0<=n)&&decide (n<=1000000))) H':=r;rw [cc h0] at b8;exact b8
      ·rw [dN h0];have b8:R (.aX (decide (0<=n)&&decide (n<=1000000))) H':=r;rw [dN h0] at b8;exact bA b8
    ·rw [kr];exact a9.of bL
    ·have aY:=q _ (aE.new (o:=.lst (xs.map λ v=>V.aX (sz v))) a8);rw [cc aO,s8] at aY;rw [List.all_map];exact aY
end
theorem abm:bootBuiltins "dict" = some (.type "dict"):=by decide +kernel
section
variable {w:World}
theorem abz (c:Nat):((!decide (fu (⟨[c].toArray⟩:Str)<fu ("a" : Str))) && !decide (fu ("z" : Str)<fu (⟨[c].toArray⟩:Str)))=mI c:=by
 have eN:fu ("a" : Str)=[97]:=by decide +kernel
 have tv:fu ("z" : Str)=[122]:=by decide +kernel
 rw [eN,tv,show fu (⟨[c].toArray⟩:Str)=[c] from rfl];unfold mI;have ah:([c] < [97]) ↔ c<97:=by rw [List.cons_lt_cons_iff];exact #[λ z=>z.elim id λ y=>absurd y.2 (List.not_lt_nil _),.inl]
 have ai:([122] < [c]) ↔ 122<c:=by rw [List.cons_lt_cons_iff];exact #[λ z=>z.elim id λ y=>absurd y.2 (List.not_lt_nil _),.inl]
 rw [decide_eq_decide.mpr ah,decide_eq_decide.mpr ai];by_cases a1:c<97
 ·rw [cc a1,dN (by omega : ¬ (97<=c/\c<=122))];rfl
 ·by_cases a2:122<c
  ·rw [cc a2,dN (by omega : ¬ (97<=c/\c<=122))];simp
  ·rw [dN a1,dN a2,cc (by omega:97<=c/\c<=122)];rfl
theorem afC {A B:TE} {R:bG} {b:V} (key : ∀ vd:bG,vd b H->CY A B σ H vd) (rest:R b H):CY A B σ H R:=key R rest
noncomputable def HJ:V->Bool
 | .str x=>decide (1<=x.length)&&decide (x.length<=8)
 | _=>false
noncomputable def CV (aQ:d9):V->Option Ent
 | .str x=>d2 aQ x
 | _=>none
noncomputable def ui (aQ:d9) (H:az) (way:Str) (v bC:V) (x:Str):Prop:=(x = "name" /\ (fD v=false\/(way ≠ "put" /\ CV aQ v=none)))\/(x = "powers" /\ fD v=true/\way = "put" /\ gy H bC=false)\/(x = "many" /\ fD v=true/\way = "put" /\ gy H bC=true/\CV aQ v=none/\aQ.length=12)
noncomputable def uo (fs:f_) (aQ:d9) (H:az) (way:Str) (v bC hO:V) (hp:d9):Prop := ∃ x,v=.str x/\fD v=true /\
 ((way = "drop" /\ hO=.bh/\(∃ e,d2 aQ x=some e)/\hp=iy aQ x) \/
 (way = "run" /\ ∃ (m:Int) (e:Ent) (k:Nat) (r:aV),bC=.int m/\d2 aQ x=some e/\k<=m.toNat/\goN (rowsOf fs) k e.1=some r/\(k=m.toNat\/dq (rowsOf fs) r=none)/\hO=.int (k:Int)/\hp=ix aQ x (r,e.2+(k:Int))) \/
 (way = "put" /\ ∃ (a:Addr) (ag:aV),bC=.ref a/\H a=some (tupI ag)/\gy H bC=true/\(d2 aQ x≠none\/aQ.length<12)/\hO=.bh/\hp=ix aQ x (ag,0)))
noncomputable def agJ:b3:=λ vs H Q _ => ∃ (bz rw cz:Addr) (ts:bl) (fs:f_) (kvs:List (Key×V)) (aQ:d9) (way:Str) (v bC:V),vs=[.ref bz,.ref rw,.ref cz]/\H bz=some (.lst ts)/\mA H ts fs/\dS H rw (.bF kvs)/\ec H kvs aQ/\aQ.length<=12/\(∀ p∈aQ,p.2.1.length=10/\nn p.2.1=true)/\H cz=some (.tup [.str way,v,bC])/\qk H v /\
 ((way = "put" /\ dg H bC)\/(way = "run" /\ ∃ m:Int,bC=.int m/\0<=m/\m<=2000)\/way = "drop") /\
 (∀ aY x H',ui aQ H way v bC x->aE H H'->H' aY=some (.lst [.str x,.ref rw])->Q (.ref aY) H') /\
 (∀ aY hO lt cp hp H',aE H H'->H lt=none->H' aY=some (.lst [hO,.ref lt])->H' lt=some (.bF cp)->ec H' cp hp->uo fs aQ H way v bC hO hp->Q (.ref aY) H')
theorem ajx (T:bB K mg):c8 P w mg base cS 6 T.T5 agJ:=by
 refine T.T5.fn.en nP (λ vs H Q E h=>?_) (λ bg A outer s H vs Q E aq h=>?_)
 ·obtain ⟨bz,rw,cz,ts,fs,kvs,aQ,way,v,bC,rfl,_⟩:=h;rfl
 ·obtain ⟨bz,cY,cz,ts,fs,kvs,aQ,way,v,bC,rfl,XP,b0,dj,a8,px,tX,jO,ba,hw,bb,cg⟩:=h;refine #[_,(aN (pN (af 2) (nH rfl (du (d7 3 nP) (du (d7 4 nP) (du (d7 5 nP) hg)))))
   (aN (bV 6 nP (jy (bQ eL T.dz dy (aa (af 4) (aa (eB (by rfl) T.pD pC) ao))) (i0 (Jl zX zX aI (bQ Kx T.gh gg (aa (af 4) ao)) aI))))
   (aN (pO (eu (af 6))
    (aR (bV 6 nP (bQ (rp rfl) T.qY qV (aa (hz (e8 nP (N:=["sign"]) (js:=[none]) (gU _)) rfl (Qs (af 4)) (λ _ _ _ _=>g_) (λ _ _ _ _=>hN)
     (λ _ _ _ _=>(Jl Ql Ql ck (af 0) ck))) ao))))
    cB)
   (aN (cN (eD.pt (gA (gM (eu (af 6))) (hv (eD.pt (uL (ct iW (af 3) ck (bS _)) (uU (ct (S3 (lb aq)) (af 4) (af 1) (by with_unfolding_all rfl))))))))
    (aR (bE (eK (aa ck (aa (af 1) ao)))))
    cB)
   (aN (bV 7 nP (kp ahm T.abB abm (aa (af 1) ao)))
   (aN (cN (ct eS (af 3) ck (bS _))
    (aN (gi (jZ IJ IF PySem.F.type_dict_pop RH (af 7) (aa (af 4) ao)))
   (aR (bE (eK (aa e2 (aa (af 7) ao))))))
    cB)
   (aN (cN (ct eS (af 3) ck (bS _))
    (aN (pN (JQ (lb aq) (af 1) (af 4) (λ _ _=>rfl)) (nH rfl (du (d7 8 nP) (du (d7 9 nP) hg))))
   (aN (pN (bR (ajW T) aq bD (aa (af 0) (aa (af 8) (aa (af 5) ao)))) (Qr rfl (du (d7 10 nP) (du (d7 11 nP) hg))))
   (aN (Jm (lb aq) (af 7) (af 4) (dh (aa (dt fE (af 10) (qZ ra aI) (λ _ _=>rfl)) (aa (bU gL (af 9) (bQ h1 T.gh gg (aa (af 11) ao))) ao))) rfl)
   (aR (bE (eK (aa (bQ h1 T.gh gg (aa (af 11) ao)) (aa (af 7) ao))))))))
    cB)
   (aN (cN (gM (eu (bR (ajG T) aq bD (aa (af 5) ao))))
    (aR (bE (eK (aa ck (aa (af 1) ao)))))
    cB)
   (aN (pO (eD.pt (uL (ct (S3 (lb aq)) (af 4) (af 1) (by with_unfolding_all rfl)) (uU (ct eS (bQ J1 T.gh gg (aa (af 1) ao)) aI (bS _)))))
    (aR (bE (eK (aa ck (aa (af 1) ao)))))
    cB)
   (aN (Jm (lb aq) (af 7) (af 4) (dh (aa (af 5) (aa aI ao))) rfl)
   (aR (bE (eK (aa e2 (aa (af 7) ao))))))))))))))),?_]
  refine #[_,rfl,cz,_,rfl,a0.of jO,rfl,_,_,rfl,_,_,rfl,_,_,rfl,rfl,?_];dsimp only [iS,lQ];refine afC (b:=.aX (HJ v)) (λ vd r=>?_) ?_
  ·obtain ⟨t,ty,e⟩:=qX (K:=K) ba.1;refine #[_,rfl,v, "str", t,_,rfl,ty,e,_,rfl,?_];cases aB:y0 v with
   | false =>
    rw [show HJ v=false by cases v<;>first | rfl | cases aB] at r;exact bA r
   | true =>
    obtain ⟨x,rfl⟩ : ∃ x,v=.str x:=by cases v<;>first | exact #[_,rfl] | cases aB
    obtain ⟨ay,av⟩:=ba.2 x rfl;have a6:x.length<=sizeLine:=by rw [ef];omega
    refine cA #[_,rfl,x,rfl,a6,_,_,rfl,rfl,_,rfl,?_];have bP:vd (.aX (decide (1<=x.length)&&decide (x.length<=8))) H:=r;by_cases ah:1<=x.length
    ·rw [cc ah,s8] at bP;rw [cc (show (1:Int)<=(x.length:Int) by omega)];refine cA #[_,_,rfl,rfl,?_];show vd (.aX (decide ((x.length:Int)<=8))) H;rw [show decide ((x.length:Int)<=8)=decide (x.length<=8) from decide_eq_decide.mpr .aD];exact bP
    ·rw [dN ah,Bool.false_and] at bP;rw [dN (show ¬ (1:Int)<=(x.length:Int) by omega)];exact bA bP
  refine #[λ σ' H'=>σ'=[some (.ref bz),some (.ref cY),some (.ref cz),some (.str way),some v,some bC,some (.aX (fD v)),none,none,none,none,none]/\aE H H',?_,?_]
  ·refine #[_,rfl,_,rfl,?_];cases av:HJ v with
   | false =>
    rw [show fD v=false by
     cases v with
     | str x=>show (decide _&&decide _&&_)=false;rw [show (decide (1<=x.length)&&decide (x.length<=8))=false from av];rfl
     | _=>rfl]
    exact bA #[rfl,aE.refl _]
   | true =>
    obtain ⟨x,rfl⟩ : ∃ x,v=.str x:=by cases v<;>first | exact #[_,rfl] | cases av
    obtain ⟨ay,hr⟩:=ba.2 x rfl;have a6:x.length<=sizeLine:=by rw [ef];omega
    refine cA #[_,rfl,_,rfl,ay.all,λ D a8=>Sm (x:=x) (σ0:=[]) (t:=λ _=>true) (f:=λ i=>V.aX (mI (x.cps.getD i 0))) (by show x.length<=_;exact a6) #[_,rfl] a8 (λ i c H' R s' ak r=>r H' (aE.refl _)) (λ i c H' R s' ak aU r=>?_) λ H1 s1 r1=>?_]
    ·have e:x.cps.getD i 0=c:=by rw [Array.getD_eq_getD_getElem?,ak];rfl
     have bP:=r H' (aE.refl _);rw [e] at bP;refine #[_,rfl,_,_,rfl,rfl,_,rfl,?_];have low:=abz c;cases ah:(!decide (fu (⟨[c].toArray⟩:Str)<fu ("a" : Str))) with
     | false =>
      rw [ah,Bool.false_and] at low;rw [<-low] at bP;exact bA bP
     | true =>
      rw [ah,s8] at low;rw [<-low] at bP;exact cA #[_,_,rfl,rfl,bP]
    ·have e:(((List.range x.cps.size).filter λ _=>true).map λ i=>V.aX (mI (x.cps.getD i 0)))=((List.range x.cps.size).map λ i=>mI (x.cps.getD i 0)).map V.aX:=by
      rw [List.filter_eq_self.mpr (λ _ _=>rfl),kr];rfl
     rw [e] at r1;refine #[D,_,rfl,a9.of r1,?_];rw [Rb];have EL:fD (.str x)=(fu x).all mI:=by
      show (decide (1<=x.length)&&decide (x.length<=8)&&_)=_;rw [show (decide (1<=x.length)&&decide (x.length<=8))=true from av];rfl
     rw [EL];exact #[rfl,s1]
  ·rintro σ' H1 ⟨rfl,s1⟩;have yo:dS H1 cY (.bF kvs):=dj.imp (s1 _ _) λ ⟨o,h⟩=>#[o,s1 _ _ h]
   have r1:=a8.eA (mi.of s1);have alD:kvs.length<=12:=by rw [a8.len];exact px
   refine #[_,rfl,_,rfl,?_];cases aF:fD v with
   | false=>exact cA (cA #[_,rfl,bo,λ aY au f2 s2 ai=>bb aY "name" au (.inl ⟨rfl,.inl aF⟩) (s1.trans s2) ai])
   | true =>
    obtain ⟨x,rfl⟩ : ∃ x,v=.str x:=by cases v<;>first | exact #[_,rfl] | cases aF
    refine bA #[_,rfl,rfl,_,rfl,?_];by_cases aw:way = "put"
    ·subst aw;have NB:dg H bC:=by
      rcases hw with ⟨_,h⟩ | ⟨h,_⟩ | h
      ·exact h
      ·exact absurd h .aA
      ·exact absurd h .aA
     rw [cc rfl];refine bA (bA #[_,rfl,cY,kvs,rfl,yo,λ lt au f2 s2 ai=>?_]);have h9:=s1.trans s2;refine #[_,rfl,rfl,_,rfl,?_];rw [oM (show ("put" : Str) ≠ "drop" by decide)];refine bA #[_,rfl,rfl,_,rfl,?_];rw [oM (show ("put" : Str) ≠ "run" by decide)];refine bA #[_,rfl,bC,rfl,aE.dg h9 NB,λ aW s3=>#[_,rfl,?_]];have oh:=h9.trans s3;have j5:gy au bC=gy H bC:=by unfold gy;rw [aE.dR h9 NB.1]
     rw [j5];cases BK:gy H bC with
     | false=>exact cA #[_,rfl,bo,λ aY bc f4 s4 a4=>bb aY "powers" bc (.inr (.inl ⟨rfl,aF,rfl,BK⟩)) (oh.trans s4) a4]
     | true =>
      refine bA ?_;have zC:=BK;unfold gy at zC;cases F9:dR H bC with
      | none=>rw [F9] at zC;cases zC
      | some ys =>
       rw [F9] at zC;obtain ⟨a,rfl,ay⟩:=uX F9;have jM:=sY.mp (show (decide (ys.length=10)&&ys.all gK&&ys.all jU)=true from zC);obtain ⟨ag,rfl,Nv⟩:=Jj (sY.mp jM.1).2;have Nb:dS aW cY (.bF kvs):=dj.imp (oh _ _) λ ⟨o,h⟩=>#[o,oh _ _ h]
       refine #[λ σ' H'=>σ'=[some (.ref bz),some (.ref cY),some (.ref cz),some (.str "put"),some (.str x),some (.ref a),some (.aX true),some (.ref lt),none,none,none,none]/\aW=H'/\(d2 aQ x≠none\/aQ.length<12),?_,?_]
       ·refine #[_,rfl,_,rfl,x,cY,kvs,rfl,rfl,Nb,_,rfl,?_];cases aB:(dU kvs (cF x)).isSome with
        | true=>exact bA (bA #[rfl,rfl,.inl λ z=>by rw [a8.none z] at aB;cases aB])
        | false =>
         refine cA #[_,rfl,cY,kvs,rfl,Nb,rfl,_,rfl,?_];have lJ:d2 aQ x=none:=by
          cases h:d2 aQ x with
          | none=>rfl
          | some e=>obtain ⟨u,br,_⟩:=a8.some h;rw [br] at aB;cases aB
         have alF:=a8.len;by_cases jM:kvs.length=12
         ·rw [cc (show V.int (kvs.length:Int)=V.int 12 by rw [jM];rfl)];exact cA #[_,rfl,bo,λ aY bc f4 s4 a4=>bb aY "many" bc (.inr (.inr ⟨rfl,aF,rfl,BK,lJ,.aD⟩)) (oh.trans s4) a4]
         rw [dN (show ¬ V.int (kvs.length:Int)=V.int 12 from λ z=>by injection z with z;omega)];exact bA #[rfl,rfl,.inr .aD]
       ·rintro σ' H' ⟨rfl,rfl,sv⟩;refine #[_,rfl,bo,λ w bc f4 s4 sa=>#[_,rfl,_,rfl,lt,x,kvs,rfl,rfl,s4 _ _ (s3 _ _ ai),by rw [ef];omega,λ bW dX b4=>?_]];refine #[_,rfl,bo,λ aY dO kB b_ dM=>?_];have ip:H lt=none:=s1.free f2;have v9:aE H bW:=λ c o eg=>dX _ _ (cf eg ip) (s4 _ _ (oh _ _ eg))
        have G8:w≠lt:=λ z=>by rw [z,s3 _ _ ai] at f4;cases f4
        have XX:=b_ _ _ (dX _ _ G8 sa);have v_:=v9.trans b_;exact cg aY .bh lt _ _ dO v_ ip dM (b_ _ _ b4) ((a8.eA (mi.of v_)).put #[w,a,rfl,XX,v_ _ _ ay]) #[x,rfl,aF,.inr (.inr #[rfl,a,ag,rfl,ay,BK,sv,rfl,rfl])]
    ·rw [oM aw];refine cA #[_,rfl,_,rfl,x,cY,kvs,rfl,rfl,yo,_,rfl,?_];cases qu:d2 aQ x with
     | none =>
      rw [r1.none qu];exact cA #[_,rfl,bo,λ aY au f2 s2 ai=>bb aY "name" au (.inl ⟨rfl,.inr ⟨aw,qu⟩⟩) (s1.trans s2) ai]
     | some e =>
      obtain ⟨u,br,he⟩:=r1.some qu;rw [br];refine bA #[_,rfl,cY,kvs,rfl,yo,λ lt au f2 s2 ai=>?_];have h9:=s1.trans s2;have ip:H lt=none:=s1.free f2;refine #[_,rfl,rfl,_,rfl,?_];by_cases hd:way = "drop"
      ·subst hd;rw [cc rfl];refine cA #[_,rfl,.inr (.inr (.inl #[rfl,.inl #[kvs,ai]])),_,rfl,lt,x,kvs,u,rfl,rfl,ai,br,λ aW gG aH=>?_];refine #[_,rfl,bo,λ aY bc f4 s4 a4=>?_];have oh:aE H aW:=λ c o eg=>gG _ _ (cf eg ip) (h9 _ _ eg)
       have qF:=oh.trans s4;exact cg aY .bh lt _ _ bc qF ip a4 (s4 _ _ aH) (a8.eA (mi.of qF)).drop #[x,rfl,aF,.inl #[rfl,rfl,#[e,qu],rfl]]
      ·rw [oM hd];obtain ⟨rfl,m,rfl,m0,tB⟩:way = "run" /\ ∃ m:Int,bC=.int m/\0<=m/\m<=2000:=by
        rcases hw with ⟨h,_⟩ | h | h
        ·exact absurd h aw
        ·exact h
        ·exact absurd h hd
       refine bA #[_,rfl,rfl,_,rfl,?_];rw [cc rfl];obtain ⟨w,a,rfl,GH,yv⟩:=he;have Xc:dS au cY (.bF kvs):=dj.imp (h9 _ _) λ ⟨o,h⟩=>#[o,h9 _ _ h]
       have ji:=tX (x,e) (u3 qu);refine cA #[_,rfl,_,rfl,cY,x,kvs,.ref w,rfl,rfl,Xc,br,w,_,rfl,a0.of (s2 _ _ GH),rfl,_,_,rfl,_,_,rfl,rfl,?_];refine #[_,rfl,_,rfl,_,rfl,bz,a,ts,fs,e.1,m,rfl,h9 _ _ XP,b0.same h9,s2 _ _ yv,ji.1,ji.2,m0,.aD,λ eQ hj me aW rs rws ako fr A5 s3 XC BR oc kE GF=>?_];refine #[eQ,_,rfl,XC,rfl,_,_,rfl,_,_,rfl,rfl,?_];obtain ⟨g1,g2,g3⟩:=kE;obtain ⟨r,Gu⟩:=Qx (rowsOf fs) m.toNat e.1;have tW:=Rh (rowsOf fs) m.toNat e.1;generalize aG:(jT (rowsOf fs) m.toNat e.1).length=k at *;have aaK:rws[k]?=some r:=by rw [g2 k .aD];exact Gu
       obtain ⟨z,eh,a6,rfl,iv⟩:=oc.of aaK;have r9:rs.length=k+1:=by rw [oc.1];exact g1
       have ZC:((fb (jT (rowsOf fs) m.toNat e.1)).map V.int).length=k:=by rw [bY,An];exact aG
       refine #[_,rfl,_,rfl,hj,_,_,_,rfl,rfl,a9.of BR,IM r9 a6,_,rfl,_,rfl,me,_,rfl,.inl (a9.of GF),_,_,rfl,rfl,bo,λ x1 bc f4 s4 sa=>?_];refine #[_,rfl,_,rfl,lt,x,kvs,rfl,rfl,s4 _ _ (s3 _ _ ai),by rw [ef];omega,λ bW dX b4=>?_];have v9:aE H bW:=λ c o eg=>dX _ _ (cf eg ip) (s4 _ _ (s3 _ _ (h9 _ _ eg)))
       have nul:me≠lt:=cW GF (s3 _ _ ai) nofun;have G8:x1≠lt:=λ z=>by rw [z,s3 _ _ ai] at f4;cases f4
       have YS:eh≠lt:=cW iv (s3 _ _ ai) nofun;refine #[_,rfl,me,_,rfl,.inl (a9.of (dX _ _ nul (s4 _ _ GF))),_,rfl,bo,λ aY dO kB b_ dM=>?_];have v_:=v9.trans b_;rw [ZC] at dM sa;refine cg aY (.int (k:Int)) lt _ _ dO v_ ip dM (b_ _ _ b4) ((a8.eA (mi.of v_)).put (e:=(r,e.2+(k:Int))) #[x1,eh,rfl,b_ _ _ (dX _ _ G8 sa),b_ _ _ (dX _ _ YS (s4 _ _ iv))]) #[x,rfl,aF,.inr (.inl #[rfl,m,e,k,r,rfl,qu,tW,Gu,?_,rfl,rfl])];rcases g3 with g3 | ⟨cur,gn,hD⟩
       ·exact .inl g3
       ·rw [Gu] at gn;cases gn;exact .inr hD
theorem RG {aQ:d9} (c6:(e1 aQ).Nodup) {i:Nat} {x:Str} {e:Ent} (h:aQ[i]?=some (x,e)):d2 aQ x=some e:=DR c6 (dr h)
theorem ec.at : ∀ {kvs:List (Key×V)} {aQ:d9},ec H kvs aQ -> ∀ {i:Nat} {k:Key} {v:V},kvs[i]?=Option.some (k,v) -> ∃ x e,k=cF x/\aQ[i]?=Option.some (x,e)/\nv H v e
 | _,_,.nil,_,_,_,h=>by cases h
 | _,_,.cons br t,0,_,_,h=>by cases h;exact #[_,_,rfl,rfl,br]
 | _,_,.cons br t,i+1,_,_,h=>by
  obtain ⟨x,e,ah,ai,aH⟩:=t.at (by simpa using h);exact #[x,e,ah,by simpa using ai,aH]
noncomputable def TA (T:bB K mg):b3:=λ vs H Q _ => ∃ (bn pr hd dl cY:Addr) (kvs cp:List (Key×V)) (aQ aX:d9) (ds:bl),vs=[.ref bn,.ref cY]/\fF T H bn pr hd dl kvs ds/\ec H kvs aQ/\dS H cY (.bF cp)/\ec H cp aX/\aQ.Perm aX/\(e1 aQ).Nodup/\aQ.length<64/\cY≠hd/\(∀ p∈aQ,p.2.1.length=10) /\
 ∀ H',(∀ c o,c≠cY->H c=some o->H' c=some o)->dS H' cY (.bF cp)->Q (.aX true) H'
theorem UA (T:bB K mg):c8 P w mg base cS 6 T.Us (TA T):=by
 refine T.Us.fn.en LF (λ vs H Q E h=>?_) (λ bg A outer s H vs Q E aq h=>?_)
 ·obtain ⟨bn,pr,hd,dl,cY,kvs,cp,aQ,aX,ds,rfl,_⟩:=h;rfl
 ·obtain ⟨bn,pr,hd,dl,cY,kvs,cp,aQ,aX,ds,rfl,B,a8,dj,fB,pm,c6,mr,v8,ji,q⟩:=h;refine #[_,(aN (bV 2 LF (DT (af 0) T.d8 T.xl.at_ (Up T) (aq.mono .aA) T.xl.bd .nil bD))
   (aN (cN (gM (eu (bR (D9 T) aq bD (aa (af 2) (aa (bQ (KR rfl) T.DS DO (aa (af 1) ao)) ao)))))
    (aR (bE gz))
    cB)
   (aN (gi (jZ ks oJ oK pY (af 2) (aa ck ao)))
   (aN (hu fU rfl (adi (af 1)) (d7 3 LF)
    (aR (cN (eD.pt (gA (gM (eu (bR (D9 T) aq bD (aa (gX (af 0) T.d8 T.l2.at_ (xp T) (aq.mono .aA) T.l2.bd .nil ow (aa (af 3) ao)) (aa (dt iA (JQ (lb aq) (af 1) (af 3) (λ _ _=>rfl)) aI (λ _ _=>rfl)) ao))))) (hv (gM (eu (bR (D9 T) aq bD (aa (gX (af 0) T.d8 T.pZ.at_ (Ej T) (aq.mono .aA) T.pZ.bd .nil ow (aa (af 3) ao)) (aa (dt iA (JQ (lb aq) (af 1) (af 3) (λ _ _=>rfl)) aI (λ _ _=>rfl)) ao))))))))
    (aR (bE gz))
    cB)))
   (aR (bE (bR (D9 T) aq bD (aa (DT (af 0) T.d8 T.xl.at_ (Up T) (aq.mono .aA) T.xl.bd .nil bD) (aa (bQ (KR rfl) T.DS DO (aa (af 1) ao)) ao))))))))),?_]
  obtain ⟨aL,ae⟩:=B.at_;refine #[_,rfl,bn,aL,_,rfl,ae,rfl,bn,pr,hd,dl,kvs,ds,e1 aQ,rfl,B,a8.keys,by rw [bY];exact mr,λ ms N7 Zd ew H1 f1 s1 hr=>?_];have yo:dS H1 cY (.bF cp):=dj.imp (s1 _ _) λ ⟨o,h⟩=>#[o,s1 _ _ h]
  refine #[_,rfl,_,rfl,cY,cp,e1 aX,rfl,yo,fB.keys,by rw [bY,<-pm.length_eq];exact mr,λ GR aak aaw hR au f2 s2 fP=>?_];obtain rfl:GR=ms:=Kg aaw Zd (aak.trans ((pm.map (·.1)).symm.trans N7.symm));have Yw:GR.length<64:=by rw [N7.length_eq,bY];exact mr
  refine .inr #[ew,hR,GR.map V.str,rfl,s2 _ _ hr,fP,by rw [bY];omega,λ y aT=>?_,λ aW s3=>#[_,rfl,bA ?_]]
  ·obtain ⟨z,_,rfl⟩:=e3.mp aT;rfl
  refine #[_,rfl,.inl #[rfl,_,a9.of (s3 _ _ (s2 _ _ hr))],ew,_,_,rfl,rfl,s3 _ _ (s2 _ _ hr),by rw [bY,ef];omega,λ bc fo a4=>?_];have qF:aE H bc:=λ c o eg=>fo _ _ (cf eg f1) (s3 _ _ (s2 _ _ (s1 _ _ eg)))
  have tP:dS bc cY (.bF cp):=dj.imp (qF _ _) λ ⟨o,h⟩=>#[o,qF _ _ h]
  have y4:bn≠cY:=by
   rcases dj with h | ⟨o,h⟩
   ·exact cW ae h nofun
   ·exact cW ae h nofun
  have NS:dl≠cY:=by
   rcases dj with h | ⟨o,h⟩
   ·exact cW B.dl h nofun
   ·exact cW B.dl h nofun
  have YQ : ∀ {c:Addr} {ys:bl},H c=some (.tup ys)->c≠cY:=λ {c ys} ak=>by
   rcases dj with h | ⟨o,h⟩
   ·exact cW ak h nofun
   ·exact cW ak h nofun
  have hlen:cp.length=aX.length:=fB.len;refine #[_,rfl,cY,cp,rfl,tP,λ b6 bW k5 yC=>?_];have NK : ∀ c o,c≠cY->H c=some o->bW c=some o:=λ c o d0 eg=>by rw [k5 c d0];exact qF _ _ eg
  refine ad9 (λ i σ dO=>(∃ u:dG,σ=[some (.ref bn),some (.ref cY),some (.ref ew),u])/\aE bW dO) #[#[none,rfl],aE.refl _] (λ i σ dO _ h=>h.2 _ _ yC) ?_ ?_
  ·rintro i k v σ dO aG ⟨⟨u,rfl⟩,b_⟩;obtain ⟨x,e,rfl,Nf,w,a,rfl,hw,ay⟩:=fB.at aG;have NQ:(e1 aX).Nodup:=(pm.map _).nodup_iff.mp c6;have qu:d2 aQ x=some e:=by rw [D8 pm c6 x];exact RG NQ Nf
   obtain ⟨kH,GC,cV,l8,rfl,pg,h7⟩:=a8.some qu;have nr : ∀ c o,c≠cY->H c=some o->dO c=some o:=λ c o d0 eg=>b_ _ _ (NK c o d0 eg)
   have AP:fF T dO bn pr hd dl kvs ds:=#[#[aL,nr _ _ y4 ae],nr _ _ (ek v8) B.hd,nr _ _ NS B.dl]
   obtain ⟨y,aT,hl,a2,rfl,vW,gc⟩:=fB.some (RG NQ Nf);have Xe:dS dO cY (.bF cp):=.inr #[b6,b_ _ _ yC];have md : ∀ {c:Addr} {ys:bl},H c=some (.tup ys)->dO c=some (.tup ys):=λ h=>nr _ _ (YQ h) h
   have cj:la kvs (.str x)=some (.ref cV):=GC;have MY:e.1.length=10:=ji (x,e) (u3 qu);have sc : ∀ y∈e.1.map V.int,zZ y=true:=λ y aT=>by
    obtain ⟨z,_,rfl⟩:=e3.mp aT;rfl
   refine #[_,rfl,bn,aL,_,rfl,nr _ _ y4 ae,rfl,_,rfl,bn,pr,hd,dl,kvs,ds,.str x,rfl,AP,trivial,(λ h=>by rw [cj] at h;cases h),λ u br=>?_];rw [cj] at br;cases br;refine #[cV,_,_,rfl,md pg,_,rfl,_,rfl,cY,x,cp,.ref hl,rfl,rfl,Xe,aT,hl,_,_,_,rfl,rfl,a0.of (md vW),rfl,?_];refine .inl (.inr #[.ref l8,a2,e.1.map V.int,rfl,lh (md h7) (by rw [bY];omega) (λ y aT=>by obtain ⟨z,_,rfl⟩:=e3.mp aT;trivial),md gc,by rw [bY];omega,sc,λ dv cL=>#[_,rfl,?_]]);rw [kx (md h7),cc rfl];have UR:=AP.same cL;have vB : ∀ {c:Addr} {ys:bl},H c=some (.tup ys)->dv c=some (.tup ys):=λ h=>cL _ _ (md h)
   have yp:dS dv cY (.bF cp):=.inr #[b6,cL _ _ (b_ _ _ yC)];refine bA #[_,rfl,bn,aL,_,rfl,cL _ _ (nr _ _ y4 ae),rfl,_,rfl,bn,pr,hd,dl,kvs,ds,.str x,rfl,UR,trivial,(λ h=>by rw [cj] at h;cases h),λ u br=>?_];rw [cj] at br;cases br;refine #[cV,_,_,rfl,vB pg,_,rfl,_,rfl,cY,x,cp,.ref hl,rfl,rfl,yp,aT,hl,_,_,_,rfl,rfl,a0.of (vB vW),rfl,?_];refine .inl (.inl #[_,_,rfl,trivial,rfl,_,rfl,?_]);rw [cc rfl];exact bA #[#[_,rfl],b_.trans cL]
  ·rintro σ dO ⟨⟨u,rfl⟩,b_⟩;have nr : ∀ c o,c≠cY->H c=some o->dO c=some o:=λ c o d0 eg=>b_ _ _ (NK c o d0 eg)
   have AP:fF T dO bn pr hd dl kvs ds:=#[#[aL,nr _ _ y4 ae],nr _ _ (ek v8) B.hd,nr _ _ NS B.dl]
   refine #[_,rfl,bn,aL,_,rfl,nr _ _ y4 ae,rfl,bn,pr,hd,dl,kvs,ds,e1 aQ,rfl,AP,a8.keys,by rw [bY];exact mr,λ YC aal aax m5 dv p7 cL Xt=>?_];have yp:dS dv cY (.bF cp):=.inr #[b6,cL _ _ (b_ _ _ yC)];refine #[_,rfl,cY,cp,e1 aX,rfl,yp,fB.keys,by rw [bY,<-pm.length_eq];exact mr,λ GS Pp aay p9 fg f8 dp BJ=>?_];obtain rfl:GS=YC:=Kg aay aax (Pp.trans ((pm.map (·.1)).symm.trans aal.symm));have alM:GS.length<64:=by rw [Pp.length_eq,bY,<-pm.length_eq];exact mr
   refine .inr #[m5,p9,GS.map V.str,rfl,dp _ _ Xt,BJ,by rw [bY];omega,λ y aT=>?_,λ hB ee=>?_]
   ·obtain ⟨z,_,rfl⟩:=e3.mp aT;rfl
   ·exact q hB (λ c o d0 eg=>ee _ _ (dp _ _ (cL _ _ (nr c o d0 eg)))) (.inr #[b6,ee _ _ (dp _ _ (cL _ _ (b_ _ _ yC)))])
noncomputable abbrev six:bT:=["one", "two", "x", "abcdefgh", "row", "gone"]
noncomputable def jf (H:az) (v:V):Prop:=qk H v/\(fD v=true -> ∃ x,x∈six/\v=.str x)
theorem jf.same {v:V} (h:jf H v) (s:aE H H'):jf H' v:=#[h.1.same s,h.2]
noncomputable def HT (H:az) (way:Str) (v bC:V):Prop:=(way = "put" /\ jf H v/\dg H bC)\/(way = "run" /\ jf H v /\ ∃ m:Int,bC=.int m/\0<=m/\m<=2000)\/(way = "drop" /\ jf H v/\bC=.bh)\/(way = "undo" /\ v=.bh/\bC=.bh)
theorem aen {pt:Addr} {zs:bl} {v:V} (h:dV H v) (b:bN pt H H') (aw:H' pt=some (.lst zs)):dV H' v:=by
 cases v with
 | ref c =>
  by_cases z:c=pt
  ·rw [z];exact .inr (.inl #[_,aw])
  ·rcases (show (∃ xs,H c=some (.tup xs))\/(∃ xs,H c=some (.lst xs))\/(∃ kvs,H c=some (.bF kvs)) from h) with ⟨xs,e⟩ | ⟨xs,e⟩ | ⟨kvs,e⟩
   ·exact .inl #[xs,b _ _ z e]
   ·exact .inr (.inl #[xs,b _ _ z e])
   ·exact .inr (.inr #[kvs,b _ _ z e])
 | _=>exact h
theorem jf.but {pt:Addr} {zs:bl} {v:V} (h:jf H v) (b:bN pt H H') (aw:H' pt=some (.lst zs)):jf H' v:=#[#[aen h.1.1 b aw,h.1.2],h.2]
theorem oE {x:Str} (h:(fu x).all (λ c=>decide (c<128))=true) (av:x.length<=1000) (aB:(!fD (.str x)||decide (x∈six))=true):jf H (.str x):=#[#[trivial,λ y e=>by
 injection e with e;subst e;exact #[λ c ak=>eT (gT.mp h c ak),av]],λ aF=>by
 rw [aF] at aB;exact #[x,eT (by simpa using aB),rfl]]
theorem ZD {i:Int} (h0:0<=i) (b4:i<5) : ∃ v,il [V.str "one", .str "two", .str "x", .str "abcdefgh", .str "row"] i=some v/\jf H v:=by
 have h:i=0\/i=1\/i=2\/i=3\/i=4:=by omega
 rcases h with rfl | rfl | rfl | rfl | rfl
 ·exact #[_,rfl,oE (by decide +kernel) (by decide +kernel) (by decide +kernel)]
 ·exact #[_,rfl,oE (by decide +kernel) (by decide +kernel) (by decide +kernel)]
 ·exact #[_,rfl,oE (by decide +kernel) (by decide +kernel) (by decide +kernel)]
 ·exact #[_,rfl,oE (by decide +kernel) (by decide +kernel) (by decide +kernel)]
 ·exact #[_,rfl,oE (by decide +kernel) (by decide +kernel) (by decide +kernel)]
theorem aai {MG li Mq:Addr} {eF:List (Key×V)} (aU:H MG=some (.tup xs)) (av:H li=some (.lst ys)) (hd:H Mq=some (.bF eF)) {i:Int} (h0:0<=i) (jM:i<12) :
  ∃ v,il [V.str "", .str "abcdefghi", .str "One", .str "a b", .str "a1", .bh,.int 7,.ref MG,.ref li,.aX true,.ref Mq,.str "gone"] i=some v/\jf H v:=by
 have h:i=0\/i=1\/i=2\/i=3\/i=4\/i=5\/i=6\/i=7\/i=8\/i=9\/i=10\/i=11:=by omega
 rcases h with rfl | rfl | rfl | rfl | rfl | rfl | rfl | rfl | rfl | rfl | rfl | rfl
 ·exact #[_,rfl,oE (by decide +kernel) (by decide +kernel) (by decide +kernel)]
 ·exact #[_,rfl,oE (by decide +kernel) (by decide +kernel) (by decide +kernel)]
 ·exact #[_,rfl,oE (by decide +kernel) (by decide +kernel) (by decide +kernel)]
 ·exact #[_,rfl,oE (by decide +kernel) (by decide +kernel) (by decide +kernel)]
 ·exact #[_,rfl,oE (by decide +kernel) (by decide +kernel) (by decide +kernel)]
 ·exact #[_,rfl,#[trivial,λ x e=>by cases e],λ z=>by cases z]
 ·exact #[_,rfl,#[trivial,λ x e=>by cases e],λ z=>by cases z]
 ·exact #[_,rfl,#[.inl #[_,aU],λ x e=>by cases e],λ z=>by cases z]
 ·exact #[_,rfl,#[.inr (.inl #[_,av]),λ x e=>by cases e],λ z=>by cases z]
 ·exact #[_,rfl,#[trivial,λ x e=>by cases e],λ z=>by cases z]
 ·exact #[_,rfl,#[.inr (.inr #[_,hd]),λ x e=>by cases e],λ z=>by cases z]
 ·exact #[_,rfl,oE (by decide +kernel) (by decide +kernel) (by decide +kernel)]
theorem aaS {i:Int} (h0:0<=i) (a4:i<4) : ∃ m:Int,il [V.int 3,.int 8,.int 8,.int ((10:Int) ^ (6:Int).toNat)] i=some (.int m)/\0<=m/\m<=1000000:=by
 have h:i=0\/i=1\/i=2\/i=3:=by omega
 rcases h with rfl | rfl | rfl | rfl
 ·exact #[_,rfl,.aA,.aA]
 ·exact #[_,rfl,.aA,.aA]
 ·exact #[_,rfl,.aA,.aA]
 ·exact #[_,rfl,.aA,.aA]
theorem runs {i r:Int} (h0:0<=i) (a4:i<4) (cG:0<=r) (Hc:r<30) : ∃ m:Int,il [V.int 0,.int 1,.int r,.int 200] i=some (.int m)/\0<=m/\m<=2000:=by
 have h:i=0\/i=1\/i=2\/i=3:=by omega
 rcases h with rfl | rfl | rfl | rfl
 ·exact #[_,rfl,.aD,.aD]
 ·exact #[_,rfl,.aD,.aD]
 ·exact #[_,rfl,.aD,.aD]
 ·exact #[_,rfl,.aD,.aD]
theorem aaF (h : ∀ x∈xs,dg H x) {i:Int} (h0:0<=i) (av:i<xs.length) : ∃ v,il xs i=some v/\dg H v:=by
 have ax:i.toNat<xs.length:=by omega
 exact #[xs[i.toNat],lY h0 (fT ax),h _ (sP ax)]
theorem aeC {pt ln:Addr} {n:Int} {ar:aV} {D:Ends} (v0:σ[0]?=some (some (.ref pt))) (mf:σ[7]?=some (some (.ref ln))) (qt:H ln=some (.tup (ar.map V.int))) (sk:ar.length=10) (jP:H pt=some (.lst [.int n]))
  (q : ∀ lk v b1 H',bN pt H H'->H' pt=some (.lst [.int b1])->dg H' v->D.bu ((σ.set 6 (some (.ref lk))).set 7 (some v)) H') :
  iS (lQ (q0 (cy (ud wk (iT 7) uW (uv (cM (.int 9)))) (cy (g8 wL (iT 7) (lV (cy (cM (.int 0)) dI))) (cy (uc (λ xs H Q => ∃ p ys,xs=[V.ref p]/\(a9 K H p ys\/a0 K H p ys)/\kY (.lst ys) H Q) (cy (iT 7) dI))
   (cy (g8 wL (ud wk (iT 7) uW (uv (cM (.int 9)))) (lV (cy (g8 (qE λ i j=>.int (i+j)) (g8 (vx OO λ i j=>.int (i ^ j.toNat)) (cM (.int 10)) (cM (.int 6))) (cM (.int 1))) dI)))
   (cy (g8 wL (ud wk (iT 7) uW (uv (cM (.int 9)))) (lV (cy (Hh (E5 λ i=>.int (-i)) (cM (.int 1))) dI))) (cy (cM .bh) (cy (cM (.int 6)) (cy Dh dI))))))))) (gx 6))
    (lQ (g8 (zG K) (g8 Qt (iT 6) (q0 (cy (g8 wL (ud wk (iT 7) uW (uv (cM (.int 9)))) (lV (cy (cM (.aX true)) dI))) (cy (g8 wL (ud wk (iT 7) uW (uv (cM (.int 9)))) (lV (cy (cM (.str "1")) dI))) dI)))) (mK AA [] iC (cy (iT 0) (cy (cM (.int 10)) dI)))) (gx 7)) D σ H:=by
 have nU : ∀ {c:Addr} {G:az} {k:Int},G c=none->G pt=some (.lst [.int k])->c≠pt:=λ {c G k} f h z=>by rw [z,h] at f;cases f
 have hσ:7 < σ.length:=(fJ.mp mf).1;have vD : ∀ x,(σ.set 6 x)[7]?=some (some (.ref ln)):=λ x=>by rw [z3 .aA];exact mf
 have gH : ∀ x,(σ.set 6 x)[0]?=some (some (.ref pt)):=λ x=>by rw [z3 .aA];exact v0
 have Bh : ∀ x,(σ.set 6 x)[6]?=some x:=λ x=>sC .aD
 have j5:(ar.map V.int).length=10:=by rw [bY];exact sk
 refine #[_,mf,_,rfl,ln,_,rfl,qt,λ p1 Ez s1 ah=>?_];refine #[_,mf,bo,λ bw EA f2 s2 ai=>#[ln,bw,_,_,rfl,rfl,s2 _ _ (s1 _ _ qt),ai,(by rw [j5];show 10+1<=sizeLine;decide),λ lB rB s3 aH=>?_]];have oh:=(s1.trans s2).trans s3;refine #[_,mf,ln,_,rfl,.inr (a0.of (oh _ _ qt)),λ p9 Me f4 s4 a4=>?_];have qF:=oh.trans s4;have xH:mB (ar.map V.int) none (some 9)=(ar.take 9).map V.int:=by rw [Jd .aA,List.map_take];rfl
 rw [xH] at ah;have vi:((ar.take 9).map V.int).length=9:=by rw [bY,nF];omega
 refine #[_,mf,_,rfl,ln,_,rfl,qF _ _ qt,λ nV vc s5 b4=>?_];rw [xH] at b4;refine #[_,_,rfl,rfl,#[.aA,.aA,.aA],_,_,rfl,rfl,bo,λ md UX kB b_ dM=>#[nV,md,_,_,rfl,rfl,b_ _ _ b4,dM,(by rw [vi];show 9+1<=sizeLine;decide),λ vu AR cL hF=>?_]];have Oe:=((qF.trans s5).trans b_).trans cL;refine #[_,mf,_,rfl,ln,_,rfl,Oe _ _ qt,λ xV AS dp fA=>?_];rw [xH] at fA;refine #[_,rfl,bo,λ Bg aj6 vk ee lx=>#[xV,Bg,_,_,rfl,rfl,ee _ _ fA,lx,(by rw [vi];show 9+1<=sizeLine;decide),λ fM aj7 vz ay=>?_]];have Of:=((Oe.trans dp).trans ee).trans vz;refine λ db aj8 kC d4 ae=>#[bo,λ lc Gc akl Cf ak=>?_]
 have Og:=(Of.trans d4).trans Cf;refine #[_,Bh _,_,vD _,_,rfl,ln,_,rfl,Og _ _ qt,λ Vv Mf hT r4=>?_];rw [xH] at r4;refine #[bo,λ bp aj9 gZ E8 he=>#[Vv,bp,_,_,rfl,rfl,E8 _ _ r4,he,(by rw [vi];show 9+1<=sizeLine;decide),λ MD aj_ ME hf=>?_]];have Oh:=((Og.trans hT).trans E8).trans ME;refine #[_,vD _,_,rfl,ln,_,rfl,Oh _ _ qt,λ qc aka xX aS=>?_];rw [xH] at aS;refine #[bo,λ bC akb akm Be cj=>#[qc,bC,_,_,rfl,rfl,Be _ _ aS,cj,(by rw [vi];show 9+1<=sizeLine;decide),λ pi akc E9 ax=>?_]];have Oi:=((Oh.trans xX).trans Be).trans E9;refine #[bo,λ Vp akd akn Bf b5=>?_];have Ox:=(((((hT.trans E8).trans ME).trans xX).trans Be).trans E9).trans Bf;refine #[lc,Vp,_,_,rfl,rfl,Ox _ _ ak,b5,(by show 8+2<=sizeLine;decide),λ lk UY Vc E_ aG=>?_];have Oj:=(Oi.trans Bf).trans E_;have Nu:=Oj _ _ jP;refine #[_,gH _,pt,n,10,rfl,Nu,.aA,.aA,λ im ft lp Yb Yc bm BP=>?_];have up : ∀ {G:az} {c:Addr} {ys:bl},aE G UY->G c=some (.tup ys)->lp c=some (.tup ys):=λ {G c ys} s h=>bm _ _ (cW (s _ _ h) Nu nofun) (s _ _ h)
 have zF : ∀ (l:aV) (x:V),(∀ G:az,dV G x) -> ∀ y∈l.map V.int++[x],dV lp y:=λ l x aj y aT=>by
  rcases oB.mp aT with z | z
  ·obtain ⟨i,_,rfl⟩:=e3.mp z;trivial
  ·rw [eC.mp z];exact aj lp
 have A_ : ∀ x:V,((ar.take 9).map V.int++[x]).length<=1000:=λ x=>by rw [fm,vi];show 9+1<=1000;decide
 have Oy:=Bf.trans E_;have Zc:=E9.trans Oy;have EH:=Ox.trans E_;have Mn:=(d4.trans Cf).trans EH;have rM:=((dp.trans ee).trans vz).trans Mn;have kF:=((s5.trans b_).trans cL).trans rM;have k3:=s4.trans kF;have k1:=(s2.trans s3).trans k3;have iK:dg lp (.ref p1):=lh (up k1 ah) (by rw [vi];decide) λ y aT=>by obtain ⟨i,_,rfl⟩:=e3.mp aT;trivial
 have m8:dg lp (.ref lB):=lh (up k3 aH) (by rw [fm,j5];show 10+1<=1000;decide) (zF ar _ λ _=>trivial);have YF:p9≠pt:=nU f4 (oh _ _ jP);have x1:dg lp (.ref p9):=adK (bm _ _ YF (kF _ _ a4));have vD:dg lp (.ref vu):=lh (up rM hF) (A_ _) (zF _ _ λ _=>trivial);have VG:dg lp (.ref fM):=lh (up Mn ay) (A_ _) (zF _ _ λ _=>trivial);have NR:db≠pt:=nU kC (Of _ _ jP);have VH:dg lp (.ref db):=Dj (.inr (.inr #[_,bm _ _ NR ((Cf.trans EH) _ _ ae)])) (abt (bm _ _ NR ((Cf.trans EH) _ _ ae)));have Zn:dg lp (.ref MD):=lh (up ((xX.trans Be).trans Zc) hf) (A_ _) (zF _ _ λ _=>trivial);have gr:dg lp (.ref pi):=lh (up Oy ax) (A_ _) (zF _ _ λ _=>trivial);obtain ⟨Fi,XW,Hn⟩:=aaF (H:=lp) (xs:=[V.ref p1,V.ref lB,V.ref p9,V.ref vu,V.ref fM,V.bh,V.int 6,V.ref db]++[V.ref MD,V.ref pi]) (λ x aj=>by
  simp only [List.cons_append,List.nil_append,c1,fR,fS] at aj;rcases aj with rfl | rfl | rfl | rfl | rfl | rfl | rfl | rfl | rfl | rfl
  ·exact iK
  ·exact m8
  ·exact x1
  ·exact vD
  ·exact VG
  ·exact adL
  ·exact adJ _
  ·exact VH
  ·exact Zn
  ·exact gr) Yb (show im<((10:Nat):Int) from Yc)
 exact #[lk,_,_,_,rfl,rfl,a9.of (bm _ _ (nU Vc ((Oi.trans Bf) _ _ jP)) aG),XW,q lc Fi ft lp ((bN.of Oj).trans bm) BP Hn]
noncomputable def ah2:b3:=λ vs H Q _ => ∃ (pt pl cY:Addr) (n:Int) (ns:aV) (cp:List (Key×V)) (aX:d9),vs=[.ref pt,.ref pl,.ref cY]/\H pt=some (.lst [.int n])/\H pl=some (.tup (ns.map V.int))/\ns.length<=10/\(∀ m∈ns,0<=m/\m<10)/\dS H cY (.bF cp)/\ec H cp aX/\aX.length<12/\(∀ p∈aX,(x4 p.1/\p.1.length<=1000)/\p.1∈six) /\
 ∀ cz way v bC b1 H',bN pt H H'->H' pt=some (.lst [.int b1])->H' cz=some (.tup [.str way,v,bC])->HT H' way v bC->Q (.ref cz) H'
theorem ajF (T:bB K mg):c8 P w mg base cS 4 T.Ul ah2:=by
 refine T.Ul.fn.en p3 (λ vs H Q E h=>?_) (λ bg A outer s H vs Q E aq h=>?_)
 ·obtain ⟨pt,pl,cY,n,ns,cp,aX,rfl,_⟩:=h;rfl
 ·obtain ⟨pt,pl,cY,n,ns,cp,aX,rfl,kg,dH,Cw,kf,dj,a8,px,ZJ,q⟩:=h;refine #[_,(aN (bV 3 p3 (bR (gC T) aq bD (aa (af 0) (aa aI ao))))
   (aN (bV 4 p3 (hy eS (bR (gC T) aq bD (aa (af 0) (aa aI ao))) aI (bS _)))
   (aN (bV 5 p3 (dt fE (eK (aa ck (aa ck (aa ck (aa ck (aa ck ao)))))) (bR (gC T) aq bD (aa (af 0) (aa aI ao))) (λ _ _=>rfl)))
   (aN (pO (eD.pt (uL (ct ov (bQ J1 T.gh gg (aa (af 2) ao)) aI (bS _)) (uU (ct ov (bR (gC T) aq bD (aa (af 0) (aa aI ao))) aI (bS _)))))
    (aR (bV 5 p3 (dt fE (bQ (KR rfl) T.DS DO (aa (af 2) ao)) (bR (gC T) aq bD (aa (af 0) (aa (bQ J1 T.gh gg (aa (af 2) ao)) ao))) (λ _ _=>rfl))))
    cB)
   (aN (pO (eD.pt (uL (eu (af 4)) (uU (ct eS (bR (gC T) aq bD (aa (af 0) (aa aI ao))) aI (bS _)))))
    (aN (bV 6 p3 (eK (aa ck (aa ck (aa ck (aa ck (aa ck (aa e2 (aa aI (aa (dh (aa ck ao)) (aa (eK (aa ck ao)) (aa gz (aa w4 (aa ck ao))))))))))))))
   (aR (bV 5 p3 (dt fE (af 6) (bR (gC T) aq bD (aa (af 0) (aa aI ao))) (λ _ _=>rfl)))))
    cB)
   (aN (cN (ct nz (af 3) aI (bS _))
    (aN (bV 7 p3 (bR (SE T) aq bD (aa (af 0) (aa (af 1) (aa (dt fE (eK (aa aI (aa aI (aa aI (aa (bU uK aI aI) ao))))) (bR (gC T) aq bD (aa (af 0) (aa aI ao))) (λ _ _=>rfl)) ao)))))
   (aN (pO (eD.pt (uL (eu (af 4)) (uU (ct eS (bR (gC T) aq bD (aa (af 0) (aa aI ao))) aI (bS _)))))
    (aN (bV 6 p3 (eK (aa (uZ zI (af 7) uS (uT aI)) (aa (bU rq (af 7) (dh (aa aI ao))) (aa (kp ai8 T.uJ uH (aa (af 7) ao)) (aa (bU rq (uZ zI (af 7) uS (uT aI)) (dh (aa (bU gL (bU uK aI aI) aI) ao))) (aa (bU rq (uZ zI (af 7) uS (uT aI)) (dh (aa (qZ ra aI) ao))) (aa e2 (aa aI (aa w4 ao))))))))))
   (aR (bV 7 p3 (dt fE (bU Ao (af 6) (eK (aa (bU rq (uZ zI (af 7) uS (uT aI)) (dh (aa gz ao))) (aa (bU rq (uZ zI (af 7) uS (uT aI)) (dh (aa ck ao))) ao)))) (bR (gC T) aq bD (aa (af 0) (aa aI ao))) (λ _ _=>rfl)))))
    cB)
   (aR (bE (dh (aa ck (aa (af 5) (aa (af 7) ao))))))))
    cB)
   (aN (cN (ct nz (af 3) aI (bS _))
    (aR (bE (dh (aa ck (aa (af 5) (aa (dt fE (eK (aa aI (aa aI (aa (bR (gC T) aq bD (aa (af 0) (aa aI ao))) (aa aI ao))))) (bR (gC T) aq bD (aa (af 0) (aa aI ao))) (λ _ _=>rfl)) ao))))))
    cB)
   (aR (bE (dt fE (eK (aa (dh (aa ck (aa (af 5) (aa e2 ao)))) (aa (dh (aa ck (aa e2 (aa e2 ao)))) (aa (dh (aa ck (aa e2 (aa e2 ao)))) ao)))) (bU kq (af 3) aI) (λ _ _=>rfl))))))))))),?_]
  refine #[_,rfl,pt,n,12,rfl,kg,.aA,.aA,λ rW cC H1 gH wl e4 iu=>?_];refine #[_,rfl,pt,cC,6,rfl,iu,.aA,.aA,λ mc dB au alk alm dK fk=>#[rfl,?_]];refine #[bo,λ m5 aW di s3 aH=>#[_,rfl,pt,dB,5,rfl,s3 _ _ fk,.aA,.aA,λ l_ g6 bc X3 X4 fo ob=>?_]];have YE:m5≠pt:=λ z=>by rw [z,fk] at di;cases di
  obtain ⟨v4,XT,NW⟩:=ZD X3 X4 (H:=bc);have Bq:bN pt H bc:=((e4.trans dK).trans (bN.of s3)).trans fo;refine #[m5,_,_,_,rfl,rfl,a9.of (fo _ _ YE aH),XT,?_];have N0:cY≠pt:=by
   rcases dj with h | ⟨o,h⟩
   ·exact cW h kg nofun
   ·exact cW h kg nofun
  have F7 : ∀ {H':az},bN pt H H'->dS H' cY (.bF cp):=λ b=>dj.imp (b _ _ N0) λ ⟨o,h⟩=>#[o,b _ _ N0 h]
  have tW:cp.length<12:=by rw [a8.len];exact px
  refine #[λ σ' H' => ∃ v b1,σ'=[some (.ref pt),some (.ref pl),some (.ref cY),some (.int rW),some (.aX (decide (V.int mc=V.int 1))),some v,none,none]/\bN pt H H'/\H' pt=some (.lst [.int b1])/\jf H' v,?_,?_]
  ·refine #[_,rfl,cY,cp,rfl,F7 Bq,_,_,rfl,rfl,_,rfl,eJ (λ h=>?_) (λ h=>?_)]
   ·have Gv:(cp.length:Int) > 0:=eT h;refine #[_,rfl,pt,g6,3,rfl,ob,.aA,.aA,λ akh hS bW akP akQ dX pf=>#[_,_,rfl,rfl,_,rfl,eJ (λ b4=>?_) (λ b4=>?_)]]
    ·have vJ:=Bq.trans dX;refine #[_,rfl,cY,cp,e1 aX,rfl,F7 vJ,a8.keys,by rw [bY];omega,λ ms pm vA Mx dO kB b_ dM=>?_];have vK:=vJ.trans (bN.of b_);refine #[_,rfl,_,rfl,cY,cp,rfl,F7 vK,pt,hS,(cp.length:Int),rfl,b_ _ _ pf,.aD,.aD,λ xN ja dv X5 alb gN mw=>?_];have YG:Mx≠pt:=λ z=>by rw [z,pf] at kB;cases kB
     have Yw:ms.length=cp.length:=by rw [pm.length_eq,bY,a8.len]
     have ax:xN.toNat<ms.length:=by omega
     have kc:il (ms.map V.str) xN=some (.str ms[xN.toNat]):=lY X5 (by rw [fK,fT ax];rfl);have ZT:ms[xN.toNat]∈e1 aX:=pm.mem_iff.mp (sP ax);obtain ⟨p,aw,e⟩:=e3.mp ZT;have Ga:=ZJ p aw;rw [show p.1=ms[xN.toNat] from e] at Ga;refine #[Mx,_,_,_,rfl,rfl,a9.of (gN _ _ YG dM),kc,_,ja,rfl,vK.trans gN,mw,#[trivial,λ y e=>?_],λ _=>#[_,Ga.2,rfl]];injection e with e;subst e;exact Ga.1
    ·exact #[v4,hS,rfl,Bq.trans dX,pf,NW.but dX pf]
   ·exact bA #[v4,g6,rfl,Bq,ob,NW]
  rintro σ' bW ⟨MI,hS,rfl,vJ,pf,NX⟩;refine #[λ σ' H' => ∃ v b1 vC,σ'=[some (.ref pt),some (.ref pl),some (.ref cY),some (.int rW),some (.aX (decide (V.int mc=V.int 1))),some v,vC,none]/\bN pt H H'/\H' pt=some (.lst [.int b1])/\jf H' v,?_,?_]
  ·refine #[_,rfl,_,rfl,?_];cases aJ:decide (V.int mc=V.int 1) with
   | false=>exact bA (bA #[MI,hS,_,rfl,vJ,pf,NX])
   | true =>
    refine cA #[_,rfl,pt,hS,2,rfl,pf,.aA,.aA,λ Mo lA dO akR akS hC fQ=>#[rfl,_,rfl,eJ (λ dM=>?_) (λ dM=>?_)]]
    ·refine #[bo,λ vB dv p7 cL hF=>#[bo,λ My fg f8 dp fA=>λ xI hB vk ee lx=>#[bo,λ xQ l3 Mt h5 nT=>?_]]];have jP:=h5 _ _ (ee _ _ (dp _ _ (cL _ _ fQ)));have tK:bN pt H l3:=(vJ.trans hC).trans (bN.of (((cL.trans dp).trans ee).trans h5));refine #[_,rfl,_,rfl,pt,lA,12,rfl,jP,.aA,.aA,λ akr Vs mW X_ Ya xF XA=>?_];have nU : ∀ {c:Addr} {G:az},G c=none->G pt=some (.lst [.int lA])->c≠pt:=λ {c G} f h z=>by rw [z,h] at f;cases f
     have lL:=ee _ _ (dp _ _ (cL _ _ fQ));obtain ⟨VE,XU,YL⟩:=aai (H:=mW) (xF _ _ (nU p7 fQ) (h5 _ _ (ee _ _ (dp _ _ hF)))) (xF _ _ (nU f8 (cL _ _ fQ)) (h5 _ _ (ee _ _ fA))) (xF _ _ (nU vk (dp _ _ (cL _ _ fQ))) (h5 _ _ lx)) X_ Ya;refine #[xQ,_,_,_,rfl,rfl,a9.of (xF _ _ (nU Mt lL) nT),XU,VE,Vs,_,rfl,tK.trans xF,XA,YL]
    ·exact #[MI,lA,_,rfl,vJ.trans hC,fQ,NX.but hC fQ]
  rintro σ' dO ⟨v6,lA,vC,rfl,vK,fQ,G2⟩;have aad:pl≠pt:=cW dH kg nofun;have nU : ∀ {c:Addr} {G:az} {k:Int},G c=none->G pt=some (.lst [.int k])->c≠pt:=λ {c G k} f h z=>by rw [z,h] at f;cases f
  refine #[_,rfl,_,_,rfl,rfl,_,rfl,eJ (λ h=>?_) (λ h=>?_)]
  ·refine #[_,rfl,_,rfl,_,_,rfl,rfl,#[.aA,.aA,.aA],bo,λ Vo dv p7 cL hF=>#[_,rfl,pt,lA,4,rfl,cL _ _ fQ,.aA,.aA,λ akp xS fg X6 X7 kA yN=>?_]];obtain ⟨mo,Xx,YA,YB⟩:=aaS X6 X7;have MT:bN pt H fg:=(vK.trans (bN.of cL)).trans kA;refine #[Vo,_,_,_,rfl,rfl,a9.of (kA _ _ (nU p7 fQ) hF),Xx,pt,pl,xS,mo,ns,rfl,yN,MT _ _ aad dH,Cw,kf,YA,YB,λ ln hB Ba ar i9 lL tX sk ng=>?_];have FC:=MT.trans i9;have G3:jf hB v6:=((G2.same cL).but kA yN).but i9 lL;have Zp:dg hB (.ref ln):=lh tX (by rw [bY];omega) λ y aT=>by obtain ⟨i,_,rfl⟩:=e3.mp aT;trivial
   refine #[λ σ' H' => ∃ bC b1 OI,σ'=[some (.ref pt),some (.ref pl),some (.ref cY),some (.int rW),some (.aX (decide (V.int mc=V.int 1))),some v6,OI,some bC]/\bN pt H H'/\H' pt=some (.lst [.int b1])/\jf H' v6/\dg H' bC,?_,?_]
   ·refine #[_,rfl,_,rfl,?_];cases aJ:decide (V.int mc=V.int 1) with
    | false=>exact bA (bA #[_,Ba,_,rfl,FC,lL,G3,Zp])
    | true =>
     refine cA #[_,rfl,pt,Ba,2,rfl,lL,.aA,.aA,λ akj EW l3 akT akU vf jP=>#[rfl,_,rfl,eJ (λ dM=>?_) (λ dM=>?_)]]
     ·have aac:ln≠pt:=cW tX lL nofun;have qt:l3 ln=some (.tup (ar.map V.int)):=vf _ _ aac tX;have j5:(ar.map V.int).length=10:=by rw [bY];exact sk
      have a6:sizeLine=16777216:=ef;exact aeC (K:=K) rfl rfl qt sk jP λ lk Fi ft lp bm BP Hn=>#[Fi,ft,_,rfl,(FC.trans vf).trans bm,BP,(G3.but vf jP).but bm BP,Hn]
     ·refine #[_,EW,_,rfl,FC.trans vf,jP,G3.but vf jP,?_];exact lh (vf _ _ (cW tX lL nofun) tX) (by rw [bY];omega) λ y aT=>by obtain ⟨i,_,rfl⟩:=e3.mp aT;trivial
   ·rintro σ' l3 ⟨bC,EW,OI,rfl,tK,jP,G4,Zo⟩;refine #[_,rfl,_,rfl,bo,λ cz mW Va sB tx=>?_];exact q cz "put" v6 bC EW mW (tK.trans (bN.of sB)) (sB _ _ jP) tx (.inl ⟨rfl,G4.same sB,aE.dg sB Zo⟩)
  ·refine #[_,rfl,_,_,rfl,rfl,_,rfl,eJ (λ lx=>?_) (λ lx=>?_)]
   ·refine #[_,rfl,_,rfl,pt,lA,30,rfl,fQ,.aA,.aA,λ rT ja dv Y0 Y1 gN mw=>#[bo,λ My fg f8 dp fA=>#[_,rfl,pt,ja,4,rfl,dp _ _ mw,.aA,.aA,λ akq Ba hB X8 X9 i9 lL=>?_]]];obtain ⟨m,hm,m0,ly⟩:=runs X8 X9 Y0 Y1;refine #[My,_,_,_,rfl,rfl,a9.of (i9 _ _ (nU f8 mw) fA),hm,bo,λ cz mW Va sB tx=>?_];exact q cz "run" v6 (.int m) Ba mW ((((vK.trans gN).trans (bN.of dp)).trans i9).trans (bN.of sB)) (sB _ _ lL) tx (.inr (.inl ⟨rfl,((((G2.but gN mw).same dp).but i9 lL).same sB),m,rfl,m0,ly⟩))
   ·have ak8 : ¬ rW<5:=λ z=>h (cc z)
    have ak9 : ¬ rW<9:=λ z=>lx (cc z)
    refine #[_,rfl,bo,λ vB dv p7 cL hF=>#[bo,λ Fb fg f8 dp fA=>#[bo,λ Bg hB vk ee W3=>#[bo,λ EU l3 Mt h5 nT=>?_]]]];have Hf:=((cL.trans dp).trans ee).trans h5;have tK:=vK.trans (bN.of Hf);have jP:=Hf _ _ fQ;have G4:=G2.same Hf;have ak:rW - 9=0\/rW - 9=1\/rW - 9=2:=by omega
    rcases ak with e | e | e
    ·refine #[_,rfl,_,_,rfl,rfl,EU,_,_,.ref vB,rfl,rfl,a9.of nT,by rw [e];rfl,?_];exact q vB "drop" v6 .bh lA l3 tK jP (h5 _ _ (ee _ _ (dp _ _ hF))) (.inr (.inr (.inl ⟨rfl,G4,rfl⟩)))
    ·refine #[_,rfl,_,_,rfl,rfl,EU,_,_,.ref Fb,rfl,rfl,a9.of nT,by rw [e];rfl,?_];exact q Fb "undo" .bh .bh lA l3 tK jP (h5 _ _ (ee _ _ fA)) (.inr (.inr (.inr ⟨rfl,rfl,rfl⟩)))
    ·refine #[_,rfl,_,_,rfl,rfl,EU,_,_,.ref Bg,rfl,rfl,a9.of nT,by rw [e];rfl,?_];exact q Bg "undo" .bh .bh lA l3 tK jP (h5 _ _ W3) (.inr (.inr (.inr ⟨rfl,rfl,rfl⟩)))
end
section
variable {M N:List Addr} {c:Addr}
theorem dS.one {cp v5:List (Key×V)} (a:dS H c (.bF cp)) (b:dS H c (.bF v5)):cp=v5:=by
 rcases a with a | ⟨u,a⟩<;>rcases b with b | ⟨kH,b⟩<;>rw [a] at b<;>cases b<;>rfl
noncomputable def cI (M:List Addr) (H H':az):Prop := ∀ c o,c∉M->H c=some o->H' c=some o \/ ∃ cp,dS H c (.bF cp)/\dS H' c (.bF cp)
theorem cI.same (s:aE H H'):cI M H H':=λ c o _ h=>.inl (s _ _ h)
theorem cI.but {p:Addr} (b:bN p H H'):cI [p] H H':=λ c o n h=>.inl (b _ _ (λ z=>n (by rw [z];exact eC.mpr rfl)) h)
theorem cI.qz {a b:Addr} (k:jI a b H H'):cI [a,b] H H':=λ c o n h=>.inl (k _ _ (λ z=>n (by rw [z];simp)) (λ z=>n (by rw [z];simp)) h)
theorem cI.mono (k:cI M H H') (s : ∀ c∈M,c∈N):cI N H H':=λ c o n h=>k c o (λ z=>n (s c z)) h
theorem cI.cY {cp:List (Key×V)} (k:cI M H H') (n:c∉M) (h:dS H c (.bF cp)):dS H' c (.bF cp):=by
 have ai:=h;rcases h with h | ⟨u,h⟩
 ·rcases k _ _ n h with h' | ⟨v5,bJ,b8⟩
  ·exact .inl h'
  ·rw [dS.one ai bJ];exact b8
 ·rcases k _ _ n h with h' | ⟨v5,bJ,b8⟩
  ·exact .inr #[u,h']
  ·rw [dS.one ai bJ];exact b8
theorem cI.trans (k:cI M H H1) (f3:cI M H1 H'):cI M H H':=λ c o n h=>by
 rcases k c o n h with ah | ⟨cp,bJ,b8⟩
 ·rcases f3 c o n ah with ai | ⟨cp,bJ,b8⟩
  ·exact .inl ai
  ·refine .inr #[cp,?_,b8];rcases bJ with r | ⟨u,r⟩<;>rw [ah] at r<;>cases r
   ·exact .inl h
   ·exact .inr #[_,h]
 ·exact .inr #[cp,bJ,f3.cY n b8]
theorem cI.at_ (k:cI M H H') (n:c∉M) (h:H c=some o) (c6 : ∀ cp,¬ dS H c (.bF cp)):H' c=some o:=(k c o n h).elim id (by rintro ⟨cp,r,_⟩;exact absurd r (c6 cp))
theorem Q2 (h:H c=some (.lst xs)) (cp:List (Key×V)) : ¬ dS H c (.bF cp):=λ r=>by
 rcases r with r | ⟨u,r⟩<;>rw [h] at r<;>cases r
theorem acJ (h:H c=some (.tup xs)) (cp:List (Key×V)) : ¬ dS H c (.bF cp):=λ r=>by
 rcases r with r | ⟨u,r⟩<;>rw [h] at r<;>cases r
theorem acI {C:Addr} {da:List (Str×V)} (h:H c=some (.ins C aL da)) (cp:List (Key×V)) : ¬ dS H c (.bF cp):=λ r=>by
 rcases r with r | ⟨u,r⟩<;>rw [h] at r<;>cases r
theorem cI.lst (k:cI M H H') (n:c∉M) (h:H c=some (.lst xs)):H' c=some (.lst xs):=k.at_ n h (Q2 h)
noncomputable def mj (bx H:az) (M:List Addr):Prop := ∀ m∈M,(∃ ys,H m=some (.lst ys))\/((∃ o,bx m=some o) /\ ∃ cp,H m=some (.bF cp))
theorem mj.tup (m:mj bx H M) (h:H c=some (.tup ys)):c∉M:=λ z=>by
 rcases m c z with ⟨ys,e⟩ | ⟨_,cp,e⟩<;>rw [h] at e<;>cases e
theorem mj.ins (m:mj bx H M) {C:Addr} {da:List (Str×V)} (h:H c=some (.ins C aL da)):c∉M:=λ z=>by
 rcases m c z with ⟨ys,e⟩ | ⟨_,cp,e⟩<;>rw [h] at e<;>cases e
theorem cI.eA (k:cI M H H') (m:mj bx H M):mi H H':=λ c ys h=>k.at_ (m.tup h) h (acJ h)
theorem mj.row (m:mj bx H M) {cp:List (Key×V)} (n:bx c=none) (h:dS H c (.bF cp)):c∉M:=λ z=>by
 rcases m c z with ⟨ys,e⟩ | ⟨⟨o,e⟩,_⟩
 ·exact Q2 e cp h
 ·rw [n] at e;cases e
end
noncomputable def k9 (aQ:d9):Prop:=(e1 aQ).Nodup/\aQ.length<=12 /\ ∀ p∈aQ,(fD (.str p.1)=true/\p.1 ≠ "nope")/\p.2.1.length=10/\nn p.2.1=true
theorem k9.nil:k9 []:=#[List.nodup_nil,j0 _,λ p h=>by cases h]
theorem k9.perm {b c:d9} (h:k9 b) (p:c.Perm b):k9 c:=#[(p.map _).nodup_iff.mpr h.1,by rw [p.length_eq];exact h.2.1,λ q aZ=>h.2.2 q (p.mem_iff.mp aZ)]
theorem k9.put {b:d9} (h:k9 b) {x:Str} {e:Ent} (aj:fD (.str x)=true/\x ≠ "nope") (he:e.1.length=10/\nn e.1=true) (aq:d2 b x≠none\/b.length<12):k9 (ix b x e):=by
 by_cases aG:x∈e1 b
 ·refine #[J9 h.1 _ _,?_,λ p aw=>?_]
  ·rw [uR aG,bY];exact h.2.1
  ·rw [uR aG] at aw;obtain ⟨q,aZ,rfl⟩:=e3.mp aw;split
   ·exact #[(h.2.2 q aZ).1,he]
   ·exact h.2.2 q aZ
 ·have av:b.length<12:=aq.resolve_left λ z=>z (Ay.mpr aG)
  refine #[J9 h.1 _ _,?_,λ p aw=>?_]
  ·rw [tc aG,fm];show b.length+1<=12;omega
  ·rw [tc aG] at aw;rcases oB.mp aw with z | z
   ·exact h.2.2 p z
   ·rw [eC.mp z];exact #[aj,he]
theorem k9.drop {b:d9} (h:k9 b) (x:Str):k9 (iy b x):=#[aif h.1 _,fl (List.length_filter_le _ _) h.2.1,λ p aw=>h.2.2 p (q4.mp aw).1]
structure hV where
 r:Addr
 t:Addr
 cp:List (Key×V)
 aQ:d9
 x:Str
 w:V
noncomputable def qU (cG:Addr):List hV->Addr
 | []=>cG
 | l::_=>l.r
noncomputable def CJ:List hV->List (Key×V)
 | []=>[]
 | l::_=>l.cp
noncomputable def iU:List hV->d9
 | []=>[]
 | l::_=>l.aQ
noncomputable def hK (cG:Addr):List hV->bl
 | []=>[.ref cG]
 | l::ls=>hK cG ls++[.ref l.r]
noncomputable def hJ:List hV->bl
 | []=>[]
 | l::ls=>hJ ls++[.ref l.t]
theorem sM (cG:Addr) : ∀ ls,(hK cG ls).length=ls.length+1
 | []=>rfl
 | l::ls=>by show (hK cG ls++[V.ref l.r]).length=_;rw [fm,sM cG ls];rfl
theorem C8 : ∀ ls,(hJ ls).length=ls.length
 | []=>rfl
 | l::ls=>by show (hJ ls++[V.ref l.t]).length=_;rw [fm,C8 ls];rfl
theorem Ip (cG:Addr) (ls:List hV):il (hK cG ls) (-1)=some (.ref (qU cG ls)):=by
 refine IM (n:=ls.length) (sM cG ls) ?_;cases ls with
 | nil=>rfl
 | cons l ls =>
  show (hK cG ls++[V.ref l.r])[ls.length+1]?=_;rw [wI (by rw [sM];exact b9 _),sM];simp [qU]
noncomputable def wg (H:az) (w:V):Option Ent->Prop
 | none=>w=.bh
 | some e=>nv H w e
theorem wg.eA {w:V} (k:mi H H') : ∀ {o:Option Ent},wg H w o->wg H' w o
 | none,h=>h
 | some e,h=>nv.eA h k
theorem ec.hold {kvs:List (Key×V)} {aQ:d9} {x:Str} {w:V} (d:ec H kvs aQ) {o:Option Ent} (h:wg H w o):ec H (CP kvs x w) (uw aQ x o):=by
 cases o with
 | none =>
  obtain rfl:w=.bh:=h;exact d.drop
 | some e =>
  obtain ⟨a,b,rfl,ah,ai⟩:=id (show nv H w e from h);exact d.put h
theorem ec.opt {kvs:List (Key×V)} {aQ:d9} {x:Str} (d:ec H kvs aQ):wg H ((dU kvs (cF x)).getD .bh) (d2 aQ x):=by
 cases h:d2 aQ x with
 | none=>rw [d.none h];rfl
 | some e =>
  obtain ⟨u,br,he⟩:=d.some h;rw [br];exact he
structure aaC (bx H:az) (l:hV) (b:d9):Prop where
 new:bx l.r=none
 cY:dS H l.r (.bF l.cp)
 Mr:ec H l.cp l.aQ
 aU:H l.t=some (.tup [.str l.x,l.w])
 rV:wg H l.w (d2 b l.x)
 un : ∀ c:d9,c.Perm l.aQ->(uw c l.x (d2 b l.x)).Perm b
 nS:k9 l.aQ
 aB:d2 b l.x=none -> ∃ e,d2 l.aQ l.x=some e
noncomputable def lU (bx H:az):List hV->Prop
 | []=>True
 | l::ls=>aaC bx H l (iU ls)/\lU bx H ls
theorem lU.f6 {M:List Addr} (k:cI M H H') (m:mj bx H M) : ∀ {ls:List hV},lU bx H ls->lU bx H' ls
 | [],_=>trivial
 | l::ls,⟨h,t⟩=>#[#[h.new,k.cY (m.row h.new h.cY) h.cY,h.Mr.eA (k.eA m),k.eA m _ _ h.aU,h.rV.eA (k.eA m),h.un,h.nS,h.aB],t.f6 k m]
theorem lU.good : ∀ {ls:List hV},lU bx H ls->k9 (iU ls)
 | [],_=>k9.nil
 | l::ls,h=>h.1.nS
theorem lU.dict : ∀ {ls:List hV},lU bx H ls->ec H (CJ ls) (iU ls)
 | [],_=>.nil
 | l::ls,h=>h.1.Mr
theorem lU.top {cG:Addr} (aq:dS H cG (.bF [])) : ∀ {ls:List hV},lU bx H ls->dS H (qU cG ls) (.bF (CJ ls))
 | [],_=>aq
 | l::ls,h=>h.1.cY
theorem lU.apart {cG c:Addr} (ak:bx c=some o) (aq:cG≠c) : ∀ {ls:List hV},lU bx H ls->qU cG ls≠c
 | [],_=>aq
 | l::ls,h=>λ z=>by
  have:=h.1.new;rw [show l.r=c from z,ak] at this;cases this
theorem RC {p:aV} : ∀ {k j:Nat} {q:aV},goN rows k p=some q->j<=k -> ∃ r,goN rows j p=some r
 | 0,j,q,h,b5=>by rw [show j=0 by omega];exact #[q,h]
 | k+1,j,q,h,b5=>by
  by_cases e:j=k+1
  ·rw [e];exact #[q,h]
  ·obtain ⟨r,ah,_⟩:=Ai.mp h;exact RC ah .aD
theorem DD {p r bP:aV} {k j:Nat} (ah:goN rows k p=some r) (aq:dq rows r=none) (ai:goN rows j p=some bP):j<=k:=Nat.le_of_not_lt λ z=>by
 obtain ⟨bu,yL⟩:=RC (j:=k+1) ai z;have aH:(goN rows k p).bind (iP rows)=some bu:=yL;rw [ah] at aH;obtain ⟨_,_,aM,_⟩:=RY aH;rw [aq] at aM;cases aM
theorem aef {p r bP:aV} {k j m:Nat} (aG:k<=m) (b5:j<=m) (ah:goN rows k p=some r) (qa:k=m\/dq rows r=none) (ai:goN rows j p=some bP) (mc:j=m\/dq rows bP=none):j=k:=by
 rcases qa with qa | qa<;>rcases mc with mc | mc
 ·omega
 ·have:=DD ai mc ah;omega
 ·have:=DD ah qa ai;omega
 ·have:=DD ah qa ai;have:=DD ai mc ah;omega
section
variable {w:World}
structure qN where
 bn:Addr
 pr:Addr
 hd:Addr
 dl:Addr
 bz:Addr
 bf:Addr
 cG:Addr
 aL:Addr
 xs:bl
 ts:bl
 fs:f_
structure gY (bx H:az) (S:qN) (f5:bl) (kvs:List (Key×V)) (aQ:d9) (ls:List hV):Prop where
 hd:H S.hd=some (.bF kvs)
 dl:H S.dl=some (.lst (hJ ls))
 bf:H S.bf=some (.lst f5)
 D:ec H kvs aQ
 pm:aQ.Perm (iU ls)
 cG:dS H S.cG (.bF [])
 st:lU bx H ls
theorem gY.f6 {S:qN} {f5:bl} {kvs:List (Key×V)} {aQ:d9} {ls:List hV} {M:List Addr} (d:gY bx H S f5 kvs aQ ls) (k:cI M H H') (m:mj bx H M) (c6 : ∀ c∈[S.dl,S.bf,S.cG],c∉M) (hd:H' S.hd=some (.bF kvs)):gY bx H' S f5 kvs aQ ls :=
 #[hd,k.lst (c6 _ .zs) d.dl,k.lst (c6 _ .zs) d.bf,d.D.eA (k.eA m),d.pm,k.cY (c6 _ .zs) d.cG,d.st.f6 k m]
noncomputable def Mf (bx H:az) (S:qN) (n:Nat):Prop := ∃ kvs aQ ls,ls.length<=n/\gY bx H S (hK S.cG ls) kvs aQ ls
structure Ev (T:bB K mg) (bx:az) (S:qN) (pt:Addr):Prop where
 ae:bx S.bn=some (.ins T.gV S.aL [("program", .ref S.pr),("held", .ref S.hd),("deeds", .ref S.dl)])
 nk:bx S.pr=some (.tup S.xs)
 hf:h_ bx S.xs S.fs
 zt:S.xs.length<=16
 qy:bx S.hd=some (.bF [])
 BW:bx S.dl=some (.lst [])
 yW:bx S.bf=some (.lst [.ref S.cG])
 yY:bx S.cG=some (.bF [])
 yX : ∃ n:Int,bx pt=some (.lst [.int n])
 v8:S.cG≠S.hd
 G0:S.dl≠S.bf
 zc:pt≠S.dl
 NZ:pt≠S.bf
noncomputable def fa (S:qN) (pt:Addr):List Addr:=[S.hd,S.dl,S.bf,pt]
section
variable {T:bB K mg} {S:qN} {pt:Addr}
theorem Ev.jR (e:Ev T bx S pt):mj bx bx (fa S pt):=λ m hm=>by
 unfold fa at hm;simp only [c1,fR,fS] at hm;rcases hm with rfl | rfl | rfl | rfl
 ·exact .inr #[#[_,e.qy],_,e.qy]
 ·exact .inl #[_,e.BW]
 ·exact .inl #[_,e.yW]
 ·obtain ⟨n,h⟩:=e.yX;exact .inl #[_,h]
theorem Ev.eA (e:Ev T bx S pt) (k:cI (fa S pt) bx H):mi bx H:=k.eA e.jR
theorem Ev.FD (e:Ev T bx S pt) (k:cI (fa S pt) bx H):H S.bn=some (.ins T.gV S.aL [("program", .ref S.pr),("held", .ref S.hd),("deeds", .ref S.dl)]) :=
 k.at_ (e.jR.ins e.ae) e.ae (acI e.ae)
theorem Ev.N8 (e:Ev T bx S pt) (k:cI (fa S pt) bx H):H S.pr=some (.tup S.xs)/\h_ H S.xs S.fs:=#[e.eA k _ _ e.nk,e.hf.eA (e.eA k)]
theorem Ev.bn (e:Ev T bx S pt) (k:cI (fa S pt) bx H) {f5:bl} {kvs:List (Key×V)} {aQ:d9} {ls:List hV} (d:gY bx H S f5 kvs aQ ls):fF T H S.bn S.pr S.hd S.dl kvs (hJ ls):=#[#[_,e.FD k],d.hd,d.dl]
end
end
noncomputable def o7 (H:az) (v:V):Prop:=qk H v/\v≠.str "nope"
noncomputable def lT (H:az) (way:Str) (v bC:V):Prop:=(way = "put" /\ o7 H v/\dg H bC)\/(way = "run" /\ o7 H v /\ ∃ m:Int,bC=.int m/\0<=m/\m<=2000)\/(way = "drop" /\ o7 H v/\bC=.bh)\/(way = "undo" /\ v=.bh/\bC=.bh)
theorem jf.x {v:V} (h:jf H v):o7 H v:=#[h.1,λ e=>by
 subst e;obtain ⟨x,aj,ex⟩:=h.2 (by decide +kernel);cases ex;exact absurd aj .aA]
theorem HT.w {v bC:V} (d:HT H way v bC):lT H way v bC:=by
 rcases d with ⟨ah,ai,aH⟩ | ⟨ah,ai,aH⟩ | ⟨ah,ai,aH⟩ | h
 ·exact .inl #[ah,ai.x,aH]
 ·exact .inr (.inl #[ah,ai.x,aH])
 ·exact .inr (.inr (.inl #[ah,ai.x,aH]))
 ·exact .inr (.inr (.inr h))
theorem lT.nm {v bC:V} (d:lT H way v bC) (h:way ≠ "undo"):o7 H v:=by
 rcases d with ⟨_,ai,_⟩ | ⟨_,ai,_⟩ | ⟨_,ai,_⟩ | ⟨ah,_⟩
 ·exact ai
 ·exact ai
 ·exact ai
 ·exact absurd ah h
theorem af_ {a:Addr} {ag:aV} (h:H a=some (tupI ag)) (av:gy H (.ref a)=true):ag.length=10/\nn ag=true:=by
 unfold gy at av;rw [kx h] at av;have jM:=sY.mp (show (decide ((ag.map V.int).length=10)&&(ag.map V.int).all gK&&(ag.map V.int).all jU)=true from av);have ah:=sY.mp jM.1;refine #[by have:=eT ah.1;rw [bY] at this;exact this,pK.mpr λ i ax=>?_];exact eT (gT.mp ah.2 (.int i) (pU ax))
theorem ahG {b:d9} (c6:(e1 b).Nodup) {x:Str} {e:Ent} (h:d2 b x=none) : ∃ c2,d2 (ix b x e) x=some c2:=by
 have aj:=Ay.mp h;refine #[e,DR (J9 c6 x e) ?_];rw [tc aj];exact jx _ (eC.mpr rfl)
section
variable {w:World}
section
variable {T:bB K mg} {S:qN} {pt:Addr} {f5:bl} {kvs:List (Key×V)} {aQ:d9} {ls:List hV} {cz:Addr} {v bC hO:V} {Q:bG} {E:dA}
theorem Ev.Pg (e:Ev T bx S pt) (d:gY bx H S f5 kvs aQ ls):mj bx H [S.hd,S.dl]:=λ m hm=>by
 simp only [c1,fR,fS] at hm;rcases hm with rfl | rfl
 ·exact .inr #[#[_,e.qy],_,d.hd]
 ·exact .inl #[_,d.dl]
theorem Ev.Cs (e:Ev T bx S pt) (d:gY bx H S f5 kvs aQ ls) (k2:jI S.hd S.dl H H') {mE:List (Key×V)} {hp:d9} {B1:List hV} (ie:fF T H' S.bn S.pr S.hd S.dl mE (hJ B1)) (oV:ec H' mE hp) (Ha:hp.Perm (iU B1)) (eI:lU bx H' B1):gY bx H' S f5 mE hp B1:=by
 have E:=e;refine #[ie.hd,ie.dl,k2 _ _ (cW d.bf d.hd nofun) (ek E.G0) d.bf,oV,Ha,?_,eI];refine (cI.qz k2).cY ?_ d.cG;simp only [c1,fR,fS];rintro (z | z)
 ·exact E.v8 z
 ·exact cW E.yY E.BW nofun z
theorem Ev.told (e:Ev T bx S pt) (k:cI (fa S pt) bx H) (jO:H cz=some (.tup [.str way,v,bC]))
  (h:(way = "put" /\ DV T [.ref S.bn,v,bC] H Q (gB T Q))\/(way = "run" /\ Jt T [.ref S.bn,v,bC] H Q (gB T Q))\/(way = "drop" /\ JY T [.ref S.bn,v] H Q (gB T Q))\/(way = "undo" /\ D6 T [.ref S.bn] H Q (gB T Q))):u7 T [.ref S.bn,.ref cz] H Q E :=
 #[S.bn,cz,S.aL,_,way,v,bC,rfl,jO,e.FD k,by rfl,by rfl,by rfl,by rfl,h]
theorem Ev.abb (e:Ev T bx S pt) (k:cI (fa S pt) bx H) {lt:Addr} {klt:List (Key×V)} {hp:d9} (d:gY bx H S f5 kvs aQ ls) (aF:ls.length<=n) (ni:n<=900) (jO:H cz=some (.tup [.str way,v,bC])) (hd:lT H way v bC)
  (new:bx lt=none) (ea:H lt=some (.bF klt)) (Gk:ec H klt hp) (st:uo S.fs (iU ls) H way v bC hO hp) (q : ∀ H' mE ql l,jI S.hd S.dl H H'->l.r=lt->gY bx H' S f5 mE ql (l::ls)->Q hO H'):u7 T [.ref S.bn,.ref cz] H Q E:=by
 obtain ⟨x,rfl,yK,h⟩:=st;have gt:=d.st.good;have jE:=gt.perm d.pm;have B:=e.bn k d;have Gw:kvs.length<=12:=by rw [d.D.len];exact jE.2.1
 have e_:(hJ ls).length<=1000:=by rw [C8];omega
 have j5:d2 aQ x=d2 (iU ls) x:=D8 d.pm jE.1 x;have jR:=e.Pg d;have ND:way ≠ "undo" -> fD (.str x)=true/\x ≠ "nope" := λ hw=>#[yK,λ z=>(hd.nm hw).2 (by rw [z])]
 have key : ∀ {H' t mE ql},jI S.hd S.dl H H'->H' t=some (.tup [.str x,(dU kvs (cF x)).getD .bh])->fF T H' S.bn S.pr S.hd S.dl mE (hJ ls++[.ref t])->ec H' mE ql->ql.Perm hp->k9 hp->(∀ c:d9,c.Perm hp->(uw c x (d2 (iU ls) x)).Perm (iU ls))->(d2 (iU ls) x=none -> ∃ e,d2 hp x=some e)->gY bx H' S f5 mE ql (⟨lt,t,klt,hp,x,(dU kvs (cF x)).getD .bh⟩::ls):=by
  intro H' t mE ql k2 aU ie oV Ha nS un aB;have kt:=(cI.qz k2).eA jR;refine e.Cs d k2 ie oV Ha #[#[new,.inl (k2 _ _ ?_ ?_ ea),Gk.eA kt,aU,?_,un,nS,aB],d.st.f6 (cI.qz k2) jR]
  ·intro z;rw [show lt=S.hd from z,e.qy] at new;cases new
  ·exact cW ea d.dl nofun
  ·rw [<-j5];exact (d.D.opt).eA kt
 refine e.told k jO ?_;rcases h with ⟨rfl,rfl,⟨bX,kO⟩,rfl⟩ | ⟨rfl,m,bX,f3,r,rfl,kO,aG,aS,Xz,rfl,rfl⟩ | ⟨rfl,l8,B_,rfl,ay,av,sv,rfl,rfl⟩
 ·obtain ⟨u,br,Nk⟩:=d.D.some (j5.trans kO);refine .inr (.inr (.inl #[rfl,S.bn,S.pr,S.hd,S.dl,kvs,hJ ls,.str x,rfl,B,.aD,e_,trivial,(λ h=>by rw [show la kvs (.str x)=some u from br] at h;cases h),λ e7 kH ex ba t H' k2 aU ie=>?_]));cases ex;refine q H' _ _ _ k2 rfl (key k2 (by rw [ba];exact aU) ie (d.D.eA ((cI.qz k2).eA jR)).drop (SX d.pm x) (gt.drop x) (λ c ak=>afm gt.1 kO ak) λ h=>by rw [kO] at h;cases h)
 ·obtain ⟨u,br,cV,l8,rfl,pg,h7⟩:=d.D.some (j5.trans kO);obtain ⟨_,_,m0,ig⟩:True/\True/\0<=m/\m<=2000:=by
   rcases hd with ⟨h,_⟩ | ⟨_,_,cP,em,h⟩ | ⟨h,_⟩ | ⟨h,_⟩
   ·exact absurd h .aA
   ·cases em;exact #[trivial,trivial,h]
   ·exact absurd h .aA
   ·exact absurd h .aA
  have ge:=(gt.2.2 (x,bX) (u3 kO)).2;have qc:=e.N8 k;refine .inr (.inl #[rfl,S.bn,S.pr,S.hd,S.dl,kvs,hJ ls,.str x,m,rfl,B,.aD,e_,trivial,m0,.aD,(λ h=>by rw [show la kvs (.str x)=some (.ref cV) from br] at h;cases h),λ e7 kH ex ba=>?_]);cases ex;rw [br] at ba;cases ba;refine #[cV,l8,_,_,bX.1,bX.2,rfl,qc.1,qc.2,by have:=e.zt;omega,pg,h7,ge.1,ge.2,(λ z=>absurd (z.gb (pX S.fs) ge.1 ge.2) .aD),λ Yq bP aY hl t H' W8 k2 gJ vW aU ie=>?_];obtain ⟨Xp,Gs,ZW⟩:=W8.facts (pX S.fs) ge.1 ge.2;obtain rfl:=aef aG Xp aS Xz Gs ZW;rw [aS] at Gs;cases Gs;have Ve:=q7 (pX S.fs) ge.1 ge.2 aS;exact q H' _ _ _ k2 rfl (key k2 (by rw [br];exact aU) ie ((d.D.eA ((cI.qz k2).eA jR)).put (e:=(r,bX.2+(Yq:Int))) #[hl,aY,rfl,vW,gJ]) (JP d.pm x _) (gt.put (ND .aA) Ve (.inl (by rw [kO];exact λ z=>nomatch z))) (λ c ak=>Ri gt.1 ak) λ h=>by rw [kO] at h;cases h)
 ·have gl:=af_ ay av;obtain ⟨⟨ba,_⟩,hw⟩:o7 H (.str x)/\dg H (.ref l8):=by
   rcases hd with ⟨_,ah,ai⟩ | ⟨h,_⟩ | ⟨h,_⟩ | ⟨h,_⟩
   ·exact #[ah,ai]
   ·exact absurd h .aA
   ·exact absurd h .aA
   ·exact absurd h .aA
  refine .inl #[rfl,S.bn,S.pr,S.hd,S.dl,kvs,hJ ls,.str x,.ref l8,rfl,B,.aD,e_,ba,hw,(λ h=>by rw [yK] at h;cases h),(λ _ h=>by rw [av] at h;cases h),(λ e7 ex _ _ lJ jM=>?_),λ e7 a2 pj ex _ eN gc fP kd _ t cV H' k2 pg aU ie=>?_]
  ·cases ex;exfalso;rcases sv with z | z
   ·rw [<-j5] at z;cases a6:d2 aQ x with
    | none=>exact z a6
    | some bX =>
     obtain ⟨u,br,_⟩:=d.D.some a6;rw [br] at lJ;cases lJ
   ·have:=d.D.len;have:=d.pm.length_eq;omega
  cases ex;cases eN;rw [ay] at gc;have FJ:pj=B_:=by injection gc with z;injection z with z;exact (List.map_inj_right (λ _ _ h=>by injection h)).mp z.symm
  subst FJ;have kt:=(cI.qz k2).eA jR;exact q H' _ _ _ k2 rfl (key k2 aU ie ((d.D.eA kt).put (e:=(pj,0)) #[cV,l8,rfl,pg,kt _ _ ay]) (JP d.pm x _) (gt.put (ND .aA) gl sv) (λ c ak=>Ri gt.1 ak) λ h=>ahG gt.1 h)
theorem Ev.aba (e:Ev T bx S pt) (k:cI (fa S pt) bx H) (d:gY bx H S f5 kvs aQ ls) (aF:ls.length<=n) (ni:n<=900) (jO:H cz=some (.tup [.str way,v,bC])) (hd:lT H way v bC) (br:way ≠ "undo") {x:Str} (vy:ui (iU ls) H way v bC x) (q : ∀ H',aE H H'->Q (.str x) H'):u7 T [.ref S.bn,.ref cz] H Q E:=by
 have gt:=d.st.good;have jE:=gt.perm d.pm;have B:=e.bn k d;have Gw:kvs.length<=12:=by rw [d.D.len];exact jE.2.1
 have e_:(hJ ls).length<=1000:=by rw [C8];omega
 have nm:=(hd.nm br).1;refine e.told k jO ?_;have lJ : ∀ {x:Str},fD v=false\/CV (iU ls) v=none->v=.str x->dU kvs (cF x)=none:=by
  intro x h ev;subst ev;refine d.D.none ?_;rw [D8 d.pm jE.1 x];rcases h with h | h
  ·cases av:d2 (iU ls) x with
   | none=>rfl
   | some bX =>
    have:=(gt.2.2 (x,bX) (u3 av)).1.1;rw [h] at this;cases this
  ·exact h
 have PR:fD v=false\/CV (iU ls) v=none->la kvs v=none:=λ h=>by
  cases v with
  | str x=>exact lJ h rfl
  | _=>rfl
 rcases vy with ⟨rfl,h⟩ | ⟨rfl,ah,rfl,aH⟩ | ⟨rfl,ah,rfl,aH,a4,b4⟩
 ·rcases hd with ⟨rfl,_,hw⟩ | ⟨rfl,_,m,rfl,m0,ig⟩ | ⟨rfl,_,_⟩ | ⟨z,_⟩
  ·have hf:fD v=false:=h.resolve_right λ z=>z.1 rfl
   exact .inl #[rfl,S.bn,S.pr,S.hd,S.dl,kvs,hJ ls,v,bC,rfl,B,.aD,e_,nm,hw,λ _ H1 s1=>gB.name T λ au s2=>q au (s1.trans s2),(λ z=>by rw [hf] at z;cases z),(λ e7 ex z=>by rw [hf] at z;cases z),λ e7 a2 pj ex z=>by rw [hf] at z;cases z]
  ·have hf:=PR (h.imp id And.right);exact .inr (.inl #[rfl,S.bn,S.pr,S.hd,S.dl,kvs,hJ ls,v,m,rfl,B,.aD,e_,nm.1,m0,.aD,(λ _=>gB.name T λ au s2=>q au s2),λ x u ex ba=>by subst ex;rw [show dU kvs (cF x)=none from hf] at ba;cases ba])
  ·have hf:=PR (h.imp id And.right);exact .inr (.inr (.inl #[rfl,S.bn,S.pr,S.hd,S.dl,kvs,hJ ls,v,rfl,B,.aD,e_,nm.1,(λ _=>gB.name T λ au s2=>q au s2),λ x u ex ba=>by subst ex;rw [show dU kvs (cF x)=none from hf] at ba;cases ba]))
  ·exact absurd z br
 ·have hw:dg H bC:=by
   rcases hd with ⟨_,_,ai⟩ | ⟨h,_⟩ | ⟨h,_⟩ | ⟨h,_⟩
   ·exact ai
   ·exact absurd h .aA
   ·exact absurd h .aA
   ·exact absurd h .aA
  refine .inl #[rfl,S.bn,S.pr,S.hd,S.dl,kvs,hJ ls,v,bC,rfl,B,.aD,e_,nm,hw,(λ z=>by rw [ah] at z;cases z),λ _ _ H1 s1=>gB.abY T λ au s2=>q au (s1.trans s2),(λ e7 ex _ z=>by rw [aH] at z;cases z),λ e7 a2 pj ex _ eN gc fP kd=>?_];subst eN;unfold gy at aH;rw [kx gc] at aH;exfalso;have M6:(decide ((pj.map V.int).length=10)&&(pj.map V.int).all gK&&(pj.map V.int).all jU)=false:=aH;rw [cc (by rw [bY];exact fP),show (pj.map V.int).all gK=true from gT.mpr λ y aT=>by obtain ⟨i,ax,rfl⟩:=e3.mp aT;exact cc (kd i ax).1,show (pj.map V.int).all jU=true from gT.mpr λ y aT=>by obtain ⟨i,ax,rfl⟩:=e3.mp aT;exact cc (kd i ax).2] at M6;cases M6
 ·have hw:dg H bC:=by
   rcases hd with ⟨_,_,ai⟩ | ⟨h,_⟩ | ⟨h,_⟩ | ⟨h,_⟩
   ·exact ai
   ·exact absurd h .aA
   ·exact absurd h .aA
   ·exact absurd h .aA
  refine .inl #[rfl,S.bn,S.pr,S.hd,S.dl,kvs,hJ ls,v,bC,rfl,B,.aD,e_,nm,hw,(λ z=>by rw [ah] at z;cases z),(λ _ z=>by rw [aH] at z;cases z),λ _ _ _ _ _ _ H1 s1=>gB.many T λ au s2=>q au (s1.trans s2),λ e7 a2 pj ex _ eN gc fP kd sv=>?_];exfalso;rcases sv with z | z
  ·exact z (lJ (.inr a4) ex)
  ·have:=d.D.len;have:=d.pm.length_eq;omega
theorem Ev.aa_ (e:Ev T bx S pt) (k:cI (fa S pt) bx H) (d:gY bx H S f5 kvs aQ []) (jO:H cz=some (.tup [.str "undo", v,bC])) (q : ∀ H',aE H H'->Q (.str "deed") H'):u7 T [.ref S.bn,.ref cz] H Q E:=by
 have jE:=(d.st.good).perm d.pm;have Gw:kvs.length<=12:=by rw [d.D.len];exact jE.2.1
 refine e.told k jO (.inr (.inr (.inr #[rfl,S.bn,S.pr,S.hd,S.dl,kvs,hJ [],rfl,e.bn k d,.aD,λ _=>gB.Cs T λ au s2=>q au s2,λ kb u eq=>?_])));exact absurd (show ([]:bl)=kb++[u] from eq) .zs
theorem Ev.abc (e:Ev T bx S pt) (k:cI (fa S pt) bx H) {l:hV} (d:gY bx H S (hK S.cG ls) kvs aQ (l::ls)) (aF:ls.length<=n) (jO:H cz=some (.tup [.str "undo", v,bC])) (q : ∀ H',jI S.hd S.dl H H'->Mf bx H' S n->Q .bh H'):u7 T [.ref S.bn,.ref cz] H Q E:=by
 have jE:=(d.st.good).perm d.pm;have Gw:kvs.length<=12:=by rw [d.D.len];exact jE.2.1
 obtain ⟨lo,st⟩:=d.st;have jR:=e.Pg d;refine e.told k jO (.inr (.inr (.inr #[rfl,S.bn,S.pr,S.hd,S.dl,kvs,hJ (l::ls),rfl,e.bn k d,.aD,(λ z=>absurd (show hJ ls++[V.ref l.t]=[] from z) .zs),λ kb u eq=>?_])));obtain ⟨rfl,EM⟩:=List.append_inj' (show hJ ls++[V.ref l.t]=kb++[u] from eq) rfl;obtain rfl:V.ref l.t=u:=by simpa using EM
 refine #[l.t,l.x,l.w,rfl,lo.aU,?_,λ H' k2 ie=>?_]
 ·have rV:=lo.rV;cases av:d2 (iU ls) l.x with
  | none =>
   rw [av] at rV;refine .inl #[rV,?_];obtain ⟨bX,kO⟩:=lo.aB av;obtain ⟨u,br,_⟩:=d.D.some ((D8 d.pm jE.1 l.x).trans kO);exact #[u,br]
  | some bX =>
   rw [av] at rV;obtain ⟨cV,_,rJ,_⟩:=rV;exact .inr #[cV,rJ]
 ·have kt:=(cI.qz k2).eA jR;exact q H' k2 #[_,_,ls,aF,e.Cs d k2 ie ((d.D.eA kt).hold (lo.rV.eA kt)) (lo.un aQ d.pm) (st.f6 (cI.qz k2) jR)]
theorem Ev.Qd (e:Ev T bx S pt) (k:cI (fa S pt) bx H) (d:gY bx H S (hK S.cG ls) kvs aQ ls) (aF:ls.length<=n) (q : ∀ H',(∀ c o,c≠qU S.cG ls->H c=some o->H' c=some o)->cI (fa S pt) bx H'->gY bx H' S (hK S.cG ls) kvs aQ ls->Q (.aX true) H'):TA T [.ref S.bn,.ref (qU S.cG ls)] H Q E:=by
 have gt:=d.st.good;have jE:=gt.perm d.pm;have kG:=d.st.top d.cG;refine #[S.bn,S.pr,S.hd,S.dl,qU S.cG ls,kvs,CJ ls,aQ,iU ls,hJ ls,rfl,e.bn k d,d.D,kG,d.st.dict,d.pm,jE.1,by have:=jE.2.1;omega,d.st.apart e.qy e.v8,λ p aw=>(jE.2.2 p aw).2.1,λ H' bf Y4=>?_];have f6 : ∀ {M:List Addr},cI M H H':=λ {M} c o _ h=>by
  by_cases ak:c=qU S.cG ls
  ·rw [ak];exact .inr #[_,kG,Y4]
  ·exact .inl (bf c o ak h)
 exact q H' bf (k.trans f6) (d.f6 (M:=[]) f6 (λ _ h=>by cases h) (λ _ _ h=>by cases h) (bf _ _ (ek (d.st.apart e.qy e.v8)) d.hd))
end
noncomputable def ai0 (T:bB K mg):b3:=λ vs H Q _ => ∃ (bn pr hd dl aL:Addr) (kvs:List (Key×V)) (ds:bl) (i:Int) (v:V),vs=[.ref bn,.int i,v]/\H bn=some (.ins T.gV aL [("program", .ref pr),("held", .ref hd),("deeds", .ref dl)])/\fF T H bn pr hd dl kvs ds/\kvs.length<=100/\ds.length<=1000/\dV H v/\la kvs v=none /\ ∀ H',aE H H'->Q (.str "name") H'
theorem aiR (T:bB K mg):c8 P w mg base cS 9 T.Te (ai0 T):=by
 refine T.Te.fn.en TY (λ vs H Q E h=>?_) (λ bg A outer s H vs Q E aq h=>?_)
 ·obtain ⟨bn,pr,hd,dl,aL,kvs,ds,i,v,rfl,_⟩:=h;rfl
 ·obtain ⟨bn,pr,hd,dl,aL,kvs,ds,i,v,rfl,ae,B,aG,e_,k,lJ,q⟩:=h;refine #[_,(aN (I2 (E:=(gB T Q)) (i:=3) rfl rfl rfl T.Kw (by rfl) TY.c6 rfl rfl (λ _ _ kJ=>(aR (cN (ct eS (af 1) aI (bS _))
    (aR (gi (gX (af 0) T.d8 T.l2.at_ (xp T) (aq.mono .aA) T.l2.bd .nil (pE rfl kJ) (aa (af 2) ao))))
    (aR (cN (ct eS (af 1) aI (bS _))
    (aR (gi (gX (af 0) T.d8 T.pZ.at_ (Ej T) (aq.mono .aA) T.pZ.bd .nil (pE rfl kJ) (aa (af 2) ao))))
    (aR (cN (ct eS (af 1) aI (bS _))
    (aR (gi (gX (af 0) T.d8 T.xe.at_ (TR T) (aq.mono .aA) T.xe.bd .nil (pE rfl kJ) (aa (af 2) (aa aI ao)))))
    (aR (gi (gX (af 0) T.d8 T.xg.at_ (T_ T) (aq.mono .aA) T.xg.bd .nil (pE rfl kJ) (aa (af 2) ao)))))))))))
    (λ _=>(aR (bE (Jk (KU T) ((aq.mark _).mono .aA) rfl T.nL.at_ T.nL.fn.bf T.nL.bd (aa (af 3) ao))))))
   (aR (bE e2))),?_]
  have Bc:gB T Q (.ref T.ff) none H:=gB.name T λ au s2=>q au s2
  have no : ∀ {u:V} {G:Prop},la kvs v=some u->G:=λ h=>by rw [lJ] at h;cases h
  have NY : ∀ {x:Str} {u:V} {G:Prop},v=.str x->dU kvs (cF x)=some u->G:=λ e h=>by subst e;rw [show dU kvs (cF _)=none from lJ] at h;cases h
  refine #[#[_,rfl,rfl,_,rfl,eJ (λ _=>?_) (λ _=>#[_,rfl,rfl,_,rfl,eJ (λ _=>?_) (λ _=>#[_,rfl,rfl,_,rfl,eJ (λ _=>?_) (λ _=>?_)])])],?_]
  ·exact #[_,rfl,bn,aL,_,rfl,ae,rfl,_,rfl,bn,pr,hd,dl,kvs,ds,v,rfl,B,k,λ _=>Bc,λ u br=>no br]
  ·exact #[_,rfl,bn,aL,_,rfl,ae,rfl,_,rfl,bn,pr,hd,dl,kvs,ds,v,rfl,B,k,λ _=>Bc,λ u br=>no br]
  ·exact #[_,rfl,bn,aL,_,rfl,ae,rfl,_,rfl,bn,pr,hd,dl,kvs,ds,v,1,rfl,B,aG,e_,k,.aA,.aA,λ _=>Bc,λ x u e br=>NY e br]
  ·exact #[_,rfl,bn,aL,_,rfl,ae,rfl,_,rfl,bn,pr,hd,dl,kvs,ds,v,rfl,B,aG,e_,k,λ _=>Bc,λ x u e br=>NY e br]
  ·rintro C d H1 ⟨rfl,Es,i,x,eP,xO,ax,aj,un,q⟩;cases eP;exact #[un,λ e σ1 he hσ=>#[_,sC hσ,e,C,i,x,rfl,bL,xO,ax,aj,λ H' s'=>q H' ((aE.new he).trans s')]]
noncomputable def agH (T:bB K mg):b3:=λ vs H Q E => ∃ (bn aL:Addr) (v:V),vs=[.ref bn,v]/\H bn=some (.ins T.gV aL [])/\kW H v/\jr H v=false /\ ∀ H',aE H H'->E (.ref T.gD) none H'
theorem aju (T:bB K mg):c8 P w mg base (iL P w) 5 T.nN (agH T):=by
 refine T.nN.fn.ph Ug (λ vs H Q E h=>?_) (λ bg A outer s H vs Q E aq h=>?_)
 ·obtain ⟨bn,aL,v,rfl,_⟩:=h;rfl
 ·obtain ⟨bn,aL,v,rfl,ae,ba,aw,q⟩:=h;refine #[_,(aN (cN (gM (eu (bR (Uc T) aq bD (aa (af 1) ao))))
    (aR (u0 rb rfl rfl T.ah_ (by rfl) (aa ck ao)))
    cB)
   (aN (wK (af 0) (af 1) rfl)
   (aN (wK (af 0) adg rfl)
   (aR (wK (af 0) (eK ao) rfl))))),?_]
  refine #[_,rfl,v,rfl,ba,λ H1 s1=>#[_,rfl,?_]];rw [aw];exact cA #[bo,q H1 s1]
theorem ahV {v:V} (h:kW H v) (s:aE H H'):jr H' v=jr H v:=by
 unfold jr;rw [aE.dR s h.1];cases b0:dR H v with
 | none=>rfl
 | some xs =>
  have:xs.all (eR H')=xs.all (eR H):=by
   rw [sE,gT,gT];have e : ∀ x∈xs,eR H' x=eR H x:=λ x aj=>by
    unfold eR;rw [aE.dR s ((h.2 xs b0).2 x aj).1]
   exact #[λ z x aj=>by rw [<-e x aj];exact z x aj,λ z x aj=>by rw [e x aj];exact z x aj]
  show (_&&_&&xs.all (eR H'))=(_&&_&&xs.all (eR H));rw [this]
noncomputable def agL:b3:=λ vs H Q _ => ∃ v:V,vs=[v]/\kW H v/\jr H v=false /\ ∀ H',aE H H'->Q (.str "program") H'
theorem agn (T:bB K mg):c8 P w mg base cS 7 T.Rn agL:=by
 refine T.Rn.fn.en SH (λ vs H Q E h=>?_) (λ bg A outer s H vs Q E aq h=>?_)
 ·obtain ⟨v,rfl,_⟩:=h;rfl
 ·obtain ⟨v,rfl,ba,aw,q⟩:=h;refine #[_,(aN (I2 (E:=(gB T Q)) (i:=1) rfl rfl rfl T.Kw (by rfl) SH.c6 rfl rfl (λ _ _ kJ=>(aR (gi (DJ T.nN.at_ (aju T) (aq.mono .aA) rfl T.DF T.nN.bd .nil (pE rfl kJ) (aa (af 0) ao)))))
    (λ _=>(aR (bE (Jk (KU T) ((aq.mark _).mono .aA) rfl T.nL.at_ T.nL.fn.bf T.nL.bd (aa (af 1) ao))))))
   (aR (bE e2))),?_]
  refine #[#[_,rfl,λ bn aL kC fd c6=>?_],?_]
  ·have p4:aE H (upd (upd H aL (.own bn)) bn (.ins T.gV aL [])):=λ c o e=>by
    rw [bj (cf e kC),bj (cf e fd)];exact e
   exact #[bn,aL,v,rfl,bL,(kX.of p4).kW ba,by rw [ahV ba p4];exact aw,λ H' s'=>#[rfl,T.gD,6, "program", rfl,aiG T,.aA,rfl,T.aia,λ au s2=>q au ((p4.trans s').trans s2)]]
  ·rintro C d H1 ⟨rfl,Es,i,x,eP,xO,ax,aj,un,q⟩;cases eP;exact #[un,λ e σ1 he hσ=>#[_,sC hσ,e,C,i,x,rfl,bL,xO,ax,aj,λ H' s'=>q H' ((aE.new he).trans s')]]
theorem J4 {T:bB K mg} {R:az->Prop} {bn:Addr} (aw:H pr=some (.tup xs)) (ah:1<=xs.length) (yj:xs.length<=16) (hf : ∀ x∈xs,lX H x)
  (r : ∀ hd dl H',aE H H'->H hd=none->H dl=none->fF T H' bn pr hd dl [] []->R H') (kC:H bn=none) (fd:H aL=none):RS T [.ref bn,.ref pr] (upd (upd H aL (.own bn)) bn (.ins T.gV aL [])) (λ v H'=>v=.bh/\R H') iC:=by
 have p4:aE H (upd (upd H aL (.own bn)) bn (.ins T.gV aL [])):=λ cq o e=>by
  rw [bj (cf e kC),bj (cf e fd)];exact e
 refine #[bn,aL,pr,xs,rfl,bL,p4 _ _ aw,ah,yj,λ x aj=>?_,λ hd dl hB i9 FR BA US=>#[rfl,?_]]
 ·obtain ⟨c,i,j,e,ak,f⟩:=hf x aj;exact #[c,i,j,e,p4 _ _ ak,f]
 ·exact r hd dl hB (λ cq o e=>i9 _ _ (cf e kC) (p4 _ _ e)) (p4.free FR) (p4.free BA) US
structure ll (T:bB K mg) (H:az) (bn pr hd dl w a:Addr) (ag:aV) (k:Int) (ds:bl):Prop where
 bn:fF T H bn pr hd dl [(cF "a", .ref w)] ds
 hw:H w=some (.tup [.ref a,.int k])
 ay:H a=some (tupI ag)
theorem ll.same {T:bB K mg} {bn hd dl w a:Addr} {ag:aV} {k:Int} {ds:bl} (b:ll T H bn pr hd dl w a ag k ds) (s:aE H H'):ll T H' bn pr hd dl w a ag k ds:=#[b.bn.same s,s _ _ b.hw,s _ _ b.ay]
section
variable {T:bB K mg} {bn hd dl w a cz:Addr} {ag:aV} {k:Int} {ds:bl} {Q:bG} {E:dA}
theorem ll.pow (b:ll T H bn pr hd dl w a ag k ds) (q:Q (.ref a) H):RT T [.ref bn,.str "a"] H Q E:=#[bn,pr,hd,dl,_,ds,.str "a", rfl,b.bn,trivial,(λ h=>by cases h),λ u br=>by cases br;exact #[w,_,_,rfl,b.hw,q]]
theorem ll.gone (b:ll T H bn pr hd dl w a ag k ds) (q:Q (.int k) H):SJ T [.ref bn,.str "a"] H Q E:=#[bn,pr,hd,dl,_,ds,.str "a", rfl,b.bn,trivial,(λ h=>by cases h),λ u br=>by cases br;exact #[w,_,_,rfl,b.hw,q]]
theorem aaE:x4 ("a" : Str)/\("a" : Str).length<=1000/\fD (.str "a")=true:=by
 have e:(((fu ("a" : Str)).all λ c=>decide (c<128))&&decide (("a" : Str).length<=1000)&&fD (.str "a"))=true:=by decide +kernel
 rw [jA,jA] at e;exact #[λ c ak=>eT (gT.mp e.1.1 c ak),eT e.1.2,e.2]
theorem PZ (B:fF T H bn pr hd dl [] []) (ay:H a=some (tupI ag)) (ji:ag.length=10) (ae : ∀ i∈ag,0<=i/\i<=1000000) (q : ∀ w t H',jI hd dl H H'->H' t=some (.tup [.str "a", .bh])->ll T H' bn pr hd dl w a ag 0 [.ref t]->Q .bh H'):DV T [.ref bn,.str "a", .ref a] H Q E:=by
 obtain ⟨a1,a2,m2⟩:=aaE;have av:gy H (.ref a)=true:=by
  unfold gy;rw [kx ay];show (decide ((ag.map V.int).length=10)&&(ag.map V.int).all gK&&(ag.map V.int).all jU)=true;rw [cc (by rw [bY];exact ji),show (ag.map V.int).all gK=true from gT.mpr λ y aT=>by obtain ⟨i,ax,rfl⟩:=e3.mp aT;exact cc (ae i ax).1,show (ag.map V.int).all jU=true from gT.mpr λ y aT=>by obtain ⟨i,ax,rfl⟩:=e3.mp aT;exact cc (ae i ax).2];rfl
 refine #[bn,pr,hd,dl,[],[],.str "a", .ref a,rfl,B,.aA,.aA,#[trivial,λ x e=>by cases e;exact #[a1,a2]],lh ay (by rw [bY];omega) (λ x aj=>by obtain ⟨i,_,rfl⟩:=e3.mp aj;trivial),(λ h=>by rw [m2] at h;cases h),(λ _ h=>by rw [av] at h;cases h),(λ x _ _ _ _ h=>by cases h),λ x l8 B_ ex _ eN h7 _ _ _ t w H' k2 hw aU ie=>?_];cases ex;cases eN;rw [ay] at h7;have FJ:B_=ag:=by injection h7 with z;injection z with z;exact (List.map_inj_right (λ _ _ h=>by injection h)).mp z.symm
 subst FJ;refine q w t H' k2 aU #[ie,hw,k2 _ _ (cW ay B.hd nofun) (cW ay B.dl nofun) ay]
theorem ll.run {fs:f_} (b:ll T H bn pr hd dl w a ag k ds) (e_:ds.length<=900) (nk:H pr=some (.tup xs)) (hf:h_ H xs fs) (av:xs.length<=16) (aw:ag.length=10) (aF:nn ag=true) (jO:H cz=some (.tup [.str "run", .str "a", .int m])) (m0:0<=m) (ig:m<2 ^ 62)
  (E2:sr (rowsOf fs) ag m.toNat -> ∀ H',aE H H'->Q (.str "many") H')
  (Vw : ∀ (j:Nat) r,sq (rowsOf fs) ag m.toNat j r -> ∀ (cV l8 t:Addr) H',jI hd dl H H'->ll T H' bn pr hd dl cV l8 r (k+(j:Int)) (ds++[.ref t])->H' t=some (.tup [.str "a", .ref w])->Q (.int (j:Int)) H'):u7 T [.ref bn,.ref cz] H Q E:=by
 obtain ⟨aL,ae⟩:=b.bn.at_;refine #[bn,cz,aL,_, "run", .str "a", .int m,rfl,jO,ae,by rfl,by rfl,by rfl,by rfl,.inr (.inl #[rfl,bn,pr,hd,dl,_,ds,.str "a", m,rfl,b.bn,.zs,.aD,trivial,m0,ig,(λ h=>by cases h),λ x u ex ba=>?_])];cases ex;cases ba;exact #[w,a,xs,fs,ag,k,rfl,nk,hf,.aD,b.hw,b.ay,aw,aF,λ M H1 s1=>gB.many T λ au s2=>E2 M au (s1.trans s2),λ j r aY cV t H' kE k2 gJ pg aU ie=>Vw j r kE cV aY t H' k2 #[ie,pg,gJ] aU]
theorem ll.aaB {gH EF t:Addr} {N9:aV} {k0:Int} (b:ll T H bn pr hd dl w a ag k (ds++[.ref t])) (aU:H t=some (.tup [.str "a", .ref gH])) (hw:H gH=some (.tup [.ref EF,.int k0])) (ay:H EF=some (tupI N9)) (q : ∀ H',jI hd dl H H'->ll T H' bn pr hd dl gH EF N9 k0 ds->Q .bh H'):D6 T [.ref bn] H Q E:=by
 refine #[bn,pr,hd,dl,_,_,rfl,b.bn,.zs,(λ h=>by simp at h),λ kb u eq=>?_];obtain ⟨rfl,EM⟩:=List.append_inj' eq rfl;obtain rfl:V.ref t=u:=by simpa using EM
 have kt : ∀ {c:Addr} {xs:bl} {H':az},jI hd dl H H'->H c=some (.tup xs)->H' c=some (.tup xs):=λ k2 h=>k2 _ _ (cW h b.bn.hd nofun) (cW h b.bn.dl nofun) h
 exact #[t, "a", .ref gH,rfl,aU,.inr #[gH,rfl],λ H' k2 ie=>q H' k2 #[ie,kt k2 hw,kt k2 ay]]
end
theorem aa6 {a b c d e:de} {D:Ends} (h : ∀ r:de,r=e->iS a (iS b (iS c (iS d r))) D σ H):iS a (iS b (iS c (iS d e))) D σ H:=h e rfl
noncomputable def afd:b3:=λ vs H Q _ => ∃ (pt:Addr) (n:Int),vs=[.ref pt]/\H pt=some (.lst [.int n]) /\ ∀ b1 H',bN pt H H'->H' pt=some (.lst [.int b1])->Q (.aX true) H'
theorem ajy (T:bB K mg):c8 P w mg base cS 10 T.T6 afd:=by
 refine T.T6.fn.en AJ (λ vs H Q E h=>?_) (λ bg A outer s H vs Q E aq h=>?_)
 ·obtain ⟨pt,n,rfl,_⟩:=h;rfl
 ·obtain ⟨pt,n,rfl,kg,q⟩:=h;refine #[_,(aN (bV 1 AJ (bU kq (bU uK aI aI) (bR (gC T) aq bD (aa (af 0) (aa (bU uK aI aI) ao)))))
   (aN (bV 2 AJ (DJ T.nN.at_ (KW T) (aq.mono .aA) rfl T.DF T.nN.bd .nil bD (aa (dh (aa (dh (aa aI (aa aI ao))) (aa (dh (aa aI (aa aI ao))) ao))) ao)))
   (aN (gi (gX (af 2) T.d8 T.tg.at_ (KA T) (aq.mono .aA) T.tg.bd .nil ow (aa ck (aa (bU rq (dh (aa aI ao)) (bU rr (dh (aa aI ao)) aI)) ao))))
   (aN (hu fU rfl (w1 (eK (aa aI (aa (af 1) ao)))) (d7 3 AJ)
    (aR (cN (ct iW (bR (xq T) aq bD (aa (af 2) (aa (dh (aa ck (aa ck (aa (af 3) ao)))) ao))) ck (bS _))
    (aR (bE gz))
    cB)))
   (aN (cN (eD.pt (gA (ct (Im (lb aq)) (gX (af 2) T.d8 T.l2.at_ (xp T) (aq.mono .aA) T.l2.bd .nil ow (aa ck ao)) (bU rq (dh (aa aI ao)) (bU rr (dh (aa aI ao)) aI)) (bS _)) (hv (gM (eu (bR (D5 T) aq bD (aa (bR (xq T) aq bD (aa (af 2) (aa (dh (aa ck (aa ck (aa aI ao)))) ao))) (aa aI ao))))))))
    (aR (bE gz))
    cB)
   (aN (cN (eD.pt (gA (ct (Im (lb aq)) (gX (af 2) T.d8 T.l2.at_ (xp T) (aq.mono .aA) T.l2.bd .nil ow (aa ck ao)) (bU rq (dh (aa aI (aa aI ao))) (bU rr (dh (aa aI ao)) aI)) (bS _)) (hv (ct iW (gX (af 2) T.d8 T.pZ.at_ (Ej T) (aq.mono .aA) T.pZ.bd .nil ow (aa ck ao)) aI (bS _)))))
    (aR (bE gz))
    cB)
   (aN (bV 2 AJ (DJ T.nN.at_ (KW T) (aq.mono .aA) rfl T.DF T.nN.bd .nil bD (aa (dh (aa (dh (aa aI (aa aI ao))) ao)) ao)))
   (aN (gi (gX (af 2) T.d8 T.tg.at_ (KA T) (aq.mono .aA) T.tg.bd .nil ow (aa ck (aa (bU rr (dh (aa aI ao)) aI) ao))))
   (aN (cN (eD.pt (gA (gM (eu (bR (D5 T) aq bD (aa (bR (xq T) aq bD (aa (af 2) (aa (dh (aa ck (aa ck (aa (af 1) ao)))) ao))) (aa (af 1) ao))))) (hv (ct (Im (lb aq)) (gX (af 2) T.d8 T.l2.at_ (xp T) (aq.mono .aA) T.l2.bd .nil ow (aa ck ao)) (bU rq (dh (aa (af 1) ao)) (bU rr (dh (aa aI ao)) aI)) (bS _)))))
    (aR (bE gz))
    cB)
   (aN (gi (DT (af 2) T.d8 T.xi.at_ (Ub T) (aq.mono .aA) T.xi.bd .nil ow))
   (aR (bE (jy (hy eS (gX (af 2) T.d8 T.pZ.at_ (Ej T) (aq.mono .aA) T.pZ.bd .nil ow (aa ck ao)) aI (bS _)) (i0 (hy (abH (lb aq)) (gX (af 2) T.d8 T.l2.at_ (xp T) (aq.mono .aA) T.l2.bd .nil ow (aa ck ao)) (bU rr (dh (aa aI ao)) aI) (bS _)))))))))))))))),?_]
  refine aa6 λ bJ bb=>?_
  refine #[_,_,rfl,rfl,#[.aA,.aA,.aA],_,rfl,_,_,rfl,rfl,#[.aA,.aA,.aA],pt,n,_,rfl,kg,.aA,.aA,λ c cC H1 xG gn e4 iu=>#[_,_,rfl,rfl,?_]];have akL:c<1000000:=by
   have Ms:(10:Int) ^ (6:Int).toNat=1000000:=by decide
   have ah:c<(10:Int) ^ (6:Int).toNat:=gn;omega
  have MZ:(10:Int) ^ (18:Int).toNat=1000000000000000000:=by decide
  obtain ⟨gb,Hx⟩ : ∃ gb:Int,gb=(10:Int) ^ (18:Int).toNat - c:=#[_,rfl]
  show iS _ _ _ (List.set _ 1 (some (.int ((10:Int) ^ (18:Int).toNat - c)))) H1;rw [<-Hx];rw [MZ] at Hx;have Wi:2001<=gb:=by omega
  have M3:gb<2 ^ 62:=by omega
  clear Hx MZ;refine #[bo,λ t1 Ez g1 s1 ah=>#[bo,λ bw EA g2 s2 ai=>#[bo,λ pr rB g3 s3 aH=>?_]]];have Wm : ∀ x∈[V.ref t1,V.ref bw],lX rB x:=λ x aj=>by
   simp only [c1,fR,fS] at aj;rcases aj with rfl | rfl
   ·exact #[t1,3,2,rfl,s3 _ _ (s2 _ _ ah),by decide +kernel]
   ·exact #[bw,2,3,rfl,s3 _ _ ai,by decide +kernel]
  have OC:h_ rB [V.ref t1,V.ref bw] wu:=#[rfl,λ i x aj=>by
   rcases i with _ | _ | i
   ·cases aj;exact #[3,2,t1,rfl,rfl,s3 _ _ (s2 _ _ ah),by decide +kernel]
   ·cases aj;exact #[2,3,bw,rfl,rfl,s3 _ _ ai,by decide +kernel]
   ·cases aj]
  refine λ bn aL kC fd c6=>J4 (xs:=[.ref t1,.ref bw]) aH .zs .zs Wm (λ hd dl bc s4 f1 f2 rz=>?_) kC fd
  obtain ⟨FH,BE⟩:=rz.at_;refine #[_,rfl,bn,FH,_,rfl,BE,rfl,bo,λ h6 bW hh s5 b4=>#[bo,λ j_ dO p8 b_ dM=>#[j_,9,_,rfl,rfl,dM,.zs,.aA,.aA,bo,λ me dv g0 cL hF=>#[h6,me,_,_,rfl,rfl,cL _ _ (b_ _ _ b4),hF,bo,λ a fg dp fA=>?_]]]];have F_:fg a=some (tupI iR):=fA;have pk:aE bc fg:=((s5.trans b_).trans cL).trans dp;dsimp only [dI];refine PZ (rz.same pk) F_ rfl .aA λ w t hB vq Ny i9=>?_
  have alO:pr≠hd:=cf aH f1;have alN:pr≠dl:=cf aH f2;have wo : ∀ {c:Addr} {ys:bl},rB c=some (.tup ys)->hB c=some (.tup ys):=λ {c ys} h=>vq _ _ (cf h f1) (cf h f2) (pk _ _ (s4 _ _ h))
  have M5 : ∀ {H':az},(∀ {c:Addr} {ys:bl},rB c=some (.tup ys)->H' c=some (.tup ys))->H' pr=some (.tup [.ref t1,.ref bw])/\h_ H' [V.ref t1,V.ref bw] wu:=λ {H'} h=>#[h aH,OC.1,λ i x aj=>by
   obtain ⟨j6,jF,cq,aM,aO,el,l9⟩:=OC.2 i x aj;exact #[j6,jF,cq,aM,aO,h el,l9]]
  refine #[_,rfl,bo,λ l qi akZ Ol ji=>#[l,rfl,#[_,a9.of ji],RA (K:=K) (a:=l) (xs:=[.int 2001,.int gb]) (λ i σ AU=>(∃ u:dG,σ=[some (.ref pt),some (.int gb),some (.ref bn),u])/\aE qi AU) #[#[_,rfl],aE.refl _] (λ i σ AU _ ⟨_,s'⟩=>a9.of (s' _ _ ji)) ?_ ?_]]
  ·rintro i x σ AU aj ⟨⟨u,rfl⟩,Bd⟩;obtain ⟨m,rfl,ly,EV⟩ : ∃ m:Int,x=.int m/\2001<=m/\m<2 ^ 62:=by
    rcases i with _ | _ | i
    ·cases aj;exact #[_,rfl,.aA,.aA]
    ·cases aj;exact #[_,rfl,Wi,M3]
    ·cases aj
   refine #[_,rfl,_,rfl,bo,λ cz o6 Wu ua vO=>?_];dsimp only [dI];have Pt:aE hB o6:=(Ol.trans Bd).trans ua;obtain ⟨aam,Hu⟩:=M5 λ h=>Pt _ _ (wo h)
   refine (i9.same Pt).run (fs:=wu) .zs aam Hu .zs rfl .aA vO .aD EV (λ M H' s'=>#[rfl,_,rfl,?_]) (λ j r kE=>?_)
   ·rw [cc rfl];exact bA #[#[_,rfl],Bd.trans (ua.trans s')]
   ·obtain ⟨_,z,_⟩:=kE.unit (pX _) rfl .aA R1;omega
  rintro σ vE ⟨⟨u,rfl⟩,nt⟩;subst bb;have Pr:=Ol.trans nt;have hW:=i9.same Pr;obtain ⟨Ht,px⟩:=hW.bn.at_;refine #[_,rfl,bn,Ht,_,rfl,px,rfl,?_];dsimp only [cM,dI,cy];refine hW.pow #[bo,λ v1 VP Wv zg FW=>#[bo,λ v2 Ft Ww Om FX=>#[v2,9,_,rfl,rfl,FX,.zs,.aA,.aA,bo,λ rU akC Wx Oo FY=>#[v1,rU,_,_,rfl,rfl,Oo _ _ (Om _ _ FW),FY,bo,λ e VQ Y7 yj=>?_]]]];have H8:aE vE VQ:=((zg.trans Om).trans Oo).trans Y7;have vL:=hW.same H8;refine #[a,e,iR,iR,rfl,rfl,vL.ay,yj,_,rfl,?_];rw [show (!decide (iR=iR))=false by decide];refine bA ?_;refine #[_,rfl,bo,λ cz ML ak0 Oq FZ=>?_];dsimp only [dI];have HR:aE hB ML:=(Pr.trans H8).trans Oq;have alR:aE qi ML:=(nt.trans H8).trans Oq;obtain ⟨aan,ZE⟩:=M5 λ h=>HR _ _ (wo h)
  refine (i9.same HR).run (fs:=wu) .zs aan ZE .zs rfl .aA FZ .aA .aA (λ M=>absurd (M.gb (pX _) rfl .aA) .aA) (λ j r kE hl a2 OE VR Yp Bs Z2=>?_);obtain ⟨vj,_,rI⟩:=kE.unit (pX _) rfl .aA R1;have FI:j=1999:=vj;have FK:r=pA:=rI;subst FI FK;clear vj rI kE;refine .inl #[_,_,rfl,trivial,rfl,_,rfl,?_];rw [cc (show V.int ((1999:Nat):Int)=V.int 1999 from rfl)];refine bA ?_;obtain ⟨Zz,O1⟩:=Bs.bn.at_;refine #[_,rfl,bn,Zz,_,rfl,O1,rfl,?_];dsimp only [cM,dI,cy];refine Bs.pow #[bo,λ v1 akD Wy Y8 F0=>#[bo,λ v2 akE Wz Ot F2=>#[v2,8,_,rfl,rfl,F2,.zs,.aA,.aA,bo,λ rU akF ak1 Ou F3=>#[v1,rU,_,_,rfl,rfl,Ou _ _ (Ot _ _ F0),F3,bo,λ aO Bk Y9 F4=>?_]]]];have P4:aE VR Bk:=((Y8.trans Ot).trans Ou).trans Y9;have Bt:=Bs.same P4;refine #[a2,aO,pA,pA,rfl,rfl,Bt.ay,F4,_,rfl,?_];rw [show (!decide (pA=pA))=false by decide];obtain ⟨ZA,O2⟩:=Bt.bn.at_;refine bA #[_,rfl,bn,ZA,_,rfl,O2,rfl,?_];dsimp only [cM,dI,cy];refine Bt.gone #[rfl,_,rfl,?_];rw [cc (show V.int (0+((1999:Nat):Int))=V.int 1999 from rfl)];refine bA ?_;have HH : ∀ {c:Addr} {o:e6},rB c=some o->Bk c=some o:=λ {c o} h=>P4 _ _ (Yp _ _ (cf h f1) (cf h f2) (HR _ _ (vq _ _ (cf h f1) (cf h f2) (pk _ _ (s4 _ _ h)))))
  have He:aE H1 rB:=(s1.trans s2).trans s3;have Vn:bN pt H Bk:=λ c o d0 h=>HH (He _ _ (e4 _ _ d0 h))
  have aaM:Bk pt=some (.lst [.int cC]):=HH (He _ _ iu);clear HH He Bt Bs vL hW i9 rz Z2 Ny O2 O1 px BE;refine #[bo,λ nZ Me kD Ov M7=>#[bo,λ alo vc ak2 Cc M8=>?_]];have Wn : ∀ x∈[V.ref nZ],lX vc x:=λ x aj=>by
   rw [eC.mp aj];exact #[nZ,2,1,rfl,Cc _ _ M7,by decide +kernel]
  have OD:h_ vc [V.ref nZ] q6:=#[rfl,λ i x aj=>by
   rcases i with _ | i
   ·cases aj;exact #[2,1,nZ,rfl,rfl,Cc _ _ M7,by decide +kernel]
   ·cases aj]
  refine λ bn aL kC fd c6=>J4 (xs:=[.ref nZ]) M8 .zs .zs Wn (λ hd dl U0 j8 f1 f2 rz=>?_) kC fd
  obtain ⟨FH,BE⟩:=rz.at_;refine #[_,rfl,bn,FH,_,rfl,BE,rfl,bo,λ j_ akf p8 vw Vk=>#[j_,10,_,rfl,rfl,Vk,.zs,.aA,.aA,bo,λ a Mg g0 E3 Vl=>?_]];have F_:Mg a=some (tupI qT):=Vl;have Oc:aE U0 Mg:=vw.trans E3;dsimp only [dI];refine PZ (rz.same Oc) F_ rfl .aA λ w t U1 vq Ny i9=>?_
  have wo : ∀ {c:Addr} {o:e6},vc c=some o->U1 c=some o:=λ {c o} h=>vq _ _ (cf h f1) (cf h f2) (Oc _ _ (j8 _ _ h))
  refine #[_,rfl,_,rfl,bo,λ cz MM Wu Cb Yd=>?_];dsimp only [dI];have n5:=i9.same Cb;have Hu:h_ MM [V.ref nZ] q6:=#[OD.1,λ i x aj=>by
   obtain ⟨j6,jF,cq,aM,aO,el,l9⟩:=OD.2 i x aj;exact #[j6,jF,cq,aM,aO,Cb _ _ (wo el),l9]]
  refine n5.run (fs:=q6) .zs (Cb _ _ (wo M8)) Hu .zs rfl .aA Yd .aD M3 (λ M=>(afT M).elim) (λ j r kE hl a2 OE VT v3 hW Z1=>?_);obtain ⟨vj,rI⟩:=afS kE .aD;have FI:(j:Int)=gb:=by omega
  have FK:r=[gb,0,0,0,0,0,0,0,0,0]:=by rw [rI,lZ .aD]
  subst FK;clear vj rI kE;rw [FI] at hW ⊢;refine #[_,rfl,.inl #[_,_,rfl,trivial,rfl,_,rfl,?_]];rw [cc rfl];obtain ⟨Ht,px⟩:=hW.bn.at_;refine bA #[_,rfl,bn,Ht,_,rfl,px,rfl,?_];dsimp only [cM,dI,cy];refine hW.pow #[_,rfl,bo,λ v1 akG Wv YW Ye=>#[bo,λ v2 akH Ww N_ Yf=>#[v2,9,_,rfl,rfl,Yf,.zs,.aA,.aA,bo,λ rU akI Wx Oa GL=>#[v1,rU,_,_,rfl,rfl,Oa _ _ (N_ _ _ Ye),GL,bo,λ e MN YX Yg=>?_]]]];have CW:aE VT MN:=((YW.trans N_).trans Oa).trans YX;have vL:=hW.same CW;refine #[a2,e,[gb,0,0,0,0,0,0,0,0,0],[gb,0,0,0,0,0,0,0,0,0],rfl,rfl,vL.ay,Yg,_,rfl,?_];rw [cc rfl];refine bA ?_;obtain ⟨Zy,ZK⟩:=vL.bn.at_;refine #[_,rfl,bn,Zy,_,rfl,ZK,rfl,?_];dsimp only [cM,dI,cy];have MH : ∀ {c:Addr} {ys:bl},MM c=some (.tup ys)->MN c=some (.tup ys):=λ {c ys} h=>CW _ _ (v3 _ _ (cW h n5.bn.hd nofun) (cW h n5.bn.dl nofun) h)
  refine vL.aaB (CW _ _ Z1) (MH n5.hw) (MH n5.ay) λ akJ Yo Br=>?_
  obtain ⟨OU,O0⟩:=Br.bn.at_;refine #[_,rfl,bn,OU,_,rfl,O0,rfl,?_];dsimp only [cM,dI,cy];refine Br.gone #[rfl,_,rfl,?_];rw [cc rfl];refine cA #[_,rfl,bn,OU,_,rfl,O0,rfl,?_];dsimp only [cM,dI,cy];refine Br.pow #[bo,λ v2 akK Wy Ob Yi=>#[v2,10,_,rfl,rfl,Yi,.zs,.aA,.aA,bo,λ rU MO Wz Hb Yj=>?_]];have VW:=Br.same (Ob.trans Hb);refine #[a,rU,qT,qT,rfl,rfl,VW.ay,Yj,?_];rw [cc rfl];have Mz : ∀ {c:Addr} {o:e6},vc c=some o->MO c=some o:=λ {c o} h=>Hb _ _ (Ob _ _ (Yo _ _ (cf h f1) (cf h f2) (CW _ _ (v3 _ _ (cf h f1) (cf h f2) (Cb _ _ (wo h))))))
  exact q cC MO (λ c o d0 h=>Mz (Cc _ _ (Ov _ _ (Vn _ _ d0 h)))) (Mz (Cc _ _ (Ov _ _ aaM)))
noncomputable def CU (H:az) (a:Addr):Nat:=match H a with
 | some (.lst xs)=>xs.length
 | _=>0
theorem RD {a:Addr} (h:H a=some (.lst xs)):CU H a=xs.length:=by unfold CU;rw [h]
noncomputable def aiz (T:bB K mg):b3:=λ vs H Q _ => ∃ (bx:az) (S:qN) (pt:Addr) (kvs:List (Key×V)) (aQ:d9) (ls:List hV),vs=[.ref S.bn,.ref S.bf]/\Ev T bx S pt/\cI (fa S pt) bx H/\gY bx H S (hK S.cG ls) kvs aQ ls/\ls.length<=900 /\ ∀ H',Q (.aX true) H'
theorem air (T:bB K mg):c8 P w mg base cS 10 T.SV (aiz T):=by
 refine T.SV.fn.en aiu (λ vs H Q E h=>?_) (λ bg A outer s H vs Q E aq h=>?_)
 ·obtain ⟨bx,S,pt,kvs,aQ,ls,rfl,_⟩:=h;rfl
 ·obtain ⟨bx,S,pt,kvs,aQ,ls,rfl,ev,k,d,pd,q⟩:=h;refine #[_,(aN (u1 fU (ct ov (bQ h1 T.gh gg (aa (af 1) ao)) aI (bS _))
    (aN (gi (Qo ks PySem.F.slot_list_pop PySem.F.type_list_pop Qk (af 1)))
   (aR (cN (eD.pt (gA (ct I0 (bR (xq T) aq bD (aa (af 0) (aa (dh (aa ck (aa e2 (aa e2 ao)))) ao))) e2 (bS _)) (hv (gM (eu (bR (UA T) aq bD (aa (af 0) (aa (dt fE (af 1) (qZ ra aI) (λ _ _=>rfl)) ao))))))))
    (aR (bE gz))
    cB))))
   (aR (bE (hy eS (bR (xq T) aq bD (aa (af 0) (aa (dh (aa ck (aa e2 (aa e2 ao)))) ao))) ck (bS _))))),?_]
  refine u5 (λ σ H'=>σ=[some (.ref S.bn),some (.ref S.bf)] /\ ∃ (kvs:List (Key×V)) (aQ:d9) (ls:List hV),cI (fa S pt) bx H'/\gY bx H' S (hK S.cG ls) kvs aQ ls/\ls.length<=900) (λ _ H'=>CU H' S.bf) #[rfl,kvs,aQ,ls,k,d,pd] ?_;rintro σ H1 ⟨rfl,kvs,aQ,ls,k,d,pd⟩;refine #[_,rfl,S.bf,_,rfl,.inl (a9.of d.bf),_,_,rfl,rfl,_,rfl,?_];rw [sM];cases ls with
  | nil =>
   rw [dN .zs];refine bA #[_,rfl,bo,λ cz au f2 s2 ai=>?_];dsimp only [dI];refine ev.aa_ (k.trans (cI.same s2)) (d.f6 (M:=[]) (cI.same s2) (λ _ h=>by cases h) (λ _ _ h=>by cases h) (s2 _ _ d.hd)) ai λ H' s'=>#[rfl,?_]
   rw [cc rfl];exact q H'
  | cons l ls =>
   rw [cc (by rw [j1];omega)];refine cA (uf #[_,rfl,.inl #[rfl,_,a9.of d.bf],S.bf,_,.ref l.r,rfl,rfl,d.bf,?_,?_])
   ·show (hK S.cG ls++[V.ref l.r])[(hK S.cG ls++[V.ref l.r]).length - 1]?=_;simp
   have ew:CU H1 S.bf=ls.length+2:=by rw [RD d.bf,sM];rfl
   have dK:bN S.bf H1 (upd H1 S.bf (.lst (hK S.cG (l::ls)).dropLast)):=bN.upd;have ai:(upd H1 S.bf (.lst (hK S.cG (l::ls)).dropLast)) S.bf=some (.lst (hK S.cG ls)):=by rw [bL];show some (e6.lst (hK S.cG ls++[V.ref l.r]).dropLast)=_;rw [List.dropLast_concat]
   generalize upd H1 S.bf (.lst (hK S.cG (l::ls)).dropLast)=au at dK ai;have jR:mj bx H1 [S.bf]:=λ m hm=>by rw [eC.mp hm];exact .inl #[_,d.bf]
   have iI:gY bx au S (hK S.cG ls) kvs aQ (l::ls):=by
    refine #[dK _ _ (cW d.hd d.bf nofun) d.hd,dK _ _ ev.G0 d.dl,ai,d.D.eA ((cI.but dK).eA jR),d.pm,(cI.but dK).cY ?_ d.cG,d.st.f6 (cI.but dK) jR];rw [eC];exact cW ev.yY ev.yW nofun
   have k2:cI (fa S pt) bx au:=k.trans ((cI.but dK).mono λ c ak=>by rw [eC.mp ak];unfold fa;simp);refine #[_,rfl,bo,λ cz aW di s3 aH=>?_];dsimp only [dI];have k3:=k2.trans (cI.same s3);have tq:=iI.f6 (M:=[]) (cI.same s3) (λ _ h=>by cases h) (λ _ _ h=>by cases h) (s3 _ _ iI.hd);rw [j1] at pd;refine ev.abc (n:=ls.length) k3 tq (b9 _) aH λ bc Yt kD=>#[rfl,_,rfl,?_]
   rw [cc rfl];obtain ⟨Z7,V0,Yx,r8,i_⟩:=kD;have kF:cI (fa S pt) bx bc:=k3.trans ((cI.qz Yt).mono λ c ak=>by unfold fa;simp only [c1,fR,fS] at ak ⊢;rcases ak with z | z<;>simp [z]);refine bA #[_,rfl,_,rfl,1,rfl,S.bf,_,_,_,rfl,rfl,a9.of i_.bf,Ip _ _,?_];dsimp only [dI];refine ev.Qd (n:=900) kF i_ .aD λ bW alc k5 vh=>#[_,rfl,bA #[#[rfl,Z7,V0,Yx,k5,vh,.aD],?_]]
   rw [ew,RD vh.bf,sM];omega
end
theorem nM {c d:Addr} (h:H c=none) (h':H d=some o):c≠d:=λ z=>by rw [z,h'] at h;cases h
noncomputable def dJ (H H':az):Prop := ∀ b o,H b=some o->H' b=some o\/(∃ xs ys,o=.lst xs/\H' b=some (.lst ys)) \/ ∃ cp v5,o=.bF cp/\H' b=some (.bF v5)
theorem dJ.of (s:aE H H'):dJ H H':=λ b o h=>.inl (s b o h)
theorem dJ.but {a:Addr} (dw:bN a H H') (h:H a=some (.lst xs)) (h':H' a=some (.lst ys)):dJ H H':=λ b o e=>by
 by_cases z:b=a
 ·subst z;rw [h] at e;cases e;exact .inr (.inl #[xs,ys,rfl,h'])
 ·exact .inl (dw b o z e)
theorem dJ.tup (k:dJ H H') {b:Addr} (h:H b=some (.tup xs)):H' b=some (.tup xs):=by
 rcases k b _ h with z | ⟨_,_,e,_⟩ | ⟨_,_,e,_⟩
 ·exact z
 ·cases e
 ·cases e
theorem dJ.kind (s:dJ H H') {v:V} (k:dV H v):dV H' v:=by
 cases v with
 | ref a =>
  rcases (show (∃ xs,H a=some (.tup xs))\/(∃ xs,H a=some (.lst xs))\/(∃ kvs,H a=some (.bF kvs)) from k) with ⟨xs,e⟩ | ⟨xs,e⟩ | ⟨kvs,e⟩
  ·exact .inl #[xs,s.tup e]
  ·rcases s _ _ e with z | ⟨_,ys,_,z⟩ | ⟨_,_,w,_⟩
   ·exact .inr (.inl #[xs,z])
   ·exact .inr (.inl #[ys,z])
   ·cases w
  ·rcases s _ _ e with z | ⟨_,ys,w,z⟩ | ⟨_,cp,_,z⟩
   ·exact .inr (.inr #[kvs,z])
   ·cases w
   ·exact .inr (.inr #[cp,z])
 | bh=>trivial
 | aX b=>trivial
 | int i=>trivial
 | str x=>trivial
 | _=>exact False.elim k
theorem dJ.dR (s:dJ H H') {v:V} (k:dV H v):cJ.dR H' v=cJ.dR H v:=by
 cases v with
 | ref a =>
  show jV (H' a)=jV (H a);rcases (show (∃ xs,H a=some (.tup xs))\/(∃ xs,H a=some (.lst xs))\/(∃ kvs,H a=some (.bF kvs)) from k) with ⟨xs,e⟩ | ⟨xs,e⟩ | ⟨kvs,e⟩
  ·rw [s.tup e,e]
  ·rcases s _ _ e with z | ⟨_,ys,_,z⟩ | ⟨_,_,w,_⟩
   ·rw [z,e]
   ·rw [z,e];rfl
   ·cases w
  ·rcases s _ _ e with z | ⟨_,ys,w,z⟩ | ⟨_,cp,_,z⟩
   ·rw [z,e]
   ·cases w
   ·rw [z,e];rfl
 | _=>rfl
theorem dJ.dg (s:dJ H H') {v:V} (k:cJ.dg H v):cJ.dg H' v:=by
 obtain ⟨k,bf⟩:=k;refine #[s.kind k,λ xs e=>?_];rw [s.dR k] at e;obtain ⟨l,m⟩:=bf xs e;exact #[l,λ x aj=>s.kind (m x aj)]
theorem dJ.nm (s:dJ H H') {v:V} (k:o7 H v):o7 H' v:=#[#[s.kind k.1.1,k.1.2],k.2]
theorem lT.dF {v bC:V} (d:lT H way v bC) (s:dJ H H'):lT H' way v bC:=by
 rcases d with ⟨ah,ai,aH⟩ | ⟨ah,ai,aH⟩ | ⟨ah,ai,aH⟩ | h
 ·exact .inl #[ah,s.nm ai,s.dg aH]
 ·exact .inr (.inl #[ah,s.nm ai,aH])
 ·exact .inr (.inr (.inl #[ah,s.nm ai,aH]))
 ·exact .inr (.inr (.inr h))
noncomputable def jd (H:az) (ds:bl):Prop := ∀ x∈ds,∃ (cz:Addr) (way:Str) (v bC:V),x=.ref cz/\H cz=some (.tup [.str way,v,bC])/\lT H way v bC
theorem jd.dF {ds:bl} (d:jd H ds) (s:dJ H H'):jd H' ds:=λ x aj=>by
 obtain ⟨cz,way,v,bC,e,h,w⟩:=d x aj;exact #[cz,way,v,bC,e,s.tup h,w.dF s]
noncomputable def ps (H:az) (ds:bl):Prop := ∃ (cz a:Addr) (x:Str) (ag:aV),ds[0]?=some (.ref cz)/\H cz=some (.tup [.str "put", .str x,.ref a])/\fD (.str x)=true/\H a=some (tupI ag)/\ag.length=10 /\ ∀ i∈ag,0<=i/\i<=1000000
theorem ps.dF {ds:bl} (d:ps H ds) (s:dJ H H'):ps H' ds:=by
 obtain ⟨cz,a,x,ag,ah,ai,aH,a4,b4⟩:=d;exact #[cz,a,x,ag,ah,s.tup ai,aH,s.tup a4,b4]
theorem ps.app {ds ar:bl} (d:ps H ds):ps H (ds++ar):=by
 obtain ⟨cz,a,x,ag,ah,h⟩:=d;exact #[cz,a,x,ag,by rw [sF (fJ.mp ah).1];exact ah,h]
theorem Ax {bC:V} (h:dg H bC) (s:dJ H H'):gy H' bC=gy H bC:=by unfold gy;rw [s.dR h.1]
theorem aer {a:Addr} {ag:aV} (ay:H a=some (tupI ag)) (ji:ag.length=10) (ae : ∀ i∈ag,0<=i/\i<=1000000):gy H (.ref a)=true:=by
 unfold gy;rw [kx ay];show (decide ((ag.map V.int).length=10)&&(ag.map V.int).all gK&&(ag.map V.int).all jU)=true;rw [cc (by rw [bY];exact ji),show (ag.map V.int).all gK=true from gT.mpr λ y aT=>by obtain ⟨i,ax,rfl⟩:=e3.mp aT;exact cc (ae i ax).1,show (ag.map V.int).all jU=true from gT.mpr λ y aT=>by obtain ⟨i,ax,rfl⟩:=e3.mp aT;exact cc (ae i ax).2];rfl
theorem lT.put {v bC:V} (d:lT H way v bC) (h:way = "put"):dg H bC:=by
 rcases d with ⟨_,_,aH⟩ | ⟨z,_⟩ | ⟨z,_⟩ | ⟨z,_⟩
 ·exact aH
 ·rw [h] at z;exact absurd z .aA
 ·rw [h] at z;exact absurd z .aA
 ·rw [h] at z;exact absurd z .aA
theorem ui.dF {aQ:d9} {v bC:V} {x:Str} (s:dJ H H') (d:lT H way v bC) (h:ui aQ H way v bC x):ui aQ H' way v bC x:=by
 rcases h with h | ⟨ah,ai,aH,a4⟩ | ⟨ah,ai,aH,a4,b4⟩
 ·exact .inl h
 ·exact .inr (.inl #[ah,ai,aH,by rw [Ax (d.put aH) s];exact a4])
 ·exact .inr (.inr #[ah,ai,aH,by rw [Ax (d.put aH) s];exact a4,b4])
theorem uo.dF {fs:f_} {aQ hp:d9} {v bC hO:V} (s:dJ H H') (d:lT H way v bC) (h:uo fs aQ H way v bC hO hp):uo fs aQ H' way v bC hO hp:=by
 obtain ⟨x,ah,ai,aH⟩:=h;refine #[x,ah,ai,?_];rcases aH with h | h | ⟨rfl,a,ag,rfl,ay,av,a4⟩
 ·exact .inl h
 ·exact .inr (.inl h)
 ·exact .inr (.inr #[rfl,a,ag,rfl,s.tup ay,by rw [Ax (d.put rfl) s];exact av,a4])
theorem uo.kind {fs:f_} {aQ hp:d9} {v bC hO:V} (h:uo fs aQ H way v bC hO hp):hO=.bh \/ ∃ k:Nat,hO=.int (k:Int):=by
 obtain ⟨x,ah,ai,aH⟩:=h;rcases aH with ⟨_,h,_⟩ | ⟨_,m,e,k,r,_,_,_,_,_,h,_⟩ | ⟨_,a,ag,_,_,_,_,h,_⟩
 ·exact .inl h
 ·exact .inr #[k,h]
 ·exact .inl h
theorem aew : ∀ c∈("abcdefghijkl" : Str).cps.toList,(((fu (("n" : Str)++⟨[c].toArray⟩)).all λ c=>decide (c<128))&&decide ((("n" : Str)++⟨[c].toArray⟩:Str).length<=1000)&&fD (.str (("n" : Str)++⟨[c].toArray⟩)))=true:=by decide +kernel
theorem Q0 {x:Str} (e:(((fu x).all λ c=>decide (c<128))&&decide (x.length<=1000))=true):qk H (.str x):=by
 rw [jA] at e;exact #[trivial,λ y h=>by cases h;exact #[λ c ak=>eT (gT.mp e.1 c ak),eT e.2]]
noncomputable def sh (H:az) (v:V):Prop:=kW H v/\jr H v=false
theorem Dc {v:V} (k:dV H v) (h:dR H v=none):sh H v:=#[#[k,λ xs e=>by rw [h] at e;cases e],by unfold jr;rw [h]]
theorem DI {t c:Addr} {x:V} (aU:H t=some (.tup [.ref c])) (ak:H c=some (.tup [x,y])) (f6:dV H x) (ET:dV H y) (h:eR H (.ref c)=false):sh H (.ref t):=by
 refine #[DN aU .zs λ z a6=>?_,?_]
 ·rw [eC.mp a6];exact lh ak .zs (all2 f6 ET)
 ·unfold jr;rw [kx aU];show (decide _&&decide _&&[V.ref c].all (eR H))=false;rw [List.all_cons,h,Bool.false_and,s7]
theorem IV {c:Addr} {i j:Int} (ak:H c=some (.tup [.int i,.int j])) (h:jX i j=false):eR H (.ref c)=false:=by
 unfold eR;rw [kx ak];exact h
theorem acx {c:Addr} {b:Bool} {j:Int} (ak:H c=some (.tup [.aX b,.int j])):eR H (.ref c)=false:=by
 unfold eR;rw [kx ak]
theorem aeE {t:Addr} (aU:H t=some (.tup xs)) (ah:16<xs.length) (ai:xs.length<=1000) (aj : ∀ x∈xs,dg H x):sh H (.ref t):=by
 refine #[DN aU ai aj,?_];unfold jr;rw [kx aU];show (decide _&&decide (xs.length<=16)&&_)=false;rw [dN (by omega : ¬ xs.length<=16),s7];rfl
theorem acK {t:Addr} (aU:H t=some (.tup [])):sh H (.ref t):=by
 refine #[DN aU .zs λ z a6=>(by cases a6),?_];unfold jr;rw [kx aU];rfl
theorem C7 {p:V->Prop} (h : ∀ x∈xs,p x) {i:Int} (h0:0<=i) (av:i<xs.length) : ∃ v,il xs i=some v/\p v:=by
 have ax:i.toNat<xs.length:=by omega
 exact #[xs[i.toNat],lY h0 (fT ax),h _ (sP ax)]
theorem dJ.kW (s:dJ H H') {v:V} (k:cJ.kW H v):cJ.kW H' v:=by
 obtain ⟨k,bf⟩:=k;refine #[s.kind k,λ xs e=>?_];rw [s.dR k] at e;obtain ⟨l,m⟩:=bf xs e;exact #[l,λ x aj=>s.dg (m x aj)]
theorem sh.dF {v:V} (h:sh H v) (s:dJ H H'):sh H' v:=by
 refine #[s.kW h.1,?_];have ai:=h.2;unfold jr at ai ⊢;rw [s.dR h.1.1];cases b0:dR H v with
 | none=>rfl
 | some xs =>
  rw [b0] at ai;have:xs.all (eR H')=xs.all (eR H):=by
   rw [sE,gT,gT];have e : ∀ x∈xs,eR H' x=eR H x:=λ x aj=>by
    unfold eR;rw [s.dR ((h.1.2 xs b0).2 x aj).1]
   exact #[λ z x aj=>by rw [<-e x aj];exact z x aj,λ z x aj=>by rw [e x aj];exact z x aj]
  show (_&&_&&xs.all (eR H'))=false;rw [this];exact ai
theorem jd.app {ds ar:bl} (d:jd H ds) (e:jd H ar):jd H (ds++ar):=λ x aj=>(oB.mp aj).elim (d x) (e x)
theorem jd.one {cz:Addr} {v bC:V} (h:H cz=some (.tup [.str way,v,bC])) (w:lT H way v bC):jd H [.ref cz]:=λ x aj=>by rw [eC.mp aj];exact #[cz,way,v,bC,rfl,h,w]
section
variable {w:World}
noncomputable abbrev zo (x y:V):TE:=lV (cy (lV (cy (cM x) (cy (cM y) dI))) dI)
theorem aeD {Q:bG} (q : ∀ l xs H',H l=none->aE H H'->H' l=some (.lst xs)->xs.length=10->(∀ x∈xs,sh H' x)->Q (.ref l) H') :
  q0 (cy (cM .bh) (cy (lV dI) (cy (zo (.int 1) (.int 0)) (cy (zo (.int 2) (.int 4)) (cy (q0 (cy (lV (cy (cM (.int 1)) (cy (cM (.int 2)) dI))) dI)) (cy (zo (.int 1) (.int 31)) (cy (cM (.str "1/2")) (cy Dh (cy (zo (.aX true) (.int 2)) (cy (g8 De (zo (.int 1) (.int 1)) (cM (.int 17))) dI)))))))))) σ H Q:=by
 refine #[bo,λ t1 H1 f1 s1 ah=>?_];refine #[bo,λ hD au f2 s2 ai=>#[bo,λ bw aW di s3 aH=>?_]];refine #[bo,λ vg bc f4 s4 a4=>#[bo,λ nZ bW fi s5 b4=>?_]];refine #[bo,λ Mo dO kB b_ dM=>#[bo,λ md dv p7 cL hF=>?_]];refine #[bo,λ aki fg f8 dp fA=>#[bo,λ Fb hB vk ee lx=>?_]];refine λ fZ Ez g1 bJ aM=>?_
 refine #[bo,λ akO EA g2 b8 aO=>#[bo,λ OE rB g3 hj el=>?_]];refine #[bo,λ V2 Me kD j8 l9=>#[bo,λ Zj vc hh o5 rH=>?_]];refine #[Zj,17,_,rfl,rfl,rH,.zs,.aA,.aA,(by show 1 * 17<=sizeLine;decide),λ alv UX p8 vw Ms=>#[bo,λ l AR g0 rT U7=>?_]];have vv:=rT;have tE:=vw.trans vv;have lC:=o5.trans tE;have eQ:=j8.trans lC;have cg:=hj.trans eQ;have bb:=b8.trans cg;have MC:=bJ.trans bb;have xV:=ee.trans MC;have vu:=dp.trans xV;have xU:=cL.trans vu;have nV:=b_.trans xU;have o4:=s5.trans nV;have lB:=s4.trans o4;have dm:=s3.trans lB;have p1:=s2.trans dm;refine q l _ AR ?_ (s1.trans p1) U7 rfl λ x aj=>?_
 ·cases av:H l with
  | none=>rfl
  | some o =>
   have:=(s1.trans (s2.trans (s3.trans (s4.trans (s5.trans (b_.trans (cL.trans (dp.trans (ee.trans (bJ.trans (b8.trans (hj.trans (j8.trans (o5.trans vw)))))))))))))) _ _ av;rw [g0] at this;cases this
 simp only [c1,fR,fS] at aj;rcases aj with rfl | rfl | rfl | rfl | rfl | rfl | rfl | rfl | rfl | rfl
 ·exact Dc trivial rfl
 ·exact acK (p1 _ _ ah)
 ·exact DI (lB _ _ aH) (dm _ _ ai) trivial trivial (IV (dm _ _ ai) .aA)
 ·exact DI (nV _ _ b4) (o4 _ _ a4) trivial trivial (IV (o4 _ _ a4) .aA)
 ·exact Dc (.inr (.inl #[_,vu _ _ hF])) (by show jV (AR md)=none;rw [vu _ _ hF];rfl)
 ·exact DI (MC _ _ lx) (xV _ _ fA) trivial trivial (IV (xV _ _ fA) .aA)
 ·exact Dc trivial rfl
 ·exact Dc (.inr (.inr #[_,bb _ _ aM])) (by show jV (AR fZ)=none;rw [bb _ _ aM];rfl)
 ·exact DI (eQ _ _ el) (cg _ _ aO) trivial trivial (acx (cg _ _ aO))
 ·refine aeE (vv _ _ Ms) (by show 16<17;decide) (by show 17<=1000;decide) λ x aj=>?_
  have dD:x=.ref V2:=by
   obtain ⟨ys,ah,ai⟩:=List.mem_flatten.mp aj;rw [(List.mem_replicate.mp ah).2] at ai;exact eC.mp ai
  rw [dD];exact lh (lC _ _ l9) .zs (all2 trivial trivial)
theorem ahs {Q:bG} {pt pl:Addr} {n:Int} {ag:aV} {i:Nat} (v1:σ[1]?=some (some (.ref pt))) (v2:σ[2]?=some (some (.ref pl))) (mf:σ[7]?=some (some (.int (0+(i:Int))))) (ax:i<12) (aw:H pt=some (.lst [.int n])) (dH:H pl=some (.tup (ag.map V.int))) (ew:ag.length<=10) (hm : ∀ m∈ag,0<=m/\m<10)
  (q : ∀ cz b1 H',bN pt H H'->H' pt=some (.lst [.int b1])->jd H' [.ref cz]->ps H' [.ref cz]->Q (.ref cz) H') :
  lV (cy (cM (.str "put")) (cy (g8 (λ x y H Q => ∃ a b,x=V.str a/\y=V.str b/\a.length+b.length<=sizeLine/\Q (V.str (a++b)) H) (cM (.str "n")) (g8 Pq (cM (.str "abcdefghijkl")) (iT 7))) (cy (mK SK [] iC (cy (iT 1) (cy (iT 2) (cy (cM (.int 3)) dI)))) dI))) σ H Q:=by
 have ak:i<("abcdefghijkl" : Str).cps.toList.length:=ax;have kc:il ("abcdefghijkl" : Str).cps.toList (0+(i:Int))=some (("abcdefghijkl" : Str).cps.toList[i]):=lY .aD (by rw [show (0+(i:Int)).toNat=i by omega];exact fT ak);have yK:=aew _ (sP ak);generalize ("abcdefghijkl" : Str).cps.toList[i]=ch at kc yK;have ni:=sY.mp yK;refine #[_,mf,_,_,ch,rfl,rfl,.aA,kc,_,_,rfl,rfl,(by show 1+1<=sizeLine;decide),_,v1,_,v2,pt,pl,n,3,ag,rfl,aw,dH,ew,hm,.aA,.aA,λ ln H1 cC ar e4 iu hr MY ng=>#[bo,λ cz au f2 s2 ai=>?_]];refine q cz cC au (e4.trans (bN.of s2)) (s2 _ _ iu) (jd.one ai (.inl #[rfl,#[Q0 ni.1,λ z=>?_],lh (s2 _ _ hr) (by rw [bY];omega) λ x aj=>?_])) #[cz,ln,_,ar,rfl,ai,ni.2,s2 _ _ hr,MY,λ i ax=>#[(ng i ax).1,by have:=(ng i ax).2;omega]]
 ·injection z with z;have:=nC Str.length z;exact absurd (show 1+1=4 from this) .aA
 ·obtain ⟨j,_,rfl⟩:=e3.mp aj;trivial
theorem aeF {Q:bG} {pt:Addr} {n:Int} (v1:σ[1]?=some (some (.ref pt))) (aw:H pt=some (.lst [.int n])) (q : ∀ x b1 H',bN pt H H'->H' pt=some (.lst [.int b1])->o7 H' (.str x)->Q (.str x) H') :
  g8 (zG K) (q0 (cy (cM (.str "na")) (cy (cM (.str "zz")) (cy (cM (.str "yy")) (cy (cM (.str "No")) (cy (cM (.str "xx")) dI)))))) (mK AA [] iC (cy (iT 1) (cy (cM (.int 5)) dI))) σ H Q:=by
 refine #[bo,λ l H1 f1 s1 ah=>#[_,v1,pt,n,5,rfl,s1 _ _ aw,.aA,.aA,λ r dB au cG o5 dK fk=>?_]];have nl:l≠pt:=nM f1 aw;obtain ⟨v,ba,x,rfl,nm⟩:=C7 (xs:=[.str "na", .str "zz", .str "yy", .str "No", .str "xx"]) (p:=λ v => ∃ x,v=.str x/\((((fu x).all λ c=>decide (c<128))&&decide (x.length<=1000))&&decide (x ≠ "nope"))=true) (i:=r) (λ x aj=>by
  simp only [c1,fR,fS] at aj;rcases aj with rfl | rfl | rfl | rfl | rfl<;>exact #[_,rfl,by decide +kernel]) cG o5
 have ni:=sY.mp nm;exact #[l,_,_,_,rfl,rfl,a9.of (dK _ _ nl ah),ba,q x dB au ((bN.of s1).trans dK) fk #[Q0 ni.1,λ z=>eT ni.2 (by injection z)]]
theorem aeB {Q:bG} {pt:Addr} {n:Int} {x:V} (v1:σ[1]?=some (some (.ref pt))) (v10:σ[10]?=some (some x)) (aj:o7 H x) (aw:H pt=some (.lst [.int n])) (q : ∀ cz b1 H',bN pt H H'->H' pt=some (.lst [.int b1])->jd H' [.ref cz]->Q (.ref cz) H') :
  lV (cy (cM (.str "put")) (cy (iT 10) (cy (g8 (zG K) (q0 (cy (g8 De (lV (cy (cM (.int 0)) dI)) (cM (.int 10))) (cy (g8 De (lV (cy (cM (.int 9)) dI)) (cM (.int 10))) (cy (cM (.int 5)) dI)))) (mK AA [] iC (cy (iT 1) (cy (cM (.int 3)) dI)))) dI))) σ H Q:=by
 refine #[_,v10,bo,λ gn H1 f1 s1 ah=>#[gn,10,_,rfl,rfl,ah,.zs,.aA,.aA,(by show 1 * 10<=sizeLine;decide),λ hD au f2 s2 ai=>?_]];refine #[bo,λ p6 aW di s3 aH=>#[p6,10,_,rfl,rfl,aH,.zs,.aA,.aA,(by show 1 * 10<=sizeLine;decide),λ vg bc f4 s4 a4=>?_]];refine #[bo,λ l bW fi s5 b4=>?_];have ob:=s4 _ _ (s3 _ _ (s2 _ _ (s1 _ _ aw)));refine #[_,v1,pt,n,3,rfl,s5 _ _ ob,.aA,.aA,λ r lA dO cG hj hC fQ=>?_];have nl:l≠pt:=nM fi ob;have Bh : ∀ {c:Addr} {j:Int},dO c=some (.tup (List.replicate (10:Int).toNat [V.int j]).flatten)->dg dO (.ref c):=λ {c j} h=>lh h (by show 10<=1000;decide) λ y aT=>by
  obtain ⟨ys,ho,f9⟩:=List.mem_flatten.mp aT;rw [(List.mem_replicate.mp ho).2] at f9;rw [eC.mp f9];trivial
 have tA:=dJ.but hC (s5 _ _ ob) fQ;obtain ⟨v,ba,wv⟩:=C7 (xs:=[.ref hD,.ref vg,.int 5]) (p:=dg dO) (i:=r) (λ y aT=>by
  simp only [c1,fR,fS] at aT;rcases aT with rfl | rfl | rfl
  ·exact Bh (tA.tup (s5 _ _ (s4 _ _ (s3 _ _ ai))))
  ·exact Bh (tA.tup (s5 _ _ a4))
  ·exact #[trivial,λ xs e=>by cases e]) cG hj
 refine #[l,_,_,_,rfl,rfl,a9.of (hC _ _ nl b4),ba,bo,λ cz dv p7 cL hF=>?_];exact q cz lA dv ((((((bN.of s1).trans (bN.of s2)).trans (bN.of s3)).trans (bN.of s4)).trans (bN.of s5)).trans (hC.trans (bN.of cL))) (cL _ _ fQ) (jd.one hF (.inl #[rfl,(dJ.of cL).nm (tA.nm ((dJ.of s5).nm ((dJ.of s4).nm ((dJ.of s3).nm ((dJ.of s2).nm ((dJ.of s1).nm aj)))))),(dJ.of cL).dg wv]))
noncomputable def MQ (H:az) (v:V):Prop:=dV H v /\ ∀ x,v=.str x->fD v=false\/x = "nope"
theorem agl {Q:bG} {pt:Addr} {n:Int} (v1:σ[1]?=some (some (.ref pt))) (aw:H pt=some (.lst [.int n])) (q : ∀ v b1 H',bN pt H H'->H' pt=some (.lst [.int b1])->MQ H' v->Q v H') :
  g8 (zG K) (q0 (cy (cM (.str "nope")) (cy (cM (.str "")) (cy (cM .bh) (cy (cM (.int 3)) (cy (q0 (cy (cM (.str "na")) dI)) (cy Dh (cy (cM (.str "NA")) (cy (cM (.aX true)) dI))))))))) (mK AA [] iC (cy (iT 1) (cy (cM (.int 8)) dI))) σ H Q:=by
 refine #[bo,λ gn H1 f1 s1 ah=>λ hD au f2 s2 ai=>#[bo,λ l aW di s3 aH=>?_]];have fk:=s2 _ _ (s1 _ _ aw);refine #[_,v1,pt,n,8,rfl,s3 _ _ fk,.aA,.aA,λ r g6 bc cG E3 fo ob=>?_];have nl:l≠pt:=nM di fk;have cC:gn≠pt:=nM f1 aw;have dB:hD≠pt:=cW ai fk nofun;obtain ⟨v,ba,rN⟩:=C7 (xs:=[.str "nope", .str "", .bh,.int 3,.ref gn,.ref hD,.str "NA", .aX true]) (p:=MQ bc) (i:=r) (λ y aT=>by
  simp only [c1,fR,fS] at aT;rcases aT with rfl | rfl | rfl | rfl | rfl | rfl | rfl | rfl
  ·exact #[trivial,λ x e=>.inr (by injection e with e;exact e.symm)]
  ·exact #[trivial,λ x e=>.inl (by decide +kernel)]
  ·exact #[trivial,λ x e=>by cases e]
  ·exact #[trivial,λ x e=>by cases e]
  ·exact #[.inr (.inl #[_,fo _ _ cC (s3 _ _ (s2 _ _ ah))]),λ x e=>by cases e]
  ·exact #[.inr (.inr #[_,fo _ _ dB (s3 _ _ ai)]),λ x e=>by cases e]
  ·exact #[trivial,λ x e=>.inl (by decide +kernel)]
  ·exact #[trivial,λ x e=>by cases e]) cG E3
 exact #[l,_,_,_,rfl,rfl,a9.of (fo _ _ nl aH),ba,q v g6 bc ((((bN.of s1).trans (bN.of s2)).trans (bN.of s3)).trans fo) ob rN]
noncomputable abbrev CA:Nat:=11
theorem CF {a b:de} {D:Ends} (h : ∀ i8:de,i8=b->iS a i8 D σ H):iS a b D σ H:=h b rfl
theorem aav {a b:de} {D:Ends} (J:St->az->Prop) (h : ∀ oV:Ends,(∀ σ' H',J σ' H'->oV.bu σ' H')->a oV σ H) (k : ∀ σ' H',J σ' H'->b D σ' H'):iS a b D σ H:=h { D with bu:=b D } k
noncomputable def Dg (K:cD):b3:=λ vs H Q _ => ∃ (a:Addr) (ns:aV),vs=[.ref a]/\a9 K H a (ns.map V.int)/\ns.length<=63 /\ ∀ H',Q (.aX true) H'
theorem abF (T:bB K mg) {f:Addr} {fd:FuncData} (F:je K "law" "law" H9 f fd):eo P w K mg base cS CA f fd ["script"] (Dg K):=by
 refine F.en jz (λ vs H Q E h=>?_) (λ bg A outer s H vs Q E aq h=>?_)
 ·obtain ⟨a,ns,rfl,_⟩:=h;rfl
 ·obtain ⟨a,ns,rfl,dT,hlen,q⟩:=h;refine #[_,(aN (bV 1 jz (bR (RJ T) aq bD (aa (bR (TS T) aq bD (aa (af 0) (aa aI ao))) ao)))
   (aN (bV 2 jz (bR (aiq T) aq bD (aa (af 1) ao)))
   (aN (bV 3 jz (bR (ajV T) aq bD (aa (af 1) (aa (af 2) (aa aI ao)))))
   (aN (bV 4 jz (DJ T.nN.at_ (KW T) (aq.mono .aA) rfl T.DF T.nN.bd .nil bD (aa (af 3) ao)))
   (aN (bV 5 jz (eK (aa w4 ao)))
   (aN (bV 6 jz (eK ao))
   (aN (hu fU rfl (oR rfl T.mR (aa (bU gL aI (bR (gC T) aq bD (aa (af 1) (aa aI ao)))) ao)) (d7 7 jz)
    (aR (gi (jZ ks oJ oK pY (af 6) (aa (dh (aa ck (aa (bU acM ck (dt abu ck (af 7) (λ _ _=>rfl))) (aa (bR (SE T) aq bD (aa (af 1) (aa (af 2) (aa aI ao)))) ao)))) ao)))))
   (aN (bV 8 jz (eK (aa e2 (aa (dh ao) (aa (dh (aa (dh (aa aI (aa aI ao))) ao)) (aa (dh (aa (dh (aa aI (aa aI ao))) ao)) (aa (eK (aa (dh (aa aI (aa aI ao))) ao)) (aa (dh (aa (dh (aa aI (aa aI ao))) ao)) (aa ck (aa w4 (aa (dh (aa (dh (aa gz (aa aI ao))) ao)) (aa (bU rr (dh (aa (dh (aa aI (aa aI ao))) ao)) aI) ao))))))))))))
   (aN (cN (eD.pt (gA (ct iW (bR (agn T) aq bD (aa (dt fE (af 8) (bR (gC T) aq bD (aa (af 1) (aa aI ao))) (λ _ _=>rfl)) ao)) ck (bS _)) (hv (gM (eu (bR (ajy T) aq bD (aa (af 1) ao)))))))
    (aR (bE gz))
    cB)
   (aN (hu fU rfl (agy rfl T.mR (aa aI (aa (bQ (Ar rfl) T.wz wt (aa aI (aa (bQ (Sh rfl) T.zV zN (aa (bQ h1 T.gh gg (aa (af 0) ao)) (aa aI ao))) ao))) ao))) (d7 7 jz)
    (aN (bV 1 jz (bR (RJ T) aq bD (aa (bR (TS T) aq bD (aa (af 0) (aa (af 7) ao))) ao)))
   (aN (bV 9 jz (bR (ajF T) aq bD (aa (af 1) (aa (af 2) (aa (dt fE (af 5) aI (λ _ _=>rfl)) ao)))))
   (aN (pO (ct eS (bR (gC T) aq bD (aa (af 1) (aa aI ao))) aI (bS _))
    (aN (bV 10 jz (dt fE (eK (aa ck (aa ck (aa ck (aa ck (aa ck ao)))))) (bR (gC T) aq bD (aa (af 1) (aa aI ao))) (λ _ _=>rfl)))
   (aR (bV 9 jz (dh (aa ck (aa (af 10) (aa (dt fE (eK (aa (bU rr (dh (aa aI ao)) aI) (aa (bU rr (dh (aa aI ao)) aI) (aa aI ao)))) (bR (gC T) aq bD (aa (af 1) (aa aI ao))) (λ _ _=>rfl)) ao)))))))
    cB)
   (aR (gi (jZ ks oJ oK pY (af 6) (aa (af 9) ao))))))))
   (aN (hu fU rfl (w1 (af 6)) (d7 9 jz)
    (aN (pO (ct iW (dt iA (af 9) aI (λ _ _=>rfl)) ck (bS _))
    (aN (pN (bR (ajx T) aq bD (aa (bR (ahT T) aq bD (aa (af 3) ao)) (aa (dt fE (af 5) (qZ ra aI) (λ _ _=>rfl)) (aa (af 9) ao)))) (Qr rfl (du (d7 11 jz) (du (d7 12 jz) hg))))
   (aN (cN (gM (eu (bR (D5 T) aq bD (aa (bR (xq T) aq bD (aa (af 4) (aa (af 9) ao))) (aa (af 11) ao)))))
    (aR (bE gz))
    cB)
   (aR (cN (gM (eu (bQ eL T.dz dy (aa (af 11) (aa (eB (by rfl) T.pD pC) ao)))))
    (aR (gi (jZ ks oJ oK pY (af 5) (aa (af 12) ao))))
    cB))))
    cB)
   (aN (bV 13 jz (dt fE (eK (aa ck (aa ck (aa e2 (aa aI (aa (eK (aa ck ao)) (aa w4 (aa ck (aa gz ao))))))))) (bR (gC T) aq bD (aa (af 1) (aa aI ao))) (λ _ _=>rfl)))
   (aR (cN (eD.pt (gA (ct iW (bR (aiR T) aq bD (aa (af 4) (aa (bR (gC T) aq bD (aa (af 1) (aa aI ao))) (aa (af 13) ao)))) ck (bS _)) (hv (gM (eu (bR (UA T) aq bD (aa (af 4) (aa (dt fE (af 5) (qZ ra aI) (λ _ _=>rfl)) ao))))))))
    (aR (bE gz))
    cB)))))
   (aR (bE (bR (air T) aq bD (aa (af 4) (aa (af 5) ao)))))))))))))))),?_]
  refine CF λ e4 aM=>?_
  refine #[_,rfl,a,ns,0,rfl,dT,.aA,λ c=>#[c,rfl,λ n pt kg=>?_]];subst aM;dsimp only [gx];refine CF λ e4 aM=>?_
  refine #[_,rfl,pt,n,rfl,bL,λ pl aW g5 ag gG tQ BO ew xP hm=>?_];have CC:pl≠pt:=cW BO tQ nofun;subst aM;dsimp only [gx];refine CF λ e4 aM=>?_
  refine #[_,rfl,_,rfl,pt,pl,g5,6,ag,rfl,tQ,BO,ew,.aD,hm,.aA,.aA,λ pr bc g6 xs fo lG nk gs alx hI=>?_];obtain ⟨fs,vT⟩:=QU hI;subst aM;dsimp only [gx];refine CF λ e4 aM=>?_
  have Fw:aE H bc:=λ cq o e=>(gG.trans fo) cq o (cf e kg) (by rw [bj (cf e kg)];exact e)
  refine #[_,rfl,λ bn aL kC fd c6=>J4 nk gs .aD hI (λ hd dl bW s5 f1 f2 tj=>?_) kC fd];subst aM;dsimp only [gx];refine λ cG dO p8 b_ dM=>#[bo,λ bf dv g0 cL hF=>#[bo,λ dd fg o1 dp fA=>?_]]
  obtain ⟨Wa,Nc⟩:=tj.at_;have zj:aE bW fg:=(b_.trans cL).trans dp;have pk:aE bc fg:=s5.trans zj;have a1:cG≠hd:=nM p8 tj.hd;have a2:dl≠bf:=cf (b_ _ _ tj.dl) g0;have m2:pt≠dl:=cf lG f2;have tm:pt≠bf:=cf (b_ _ _ (s5 _ _ lG)) g0;have A0:dd≠dl:=nM o1 (cL _ _ (b_ _ _ tj.dl));have xE:dd≠bf:=nM o1 hF;have tn:dd≠pt:=nM o1 (cL _ _ (b_ _ _ (s5 _ _ lG)));have Nd:=zj _ _ Nc;have Pa:=pk _ _ nk;have O8:=vT.same pk;have Gg:=zj _ _ tj.hd;have FF:=zj _ _ tj.dl;have ze:=dp _ _ (cL _ _ dM);have B0:=dp _ _ hF;have Ca:=pk _ _ lG;have B9:=pk _ _ (fo _ _ CC BO);have Fx:aE H fg:=Fw.trans pk;have FO:H dd=none:=(Fw.trans (s5.trans (b_.trans cL))).free o1;have HN:pl≠dd:=cW B9 fA nofun;have Pn:cG≠pt:=cW ze Ca nofun;have Pm:cG≠dd:=cW ze fA nofun;clear zj pk Fw dp cL b_ s5 o1 g0 p8 hF dM tj Nc gG fo tQ hI BO lG nk vT kC fd c6 f1 f2;dsimp only [gx];refine aav (λ σ G => ∃ i:Nat,10<=i/\i<=12 /\  (∃ jc:dG,σ=[some (.ref a),some (.ref pt),some (.ref pl),some (.ref pr),some (.ref bn),some (.ref bf),some (.ref dd),jc,none,none,none,none,none,none])/\(∀ c o,c≠pt->c≠dd->fg c=some o->G c=some o)/\(∃ n:Int,G pt=some (.lst [.int n])) /\ ∃ ds,G dd=some (.lst ds)/\ds.length=i/\jd G ds/\(1<=i->ps G ds)) (λ D a8=>?_) ?_
  ·refine #[_,rfl,pt,g6,3,rfl,Ca,.aA,.aA,λ gn hS hB ya akN i9 lL=>#[_,_,rfl,rfl,_,rfl,.aD,.aD,oQ (n:=(10+gn).toNat) (λ i σ G=>(∃ jc:dG,σ=[some (.ref a),some (.ref pt),some (.ref pl),some (.ref pr),some (.ref bn),some (.ref bf),some (.ref dd),jc,none,none,none,none,none,none])/\(∀ c o,c≠pt->c≠dd->fg c=some o->G c=some o)/\(∃ n:Int,G pt=some (.lst [.int n])) /\ ∃ ds,G dd=some (.lst ds)/\ds.length=i/\jd G ds/\(1<=i->ps G ds)) #[#[none,rfl],λ c o cC dB h=>i9 _ _ cC h,#[hS,lL],[],i9 _ _ tn fA,rfl,(λ x aj=>by cases aj),λ z=>by omega] ?_ λ σ' H' h=>a8 _ _ #[_,.aD,.aD,h]]]
   ·rintro i σ G ax ⟨⟨jc,rfl⟩,eE,⟨n,Nt⟩,ds,vQ,qr,e_,r7⟩;refine #[_,rfl,.inl #[rfl,_,a9.of vQ],?_];dsimp only [cy];refine ahs (pl:=pl) (i:=i) rfl rfl rfl .aD Nt (eE _ _ CC HN B9) .aD hm λ cz cC Ez e4 iu V7 Wq=>#[dd,ds,_,rfl,rfl,e4 _ _ tn vQ,by rw [ef];omega,λ EA dK ai=>?_]
    have k1:=dJ.but e4 Nt iu;have k2:=dJ.but dK (e4 _ _ tn vQ) ai;refine #[#[_,rfl],λ c o cC dB h=>dK _ _ dB (e4 _ _ cC (eE _ _ cC dB h)),#[cC,dK _ _ (ek tn) iu],_,ai,by rw [fm,qr];rfl,((e_.dF k1).dF k2).app (V7.dF k2),λ _=>?_];by_cases Vi:i=0
    ·rw [List.length_eq_zero_iff.mp (qr.trans Vi)];exact Wq.dF k2
    ·exact (((r7 .aD).dF k1).dF k2).app
  rintro σ qi ⟨ala,alH,alI,⟨jc,rfl⟩,eE,⟨GU,es⟩,ds,Cu,qr,e_,r7⟩;dsimp only [iS,lQ];refine aeD λ b6 alP o6 M1 ua vO GI O9=>?_
  refine #[_,rfl,_,rfl,pt,GU,10,rfl,ua _ _ es,.aA,.aA,λ akM GV vE xG ya hW HC=>?_];have v3:dJ o6 vE:=dJ.but hW (ua _ _ es) HC;obtain ⟨v,ba,df⟩:=C7 O9 xG (by rw [GI];exact ya);refine #[b6,_,_,_,rfl,rfl,a9.of (hW _ _ (nM M1 es) vO),ba,v,rfl,(df.dF v3).1,(df.dF v3).2,λ VP zg=>#[rfl,_,rfl,?_]];rw [cc rfl];refine bA #[_,rfl,pt,GV,rfl,zg _ _ HC,λ YD Ft MU O_=>#[_,rfl,bA ?_]];have CM:bN pt qi Ft:=(bN.of ua).trans (hW.trans ((bN.of zg).trans MU));have H3:=dJ.but CM es O_;have HG:jI pt dd fg Ft:=λ c o cC dB h=>CM _ _ cC (eE _ _ cC dB h)
  have O4:=CM _ _ tn Cu;have PN:=e_.dF H3;have PQ:=(r7 .aD).dF H3;have Hg : ∀ G,jI pt dd fg G->a9 K G a (ns.map V.int):=λ G k=>by
   rcases dT with (h | ⟨u,h⟩) | h
   ·exact .inl (.inl (k _ _ (cf h kg) (cf h FO) (Fx _ _ h)))
   ·exact .inl (.inr #[u,k _ _ (cf h kg) (cf h FO) (Fx _ _ h)])
   ·exact .inr h
  clear CM H3 eE e_ r7 Cu ua M1 vO O9 hW HC v3 zg MU df ba es;refine #[_,rfl,a,_,rfl,.inl (Hg _ HG),_,_,rfl,_,_,rfl,?_];generalize n9:(if (if (21:Int)<((ns.map V.int).length:Int) then (21:Int) else ((ns.map V.int).length:Int)) > 2 then (if (21:Int)<((ns.map V.int).length:Int) then (21:Int) else ((ns.map V.int).length:Int)) else 2)=m;have ak6:0<=m/\m<=21:=by
   rw [<-n9];split<;>split<;>omega
  refine #[1,m,rfl,#[.aA,.aA,.aD,.aD],oQ (n:=(m - 1).toNat) (λ i σ G=>(∃ (p:Addr) (jc u8 n0 lO:dG),σ=[some (.ref a),some (.ref p),some (.ref pl),some (.ref pr),some (.ref bn),some (.ref bf),some (.ref dd),jc,u8,n0,lO,none,none,none]/\(∃ n:Int,G p=some (.lst [.int n]))/\p≠dl/\p≠bf/\p≠dd)/\jI pt dd fg G /\ ∃ ds,G dd=some (.lst ds)/\ds.length<=12+i/\jd G ds/\ps G ds) #[#[pt,_,_,_,_,rfl,#[YD,O_],m2,tm,ek tn],HG,ds,O4,.aD,PN,PQ] ?_ ?_]
  ·rintro i σ G ax ⟨⟨p,jc,u8,n0,lO,rfl,-,-,-,-⟩,eE,ds,vQ,qr,e_,r7⟩;refine #[_,rfl,_,rfl,a,ns,_,rfl,Hg _ eE,.aD,λ c=>#[c,rfl,λ n dm fk=>?_]];have AY:aE G (upd G dm (.lst [.int n])):=λ cq o e=>by rw [bj (cf e fk)];exact e
   refine #[_,rfl,_,rfl,_,rfl,bf,_,_,_,rfl,rfl,a9.of (AY _ _ (eE _ _ (ek tm) (ek xE) B0)),rfl,dm,pl,cG,n,ag,[],[],rfl,bL,AY _ _ (eE _ _ CC HN B9),.aD,hm,.inl (AY _ _ (eE _ _ Pn Pm ze)),.nil,.aA,(λ p aw=>by cases aw),λ cz way v bC hS bW dX pf jO hO=>?_];have Ml:aE G bW:=λ cq o e=>dX _ _ (cf e fk) (AY _ _ e)
   refine #[λ σ' H' => ∃ (Bx:Addr) (PI:dG) (b1:Int),σ'=[some (.ref a),some (.ref dm),some (.ref pl),some (.ref pr),some (.ref bn),some (.ref bf),some (.ref dd),some (.int (1+(i:Int))),u8,some (.ref Bx),PI,none,none,none]/\aE G H'/\H' dm=some (.lst [.int b1])/\jd H' [.ref Bx],?_,?_]
   ·refine #[_,rfl,dm,hS,3,rfl,pf,.aA,.aA,λ Mo lA dO xG p6 hC fQ=>#[rfl,_,rfl,eJ (λ _=>?_) (λ _=>?_)]]
    ·dsimp only [iS,lQ];refine aeF (K:=K) rfl fQ λ x ja dv gN mw bu=>?_
     refine aeB (K:=K) rfl rfl bu mw λ V6 xS AS kA ZX V8=>#[V6,_,xS,rfl,λ cq o e=>?_,ZX,V8]
     have d0:=cf e fk;exact kA _ _ d0 (gN _ _ d0 (hC _ _ d0 (Ml _ _ e)))
    ·exact #[cz,_,lA,rfl,λ cq o e=>hC _ _ (cf e fk) (Ml _ _ e),fQ,(jd.one jO hO.w).dF (dJ.but hC pf fQ)]
   ·rintro σ' hB ⟨Bx,PI,b1,rfl,ee,lL,V9⟩;have Gh:=ee _ _ vQ;refine #[_,rfl,.inl #[rfl,_,a9.of Gh],_,rfl,dd,_,_,rfl,rfl,Gh,by rw [ef];omega,λ akB r0 ji=>?_];have sb:=dJ.but r0 Gh ji;have zc:dm≠dd:=nM fk vQ;exact #[#[dm,_,_,_,_,rfl,#[b1,r0 _ _ zc lL],nM fk (eE _ _ (ek m2) (ek A0) FF),nM fk (eE _ _ (ek tm) (ek xE) B0),zc],λ c o cC dB h=>r0 _ _ dB (ee _ _ (eE _ _ cC dB h)),_,ji,by rw [fm];show ds.length+1<=_;omega,((e_.dF (dJ.of ee)).dF sb).app (V9.dF sb),((r7.dF (dJ.of ee)).dF sb).app]
  rintro σ bx ⟨⟨p,jc,u8,n0,lO,rfl,Nr,N4,N5,YV⟩,eE,ds,Nh,qr,e_,r7⟩;have ak4:ds.length<=32:=by omega
  have t6 : ∀ {c:Addr} {o:e6},fg c=some o->(∀ xs,o≠.lst xs)->bx c=some o:=λ {c o} h n=>eE c o (cW h Ca (n _)) (cW h fA (n _)) h
  have kt:mi fg bx:=λ c ys h=>t6 h (by intro _ z;cases z)
  obtain ⟨S,yq⟩ : ∃ S:qN,S=⟨bn,pr,hd,dl,dd,bf,cG,Wa,xs,[],fs⟩:=#[_,rfl]
  have ev:Ev T bx S p:=by
   rw [yq];exact #[t6 Nd (by intro _ z;cases z),kt _ _ Pa,O8.eA kt,by show xs.length<=16;omega,t6 Gg (by intro _ z;cases z),eE _ _ (ek m2) (ek A0) FF,eE _ _ (ek tm) (ek xE) B0,t6 ze (by intro _ z;cases z),Nr,a1,a2,N4,N5]
  have Yz:dd∉fa S p:=by
   rw [yq];unfold fa;simp only [c1,fR,fS];rintro (z | z | z | z)
   ·exact cW fA Gg nofun z
   ·exact A0 z
   ·exact xE z
   ·exact YV z.symm
  have Z9 : ∀ {c:Addr},c∈fa S p->c=S.hd\/c=S.dl\/c=S.bf\/c=p:=λ {c} h=>by
   unfold fa at h;simpa only [c1,fR,fS] using h
  have aaf:S.cG≠p:=by
   obtain ⟨mb,h0⟩:=ev.yX;exact cW ev.yY h0 nofun
  have NU:S.hd≠p:=by
   obtain ⟨mb,h0⟩:=ev.yX;exact cW ev.qy h0 nofun
  have MX : ∀ {H1 au:az} {f5:bl} {kvs:List (Key×V)} {aQ:d9} {ls:List hV} {n:Int},gY bx H1 S f5 kvs aQ ls->bN p H1 au->H1 p=some (.lst [.int n])->gY bx au S f5 kvs aQ ls:=λ {H1 au f5 kvs aQ ls n} d b aw=>by
   refine d.f6 (cI.but b) (λ m hm=>by rw [eC.mp hm];exact .inl #[_,aw]) (λ c ak=>?_) (b _ _ NU d.hd);simp only [c1,fR,fS] at ak;rw [eC];rcases ak with rfl | rfl | rfl
   ·exact ek ev.zc
   ·exact ek ev.NZ
   ·exact aaf
  have Wf:S.bn=bn/\S.pr=pr/\S.bf=bf:=by rw [yq];exact #[rfl,rfl,rfl]
  have qn:S.xs=xs/\S.fs=fs:=by rw [yq];exact #[rfl,rfl]
  obtain ⟨rfl,rfl,rfl⟩:=Wf;obtain ⟨rfl,rfl⟩:=qn;clear t6 kt Nd Pa O8 Gg FF ze B0 Ca B9 Fx a1 a2 m2 tm A0 xE tn HN Pn Pm CC eE HG Hg O4 PN PQ dT FO kg N4 N5 yq;have NH:gY bx bx S (hK S.cG []) [] [] []:=#[ev.qy,ev.BW,ev.yW,.nil,.refl _,.inl ev.yY,trivial]
  obtain ⟨Pv,ye⟩ : ∃ Pv:Nat->St->az->Prop,Pv=(λ j σ G=>(∃ jc u8 n0 lO nu wb Cj:dG,σ=[some (.ref a),some (.ref p),some (.ref pl),some (.ref S.pr),some (.ref S.bn),some (.ref S.bf),some (.ref dd),jc,u8,n0,lO,nu,wb,Cj])/\(∀ c o,c∉fa S p->bx c=some o->G c=some o)/\(∃ n:Int,G p=some (.lst [.int n])) /\ ∃ kvs aQ ls,gY bx G S (hK S.cG ls) kvs aQ ls/\ls.length<=j/\(j=0\/ls≠[])):=#[_,rfl]
  refine #[_,rfl,dd,rfl,#[_,a9.of Nh],RA (K:=K) (a:=dd) (xs:=ds) Pv (by rw [ye];exact #[#[_,_,_,_,_,_,_,rfl],λ _ _ _ h=>h,Nr,[],[],[],NH,b9 _,.inl rfl]) (λ j σ G b5 h=>by rw [ye] at h;exact a9.of (h.2.1 _ _ Yz Nh)) ?_ ?_]
  ·intro j x σ H1 aj yn;rw [ye] at yn;obtain ⟨⟨jc,u8,n0,lO,nu,wb,Cj,rfl⟩,t7,⟨cC,iu⟩,kvs,aQ,ls,fZ,pd,b5⟩:=yn;have alC:j<32:=by have:=(fJ.mp aj).1;omega
   obtain ⟨cz,way,v,bC,rfl,O5,V_⟩:=e_ x (dr aj);have NM:cI (fa S p) bx H1:=λ c o n h=>.inl (t7 c o n h)
   have BZ:dJ bx H1:=λ c o h=>by
    by_cases ak:c∈fa S p
    ·rcases Z9 ak with rfl | rfl | rfl | rfl
     ·rw [ev.qy] at h;cases h;exact .inr (.inr #[_,_,rfl,fZ.hd])
     ·rw [ev.BW] at h;cases h;exact .inr (.inl #[_,_,rfl,fZ.dl])
     ·rw [ev.yW] at h;cases h;exact .inr (.inl #[_,_,rfl,fZ.bf])
     ·obtain ⟨mb,h0⟩:=ev.yX;rw [h0] at h;cases h;exact .inr (.inl #[_,_,rfl,iu])
    ·exact .inl (t7 c o ak h)
   have Cv:=BZ.tup O5;have FG:=V_.dF BZ;have fst:j=0->way = "put" /\ ∀ x,¬ ui (iU ls) H1 way v bC x:=λ A9=>by
    subst A9;obtain ⟨Bx,l8,e7,B_,ah,ai,aH,a4,b4,dM⟩:=r7;rw [aj] at ah;cases ah;rw [O5] at ai;cases ai;have av:=aer (BZ.tup a4) b4 dM;obtain rfl:ls=[]:=List.length_eq_zero_iff.mp .aD;refine #[rfl,λ x vy=>?_];rcases vy with ⟨_,h | h⟩ | ⟨_,_,_,h⟩ | ⟨_,_,_,_,_,h⟩
    ·rw [aH] at h;cases h
    ·exact h.1 rfl
    ·rw [av] at h;cases h
    ·exact absurd (show 0=12 from h) .aA
   obtain ⟨J,A3⟩ : ∃ J:St->az->Prop,J=λ σ' G=>(∃ nu wb:dG,σ'=[some (.ref a),some (.ref p),some (.ref pl),some (.ref S.pr),some (.ref S.bn),some (.ref S.bf),some (.ref dd),jc,u8,some (.ref cz),lO,nu,wb,Cj])/\(∀ c o,c∉fa S p->bx c=some o->G c=some o)/\(∃ n:Int,G p=some (.lst [.int n])) /\ ∃ kvs aQ ls,gY bx G S (hK S.cG ls) kvs aQ ls/\ls.length<=j+1/\ls≠[]:=#[_,rfl]
   refine #[J,?_,?_]
   ·refine #[_,rfl,cz,_,_,_,rfl,rfl,a0.of Cv,rfl,rfl,_,rfl,?_];by_cases br:way = "undo"
    ·subst br;rw [cc rfl];refine bA ?_;show J _ _;rw [A3];exact #[#[_,_,rfl],t7,#[cC,iu],kvs,aQ,ls,fZ,.aD,b5.resolve_left λ z=>absurd (fst z).1 .aA]
    ·rw [oM br];have qc:=ev.N8 NM;refine cA #[_,rfl,S.pr,S.xs,S.fs,rfl,qc.1,qc.2,by have:=ev.zt;omega,λ bz au ts f2 s2 ai b0=>?_];have NN:=NM.trans (cI.same s2);have iI:=fZ.f6 (M:=[]) (cI.same s2) (λ _ h=>by cases h) (λ _ _ h=>by cases h) (s2 _ _ fZ.hd);have gt:=iI.st.good;have vN:=FG.dF (dJ.of s2);have hw:(way = "put" /\ dg au bC)\/(way = "run" /\ ∃ m:Int,bC=.int m/\0<=m/\m<=2000)\/way = "drop" := by
      rcases vN with ⟨ah,_,ai⟩ | ⟨ah,_,ai⟩ | ⟨ah,_⟩ | ⟨ah,_⟩
      ·exact .inl #[ah,ai]
      ·exact .inr (.inl #[ah,ai])
      ·exact .inr (.inr ah)
      ·exact absurd ah br
     refine #[_,rfl,1,rfl,S.bf,_,_,_,rfl,rfl,a9.of iI.bf,Ip _ _,_,rfl,bz,qU S.cG ls,cz,ts,S.fs,CJ ls,iU ls,way,v,bC,rfl,ai,b0,iI.st.top iI.cG,iI.st.dict,gt.2.1,λ p aw=>(gt.2.2 p aw).2,s2 _ _ Cv,(vN.nm br).1,hw,λ aY x aW vy s3 aH=>?_,λ aY hO lt klt hp aW s3 di aH ea Gk st=>?_]
     ·have GO:=NN.trans (cI.same s3);have tq:=iI.f6 (M:=[]) (cI.same s3) (λ _ h=>by cases h) (λ _ _ h=>by cases h) (s3 _ _ iI.hd);refine #[aY,_,rfl,aH,rfl,_,_,rfl,_,_,rfl,rfl,?_];refine #[_,rfl,_,rfl,?_];refine ev.aba (E:=iC) GO tq (n:=j) pd .aD (s3 _ _ (s2 _ _ Cv)) (vN.dF (dJ.of s3)) br (vy.dF (dJ.of s3) vN) λ bc s4=>#[_,rfl,.inl #[_,_,rfl,trivial,rfl,_,rfl,?_]]
      rw [cc rfl];obtain ⟨t,ty,e⟩:=qX (K:=K) (H:=bc) (v:=.str x) trivial;refine bA #[_,rfl,.str x, "str", t,_,rfl,ty,e,_,rfl,bA ?_];show J _ _;rw [A3];refine #[#[_,_,rfl],λ c o n h=>s4 _ _ (s3 _ _ (s2 _ _ (t7 c o n h))),#[cC,s4 _ _ (s3 _ _ (s2 _ _ iu))],kvs,aQ,ls,tq.f6 (M:=[]) (cI.same s4) (λ _ h=>by cases h) (λ _ _ h=>by cases h) (s4 _ _ tq.hd),.aD,b5.resolve_left λ z=>?_];have Y5:ui (iU ls) H1 way v bC x:=by
       rcases vy with h | ⟨ah,ai,aH,a4⟩ | ⟨ah,ai,aH,a4,b4⟩
       ·exact .inl h
       ·exact .inr (.inl #[ah,ai,aH,by rw [<-Ax (FG.put aH) (dJ.of s2)];exact a4])
       ·exact .inr (.inr #[ah,ai,aH,by rw [<-Ax (FG.put aH) (dJ.of s2)];exact a4,b4])
      exact (fst z).2 x Y5
     ·have GO:=NN.trans (cI.same s3);have tq:=iI.f6 (M:=[]) (cI.same s3) (λ _ h=>by cases h) (λ _ _ h=>by cases h) (s3 _ _ iI.hd);have mb:bx lt=none:=by
       cases h0:bx lt with
       | none=>rfl
       | some o =>
        exfalso;obtain ⟨ey,ah⟩ : ∃ ey,H1 lt=some ey:=by
         rcases BZ _ _ h0 with z | ⟨_,_,_,z⟩ | ⟨_,_,_,z⟩<;>exact #[_,z]
        have:=s2 _ _ ah;rw [di] at this;cases this
      refine #[aY,_,rfl,aH,rfl,_,_,rfl,_,_,rfl,rfl,?_];refine #[_,rfl,_,rfl,?_];refine ev.abb (E:=iC) GO (lt:=lt) tq (n:=j) pd .aD (s3 _ _ (s2 _ _ Cv)) (vN.dF (dJ.of s3)) mb ea Gk (st.dF (dJ.of s3) vN) λ bc mE ql l kF j5 i_=>#[_,rfl,.inl #[_,_,rfl,by rcases st.kind with rfl | ⟨k,rfl⟩<;>trivial,by rcases st.kind with rfl | ⟨k,rfl⟩<;>rfl,_,rfl,?_]]
      rw [cc rfl];have ma:dV bc hO:=by rcases st.kind with rfl | ⟨k,rfl⟩<;>trivial
      have f5:y0 hO=false:=by rcases st.kind with rfl | ⟨k,rfl⟩<;>rfl
      obtain ⟨t,ty,e⟩:=qX (K:=K) ma;refine bA #[_,rfl,hO, "str", t,_,rfl,ty,e,_,rfl,?_];rw [f5];refine cA #[_,rfl,.inl #[rfl,_,a9.of i_.bf],_,rfl,S.bf,_,_,rfl,rfl,i_.bf,by rw [sM,ef];omega,λ bW dX b4=>?_];have jR:mj bx bc [S.bf]:=λ m hm=>by rw [eC.mp hm];exact .inl #[_,i_.bf]
      have vh:gY bx bW S (hK S.cG (l::ls)) mE ql (l::ls):=by
       refine #[dX _ _ (cW i_.hd i_.bf nofun) i_.hd,dX _ _ ev.G0 i_.dl,by rw [<-j5] at b4;exact b4,i_.D.eA ((cI.but dX).eA jR),i_.pm,(cI.but dX).cY ?_ i_.cG,i_.st.f6 (cI.but dX) jR];rw [eC];exact cW ev.yY ev.yW nofun
      have nm : ∀ {c:Addr},c∉fa S p->c≠S.hd/\c≠S.dl/\c≠S.bf:=λ {c} n=>#[λ z=>n (by rw [z];unfold fa;simp),λ z=>n (by rw [z];unfold fa;simp),λ z=>n (by rw [z];unfold fa;simp)]
      show J _ _;rw [A3];exact #[#[_,_,rfl],λ c o n h=>dX _ _ (nm n).2.2 (kF _ _ (nm n).1 (nm n).2.1 (s3 _ _ (s2 _ _ (t7 c o n h)))),#[cC,dX _ _ ev.NZ (kF _ _ (ek NU) ev.zc (s3 _ _ (s2 _ _ iu)))],mE,ql,l::ls,vh,by rw [j1];omega,.zs]
   ·intro σ' dO vo;rw [A3] at vo;obtain ⟨⟨nu,wb,rfl⟩,Yr,⟨lA,fQ⟩,kvs,aQ,ls,EJ,pd,fC⟩:=vo;dsimp only [iS,lQ];refine agl (K:=K) rfl fQ λ v ja dv gN mw rN=>?_
    refine #[_,rfl,_,rfl,p,ja,4,rfl,mw,.aA,.aA,λ w xS AS gH x1 kA yN=>?_];have tr:=MX (MX EJ gN fQ) kA mw;have np : ∀ {c:Addr},c∉fa S p->c≠p:=λ {c} n z=>n (by rw [z];unfold fa;simp)
    have NL : ∀ c o,c∉fa S p->bx c=some o->AS c=some o:=λ c o n h=>kA _ _ (np n) (gN _ _ (np n) (Yr c o n h))
    have GP:cI (fa S p) bx AS:=λ c o n h=>.inl (NL c o n h)
    have jE:=(tr.st.good).perm tr.pm;have YR:=(dJ.but kA mw yN).kind rN.1;have held:la kvs v=none:=by
     cases v with
     | str x =>
      refine tr.D.none ?_;cases av:d2 aQ x with
      | none=>rfl
      | some bX =>
       have g:=(jE.2.2 (x,bX) (u3 av)).1;rcases rN.2 x rfl with z | z
       ·rw [show fD (.str x)=true from g.1] at z;cases z
       ·exact absurd z g.2
     | _=>rfl
    refine #[_,rfl,S.bn,S.pr,S.hd,S.dl,S.aL,kvs,hJ ls,w,v,rfl,ev.FD GP,ev.bn GP tr,by rw [tr.D.len];have:=jE.2.1;omega,by rw [C8];omega,YR,held,λ hB ee=>#[rfl,_,rfl,?_]];rw [cc rfl];have xI:=tr.f6 (M:=[]) (cI.same ee) (λ _ h=>by cases h) (λ _ _ h=>by cases h) (ee _ _ tr.hd);refine bA #[_,rfl,_,rfl,1,rfl,S.bf,_,_,_,rfl,rfl,a9.of xI.bf,Ip _ _,?_];dsimp only [dI];refine ev.Qd (E:=iC) (n:=j+1) (GP.trans (cI.same ee)) xI pd λ qi sb alK V5=>#[_,rfl,bA ?_]
    show Pv _ _ _;rw [ye];refine #[#[_,_,_,_,_,_,_,rfl],λ c o n h=>sb _ _ ?_ (ee _ _ (NL c o n h)),#[xS,sb _ _ ?_ (ee _ _ yN)],kvs,aQ,ls,V5,pd,.inr fC]
    ·cases ls with
     | nil=>exact absurd rfl fC
     | cons l ls =>
      exact cf h xI.st.1.new
    ·obtain ⟨mb,h0⟩:=ev.yX;cases ls with
     | nil=>exact absurd rfl fC
     | cons l ls =>
      exact cf h0 xI.st.1.new
  ·intro σ H1 yn;rw [ye] at yn;obtain ⟨⟨jc,u8,n0,lO,nu,wb,Cj,rfl⟩,t7,⟨cC,iu⟩,kvs,aQ,ls,fZ,pd,b5⟩:=yn;exact #[_,rfl,_,rfl,bx,S,p,kvs,aQ,ls,rfl,ev,λ c o n h=>.inl (t7 c o n h),fZ,.aD,q]
end
theorem all_mk {l:W.OpenLaw} {w:World} {K:W.Frag} {h:Heap} {h4 oU fW ta tf i4 td i6 tb i5 te i3 i2 s_ i1 D1 Am:Addr} (X:K.In h) (G:h.Ns mainGlobals mg) (Xl:mg "law" = some (.ref h4))
  {agh agz:Str} {afD:List Value} {agG:bT} {ah6:List Value} {afA:Bool} {aho:Option Bool} {afQ agk afB:Option Addr} {ahB ahC ahD ahE ahF:c0} {afX afP agt Sj afM:Value} {agD:Array c0}
  {Jy:Addr} {agQ agR agS agT agU agV agW agX agY agZ:Tok} {aev:Nat} {ad2:Option Addr} {agE:Array c0}
  (h0:dk K "is_whole" Kb)
  (ah:dk K "is_powers" Ko)
  (ai:dk K "powers_of" Ku)
  (aH:dk K "how_often" Kn)
  (a4:dk K "without_primes" LD)
  (b4:dk K "is_program" KN)
  (dM:dk K "is_fraction" KY)
  (hF:dk K "is_term" JT)
  (fA:dk K "changes_of" KL)
  (lx:dk K "fraction_changes" L5)
  (ji:dk K "fits" Iq)
  (vO:dk K "first_of" Ka)
  (jM:dk K "moved" I5)
  (FW:dk K "stretch_steps" Ln)
  (FX:dk K "steps_to_lack" Lm)
  (FY:dk K "steps_to_fit" La)
  (yj:dk K "leap" Ir)
  (FZ:dk K "is_name" JS)
  (WA:dk K "gone_on" JR)
  (F0:dk K "_law_cell_at" Kp)
  (F2:dk K "_law_pot" I3)
  (F3:dk K "_law_take" Jr)
  (F4:dk K "_law_order" JU)
  (WB:dk K "_law_places" Kc)
  (WC:dk K "_law_primes" Kd)
  (WD:dk K "_law_product" Kr)
  (WE:dk K "_law_fraction" KP)
  (WG:dk K "_law_program" Ks)
  (WH:dk K "_law_calm_program" LB)
  (WI:dk K "_law_line" Jo)
  (WJ:dk K "_law_exps" Jn)
  (WK:dk K "_law_table" JV)
  (WL:dk K "_law_whole" JW)
  (WM:dk K "_law_same" Jq)
  (WN:dk K "_law_first_of" KO)
  (WO:dk K "_law_put" I4)
  (WQ:dk K "_law_gone_through" LC)
  (WR:dk K "_law_line_right" K_)
  (WS:dk K "_law_bench_due" KZ)
  (WT:dk K "_law_kind_of" Kq)
  (WU:dk K "_law_bench_told" K9)
  (WV:dk K "_law_bench_deed" K8)
  (WW:dk K "_law_bench_right" Ll)
  (WX:dk K "_law_refused" Kt)
  (WY:dk K "_law_made" Jp)
  (WZ:dk K "_law_far_right" K0)
  (W0:dk K "_law_undone" Ke)
  (W2:dk K "law" H9)
  (TJ:W.nsIn K mainGlobals "FractError" = some (some (.ref oU)))
  (Rp:W.nsIn K mainGlobals "AtRest" = some (some (.ref fW)))
  (adX:W.nsIn K mainGlobals "NoText" = some (some (.ref ta)))
  (ahi:W.nsIn K mainGlobals "NoNumber" = some (some (.ref tf)))
  (Sb:W.nsIn K mainGlobals "TooMany" = some (some (.ref i4)))
  (afy:W.nsIn K mainGlobals "NoOrder" = some (some (.ref td)))
  (Tf:W.nsIn K mainGlobals "NoProgram" = some (some (.ref i6)))
  (adY:W.nsIn K mainGlobals "Shared" = some (some (.ref tb)))
  (SW:W.nsIn K mainGlobals "NoPowers" = some (some (.ref i5)))
  (afz:W.nsIn K mainGlobals "NoTrail" = some (some (.ref te)))
  (Rr:W.nsIn K mainGlobals "NoName" = some (some (.ref i3)))
  (Rq:W.nsIn K mainGlobals "NoDeed" = some (some (.ref i2)))
  (acp:W.nsIn K mainGlobals "NoRow" = some (some (.ref s_)))
  (aco:W.nsIn K mainGlobals "Bench" = some (some (.ref i1)))
  (TN:W.excIn K oU jJ "ValueError.__new__" = true)
  (D7:mZ K i4 oU)
  (Ef:mZ K i6 oU)
  (D0:mZ K i3 oU)
  (Ec:mZ K i5 oU)
  (DZ:mZ K i2 oU)
  (En:cO K i4 fW)
  (Lz:cO K i4 ta)
  (L3:cO K i4 tf)
  (LQ:cO K i4 td)
  (L_:cO K i4 i6)
  (LA:cO K i4 tb)
  (L4:cO K i4 i5)
  (LR:cO K i4 te)
  (Ly:cO K i4 i3)
  (Lx:cO K i4 i2)
  (Lj:cO K i4 s_)
  (LY:cO K i6 fW)
  (L1:cO K i6 ta)
  (Mb:cO K i6 tf)
  (L9:cO K i6 i4)
  (L7:cO K i6 td)
  (L2:cO K i6 tb)
  (Mc:cO K i6 i5)
  (L8:cO K i6 te)
  (L0:cO K i6 i3)
  (LZ:cO K i6 i2)
  (LP:cO K i6 s_)
  (Lf:cO K i3 fW)
  (Lh:cO K i3 ta)
  (LI:cO K i3 tf)
  (Lv:cO K i3 i4)
  (Ls:cO K i3 td)
  (LU:cO K i3 i6)
  (Li:cO K i3 tb)
  (LJ:cO K i3 i5)
  (Lu:cO K i3 te)
  (Lg:cO K i3 i2)
  (K5:cO K i3 s_)
  (LK:cO K i5 fW)
  (LN:cO K i5 ta)
  (L6:cO K i5 tf)
  (LX:cO K i5 i4)
  (LV:cO K i5 td)
  (Ma:cO K i5 i6)
  (LO:cO K i5 tb)
  (LW:cO K i5 te)
  (LM:cO K i5 i3)
  (LL:cO K i5 i2)
  (Lw:cO K i5 s_)
  (Lb:cO K i2 fW)
  (Ld:cO K i2 ta)
  (LG:cO K i2 tf)
  (Lr:cO K i2 i4)
  (Lp:cO K i2 td)
  (LS:cO K i2 i6)
  (Le:cO K i2 tb)
  (LH:cO K i2 i5)
  (Lq:cO K i2 te)
  (Lc:cO K i2 i3)
  (K4:cO K i2 s_)
  (Uv:cO K fW ta)
  (UJ:cO K fW tf)
  (UD:cO K fW i4)
  (UB:cO K fW td)
  (UO:cO K fW i6)
  (Uw:cO K fW tb)
  (UK:cO K fW i5)
  (UC:cO K fW te)
  (Uu:cO K fW i3)
  (Ut:cO K fW i2)
  (Uq:cO K fW s_)
  (Sw:K.lookup fW=some (excClassObj agh agz fW Am afD (.ref oU::jJ) true agG ah6 afA aho afQ ahB ahC ahD ahE ahF "ValueError.__new__"))
  (agj:W.nsOkIn K Am=true)
  (agg:W.nsIn K Am "__init__" = some (some (.ref D1)))
  (Sx:K.lookup D1=some ⟨.type "function", agk,.func (W.fnOf "__init__" "AtRest.__init__" (mQ xn) (jB xn) (bZ xn) .none afX afP agt afB Sj afM),agD⟩)
  (afJ:W.codeIn K Sj "AtRest.__init__" = true)
  (af3:W.keepIn K (.ref D1)=true)
  (afl:W.mroIn K fW (.ref oU)=some true)
  (agf:fW≠oU)
  (ag9:W.findIn K (.ref fW) "__getattribute__" = some (some (.builtin "BaseException.__getattribute__")))
  (ag_:W.findIn K (.ref fW) "__getattr__" = some none)
  (aha:W.findIn K (.ref fW) "__class__" = some (some (.builtin "object.__class__")))
  (ahc:W.specialIn K (.builtin "object.__class__") "__get__" = some (some (.builtin "getset_descriptor.__get__")))
  (ahd:W.takesIn K (.builtin "object.__class__")=some true)
  (SR:W.mroIn K fW (.type "object")=some true)
  (ahb:W.mroIn K fW (.type "BaseException")=some true)
  (afo:W.mroIn K fW (.type "ValueError")=some true)
  (agB:W.findIn K (.ref fW) "__setattr__" = some (some (.builtin "object.__setattr__")))
  (afU:W.findIn K (.ref fW) "steps" = some none)
  (ad0:kL K i1)
  (agb:W.makesIn K i1=true)
  (aem:W.keepIn K (.ref i1)=true)
  (ajs:W.findIn K (.ref i1) "deeds" = some none)
  (ajb:W.findIn K (.ref i1) "held" = some none)
  (ajO:W.findIn K (.ref i1) "program" = some none)
  (aiL:iE K i1 "__init__" "Bench.__init__" KI)
  (aik:iE K i1 "put" "Bench.put" Kl)
  (ail:iE K i1 "run" "Bench.run" Km)
  (aiI:iE K i1 "drop" "Bench.drop" KD)
  (aiM:iE K i1 "undo" "Bench.undo" KJ)
  (aja:iE K i1 "names" "Bench.names" KX)
  (ajr:iE K i1 "powers" "Bench.powers" K7)
  (aiJ:iE K i1 "gone" "Bench.gone" KG)
  (ajE:iE K i1 "held_by" "Bench.held_by" Lk)
  (aiH:iE K i1 "done" "Bench.done" KC)
  (aiK:iE K i1 "hold" "Bench.hold" KH)
  (abg:W.nsIn K mainGlobals "len" = some none)
  (ai7:W.nsIn K mainGlobals "isinstance" = some none)
  (abf:W.nsIn K mainGlobals "int" = some none)
  (ack:W.nsIn K mainGlobals "bool" = some none)
  (adO:W.nsIn K mainGlobals "tuple" = some none)
  (acn:W.nsIn K mainGlobals "list" = some none)
  (adN:W.nsIn K mainGlobals "range" = some none)
  (abh:W.nsIn K mainGlobals "max" = some none)
  (abi:W.nsIn K mainGlobals "min" = some none)
  (abe:W.nsIn K mainGlobals "all" = some none)
  (abk:W.nsIn K mainGlobals "zip" = some none)
  (abj:W.nsIn K mainGlobals "str" = some none)
  (afu:W.nsIn K mainGlobals "sorted" = some none)
  (aiA:W.nsIn K mainGlobals "enumerate" = some none)
  (acm:W.nsIn K mainGlobals "dict" = some none)
  (ai6:W.nsIn K mainGlobals "ValueError" = some none)
  (Lo : ∃ t,W.nsIn K mainGlobals "MOST_FRACTIONS" = some (some (.int 16 t)))
  (Kj : ∃ t,W.nsIn K mainGlobals "MOST_TERM" = some (some (.int 1000000000000 t)))
  (El : ∃ t,W.nsIn K mainGlobals "MOST_STRETCHES" = some (some (.int 2000 t)))
  (Kz : ∃ t,W.nsIn K mainGlobals "MOST_POWER" = some (some (.int 1000000 t)))
  (JG : ∃ t,W.nsIn K mainGlobals "LETTERS" = some (some (.str "abcdefghijklmnopqrstuvwxyz" t)))
  (K3 : ∃ t,W.nsIn K mainGlobals "MOST_LETTERS" = some (some (.int 8 t)))
  (Ky : ∃ t,W.nsIn K mainGlobals "MOST_NAMES" = some (some (.int 12 t)))
  (w2:W.nsIn K mainGlobals "PRIMES" = some (some (.ref Jy)))
  (aft:K.lookup Jy=some ⟨.type "tuple", ad2,.seq [.int 2 agQ,.int 3 agR,.int 5 agS,.int 7 agT,.int 11 agU,.int 13 agV,.int 17 agW,.int 19 agX,.int 23 agY,.int 29 agZ].toArray aev,agE⟩) :
  ∃ fd:FuncData,(∀ (s:Shared) (v:Value),BindsTo s fd ⟨[v],[]⟩ [("script", v)]) /\ ∀ base:Heap,K.In base->base.Ns mainGlobals mg->eo l.prog w K mg base cS CA h4 fd ["script"] (Dg K):=by
 obtain ⟨da,BA,al,F⟩:=W2;have e:=Xl.symm.trans (fV X G al);cases e;have Sa:=Il (st:=xn) Sx afJ af3;have T:bB K mg:=#[h0.dd X G hX,ah.dd X G hX,ai.dd X G hX,aH.dd X G iM,a4.dd X G hX,b4.dd X G hX,dM.dd X G hX,hF.dd X G hX,fA.dd X G hX,lx.dd X G hX,ji.dd X G iM,vO.dd X G iM,jM.dd X G ka,FW.dd X G ka,FX.dd X G iM,FY.dd X G ka,yj.dd X G ka,FZ.dd X G hX,WA.dd X G ka,F0.dd X G iM,F2.dd X G hX,F3.dd X G iM,F4.dd X G iM,WB.dd X G hX,WC.dd X G VX,WD.dd X G hX,WE.dd X G iM,WG.dd X G ka,WH.dd X G ka,WI.dd X G ka,WJ.dd X G hX,WK.dd X G hX,WL.dd X G hX,WM.dd X G iM,WN.dd X G iM,WO.dd X G VY,WQ.dd X G ka,WR.dd X G hX,WS.dd X G ka,WT.dd X G hX,WU.dd X G iM,WV.dd X G ka,WW.dd X G iM,WX.dd X G ka,WY.dd X G hX,WZ.dd X G hX,W0.dd X G iM,oU,fV X G TJ,fW,fV X G Rp,ta,fV X G adX,tf,fV X G ahi,i4,fV X G Sb,td,fV X G afy,i6,fV X G Tf,tb,fV X G adY,i5,fV X G SW,te,fV X G afz,i3,fV X G Rr,i2,fV X G Rq,s_,fV X G acp,i1,fV X G aco,#[fV X G TJ,TN],#[fV X G Sb,D7.e],#[fV X G Tf,Ef.e],#[fV X G SW,Ec.e],#[fV X G Rr,D0.e],#[fV X G Rq,DZ.e],D7.un,D7.fN,D7.xZ,En.k,Lz.k,L3.k,W.w3,LQ.k,L_.k,LA.k,L4.k,LR.k,Ly.k,Lx.k,Lj.k,Ef.un,Ef.fN,Ef.xZ,LY.k,L1.k,Mb.k,L9.k,L7.k,W.w3,L2.k,Mc.k,L8.k,L0.k,LZ.k,LP.k,D0.un,D0.fN,D0.xZ,Lf.k,Lh.k,LI.k,Lv.k,Ls.k,LU.k,Li.k,LJ.k,Lu.k,W.w3,Lg.k,K5.k,Ec.un,Ec.fN,Ec.xZ,LK.k,LN.k,L6.k,LX.k,LV.k,Ma.k,LO.k,W.w3,LW.k,LM.k,LL.k,Lw.k,DZ.un,DZ.fN,DZ.xZ,Lb.k,Ld.k,LG.k,Lr.k,Lp.k,LS.k,Le.k,LH.k,Lq.k,Lc.k,W.w3,K4.k,D1,_,#[fV X G Rp,#[_,_,_,_,_,_,_,_,_,_,_,_,_,_,Sw,agj,agg],TN,#[W.J3 SR,ag9,ag_,aha,ahc,ahd,SR,ahb],agB,#[_,Sx,rfl]],Sa,Sa.binds iM,#[#[_,_,_,_,_,_,_,_,_,_,_,_,_,_,_,_,Sw],afl,agf],afU,W.QX afo,W.w3,Uv.k,UJ.k,UD.k,UB.k,UO.k,Uw.k,UK.k,UC.k,Uu.k,Ut.k,Uq.k,ad0,ajs,ajb,ajO,aiL.Vr agb aem iM,aik.o3 ka,ail.o3 ka,aiI.o3 iM,aiM.o3 hX,aja.o3 hX,ajr.o3 iM,aiJ.o3 iM,ajE.o3 iM,aiH.o3 ka,aiK.o3 ka,ku X G abg,ku X G ai7,ku X G abf,ku X G ack,ku X G adO,ku X G acn,ku X G adN,ku X G abh,ku X G abi,ku X G abe,ku X G abk,ku X G abj,ku X G afu,ku X G aiA,ku X G acm,ku X G ai6,Jy,fV X G w2,λ H=>.inr #[_,_,_,aft,rfl,rfl,bo,(.cons #[_,rfl] (.cons #[_,rfl] (.cons #[_,rfl] (.cons #[_,rfl] (.cons #[_,rfl] (.cons #[_,rfl] (.cons #[_,rfl] (.cons #[_,rfl] (.cons #[_,rfl] (.cons #[_,rfl] .nil))))))))))],Lo.imp λ _=>fV X G,Kj.imp λ _=>fV X G,El.imp λ _=>fV X G,Kz.imp λ _=>fV X G,JG.imp λ _=>fV X G,K3.imp λ _=>fV X G,Ky.imp λ _=>fV X G]
 have UW:=F;obtain ⟨_,_,_,_,_,_,_,_,_,rfl,_,_⟩:=F.ex;exact #[_,λ s v=>.of_eq rfl,λ base _ _=>abF T UW]
theorem walk {l:PySem.W.OpenLaw} {q:Program} {d:DefRec} {K:Params->cD} (aF:l.most=some 63) (yx:d.params.defaults=[])
  (ES : ∀ (w:World) (h:Heap),ve w h->(K w.params).In h)
  (F : ∀ (w:World) (mg:Str->c0) (h4:Addr) (h:Heap),(K w.params).In h->h.Ns mainGlobals mg->mg d.name=some (.ref h4) ->
   ∃ fd:FuncData,(∀ (s:Shared) (u:Value),BindsTo s fd ⟨[u],[]⟩ [("script", u)]) /\ ∀ base:Heap,(K w.params).In base->base.Ns mainGlobals mg->eo l.prog w (K w.params) mg base cS CA h4 fd ["script"] (Dg (K w.params))) :
  PySem.W.WalkO q loose AZ ve l.row.toRowW d [] (λ f vs=>PySem.call f vs) :=
 bM.adI (n:=63) (k:=CA) (x := "script") (cH:=λ _=>cS) (sp:=λ w=>Dg (K w.params)) aF .aA yx #[rfl,.aA,.aA,rfl] ES F (λ _ _ a ns av _ dT=>#[a,ns,rfl,dT,av,λ _=>rfl]) λ _ _ _ _ _ z=>z
end cJ
open PySem PySem.W PyProof.Rows
namespace PySem.W.Fast
local macro_rules|`(universe $x*)=>do return Lean.mkNullNode (<-x.mapM fun n=>`(theorem $n:ident:True:=⟨⟩))
universe tw10021268056141098984 tw10040446054718760947 tw1004537677425020312 tw10097206948876089896 tw10227376189804784411 tw10337122320401494622 tw10346848751500645567 tw1037262361118900620 tw10392153355774958882 tw10453722740927114372 tw10475749036709192190 tw10506021037848328880 tw10593376941491042853 tw10598587467848682160 tw10702591181034834603 tw10745554687532751877 tw10751784362517230819 tw10770776239309092435 tw10789746265962840607 tw10873974274245218514 tw10879616115495010184 tw11030075681351967948 tw11067569996407274263 tw11092643749340100188 tw11094420415357402675 tw11109075812741199469 tw11119146092779155260 tw11136582175219718779 tw11160498774135704925 tw11169733454155352733 tw11182352391704345113 tw11187202181173636381 tw11227895809808360113 tw11311944470119118215 tw11414746461702221217 tw11448109122790926441 tw11465634000993061773 tw11465878960917739814 tw11613758960108438291 tw11621368090371476087 tw1164259825559027226 tw11669769580540946731 tw11737004805336185020 tw11741746652988839573 tw11867674948504055181 tw11933642899974811487 tw11938712249290178830 tw1196206109305302649 tw11996660532102305647 tw12000053280089536416 tw12037249250043922137 tw12046306441746692772 tw12064982273954115282 tw12087518170617941829 tw12196752587045149478 tw12228856452584272726 tw12278120883465763042 tw12316028875759437368 tw12316351810426660711 tw12400218797487046834 tw12438771031355242245 tw12529174480095537174 tw12553235831386807871 tw12573707138204318650 tw1265004293854826014 tw1266331084584125608 tw12701749404519382472 tw12712296347378625567 tw12797549483192396163 tw12869753483447530724 tw12961376602698414079 tw12981701516011257923 tw13100479628452248416 tw13118759337219031677 tw13295101681314628216 tw13303087455373861397 tw13322523782843779908 tw13378170053589513838 tw13437454013978922015 tw13449415866348338013 tw13513284425522885418 tw13529315865343538355 tw13590423901696008405 tw1360558120111589109 tw13673993625383390753 tw1368007715416173991 tw13729783358421101115 tw1377230496242927959 tw13813805712861167928 tw13869640800905850349 tw13876066246725466787 tw14092963902345146421 tw14093437588526701906 tw14221016587470123395 tw14256895511931407634 tw14309172742146402811 tw14313740466220977879 tw14392121626332364691 tw14396134327569581064 tw14445834706404943749 tw14476258577030678960 tw14517401898656661722 tw14558193824500567215 tw14613937079364688737 tw14620251336241883166 tw14630319049580650141 tw14639526488139095923 tw14645491643651335728 tw14662753886223269980 tw14671112446001284227 tw14720669793716778505 tw14745696366471207774 tw14760641232297254522 tw14808711649573381159 tw1484305193036525138 tw1485162957634382054 tw14902880645705393912 tw1493735412645361351 tw14944574254300378316 tw1501684068763126864 tw15029320764967262161 tw15049036385465900824 tw15053393670309567299 tw15057148880557413272 tw15082782987672453061 tw15141990464029075390 tw15164811078271283509 tw15220227331668495677 tw15231214087349463622 tw15284602430020850375 tw15312212581288359312 tw15336415435877965997 tw15390149994887152762 tw1539232229610831326 tw15432983935542714688 tw15510292687358425562 tw15510560612985776831 tw15518971213112875827 tw1555889514988688072 tw1557662062706314298 tw15636690495642219311 tw15648691059131574175 tw15799764386791575842 tw15814364805038966812 tw1583506013216991967 tw15928581043903777690 tw16021549759620352344 tw1602800087798365230 tw16061446778579307100 tw1609412321608175224 tw16099609343673720291 tw16131063253478874449 tw16142779702425352197 tw16153503889381854077 tw1626349473163293546 tw1633081944305540404 tw16351255576787521176 tw16394131767115494685 tw16448529631304861232 tw16471188813368549851 tw1651833841374161247 tw16525990529190380222 tw16547779493672585418 tw16610740353111192114 tw16627465586141004730 tw16672440928357990857 tw16692606794703785314 tw16727682502292465974 tw16900875989313974562 tw16961934824198665890 tw16969389729534349934 tw16978233283707015657 tw16988644235088770311 tw17137047914228257311 tw17241432237732569933 tw17418260127581453924 tw17433947827520337292 tw17536950061597608876 tw17623549078703145845 tw17797973652601135209 tw17870379113668081848 tw18104962095190332725 tw1817669714075640877 tw18205790354687568617 tw18299777523510380142 tw18390474021906440749 tw18443965995939699123 tw1862080461698136148 tw1876598551209349449 tw1886137807827685640 tw1917546910558272038 tw1921620057259768947 tw1935636664225484217 tw2015150817873950889 tw2066476536056665020 tw2085287160582745753 tw219161528477088094 tw2348966194855027698 tw2357564936497267446 tw237916002520607882 tw2396430334489361233 tw240951411281680351 tw2426253913040499032 tw2496657516283218233 tw2569859684183855707 tw2585886111973756851 tw2631433156338000607 tw2645944664916523869 tw2651123247947668631 tw2787194981087556336 tw280190891053264637 tw282291184942090202 tw2916107388621618939 tw2991590191163100673 tw3033788901218440350 tw3129024169076128051 tw3141492105036057970 tw3233778941934354390 tw3266243847660968990 tw326743987488280405 tw3334176917121251522 tw334187336044003206 tw3361596243385798832 tw340256982194043326 tw3445259889624296351 tw3741309774223396258 tw3749035957778112158 tw3749354750276035043 tw3797816354227130161 tw3865669600094936740 tw389646151096611051 tw394925470121027327 tw3949434375241297075 tw3980581709962910514 tw4063091260405518403 tw4102302614462867990 tw4103869191640265157 tw4114481443155137654 tw4115616115032791774 tw4174846877649735614 tw4189810019329504568 tw429192310633681454 tw4414155843254935707 tw4420625048160767466 tw4423873499833480688 tw4425464915064376569 tw4474899202206815130 tw4560942900274838171 tw4570280329622603423 tw4582518470808749754 tw4609688947259264510 tw4685582992900812139 tw4708315149115021171 tw4735486873930846916 tw4747080971537164354 tw4785132239825038977 tw4850072028190887035 tw4886536746651072894 tw4893260251642366652 tw4943263931074979061 tw5076898191021115996 tw5100779709609985824 tw513546390266027829 tw5144656384722460131 tw517061960438119252 tw5206565635743292450 tw5249099514813172826 tw5269525676648160799 tw5290102193740219915 tw5298518730881108050 tw5325012461084782151 tw5326763773157784480 tw5330451209239387254 tw5331144960401701618 tw5347377291833336275 tw5409719340639348527 tw5440915859676312302 tw5441735558595109248 tw5509197922779974113 tw5525607693311739727 tw5550235519778239255 tw5605272123202293705 tw5630240577721287759 tw5686075620775528284 tw5745655659481159114 tw5805822619181355458 tw5915645962254775578 tw5972859843869835982 tw5999441218064312747 tw6147224848716982759 tw6168200626891607821 tw6191307867918887815 tw6201601235717407630 tw6212721883522324933 tw6263071023222019080 tw6305469671928676520 tw6342583049881857224 tw6361866613861517673 tw6475553806375450510 tw6482003052609366456 tw654910331083774509 tw6634575247520724286 tw6659488255387077467 tw6701013167212732850 tw6808607208445352226 tw6965352677305080430 tw699846843088389286 tw7031500869594017453 tw7126307782615634339 tw7295402620440504324 tw7370403792093740524 tw7417945644167756497 tw7546330936812125743 tw7547254138156714547 tw7631652762950313509 tw7650220982906097875 tw778268831225334172 tw7817910433823936518 tw7836743062676730495 tw7902859079277520860 tw7950303580419250089 tw8051580272731172912 tw8153021496933023777 tw8236434661376695435 tw8246838894518181345 tw8257946429132232453 tw8321435510736519194 tw8334279807022664165 tw8371109904048721482 tw8378908535233183390 tw8416961042428207309 tw8444384636906011859 tw8498610849228749088 tw8509305822315880114 tw8524936147932578537 tw8542687659835451658 tw8551528591422282304 tw8608259485724910552 tw864882399242945604 tw8655088393332853985 tw8664619898580840747 tw8733235462333780290 tw8754763950995134846 tw8864318720583366548 tw8867643250666301494 tw8887846844330381505 tw889101754131869167 tw8908360197401428698 tw8957694273159764095 tw9009607469432840388 tw902366012295865880 tw9035770801206033449 tw9066952054404778379 tw9172258191706522064 tw9172273859777269758 tw9213950404938803842 tw9338099761489582351 tw9379393098613058212 tw9396454816222299778 tw947761878936852302 tw9502285995433499722 tw9569800186942460726 tw9634231869152730820 tw967617421847505924 tw977907930710119214 tw9809622972085562862 tw9849066822575374438 tw991125027738875364 tw9966186730589283093
end PySem.W.Fast
set_option maxRecDepth 100000 in
set_option maxHeartbeats 0 in
theorem PySem.Challenge.cw_wholefract_k92_benches_at_their_bounds_holds : PySem.Challenge.rw_wholefract_k92_benches_at_their_bounds.Holds := by
 w_on;o_law;k_head;(case hw=>w_witness2)
 k_fill
 refine cJ.walk (l:=PySem.Challenge.rw_wholefract_k92_benches_at_their_bounds) rfl rfl (λ w h Y=>PySem.W.kIn_of Y) ?F
 case F =>
  intro w mg h4 h j3 G yI;refine' cJ.all_mk j3 G yI ?_ ?_ ?_ ?_ ?_ ?_ ?_ ?_ ?_ ?_ ?_ ?_ ?_ ?_ ?_ ?_ ?_ ?_ ?_ ?_ ?_ ?_ ?_ ?_ ?_ ?_ ?_ ?_ ?_ ?_ ?_ ?_ ?_ ?_ ?_ ?_ ?_ ?_ ?_ ?_ ?_ ?_ ?_ ?_ ?_ ?_ ?_ ?_ ?_ ?_ ?_ ?_ ?_ ?_ ?_ ?_ ?_ ?_ ?_ ?_ ?_ ?_ ?_ ?_ ?_ ?_ ?_ ?_ ?_ ?_ ?_ ?_ ?_ ?_ ?_ ?_ ?_ ?_ ?_ ?_ ?_ ?_ ?_ ?_ ?_ ?_ ?_ ?_ ?_ ?_ ?_ ?_ ?_ ?_ ?_ ?_ ?_ ?_ ?_ ?_ ?_ ?_ ?_ ?_ ?_ ?_ ?_ ?_ ?_ ?_ ?_ ?_ ?_ ?_ ?_ ?_ ?_ ?_ ?_ ?_ ?_ ?_ ?_ ?_ ?_ ?_ ?_ ?_ ?_ ?_ ?_ ?_ ?_ ?_ ?_ ?_ ?_ ?_ ?_ ?_ ?_ ?_ ?_ ?_ ?_ ?_ ?_ ?_ ?_ ?_ ?_ ?_ ?_ ?_ ?_ ?_ ?_ ?_ ?_ ?_ ?_ ?_ ?_ ?_ ?_ ?_ ?_ ?_ ?_ ?_ ?_ ?_ ?_ ?_ ?_ ?_ ?_ ?_ ?_ ?_ ?_ ?_ ?_ ?_ ?_ ?_ ?_ ?_ ?_ ?_ ?_ ?_ ?_ ?_
  all_goals try (show cJ.dk _ _ _;exact cJ.dk.mk (by k_is) (by k_is) (by k_is) (by k_is))
  iterate 3 (all_goals try k_is)
  all_goals try (show cJ.mZ _ _ _;exact #[by k_exc,by k_is,by decide,by k_is,by k_is,by k_is,by k_is,by k_is,by k_is,by k_is,by k_is])
  all_goals try (show cJ.cO _ _ _;exact #[by k_is,by decide,by k_is,by k_is])
  all_goals try (show bM.kL _ _;exact #[by k_is,by k_is,by k_is,by k_is])
  all_goals try (show cJ.iE _ _ _ _ _;exact cJ.iE.mk (by k_is) (by k_is) (by k_is) (by k_is) (by k_is))
  all_goals try (show Exists _;exact #[_,by k_is])
  all_goals try k_exc
  all_goals try decide
  all_goals try kernel_rfl
  all_goals k_is