import PyProof.Rows.All
import Wide.All
import PyProof.EqAt
import PyProof.WalkInts
import OpenK.AllK
import Wide.FinOn
import Lean
import PyProof.EqKinds
import PyProof.TupleCall
import KE.KTryMore
import PyProof.EnumMake
import PyProof.Draws
import PyProof.Rows.MatchSeqLen
import PyProof.StrLawsTight
import PyProof.StrLawsChain
import KE.IntTextText
import PyProof.JoinWalk
import PyProof.Rows.StrWeight2
import PyProof.StrBlock2
import PyProof.FString
import PyProof.StrLawsOcc
import KE.KIntText
import PyProof.SliceStr2
import PyProof.FString5
import KE.KDictSum
import PyProof.Rows.SortStr
import KE.KDictOf
import PyProof.DictIter
import KE.KTops
import PyProof.ReprRoads
import PySem.Challenge.RW_wholefract_k75_whole_machine_and_program
set_option Elab.async false
set_option linter.all false
set_option maxRecDepth 100000
set_option maxHeartbeats 4000000
namespace Hd
open PySem PyProof.Rows
def In (A : Around) (h : Heap) : Prop := A.handled = none ∨ ∃ (e : Addr) (oe : Obj) (vs : Array Value), A.handled = some (.ref e) /\ h.get? e = some oe /\ oe.data = .fields vs /\ vs[2]? = some .none
theorem In.kept {A : Around} {h g : Heap} (a : In A h) (k : ∀ b o, h.get? b = some o -> g.get? b = some o) : In A g :=
  a.imp id fun ⟨e, oe, vs, h1, h2, r⟩ => ⟨e, oe, vs, h1, k _ _ h2, r⟩
theorem In.but {A : Around} {h g : Heap} {j : Addr} {o : Obj} (a : In A h) (ho : h.get? j = some o) (no : ∀ vs, o.data = .fields vs -> vs[2]? ≠ some .none) (k : Heap.ExtBut j h g) : In A g :=
  a.imp id fun ⟨e, oe, vs, h1, h2, h3, h4⟩ => ⟨e, oe, vs, h1, k e oe (fun z => by subst z; rw [ho] at h2; cases h2; exact no vs h3 h4) h2, h3, h4⟩
theorem two_no {a b : Value} : ∀ vs, Data.fields #[a, b] = Data.fields vs -> vs[2]? ≠ some .none := fun vs e => by
  injection e with e
  subst e
  exact fun z => nomatch z
theorem notNone (t : Addr) : ¬ ((Value.ref t == Value.none) = true) := Bool.false_ne_true
section
variable {prog : Program} {w : World} {A : Around} {E : Value -> Shared -> Prop} {s : Shared}
theorem new_some {α : Type} {a h : Addr} {o oh : Obj} {vs hs : Array Value} {Q : α -> Shared -> Prop} (hh : A.handled = some (.ref h)) (ne : h ≠ a)
    (ho : s.heap.get? a = some o) (hd : o.data = .fields vs) (hz : 2 < vs.size) (hoh : s.heap.get? h = some oh) (hdh : oh.data = .fields hs) (h2 : hs[2]? = some .none)
    (q : E (.ref a) { s with heap := s.heap.update a (Obj.mapFields (·.setIfInBounds 2 (.ref h))) }) : wpAny (model prog w) A (raiseNew (.ref a) : Sem α) Q E s := by
  unfold raiseNew
  refine wpAny_bind (wpAny_handled ?_)
  rw [hh]
  dsimp only
  rw [if_pos (by simpa using ne)]
  refine wpAny_bind (wpAny_holding (runValue_entry (b := Builtin.«proto.unchain») (entryFor_of_tree (by kernel_rfl)) ?_))
  unfold Builtin.«proto.unchain»
  dsimp only
  refine wpAny_bind (wpAny_field hoh hdh h2 ?_)
  rw [if_pos (show (Value.none == Value.none) = true from rfl)]
  refine wpAny_pure ⟨.none, rfl, ?_⟩
  refine wpAny_bind ?_
  unfold updateField
  refine wpAny_bind (wpAny_load ho ?_)
  rw [hd]
  dsimp only
  rw [if_pos hz]
  refine wpAny_update ho ?_
  exact wpAny_throw q
theorem stop {α : Type} {Q : α -> Shared -> Prop} (hh : In A s.heap)
    (q : ∀ g e, (∀ b o, s.heap.get? b = some o -> g.get? b = some o) -> (∃ o, g.get? e = some o /\ o.cls = .type "StopIteration") -> E (.ref e) { s with heap := g }) :
    wpAny (model prog w) A ((newExc (.type "StopIteration") [] >>= fun x => raiseNew x) : Sem α) Q E s := by
  refine wpAny_bind ?_
  simp only [newExc, newTuple]
  refine wpAny_bind (wpAny_newObj_type (wpAny_bind (m := firstArgMember _ _) (wpAny_of_eq (a := Value.none) (by first | rfl | (simp only [firstArgMember]; rfl)) (wpAny_newObj_type ?_ (by size_fits)))) (by size_fits))
  rcases hh with hh | ⟨e, oe, vs, h1, h2, h3, h4⟩
  · exact wpAny_raiseNew_none hh (q _ _ (fun b o y => Heap.get?_push_of_some _ (Heap.get?_push_of_some _ y)) ⟨_, Heap.get?_push_size _ rfl, rfl⟩)
  · have lt := Heap.lt_size h2
    refine new_some h1 (Nat.ne_of_lt (Nat.lt_of_lt_of_le lt (by rw [Heap.size_push]; exact Nat.le_succ _))) (Heap.get?_push_size _ rfl) rfl (by simp; omega) (Heap.get?_push_of_some _ (Heap.get?_push_of_some _ h2)) h3 h4 ?_
    refine q _ _ (fun b o y => ?_) ⟨_, Heap.get?_update_self _ (Heap.get?_push_size _ rfl) (Obj.isFreed_of_fields (Obj.data_mapFields rfl _)), (Obj.cls_mapFields ..).trans rfl⟩
    have lb := Heap.lt_size y
    refine (Heap.get?_update_other _ _ ?_).trans (Heap.get?_push_of_some _ (Heap.get?_push_of_some _ y))
    intro z
    rw [Heap.size_push] at z
    subst z
    exact Nat.lt_irrefl _ (Nat.lt_of_succ_lt lb)
theorem list_next {it l : Addr} {i : Nat} {items : Array Value} {Q : Fin -> Shared -> Prop} (hh : In A s.heap) (hit : s.heap.IsListIter it l i) (hl : s.heap.IsList l items) (hx : items[i]? = none)
    (q : ∀ g e, Heap.ExtBut it s.heap g -> (∃ o, g.get? e = some o /\ o.cls = .type "StopIteration") -> E (.ref e) { s with heap := g }) :
    wpAny (model prog w) A (Builtin.«list_iterator.__next__» ⟨[.ref it], []⟩) Q E s := by
  obtain ⟨o, ho, hc, hd⟩ := id hit
  obtain ⟨ol, hol, _, nl, hdl⟩ := hl
  show wpAny _ _ (field (.ref it) 0 >>= _) _ _ s
  refine wpAny_bind (wpAny_field ho hd (x := .ref l) rfl ?_)
  show wpAny _ _ (ite ((Value.ref l == Value.none) = true) _ _) _ _ s
  rw [if_neg (notNone _)]
  show wpAny _ _ (field (.ref it) 1 >>= _) _ _ s
  refine wpAny_bind (wpAny_field ho hd (x := .int i 0) rfl ?_)
  show wpAny _ _ (seqItems? (.ref l) >>= _) _ _ s
  refine wpAny_bind (wpAny_seqItems hol hdl ?_)
  simp only [Int.toNat_natCast, hx]
  refine wpAny_bind (wpAny_rule (wpAny_bind (wpAny_setField ho hd (by simp) ?_)))
  have k := (Heap.SameBut.update s.heap it (Obj.mapFields (·.setIfInBounds 0 .none))).extBut
  exact stop (hh.but ho (by rw [hd]; exact two_no) k) fun g e kp x => q g e (fun b o nb y => kp b o (k b o nb y)) x
theorem tup_next {it t : Addr} {i : Nat} {items : Array Value} {Q : Fin -> Shared -> Prop} (hh : In A s.heap) (hit : s.heap.IsTupleIter it t i) (hl : s.heap.IsTuple t items) (hx : items[i]? = none)
    (q : ∀ g e, Heap.ExtBut it s.heap g -> (∃ o, g.get? e = some o /\ o.cls = .type "StopIteration") -> E (.ref e) { s with heap := g }) :
    wpAny (model prog w) A (Builtin.«tuple_iterator.__next__» ⟨[.ref it], []⟩) Q E s := by
  obtain ⟨o, ho, hc, hd⟩ := id hit
  obtain ⟨ol, hol, _, nl, hdl⟩ := hl
  show wpAny _ _ (field (.ref it) 0 >>= _) _ _ s
  refine wpAny_bind (wpAny_field ho hd (x := .ref t) rfl ?_)
  show wpAny _ _ (ite ((Value.ref t == Value.none) = true) _ _) _ _ s
  rw [if_neg (notNone _)]
  show wpAny _ _ (field (.ref it) 1 >>= _) _ _ s
  refine wpAny_bind (wpAny_field ho hd (x := .int i 0) rfl ?_)
  show wpAny _ _ (seqItems? (.ref t) >>= _) _ _ s
  refine wpAny_bind (wpAny_seqItems hol hdl ?_)
  simp only [Int.toNat_natCast, hx]
  refine wpAny_bind (wpAny_rule (wpAny_bind (wpAny_setField ho hd (by simp) ?_)))
  have k := (Heap.SameBut.update s.heap it (Obj.mapFields (·.setIfInBounds 0 .none))).extBut
  exact stop (hh.but ho (by rw [hd]; exact two_no) k) fun g e kp x => q g e (fun b o nb y => kp b o (k b o nb y)) x
theorem list_end {it l : Addr} {i : Nat} {items : Array Value} {Q : Option Value -> Shared -> Prop} (hh : In A s.heap) (hit : s.heap.IsListIter it l i) (hl : s.heap.IsList l items) (hx : items[i]? = none)
    (q : ∀ g, Heap.ExtBut it s.heap g -> Q none { s with heap := g }) : wpAny (model prog w) A (pyNext (.ref it)) Q E s := by
  unfold pyNext
  refine wpAny_bind (wpAny_attempt (wpAny_callSpecial?_slot (name := Str.ofString "__next__") hit.typeIs slot_listiter_next (wpAny_call_entry slot_listiter_next hit.typeIs entry_listiter_next ?_ (args_listiter_next _))))
  exact list_next (A := A.in1) hh hit hl hx fun g e kp ⟨o, ho, hc⟩ => wpAny_bind (wpAny_isInstance (T := "StopIteration") (b := true) ⟨o, ho, hc⟩ isSubtype_stop (wpAny_pure (q g kp)))
theorem tup_end {it t : Addr} {i : Nat} {items : Array Value} {Q : Option Value -> Shared -> Prop} (hh : In A s.heap) (hit : s.heap.IsTupleIter it t i) (hl : s.heap.IsTuple t items) (hx : items[i]? = none)
    (q : ∀ g, Heap.ExtBut it s.heap g -> Q none { s with heap := g }) : wpAny (model prog w) A (pyNext (.ref it)) Q E s := by
  unfold pyNext
  refine wpAny_bind (wpAny_attempt (wpAny_callSpecial?_slot (name := Str.ofString "__next__") hit.typeIs F.slot_tuple_iterator_next (wpAny_call_entry F.slot_tuple_iterator_next hit.typeIs F.entry_tuple_iterator_next ?_ (F.args_tuple_iterator_next_1 _))))
  exact tup_next (A := A.in1) hh hit hl hx fun g e kp ⟨o, ho, hc⟩ => wpAny_bind (wpAny_isInstance (T := "StopIteration") (b := true) ⟨o, ho, hc⟩ isSubtype_stop (wpAny_pure (q g kp)))
theorem list_pull {it l : Addr} {i : Nat} {items : Array Value} {Q : Value -> Shared -> Prop} (hh : In A s.heap) (hit : s.heap.IsListIter it l i) (hl : s.heap.IsList l items) (hx : items[i]? = none)
    (q : ∀ g e, Heap.ExtBut it s.heap g -> (∃ o, g.get? e = some o /\ o.cls = .type "StopIteration") -> E (.ref e) { s with heap := g }) : wpAny (model prog w) A (Builtin.SmallTypes.nextOf (.ref it)) Q E s := by
  unfold Builtin.SmallTypes.nextOf
  exact wpAny_bind (wpAny_callSpecial?_slot (name := Str.ofString "__next__") hit.typeIs slot_listiter_next (wpAny_call_entry slot_listiter_next hit.typeIs entry_listiter_next (list_next (A := A.in1) hh hit hl hx q) (args_listiter_next _)))
theorem tup_pull {it t : Addr} {i : Nat} {items : Array Value} {Q : Value -> Shared -> Prop} (hh : In A s.heap) (hit : s.heap.IsTupleIter it t i) (hl : s.heap.IsTuple t items) (hx : items[i]? = none)
    (q : ∀ g e, Heap.ExtBut it s.heap g -> (∃ o, g.get? e = some o /\ o.cls = .type "StopIteration") -> E (.ref e) { s with heap := g }) : wpAny (model prog w) A (Builtin.SmallTypes.nextOf (.ref it)) Q E s := by
  unfold Builtin.SmallTypes.nextOf
  exact wpAny_bind (wpAny_callSpecial?_slot (name := Str.ofString "__next__") hit.typeIs F.slot_tuple_iterator_next (wpAny_call_entry F.slot_tuple_iterator_next hit.typeIs F.entry_tuple_iterator_next (tup_next (A := A.in1) hh hit hl hx q) (F.args_tuple_iterator_next_1 _)))
theorem enum_end {e it l : Addr} {i : Nat} {items : Array Value} {old : Value} {Q : Option Value -> Shared -> Prop} (hh : In A s.heap) (he : IsEnum s.heap e it i old) (hit : s.heap.IsListIter it l i) (hl : s.heap.IsList l items) (hx : items[i]? = none)
    (q : ∀ g, Heap.ExtBut it s.heap g -> Q none { s with heap := g }) : wpAny (model prog w) A (pyNext (.ref e)) Q E s := by
  have ty : s.TypeIs (.ref e) "enumerate" := ⟨_, he, rfl⟩
  unfold pyNext
  refine wpAny_bind (wpAny_attempt (wpAny_callSpecial?_slot (name := Str.ofString "__next__") ty F.slot_enumerate_next (wpAny_call_entry F.slot_enumerate_next ty F.entry_enumerate_next ?_ (F.args_enumerate_next_1 _))))
  show wpAny _ _ (field (.ref e) 2 >>= _) _ _ _
  refine wpAny_bind (wpAny_field he rfl (x := .ref it) rfl (wpAny_bind (list_pull (A := A.in1) hh hit hl hx fun g x kp ⟨o, ho, hc⟩ => ?_)))
  exact wpAny_bind (wpAny_isInstance (T := "StopIteration") (b := true) ⟨o, ho, hc⟩ isSubtype_stop (wpAny_pure (q _ kp)))
theorem items {t : Addr} {items : Array Value} {Q : List Value -> Shared -> Prop} (hh : In A s.heap) (ht : IsTup s.heap t items)
    (q : ∀ g, Heap.ExtBut s.heap.objs.size s.heap g -> Q items.toList { s with heap := g }) : wpAny (model prog w) A (unpackItems (.ref t) items.size none) Q E s := by
  have lt : t ≠ s.heap.objs.size := by
    obtain ⟨o, ho, _⟩ := ht
    exact Nat.ne_of_lt (Heap.lt_size ho)
  unfold unpackItems
  refine wpAny_bind ?_
  unfold notIterableAtAll
  refine wpAny_bind (wpAny_specialOf ht.typeIs slot_tuple_iter.lookup (wpAny_pure ?_))
  simp only [Bool.false_eq_true, if_false]
  refine wpAny_bind (wpAny_holding (iter_tuple ht (wpAny_bind (wpAny_holding (draw_tuple lt items.size 0 _ _ ⟨_, Heap.get?_push_size _ rfl, rfl, rfl⟩ (ht.push _) (by omega) fun g1 it1 s1 => ?_)))))
  rw [show List.take items.size (List.drop 0 items.toList) = items.toList by rw [List.drop_zero]; exact List.take_of_length_le (by simp), if_neg (by simp)]
  have t1 : IsTup g1 t items := (ht.push _).extBut s1.extBut lt
  have kp : ∀ b o, s.heap.get? b = some o -> g1.get? b = some o := fun b o y => s1.extBut b o (Nat.ne_of_lt (Heap.lt_size y)) (Heap.get?_push_of_some _ y)
  refine wpAny_bind (wpAny_holding (tup_end (hh.kept kp) (show Heap.IsTupleIter g1 s.heap.objs.size t (0 + items.size) from it1) (show Heap.IsTuple g1 t items from t1) (by simp) fun g2 e2 => ?_))
  simp only [Option.isSome_none, Bool.false_eq_true, if_false]
  exact wpAny_pure (q g2 fun b o nb y => e2 b o nb (kp b o y))
theorem to_tuple {env : Env} {elts : List Expr} {k} {pos : Pos} {t : Addr} {items : Array Value} {Q : Unit -> Shared -> Prop} (hh : In A s.heap) (ht : IsTup s.heap t items)
    (hn : (assignEach elts env).length = items.size) (hs : (assignEach elts env).findIdx? (·.1) = none)
    (h : ∀ g, Heap.ExtBut s.heap.objs.size s.heap g -> wpAny (model prog w) A (assignInOrder ((assignEach elts env).map (·.2)) items.toList) Q E { s with heap := g }) :
    wpAny (model prog w) A (assign (.Tuple elts k pos) env (.ref t)) Q E s := by
  rw [assign_Tuple]
  refine wpAny_bind (wpAny_standAt ?_)
  unfold unpack
  rw [hn, hs]
  exact wpAny_bind (wpAny_holding (Hd.items hh ht h))
end
end Hd
namespace L2
open PySem PySem.Spec PyProof.Rows
abbrev Key := Sum Int Str
def keyIs : Key -> Value -> Bool
  | .inl k, v => Value.isInt k v
  | .inr x, v => Value.isStrOf x v
def keyH (w : World) : Key -> Int
  | .inl k => hashInt k
  | .inr x => hashStr w x
theorem keyIs_shape : ∀ {k : Key} {v : Value}, keyIs k v = true -> (∃ i t, k = Sum.inl i /\ v = Value.int i t) ∨ (∃ x t, k = Sum.inr x /\ v = Value.str x t)
  | .inl i, v, h => by
    obtain ⟨t, e⟩ := Value.isInt_shape (k := i) (v := v) h
    exact .inl ⟨i, t, rfl, e⟩
  | .inr x, v, h => by
    obtain ⟨t, e⟩ := Value.isStrOf_shape (x := x) (v := v) h
    exact .inr ⟨x, t, rfl, e⟩
theorem key_ll (a b : Int) : decide ((Sum.inl a : Key) = Sum.inl b) = (a == b) := by
  by_cases e : a = b
  · subst e; simp
  · have h : ¬ (Sum.inl a : Key) = Sum.inl b := fun q => e (Sum.inl.inj q)
    rw [decide_eq_false h]
    exact (beq_eq_false_iff_ne.mpr e).symm
theorem key_rr (a b : Str) : decide ((Sum.inr a : Key) = Sum.inr b) = decide (a = b) := by
  by_cases e : a = b
  · subst e; simp
  · have h : ¬ (Sum.inr a : Key) = Sum.inr b := fun q => e (Sum.inr.inj q)
    rw [decide_eq_false h, decide_eq_false e]
theorem key_lr (a : Int) (b : Str) : decide ((Sum.inl a : Key) = Sum.inr b) = false := decide_eq_false (fun q => nomatch q)
theorem key_rl (a : Str) (b : Int) : decide ((Sum.inr a : Key) = Sum.inl b) = false := decide_eq_false (fun q => nomatch q)
def mixKind (prog : Program) (w : World) : PySem.KeyKind prog w Key where
  is := keyIs
  hash := keyH w
  inj := fun v a b ha hb => by
    rcases keyIs_shape ha with ⟨i, t, rfl, rfl⟩ | ⟨x, t, rfl, rfl⟩
    · rcases keyIs_shape hb with ⟨j, u, rfl, e⟩ | ⟨y, u, rfl, e⟩
      · injection e with e1 _; rw [e1]
      · exact nomatch e
    · rcases keyIs_shape hb with ⟨j, u, rfl, e⟩ | ⟨y, u, rfl, e⟩
      · exact nomatch e
      · injection e with e1 _; rw [e1]
  byValue := fun k v h => by
    rcases keyIs_shape h with ⟨i, t, rfl, rfl⟩ | ⟨x, t, rfl, rfl⟩ <;> rfl
  pyHash := fun hv h => by
    rcases keyIs_shape hv with ⟨i, t, rfl, rfl⟩ | ⟨x, t, rfl, rfl⟩
    · exact wpAny_pyHash_int h
    · exact wpAny_pyHash_str h
  eqBool := fun hu hv h => by
    rcases keyIs_shape hu with ⟨i, t, rfl, rfl⟩ | ⟨x, t, rfl, rfl⟩
    · rcases keyIs_shape hv with ⟨j, u, rfl, rfl⟩ | ⟨y, u, rfl, rfl⟩
      · rw [key_ll] at h; exact wpAny_eqBool_int h
      · rw [key_lr] at h; exact SeqAt.EqAt.int_str i t y u _ _ _ _ h
    · rcases keyIs_shape hv with ⟨j, u, rfl, rfl⟩ | ⟨y, u, rfl, rfl⟩
      · rw [key_rl] at h; exact SeqAt.EqAt.str_int x t j u _ _ _ _ h
      · rw [key_rr] at h; exact wpAny_eqBool_str h
  «strs» := fun k x t v h => by
    rcases keyIs_shape h with ⟨i, u, rfl, e⟩ | ⟨y, u, rfl, e⟩
    · exact nomatch e
    · injection e with e1 _
      subst e1
      cases v <;> rfl
end L2
namespace L2
open PySem PySem.Spec PyProof.Rows
inductive V where
  | non | bl (b : Bool) | int (i : Int) | str (x : Str) | byt (b : Array UInt8) | flt (b : UInt64) | ref (a : Addr) | ty (n : String)
  deriving DecidableEq
def RelV : V -> Value -> Prop
  | .non, u => u = Value.none
  | .bl b, u => u = Value.bool b
  | .int i, u => ∃ t, u = Value.int i t
  | .str x, u => ∃ t, u = Value.str x t
  | .byt b, u => ∃ t, u = Value.bytes b t
  | .flt b, u => ∃ t, u = Value.float b t
  | .ref a, u => u = Value.ref a
  | .ty n, u => u = Value.type n
abbrev Vals : List V -> List Value -> Prop := Paired RelV
theorem Vals.length {xs : List V} {us : List Value} (r : Vals xs us) : xs.length = us.length := Paired.length r
theorem Vals.get : ∀ {xs : List V} {us : List Value} {i : Nat} {x : V}, Vals xs us -> xs[i]? = some x -> ∃ u, us[i]? = some u /\ RelV x u
  | _, _, _, _, .nil, e => by simp at e
  | _, _, 0, _, .cons r _, e => by simp at e; subst e; exact ⟨_, rfl, r⟩
  | _, _, i + 1, x, .cons _ t, e => by
    obtain ⟨u, h1, h2⟩ := Vals.get (i := i) (x := x) t (by simpa using e)
    exact ⟨u, by simpa using h1, h2⟩
theorem Vals.set {x : V} {u : Value} (r : RelV x u) : ∀ {xs : List V} {us : List Value} (i : Nat), Vals xs us -> Vals (xs.set i x) (us.set i u)
  | _, _, _, .nil => .nil
  | _, _, 0, .cons _ t => .cons r t
  | _, _, i + 1, .cons q t => .cons q (Vals.set r i t)
theorem Vals.append : ∀ {xs ys : List V} {us ws : List Value}, Vals xs us -> Vals ys ws -> Vals (xs ++ ys) (us ++ ws)
  | _, _, _, _, .nil, s => s
  | _, _, _, _, .cons r t, s => .cons r (Vals.append t s)
theorem Vals.take : ∀ {xs : List V} {us : List Value} (n : Nat), Vals xs us -> Vals (xs.take n) (us.take n)
  | _, _, 0, _ => .nil
  | _, _, _ + 1, .nil => .nil
  | _, _, n + 1, .cons r t => .cons r (Vals.take n t)
theorem Vals.drop : ∀ {xs : List V} {us : List Value} (n : Nat), Vals xs us -> Vals (xs.drop n) (us.drop n)
  | _, _, 0, r => r
  | _, _, _ + 1, .nil => .nil
  | _, _, n + 1, .cons _ t => Vals.drop n t
def RelO : Option V -> Option Value -> Prop
  | some v, some u => RelV v u
  | none, none => True
  | _, _ => False
def KV {κ : Type} : List (κ × V) -> List (κ × Value) -> Prop := Paired fun (p : κ × V) (q : κ × Value) => p.1 = q.1 /\ RelV p.2 q.2
def kV : Key -> V
  | .inl i => .int i
  | .inr x => .str x
inductive HO where
  | lst (xs : List V)
  | tup (xs : List V)
  | dK (kvs : List (Key × V)) | dT (kvs : List (List Key × V))
  | set (S : Int -> Bool) (n : Nat)
  | ins (C dx : Addr) (fs : List (Str × V))
  | own (x : Addr)
  | xd (fs : List (Str × V))
  | met (f x : Addr)
  | rng (lo hi : Int)
  | frz (o : Obj) (u : HO)
  | tbl (ps : Array Value)
  | ext (φ : Heap -> Prop)
abbrev Hp := Addr -> Option HO
def upd (H : Hp) (a : Addr) (o : HO) : Hp := fun b => if b = a then some o else H b
theorem upd_same {H : Hp} {a : Addr} {o : HO} : upd H a o a = some o := by unfold upd; rw [if_pos rfl]
theorem upd_ne {H : Hp} {a b : Addr} {o : HO} (h : b ≠ a) : upd H a o b = H b := by unfold upd; rw [if_neg h]
theorem upd_upd {H : Hp} {a : Addr} {o u : HO} : upd (upd H a o) a u = upd H a u := by
  funext b; unfold upd; split <;> rfl
theorem ne_of {H : Hp} {a b : Addr} {o u : HO} (h : H a = some o) (h' : H b = some u) (d : o ≠ u) : a ≠ b := by
  intro e; subst e; rw [h] at h'; exact d (Option.some.inj h')
theorem ne_of_none {H : Hp} {a b : Addr} {o : HO} (h : H a = some o) (h' : H b = none) : a ≠ b := by
  intro e; subst e; rw [h] at h'; cases h'
section
variable (P : Program) (w : World)
def IsTupD (h : Heap) (a : Addr) (items : Array Value) : Prop := ∃ o, h.get? a = some o /\ o.cls = .type "tuple" /\ (∃ n, o.data = .seq items n) /\ o.dict = none
theorem IsTupD.up {h : Heap} {a : Addr} {items : Array Value} : IsTupD h a items -> IsTup h a items := fun ⟨o, e, c, d, _⟩ => ⟨o, e, c, d⟩
theorem IsTupD.lt {h : Heap} {a : Addr} {items : Array Value} : IsTupD h a items -> a < h.objs.size := fun ⟨_, e, _⟩ => Heap.lt_size e
theorem IsTupD.new (h : Heap) (items : Array Value) : IsTupD (h.push { cls := .type "tuple", data := .seq items }) h.objs.size items := ⟨_, Heap.get?_push_size _ rfl, rfl, ⟨_, rfl⟩, rfl⟩
def ObjOk (H : Hp) (h : Heap) (a : Addr) : HO -> Prop
  | .lst xs => xs.length <= sizeLine /\ ∃ (its : List Value) (n : Nat), Vals xs its /\ h.get? a = some { cls := .type "list", data := .seq its.toArray n }
  | .tup xs => xs.length <= sizeLine /\ ∃ its : List Value, Vals xs its /\ IsTupD h a its.toArray
  | .dK kvs => kvs.length <= sizeLine /\ (a == sysModules) = false /\ ∃ vs, KV kvs vs /\ h.DictOf (mixKind P w) a vs
  | .dT kvs => kvs.length <= sizeLine /\ (a == sysModules) = false /\ ∃ xs : List (List Key × Addr × Value),
      Paired (fun (p : List Key × V) (q : List Key × Addr × Value) => p.1 = q.1 /\ H q.2.1 = some (.tup (p.1.map kV)) /\ RelV p.2 q.2.2) kvs xs /\
      ∃ o es ep, h.get? a = some o /\ o.ExactDict /\ o.data = .dict es ep /\ es.toList = xs.map (entryOfKey (tupleKind (mixKind P w))) /\ (xs.map (·.1)).Nodup
  | .set S n => h.SetOf (intKind P w) a S n
  | .ins C dx fs => H dx = some (.own a) /\ fs.length <= 1000 /\ dx ≠ a /\ h.get? a = some (PySem.W.instObj C dx) /\
      ∃ mA, h.Ns1 dx mA /\ (∀ f, RelO (fs.lookup f) (mA f)) /\ PySem.Within mA (fs.map (·.1))
  | .own _ => ∃ o, h.get? a = some o
  | .xd fs => ∃ mA, h.Ns1 a mA /\ ∀ f, RelO (fs.lookup f) (mA f)
  | .rng lo hi => ∃ t u v, h.get? a = some { cls := .type "range", data := .fields #[.int lo t, .int hi u, .int 1 v] }
  | .frz o u => h.get? a = some o /\ ObjOk H h a u
  | .tbl ps => h.get? a = some { cls := .none, data := .fields ps }
  | .met f x => h.get? a = some (PySem.W.methodObj (.ref f) (.ref x))
  | .ext φ => φ h /\ (∃ o, h.get? a = some o) /\ ∀ h1 h2 : Heap, φ h1 -> (∀ o, h1.get? a = some o -> h2.get? a = some o) -> φ h2
def HOk (H : Hp) (h : Heap) : Prop := ∀ a o, H a = some o -> ObjOk P w H h a o
end
section
variable {P : Program} {w : World} {H H' : Hp} {h h' : Heap} {a : Addr} {o : HO}
theorem ObjOk.lt (x : ObjOk P w H h a o) : a < h.objs.size := by
  cases o with
  | lst xs => obtain ⟨_, _, _, _, e⟩ := x; exact Heap.lt_size e
  | tup xs => obtain ⟨_, _, _, p⟩ := x; exact p.lt
  | dK kvs => obtain ⟨_, _, _, _, o, _, _, e, _⟩ := x; exact Heap.lt_size e
  | dT kvs => obtain ⟨_, _, _, _, o, _, _, e, _⟩ := x; exact Heap.lt_size e
  | set S n => obtain ⟨o, _, _, _, e, _⟩ := x; exact Heap.lt_size e
  | ins C dx fs => obtain ⟨_, _, _, e, _⟩ := x; exact Heap.lt_size e
  | own y => obtain ⟨_, e⟩ := x; exact Heap.lt_size e
  | xd fs => obtain ⟨_, ⟨_, _, _, e, _⟩, _⟩ := x; exact Heap.lt_size e
  | rng lo hi => obtain ⟨_, _, _, e⟩ := x; exact Heap.lt_size e
  | frz ob u => obtain ⟨e, _⟩ := x; exact Heap.lt_size e
  | tbl ps => exact Heap.lt_size (show h.get? a = some _ from x)
  | met f y => exact Heap.lt_size (show h.get? a = some _ from x)
  | ext φ => obtain ⟨_, ⟨_, e⟩, _⟩ := x; exact Heap.lt_size e
theorem Paired.mapP {α β : Type} {F G : α -> β -> Prop} : ∀ {l₁ : List α} {l₂ : List β}, Paired F l₁ l₂ -> (∀ a b, F a b -> G a b) -> Paired G l₁ l₂
  | _, _, .nil, _ => .nil
  | _, _, .cons r t, f => .cons (f _ _ r) (Paired.mapP t f)
theorem ObjOk.stay (x : ObjOk P w H h a o) (k : ∀ b u, (b = a ∨ H b = some (.own a)) -> h.get? b = some u -> h'.get? b = some u)
    (ho : ∀ b, H b = some (.own a) -> H' b = some (.own a)) (ht : ∀ b xs, H b = some (.tup xs) -> H' b = some (.tup xs)) : ObjOk P w H' h' a o := by
  induction o with
  | lst xs => obtain ⟨z, its, n, r, e⟩ := x; exact ⟨z, its, n, r, k _ _ (.inl rfl) e⟩
  | tup xs => obtain ⟨z, its, r, ob, e, c⟩ := x; exact ⟨z, its, r, ob, k _ _ (.inl rfl) e, c⟩
  | dK kvs => obtain ⟨z, y, vs, r, ob, es, ep, e, c⟩ := x; exact ⟨z, y, vs, r, ob, es, ep, k _ _ (.inl rfl) e, c⟩
  | dT kvs =>
    obtain ⟨z, y, xs, r, ob, es, ep, e, c⟩ := x
    exact ⟨z, y, xs, Paired.mapP r fun p q z => ⟨z.1, ht _ _ z.2.1, z.2.2⟩, ob, es, ep, k _ _ (.inl rfl) e, c⟩
  | set S n => obtain ⟨ob, es, ep, t, e, c⟩ := x; exact ⟨ob, es, ep, t, k _ _ (.inl rfl) e, c⟩
  | ins C dx fs =>
    obtain ⟨d, z, ne, e, mA, ⟨od, es, ep, e2, c⟩, r⟩ := x
    exact ⟨ho _ d, z, ne, k _ _ (.inl rfl) e, mA, ⟨od, es, ep, k _ _ (.inr d) e2, c⟩, r⟩
  | own y => obtain ⟨ob, e⟩ := x; exact ⟨ob, k _ _ (.inl rfl) e⟩
  | xd fs => obtain ⟨mA, ⟨od, es, ep, e, c⟩, r⟩ := x; exact ⟨mA, ⟨od, es, ep, k _ _ (.inl rfl) e, c⟩, r⟩
  | rng lo hi => obtain ⟨t, u, v, e⟩ := x; exact ⟨t, u, v, k _ _ (.inl rfl) e⟩
  | frz ob u ih => obtain ⟨e, q⟩ := x; exact ⟨k _ _ (.inl rfl) e, ih q⟩
  | tbl ps =>
    have e : h.get? a = some { cls := .none, data := .fields ps } := x
    show h'.get? a = some { cls := .none, data := .fields ps }
    exact k a _ (.inl rfl) e
  | met f y =>
    have e : h.get? a = some (PySem.W.methodObj (.ref f) (.ref y)) := x
    show h'.get? a = some (PySem.W.methodObj (.ref f) (.ref y))
    exact k a _ (.inl rfl) e
  | ext φ => obtain ⟨p, ⟨o, e⟩, st⟩ := x; exact ⟨st _ _ p fun o q => k _ _ (.inl rfl) q, ⟨o, k _ _ (.inl rfl) e⟩, st⟩
theorem HOk.lt (x : HOk P w H h) (e : H a = some o) : a < h.objs.size := (x a o e).lt
theorem HOk.fresh (x : HOk P w H h) (e : h.objs.size <= a) : H a = none := by
  cases q : H a with
  | none => rfl
  | some u => exact absurd (Nat.lt_of_lt_of_le (x.lt q) e) (Nat.lt_irrefl _)
theorem HOk.kept (x : HOk P w H h) (k : ∀ b u, h.get? b = some u -> h'.get? b = some u) : HOk P w H h' := fun a o e =>
  (x a o e).stay (fun b u _ q => k b u q) (fun _ q => q) fun _ _ q => q
theorem HOk.laid (x : HOk P w H h) (k : ∀ b u, h.get? b = some u -> h'.get? b = some u) (hp : h.objs.size <= a) (new : ObjOk P w (upd H a o) h' a o) : HOk P w (upd H a o) h' := fun b u e => by
  have hn := x.fresh hp
  by_cases hb : b = a
  · subst hb; rw [upd_same] at e; cases e; exact new
  · rw [upd_ne hb] at e
    exact (x b u e).stay (fun c v _ q => k c v q) (fun c q => by rw [upd_ne (ne_of_none q hn)]; exact q) fun c xs q => by rw [upd_ne (ne_of_none q hn)]; exact q
end
def Rd (H : Hp) (a : Addr) (u : HO) : Prop := H a = some u ∨ ∃ o, H a = some (.frz o u)
theorem Rd.ok {P : Program} {w : World} {H : Hp} {h : Heap} {a : Addr} {u : HO} (r : Rd H a u) (x : HOk P w H h) : ObjOk P w H h a u := by
  rcases r with r | ⟨o, r⟩
  · exact x a u r
  · obtain ⟨_, q⟩ := x a _ r
    exact q
def Mut : Option HO -> Prop
  | some (.lst _) => True
  | some (.dK _) => True
  | some (.dT _) => True
  | some (.set _ _) => True
  | some (.ins _ _ _) => True
  | some (.ext _) => True
  | _ => False
section
variable {P : Program} {w : World} {H : Hp} {h h' : Heap} {x e : Addr} {o' : HO}
theorem HOk.write (ok : HOk P w H h) (mu : Mut (H x)) (he : e = x ∨ H e = some (.own x)) (k : ∀ b u, b ≠ e -> h.get? b = some u -> h'.get? b = some u) (heo : ∃ u, h'.get? e = some u)
    (new : ObjOk P w (upd H x o') h' x o') : HOk P w (upd H x o') h' := fun b u q => by
  have nown : ∀ c y, H c = some (.own y) -> c ≠ x := fun c y r z => by subst z; rw [r] at mu; exact mu
  have ntup : ∀ c xs, H c = some (.tup xs) -> c ≠ x := fun c xs r z => by subst z; rw [r] at mu; exact mu
  by_cases hb : b = x
  · subst hb; rw [upd_same] at q; cases q; exact new
  · rw [upd_ne hb] at q
    by_cases hbe : b = e
    · have q' : H b = some (.own x) := by
        rcases he with z | z
        · exact absurd (hbe.trans z) hb
        · rw [hbe]; exact z
      rw [q] at q'; cases q'
      obtain ⟨v, hv⟩ := heo
      exact ⟨v, by rw [hbe]; exact hv⟩
    · refine (ok b u q).stay (fun c v hc r => k c v ?_ r) (fun c r => by rw [upd_ne (nown c b r)]; exact r) fun c xs r => by rw [upd_ne (ntup c xs r)]; exact r
      rcases hc with rfl | hc
      · exact hbe
      · rintro rfl
        rcases he with z | z
        · exact nown c b hc z
        · rw [hc] at z; cases z; exact hb rfl
end
structure Un (fs ex : List Addr) (H H' : Hp) (h h' : Heap) : Prop where
  keep : ∀ b o, h.get? b = some o -> H b = none -> b ∉ fs -> b ∉ ex -> h'.get? b = some o
  slot : ∀ b o, h.get? b = some o -> H b = none -> b ∈ fs -> b ∉ ex -> ∃ sl, h'.get? b = some { o with slots := sl }
  free : ∀ b o, h.get? b = some o -> H b = none -> b ∉ ex -> H' b = none
  there : ∀ b o, h.get? b = some o -> b ∉ ex -> ∃ o', h'.get? b = some o'
  tups : ∀ b xs, H b = some (.tup xs) -> H' b = some (.tup xs)
  frzs : ∀ b o u, H b = some (.frz o u) -> H' b = some (.frz o u)
  tbls : ∀ b ps, H b = some (.tbl ps) -> ∃ more, H' b = some (.tbl (ps ++ more))
section
variable {fs fs' ex ex' : List Addr} {H H1 H2 : Hp} {h h1 h2 h' : Heap} {a x e : Addr} {o : HO}
theorem Un.any (u : Un fs ex H H1 h h1) {b : Addr} {ob : Obj} (q : h.get? b = some ob) (n : H b = none) (hx : b ∉ ex) : ∃ sl, h1.get? b = some { ob with slots := sl } := by
  by_cases hb : b ∈ fs
  · exact u.slot b ob q n hb hx
  · exact ⟨ob.slots, u.keep b ob q n hb hx⟩
theorem Un.kept (k : ∀ b u, h.get? b = some u -> h'.get? b = some u) : Un fs ex H H h h' :=
  ⟨fun b ob q _ _ _ => k b ob q, fun b ob q _ _ _ => ⟨ob.slots, k b ob q⟩, fun _ _ _ n _ => n, fun b ob q _ => ⟨ob, k b ob q⟩, fun _ _ q => q, fun _ _ _ q => q, fun _ ps q => ⟨#[], by rw [q]; simp⟩⟩
theorem Un.refl : Un fs ex H H h h := Un.kept fun _ _ q => q
theorem Un.laid (k : ∀ b u, h.get? b = some u -> h'.get? b = some u) (hp : h.objs.size <= a) (hn : H a = none) : Un fs ex H (upd H a o) h h' where
  keep := fun b u q _ _ _ => k b u q
  slot := fun b u q _ _ _ => ⟨u.slots, k b u q⟩
  free := fun b u q n _ => by rw [upd_ne (Nat.ne_of_lt (Nat.lt_of_lt_of_le (Heap.lt_size q) hp))]; exact n
  there := fun b u q _ => ⟨u, k b u q⟩
  tups := fun b xs q => by rw [upd_ne (ne_of_none q hn)]; exact q
  frzs := fun b u xs q => by rw [upd_ne (ne_of_none q hn)]; exact q
  tbls := fun b ps q => ⟨#[], by rw [upd_ne (ne_of_none q hn), q]; simp⟩
theorem Un.write (mu : Mut (H x)) (he : e = x ∨ H e = some (.own x)) (k : ∀ b u, b ≠ e -> h.get? b = some u -> h'.get? b = some u) (heo : ∃ u, h'.get? e = some u) : Un fs ex H (upd H x o) h h' := by
  have hx : ∀ b, H b = none -> b ≠ x := fun b n z => by subst z; rw [n] at mu; exact mu
  have hb : ∀ b, H b = none -> b ≠ e := fun b n z => by
    subst z
    rcases he with r | r
    · exact hx b n r
    · rw [n] at r; cases r
  have hm : ∀ b u, H b = some u -> ¬ Mut (some u) -> b ≠ x := fun b u q nm z => by subst z; rw [q] at mu; exact nm mu
  refine ⟨fun b u q n _ _ => k b u (hb b n) q, fun b u q n _ _ => ⟨u.slots, k b u (hb b n) q⟩, fun b u q n _ => by rw [upd_ne (hx b n)]; exact n, fun b u q _ => ?_,
    fun b xs q => by rw [upd_ne (hm b _ q fun z => z)]; exact q, fun b u xs q => by rw [upd_ne (hm b _ q fun z => z)]; exact q, fun b ps q => ⟨#[], by rw [upd_ne (hm b _ q fun z => z), q]; simp⟩⟩
  by_cases hbe : b = e
  · subst hbe; exact heo
  · exact ⟨u, k b u hbe q⟩
end
def trk (h : Heap) (H : Hp) : List Addr := (List.range h.objs.size).filter fun a => (H a).isSome
def hidT (h : Heap) (H : Hp) : Heap := PySem.W.hideAll h (trk h H)
theorem hidT_size (h : Heap) (H : Hp) : (hidT h H).objs.size = h.objs.size := PySem.W.hideAll_size _ _
theorem hidT_get {h : Heap} {H : Hp} {b : Addr} {o : Obj} (e : h.get? b = some o) (n : H b = none) : (hidT h H).get? b = some o :=
  PySem.W.hideAll_get _ e fun hm => by
    have q : (H b).isSome = true := (List.mem_filter.mp hm).2
    rw [n] at q; simp at q
theorem of_hidT {h : Heap} {H : Hp} {b : Addr} {o : Obj} (e : (hidT h H).get? b = some o) : h.get? b = some o /\ H b = none := by
  have e' : h.get? b = some o := PySem.W.of_hideAll (trk h H) e
  refine ⟨e', ?_⟩
  cases q : H b with
  | none => rfl
  | some x =>
    have hm : b ∈ trk h H := List.mem_filter.mpr ⟨List.mem_range.mpr (Heap.lt_size e'), by simp [q]⟩
    have z : (hidT h H).get? b = none := PySem.W.hideAll_none (trk h H) hm
    rw [z] at e; cases e
end L2
namespace L2
open PySem PySem.Spec PyProof.Rows
structure Mod (K : PySem.W.Frag) (mg : Str -> Option Value) (base : Heap) : Prop where
  kin : K.In base
  glob : base.Ns mainGlobals mg
  blt : ∃ mb, base.Ns builtinsNs mb /\ ∀ x : Str, x ≠ "__name__" -> mb x = bootBuiltins x
  nolimit : base.NoLimit
structure Cx where
  prog : Program
  w : World
  K : PySem.W.Frag
  mg : Str -> Option Value
  base : Heap
  A : Around
  N : List Str
  s₀ : Shared
  H₀ : Hp
  env : Env
  outer : List Env
  stack : List Env
  ex : List Addr
  fn : Str -> Bool
  calm : Bool
  warm : Bool
  pn : List (Addr × Obj)
  xe : Value -> Shared -> Prop
def frs (l : List Env) : List Addr := l.filterMap (·.frame)
abbrev Cx.fs (X : Cx) : List Addr := frs X.outer
def Vis (sc : Scope) (x : Str) : Prop := sc.names.lookup x = some .local ∨ sc.names.lookup x = some .cell ∨ sc.names.lookup x = some .free
def Loc (sc : Scope) (x : Str) : Prop := sc.names.lookup x = some .local ∨ sc.names.lookup x = some .cell
def Look (env : Env) (h : Heap) (m : Str -> Option Value) (x : Str) (u : Value) : Prop :=
  (env.kindOf x = some .local /\ m x = some u) ∨ ((env.kindOf x = some .cell ∨ env.kindOf x = some .free) /\ ∃ c, env.cells.lookup x = some c /\ h.IsCell c (some u))
def HdIn (A : Around) (h : Heap) (H : Hp) (fs ex : List Addr) : Prop :=
  A.handled = none ∨ ∃ (e : Addr) (oe : Obj) (vs : Array Value), A.handled = some (.ref e) /\ h.get? e = some oe /\ H e = none /\ e ∉ fs /\ e ∉ ex /\ oe.data = .fields vs /\ vs[2]? = some .none
structure Cx.Ok (X : Cx) : Prop where
  mod : Mod X.K X.mg X.base
  kind : X.env.scope.kind = .function
  glob : X.env.globals = mainGlobals
  blt : X.env.builtins = builtinsNs
  above : X.s₀.heap.objs.size <= X.env.locals
  inj : ∀ x y c, X.env.cells.lookup x = some c -> X.env.cells.lookup y = some c -> x = y
  has : ∀ x, (X.env.kindOf x = some .cell ∨ X.env.kindOf x = some .free) -> ∃ c, X.env.cells.lookup x = some c
  cab : ∀ x c, X.fn x = true -> X.env.cells.lookup x = some c -> X.s₀.heap.objs.size <= c
  hd : (X.calm = true -> X.A.handled = none) /\ (X.warm = true -> HdIn X.A X.s₀.heap X.H₀ X.fs X.ex)
  frames : X.A.frames = some X.stack
  stk : X.stack = X.outer ∨ (X.stack = X.env :: X.outer /\ X.env.frame = some X.env.locals)
  exf : ∀ b ∈ X.ex, b ≠ X.env.locals /\ ∀ x c, X.env.cells.lookup x = some c -> c ≠ b
  bs : ∀ b o, X.base.get? b = some o -> X.s₀.heap.get? b = some o /\ X.H₀ b = none
  bsz : X.base.objs.size <= X.s₀.heap.objs.size
  noex : ∀ b o, X.base.get? b = some o -> b ∉ X.ex
  exfs : ∀ b ∈ X.ex, b ∉ X.fs
  funs : X.s₀.heap.FunFrames X.base X.outer
  frf : ∀ b ∈ X.fs, X.H₀ b = none
structure Inv (X : Cx) (pins : List (Addr × Obj)) (σ : List (Option V)) (H : Hp) (s : Shared) : Prop where
  ok : X.Ok
  os : s.os = X.s₀.os
  bare : AllBare s.gens
  base : Un X.fs X.ex X.H₀ H X.s₀.heap s.heap
  loc : ∃ m, s.heap.Ns X.env.locals m /\ ∀ (i : Nat) (x : Str) (v : V), X.N[i]? = some x -> σ[i]? = some (some v) -> Vis X.env.scope x -> ∃ u, RelV v u /\ Look X.env s.heap m x u
  cell : ∀ x c, X.env.cells.lookup x = some c -> ∃ v, s.heap.IsCell c v
  free : H X.env.locals = none
  freeC : ∀ x c, X.env.cells.lookup x = some c -> H c = none
  pin : ∀ p ∈ X.pn ++ pins, s.heap.get? p.1 = some p.2 /\ H p.1 = none /\ p.1 ≠ X.env.locals /\ p.1 ∉ X.fs /\ ∀ v, p.2.data ≠ .cell v
  hok : HOk X.prog X.w H s.heap
  len : σ.length = X.N.length
section
variable {X : Cx} {pins : List (Addr × Obj)} {σ : List (Option V)} {H H' : Hp} {s : Shared} {h' : Heap}
theorem Cx.Ok.nofr (ok : X.Ok) {b : Addr} {o : Obj} (e : X.base.get? b = some o) : b ∉ X.fs := fun hb => by
  have := (ok.funs.mem hb).1
  rw [e] at this; cases this
theorem Inv.bs (I : Inv X pins σ H s) : ∀ b o, X.base.get? b = some o -> s.heap.get? b = some o /\ H b = none := fun b o e =>
  ⟨I.base.keep b o (I.ok.bs b o e).1 (I.ok.bs b o e).2 (I.ok.nofr e) (I.ok.noex b o e), I.base.free b o (I.ok.bs b o e).1 (I.ok.bs b o e).2 (I.ok.noex b o e)⟩
theorem Inv.bk (I : Inv X pins σ H s) : ∀ b o, X.base.get? b = some o -> s.heap.get? b = some o := fun b o e => (I.bs b o e).1
theorem Inv.mod (I : Inv X pins σ H s) : Mod X.K X.mg X.base := I.ok.mod
theorem Inv.hdIn (I : Inv X pins σ H s) (hw : X.warm = true) : HdIn X.A s.heap H X.fs X.ex :=
  (I.ok.hd.2 hw).imp id fun ⟨e, oe, vs, h1, h2, h3, h4, h5, r⟩ => ⟨e, oe, vs, h1, I.base.keep e oe h2 h3 h4 h5, I.base.free e oe h2 h3 h5, h4, h5, r⟩
theorem Inv.hin (I : Inv X pins σ H s) (hw : X.warm = true) : Hd.In X.A s.heap :=
  (I.hdIn hw).imp id fun ⟨e, oe, vs, h1, h2, _, _, _, r⟩ => ⟨e, oe, vs, h1, h2, r⟩
theorem Inv.kIn (I : Inv X pins σ H s) : X.K.In s.heap := I.ok.mod.kin.keeps I.bk
theorem Inv.lt (I : Inv X pins σ H s) : X.env.locals < s.heap.objs.size := let ⟨_, hn, _⟩ := I.loc; hn.lt
theorem Inv.sz (I : Inv X pins σ H s) : X.s₀.heap.objs.size <= s.heap.objs.size := Nat.le_trans I.ok.above (Nat.le_of_lt I.lt)
theorem Inv.nofs (I : Inv X pins σ H s) {a : Addr} (h : s.heap.objs.size <= a) : a ∉ X.fs := fun hb => by
  obtain ⟨_, o, ho, _⟩ := I.ok.funs.mem hb
  exact absurd (Nat.lt_of_lt_of_le (Heap.lt_size ho) (Nat.le_trans I.sz h)) (Nat.lt_irrefl _)
theorem Inv.cne (I : Inv X pins σ H s) : ∀ x c, X.env.cells.lookup x = some c -> c ≠ X.env.locals := fun x c e z => by
  obtain ⟨v, o, ho, hd⟩ := I.cell x c e
  obtain ⟨m, ⟨o', es, ep, ho', hd', _⟩, _⟩ := I.loc
  rw [z, ho'] at ho; cases ho; rw [hd'] at hd; cases hd
theorem Inv.funs (I : Inv X pins σ H s) : s.heap.FunFrames X.base X.outer := by
  have all : ∀ (l : List Env), (∀ b ∈ frs l, b ∈ X.fs) -> X.s₀.heap.FunFrames X.base l -> s.heap.FunFrames X.base l := by
    intro l
    induction l with
    | nil => intro _ _; trivial
    | cons env r ih =>
      intro hs hl
      obtain ⟨hk, ⟨L, o, hf, hn, ho, hd⟩, hr⟩ := hl
      have hL : L ∈ X.fs := hs L (by unfold frs; rw [List.filterMap_cons, hf]; exact List.mem_cons_self)
      obtain ⟨sl, e⟩ := I.base.slot L o ho (I.ok.frf L hL) hL fun z => I.ok.exfs L z hL
      exact ⟨hk, ⟨L, _, hf, hn, e, hd⟩, ih (fun b hb => hs b (by unfold frs; rw [List.filterMap_cons, hf]; exact List.mem_cons_of_mem _ hb)) hr⟩
  exact all X.outer (fun _ hb => hb) I.ok.funs
theorem Inv.stack (I : Inv X pins σ H s) : s.heap.FunFrames X.base X.stack := by
  rcases I.ok.stk with e | ⟨e, hf⟩
  · rw [e]; exact I.funs
  · rw [e]
    obtain ⟨m, hn, _⟩ := I.loc
    refine .cons (by rw [I.ok.kind]; decide) hf hn ?_ I.funs
    exact Heap.get?_none_of_le (Nat.le_trans I.ok.bsz I.ok.above)
theorem Inv.stkSub (I : Inv X pins σ H s) : ∀ b ∈ frs X.stack, b ∈ X.env.locals :: X.fs := fun b hb => by
  rcases I.ok.stk with e | ⟨e, hf⟩
  · rw [e] at hb; exact List.mem_cons_of_mem _ hb
  · rw [e] at hb
    unfold frs at hb
    rw [List.filterMap_cons, hf] at hb
    exact hb
theorem Inv.hdC {fp : List Addr} (I : Inv X pins σ H s) (hw : X.warm = true) (f : ∀ b ∈ fp, b ∈ X.ex ∨ X.s₀.heap.objs.size <= b) : HdIn X.A s.heap H (frs X.stack) fp :=
  (I.ok.hd.2 hw).imp id fun ⟨e, oe, vs, h1, h2, h3, h4, h5, r⟩ => ⟨e, oe, vs, h1, I.base.keep e oe h2 h3 h4 h5, I.base.free e oe h2 h3 h5,
    fun z => (List.mem_cons.mp (I.stkSub e z)).elim (fun q => absurd (Nat.lt_of_lt_of_le (Heap.lt_size h2) (by rw [q]; exact I.ok.above)) (Nat.lt_irrefl _)) h4,
    fun z => (f e z).elim h5 fun q => absurd (Nat.lt_of_lt_of_le (Heap.lt_size h2) q) (Nat.lt_irrefl _), r⟩
theorem Inv.stkFree (I : Inv X pins σ H s) : ∀ b ∈ frs X.stack, H b = none := fun b hb => by
  rcases List.mem_cons.mp (I.stkSub b hb) with e | hb
  · rw [e]; exact I.free
  · obtain ⟨_, o, ho, _⟩ := I.ok.funs.mem hb
    exact I.base.free b o ho (I.ok.frf b hb) fun z => I.ok.exfs b z hb
theorem Inv.step {g' : Array GenState} {t' : Nat} {d' : Drawn} {ch : List Addr} (I : Inv X pins σ H s)
    (hch : ∀ b ∈ ch, (b ∈ X.ex ∨ X.s₀.heap.objs.size <= b) /\ b ≠ X.env.locals /\ (∀ x c, X.env.cells.lookup x = some c -> c ≠ b) /\ ∀ p ∈ X.pn ++ pins, p.1 ≠ b)
    (keep : ∀ b o, b ≠ X.env.locals -> b ∉ X.fs -> b ∉ ch -> s.heap.get? b = some o -> H b = none -> h'.get? b = some o)
    (slot : ∀ b o, b ≠ X.env.locals -> b ∈ X.fs -> b ∉ ch -> s.heap.get? b = some o -> H b = none -> ∃ sl, h'.get? b = some { o with slots := sl }) (free : ∀ b o, b ∉ ch -> s.heap.get? b = some o -> H b = none -> H' b = none)
    (there : ∀ b o, b ∉ ch -> s.heap.get? b = some o -> ∃ o', h'.get? b = some o')
    (tups : ∀ b xs, H b = some (.tup xs) -> H' b = some (.tup xs)) (frzs : ∀ b o u, H b = some (.frz o u) -> H' b = some (.frz o u)) (tbls : ∀ b ps, H b = some (.tbl ps) -> ∃ more, H' b = some (.tbl (ps ++ more)))
    (ns : ∀ m, s.heap.Ns X.env.locals m -> h'.Ns X.env.locals m) (hok : HOk X.prog X.w H' h') (hg : AllBare g') :
    Inv X pins σ H' { s with heap := h', gens := g', drawn := d', toks := t' } := by
  have neL : ∀ b o, X.s₀.heap.get? b = some o -> b ≠ X.env.locals := fun b o e => Nat.ne_of_lt (Nat.lt_of_lt_of_le (Heap.lt_size e) I.ok.above)
  have neC : ∀ b o, X.s₀.heap.get? b = some o -> b ∉ X.ex -> b ∉ ch := fun b o e hx hb => by
    rcases (hch b hb).1 with z | z
    · exact hx z
    · exact absurd (Nat.lt_of_lt_of_le (Heap.lt_size e) z) (Nat.lt_irrefl _)
  have cellK : ∀ x c, X.env.cells.lookup x = some c -> ∀ v, s.heap.IsCell c v -> h'.IsCell c v := fun x c e v ⟨o, ho, hd⟩ => by
    have nch : c ∉ ch := fun z => (hch c z).2.2.1 x c e rfl
    by_cases hc : c ∈ X.fs
    · obtain ⟨sl, q⟩ := slot c o (I.cne x c e) hc nch ho (I.freeC x c e)
      exact ⟨_, q, hd⟩
    · exact ⟨o, keep c o (I.cne x c e) hc nch ho (I.freeC x c e), hd⟩
  refine ⟨I.ok, I.os, hg, ⟨fun b o e n hb hx => ?_, fun b o e n hb hx => ?_, fun b o e n hx => ?_, fun b o e hx => ?_, fun b xs e => tups b xs (I.base.tups b xs e), fun b o xs e => frzs b o xs (I.base.frzs b o xs e), fun b ps e => ?_⟩, ?_, fun x c e => ?_, ?_, fun x c e => ?_, fun p hp => ?_, hok, I.len⟩
  · exact keep b o (neL b o e) hb (neC b o e hx) (I.base.keep b o e n hb hx) (I.base.free b o e n hx)
  · obtain ⟨sl, e1⟩ := I.base.slot b o e n hb hx
    obtain ⟨sl', e2⟩ := slot b _ (neL b o e) hb (neC b o e hx) e1 (I.base.free b o e n hx)
    exact ⟨sl', e2⟩
  · obtain ⟨o', e1⟩ := I.base.there b o e hx
    exact free b o' (neC b o e hx) e1 (I.base.free b o e n hx)
  · obtain ⟨o', e1⟩ := I.base.there b o e hx
    exact there b o' (neC b o e hx) e1
  · obtain ⟨m1, e1⟩ := I.base.tbls b ps e
    obtain ⟨m2, e2⟩ := tbls b _ e1
    exact ⟨m1 ++ m2, by rw [e2, Array.append_assoc]⟩
  · obtain ⟨m, hn, hl⟩ := I.loc
    refine ⟨m, ns m hn, fun i x v e1 e2 e3 => ?_⟩
    obtain ⟨u, r, l⟩ := hl i x v e1 e2 e3
    refine ⟨u, r, ?_⟩
    rcases l with l | ⟨k, c, e, z⟩
    · exact .inl l
    · exact .inr ⟨k, c, e, cellK x c e _ z⟩
  · obtain ⟨v, z⟩ := I.cell x c e
    exact ⟨v, cellK x c e v z⟩
  · obtain ⟨m, ⟨o, _, _, ho, _⟩, _⟩ := I.loc
    exact free _ o (fun z => (hch _ z).2.1 rfl) ho I.free
  · obtain ⟨v, o, ho, hd⟩ := I.cell x c e
    exact free c o (fun z => (hch c z).2.2.1 x c e rfl) ho (I.freeC x c e)
  · obtain ⟨e, n, ne, nf, d⟩ := I.pin p hp
    have nch : p.1 ∉ ch := fun z => (hch p.1 z).2.2.2 p hp rfl
    exact ⟨keep p.1 p.2 ne nf nch e n, free p.1 p.2 nch e n, ne, nf, d⟩
theorem Inv.un {t' : Nat} (I : Inv X pins σ H s) (u : Un X.fs [] H H' s.heap h') (hok : HOk X.prog X.w H' h') : Inv X pins σ H' { s with heap := h', toks := t' } := by
  obtain ⟨m, ⟨o, es, ep, ho, r⟩, _⟩ := id I.loc
  obtain ⟨sl, hL⟩ := u.any ho I.free (by simp)
  exact I.step (g' := s.gens) (d' := s.drawn) (ch := []) (fun _ z => nomatch z) (fun b o _ hb _ e n => u.keep b o e n hb (by simp)) (fun b o _ hb _ e n => u.slot b o e n hb (by simp)) (fun b o _ e n => u.free b o e n (by simp)) (fun b o _ e => u.there b o e (by simp)) u.tups u.frzs u.tbls (fun m' hm => by
    obtain ⟨o', es', ep', ho', r'⟩ := hm
    rw [ho] at ho'; cases ho'
    exact ⟨_, es', ep', hL, r'⟩) hok I.bare
theorem Inv.call {g' : Array GenState} {t' : Nat} {d' : Drawn} {ch : List Addr} (I : Inv X pins σ H s) (u : Un (frs X.stack) ch H H' s.heap h') (hok : HOk X.prog X.w H' h') (hg : AllBare g')
    (hch : ∀ b ∈ ch, (b ∈ X.ex ∨ X.s₀.heap.objs.size <= b) /\ b ≠ X.env.locals /\ (∀ x c, X.env.cells.lookup x = some c -> c ≠ b) /\ ∀ p ∈ X.pn ++ pins, p.1 ≠ b) :
    Inv X pins σ H' { s with heap := h', gens := g', drawn := d', toks := t' } := by
  obtain ⟨m, ⟨o, es, ep, ho, r⟩, _⟩ := id I.loc
  obtain ⟨sl, hL⟩ := u.any ho I.free fun z => (hch _ z).2.1 rfl
  exact I.step (ch := ch) hch (fun b o hL hb hc e n => u.keep b o e n (fun z => (List.mem_cons.mp (I.stkSub b z)).elim hL hb) hc) (fun b o _ _ hc e n => u.any e n hc) (fun b o hc e n => u.free b o e n hc) (fun b o hc e => u.there b o e hc) u.tups u.frzs u.tbls (fun m' hm => by
    obtain ⟨o', es', ep', ho', r'⟩ := hm
    rw [ho] at ho'; cases ho'
    exact ⟨_, es', ep', hL, r'⟩) hok hg
theorem Inv.turned {t' : Nat} {it : Addr} (I : Inv X pins σ H s) (k : ∀ b o, b ≠ it -> s.heap.get? b = some o -> h'.get? b = some o) (hn : H it = none) (hL : it ≠ X.env.locals)
    (h1 : it ∈ X.ex ∨ X.s₀.heap.objs.size <= it) (h2 : ∀ x c, X.env.cells.lookup x = some c -> c ≠ it) (h3 : ∀ p ∈ X.pn ++ pins, p.1 ≠ it) : Inv X pins σ H { s with heap := h', toks := t' } := by
  have nit : ∀ b u, H b = some u -> b ≠ it := fun b u e z => by rw [z, hn] at e; cases e
  refine I.step (g' := s.gens) (d' := s.drawn) (ch := [it]) (fun b hb => ?_) (fun b o _ _ hc e _ => k b o (fun z => hc (by simp [z])) e) (fun b o _ _ hc e _ => ⟨o.slots, k b o (fun z => hc (by simp [z])) e⟩) (fun _ _ _ _ n => n)
    (fun b o hc e => ⟨o, k b o (fun z => hc (by simp [z])) e⟩) (fun _ _ e => e) (fun _ _ _ e => e) (fun b ps e => ⟨#[], by rw [e]; simp⟩) (fun m hm => ?_) (fun b u e => ?_) I.bare
  · have e : b = it := by simpa using hb
    subst e
    exact ⟨h1, hL, h2, h3⟩
  · obtain ⟨o, es, ep, ho, r⟩ := hm
    exact ⟨o, es, ep, k _ o (Ne.symm hL) ho, r⟩
  · refine (I.hok b u e).stay (fun c v hc q => k c v ?_ q) (fun _ q => q) fun _ _ q => q
    rcases hc with z | z
    · rw [z]; exact nit b u e
    · exact nit c _ z
theorem Inv.tok (I : Inv X pins σ H s) (t : Nat) : Inv X pins σ H { s with toks := t } := I.un (h' := s.heap) (t' := t) Un.refl I.hok
theorem Inv.kept {t' : Nat} (I : Inv X pins σ H s) (k : ∀ b u, s.heap.get? b = some u -> h'.get? b = some u) : Inv X pins σ H { s with heap := h', toks := t' } := I.un (Un.kept k) (I.hok.kept k)
theorem Inv.laid {a : Addr} {o : HO} {t' : Nat} (I : Inv X pins σ H s) (k : ∀ b u, s.heap.get? b = some u -> h'.get? b = some u) (hp : s.heap.objs.size <= a) (new : ObjOk X.prog X.w (upd H a o) h' a o) :
    Inv X pins σ (upd H a o) { s with heap := h', toks := t' } := I.un (Un.laid k hp (I.hok.fresh hp)) (I.hok.laid k hp new)
theorem Inv.write {x e : Addr} {o : HO} {t' : Nat} (I : Inv X pins σ H s) (mu : Mut (H x)) (he : e = x ∨ H e = some (.own x)) (k : ∀ b u, b ≠ e -> s.heap.get? b = some u -> h'.get? b = some u) (heo : ∃ u, h'.get? e = some u)
    (new : ObjOk X.prog X.w (upd H x o) h' x o) : Inv X pins σ (upd H x o) { s with heap := h', toks := t' } := I.un (Un.write mu he k heo) (I.hok.write mu he k heo new)
theorem Inv.pins_of {pins' : List (Addr × Obj)} (I : Inv X pins σ H s) (h : ∀ p ∈ pins', s.heap.get? p.1 = some p.2 /\ H p.1 = none /\ p.1 ≠ X.env.locals /\ p.1 ∉ X.fs /\ ∀ v, p.2.data ≠ .cell v) : Inv X pins' σ H s :=
  ⟨I.ok, I.os, I.bare, I.base, I.loc, I.cell, I.free, I.freeC, fun p hp => (List.mem_append.mp hp).elim (fun z => I.pin p (List.mem_append_left _ z)) (h p), I.hok, I.len⟩
theorem nodup_ix {N : List Str} (hN : N.Nodup) {i j : Nat} {x : Str} (a : N[i]? = some x) (b : N[j]? = some x) : i = j := by
  obtain ⟨h1, e1⟩ := List.getElem?_eq_some_iff.mp a
  obtain ⟨h2, e2⟩ := List.getElem?_eq_some_iff.mp b
  exact (List.getElem_inj hN).mp (e1.trans e2.symm)
theorem store_ok2 {M : Model} {A : Around} {E : Value -> Shared -> Prop} {i : Nat} {x : Str} {v : V} {u : Value} {Q : Unit -> Shared -> Prop} (I : Inv X pins σ H s) (hN : X.N.Nodup) (hi : X.N[i]? = some x) (hx : Loc X.env.scope x) (r : RelV v u)
    (h : ∀ s', Inv X pins (σ.set i (some v)) H s' -> (∃ a, Heap.SameBut a s.heap s'.heap /\ (a = X.env.locals ∨ X.env.cells.lookup x = some a)) -> Q () s') (hf : X.fn x = true ∨ X.env.scope.names.lookup x = some .local := by first | exact .inl rfl | exact .inr rfl | assumption) : wpAny M A (storeName X.env x u) Q E s := by
  obtain ⟨m, hn, hl⟩ := id I.loc
  have hcls : (X.env.scope.kind == .class || (X.env.scope.kind == .module && X.env.locals != X.env.globals)) = false := by rw [I.ok.kind]; rfl
  have hiσ : i < σ.length := by rw [I.len]; exact (List.getElem?_eq_some_iff.mp hi).1
  have cne := I.cne
  have tracked : ∀ {a : Addr} {h' : Heap}, (∃ o, s.heap.get? a = some o /\ H a = none) -> Heap.SameBut a s.heap h' -> HOk X.prog X.w H h' := fun {a h'} ha hs b ob e => by
    obtain ⟨_, _, hfree⟩ := ha
    refine (I.hok b ob e).stay (fun c w' hc q => (hs.2 c ?_).trans q) (fun _ q => q) fun _ _ q => q
    rintro rfl
    rcases hc with rfl | hc
    · rw [hfree] at e; cases e
    · rw [hfree] at hc; cases hc
  rcases hx with hk | hk
  · refine wpAny_storeName_local hk hn (fun h' hn' hs => ?_) hcls
    obtain ⟨oL, _, _, hoL, _⟩ := id hn
    refine h _ ⟨I.ok, I.os, I.bare, ⟨fun b o e n hb hx => ?_, fun b o e n hb hx => ?_, I.base.free, fun b o e hx => ?_, I.base.tups, I.base.frzs, I.base.tbls⟩, ⟨_, hn', fun j y v' e1 e2 e3 => ?_⟩, fun y c e => ?_, I.free, I.freeC, fun p hp => ?_, tracked ⟨oL, hoL, I.free⟩ hs, by simpa using I.len⟩ ⟨_, hs, .inl rfl⟩
    · exact (hs.2 b (Nat.ne_of_lt (Nat.lt_of_lt_of_le (Heap.lt_size e) I.ok.above))).trans (I.base.keep b o e n hb hx)
    · obtain ⟨sl, e1⟩ := I.base.slot b o e n hb hx
      exact ⟨sl, (hs.2 b (Nat.ne_of_lt (Nat.lt_of_lt_of_le (Heap.lt_size e) I.ok.above))).trans e1⟩
    · obtain ⟨o', e1⟩ := I.base.there b o e hx
      exact ⟨o', (hs.2 b (Nat.ne_of_lt (Nat.lt_of_lt_of_le (Heap.lt_size e) I.ok.above))).trans e1⟩
    · by_cases hj : j = i
      · subst hj
        rw [hi] at e1; cases e1
        rw [List.getElem?_set_self hiσ] at e2
        cases e2
        exact ⟨u, r, .inl ⟨hk, by simp⟩⟩
      · rw [List.getElem?_set_ne (Ne.symm hj)] at e2
        obtain ⟨u', r', q⟩ := hl j y v' e1 e2 e3
        refine ⟨u', r', ?_⟩
        rcases q with ⟨k, e⟩ | ⟨k, c, e, z⟩
        · refine .inl ⟨k, ?_⟩
          have : y ≠ x := fun e => hj (nodup_ix hN e1 (e ▸ hi))
          simp [this, e]
        · exact .inr ⟨k, c, e, z.sameBut hs (cne y c e)⟩
    · obtain ⟨w', z⟩ := I.cell y c e
      exact ⟨w', z.sameBut hs (cne y c e)⟩
    · obtain ⟨e, n, ne, nf, d⟩ := I.pin p hp
      exact ⟨(hs.2 p.1 ne).trans e, n, ne, nf, d⟩
  · have hfn : X.fn x = true := by
      rcases hf with z | z
      · exact z
      · rw [z] at hk; cases hk
    obtain ⟨c, hc⟩ := I.ok.has x (.inl hk)
    obtain ⟨w', z⟩ := I.cell x c hc
    refine wpAny_storeName_cell I.ok.kind hk hc z (fun h' hc' hs => ?_)
    obtain ⟨oc, hoc, hocd⟩ := id z
    refine h { s with heap := h' } ⟨I.ok, I.os, I.bare, ⟨fun b o e n hb hx => ?_, fun b o e n hb hx => ?_, I.base.free, fun b o e hx => ?_, I.base.tups, I.base.frzs, I.base.tbls⟩, ⟨m, hn.sameBut hs (Ne.symm (cne x c hc)), fun j y v' e1 e2 e3 => ?_⟩, fun y c' e => ?_, I.free, I.freeC, fun p hp => ?_, tracked ⟨oc, hoc, I.freeC x c hc⟩ hs, by simpa using I.len⟩ ⟨c, hs, .inr hc⟩
    · exact (hs.2 b (Nat.ne_of_lt (Nat.lt_of_lt_of_le (Heap.lt_size e) (I.ok.cab x c hfn hc)))).trans (I.base.keep b o e n hb hx)
    · obtain ⟨sl, e1⟩ := I.base.slot b o e n hb hx
      exact ⟨sl, (hs.2 b (Nat.ne_of_lt (Nat.lt_of_lt_of_le (Heap.lt_size e) (I.ok.cab x c hfn hc)))).trans e1⟩
    · obtain ⟨o', e1⟩ := I.base.there b o e hx
      exact ⟨o', (hs.2 b (Nat.ne_of_lt (Nat.lt_of_lt_of_le (Heap.lt_size e) (I.ok.cab x c hfn hc)))).trans e1⟩
    · by_cases hj : j = i
      · subst hj
        rw [hi] at e1; cases e1
        rw [List.getElem?_set_self hiσ] at e2
        cases e2
        exact ⟨u, r, .inr ⟨.inl hk, c, hc, hc'⟩⟩
      · rw [List.getElem?_set_ne (Ne.symm hj)] at e2
        obtain ⟨u', r', q⟩ := hl j y v' e1 e2 e3
        refine ⟨u', r', ?_⟩
        rcases q with q | ⟨k, c', e, z'⟩
        · exact .inl q
        · refine .inr ⟨k, c', e, z'.sameBut hs ?_⟩
          rintro rfl
          exact hj (nodup_ix hN e1 (I.ok.inj _ _ _ e hc ▸ hi))
    · by_cases hcc : c' = c
      · subst hcc; exact ⟨_, hc'⟩
      · obtain ⟨w2, z2⟩ := I.cell y c' e
        exact ⟨w2, z2.sameBut hs hcc⟩
    · obtain ⟨e, n, ne, nf, d⟩ := I.pin p hp
      refine ⟨(hs.2 p.1 ?_).trans e, n, ne, nf, d⟩
      intro q
      rw [q, hoc] at e
      have q' : oc = p.2 := Option.some.inj e
      exact d w' (by rw [← q']; exact hocd)
theorem store_ok {M : Model} {A : Around} {E : Value -> Shared -> Prop} {i : Nat} {x : Str} {v : V} {u : Value} {Q : Unit -> Shared -> Prop} (I : Inv X pins σ H s) (hN : X.N.Nodup) (hi : X.N[i]? = some x) (hx : Loc X.env.scope x) (r : RelV v u)
    (h : ∀ s', Inv X pins (σ.set i (some v)) H s' -> Q () s') (hf : X.fn x = true ∨ X.env.scope.names.lookup x = some .local := by first | exact .inl rfl | exact .inr rfl | assumption) : wpAny M A (storeName X.env x u) Q E s :=
  store_ok2 I hN hi hx r (fun s' I' _ => h s' I') hf
theorem Inv.call' {s' : Shared} {ch : List Addr} (I : Inv X pins σ H s) (ho : s'.os = s.os) (u : Un (frs X.stack) ch H H' s.heap s'.heap) (hok : HOk X.prog X.w H' s'.heap) (hg : AllBare s'.gens)
    (hch : ∀ b ∈ ch, (b ∈ X.ex ∨ X.s₀.heap.objs.size <= b) /\ b ≠ X.env.locals /\ (∀ x c, X.env.cells.lookup x = some c -> c ≠ b) /\ ∀ p ∈ X.pn ++ pins, p.1 ≠ b) : Inv X pins σ H' s' := by
  obtain ⟨h', g', d', t', o'⟩ := s'
  have e : o' = s.os := ho
  subst e
  exact I.call (g' := g') (t' := t') (d' := d') u hok hg hch
end
abbrev XK := Value -> Option Addr -> Hp -> Prop
abbrev St := List (Option V)
abbrev VK := V -> Hp -> Prop
abbrev TE := St -> Hp -> VK -> Prop
abbrev TT := St -> Hp -> (Bool -> Hp -> Prop) -> Prop
abbrev TA := St -> Hp -> (List V -> Hp -> Prop) -> Prop
structure Ends where
  nx : St -> Hp -> Prop
  rt : VK
  bk : St -> Hp -> Prop := fun _ _ => False
  ct : St -> Hp -> Prop := fun _ _ => False
abbrev TS := Ends -> St -> Hp -> Prop
def EP (X : Cx) (pins : List (Addr × Obj)) (σ : St) (Q : VK) (u : Value) (s' : Shared) : Prop := ∃ v H', Inv X pins σ H' s' /\ RelV v u /\ Q v H'
def TP (X : Cx) (pins : List (Addr × Obj)) (σ : St) (Q : Bool -> Hp -> Prop) (b : Bool) (s' : Shared) : Prop := ∃ H', Inv X pins σ H' s' /\ Q b H'
def AP (X : Cx) (pins : List (Addr × Obj)) (σ : St) (Q : List V -> Hp -> Prop) (us : List Value) (s' : Shared) : Prop := ∃ vs H', Inv X pins σ H' s' /\ Vals vs us /\ Q vs H'
def SP (X : Cx) (pins : List (Addr × Obj)) (D : Ends) (f : Flow) (s' : Shared) : Prop :=
  match f with
  | .next => ∃ σ' H', Inv X pins σ' H' s' /\ D.nx σ' H'
  | .brk => ∃ σ' H', Inv X pins σ' H' s' /\ D.bk σ' H'
  | .cont => ∃ σ' H', Inv X pins σ' H' s' /\ D.ct σ' H'
  | .ret u => ∃ v σ' H', Inv X pins σ' H' s' /\ RelV v u /\ D.rt v H'
def PE (X : Cx) (e : Expr) (t : TE) : Prop :=
  ∀ (pins : List (Addr × Obj)) (s : Shared) (σ : St) (H : Hp) (Q : VK), Inv X pins σ H s -> t σ H Q -> wpAny (model X.prog X.w) X.A (eval e X.env) (EP X pins σ Q) X.xe s
def PT (X : Cx) (e : Expr) (t : TT) : Prop :=
  ∀ (pins : List (Addr × Obj)) (s : Shared) (σ : St) (H : Hp) (Q : Bool -> Hp -> Prop), Inv X pins σ H s -> t σ H Q -> wpAny (model X.prog X.w) X.A (isTrue e X.env (eval e X.env)) (TP X pins σ Q) X.xe s
def PW (X : Cx) (e : Expr) (t : TT) : Prop :=
  ∀ (whole : Sem Value) (pins : List (Addr × Obj)) (s : Shared) (σ : St) (H : Hp) (Q : Bool -> Hp -> Prop), Inv X pins σ H s -> t σ H Q -> wpAny (model X.prog X.w) X.A (isTrue e X.env whole) (TP X pins σ Q) X.xe s
theorem PW.pt {X : Cx} {e : Expr} {t : TT} (h : PW X e t) : PT X e t := h _
def PA (X : Cx) (es : List Expr) (t : TA) : Prop :=
  ∀ (pos : Pos) (pins : List (Addr × Obj)) (s : Shared) (σ : St) (H : Hp) (Q : List V -> Hp -> Prop), Inv X pins σ H s -> t σ H Q -> wpAny (model X.prog X.w) X.A (spliced (backTo pos (starEach es X.env))) (AP X pins σ Q) X.xe s
def PS (X : Cx) (st : Stmt) (t : TS) : Prop :=
  ∀ (pins : List (Addr × Obj)) (s : Shared) (σ : St) (H : Hp) (D : Ends), Inv X pins σ H s -> t D σ H -> wpAny (model X.prog X.w) X.A (exec st X.env) (SP X pins D) X.xe s
def PSs (X : Cx) (st : List Stmt) (t : TS) : Prop :=
  ∀ (pins : List (Addr × Obj)) (s : Shared) (σ : St) (H : Hp) (D : Ends), Inv X pins σ H s -> t D σ H -> wpAny (model X.prog X.w) X.A (execs st X.env) (SP X pins D) X.xe s
theorem thn {α : Type} {t : Sem α} {Q Q' : α -> Shared -> Prop} {M : Model} {A : Around} {E : Value -> Shared -> Prop} {s : Shared} (h : wpAny M A t Q E s) (hQ : ∀ a s, Q a s -> Q' a s) : wpAny M A t Q' E s := wpAny_mono h hQ fun _ _ x => x
end L2
namespace L2
open PySem PySem.Spec PyProof.Rows
section
variable {X : Cx}
def tVar (i : Nat) : TE := fun σ H Q => ∃ v, σ[i]? = some (some v) /\ Q v H
def tC (v : V) : TE := fun _ H Q => Q v H
theorem pe_var {i : Nat} {x : Str} {pos : Pos} (hN : X.N[i]? = some x) (hv : Vis X.env.scope x) (hd : (x == ("__debug__" : Str)) = false := by decide) (hcd : (x == ("__classdict__" : Str)) = false := by decide) : PE X (.Name x pos) (tVar i) := by
  intro pins s σ H Q I h
  obtain ⟨v, e, h⟩ := h
  obtain ⟨m, hn, hl⟩ := I.loc
  obtain ⟨u, r, l⟩ := hl i x v hN e hv
  have fin : EP X pins σ Q u s := ⟨v, H, I, r, h⟩
  rcases l with ⟨hk, hm⟩ | ⟨hk, c, hc, hcell⟩
  · exact wpAny_Name (wpAny_loadName_local I.ok.kind hk hn hm fin) hd
  · rcases hk with hk | hk
    · exact wpAny_Name (wpAny_loadName_cell I.ok.kind hk hc hcell fin) hd
    · exact wpAny_Name (wpAny_loadName_free I.ok.kind hk hc hcell fin hcd) hd
theorem pe_int {i j pos} : PE X (.Constant (.int i) j pos) (tC (.int i)) := fun _ _ _ H _ I h => wpAny_Constant_int ⟨.int i, H, I.tok _, ⟨_, rfl⟩, h⟩
theorem pe_bl {b j pos} : PE X (.Constant (.bool b) j pos) (tC (.bl b)) := fun _ _ _ H _ I h => Constant_bool ⟨.bl b, H, I, rfl, h⟩
theorem pe_non {j pos} : PE X (.Constant .none j pos) (tC .non) := fun _ _ _ H _ I h => Constant_none ⟨.non, H, I, rfl, h⟩
theorem pe_str {x j pos} : PE X (.Constant (.str x) j pos) (tC (.str x)) := fun _ _ _ H _ I h => Calls.Constant_str ⟨.str x, H, I.tok _, ⟨_, rfl⟩, h⟩
def Gl (X : Cx) (x : Str) : Prop := X.env.kindOf x = some .globalImplicit
theorem ld_glob {E : Value -> Shared -> Prop} {pins : List (Addr × Obj)} {s : Shared} {σ : St} {H : Hp} {x : Str} {u : Value} {pos : Pos} {Q : Value -> Shared -> Prop} (I : Inv X pins σ H s) (hg : Gl X x) (hm : X.mg x = some u) (h : Q u s)
    (hd : (x == ("__debug__" : Str)) = false := by decide) : wpAny (model X.prog X.w) X.A (eval (.Name x pos) X.env) Q E s :=
  Calls.Name_function_global I.ok.kind hg (Calls.loadGlobal_global (by rw [I.ok.glob]; exact I.mod.glob.keeps I.bk) hm h) hd
theorem ld_blt {E : Value -> Shared -> Prop} {pins : List (Addr × Obj)} {s : Shared} {σ : St} {H : Hp} {x : Str} {u : Value} {pos : Pos} {Q : Value -> Shared -> Prop} (I : Inv X pins σ H s) (hg : Gl X x) (hm : X.mg x = none) (hv : bootBuiltins x = some u) (h : Q u s)
    (hn : x ≠ "__name__" := by decide) (hd : (x == ("__debug__" : Str)) = false := by decide) : wpAny (model X.prog X.w) X.A (eval (.Name x pos) X.env) Q E s := by
  obtain ⟨mb, h1, h2⟩ := I.mod.blt
  exact Calls.Name_function_global I.ok.kind hg (Calls.loadGlobal_builtin (by rw [I.ok.glob]; exact I.mod.glob.keeps I.bk) hm (by rw [I.ok.blt]; exact h1.keeps I.bk) ((h2 x hn).trans hv) h) hd
theorem pe_glob {x : Str} {v : V} {u : Value} {pos : Pos} (hg : Gl X x) (hm : X.mg x = some u) (r : RelV v u) (hd : (x == ("__debug__" : Str)) = false := by decide) : PE X (.Name x pos) (tC v) :=
  fun _ _ _ H _ I h => ld_glob I hg hm ⟨v, H, I, r, h⟩ hd
theorem pe_bltn {x : Str} {v : V} {u : Value} {pos : Pos} (hg : Gl X x) (hm : X.mg x = none) (hv : bootBuiltins x = some u) (r : RelV v u) (hn : x ≠ "__name__" := by decide) (hd : (x == ("__debug__" : Str)) = false := by decide) : PE X (.Name x pos) (tC v) :=
  fun _ _ _ H _ I h => ld_blt I hg hm hv ⟨v, H, I, r, h⟩ hn hd
variable {a b : Expr} {ta tb : TE} {pos : Pos}
def tB (t : TE) : TT := fun σ H Q => t σ H fun x H1 => ∃ c, x = .bl c /\ Q c H1
theorem pt_val {e : Expr} {t : TE} (h : PE X e t) (he : ∀ whole, isTrue e X.env whole = (do let v ← whole; standAt e.pos; holding [v] (truthy v)) := by intro _; rfl) : PT X e (tB t) := by
  intro pins s σ H Q I hw
  refine isTrue_plain (thn (h pins s σ H _ I hw) fun v s1 ⟨x, H1, I1, r1, q1⟩ => ?_) (he _)
  obtain ⟨d, rfl, q⟩ := q1
  cases r1
  exact wpAny_truthy_bool ⟨H1, I1, q⟩
variable {tA tB' : TT} {rest : List Expr}
def tAnd (t u : TT) : TT := fun σ H Q => t σ H fun c H1 => if c = true then u σ H1 Q else Q false H1
def tOr (t u : TT) : TT := fun σ H Q => t σ H fun c H1 => if c = true then Q true H1 else u σ H1 Q
def tNot (t : TT) : TT := fun σ H Q => t σ H fun c H1 => Q (!c) H1
theorem pw_and1 (ha : PT X a tA) : PW X (.BoolOp .And [a] pos) tA := by
  intro wh pins s σ H Q I h
  refine isTrue_and (thn (ha pins s σ H Q I h) fun c s1 e => ?_)
  cases c with
  | true => exact isTrue_and_nil e
  | false => exact e
theorem pw_or1 (ha : PT X a tA) : PW X (.BoolOp .Or [a] pos) tA := by
  intro wh pins s σ H Q I h
  refine isTrue_or (thn (ha pins s σ H Q I h) fun c s1 e => ?_)
  cases c with
  | false => exact isTrue_or_nil e
  | true => exact e
theorem pw_and (ha : PT X a tA) (hb : PW X (.BoolOp .And (b :: rest) pos) tB') : PW X (.BoolOp .And (a :: b :: rest) pos) (tAnd tA tB') := by
  intro wh pins s σ H Q I h
  refine isTrue_and (thn (ha pins s σ H _ I h) fun c s1 ⟨H1, I1, q1⟩ => ?_)
  cases c with
  | true => exact hb wh pins s1 σ H1 Q I1 q1
  | false => exact ⟨H1, I1, q1⟩
theorem pw_or (ha : PT X a tA) (hb : PW X (.BoolOp .Or (b :: rest) pos) tB') : PW X (.BoolOp .Or (a :: b :: rest) pos) (tOr tA tB') := by
  intro wh pins s σ H Q I h
  refine isTrue_or (thn (ha pins s σ H _ I h) fun c s1 ⟨H1, I1, q1⟩ => ?_)
  cases c with
  | true => exact ⟨H1, I1, q1⟩
  | false => exact hb wh pins s1 σ H1 Q I1 q1
theorem pt_not (ha : PT X a tA) : PT X (.UnaryOp .Not a pos) (tNot tA) := by
  intro pins s σ H Q I h
  exact isTrue_not (ha pins s σ H (fun c H1 => Q (!c) H1) I h)
def tAndV (ta tb : TE) : TE := fun σ H Q => ta σ H fun x H1 => ∃ c, x = .bl c /\ if c = true then tb σ H1 Q else Q (.bl false) H1
def tNotV (ta : TE) : TE := fun σ H Q => ta σ H fun x H1 => ∃ c, x = .bl c /\ Q (.bl (!c)) H1
theorem pe_one {op} {t : TE} (h : PE X a t) : PE X (.BoolOp op [a] pos) t := fun pins s σ H Q I hw => BoolOp_one (h pins s σ H Q I hw)
theorem pe_and (ha : PE X a ta) (hb : PE X (.BoolOp .And (b :: rest) pos) tb) : PE X (.BoolOp .And (a :: b :: rest) pos) (tAndV ta tb) := by
  intro pins s σ H Q I h
  refine BoolOp_and (thn (ha pins s σ H _ I h) fun v s1 ⟨x, H1, I1, r1, q1⟩ => ?_)
  obtain ⟨c, rfl, q1⟩ := q1
  cases r1
  refine wpAny_truthy_bool ?_
  cases c with
  | true => exact hb pins s1 σ H1 Q I1 q1
  | false => exact ⟨.bl false, H1, I1, rfl, q1⟩
theorem pe_not (ha : PE X a ta) : PE X (.UnaryOp .Not a pos) (tNotV ta) := by
  intro pins s σ H Q I h
  refine UnaryOp_ (thn (ha pins s σ H _ I h) fun v s1 ⟨x, H1, I1, r1, q1⟩ => ?_)
  obtain ⟨c, rfl, q1⟩ := q1
  cases r1
  exact not_of (wpAny_truthy_bool ⟨.bl (!c), H1, I1, rfl, q1⟩)
def tIf (t : TT) (ta tb : TE) : TE := fun σ H Q => t σ H fun c H1 => if c = true then ta σ H1 Q else tb σ H1 Q
theorem pe_ifExp {c : Expr} (hc : PT X c tA) (ha : PE X a ta) (hb : PE X b tb) : PE X (.IfExp c a b pos) (tIf tA ta tb) := by
  intro pins s σ H Q I h
  refine wpAny_IfExp (thn (hc pins s σ H _ I h) fun d s1 ⟨H1, I1, q1⟩ => ?_)
  cases d with
  | true => exact ha pins s1 σ H1 Q I1 q1
  | false => exact hb pins s1 σ H1 Q I1 q1
end
end L2
namespace L2
open PySem PySem.Spec PyProof.Rows
def SqL (K : PySem.W.Frag) (H : Hp) (a : Addr) (xs : List V) : Prop :=
  Rd H a (.lst xs) ∨
    ∃ (o : Obj) (its : Array Value) (n : Nat), K.lookup a = some o /\ o.cls = .type "list" /\ o.dict = none /\ o.data = .seq its n /\ its.size <= sizeLine /\ Vals xs its.toList
def SqT (K : PySem.W.Frag) (H : Hp) (a : Addr) (xs : List V) : Prop :=
  Rd H a (.tup xs) ∨
    ∃ (o : Obj) (its : Array Value) (n : Nat), K.lookup a = some o /\ o.cls = .type "tuple" /\ o.data = .seq its n /\ its.size <= sizeLine /\ Vals xs its.toList
def absV : Value -> Option V
  | .none => some .non
  | .bool b => some (.bl b)
  | .int i _ => some (.int i)
  | .str x _ => some (.str x)
  | .bytes b _ => some (.byt b)
  | .float b _ => some (.flt b)
  | .ref a => some (.ref a)
  | .type n => some (.ty n)
  | _ => none
theorem RelV.abs {x : V} {u : Value} (r : RelV x u) : absV u = some x := by
  cases x with
  | non => cases r; rfl
  | bl _ => cases r; rfl
  | int _ => obtain ⟨t, rfl⟩ := r; rfl
  | str _ => obtain ⟨t, rfl⟩ := r; rfl
  | byt _ => obtain ⟨t, rfl⟩ := r; rfl
  | flt _ => obtain ⟨t, rfl⟩ := r; rfl
  | ref _ => cases r; rfl
  | ty _ => cases r; rfl
theorem RelV.inj {x y : V} {u : Value} (r : RelV x u) (q : RelV y u) : x = y := Option.some.inj (r.abs.symm.trans q.abs)
theorem Vals.inj : ∀ {xs ys : List V} {us : List Value}, Vals xs us -> Vals ys us -> xs = ys
  | _, _, _, .nil, .nil => rfl
  | _, _, _, .cons r t, .cons r' t' => by rw [r.inj r', Vals.inj t t']
section
variable {X : Cx} {pins : List (Addr × Obj)} {σ : St} {H : Hp} {s : Shared} {a : Addr} {xs ys : List V}
theorem SqL.of {K : PySem.W.Frag} (h : H a = some (.lst xs)) : SqL K H a xs := .inl (.inl h)
theorem SqT.of {K : PySem.W.Frag} (h : H a = some (.tup xs)) : SqT K H a xs := .inl (.inl h)
theorem Inv.list (I : Inv X pins σ H s) (h : SqL X.K H a xs) : ∃ its : List Value, Vals xs its /\ PlainL s.heap a its.toArray /\ xs.length <= sizeLine := by
  rcases h with h | ⟨o, its, n, hk, hc, hd, hs, hz, r⟩
  · obtain ⟨z, its, n, r, e⟩ := h.ok I.hok
    exact ⟨its, r, ⟨_, n, e, rfl, rfl, rfl⟩, z⟩
  · refine ⟨its.toList, r, ⟨o, n, I.kIn a o hk, hc, hd, by simpa using hs⟩, ?_⟩
    have e := r.length
    simp only [Array.length_toList] at e
    omega
theorem Inv.tuple (I : Inv X pins σ H s) (h : SqT X.K H a xs) : ∃ its : List Value, Vals xs its /\ IsTup s.heap a its.toArray /\ xs.length <= sizeLine := by
  rcases h with h | ⟨o, its, n, hk, hc, hs, hz, r⟩
  · obtain ⟨z, its, r, p⟩ := h.ok I.hok
    exact ⟨its, r, p.up, z⟩
  · refine ⟨its.toList, r, ⟨o, I.kIn a o hk, hc, n, by simpa using hs⟩, ?_⟩
    have e := r.length
    simp only [Array.length_toList] at e
    omega
theorem Inv.list_inj (I : Inv X pins σ H s) (h : SqL X.K H a xs) (h' : SqL X.K H a ys) : xs = ys := by
  obtain ⟨its, r, ⟨o, n, e, _, _, d⟩, _⟩ := I.list h
  obtain ⟨its', r', ⟨o', n', e', _, _, d'⟩, _⟩ := I.list h'
  rw [e] at e'; cases e'
  rw [d] at d'
  injection d' with d1 _
  have : its = its' := by simpa using congrArg Array.toList d1
  subst this
  exact r.inj r'
theorem Inv.tuple_inj (I : Inv X pins σ H s) (h : SqT X.K H a xs) (h' : SqT X.K H a ys) : xs = ys := by
  obtain ⟨its, r, ⟨o, e, _, n, d⟩, _⟩ := I.tuple h
  obtain ⟨its', r', ⟨o', e', _, n', d'⟩, _⟩ := I.tuple h'
  rw [e] at e'; cases e'
  rw [d] at d'
  injection d' with d1 _
  have : its = its' := by simpa using congrArg Array.toList d1
  subst this
  exact r.inj r'
end
abbrev Cx.wish (X : Cx) (E : Value -> Shared -> Prop) : Cx := { X with xe := E }
abbrev Cx.nox (X : Cx) : Cx := X.wish fun _ _ => False
theorem Cx.Ok.wish {X : Cx} (ok : X.Ok) (E : Value -> Shared -> Prop) : (X.wish E).Ok :=
  ⟨ok.mod, ok.kind, ok.glob, ok.blt, ok.above, ok.inj, ok.has, ok.cab, ok.hd, ok.frames, ok.stk, ok.exf, ok.bs, ok.bsz, ok.noex, ok.exfs, ok.funs, ok.frf⟩
theorem Cx.Ok.unwish {X : Cx} {E : Value -> Shared -> Prop} (ok : (X.wish E).Ok) : X.Ok :=
  ⟨ok.mod, ok.kind, ok.glob, ok.blt, ok.above, ok.inj, ok.has, ok.cab, ok.hd, ok.frames, ok.stk, ok.exf, ok.bs, ok.bsz, ok.noex, ok.exfs, ok.funs, ok.frf⟩
section
variable {X : Cx} {pins : List (Addr × Obj)} {σ : St} {H : Hp} {s : Shared} {E : Value -> Shared -> Prop}
theorem Inv.wish (I : Inv X pins σ H s) (E : Value -> Shared -> Prop) : Inv (X.wish E) pins σ H s := ⟨I.ok.wish E, I.os, I.bare, I.base, I.loc, I.cell, I.free, I.freeC, I.pin, I.hok, I.len⟩
theorem Inv.unwish (I : Inv (X.wish E) pins σ H s) : Inv X pins σ H s := ⟨I.ok.unwish, I.os, I.bare, I.base, I.loc, I.cell, I.free, I.freeC, I.pin, I.hok, I.len⟩
theorem SP.unwish {D : Ends} {f : Flow} {s' : Shared} (h : SP (X.wish E) pins D f s') : SP X pins D f s' := by
  cases f with
  | next => obtain ⟨σ', H', I, q⟩ := h; exact ⟨σ', H', I.unwish, q⟩
  | brk => obtain ⟨σ', H', I, q⟩ := h; exact ⟨σ', H', I.unwish, q⟩
  | cont => obtain ⟨σ', H', I, q⟩ := h; exact ⟨σ', H', I.unwish, q⟩
  | ret u => obtain ⟨v, σ', H', I, r, q⟩ := h; exact ⟨v, σ', H', I.unwish, r, q⟩
theorem PSs.nox {st : List Stmt} {t : TS} (h : PSs X.nox st t) : PSs X st t := fun pins s σ H D I hw =>
  wpAny_mono (h pins s σ H D (I.wish _) hw) (fun _ _ q => q.unwish) fun _ _ z => False.elim z
end
section
variable {X : Cx} {st : Stmt} {rest : List Stmt} {t u : TS} {e : Expr} {te : TE} {pos : Pos}
def tNext : TS := fun D σ H => D.nx σ H
def tSeq (t u : TS) : TS := fun D σ H => t { D with nx := u D } σ H
theorem pss_nil : PSs X [] tNext := fun _ _ σ H _ I h => wpAny_execs_nil ⟨σ, H, I, h⟩
theorem pss_cons (h1 : PS X st t) (h2 : PSs X rest u) : PSs X (st :: rest) (tSeq t u) := by
  intro pins s σ H D I h
  refine wpAny_execs_cons (thn (h1 pins s σ H { D with nx := u D } I h) fun f s1 q => ?_)
  cases f with
  | next =>
    obtain ⟨σ', H', I', q⟩ := q
    exact h2 pins s1 σ' H' D I' q
  | ret v => exact q
  | brk => exact q
  | cont => exact q
theorem pss_one (h1 : PS X st t) : PSs X [st] t := by
  intro pins s σ H D I h
  refine wpAny_execs_cons (thn (h1 pins s σ H D I h) fun f s1 q => ?_)
  cases f with
  | next => exact wpAny_execs_nil q
  | ret v => exact q
  | brk => exact q
  | cont => exact q
theorem Inv.quiet {pins : List (Addr × Obj)} {σ : St} {H : Hp} {s : Shared} (I : Inv X pins σ H s) : interactive X.env = false := by simp [interactive, I.ok.kind]
def tDrop (te : TE) : TS := fun D σ H => te σ H fun _ H1 => D.nx σ H1
theorem ps_expr (he : PE X e te) (hs : swapsWith e none pos.line X.env = pure false := by rfl) : PS X (.Expr e pos) (tDrop te) := by
  intro pins s σ H D I h
  exact wpAny_Expr_any (thn (he pins s σ H _ I h) fun v s1 ⟨x, H1, I1, r1, q1⟩ => ⟨σ, H1, I1, q1⟩) I.quiet hs
def tRet (te : TE) : TS := fun D σ H => te σ H D.rt
theorem ps_ret (he : PE X e te) : PS X (.Return (some e) pos) (tRet te) := by
  intro pins s σ H D I h
  exact wpAny_Return_some (thn (he pins s σ H _ I h) fun v s1 ⟨x, H1, I1, r1, q1⟩ => ⟨x, σ, H1, I1, r1, q1⟩)
def tIfS (c : TT) (t u : TS) : TS := fun D σ H => c σ H fun b H1 => if b = true then t D σ H1 else u D σ H1
theorem ps_if {c : Expr} {a b : List Stmt} {tc : TT} (hc : PT X c tc) (ha : PSs X a t) (hb : PSs X b u) : PS X (.If c a b pos) (tIfS tc t u) := by
  intro pins s σ H D I h
  refine wpAny_If (thn (hc pins s σ H _ I h) fun d s1 ⟨H1, I1, q1⟩ => ?_)
  cases d with
  | true => exact ha pins s1 σ H1 D I1 q1
  | false => exact hb pins s1 σ H1 D I1 q1
def tNever : TS := fun _ _ _ => False
theorem ps_never : PS X st tNever := fun _ _ _ _ _ _ h => h.elim
end
abbrev TG := V -> St -> Hp -> (St -> Hp -> Prop) -> Prop
abbrev TGs := List V -> St -> Hp -> (St -> Hp -> Prop) -> Prop
def PG (X : Cx) (target : Expr) (t : TG) : Prop :=
  ∀ (pins : List (Addr × Obj)) (s : Shared) (σ : St) (H : Hp) (v : V) (u : Value) (Q : St -> Hp -> Prop), Inv X pins σ H s -> RelV v u -> t v σ H Q ->
    wpAny (model X.prog X.w) X.A (assign target X.env u) (fun _ s' => ∃ σ' H', Inv X pins σ' H' s' /\ Q σ' H') X.xe s
def PGs (X : Cx) (ts : List Expr) (t : TGs) : Prop :=
  ∀ (pins : List (Addr × Obj)) (s : Shared) (σ : St) (H : Hp) (vs : List V) (us : List Value) (Q : St -> Hp -> Prop), Inv X pins σ H s -> Vals vs us -> t vs σ H Q ->
    wpAny (model X.prog X.w) X.A (assignInOrder ((assignEach ts X.env).map (·.2)) us) (fun _ s' => ∃ σ' H', Inv X pins σ' H' s' /\ Q σ' H') X.xe s
abbrev TSet := V -> V -> V -> Hp -> (Hp -> Prop) -> Prop
def PSet (X : Cx) (t : TSet) : Prop :=
  ∀ (pins : List (Addr × Obj)) (s : Shared) (σ : St) (H : Hp) (o i v : V) (ov iv u : Value) (Q : Hp -> Prop), Inv X pins σ H s -> RelV o ov -> RelV i iv -> RelV v u -> t o i v H Q ->
    wpAny (model X.prog X.w) X.A (setItem ov iv u) (fun _ s' => ∃ H', Inv X pins σ H' s' /\ Q H') X.xe s
section
variable {X : Cx} {pos : Pos}
def gName (i : Nat) : TG := fun v σ H Q => Q (σ.set i (some v)) H
theorem pg_name {i : Nat} {x : Str} (hN : X.N.Nodup) (hi : X.N[i]? = some x) (hx : Loc X.env.scope x) (hf : X.fn x = true ∨ X.env.scope.names.lookup x = some .local := by first | exact .inl rfl | exact .inr rfl | assumption) : PG X (.Name x pos) (gName i) := by
  intro pins s σ H v u Q I r h
  exact wpAny_assign_Name (store_ok I hN hi hx r (fun s' I' => ⟨_, H, I', h⟩) hf)
def gNil : TGs := fun vs σ H Q => vs = [] /\ Q σ H
def gCons (t : TG) (u : TGs) : TGs := fun vs σ H Q => ∃ v r, vs = v :: r /\ t v σ H fun σ' H' => u r σ' H' Q
theorem pgs_nil : PGs X [] gNil := by
  intro pins s σ H vs us Q I r h
  obtain ⟨e, h⟩ := h
  subst e
  cases r
  exact assignInOrder_nil ⟨σ, H, I, h⟩
theorem pgs_cons {e : Expr} {es : List Expr} {t : TG} {u : TGs} (h1 : PG X e t) (h2 : PGs X es u)
    (hs : (assignEach (e :: es) X.env).map (·.2) = assign e X.env :: (assignEach es X.env).map (·.2) := by rfl) : PGs X (e :: es) (gCons t u) := by
  intro pins s σ H vs us Q I r h
  obtain ⟨v, vr, e1, h⟩ := h
  subst e1
  cases r with
  | cons r rr =>
    rw [hs]
    refine assignInOrder_cons (thn (h1 pins s σ H _ _ _ I r h) fun _ s1 ⟨σ1, H1, I1, q1⟩ => ?_)
    exact h2 pins s1 σ1 H1 _ _ Q I1 rr q1
def gTup (K : PySem.W.Frag) (n : Nat) (t : TGs) : TG := fun v σ H Q => ∃ a xs, v = .ref a /\ SqT K H a xs /\ xs.length = n /\ t xs σ H Q
theorem pg_tup {es : List Expr} {k : Nat} {t : TGs} {n : Nat} (hc : X.warm = true) (h : PGs X es t)
    (hn : (assignEach es X.env).length = n := by rfl) (hst : (assignEach es X.env).findIdx? (·.1) = none := by rfl) : PG X (.Tuple es k pos) (gTup X.K n t) := by
  intro pins s σ H v u Q I r hw
  obtain ⟨a, xs, e1, hq, hl, hw⟩ := hw
  subst e1
  cases r
  obtain ⟨its, rv, ht, hz⟩ := I.tuple hq
  refine Hd.to_tuple (I.hin hc) ht (by simp [hn, ← hl, rv.length]) hst fun h' hx => ?_
  have I1 : Inv X pins σ H { s with heap := h' } := I.kept (t' := s.toks) fun b o e => hx b o (Nat.ne_of_lt (Heap.lt_size e)) e
  exact h pins _ σ H xs _ Q I1 (by simpa using rv) hw
def gSub (to ti : TE) (t : TSet) : TG := fun v σ H Q => to σ H fun o H1 => ti σ H1 fun i H2 => t o i v H2 fun H3 => Q σ H3
theorem pg_sub {o i : Expr} {to ti : TE} {t : TSet} (ho : PE X o to) (hi : PE X i ti) (hs : PSet X t)
    (ha : ∀ v, assign (.Subscript o i pos) X.env v = (do
      let ov ← holding [v] (eval o X.env)
      let iv ← holding [v, ov] (eval i X.env)
      standAt pos
      holding [v, ov, iv] (setItem ov iv v)
      release [v, ov, iv] []) := by intro _; rfl) : PG X (.Subscript o i pos) (gSub to ti t) := by
  intro pins s σ H v u Q I r h
  rw [ha]
  refine wpAny_bind (wpAny_holding (thn (ho pins s σ H _ I h) fun ov s1 ⟨x, H1, I1, r1, q1⟩ => ?_))
  refine wpAny_bind (wpAny_holding (thn (hi pins s1 σ H1 _ I1 q1) fun iv s2 ⟨y, H2, I2, r2, q2⟩ => ?_))
  refine wpAny_bind (wpAny_standAt (wpAny_bind (wpAny_holding (thn (hs pins s2 σ H2 x y v ov iv u _ I2 r1 r2 r q2) fun _ s3 ⟨H3, I3, q3⟩ => ?_))))
  exact wpAny_release ⟨σ, H3, I3, q3⟩
def tAsg (te : TE) (g : TG) : TS := fun D σ H => te σ H fun x H1 => g x σ H1 D.nx
theorem ps_asg {tg e : Expr} {te : TE} {g : TG} (he : PE X e te) (hg : PG X tg g) (hs : swapsWithSole [tg] e pos.line X.env = pure false := by rfl) (hw : swappedStores [tg] e X.env = pure none := by rfl)
    (h1 : (assignEach [tg] X.env).map (·.2) = [assign tg X.env] := by rfl) : PS X (.Assign [tg] e pos) (tAsg te g) := by
  intro pins s σ H D I h
  refine wpAny_Assign_stores (thn (he pins s σ H _ I h) fun v s1 ⟨x, H1, I1, r1, q1⟩ => ?_) hs hw
  rw [h1]
  exact thn (hg pins s1 σ H1 x v _ I1 r1 q1) fun _ s2 q => q
theorem ps_set {i : Nat} {x : Str} {e : Expr} {te : TE} {pos' : Pos} (hN : X.N.Nodup) (hi : X.N[i]? = some x) (hx : Loc X.env.scope x) (he : PE X e te) (hs : swapsWith e (some (.Name x pos')) pos.line X.env = pure false := by rfl) (hf : X.fn x = true ∨ X.env.scope.names.lookup x = some .local := by first | exact .inl rfl | exact .inr rfl | assumption) :
    PS X (.Assign [.Name x pos'] e pos) (tAsg te (gName i)) := by
  intro pins s σ H D I h
  refine wpAny_Assign_Name (thn (he pins s σ H _ I h) fun v s1 ⟨y, H1, I1, r1, q1⟩ => ?_) hs
  exact store_ok I1 hN hi hx r1 (fun s2 I2 => ⟨_, H1, I2, q1⟩) hf
end
section
variable {X : Cx} {pos : Pos}
def tWhile (c : TT) (tb : TS) : TS := fun D σ H => ∃ W : Nat -> St -> Hp -> Prop, (∃ m, W m σ H) /\ ∀ m σ H, W m σ H ->
  c σ H fun b H1 => if b = true then ∃ N : St -> Hp -> Prop, (∀ σ' H', N σ' H' -> ∃ m', m' < m /\ W m' σ' H') /\ tb { D with nx := N, ct := N, bk := D.nx } σ H1 else D.nx σ H1
theorem ps_while {c : Expr} {body : List Stmt} {tc : TT} {tb : TS} (hp : PassesOwn (model X.prog X.w) X.A X.env X.xe) (hc : PT X c tc) (hb : PSs X body tb) : PS X (.While c body [] pos) (tWhile tc tb) := by
  intro pins s σ H D I h
  obtain ⟨W, ⟨m0, w0⟩, turn⟩ := h
  refine wpAny_While (codeAny_whileLoop (fun n s' => ∃ σ' H', Inv X pins σ' H' s' /\ W n σ' H') ?_ m0 ⟨σ, H, I, w0⟩)
  rintro n s1 ⟨σ1, H1, I1, w1⟩
  refine wpAny_passesOwn hp (thn (hc pins s1 σ1 H1 _ I1 (turn n σ1 H1 w1)) fun b s2 ⟨H2, I2, q2⟩ => ?_)
  cases b with
  | true =>
    obtain ⟨N, hN, q2⟩ := q2
    rw [if_pos rfl]
    refine wpAny_passesOwn hp (thn (hb pins s2 σ1 H2 _ I2 q2) fun f s3 q3 => ?_)
    cases f with
    | next =>
      obtain ⟨σ3, H3, I3, n3⟩ := q3
      obtain ⟨m', hm, w3⟩ := hN σ3 H3 n3
      exact ⟨m', hm, σ3, H3, I3, w3⟩
    | cont =>
      obtain ⟨σ3, H3, I3, n3⟩ := q3
      obtain ⟨m', hm, w3⟩ := hN σ3 H3 n3
      exact ⟨m', hm, σ3, H3, I3, w3⟩
    | brk => exact q3
    | ret v => exact q3
  | false =>
    rw [if_neg Bool.false_ne_true]
    exact wpAny_execs_nil ⟨σ1, H2, I2, q2⟩
end
structure It where
  go : Nat -> Hp -> Prop
  yld : Nat -> Hp -> V -> Hp -> Prop
  stop : Nat -> Hp -> Prop
def FpOk (X : Cx) (pins : List (Addr × Obj)) (H : Hp) (b : Addr) : Prop :=
  H b = none /\ b ≠ X.env.locals /\ b ∉ X.fs /\ (b ∈ X.ex ∨ X.s₀.heap.objs.size <= b) /\ (∀ x c, X.env.cells.lookup x = some c -> c ≠ b) /\ ∀ p ∈ X.pn ++ pins, p.1 ≠ b
theorem Inv.fpOk {X : Cx} {pins : List (Addr × Obj)} {σ : St} {H H' : Hp} {s : Shared} {b : Addr} (I : Inv X pins σ H s) (hb : s.heap.objs.size <= b) (hn : H' b = none) : FpOk X pins H' b := by
  refine ⟨hn, Nat.ne_of_gt (Nat.lt_of_lt_of_le I.lt hb), I.nofs hb, .inr (Nat.le_trans I.sz hb), fun x c e z => ?_, fun p hp z => ?_⟩
  · obtain ⟨v, q⟩ := I.cell x c e
    exact absurd (Nat.lt_of_lt_of_le q.lt (by rw [z]; exact hb)) (Nat.lt_irrefl _)
  · exact absurd (Nat.lt_of_lt_of_le (Heap.lt_size (I.pin p hp).1) (by rw [z]; exact hb)) (Nat.lt_irrefl _)
structure Turn (P : Program) (w : World) (K : PySem.W.Frag) (c : Bool) (tg : Expr) (J : It) (fp : List Addr) (it : Addr) (tn : Nat -> Heap -> Prop) : Prop where
  mem : it ∈ fp
  obj : ∀ i h, tn i h -> ∀ b ∈ fp, ∃ o, h.get? b = some o /\ ∀ v, o.data ≠ .cell v
  keep : ∀ i h h', tn i h -> (∀ b ∈ fp, ∀ o, h.get? b = some o -> h'.get? b = some o) -> tn i h'
  item : ∀ (X : Cx), X.prog = P -> X.w = w -> X.K = K -> X.calm = c -> X.warm = true -> ∀ (i : Nat) (pins : List (Addr × Obj)) (s : Shared) (σ : St) (H : Hp) (E : Value -> Shared -> Prop), Inv X pins σ H s -> (∀ b ∈ fp, FpOk X pins H b) -> tn i s.heap -> J.go i H ->
    wpAny (model P w) X.A (pyNext (.ref it)) (fun r s1 => ∃ u, r = some u /\
      wpAny (model P w) X.A (letOwnedTupleGo tg (.ref it) u) (fun _ s2 => ∃ x H', Inv X pins σ H' s2 /\ RelV x u /\ J.yld i H x H' /\ tn (i + 1) s2.heap /\ ∀ b ∈ fp, H' b = none) E s1) E s
  done : ∀ (X : Cx), X.prog = P -> X.w = w -> X.K = K -> X.calm = c -> X.warm = true -> ∀ (i : Nat) (pins : List (Addr × Obj)) (s : Shared) (σ : St) (H : Hp) (E : Value -> Shared -> Prop), Inv X pins σ H s -> (∀ b ∈ fp, FpOk X pins H b) -> tn i s.heap -> J.stop i H ->
    wpAny (model P w) X.A (pyNext (.ref it)) (fun r s1 => r = none /\ Inv X pins σ H s1) E s
  self : ∀ (A : Around) (i : Nat) (s : Shared) (Q : Value -> Shared -> Prop) (E : Value -> Shared -> Prop), tn i s.heap -> Q (.ref it) s -> wpAny (model P w) A (pyIter (.ref it)) Q E s
abbrev TI := St -> Hp -> (It -> Hp -> Prop) -> Prop
def PIE (X : Cx) (pins : List (Addr × Obj)) (σ : St) (tg : Expr) (R : It -> Hp -> Prop) (itv : Value) (s2 : Shared) : Prop :=
  ∃ (it : Addr) (fp : List Addr) (tn : Nat -> Heap -> Prop) (J : It) (H' : Hp), itv = .ref it /\ Inv X pins σ H' s2 /\ Turn X.prog X.w X.K X.calm tg J fp it tn /\ tn 0 s2.heap /\ (∀ b ∈ fp, FpOk X pins H' b) /\ R J H'
def PI (X : Cx) (tg iter : Expr) (wi : TI) : Prop :=
  ∀ (pins : List (Addr × Obj)) (s : Shared) (σ : St) (H : Hp) (R : It -> Hp -> Prop), Inv X pins σ H s -> wi σ H R ->
    wpAny (model X.prog X.w) X.A (eval iter X.env) (fun v s1 => wpAny (model X.prog X.w) X.A (pyIter v) (PIE X pins σ tg R) X.xe s1) X.xe s
theorem go_of {M : Model} {A : Around} {E : Value -> Shared -> Prop} {s : Shared} {tg : Expr} {it : Addr} {u : Value} {o : Obj} {n : String} {vs : Array Value} {Q : Unit -> Shared -> Prop} (ho : s.heap.get? it = some o) (hc : o.cls = .type n) (hd : o.data = .fields vs)
    (hn : ["enumerate", "zip", "dict_itemiterator", "dict_reverseitemiterator", "odict_iterator", "itertools.zip_longest", "itertools.pairwise"].contains n = false) (hQ : Q () s) : wpAny M A (letOwnedTupleGo tg (.ref it) u) Q E s := by
  unfold letOwnedTupleGo
  cases tg <;> first
    | exact wpAny_pure hQ
    | (cases u <;> first
        | exact wpAny_pure hQ
        | (refine wpAny_bind (wpAny_load ho ?_)
           rw [hc, hd]
           show wpAny M A (if (["enumerate", "zip", "dict_itemiterator", "dict_reverseitemiterator", "odict_iterator", "itertools.zip_longest", "itertools.pairwise"].contains n && vs[0]? == some (rawInt _)) = true then _ else _) Q E s
           rw [if_neg (by intro h; rw [hn, Bool.false_and] at h; cases h)]
           exact wpAny_pure hQ))
def Itl (K : PySem.W.Frag) (a : Addr) : It :=
  ⟨fun i H => ∃ xs x, SqL K H a xs /\ xs[i]? = some x, fun i H x H' => H' = H /\ ∀ xs, SqL K H a xs -> xs[i]? = some x, fun i H => ∃ xs, SqL K H a xs /\ xs.length <= i⟩
def Itt (K : PySem.W.Frag) (a : Addr) : It :=
  ⟨fun i H => ∃ xs x, SqT K H a xs /\ xs[i]? = some x, fun i H x H' => H' = H /\ ∀ xs, SqT K H a xs -> xs[i]? = some x, fun i H => ∃ xs, SqT K H a xs /\ xs.length <= i⟩
def Itr (lo : Int) (n : Nat) : It := ⟨fun i _ => i < n, fun i H x H' => H' = H /\ x = .int (lo + i), fun i _ => n <= i⟩
theorem turn_list {c : Bool} {P : Program} {w : World} {K : PySem.W.Frag} {tg : Expr} (a it : Addr) : Turn P w K c tg (Itl K a) [it] it (fun i h => h.IsListIter it a i) where
  mem := by simp
  obj := fun i h st b hb => by
    have e : b = it := by simpa using hb
    subst e
    obtain ⟨o, e, c, d⟩ := st
    exact ⟨o, e, fun v z => by rw [d] at z; cases z⟩
  keep := fun i h h' st k => st.at fun o e => k it (by simp) o e
  item := by
    intro X hP hw hK hk hc i pins s σ H E I hf st hg
    subst hP hw hK
    obtain ⟨xs, x, hq, hx⟩ := hg
    obtain ⟨its, rv, p, hz⟩ := I.list hq
    obtain ⟨u, hu, ru⟩ := rv.get hx
    obtain ⟨f0, f1, f2, f3, f4, f5⟩ := hf it (by simp)
    refine wpAny_pyNext_list_item st p.isList (x := u) (by simpa using hu) fun h' st' sb => ?_
    have I1 : Inv X pins σ H { s with heap := h' } := I.turned (t' := s.toks) (fun b o hb e => (sb.2 b hb).trans e) f0 f1 f3 f4 f5
    obtain ⟨o, e, c, d⟩ := id st'
    exact ⟨u, rfl, go_of (s := { s with heap := h' }) e c d (by decide) ⟨x, H, I1, ru, ⟨rfl, fun ys hy => by rw [I.list_inj hy hq]; exact hx⟩, st', fun b hb => (hf b hb).1⟩⟩
  done := by
    intro X hP hw hK hk hc i pins s σ H E I hf st hg
    subst hP hw hK
    obtain ⟨xs, hq, hx⟩ := hg
    obtain ⟨its, rv, p, hz⟩ := I.list hq
    obtain ⟨f0, f1, f2, f3, f4, f5⟩ := hf it (by simp)
    have hl := rv.length
    exact Hd.list_end (I.hin hc) st p.isList (by simp; omega) fun h' eb => ⟨rfl, I.turned (t' := s.toks) (fun b o hb e => eb b o hb e) f0 f1 f3 f4 f5⟩
  self := fun _ _ _ _ _ st h => wpAny_pyIter_listiter st h
theorem turn_tuple {c : Bool} {P : Program} {w : World} {K : PySem.W.Frag} {tg : Expr} (a it : Addr) : Turn P w K c tg (Itt K a) [it] it (fun i h => h.IsTupleIter it a i) where
  mem := by simp
  obj := fun i h st b hb => by
    have e : b = it := by simpa using hb
    subst e
    obtain ⟨o, e, c, d⟩ := st
    exact ⟨o, e, fun v z => by rw [d] at z; cases z⟩
  keep := fun i h h' st k => st.at fun o e => k it (by simp) o e
  item := by
    intro X hP hw hK hk hc i pins s σ H E I hf st hg
    subst hP hw hK
    obtain ⟨xs, x, hq, hx⟩ := hg
    obtain ⟨its, rv, p, hz⟩ := I.tuple hq
    obtain ⟨u, hu, ru⟩ := rv.get hx
    obtain ⟨f0, f1, f2, f3, f4, f5⟩ := hf it (by simp)
    refine wpAny_pyNext_tuple_item st (show s.heap.IsTuple a its.toArray from p) (x := u) (by simpa using hu) fun h' st' sb => ?_
    have I1 : Inv X pins σ H { s with heap := h' } := I.turned (t' := s.toks) (fun b o hb e => (sb.2 b hb).trans e) f0 f1 f3 f4 f5
    obtain ⟨o, e, c, d⟩ := id st'
    exact ⟨u, rfl, go_of (s := { s with heap := h' }) e c d (by decide) ⟨x, H, I1, ru, ⟨rfl, fun ys hy => by rw [I.tuple_inj hy hq]; exact hx⟩, st', fun b hb => (hf b hb).1⟩⟩
  done := by
    intro X hP hw hK hk hc i pins s σ H E I hf st hg
    subst hP hw hK
    obtain ⟨xs, hq, hx⟩ := hg
    obtain ⟨its, rv, p, hz⟩ := I.tuple hq
    obtain ⟨f0, f1, f2, f3, f4, f5⟩ := hf it (by simp)
    have hl := rv.length
    exact Hd.tup_end (I.hin hc) st (show s.heap.IsTuple a its.toArray from p) (by simp; omega) fun h' eb => ⟨rfl, I.turned (t' := s.toks) (fun b o hb e => eb b o hb e) f0 f1 f3 f4 f5⟩
  self := fun _ _ _ _ _ st h => wpAny_pyIter_tupleiter st h
theorem turn_range {c : Bool} (hcm : c = true) {P : Program} {w : World} {K : PySem.W.Frag} {tg : Expr} (it : Addr) (lo : Int) (n : Nat) : Turn P w K c tg (Itr lo n) [it] it (fun i h => IsRangeIter h it (lo + (i : Nat) * 1) ((n : Int) - (i : Nat)) 1) where
  mem := by simp
  obj := fun i h st b hb => by
    have e : b = it := by simpa using hb
    subst e
    exact ⟨_, st, fun v z => by
      have z' : Data.fields _ = Data.cell v := z
      cases z'⟩
  keep := fun i h h' st k => k it (by simp) _ st
  item := by
    intro X hP hw hK hk hc i pins s σ H E I hf st hg
    subst hP hw hK
    obtain ⟨f0, f1, f2, f3, f4, f5⟩ := hf it (by simp)
    have W := Walks.range (prog := X.prog) (w := X.w) (I.ok.hd.1 (hk.trans hcm)) it lo 1 n
    refine W.item i s _ _ hg st fun v h' tk hv st' kk => ?_
    obtain ⟨t, rfl⟩ := hv
    have I1 : Inv X pins σ H { s with heap := h', toks := tk } := I.turned (fun b o hb e => kk b o (by simpa using hb) e) f0 f1 f3 f4 f5
    refine ⟨_, rfl, go_of (s := { s with heap := h', toks := tk }) (n := "range_iterator") st' rfl rfl (by decide) ⟨.int (lo + i), H, I1, ⟨t, ?_⟩, ⟨rfl, rfl⟩, st', fun b hb => (hf b hb).1⟩⟩
    rw [Int.mul_one]
  done := by
    intro X hP hw hK hk hc i pins s σ H E I hf st hg
    subst hP hw hK
    obtain ⟨f0, f1, f2, f3, f4, f5⟩ := hf it (by simp)
    exact wpAny_pyNext_range_end (I.ok.hd.1 (hk.trans hcm)) st (by have : n <= i := hg; omega) fun h' eb => ⟨rfl, I.turned (t' := s.toks) (fun b o hb e => eb b o hb e) f0 f1 f3 f4 f5⟩
  self := fun _ _ _ _ _ st h => wpAny_pyIter_rangeiter st h
end L2
namespace L2
open PySem PySem.Spec PyProof.Rows
section
variable {X : Cx} {tg : Expr}
def iList (K : PySem.W.Frag) (tl : TE) : TI := fun σ H R => tl σ H fun x H1 => ∃ a, x = .ref a /\ (∃ xs, SqL K H1 a xs) /\ R (Itl K a) H1
def iTup (K : PySem.W.Frag) (tl : TE) : TI := fun σ H R => tl σ H fun x H1 => ∃ a, x = .ref a /\ (∃ xs, SqT K H1 a xs) /\ R (Itt K a) H1
theorem pi_list {l : Expr} {tl : TE} (hl : PE X l tl) : PI X tg l (iList X.K tl) := by
  intro pins s σ H R I h
  refine thn (hl pins s σ H _ I h) fun v s1 ⟨x, H1, I1, r1, q1⟩ => ?_
  obtain ⟨a, e, ⟨xs, hq⟩, q⟩ := q1
  subst e
  cases r1
  obtain ⟨its, rv, p, hz⟩ := I1.list hq
  refine wpAny_pyIter_list p.isList ?_
  refine ⟨s1.heap.objs.size, [s1.heap.objs.size], _, _, H1, rfl, I1.kept (t' := s1.toks) fun b o e => Heap.get?_push_of_some _ e, turn_list a _, ⟨_, Heap.get?_push_size _ rfl, rfl, rfl⟩, fun b hb => ?_, q⟩
  have e : b = s1.heap.objs.size := by simpa using hb
  subst e
  exact I1.fpOk (Nat.le_refl _) (I1.hok.fresh (Nat.le_refl _))
theorem pi_tup {l : Expr} {tl : TE} (hl : PE X l tl) : PI X tg l (iTup X.K tl) := by
  intro pins s σ H R I h
  refine thn (hl pins s σ H _ I h) fun v s1 ⟨x, H1, I1, r1, q1⟩ => ?_
  obtain ⟨a, e, ⟨xs, hq⟩, q⟩ := q1
  subst e
  cases r1
  obtain ⟨its, rv, p, hz⟩ := I1.tuple hq
  refine wpAny_pyIter_tuple (show s1.heap.IsTuple a its.toArray from p) ?_
  refine ⟨s1.heap.objs.size, [s1.heap.objs.size], _, _, H1, rfl, I1.kept (t' := s1.toks) fun b o e => Heap.get?_push_of_some _ e, turn_tuple a _, ⟨_, Heap.get?_push_size _ rfl, rfl, rfl⟩, fun b hb => ?_, q⟩
  have e : b = s1.heap.objs.size := by simpa using hb
  subst e
  exact I1.fpOk (Nat.le_refl _) (I1.hok.fresh (Nat.le_refl _))
theorem range_it (hcm : X.calm = true) {pins : List (Addr × Obj)} {σ : St} {H : Hp} {s : Shared} {R : It -> Hp -> Prop} {E : Value -> Shared -> Prop} {lo hi : Int} {t u v : Tok} {tk : Nat} (I : Inv X pins σ H s) (h1 : -(2 ^ 62) <= lo) (h2 : lo < 2 ^ 62) (h3 : -(2 ^ 62) <= hi) (h4 : hi < 2 ^ 62)
    (q : R (Itr lo (hi - lo).toNat) H) : wpAny (model X.prog X.w) X.A (pyIter (.ref s.heap.objs.size)) (PIE X pins σ tg R) E { s with heap := s.heap.push { cls := .type "range", data := .fields #[.int lo t, .int hi u, .int 1 v] }, toks := tk } := by
  refine wpAny_pyIter_range (IsRange.new ..) (small_one h1 h2 h3 h4) ?_
  have I1 : Inv X pins σ H { s with heap := s.heap.push { cls := .type "range", data := .fields #[.int lo t, .int hi u, .int 1 v] }, toks := tk } := I.kept fun b o e => Heap.get?_push_of_some _ e
  refine ⟨(s.heap.push { cls := .type "range", data := .fields #[.int lo t, .int hi u, .int 1 v] }).objs.size, [(s.heap.push { cls := .type "range", data := .fields #[.int lo t, .int hi u, .int 1 v] }).objs.size], _, _, H, rfl,
    I1.kept (t' := tk) fun b o e => Heap.get?_push_of_some _ e, turn_range hcm _ lo (hi - lo).toNat, ?_, fun b hb => ?_, q⟩
  · have e1 : lo + ((0 : Nat) : Int) * 1 = lo := by simp
    have e2 : (((hi - lo).toNat : Nat) : Int) - ((0 : Nat) : Int) = Builtin.Range.rangeSize lo hi 1 := by rw [rangeSize_one]; split <;> omega
    show IsRangeIter _ _ (lo + ((0 : Nat) : Int) * 1) ((((hi - lo).toNat : Nat) : Int) - ((0 : Nat) : Int)) 1
    rw [e1, e2]
    exact Heap.get?_push_size _ rfl
  · have e : b = (s.heap.push { cls := .type "range", data := .fields #[.int lo t, .int hi u, .int 1 v] }).objs.size := by simpa using hb
    subst e
    exact I1.fpOk (Nat.le_refl _) (I1.hok.fresh (Nat.le_refl _))
def iRng1 (ta : TA) : TI := fun σ H R => ta σ H fun vs H1 => ∃ j : Int, vs = [.int j] /\ -(2 ^ 62) <= j /\ j < 2 ^ 62 /\ R (Itr 0 j.toNat) H1
theorem pi_range1 {a : Expr} {ta : TA} {p pos : Pos} (hg : Gl X "range") (hm : X.mg "range" = none) (ha : PA X [a] ta) (hs : starEach [a] X.env = [(false, eval a X.env)] := by rfl) (hcm : X.calm = true := by rfl) : PI X tg (.Call (.Name "range" p) [a] [] pos) (iRng1 ta) := by
  intro pins s σ H R I h
  refine Call_ (ld_blt I hg hm boot_range (PyProof.Rows.callWith_type1 (thn (ha pos pins s σ H _ I h) fun us s1 ⟨vs, H1, I1, r1, q1⟩ => ?_) hs rfl))
  obtain ⟨j, e, q1, q2, q⟩ := q1
  subst e
  cases r1 with
  | cons r rr =>
    cases rr
    obtain ⟨t, rfl⟩ := r
    exact call_range_1 (range_it hcm I1 (by omega) (by omega) q1 q2 (by simpa using q))
def tFor (wi : TI) (g : TG) (tb : TS) : TS := fun D σ H => wi σ H fun J H1 => ∃ W : Nat -> Nat -> St -> Hp -> Prop, (∃ m, W 0 m σ H1) /\ ∀ i m σ H, W i m σ H ->
  (J.stop i H /\ D.nx σ H) ∨ (J.go i H /\ ∃ N : St -> Hp -> Prop, (∀ σ' H', N σ' H' -> ∃ m', m' < m /\ W (i + 1) m' σ' H') /\ ∀ x H', J.yld i H x H' -> g x σ H' fun σ2 H2 => tb { D with nx := N, ct := N, bk := D.nx } σ2 H2)
def pinsAt (fp : List Addr) (h : Heap) : List (Addr × Obj) := fp.filterMap fun b => (h.get? b).map fun o => (b, o)
theorem mem_pinsAt {fp : List Addr} {h : Heap} {b : Addr} {o : Obj} (hb : b ∈ fp) (e : h.get? b = some o) : (b, o) ∈ pinsAt fp h := List.mem_filterMap.mpr ⟨b, hb, by rw [e]; rfl⟩
theorem of_pinsAt {fp : List Addr} {h : Heap} {p : Addr × Obj} (hp : p ∈ pinsAt fp h) : p.1 ∈ fp /\ h.get? p.1 = some p.2 := by
  obtain ⟨b, hb, e⟩ := List.mem_filterMap.mp hp
  cases q : h.get? b with
  | none => rw [q] at e; cases e
  | some o =>
    rw [q] at e
    have e' : (b, o) = p := Option.some.inj e
    subst e'
    exact ⟨hb, q⟩
theorem Inv.pinned {pins : List (Addr × Obj)} {σ : St} {H : Hp} {s : Shared} {fp : List Addr} (I : Inv X pins σ H s) (hf : ∀ b ∈ fp, FpOk X pins H b) (ho : ∀ b ∈ fp, ∃ o, s.heap.get? b = some o /\ ∀ v, o.data ≠ .cell v) : Inv X (pins ++ pinsAt fp s.heap) σ H s :=
  I.pins_of fun p hp => (List.mem_append.mp hp).elim (fun z => I.pin p (List.mem_append_right _ z)) fun z => by
    obtain ⟨hb, e⟩ := of_pinsAt z
    obtain ⟨f0, f1, f2, _⟩ := hf p.1 hb
    obtain ⟨o, e', d⟩ := ho p.1 hb
    rw [e] at e'; cases e'
    exact ⟨e, f0, f1, f2, d⟩
theorem Inv.unpinned {pins pl : List (Addr × Obj)} {σ : St} {H : Hp} {s : Shared} (I : Inv X (pins ++ pl) σ H s) : Inv X pins σ H s := I.pins_of fun p hp => I.pin p (List.mem_append_right _ (List.mem_append_left _ hp))
theorem ps_for {iter : Expr} {body : List Stmt} {wi : TI} {g : TG} {tb : TS} {pos : Pos} (hp : PassesOwn (model X.prog X.w) X.A X.env X.xe) (hc : X.warm = true) (hi : PI X tg iter wi) (hg : PG X tg g) (hb : PSs X body tb)
    (hs : ∀ x, foldedSetIterable iter X.env x = pure x := by intro _; rfl) : PS X (.For tg iter body [] pos) (tFor wi g tb) := by
  intro pins s σ H D I h
  refine wpAny_For (thn (hi pins s σ H _ I h) fun v s1 h1 => thn h1 fun itv s2 h2 => ?_) hs
  obtain ⟨it, fp, tn, J, H2, e, I2, T, st2, f2, W, ⟨m0, w0⟩, turn⟩ := h2
  subst e
  have stat : ∀ {H' : Hp}, (∀ b ∈ fp, H' b = none) -> ∀ b ∈ fp, FpOk X pins H' b := fun hn b hb => ⟨hn b hb, (f2 b hb).2⟩
  refine codeAny_forLoop_any (fun n s' => ∃ i σ' H', Inv X pins σ' H' s' /\ tn i s'.heap /\ (∀ b ∈ fp, H' b = none) /\ W i n σ' H') ?_ m0 ⟨0, σ, H2, I2, st2, fun b hb => (f2 b hb).1, w0⟩
  rintro n s3 ⟨i, σ3, H3, I3, st3, fr3, w3⟩
  rcases turn i n σ3 H3 w3 with ⟨stop, qn⟩ | ⟨go, N, hN, step⟩
  · refine wpAny_passesOwn hp (thn (T.done X rfl rfl rfl rfl hc i pins s3 σ3 H3 X.xe I3 (stat fr3) st3 stop) fun r s4 ⟨hr, I4⟩ => ?_)
    subst hr
    exact wpAny_execs_nil ⟨σ3, H3, I4, qn⟩
  · refine wpAny_passesOwn hp (thn (T.item X rfl rfl rfl rfl hc i pins s3 σ3 H3 X.xe I3 (stat fr3) st3 go) fun r s4 ⟨u, hr, h4⟩ => ?_)
    subst hr
    refine wpAny_passesOwn hp (thn h4 fun _ s5 ⟨x, H5, I5, r5, y5, st5, fr5⟩ => ?_)
    have I5' := I5.pinned (stat fr5) (T.obj _ _ st5)
    refine wpAny_passesOwn hp (thn (hg _ s5 σ3 H5 x u _ I5' r5 (step x H5 y5)) fun _ s6 ⟨σ6, H6, I6, q6⟩ => ?_)
    refine wpAny_passesOwn hp (thn (hb _ s6 σ6 H6 _ I6 q6) fun f s7 q7 => ?_)
    have again : ∀ {σ7 : St} {H7 : Hp}, Inv X (pins ++ pinsAt fp s5.heap) σ7 H7 s7 -> N σ7 H7 -> ∃ m, m < n /\ ∃ i σ' H', Inv X pins σ' H' s7 /\ tn i s7.heap /\ (∀ b ∈ fp, H' b = none) /\ W i m σ' H' := fun {σ7 H7} I7 n7 => by
      obtain ⟨m', hm, w7⟩ := hN σ7 H7 n7
      refine ⟨m', hm, i + 1, σ7, H7, I7.unpinned, T.keep _ _ _ st5 fun b hb o e => (I7.pin (b, o) (List.mem_append_right _ (List.mem_append_right _ (mem_pinsAt hb e)))).1, fun b hb => ?_, w7⟩
      obtain ⟨o, e, d⟩ := T.obj _ _ st5 b hb
      exact (I7.pin (b, o) (List.mem_append_right _ (List.mem_append_right _ (mem_pinsAt hb e)))).2.1
    cases f with
    | next => obtain ⟨σ7, H7, I7, n7⟩ := q7; exact again I7 n7
    | cont => obtain ⟨σ7, H7, I7, n7⟩ := q7; exact again I7 n7
    | brk => obtain ⟨σ7, H7, I7, q7⟩ := q7; exact ⟨σ7, H7, I7.unpinned, q7⟩
    | ret v => obtain ⟨x7, σ7, H7, I7, r7, q7⟩ := q7; exact ⟨x7, σ7, H7, I7.unpinned, r7, q7⟩
end
theorem for_list {K : PySem.W.Frag} {a : Addr} {xs : List V} {g : TG} {tb : TS} {D : Ends} {σ : St} {H : Hp} (Pv : Nat -> St -> Hp -> Prop) (h0 : Pv 0 σ H) (hl : ∀ i σ H, i <= xs.length -> Pv i σ H -> SqL K H a xs)
    (hs : ∀ i x σ H, xs[i]? = some x -> Pv i σ H -> g x σ H fun σ2 H2 => tb { D with nx := Pv (i + 1), ct := Pv (i + 1), bk := D.nx } σ2 H2) (hd : ∀ σ H, Pv xs.length σ H -> D.nx σ H) :
    ∃ W : Nat -> Nat -> St -> Hp -> Prop, (∃ m, W 0 m σ H) /\ ∀ i m σ H, W i m σ H ->
      ((Itl K a).stop i H /\ D.nx σ H) ∨ ((Itl K a).go i H /\ ∃ N : St -> Hp -> Prop, (∀ σ' H', N σ' H' -> ∃ m', m' < m /\ W (i + 1) m' σ' H') /\ ∀ x H', (Itl K a).yld i H x H' -> g x σ H' fun σ2 H2 => tb { D with nx := N, ct := N, bk := D.nx } σ2 H2) := by
  refine ⟨fun i m σ H => m = xs.length - i /\ i <= xs.length /\ Pv i σ H, ⟨xs.length, by simp, Nat.zero_le _, h0⟩, ?_⟩
  rintro i m σ H ⟨rfl, hi, p⟩
  have q := hl i σ H hi p
  by_cases hlt : i < xs.length
  · refine .inr ⟨⟨xs, xs[i], q, by simp [hlt]⟩, Pv (i + 1), fun σ' H' p' => ⟨xs.length - (i + 1), by omega, rfl, hlt, p'⟩, fun x H' y => ?_⟩
    obtain ⟨e, y⟩ := y
    subst e
    exact hs i x σ _ (y xs q) p
  · have e : i = xs.length := by omega
    subst e
    exact .inl ⟨⟨xs, q, Nat.le_refl _⟩, hd σ H p⟩
theorem for_tup {K : PySem.W.Frag} {a : Addr} {xs : List V} {g : TG} {tb : TS} {D : Ends} {σ : St} {H : Hp} (Pv : Nat -> St -> Hp -> Prop) (h0 : Pv 0 σ H) (hl : ∀ i σ H, i <= xs.length -> Pv i σ H -> SqT K H a xs)
    (hs : ∀ i x σ H, xs[i]? = some x -> Pv i σ H -> g x σ H fun σ2 H2 => tb { D with nx := Pv (i + 1), ct := Pv (i + 1), bk := D.nx } σ2 H2) (hd : ∀ σ H, Pv xs.length σ H -> D.nx σ H) :
    ∃ W : Nat -> Nat -> St -> Hp -> Prop, (∃ m, W 0 m σ H) /\ ∀ i m σ H, W i m σ H ->
      ((Itt K a).stop i H /\ D.nx σ H) ∨ ((Itt K a).go i H /\ ∃ N : St -> Hp -> Prop, (∀ σ' H', N σ' H' -> ∃ m', m' < m /\ W (i + 1) m' σ' H') /\ ∀ x H', (Itt K a).yld i H x H' -> g x σ H' fun σ2 H2 => tb { D with nx := N, ct := N, bk := D.nx } σ2 H2) := by
  refine ⟨fun i m σ H => m = xs.length - i /\ i <= xs.length /\ Pv i σ H, ⟨xs.length, by simp, Nat.zero_le _, h0⟩, ?_⟩
  rintro i m σ H ⟨rfl, hi, p⟩
  have q := hl i σ H hi p
  by_cases hlt : i < xs.length
  · refine .inr ⟨⟨xs, xs[i], q, by simp [hlt]⟩, Pv (i + 1), fun σ' H' p' => ⟨xs.length - (i + 1), by omega, rfl, hlt, p'⟩, fun x H' y => ?_⟩
    obtain ⟨e, y⟩ := y
    subst e
    exact hs i x σ _ (y xs q) p
  · have e : i = xs.length := by omega
    subst e
    exact .inl ⟨⟨xs, q, Nat.le_refl _⟩, hd σ H p⟩
theorem for_range {lo : Int} {n : Nat} {g : TG} {tb : TS} {D : Ends} {σ : St} {H : Hp} (Pv : Nat -> St -> Hp -> Prop) (h0 : Pv 0 σ H)
    (hs : ∀ i σ H, i < n -> Pv i σ H -> g (.int (lo + i)) σ H fun σ2 H2 => tb { D with nx := Pv (i + 1), ct := Pv (i + 1), bk := D.nx } σ2 H2) (hd : ∀ σ H, Pv n σ H -> D.nx σ H) :
    ∃ W : Nat -> Nat -> St -> Hp -> Prop, (∃ m, W 0 m σ H) /\ ∀ i m σ H, W i m σ H ->
      ((Itr lo n).stop i H /\ D.nx σ H) ∨ ((Itr lo n).go i H /\ ∃ N : St -> Hp -> Prop, (∀ σ' H', N σ' H' -> ∃ m', m' < m /\ W (i + 1) m' σ' H') /\ ∀ x H', (Itr lo n).yld i H x H' -> g x σ H' fun σ2 H2 => tb { D with nx := N, ct := N, bk := D.nx } σ2 H2) := by
  refine ⟨fun i m σ H => m = n - i /\ i <= n /\ Pv i σ H, ⟨n, by simp, Nat.zero_le _, h0⟩, ?_⟩
  rintro i m σ H ⟨rfl, hi, p⟩
  by_cases hlt : i < n
  · refine .inr ⟨hlt, Pv (i + 1), fun σ' H' p' => ⟨n - (i + 1), by omega, rfl, hlt, p'⟩, fun x H' y => ?_⟩
    obtain ⟨e, y⟩ := y
    subst e y
    exact hs i σ _ hlt p
  · have e : i = n := by omega
    subst e
    exact .inl ⟨Nat.le_refl _, hd σ H p⟩
end L2
namespace L2
open PySem PySem.Spec PyProof.Rows
abbrev R2 := V -> V -> Hp -> VK -> Prop
def OpR (X : Cx) (f : Value -> Value -> Sem Value) (r : R2) : Prop :=
  ∀ (pins : List (Addr × Obj)) (s : Shared) (σ : St) (H : Hp) (x y : V) (v u : Value) (Q : VK), Inv X pins σ H s -> RelV x v -> RelV y u -> r x y H Q ->
    wpAny (model X.prog X.w) X.A (f v u) (EP X pins σ Q) X.xe s
def UnR (X : Cx) (f : Value -> Sem Value) (r : V -> Hp -> VK -> Prop) : Prop :=
  ∀ (pins : List (Addr × Obj)) (s : Shared) (σ : St) (H : Hp) (x : V) (v : Value) (Q : VK), Inv X pins σ H s -> RelV x v -> r x H Q ->
    wpAny (model X.prog X.w) X.A (f v) (EP X pins σ Q) X.xe s
def CallR (X : Cx) (f : Value) (r : List V -> Hp -> VK -> Prop) : Prop :=
  ∀ (pins : List (Addr × Obj)) (s : Shared) (σ : St) (H : Hp) (xs : List V) (us : List Value) (Q : VK), Inv X pins σ H s -> Vals xs us -> r xs H Q ->
    wpAny (model X.prog X.w) X.A (call f us) (EP X pins σ Q) X.xe s
def tOp (r : R2) (ta tb : TE) : TE := fun σ H Q => ta σ H fun x H1 => tb σ H1 fun y H2 => r x y H2 Q
def tUn (r : V -> Hp -> VK -> Prop) (ta : TE) : TE := fun σ H Q => ta σ H fun x H1 => r x H1 Q
def rI (C : Int -> Int -> Prop) (g : Int -> Int -> V) : R2 := fun x y H Q => ∃ i j, x = .int i /\ y = .int j /\ C i j /\ Q (g i j) H
def rI0 (g : Int -> Int -> V) : R2 := fun x y H Q => ∃ i j, x = .int i /\ y = .int j /\ Q (g i j) H
def rU (g : Int -> V) : V -> Hp -> VK -> Prop := fun x H Q => ∃ i, x = .int i /\ Q (g i) H
section
variable {X : Cx} {a b c : Expr} {ta tb tc : TE} {pos : Pos}
theorem binT (ha : PE X a ta) (hb : PE X b tb) {pins : List (Addr × Obj)} {s : Shared} {σ : St} {H : Hp} {R : V -> V -> Hp -> Prop} (I : Inv X pins σ H s)
    (h : ta σ H fun x H1 => tb σ H1 fun y H2 => R x y H2) {Q : Value -> Shared -> Prop} {f : Value -> Value -> Sem Value}
    (hf : ∀ v u s2 x y H2, Inv X pins σ H2 s2 -> RelV x v -> RelV y u -> R x y H2 -> wpAny (model X.prog X.w) X.A (f v u) Q X.xe s2) :
    wpAny (model X.prog X.w) X.A (eval a X.env) (fun v s₁ => wpAny (model X.prog X.w) X.A (eval b X.env) (fun u s₂ => wpAny (model X.prog X.w) X.A (f v u) Q X.xe s₂) X.xe s₁) X.xe s := by
  refine thn (ha pins s σ H _ I h) fun v s1 ⟨x, H1, I1, r1, q1⟩ => ?_
  refine thn (hb pins s1 σ H1 _ I1 q1) fun u s2 ⟨y, H2, I2, r2, q2⟩ => ?_
  exact hf v u s2 x y H2 I2 r1 r2 q2
theorem pe_op {op : Operator} {r : R2} (ho : OpR X (binaryOp op) r) (ha : PE X a ta) (hb : PE X b tb) : PE X (.BinOp a op b pos) (tOp r ta tb) := by
  intro pins s σ H Q I h
  exact wpAny_BinOp (binT ha hb I h fun v u s2 x y H2 I2 rx ry q => ho pins s2 σ H2 x y v u Q I2 rx ry q)
theorem pe_un {op : UnaryOp} {r : V -> Hp -> VK -> Prop} (ho : UnR X (unaryOp op) r) (ha : PE X a ta) : PE X (.UnaryOp op a pos) (tUn r ta) := by
  intro pins s σ H Q I h
  exact UnaryOp_ (thn (ha pins s σ H _ I h) fun v s1 ⟨x, H1, I1, r1, q1⟩ => ho pins s1 σ H1 x v Q I1 r1 q1)
theorem opI {f : Value -> Value -> Sem Value} {C : Int -> Int -> Prop} {g : Int -> Int -> Int}
    (rule : ∀ (i j : Int) (t u : Tok) (s : Shared) (Q : Value -> Shared -> Prop) (E : Value -> Shared -> Prop), C i j -> Q (.int (g i j) s.toks) { s with toks := s.toks + 1 } -> wpAny (model X.prog X.w) X.A (f (.int i t) (.int j u)) Q E s) :
    OpR X f (rI C fun i j => .int (g i j)) := by
  intro pins s σ H x y v u Q I rx ry h
  obtain ⟨i, j, rfl, rfl, hc, q⟩ := h
  obtain ⟨t, rfl⟩ := rx
  obtain ⟨t', rfl⟩ := ry
  exact rule i j t t' s _ _ hc ⟨.int (g i j), H, I.tok _, ⟨_, rfl⟩, q⟩
theorem opI0 {f : Value -> Value -> Sem Value} {g : Int -> Int -> Int}
    (rule : ∀ (i j : Int) (t u : Tok) (s : Shared) (Q : Value -> Shared -> Prop) (E : Value -> Shared -> Prop), Q (.int (g i j) s.toks) { s with toks := s.toks + 1 } -> wpAny (model X.prog X.w) X.A (f (.int i t) (.int j u)) Q E s) :
    OpR X f (rI0 fun i j => .int (g i j)) := by
  intro pins s σ H x y v u Q I rx ry h
  obtain ⟨i, j, rfl, rfl, q⟩ := h
  obtain ⟨t, rfl⟩ := rx
  obtain ⟨t', rfl⟩ := ry
  exact rule i j t t' s _ _ ⟨.int (g i j), H, I.tok _, ⟨_, rfl⟩, q⟩
theorem opB0 {f : Value -> Value -> Sem Value} {g : Int -> Int -> Bool}
    (rule : ∀ (i j : Int) (t u : Tok) (s : Shared) (Q : Value -> Shared -> Prop) (E : Value -> Shared -> Prop), Q (.bool (g i j)) s -> wpAny (model X.prog X.w) X.A (f (.int i t) (.int j u)) Q E s) :
    OpR X f (rI0 fun i j => .bl (g i j)) := by
  intro pins s σ H x y v u Q I rx ry h
  obtain ⟨i, j, rfl, rfl, q⟩ := h
  obtain ⟨t, rfl⟩ := rx
  obtain ⟨t', rfl⟩ := ry
  exact rule i j t t' s _ _ ⟨.bl (g i j), H, I, rfl, q⟩
def CDiv (i j : Int) : Prop := 0 < j /\ j < 1073741824
def CPow (i j : Int) : Prop := 0 <= j /\ j <= 1000000 /\ i.natAbs < 2 ^ 64
def CMul (i j : Int) : Prop := (-(2 ^ 64) < i /\ i < 2 ^ 64) ∨ (-(2 ^ 64) < j /\ j < 2 ^ 64)
theorem CMul.ok {i j : Int} (h : CMul i j) : IntMulOk i j := by
  rcases h with ⟨h1, h2⟩ | ⟨h1, h2⟩
  · exact .of_left (intBits_le_64 h1 h2)
  · exact .of_right (intBits_le_64 h1 h2)
theorem op_add : OpR X (binaryOp .Add) (rI0 fun i j => .int (i + j)) := opI0 fun _ _ _ _ _ _ _ q => add_int q
theorem op_sub : OpR X (binaryOp .Sub) (rI0 fun i j => .int (i - j)) := opI0 fun _ _ _ _ _ _ _ q => sub_int q
theorem op_mul : OpR X (binaryOp .Mult) (rI CMul fun i j => .int (i * j)) := opI fun _ _ _ _ _ _ _ hc q => mul_int q hc.ok
theorem op_fdiv : OpR X (binaryOp .FloorDiv) (rI CDiv fun i j => .int (i / j)) := opI fun i j _ _ _ _ _ hc q => by
  have h1 : (0 : Int) < j := hc.1
  have h2 : j < 1073741824 := hc.2
  exact floordiv_int (by omega) (by rw [Int.fdiv_eq_ediv_of_nonneg i (by omega)]; exact q) (.inl (PyProof.noPylong_small (by omega)))
theorem op_mod : OpR X (binaryOp .Mod) (rI (fun _ j => 0 < j) fun i j => .int (i % j)) := opI fun i j _ _ _ _ _ hc q => by
  have h1 : (0 : Int) < j := hc
  exact mod_int' (by omega) (by rw [Int.fmod_eq_emod_of_nonneg i (by omega)]; exact q)
theorem op_pow : OpR X (binaryOp .Pow) (rI CPow fun i j => .int (i ^ j.toNat)) := opI fun _ _ _ _ _ _ _ hc q => pow_int_small hc.1 hc.2.1 hc.2.2 q
theorem unI {f : Value -> Sem Value} {g : Int -> Int}
    (rule : ∀ (i : Int) (t : Tok) (s : Shared) (Q : Value -> Shared -> Prop) (E : Value -> Shared -> Prop), Q (.int (g i) s.toks) { s with toks := s.toks + 1 } -> wpAny (model X.prog X.w) X.A (f (.int i t)) Q E s) :
    UnR X f (rU fun i => .int (g i)) := by
  intro pins s σ H x v Q I rx h
  obtain ⟨i, rfl, q⟩ := h
  obtain ⟨t, rfl⟩ := rx
  exact rule i t s _ _ ⟨.int (g i), H, I.tok _, ⟨_, rfl⟩, q⟩
theorem un_neg : UnR X (unaryOp .USub) (rU fun i => .int (-i)) := unI fun _ _ _ _ _ q => neg_int q
end
def scal : V -> V -> Bool
  | .non, .non => true | .non, .int _ => true | .int _, .non => true | .non, .bl _ => true | .bl _, .non => true | .non, .str _ => true | .str _, .non => true
  | .int _, .int _ => true | .bl _, .bl _ => true | .str _, .str _ => true | .byt _, .byt _ => true
  | .int _, .str _ => true | .str _, .int _ => true | .bl _, .str _ => true | .str _, .bl _ => true
  | _, _ => false
def rEq : R2 := fun x y H Q => scal x y = true /\ Q (.bl (decide (x = y))) H
def rNe : R2 := fun x y H Q => scal x y = true /\ Q (.bl (!decide (x = y))) H
theorem dec_int {i j : Int} : decide (V.int i = V.int j) = (i == j) := by
  rw [Bool.eq_iff_iff]
  simp
theorem dec_bl {i j : Bool} : decide (V.bl i = V.bl j) = (i == j) := by
  rw [Bool.eq_iff_iff]
  simp
theorem dec_str {i j : Str} : decide (V.str i = V.str j) = (i == j) := by
  rw [Bool.eq_iff_iff]
  simp
theorem dec_byt {i j : Array UInt8} : decide (V.byt i = V.byt j) = (i.toList == j.toList) := by
  rw [Bool.eq_iff_iff]
  cases i
  cases j
  simp
section
variable {X : Cx} {a b c : Expr} {ta tb tc : TE} {pos : Pos}
theorem fin_bl {pins : List (Addr × Obj)} {σ : St} {H : Hp} {s : Shared} {Q : VK} {k k' : Bool} (I : Inv X pins σ H s) (q : Q (.bl k) H) (e : k = k') : EP X pins σ Q (.bool k') s := by
  subst e
  exact ⟨.bl k, H, I, rfl, q⟩
theorem op_eq : OpR X (compareOp .Eq) rEq := by
  intro pins s σ H x y v u Q I rx ry h
  obtain ⟨hs, q⟩ := h
  cases x with
  | non =>
    cases rx
    cases y with
    | non => cases ry; exact PySem.EqNone.eq_none_none (fin_bl I q (by simp))
    | bl j => cases ry; exact PySem.EqNone.eq_none_bool (fin_bl I q (by simp))
    | int j => obtain ⟨t', rfl⟩ := ry; exact PySem.EqNone.eq_none_int (fin_bl I q (by simp))
    | str j => obtain ⟨t', rfl⟩ := ry; exact PySem.EqNone.eq_none_str (fin_bl I q (by simp))
    | _ => exact absurd (show false = true from hs) Bool.false_ne_true
  | bl i =>
    cases rx
    cases y with
    | non => cases ry; exact PySem.EqNone.eq_bool_none (fin_bl I q (by simp))
    | bl j => cases ry; exact eq_bool (fin_bl I q dec_bl)
    | str j => obtain ⟨t', rfl⟩ := ry; exact PySem.EqMixed.eq_bool_str (fin_bl I q (by simp))
    | _ => exact absurd (show false = true from hs) Bool.false_ne_true
  | int i =>
    obtain ⟨t, rfl⟩ := rx
    cases y with
    | non => cases ry; exact PySem.EqNone.eq_int_none (fin_bl I q (by simp))
    | int j => obtain ⟨t', rfl⟩ := ry; exact eq_int (fin_bl I q dec_int)
    | str j => obtain ⟨t', rfl⟩ := ry; exact PySem.EqMixed.eq_int_str (fin_bl I q (by simp))
    | _ => exact absurd (show false = true from hs) Bool.false_ne_true
  | str i =>
    obtain ⟨t, rfl⟩ := rx
    cases y with
    | non => cases ry; exact PySem.EqNone.eq_str_none (fin_bl I q (by simp))
    | bl j => cases ry; exact PySem.EqMixed.eq_str_bool (fin_bl I q (by simp))
    | int j => obtain ⟨t', rfl⟩ := ry; exact PySem.EqMixed.eq_str_int (fin_bl I q (by simp))
    | str j => obtain ⟨t', rfl⟩ := ry; exact eq_str (fin_bl I q dec_str)
    | _ => exact absurd (show false = true from hs) Bool.false_ne_true
  | byt i =>
    obtain ⟨t, rfl⟩ := rx
    cases y with
    | byt j => obtain ⟨t', rfl⟩ := ry; exact PySem.W.eq_bytes (fin_bl I q dec_byt)
    | _ => exact absurd (show false = true from hs) Bool.false_ne_true
  | _ => cases y <;> exact absurd (show false = true from hs) Bool.false_ne_true
theorem op_ne : OpR X (compareOp .NotEq) rNe := by
  intro pins s σ H x y v u Q I rx ry h
  obtain ⟨hs, q⟩ := h
  cases x with
  | non =>
    cases rx
    cases y with
    | non => cases ry; exact PySem.EqNone.ne_none_none (fin_bl I q (by simp))
    | bl j => cases ry; exact PySem.EqNone.ne_none_bool (fin_bl I q (by simp))
    | int j => obtain ⟨t', rfl⟩ := ry; exact PySem.EqNone.ne_none_int (fin_bl I q (by simp))
    | str j => obtain ⟨t', rfl⟩ := ry; exact PySem.EqNone.ne_none_str (fin_bl I q (by simp))
    | _ => exact absurd (show false = true from hs) Bool.false_ne_true
  | bl i =>
    cases rx
    cases y with
    | non => cases ry; exact PySem.EqNone.ne_bool_none (fin_bl I q (by simp))
    | bl j => cases ry; exact ne_bool (fin_bl I q (congrArg not dec_bl))
    | str j => obtain ⟨t', rfl⟩ := ry; exact PySem.EqMixed.ne_bool_str (fin_bl I q (by simp))
    | _ => exact absurd (show false = true from hs) Bool.false_ne_true
  | int i =>
    obtain ⟨t, rfl⟩ := rx
    cases y with
    | non => cases ry; exact PySem.EqNone.ne_int_none (fin_bl I q (by simp))
    | int j => obtain ⟨t', rfl⟩ := ry; exact ne_int (fin_bl I q (congrArg not dec_int))
    | str j => obtain ⟨t', rfl⟩ := ry; exact PySem.EqMixed.ne_int_str (fin_bl I q (by simp))
    | _ => exact absurd (show false = true from hs) Bool.false_ne_true
  | str i =>
    obtain ⟨t, rfl⟩ := rx
    cases y with
    | non => cases ry; exact PySem.EqNone.ne_str_none (fin_bl I q (by simp))
    | bl j => cases ry; exact PySem.EqMixed.ne_str_bool (fin_bl I q (by simp))
    | int j => obtain ⟨t', rfl⟩ := ry; exact PySem.EqMixed.ne_str_int (fin_bl I q (by simp))
    | str j => obtain ⟨t', rfl⟩ := ry; exact ne_str (fin_bl I q (congrArg not dec_str))
    | _ => exact absurd (show false = true from hs) Bool.false_ne_true
  | byt i =>
    obtain ⟨t, rfl⟩ := rx
    cases y with
    | byt j => obtain ⟨t', rfl⟩ := ry; exact PySem.W.ne_bytes (fin_bl I q (congrArg not dec_byt))
    | _ => exact absurd (show false = true from hs) Bool.false_ne_true
  | _ => cases y <;> exact absurd (show false = true from hs) Bool.false_ne_true
theorem op_lt : OpR X (compareOp .Lt) (rI0 fun i j => .bl (decide (i < j))) := opB0 fun _ _ _ _ _ _ _ q => lt_int q
theorem op_le : OpR X (compareOp .LtE) (rI0 fun i j => .bl (decide (i <= j))) := opB0 fun _ _ _ _ _ _ _ q => le_int q
theorem op_gt : OpR X (compareOp .Gt) (rI0 fun i j => .bl (decide (j < i))) := opB0 fun _ _ _ _ _ _ _ q => gt_int q
theorem op_ge : OpR X (compareOp .GtE) (rI0 fun i j => .bl (decide (j <= i))) := opB0 fun _ _ _ _ _ _ _ q => ge_int q
theorem op_isN : OpR X (compareOp .Is) (fun x y H Q => y = .non /\ Q (.bl (decide (x = .non))) H) := by
  intro pins s σ H x y v u Q I rx ry h
  obtain ⟨rfl, q⟩ := h
  cases ry
  refine is_none_gen (fin_bl I q ?_)
  cases x <;> first
    | (cases rx; rfl)
    | (obtain ⟨t, rfl⟩ := rx; rfl)
theorem OpR.or {f : Value -> Value -> Sem Value} {r r' : R2} (h : OpR X f r) (h' : OpR X f r') : OpR X f (fun x y H Q => r x y H Q ∨ r' x y H Q) := by
  intro pins s σ H x y v u Q I rx ry q
  rcases q with q | q
  · exact h pins s σ H x y v u Q I rx ry q
  · exact h' pins s σ H x y v u Q I rx ry q
theorem nomark (b : Expr) {op : CmpOp} (h : op ≠ .In := by decide) (h2 : op ≠ .NotIn := by decide) : behindInMarks op b = false := by
  have e1 : (op == CmpOp.In) = false := by cases op <;> first | rfl | exact absurd rfl h
  have e2 : (op == CmpOp.NotIn) = false := by cases op <;> first | rfl | exact absurd rfl h2
  cases b <;> simp [behindInMarks, e1, e2]
theorem pe_cmpR {op : CmpOp} {r : R2} (ho : OpR X (compareOp op) r) (ha : PE X a ta) (hb : PE X b tb) (hm : behindInMarks op b = false) : PE X (.Compare a [op] [b] pos) (tOp r ta tb) := by
  intro pins s σ H Q I h
  exact wpAny_Compare1 (binT ha hb I h fun v u s2 x y H2 I2 rx ry q => ho pins s2 σ H2 x y v u Q I2 rx ry q) hm
def tTest (t : TE) : TT := fun σ H Q => t σ H fun x H' => ∃ k, x = .bl k /\ Q k H'
theorem pt_cmpR {op : CmpOp} {r : R2} (ho : OpR X (compareOp op) r) (ha : PE X a ta) (hb : PE X b tb) (hm : behindInMarks op b = false) : PT X (.Compare a [op] [b] pos) (tTest (tOp r ta tb)) := by
  intro pins s σ H Q I h
  refine wpAny_isTrue_Compare1 (thn (ha pins s σ H _ I h) fun v s1 ⟨x, H1, I1, r1, q1⟩ => thn (hb pins s1 σ H1 _ I1 q1) fun u s2 ⟨y, H2, I2, r2, q2⟩ =>
    thn (ho pins s2 σ H2 x y v u _ I2 r1 r2 q2) fun c s3 ⟨z, H3, I3, r3, k, e, q3⟩ => ?_) hm
  subst e
  cases r3
  exact wpAny_truthy_bool ⟨H3, I3, q3⟩
theorem line63 : (sizeLine : Nat) < 2 ^ 63 := by rw [sizeLine_eq]; decide
theorem vals1 {x : V} {us : List Value} (r : Vals [x] us) : ∃ u, us = [u] /\ RelV x u := by
  cases r with
  | cons r1 r2 => cases r2; exact ⟨_, rfl, r1⟩
theorem vals2 {x y : V} {us : List Value} (r : Vals [x, y] us) : ∃ u w', us = [u, w'] /\ RelV x u /\ RelV y w' := by
  cases r with
  | cons r1 r2 =>
    cases r2 with
    | cons r3 r4 => cases r4; exact ⟨_, _, rfl, r1, r3⟩
end
end L2
namespace L2
open PySem PySem.Spec PyProof.Rows
structure ObjM (h : Heap) (x dx C : Addr) (mA : Str -> Option Value) : Prop where
  obj : h.get? x = some (PySem.W.instObj C dx)
  ns : h.Ns1 dx mA
  ne : dx ≠ x
theorem lookIn_ns {h : Heap} {dx : Addr} {mA : Str -> Option Value} (n : h.Ns1 dx mA) : ∃ od, h.get? dx = some od /\ ∀ name, PySem.W.lookIn name od = some (mA name) := by
  obtain ⟨o, es, ep, ho, hd, hk, _, hm⟩ := n
  refine ⟨o, ho, fun name => ?_⟩
  have e := hm name
  unfold nsFind findBy at e
  rw [← Array.find?_toList] at e
  unfold PySem.W.lookIn
  rw [hd]
  dsimp only
  split
  · rename_i y q
    rw [q] at e
    exact congrArg some e
  · rename_i q
    rw [q] at e
    have a : es.toList.any (·.refKey) = false := by
      rw [List.any_eq_false]
      intro y hy
      obtain ⟨z, t, hkey⟩ := hk y (Array.mem_toList_iff.mp hy)
      simp [DictEntry.refKey, hkey]
    have a' : ¬ es.toList.any (·.refKey) = true := by rw [a]; exact Bool.false_ne_true
    rw [if_neg a']
    exact congrArg some e
theorem ObjM.look {h : Heap} {x dx C : Addr} {mA : Str -> Option Value} (I : ObjM h x dx C mA) : ∃ od, PySem.W.InstAt h x (PySem.W.instObj C dx) C (some od) /\ ∀ name, PySem.W.lookIn name od = some (mA name) :=
  let ⟨od, ho, hl⟩ := lookIn_ns I.ns
  ⟨od, ⟨I.obj, rfl, rfl, ho⟩, hl⟩
theorem RelO.some_of {v : V} {o : Option Value} (r : RelO (some v) o) : ∃ u, o = some u /\ RelV v u := by
  cases o with
  | none => exact (show False from r).elim
  | some u => exact ⟨u, rfl, r⟩
theorem handed_of {v : V} {u : Value} (r : RelV v u) : PySem.W.handedIn u = true := by
  cases v with
  | non => cases (show u = Value.none from r); rfl
  | bl b => cases (show u = Value.bool b from r); rfl
  | int i => obtain ⟨t, e⟩ := (show ∃ t, u = Value.int i t from r); cases e; rfl
  | str x => obtain ⟨t, e⟩ := (show ∃ t, u = Value.str x t from r); cases e; rfl
  | byt b => obtain ⟨t, e⟩ := (show ∃ t, u = Value.bytes b t from r); cases e; rfl
  | flt b => obtain ⟨t, e⟩ := (show ∃ t, u = Value.float b t from r); cases e; rfl
  | ref a => cases (show u = Value.ref a from r); rfl
  | ty n => cases (show u = Value.type n from r); rfl
section
variable {P : Program} {w : World} {H H' : Hp} {h h' : Heap} {a C dx : Addr} {fs fs' : List (Str × V)}
theorem ins_get (hok : HOk P w H h) (e : H a = some (.ins C dx fs)) : ∃ mA, ObjM h a dx C mA /\ (∀ f, RelO (fs.lookup f) (mA f)) /\ PySem.Within mA (fs.map (·.1)) /\ fs.length <= 1000 /\ H dx = some (.own a) := by
  obtain ⟨d, z, ne, ob, mA, n, r, q⟩ := (show ObjOk P w H h a (.ins C dx fs) from hok a _ e)
  exact ⟨mA, ⟨ob, n, ne⟩, r, q, z, d⟩
end
structure Cls (K : PySem.W.Frag) (C : Addr) : Prop where
  pg : PySem.W.plainGet K C Str.empty = true
  hd : PySem.W.hasDictIn K C = true
  po : PySem.W.plainOver K C = true
  sa : PySem.W.findIn K (.ref C) "__setattr__" = some (some (.builtin "object.__setattr__"))
theorem Cls.get {K : PySem.W.Frag} {C : Addr} (c : Cls K C) (f : Str) : PySem.W.plainGet K C f = true := c.pg
section
variable {X : Cx} {pins : List (Addr × Obj)} {σ : St} {H : Hp} {s : Shared} {a C dx : Addr} {fs : List (Str × V)} {f : Str} {v : V} {A : Around} {E : Value -> Shared -> Prop}
theorem attr_of {prog : Program} {w : World} {env : Env} {e : Expr} {f : Str} {pos : Pos} {s : Shared} {Q : Value -> Shared -> Prop} (hb : attributeBase e f env (eval e env) = eval e env)
    (h : wpAny (model prog w) A (eval e env) (fun o s₁ => wpAny (model prog w) A (getAttr o f true) Q E s₁) E s) : wpAny (model prog w) A (eval (.Attribute e f pos) env) Q E s :=
  Attribute_any_ h (by rw [arm_eval_Attribute, hb])
end
section
variable {X : Cx} {pins : List (Addr × Obj)} {σ : St} {H : Hp} {s : Shared} {A : Around} {E : Value -> Shared -> Prop} {Q : Value -> Shared -> Prop} {c : Value} {b : Bool}
inductive TyOf (K : PySem.W.Frag) (H : Hp) : V -> Value -> Prop where
  | non : TyOf K H .non (.type "NoneType")
  | bl (x : Bool) : TyOf K H (.bl x) (.type "bool")
  | int (i : Int) : TyOf K H (.int i) (.type "int")
  | str (x : Str) : TyOf K H (.str x) (.type "str")
  | flt (x : UInt64) : TyOf K H (.flt x) (.type "float")
  | lst {a : Addr} {xs : List V} (e : H a = some (.lst xs)) : TyOf K H (.ref a) (.type "list")
  | frz {a : Addr} {o : Obj} {xs : List V} (e : H a = some (.frz o (.lst xs))) : TyOf K H (.ref a) (.type "list")
  | tup {a : Addr} {xs : List V} (e : H a = some (.tup xs)) : TyOf K H (.ref a) (.type "tuple")
  | dK {a : Addr} {kvs : List (Key × V)} (e : H a = some (.dK kvs)) : TyOf K H (.ref a) (.type "dict")
  | dT {a : Addr} {kvs : List (List Key × V)} (e : H a = some (.dT kvs)) : TyOf K H (.ref a) (.type "dict")
  | ins {a C dx : Addr} {fs : List (Str × V)} (e : H a = some (.ins C dx fs)) (cl : Cls K C) (ha : PySem.W.findIn K (.ref C) "__class__" = some (some (.builtin "object.__class__")))
      (hn : PySem.W.specialIn K (.builtin "object.__class__") "__get__" = some (some (.builtin "getset_descriptor.__get__"))) (htk : PySem.W.takesIn K (.builtin "object.__class__") = some true)
      (hm : PySem.W.mroIn K C (.type "object") = some true) : TyOf K H (.ref a) (.ref C)
theorem isinst_ok {x : V} {u t : Value} (I : Inv X pins σ H s) (rx : RelV x u) (ty : TyOf X.K H x t) (e : PySem.W.kitOne X.K t c = some b) (h : ∀ tk, Q (.bool b) { s with toks := tk }) :
    wpAny (model X.prog X.w) A (call (.builtin "isinstance") [u, c]) Q E s := by
  cases ty with
  | non => cases (show u = Value.none from rx); exact PySem.W.kia_one PySem.W.kitx_none I.kIn True.intro e (fun z => nomatch z) h
  | bl y => cases (show u = Value.bool y from rx); exact PySem.W.kia_one PySem.W.kitx_bool I.kIn True.intro e (fun z => nomatch z) h
  | int i => obtain ⟨t, q⟩ := (show ∃ t, u = Value.int i t from rx); cases q; exact PySem.W.kia_one PySem.W.kitx_int I.kIn True.intro e (fun z => nomatch z) h
  | str y => obtain ⟨t, q⟩ := (show ∃ t, u = Value.str y t from rx); cases q; exact PySem.W.kia_one PySem.W.kitx_str I.kIn True.intro e (fun z => nomatch z) h
  | flt y => obtain ⟨t, q⟩ := (show ∃ t, u = Value.float y t from rx); cases q; exact PySem.W.kia_one PySem.W.kitx_float I.kIn True.intro e (fun z => nomatch z) h
  | @lst a xs ea =>
    cases (show u = Value.ref a from rx)
    obtain ⟨_, _, n, _, h1⟩ := (show ObjOk X.prog X.w H s.heap a (.lst xs) from I.hok a _ ea)
    exact PySem.W.kia_one PySem.W.kitx_list I.kIn ⟨_, h1, rfl⟩ e (fun z => nomatch z) h
  | @frz a ob xs ea =>
    cases (show u = Value.ref a from rx)
    obtain ⟨_, _, _, n, _, h1⟩ := (show ObjOk X.prog X.w H s.heap a (.frz ob (.lst xs)) from I.hok a _ ea)
    exact PySem.W.kia_one PySem.W.kitx_list I.kIn ⟨_, h1, rfl⟩ e (fun z => nomatch z) h
  | @tup a xs ea =>
    cases (show u = Value.ref a from rx)
    obtain ⟨_, _, _, p0⟩ := (show ObjOk X.prog X.w H s.heap a (.tup xs) from I.hok a _ ea)
    have p := p0.up
    obtain ⟨o, h1, h2, _⟩ := p
    exact PySem.W.kia_one PySem.W.kitx_tuple I.kIn ⟨o, h1, h2⟩ e (fun z => nomatch z) h
  | @dK a kvs ea =>
    cases (show u = Value.ref a from rx)
    obtain ⟨_, _, vs, _, p⟩ := (show ObjOk X.prog X.w H s.heap a (.dK kvs) from I.hok a _ ea)
    obtain ⟨o, es, ep, h1, h2, _⟩ := p
    exact PySem.W.kia_one PySem.W.kitx_dict I.kIn ⟨o, h1, h2.1⟩ e (fun z => nomatch z) h
  | @dT a kvs ea =>
    cases (show u = Value.ref a from rx)
    obtain ⟨_, _, xs, _, o, es, ep, h1, h2, _⟩ := (show ObjOk X.prog X.w H s.heap a (.dT kvs) from I.hok a _ ea)
    exact PySem.W.kia_one PySem.W.kitx_dict I.kIn ⟨o, h1, h2.1⟩ e (fun z => nomatch z) h
  | @ins a C dx fs ea cl ha hn htk hm =>
    cases (show u = Value.ref a from rx)
    obtain ⟨mA, O, _⟩ := ins_get I.hok ea
    obtain ⟨od, J, _⟩ := O.look
    exact PySem.W.kia_one (PySem.W.kitx_own (cl.get _) cl.hd ha hn htk hm) I.kIn J e (fun z => nomatch z) h
end
end L2
namespace L2
open PySem PySem.Spec PyProof.Rows
structure Room (k : Nat) (A : Around) : Prop where
  hd : A.handled = none
  dp : A.depth + 3 * k + 5 < recursionLimit
  un : A.units + 16 * k + 200 < cLine
  gd : A.guards = some []
theorem Room.mono {j k : Nat} {A : Around} (r : Room k A) (h : j <= k) : Room j A := ⟨r.hd, by have := r.dp; omega, by have := r.un; omega, r.gd⟩
theorem Room.deeper {k : Nat} {A : Around} (r : Room (k + 1) A) (env : Env) : Room k (A.deeper env) :=
  ⟨r.hd, by have := r.dp; show A.depth + 1 + 3 * k + 5 < _; omega, by have := r.un; show A.units + 3 + 16 * k + 200 < _; omega, r.gd⟩
theorem make_depth {A : Around} {C : Addr} {us : List Value} {kw : List (Str × Value)} : (A.under (.builtin "type.__call__" ⟨.ref C :: us, kw⟩)).depth = A.depth + 1 := by
  first | rfl | simp [Around.under, Code.weight, Code.isCreation, Code.isGuard, Code.isCaller, Code.frames, Code.isFrame, guardIds]
theorem make_units {A : Around} {C : Addr} {us : List Value} {kw : List (Str × Value)} : (A.under (.builtin "type.__call__" ⟨.ref C :: us, kw⟩)).units = A.units + 1 := by
  first | rfl | simp [Around.under, Code.cUnits, Code.frames, Code.isFrame]
theorem Room.make {k : Nat} {A : Around} (r : Room (k + 1) A) (C : Addr) (us : List Value) (kw : List (Str × Value)) : Room k (A.under (.builtin "type.__call__" ⟨.ref C :: us, kw⟩)) :=
  ⟨r.hd, by have := r.dp; rw [make_depth]; omega, by have := r.un; rw [make_units]; omega, by have h := r.gd; simp [Around.under, Code.guards, Code.isGuard, guardIds, pushGuards, h]⟩
theorem Room.depth {k : Nat} {A : Around} (r : Room k A) : A.depth < recursionLimit := by have := r.dp; omega
theorem Room.units {k : Nat} {A : Around} (r : Room k A) : A.units + 64 < cLine := by have := r.un; omega
def tNil : TA := fun _ H Q => Q [] H
def tCons (ta : TE) (tr : TA) : TA := fun σ H Q => ta σ H fun x H1 => tr σ H1 fun xs H2 => Q (x :: xs) H2
section
variable {X : Cx} {e : Expr} {es : List Expr} {te : TE} {t : TA} {pos : Pos}
theorem pa_nil : PA X [] tNil := fun _ _ _ _ H Q I h => Calls.spliced_nil ⟨[], H, I, .nil, h⟩
theorem pa_cons (ha : PE X e te) (hr : PA X es t) (hs : starEach (e :: es) X.env = (false, eval e X.env) :: starEach es X.env := by rfl) : PA X (e :: es) (tCons te t) := by
  intro pos pins s σ H Q I h
  rw [hs]
  show wpAny _ _ (spliced ((false, eval e X.env) :: backTo pos (starEach es X.env))) _ _ s
  refine Calls.spliced_cons (thn (ha pins s σ H _ I h) fun u s1 ⟨x, H1, I1, r1, q1⟩ => ?_)
  exact thn (hr pos pins s1 σ H1 _ I1 q1) fun us s2 ⟨xs, H2, I2, r2, q2⟩ => ⟨x :: xs, H2, I2, .cons r1 r2, q2⟩
def tLst (t : TA) : TE := fun σ H Q => t σ H fun xs H1 => xs.length <= sizeLine /\ ∀ p, H1 p = none -> Q (.ref p) (upd H1 p (.lst xs))
theorem pe_lst (h : PA X es t) : PE X (.List es pos) (tLst t) := by
  intro pins s σ H Q I hq
  refine wpAny_List_spliced (thn (h pos pins s σ H _ I hq) fun us s1 ⟨xs, H1, I1, r, z, q⟩ => ⟨by rw [← r.length]; exact z, ?_⟩)
  have hf : H1 s1.heap.objs.size = none := I1.hok.fresh (Nat.le_refl _)
  refine ⟨.ref s1.heap.objs.size, upd H1 s1.heap.objs.size (.lst xs), I1.laid (t' := s1.toks) (fun b u e => Heap.get?_push_of_some _ e) (Nat.le_refl _) ?_, rfl, q _ hf⟩
  exact ⟨z, us, 0, r, Heap.get?_push_size _ rfl⟩
end
abbrev Sp := List V -> Hp -> VK -> XK -> Prop
abbrev CXT := List Env -> Hp -> Shared -> XK -> Value -> Shared -> Prop
structure Env0 (P : Program) (w : World) (K : PySem.W.Frag) (mg : Str -> Option Value) (base : Heap) (A : Around) (outer : List Env) (s : Shared) (H : Hp) : Prop where
  frames : A.frames = some outer
  mod : Mod K mg base
  bs : ∀ b o, base.get? b = some o -> s.heap.get? b = some o /\ H b = none
  bsz : base.objs.size <= s.heap.objs.size
  funs : s.heap.FunFrames base outer
  frf : ∀ b ∈ frs outer, H b = none
  hok : HOk P w H s.heap
  bare : AllBare s.gens
def CE (outer : List Env) (P : Program) (w : World) (H : Hp) (s : Shared) (Q : VK) (u : Value) (s' : Shared) : Prop :=
  ∃ v H', s'.os = s.os /\ AllBare s'.gens /\ Un (frs outer) [] H H' s.heap s'.heap /\ HOk P w H' s'.heap /\ RelV v u /\ Q v H'
def CR (CX : CXT) (outer : List Env) (P : Program) (w : World) (H : Hp) (s : Shared) (Q : VK) (E : XK) (r : Result) (s' : Shared) : Prop :=
  match r with
  | .ok (.ret u) => CE outer P w H s Q u s'
  | .ok _ => False
  | .error e => CX outer H s E e s'
structure FnOk (P : Program) (w : World) (K : PySem.W.Frag) (mg : Str -> Option Value) (base : Heap) (CX : CXT) (k : Nat) (f : Addr) (fd : FuncData) (ps : List Str) (sp : Sp) : Prop where
  len : ∀ vs H Q E, sp vs H Q E -> vs.length = ps.length
  run : ∀ (A : Around) (outer : List Env) (s : Shared) (H : Hp) (args : Args) (us : List Value) (vs : List V) (Q : VK) (E : XK), Room k A -> Env0 P w K mg base A outer s H -> BindsTo s fd args (ps.zip us) -> Vals vs us -> sp vs H Q E ->
    codeAny (model P w) A (.call (.ref f) args) (CR CX outer P w H s Q E) s
theorem FnOk.imp {P : Program} {w : World} {K : PySem.W.Frag} {mg : Str -> Option Value} {base : Heap} {CX : CXT} {k : Nat} {f : Addr} {fd : FuncData} {ps : List Str} {sp sp' : Sp} (F : FnOk P w K mg base CX k f fd ps sp)
    (h : ∀ vs H Q E, sp' vs H Q E -> sp vs H Q E) : FnOk P w K mg base CX k f fd ps sp' :=
  ⟨fun vs H Q E q => F.len vs H Q E (h _ _ _ _ q), fun A outer s H args us vs Q E hr he hb hv hs => F.run A outer s H args us vs Q E hr he hb hv (h _ _ _ _ hs)⟩
theorem Env0.make {P : Program} {w : World} {K : PySem.W.Frag} {mg : Str -> Option Value} {base : Heap} {A : Around} {outer : List Env} {s : Shared} {H : Hp} (e : Env0 P w K mg base A outer s H) (C : Addr) (us : List Value) (kw : List (Str × Value)) :
    Env0 P w K mg base (A.under (.builtin "type.__call__" ⟨.ref C :: us, kw⟩)) outer s H := ⟨by first | exact e.frames | (simpa [Around.under, Code.envs, Code.isFrame, pushEnvs] using e.frames), e.mod, e.bs, e.bsz, e.funs, e.frf, e.hok, e.bare⟩
section
variable {X : Cx} {pins : List (Addr × Obj)} {σ : St} {H : Hp} {s s' : Shared}
theorem Inv.env0 (I : Inv X pins σ H s) : Env0 X.prog X.w X.K X.mg X.base X.A X.stack s H :=
  ⟨I.ok.frames, I.ok.mod, I.bs, Nat.le_trans I.ok.bsz I.sz, I.stack, I.stkFree, I.hok, I.bare⟩
theorem Inv.after {Q : VK} {u : Value} (I : Inv X pins σ H s) (h : CE X.stack X.prog X.w H s Q u s') : EP X pins σ Q u s' := by
  obtain ⟨v, H', os, bare, un, hok, r, q⟩ := h
  obtain ⟨hh, g, d, t, os'⟩ := s'
  obtain rfl : os' = s.os := os
  exact ⟨v, H', I.call (h' := hh) (g' := g) (d' := d) (t' := t) (ch := []) un hok bare (fun b z => absurd z (by simp)), r, q⟩
end
def tCall (sp : Sp) (dvs : List V) (E : XK) (t : TA) : TE := fun σ H Q => t σ H fun vs H1 => sp (vs ++ dvs) H1 Q E
def Binds (K : PySem.W.Frag) (fd : FuncData) (ps : List Str) (ds : List Value) : Prop :=
  ∀ (s : Shared) (us : List Value), K.In s.heap -> (us ++ ds).length = ps.length -> BindsTo s fd ⟨us, []⟩ (ps.zip (us ++ ds))
theorem Binds.all {K : PySem.W.Frag} {fd : FuncData} {ps : List Str} (h : ∀ us : List Value, us.length = ps.length -> bindArgs fd ⟨us, []⟩ = pure (ps.zip us)) : Binds K fd ps [] := fun s us _ hl => by
  rw [List.append_nil] at hl ⊢
  exact .of_eq (h us hl)
def Passes (CX : CXT) (X : Cx) (E : XK) : Prop := ∀ (pins : List (Addr × Obj)) (σ : St) (H : Hp) (s : Shared) (e : Value) (s' : Shared), Inv X pins σ H s -> CX X.stack H s E e s' -> X.xe e s'
section
variable {X : Cx} {CX : CXT} {k : Nat} {f C : Addr} {fd : FuncData} {ps : List Str} {sp : Sp} {dvs : List V} {ds : List Value} {E : XK} {x m : Str} {p pos apos : Pos} {e o : Expr} {es : List Expr} {ta : TE} {t : TA}
theorem run_fn {pins : List (Addr × Obj)} {σ : St} {H : Hp} {s : Shared} {Q : VK} {us : List Value} {vs : List V} (F : FnOk X.prog X.w X.K X.mg X.base CX k f fd ps sp) (hr : Room k X.A) (hb : Binds X.K fd ps ds) (hd : Vals dvs ds) (hx : Passes CX X E)
    (I : Inv X pins σ H s) (r : Vals vs us) (h : sp (vs ++ dvs) H Q E) : wpAny (model X.prog X.w) X.A (call (.ref f) us) (EP X pins σ Q) X.xe s := by
  have r2 : Vals (vs ++ dvs) (us ++ ds) := r.append hd
  have hl : (us ++ ds).length = ps.length := by rw [← r2.length]; exact F.len _ _ _ _ h
  refine wpAny_call (codeAny_mono (F.run X.A X.stack s H ⟨us, []⟩ (us ++ ds) (vs ++ dvs) Q E hr I.env0 (hb s us I.kIn hl) r2 h) fun r s' hq => ?_)
  cases r with
  | error e => exact hx pins σ H s e s' I hq
  | ok fl =>
    cases fl with
    | ret u => exact I.after hq
    | next => exact False.elim hq
    | brk => exact False.elim hq
    | cont => exact False.elim hq
theorem pe_call (F : FnOk X.prog X.w X.K X.mg X.base CX k f fd ps sp) (hr : Room k X.A) (hg : Gl X x) (hm : X.mg x = some (.ref f)) (hk : PySem.W.keepIn X.K (.ref f) = true) (hb : Binds X.K fd ps ds) (hd : Vals dvs ds) (hx : Passes CX X E)
    (ha : PA X (e :: es) t) (hdb : (x == ("__debug__" : Str)) = false := by decide) (he : starEach (e :: es) X.env = (false, eval e X.env) :: starEach es X.env := by rfl) (hpl : (backTo pos (starEach es X.env)).any (·.1) = false := by rfl) :
    PE X (.Call (.Name x p) (e :: es) [] pos) (tCall sp dvs E t) := by
  intro pins s σ H Q I h
  refine wpAny_Call_Name_kw (ld_glob I hg hm ?_ hdb)
  refine PySem.W.callWith_K (h₀ := X.base) I.ok.mod.kin hk (thn (ha pos pins s σ H _ I h) fun us s1 ⟨vs, H1, I1, r, q⟩ => ⟨I1.kIn, ?_⟩) he hpl
  exact run_fn F hr hb hd hx I1 r q
end
structure FnScope (N P : List Str) (sc : Scope) : Prop where
  kind : sc.kind = .function
  co : sc.isCoroutine = false
  gen : sc.isGenerator = false
  nd : N.Nodup
  pre : N.take P.length = P
  par : ∀ x ∈ P, sc.names.lookup x = some .local ∨ sc.names.lookup x = some .cell
  nofree : ∀ y ∈ sc.names, y.2 ≠ .free
theorem bindL_out {kindOf : Str -> Option NameKind} {x : Str} : ∀ {binds : List (Str × Value)} {m : Str -> Option Value}, (∀ v, (x, v) ∉ binds) -> bindL kindOf binds m x = m x
  | [], _, _ => rfl
  | (n, v) :: r, m, h => by
    unfold bindL
    rw [bindL_out fun w hw => h w (List.mem_cons_of_mem _ hw)]
    split
    · have : x ≠ n := by rintro rfl; exact h v List.mem_cons_self
      simp [this]
    · rfl
theorem bindC_out {kindOf : Str -> Option NameKind} {x : Str} : ∀ {binds : List (Str × Value)} {m : Str -> Option Value}, (∀ v, (x, v) ∉ binds) -> bindC kindOf binds m x = m x
  | [], _, _ => rfl
  | (n, v) :: r, m, h => by
    unfold bindC
    rw [bindC_out fun w hw => h w (List.mem_cons_of_mem _ hw)]
    split
    · rfl
    · have : x ≠ n := by rintro rfl; exact h v List.mem_cons_self
      simp [this]
theorem bindL_get {kindOf : Str -> Option NameKind} {x : Str} {v : Value} : ∀ {P : List Str} {vs : List Value} {i : Nat} {m : Str -> Option Value}, P.Nodup -> P[i]? = some x -> vs[i]? = some v -> kindOf x = some .local ->
    bindL kindOf (P.zip vs) m x = some v
  | [], _, _, _, _, h, _, _ => by simp at h
  | _ :: _, [], _, _, _, _, h, _ => by simp at h
  | p :: P, w :: vs, 0, m, nd, h1, h2, hk => by
    simp at h1 h2; subst h1; subst h2
    show bindL kindOf ((p, w) :: P.zip vs) m p = _
    unfold bindL
    rw [bindL_out fun v hv => (List.nodup_cons.mp nd).1 (List.of_mem_zip hv).1, if_pos hk]
    simp
  | p :: P, w :: vs, i + 1, m, nd, h1, h2, hk => by
    show bindL kindOf ((p, w) :: P.zip vs) m x = _
    unfold bindL
    exact bindL_get (i := i) (List.nodup_cons.mp nd).2 (by simpa using h1) (by simpa using h2) hk
theorem bindC_get {kindOf : Str -> Option NameKind} {x : Str} {v : Value} : ∀ {P : List Str} {vs : List Value} {i : Nat} {m : Str -> Option Value}, P.Nodup -> P[i]? = some x -> vs[i]? = some v -> kindOf x ≠ some .local ->
    bindC kindOf (P.zip vs) m x = some v
  | [], _, _, _, _, h, _, _ => by simp at h
  | _ :: _, [], _, _, _, _, h, _ => by simp at h
  | p :: P, w :: vs, 0, m, nd, h1, h2, hk => by
    simp at h1 h2; subst h1; subst h2
    show bindC kindOf ((p, w) :: P.zip vs) m p = _
    unfold bindC
    rw [bindC_out fun v hv => (List.nodup_cons.mp nd).1 (List.of_mem_zip hv).1, if_neg hk]
    simp
  | p :: P, w :: vs, i + 1, m, nd, h1, h2, hk => by
    show bindC kindOf ((p, w) :: P.zip vs) m x = _
    unfold bindC
    exact bindC_get (i := i) (List.nodup_cons.mp nd).2 (by simpa using h1) (by simpa using h2) hk
def start (N : List Str) (vs : List V) : St := vs.map some ++ List.replicate (N.length - vs.length) none
def cxOf (CX : CXT) (P : Program) (w : World) (K : PySem.W.Frag) (mg : Str -> Option Value) (base : Heap) (N : List Str) (qual : Str) (scope : Scope) (f : Addr) (cd : Value) (A : Around) (outer : List Env) (s : Shared) (H : Hp) (E : XK) : Cx where
  prog := P
  w := w
  K := K
  mg := mg
  base := base
  A := A.deeper (envOfC qual scope s.heap.objs.size f cd)
  N := N
  s₀ := s
  H₀ := H
  env := envOfC qual scope s.heap.objs.size f cd
  outer := outer
  stack := envOfC qual scope s.heap.objs.size f cd :: outer
  ex := []
  calm := true
  warm := true
  fn := fun _ => true
  pn := []
  xe := fun e s' => wpAny (model P w) (A.deeper (envOfC qual scope s.heap.objs.size f cd)) (leaving (envOfC qual scope s.heap.objs.size f cd) e) (fun _ s'' => CX outer H s E e s'') (fun e' s'' => CX outer H s E e' s'') s'
theorem cell_has {sc : Scope} {n : Nat} {x : Str} (h : sc.names.lookup x = some .cell) : ∃ c, (cellsFrom n sc.names []).lookup x = some c := by
  have q := PySem.W.cellsFrom_some sc.names n [] (.inl h)
  exact Option.isSome_iff_exists.mp q
theorem inv_start {CX : CXT} {P : Program} {w : World} {K : PySem.W.Frag} {mg : Str -> Option Value} {base : Heap} {N ps : List Str} {qual : Str} {scope : Scope} {f : Addr} {cd : Value} {A : Around} {outer : List Env} {s s1 : Shared} {H : Hp} {E : XK} {us : List Value} {vs : List V}
    (S : FnScope N ps scope) (hd : A.handled = none) (e0 : Env0 P w K mg base A outer s H) (hl : vs.length = ps.length) (r : Vals vs us)
    (x : InCallC s s.heap.objs.size (bindL (envOfC qual scope s.heap.objs.size f cd).kindOf (ps.zip us) fun _ => none) (cellsFrom (s.heap.objs.size + 1) scope.names []) (bindC (envOfC qual scope s.heap.objs.size f cd).kindOf (ps.zip us) fun _ => none) s1) :
    Inv (cxOf CX P w K mg base N qual scope f cd A outer s H E) [] (start N vs) H s1 := by
  have hpl : ps.length <= N.length := by have := congrArg List.length S.pre; rw [List.length_take] at this; omega
  obtain ⟨h1, tk, rfl, hk⟩ := x.done
  have noA : ∀ b : Addr, b ∉ (cxOf CX P w K mg base N qual scope f cd A outer s H E).ex := fun b z => absurd (show b ∈ ([] : List Addr) from z) (by simp)
  refine ⟨⟨e0.mod, S.kind, rfl, rfl, Nat.le_refl _, fun y z c h1 h2 => ?_, fun y hy => ?_, fun y c _ h => ?_, ⟨fun _ => hd, fun _ => .inl hd⟩, Around.frames_deeper e0.frames, .inr ⟨rfl, rfl⟩, fun b z => absurd z (noA b), e0.bs, e0.bsz, fun b _ _ => noA b, fun b z => absurd z (noA b), e0.funs, e0.frf⟩,
    rfl, e0.bare, Un.kept hk, ⟨_, x.toInCall.ns, fun i y v h1 h2 h3 => ?_⟩, fun y c h => ⟨_, x.cell y c h⟩, e0.hok.fresh (Nat.le_refl _), fun y c h => ?_, fun p hp => absurd (show p ∈ ([] : List (Addr × Obj)) from hp) (by simp), e0.hok.kept hk, ?_⟩
  · exact name_of_addr x.apart (PySem.mem_of_lookup h1) (PySem.mem_of_lookup h2)
  · have hy : scope.names.lookup y = some .cell ∨ scope.names.lookup y = some .free := hy
    rcases hy with hy | hy
    · exact cell_has hy
    · exact absurd rfl (S.nofree _ (PySem.mem_of_lookup hy))
  · exact Nat.le_of_lt (x.above y c (PySem.mem_of_lookup h))
  · have hi : i < vs.length := by
      unfold start at h2
      by_cases hi : i < vs.length
      · exact hi
      · rw [List.getElem?_append_right (by simpa using hi)] at h2
        rw [List.getElem?_replicate] at h2
        split at h2 <;> cases h2
    have ha : vs[i]? = some v := by
      unfold start at h2
      rw [List.getElem?_append_left (by simpa using hi), List.getElem?_map] at h2
      cases e : vs[i]? with
      | none => rw [e] at h2; cases h2
      | some a => rw [e] at h2; cases h2; rfl
    obtain ⟨u, hu, rv⟩ := r.get ha
    have hp : ps[i]? = some y := by
      rw [← S.pre, List.getElem?_take_of_lt (by omega)]; exact h1
    have ndP : ps.Nodup := by rw [← S.pre]; exact S.nd.sublist (List.take_sublist _ _)
    refine ⟨u, rv, ?_⟩
    rcases S.par y (List.mem_of_getElem? hp) with k | k
    · exact .inl ⟨k, bindL_get ndP hp hu k⟩
    · obtain ⟨c, e⟩ := cell_has (n := s.heap.objs.size + 1) k
      refine .inr ⟨.inl k, c, e, ?_⟩
      have q := x.cell y c e
      rw [bindC_get ndP hp hu (by show scope.names.lookup y ≠ _; rw [k]; decide)] at q
      exact q
  · exact e0.hok.fresh (Nat.le_of_lt (x.above y c (PySem.mem_of_lookup h)))
  · unfold start
    show _ = N.length
    rw [List.length_append, List.length_map, List.length_replicate]
    omega
theorem fn_of {CX : CXT} {P : Program} {w : World} {K : PySem.W.Frag} {mg : Str -> Option Value} {base : Heap} {k : Nat} {f : Addr} {name qual : Str} {params : Arguments} {body : List Stmt} {scope : Scope} {dV kV doc pm cdv ct oc : Value} {an od : Option Addr}
    {osl : Array (Option Value)} {N ps : List Str} {sp : Sp} (lk : K.lookup f = some ⟨oc, od, .func (PySem.W.fnOf name qual params body scope dV kV doc pm an cdv ct), osl⟩) (hcd : PySem.W.codeIn K cdv qual = true) (S : FnScope N ps scope)
    (len : ∀ vs H Q E, sp vs H Q E -> vs.length = ps.length)
    (hbody : ∀ (A : Around) (outer : List Env) (s : Shared) (H : Hp) (vs : List V) (Q : VK) (E : XK), Room k (A.deeper (envOfC qual scope s.heap.objs.size f cdv)) -> sp vs H Q E ->
      ∃ t, PSs (cxOf CX P w K mg base N qual scope f cdv A outer s H E) body t /\ t { nx := fun _ H' => Q .non H', rt := Q } (start N vs) H) :
    FnOk P w K mg base CX (k + 1) f (PySem.W.fnOf name qual params body scope dV kV doc pm an cdv ct) ps sp := by
  refine ⟨len, fun A outer s H args us vs Q E hr e0 hb r hsp => ?_⟩
  have hl := len _ _ _ _ hsp
  have KX : K.In s.heap := e0.mod.kin.keeps fun b o e => (e0.bs b o e).1
  have lim : s.heap.NoLimit := e0.mod.nolimit.keeps fun b o e => (e0.bs b o e).1
  have hkind : ∀ y ∈ ps.zip us, scope.names.lookup y.1 = some .local ∨ (scope.names.lookup y.1 = some .cell /\ ((cellsFrom (s.heap.objs.size + 1) scope.names []).lookup y.1).isSome = true) := fun ⟨n, v⟩ hy => by
    rcases S.par n (List.of_mem_zip hy).1 with q | q
    · exact .inl q
    · exact .inr ⟨q, PySem.W.cellsFrom_some _ _ _ (.inl q)⟩
  refine codeAny_call_function hr.depth (KX _ _ lk) rfl S.co S.gen rfl (PySem.W.codeRec_of KX hcd) (hb _ _ _ _ ?_)
  refine wpAny_newFunctionEnv_cells S.kind hkind fun env he s1 x => ?_
  subst he
  refine ⟨lim.keeps x.toInCall.keep, codeAny_func ?_⟩
  obtain ⟨t, ht, hq⟩ := hbody A outer s H vs Q E (hr.deeper _) hsp
  have I : Inv (cxOf CX P w K mg base N qual scope f cdv A outer s H E) [] (start N vs) H s1 := inv_start S hr.hd e0 hl r x
  refine wpAny_mono (ht [] s1 (start N vs) H _ I hq) (fun fl s' hs => ?_) fun e s' hs => hs
  have fin : ∀ {σ' : St} {H' : Hp} {v : V} {u : Value}, Inv (cxOf CX P w K mg base N qual scope f cdv A outer s H E) [] σ' H' s' -> RelV v u -> Q v H' -> CE outer P w H s Q u s' :=
    fun {σ' H' v u} J rv q => ⟨v, H', J.os, J.bare, J.base, J.hok, rv, q⟩
  cases fl with
  | ret u =>
    obtain ⟨v, σ', H', J, rv, q⟩ := hs
    exact fin J rv q
  | next =>
    obtain ⟨σ', H', J, q⟩ := hs
    exact fin (v := V.non) (u := Value.none) J rfl q
  | brk =>
    obtain ⟨_, _, _, q⟩ := hs
    exact False.elim q
  | cont =>
    obtain ⟨_, _, _, q⟩ := hs
    exact False.elim q
end L2
namespace L2
open PySem PySem.Spec PyProof.Rows
section
variable {X : Cx} {x : Str} {p pos : Pos} {e : Expr} {es : List Expr} {t : TA} {id T : String} {r : List V -> Hp -> VK -> Prop}
def tCB (r : List V -> Hp -> VK -> Prop) (t : TA) : TE := fun σ H Q => t σ H fun vs H1 => r vs H1 Q
theorem pe_callB (hc : CallR X (.builtin id) r) (hg : Gl X x) (hm : X.mg x = none) (hv : bootBuiltins x = some (.builtin id)) (ha : PA X (e :: es) t) (hn : x ≠ "__name__" := by decide) (hdb : (x == ("__debug__" : Str)) = false := by decide)
    (he : starEach (e :: es) X.env = (false, eval e X.env) :: starEach es X.env := by rfl) (hpl : (backTo pos (starEach es X.env)).any (·.1) = false := by rfl) : PE X (.Call (.Name x p) (e :: es) [] pos) (tCB r t) := by
  intro pins s σ H Q I h
  refine wpAny_Call_Name_kw (ld_blt I hg hm hv ?_ hn hdb)
  exact PyProof.Rows.callWith_builtin1 (thn (ha pos pins s σ H _ I h) fun us s1 ⟨vs, H1, I1, r1, q1⟩ => hc pins s1 σ H1 vs us Q I1 r1 q1) he hpl
theorem pe_callTy (hc : CallR X (.type T) r) (hg : Gl X x) (hm : X.mg x = none) (hv : bootBuiltins x = some (.type T)) (ha : PA X (e :: es) t) (hn : x ≠ "__name__" := by decide) (hdb : (x == ("__debug__" : Str)) = false := by decide)
    (he : starEach (e :: es) X.env = (false, eval e X.env) :: starEach es X.env := by rfl) (hpl : (backTo pos (starEach es X.env)).any (·.1) = false := by rfl) : PE X (.Call (.Name x p) (e :: es) [] pos) (tCB r t) := by
  intro pins s σ H Q I h
  refine wpAny_Call_Name_kw (ld_blt I hg hm hv ?_ hn hdb)
  exact PyProof.Rows.callWith_type1 (thn (ha pos pins s σ H _ I h) fun us s1 ⟨vs, H1, I1, r1, q1⟩ => hc pins s1 σ H1 vs us Q I1 r1 q1) he hpl
end
end L2
namespace HT
open PySem PyProof.Rows
section
variable {prog : Program} {w : World} {A : Around} {E : Value -> Shared -> Prop} {s : Shared}
theorem cat_tup {t b : Addr} {vs ws : List Value} {Q : Value -> Shared -> Prop} (ht : IsTup s.heap t vs.toArray) (hb : IsTup s.heap b ws.toArray) (hv : vs ≠ [])
    (h1 : ws = [] -> Q (.ref t) s) (h2 : ws ≠ [] -> Q (.ref s.heap.objs.size) { s with heap := s.heap.push { cls := .type "tuple", data := .seq (vs ++ ws).toArray } })
    (hsz : vs.length + ws.length <= sizeLine) : wpAny (model prog w) A (binaryOp .Add (.ref t) (.ref b)) Q E s := by
  obtain ⟨⟨cls, dd, data, sl⟩, ho, hc, n, hd⟩ := id ht
  obtain ⟨⟨cls2, dd2, data2, sl2⟩, ho2, hc2, n2, hd2⟩ := id hb
  simp only at hc hd hc2 hd2
  subst hc hd hc2 hd2
  have e : vs.toArray ++ ws.toArray = (vs ++ ws).toArray := by simp
  by_cases hw : ws = []
  · exact concat_meets ⟨_, ho, rfl⟩ ⟨_, ho2, rfl⟩ noFill_tuple_add seq_tuple_add PySem.F.slot_tuple_add PySem.F.entry_tuple_add (PySem.F.args_tuple_add_2 _ _)
      (tuple_addW1 t b vs.toArray ws.toArray n n2 dd dd2 sl sl2 (by simpa using hv) (by simp [hw])) ⟨ho, ho2, h1 hw⟩
  · refine concat_meets ⟨_, ho, rfl⟩ ⟨_, ho2, rfl⟩ noFill_tuple_add seq_tuple_add PySem.F.slot_tuple_add PySem.F.entry_tuple_add (PySem.F.args_tuple_add_2 _ _)
      (tuple_addW2 t b vs.toArray ws.toArray n n2 dd dd2 sl sl2 (by simpa using hv) (by simpa using hw) (by rw [List.size_toArray, List.size_toArray]; exact hsz)) ⟨ho, ho2, ?_⟩
    rw [e]
    exact h2 hw
def sIx (n d : Nat) : Option Int -> Nat
  | none => d
  | some v => if v < 0 then (v + (n : Int)).toNat else min v.toNat n
theorem sIx_le (n d : Nat) (hd : d <= n) (o : Option Int) : sIx n d o <= n := by
  cases o with
  | none => exact hd
  | some v =>
    show (if v < 0 then (v + (n : Int)).toNat else min v.toNat n) <= n
    by_cases hv : v < 0
    · rw [if_pos hv]; omega
    · rw [if_neg hv]; exact Nat.min_le_right _ _
theorem clip_eq (v : Int) (n d : Nat) : (if v < 0 then max (v + (n : Int)) 0 else min v (n : Int)) = ((sIx n d (some v) : Nat) : Int) := by
  show (if v < 0 then max (v + (n : Int)) 0 else min v (n : Int)) = (((if v < 0 then (v + (n : Int)).toNat else min v.toNat n) : Nat) : Int)
  by_cases hv : v < 0
  · simp only [if_pos hv]; omega
  · simp only [if_neg hv]; omega
theorem adjust_gen (lo hi : Option Int) (n : Nat) : Builtin.Slice.sliceAdjust lo hi 1 (n : Int) = (((sIx n 0 lo : Nat) : Int), ((sIx n n hi : Nat) : Int)) := by
  have h1 : ¬ ((1 : Int) < 0) := by omega
  unfold Builtin.Slice.sliceAdjust
  simp only [h1, if_false]
  refine Prod.ext ?_ ?_
  · cases lo with
    | none => rfl
    | some v => exact clip_eq v n 0
  · cases hi with
    | none => rfl
    | some v => exact clip_eq v n n
theorem places_gen (i j : Nat) : Builtin.Slice.slicePlaces (i : Int) (j : Int) 1 = j - i := by
  unfold Builtin.Slice.slicePlaces
  have h1 : (1 : Int) > 0 := by omega
  simp only [h1, if_true, Int.ediv_one]
  split <;> omega
theorem slicePart_ {v : Value} {o : Option Int} {Q : Option Int -> Shared -> Prop} (p : IsPart v o) (h : Q o s) : wpAny (model prog w) A (Builtin.Slice.slicePartIndex v) Q E s := by
  cases p with
  | none => exact slicePart_none h
  | int i t => exact slicePart_int h
theorem sliceApplied_gen {sl : Addr} {vl vu : Value} {lo hi : Option Int} {n : Nat} {Q : Int × Int × Nat -> Shared -> Prop} (hs : s.heap.IsSliceOf sl vl vu .none) (pl : IsPart vl lo) (pu : IsPart vu hi)
    (h : Q (((sIx n 0 lo : Nat) : Int), 1, sIx n n hi - sIx n 0 lo) s) : wpAny (model prog w) A (Builtin.Slice.sliceApplied (.ref sl) (pure (n : Int))) Q E s := by
  obtain ⟨os, hos, hcs, hds⟩ := id hs
  unfold Builtin.Slice.sliceApplied Builtin.Slice.sliceFields
  refine wpAny_bind (wpAny_bind (wpAny_field hos hds (x := vl) rfl (wpAny_bind (wpAny_field hos hds (x := vu) rfl (wpAny_bind (wpAny_field hos hds (x := .none) rfl (wpAny_pure ?_)))))))
  refine wpAny_bind (slicePart_none ?_)
  show wpAny _ _ (if ((1 : Int) == 0) = true then _ else _) _ _ s
  rw [if_neg (by decide)]
  refine wpAny_bind (slicePart_ pl (wpAny_bind (slicePart_ pu (wpAny_bind (wpAny_pure ?_)))))
  show wpAny _ _ (match Builtin.Slice.sliceAdjust lo hi 1 (n : Int) with | (lo, hi) => pure (lo, (1 : Int), Builtin.Slice.slicePlaces lo hi 1)) _ _ s
  rw [adjust_gen lo hi n]
  show wpAny _ _ (pure (((sIx n 0 lo : Nat) : Int), (1 : Int), Builtin.Slice.slicePlaces ((sIx n 0 lo : Nat) : Int) ((sIx n n hi : Nat) : Int) 1)) _ _ s
  rw [places_gen]
  exact wpAny_pure h
theorem pick_gen (xs : Array Value) (i k : Nat) : ((List.range k).filterMap fun (m : Nat) => xs[((i : Int) + (m : Int) * 1).toNat]?).toArray = ((xs.toList.drop i).take k).toArray := by
  have e : (fun (m : Nat) => xs[((i : Int) + (m : Int) * 1).toNat]?) = fun m => xs[i + m]? := by
    funext m
    have : ((i : Int) + (m : Int) * 1).toNat = i + m := by omega
    rw [this]
  rw [e]
  have := pick_run xs i k
  rw [List.filterMap_map] at this
  have e2 : ((fun x => xs[x]?) ∘ fun x => i + x) = fun m => xs[i + m]? := rfl
  rw [e2] at this
  rw [this]
theorem getItem_tuple_cut {t sl : Addr} {items : Array Value} {vl vu : Value} {lo hi : Option Int} {Q : Value -> Shared -> Prop} (ht : IsTup s.heap t items) (hs : s.heap.IsSliceOf sl vl vu .none) (pl : IsPart vl lo) (pu : IsPart vu hi)
    (hw : ¬ (sIx items.size 0 lo = 0 /\ sIx items.size items.size hi = items.size))
    (h : Q (.ref s.heap.objs.size) { s with heap := s.heap.push { cls := .type "tuple", data := .seq ((items.toList.drop (sIx items.size 0 lo)).take (sIx items.size items.size hi - sIx items.size 0 lo)).toArray } })
    (hsz : items.size <= sizeLine) : wpAny (model prog w) A (getItem (.ref t) (.ref sl)) Q E s := by
  have htake : sizeOk (.seq ((items.toList.drop (sIx items.size 0 lo)).take (sIx items.size items.size hi - sIx items.size 0 lo)).toArray) := by
    show ((items.toList.drop (sIx items.size 0 lo)).take (sIx items.size items.size hi - sIx items.size 0 lo)).toArray.size <= sizeLine
    rw [List.size_toArray, List.length_take, List.length_drop, Array.length_toList]
    omega
  have hj : sIx items.size items.size hi <= items.size := sIx_le _ _ (Nat.le_refl _) hi
  obtain ⟨os, hos, hcs, hds⟩ := id hs
  have hTs : s.TypeIs (.ref sl) "slice" := ⟨os, hos, hcs⟩
  unfold getItem
  try with_reducible refine wpAny_holding ?_
  first | refine wpAny_bind (wpAny_pure ?_) | skip
  refine wpAny_bind (wpAny_sequenceKey ht.typeIs (by decide) ?_)
  refine wpAny_bind (wpAny_callSpecial?_slot (name := Str.ofString "__getitem__") ht.typeIs PyProof.Rows.slot_tuple_getitem
    (wpAny_call_entry PyProof.Rows.slot_tuple_getitem ht.typeIs entry_tuple_getitem ?_ (args_tuple_getitem _ _)))
  show wpAny _ _ (Builtin.Tuple.tupleItemsOf (.ref t) >>= _) _ _ s
  refine wpAny_bind (tupleItemsOf_ ht ?_)
  refine wpAny_bind (wpAny_typeOf hTs ?_)
  rw [if_pos (by decide)]
  refine wpAny_bind (sliceApplied_gen hs pl pu ?_)
  have hno : ¬ ((((sIx items.size 0 lo : Nat) : Int) == 0 && (1 : Int) == 1 && (sIx items.size items.size hi - sIx items.size 0 lo) == items.size) = true) := by
    intro q
    rw [Bool.and_eq_true, Bool.and_eq_true] at q
    have q1 : ((sIx items.size 0 lo : Nat) : Int) = 0 := eq_of_beq q.1.1
    have q2 : sIx items.size items.size hi - sIx items.size 0 lo = items.size := eq_of_beq q.2
    exact hw ⟨by omega, by omega⟩
  show wpAny _ _ (if (((sIx items.size 0 lo : Nat) : Int) == 0 && (1 : Int) == 1 && (sIx items.size items.size hi - sIx items.size 0 lo) == items.size) = true then _ else _) _ _ s
  rw [if_neg hno, pick_gen]
  first
    | exact wpAny_bind (m := Builtin.Tuple.tupleExact _) (wpAny_newObj_type (wpAny_pure ⟨_, rfl, wpAny_pure h⟩) htake)
    | exact wpAny_bind (m := Builtin.Tuple.tupleExact _) (wpAny_newObj_type (wpAny_bind (wpAny_pure (wpAny_pure ⟨_, rfl, wpAny_pure h⟩))) htake)
    | exact wpAny_bind (wpAny_bind (m := Builtin.Tuple.tupleExact _) (wpAny_newObj_type (wpAny_pure (wpAny_pure ⟨_, rfl, wpAny_pure h⟩)) htake))
    | exact wpAny_bind (wpAny_bind (m := Builtin.Tuple.tupleExact _) (wpAny_newObj_type (wpAny_pure ⟨_, rfl, wpAny_pure h⟩) htake))
end
end HT
namespace L2
open PySem PySem.Spec PyProof.Rows
abbrev TO := St -> Hp -> (Option Int -> Hp -> Prop) -> Prop
def PO (X : Cx) (e : Option Expr) (t : TO) : Prop :=
  ∀ (pins : List (Addr × Obj)) (s : Shared) (σ : St) (H : Hp) (Q : Option Int -> Hp -> Prop), Inv X pins σ H s -> t σ H Q ->
    wpAny (model X.prog X.w) X.A (evalPart e X.env) (fun u s' => ∃ o H', Inv X pins σ H' s' /\ IsPart u o /\ Q o H') X.xe s
def tNoPart : TO := fun _ H Q => Q none H
def tPart (t : TE) : TO := fun σ H Q => t σ H fun x H1 => ∃ i, x = .int i /\ Q (some i) H1
theorem intsAre_of {ns : List Int} : ∀ {us : List Value}, Vals (ns.map V.int) us -> IntsAre us ns := by
  induction ns with
  | nil => intro us r; rw [List.map_nil] at r; cases r; exact .nil
  | cons n ns ih =>
    intro us r
    rw [List.map_cons] at r
    cases r with
    | cons r1 r2 =>
      obtain ⟨t, e⟩ := r1
      subst e
      exact .cons n t (ih r2)
section
variable {X : Cx} {e : Expr} {te : TE} {lo hi : Option Expr} {tl th : TO} {pos p2 : Pos}
theorem po_none : PO X none tNoPart := by
  intro pins s σ H Q I h
  rw [evalPart_none]
  exact wpAny_pure ⟨none, H, I, .none, h⟩
theorem po_some (h : PE X e te) : PO X (some e) (tPart te) := by
  intro pins s σ H Q I hw
  rw [evalPart_some]
  refine thn (h pins s σ H _ I hw) fun u s1 ⟨x, H1, I1, r1, q1⟩ => ?_
  obtain ⟨i, rfl, q⟩ := q1
  obtain ⟨t, rfl⟩ := r1
  exact ⟨some i, H1, I1, .int i t, q⟩
def SlR (X : Cx) (r : V -> Option Int -> Option Int -> Hp -> VK -> Prop) : Prop :=
  ∀ (pins : List (Addr × Obj)) (s : Shared) (σ : St) (H : Hp) (x : V) (v vl vu : Value) (lo hi : Option Int) (sl : Addr) (Q : VK), Inv X pins σ H s -> RelV x v -> s.heap.IsSliceOf sl vl vu .none -> IsPart vl lo -> IsPart vu hi -> r x lo hi H Q ->
    ∃ T id, typeLookup (.type T) "__getitem__" = pure (some (.builtin id)) /\ s.TypeIs v T /\ wpAny (model X.prog X.w) X.A (getItem v (.ref sl)) (EP X pins σ Q) X.xe s
theorem SlR.or {r r' : V -> Option Int -> Option Int -> Hp -> VK -> Prop} (h : SlR X r) (h' : SlR X r') : SlR X (fun x lo hi H Q => r x lo hi H Q ∨ r' x lo hi H Q) := by
  intro pins s σ H x v vl vu lo hi sl Q I rx hs pl pu q
  rcases q with q | q
  · exact h pins s σ H x v vl vu lo hi sl Q I rx hs pl pu q
  · exact h' pins s σ H x v vl vu lo hi sl Q I rx hs pl pu q
def tSl (r : V -> Option Int -> Option Int -> Hp -> VK -> Prop) (te : TE) (tl th : TO) : TE := fun σ H Q => te σ H fun x H1 => tl σ H1 fun l H2 => th σ H2 fun u H3 => r x l u H3 Q
theorem pe_slice {r : V -> Option Int -> Option Int -> Hp -> VK -> Prop} (hr : SlR X r) (he : PE X e te) (hl : PO X lo tl) (hu : PO X hi th) : PE X (.Subscript e (.Slice lo hi none p2) pos) (tSl r te tl th) := by
  intro pins s σ H Q I h
  refine Subscript_ (thn (he pins s σ H _ I h) fun v s1 ⟨x, H1, I1, r1, q1⟩ => ?_)
  refine wpAny_Slice (thn (hl pins s1 σ H1 _ I1 q1) fun vl s2 ⟨l, H2, I2, pl, q2⟩ => thn (hu pins s2 σ H2 _ I2 q2) fun vu s3 ⟨u, H3, I3, pu, q3⟩ => ?_)
  rw [evalPart_none]
  refine wpAny_pure ?_
  have I4 : Inv X pins σ H3 { s3 with heap := s3.heap.push { cls := .type "slice", data := .fields #[vl, vu, .none] } } := I3.kept (t' := s3.toks) fun b ob q => Heap.get?_push_of_some _ q
  obtain ⟨T, id, hT, ht, hg⟩ := hr pins { s3 with heap := s3.heap.push { cls := .type "slice", data := .fields #[vl, vu, .none] } } σ H3 x v vl vu l u s3.heap.objs.size Q I4 r1 (Heap.IsSliceOf.new ..) pl pu q3
  show wpAny (model X.prog X.w) X.A (subscriptTail e (.Slice lo hi none p2) v (.ref s3.heap.objs.size)) (EP X pins σ Q) X.xe { s3 with heap := s3.heap.push { cls := .type "slice", data := .fields #[vl, vu, .none] } }
  exact tail_any (ops := [.ref s3.heap.objs.size, v]) ht hT hg (by with_unfolding_all rfl)
def cutV (xs : List V) (lo hi : Option Int) : List V := (xs.drop (HT.sIx xs.length 0 lo)).take (HT.sIx xs.length xs.length hi - HT.sIx xs.length 0 lo)
theorem cutV_length (xs : List V) (lo hi : Option Int) : (cutV xs lo hi).length <= xs.length := by
  unfold cutV
  rw [List.length_take, List.length_drop]
  omega
def rSlT (K : PySem.W.Frag) : V -> Option Int -> Option Int -> Hp -> VK -> Prop := fun x lo hi H Q => ∃ a xs, x = .ref a /\ SqT K H a xs /\
  ¬ (HT.sIx xs.length 0 lo = 0 /\ HT.sIx xs.length xs.length hi = xs.length) /\ ∀ p, H p = none -> Q (.ref p) (upd H p (.tup (cutV xs lo hi)))
theorem sl_tup : SlR X (rSlT X.K) := by
  intro pins s σ H x v vl vu lo hi sl Q I rx hs pl pu h
  obtain ⟨a, xs, rfl, hx, hw, q⟩ := h
  cases rx
  obtain ⟨its, r, ht, hz⟩ := I.tuple hx
  have hlen : its.toArray.size = xs.length := by rw [List.size_toArray]; exact r.length.symm
  refine ⟨"tuple", _, PyProof.Rows.slot_tuple_getitem.lookup, ht.typeIs, ?_⟩
  refine HT.getItem_tuple_cut ht hs pl pu (by rw [hlen]; exact hw) ?_ (by rw [hlen]; exact hz)
  rw [hlen]
  refine ⟨.ref s.heap.objs.size, _, I.laid (t' := s.toks) (o := .tup (cutV xs lo hi)) (fun b ob q => Heap.get?_push_of_some _ q) (Nat.le_refl _) ?_, rfl, q _ (I.hok.fresh (Nat.le_refl _))⟩
  exact ⟨Nat.le_trans (cutV_length xs lo hi) hz, _, (r.drop (HT.sIx xs.length 0 lo)).take (HT.sIx xs.length xs.length hi - HT.sIx xs.length 0 lo), IsTupD.new _ _⟩
def rCatT (K : PySem.W.Frag) : R2 := fun x y H Q => ∃ a b xs ys, x = .ref a /\ y = .ref b /\ SqT K H a xs /\ SqT K H b ys /\ xs ≠ [] /\ xs.length + ys.length <= sizeLine /\
  (ys = [] -> Q (.ref a) H) /\ (ys ≠ [] -> ∀ p, H p = none -> Q (.ref p) (upd H p (.tup (xs ++ ys))))
theorem Vals.nil_iff {xs : List V} {us : List Value} (r : Vals xs us) : us = [] ↔ xs = [] := by
  cases r with
  | nil => simp
  | cons _ _ => simp
theorem op_catT : OpR X (binaryOp .Add) (rCatT X.K) := by
  intro pins s σ H x y v u Q I rx ry h
  obtain ⟨a, b, xs, ys, rfl, rfl, ha, hb, hx, hz, q1, q2⟩ := h
  cases rx
  cases ry
  obtain ⟨its, r1, p1, _⟩ := I.tuple ha
  obtain ⟨its2, r2, p2, _⟩ := I.tuple hb
  refine HT.cat_tup p1 p2 (fun z => hx (r1.nil_iff.mp z)) (fun z => ⟨.ref a, H, I, rfl, q1 (r2.nil_iff.mp z)⟩) (fun z => ?_) (by rw [← r1.length, ← r2.length]; exact hz)
  refine ⟨.ref s.heap.objs.size, _, I.laid (t' := s.toks) (o := .tup (xs ++ ys)) (fun b ob q => Heap.get?_push_of_some _ q) (Nat.le_refl _) ?_, rfl, q2 (fun w => z (r2.nil_iff.mpr w)) _ (I.hok.fresh (Nat.le_refl _))⟩
  exact ⟨by rw [List.length_append]; exact hz, _, r1.append r2, IsTupD.new _ _⟩
end
end L2
namespace L2
open PySem PySem.Spec PyProof.Rows
def ixN (n : Nat) (i : Int) : Option Nat := if 0 <= i then (if i < n then some i.toNat else none) else if -(n : Int) <= i then some (i + n).toNat else none
def atI {α : Type} (xs : List α) (i : Int) : Option α := (ixN xs.length i).bind fun j => xs[j]?
theorem ixN_seq {n : Nat} {i : Int} {j : Nat} (h : ixN n i = some j) : seqIndex? i n = some j /\ j < n /\ -(n : Int) <= i /\ i < n := by
  unfold ixN at h
  by_cases h0 : 0 <= i
  · rw [if_pos h0] at h
    by_cases h1 : i < n
    · rw [if_pos h1] at h
      have e : i.toNat = j := Option.some.inj h
      exact ⟨by rw [seqIndex_of h0 h1, e], by omega, by omega, h1⟩
    · rw [if_neg h1] at h; cases h
  · rw [if_neg h0] at h
    by_cases h1 : -(n : Int) <= i
    · rw [if_pos h1] at h
      have e : (i + n).toNat = j := Option.some.inj h
      exact ⟨by rw [seqIndex_neg (by omega) h1, e], by omega, h1, by omega⟩
    · rw [if_neg h1] at h; cases h
theorem atI_get {α : Type} {xs : List α} {i : Int} {v : α} (h : atI xs i = some v) : ∃ j, seqIndex? i xs.length = some j /\ xs[j]? = some v /\ j < xs.length /\ -(xs.length : Int) <= i /\ i < xs.length := by
  unfold atI at h
  cases e : ixN xs.length i with
  | none => rw [e] at h; cases h
  | some j =>
    rw [e] at h
    obtain ⟨h1, h2, h3, h4⟩ := ixN_seq e
    exact ⟨j, h1, h, h2, h3, h4⟩
theorem atI_nat {α : Type} {xs : List α} {j : Nat} {v : α} (h : xs[j]? = some v) : atI xs (j : Int) = some v := by
  have hj : j < xs.length := (List.getElem?_eq_some_iff.mp h).1
  have e : ixN xs.length (j : Int) = some j := by
    unfold ixN
    rw [if_pos (by omega), if_pos (by omega)]; simp
  unfold atI; rw [e]; exact h
theorem atI_last {α : Type} (xs : List α) (v : α) : atI (xs ++ [v]) (-1) = some v := by
  have hl : (xs ++ [v]).length = xs.length + 1 := by simp
  have e : ixN (xs ++ [v]).length (-1) = some xs.length := by
    unfold ixN
    rw [hl, if_neg (by decide), if_pos (by omega)]
    congr 1
    omega
  unfold atI
  rw [e]
  show (xs ++ [v])[xs.length]? = some v
  simp
def PlainIx (b : Expr) : Prop := ∀ o i, subscripted b false o i = operate [o, i] (getItem o i)
def IxR (X : Cx) (r : R2) : Prop :=
  ∀ (value slice : Expr) (pins : List (Addr × Obj)) (s : Shared) (σ : St) (H : Hp) (x y : V) (v u : Value) (Q : VK), Inv X pins σ H s -> RelV x v -> RelV y u -> r x y H Q ->
    subscripted slice false v u = operate [v, u] (getItem v u) -> wpAny (model X.prog X.w) X.A (subscriptTail value slice v u) (EP X pins σ Q) X.xe s
def MtR (X : Cx) (id : String) (r : V -> List V -> Hp -> VK -> Prop) : Prop :=
  ∀ (pins : List (Addr × Obj)) (s : Shared) (σ : St) (H : Hp) (x : V) (xs : List V) (v : Value) (us : List Value) (Q : VK), Inv X pins σ H s -> RelV x v -> Vals xs us -> r x xs H Q ->
    wpAny (model X.prog X.w) X.A (call (.builtin id) (v :: us)) (EP X pins σ Q) X.xe s
section
variable {X : Cx} {a b : Expr} {ta tb : TE} {pos : Pos}
theorem pe_ix {r : R2} (hr : IxR X r) (ha : PE X a ta) (hb : PE X b tb) (hs : PlainIx b) : PE X (.Subscript a b pos) (tOp r ta tb) := by
  intro pins s σ H Q I h
  exact Subscript_ (binT ha hb I h fun v u s2 x y H2 I2 rx ry q => hr a b pins s2 σ H2 x y v u Q I2 rx ry q (hs _ _))
def rIxL (K : PySem.W.Frag) : R2 := fun x y H Q => ∃ p xs i v, x = .ref p /\ y = .int i /\ SqL K H p xs /\ atI xs i = some v /\ Q v H
def rIxT (K : PySem.W.Frag) : R2 := fun x y H Q => ∃ p xs i v, x = .ref p /\ y = .int i /\ SqT K H p xs /\ atI xs i = some v /\ Q v H
theorem ix_list : IxR X (rIxL X.K) := by
  intro value slice pins s σ H x y v u Q I rx ry h hs
  obtain ⟨p, xs, i, z, rfl, rfl, hq, he, q⟩ := h
  cases rx
  obtain ⟨t, rfl⟩ := ry
  obtain ⟨its, r, pl, hz⟩ := I.list hq
  obtain ⟨j, h1, h2, h3, h4, h5⟩ := atI_get he
  obtain ⟨w, ew, rw'⟩ := r.get h2
  have hl := r.length
  have hn := line63
  have fin : EP X pins σ Q w s := ⟨z, H, I, rw', q⟩
  by_cases h0 : 0 <= i
  · have hj : i.toNat = j := by
      rw [seqIndex_of h0 h5] at h1
      exact Option.some.inj h1
    exact item_listR pl.isList h0 (by omega) (by rw [hj]; simpa using ew) fin hs
  · have hj : (i + (its.toArray.size : Int)).toNat = j := by
      rw [seqIndex_neg (by omega) h4] at h1
      rw [List.size_toArray, ← hl]
      exact Option.some.inj h1
    exact subscriptTail_builtinR (x := w) pl.isList.typeIs slot_list_getitem.lookup
      (wpAny_getItem_list_neg (Q := fun r s' => r = w /\ EP X pins σ Q r s') pl.isList (by omega) (by rw [List.size_toArray] <;> omega) (by omega) (by rw [hj]; simpa using ew) ⟨rfl, fin⟩) hs
theorem ix_tup : IxR X (rIxT X.K) := by
  intro value slice pins s σ H x y v u Q I rx ry h hs
  obtain ⟨p, xs, i, z, rfl, rfl, hq, he, q⟩ := h
  cases rx
  obtain ⟨t, rfl⟩ := ry
  obtain ⟨its, r, pl, hz⟩ := I.tuple hq
  obtain ⟨j, h1, h2, h3, h4, h5⟩ := atI_get he
  obtain ⟨w, ew, rw'⟩ := r.get h2
  have hl := r.length
  have hn := line63
  have fin : EP X pins σ Q w s := ⟨z, H, I, rw', q⟩
  exact subscriptTail_builtinR (x := w) pl.typeIs slot_tuple_getitem.lookup
    (getItem_tuple (j := j) (Q := fun r s' => r = w /\ EP X pins σ Q r s') pl (by omega) (by omega) (by rw [List.size_toArray, ← hl]; exact h1) (by simpa using ew) ⟨rfl, fin⟩) hs
theorem mapSeq_set (its : List Value) (n j : Nat) (u : Value) : Obj.mapSeq (·.setIfInBounds j u) { cls := .type "list", data := .seq its.toArray n } = { cls := .type "list", data := .seq (its.set j u).toArray n } := by
  simp [Obj.mapSeq]
theorem Inv.lst {pins : List (Addr × Obj)} {σ : St} {H : Hp} {s : Shared} {p : Addr} {xs : List V} (I : Inv X pins σ H s) (h : H p = some (.lst xs)) :
    ∃ (its : List Value) (n : Nat), Vals xs its /\ s.heap.get? p = some { cls := .type "list", data := .seq its.toArray n } /\ xs.length <= sizeLine := by
  obtain ⟨z, its, n, r, e⟩ := I.hok p _ h
  exact ⟨its, n, r, e, z⟩
theorem Inv.lstUpd {pins : List (Addr × Obj)} {σ : St} {H : Hp} {s : Shared} {p : Addr} {xs ys : List V} {its its' : List Value} {n n' : Nat} {f : Obj -> Obj} (I : Inv X pins σ H s) (h : H p = some (.lst xs))
    (ho : s.heap.get? p = some { cls := .type "list", data := .seq its.toArray n }) (hf : f { cls := .type "list", data := .seq its.toArray n } = { cls := .type "list", data := .seq its'.toArray n' }) (r : Vals ys its') (hz : ys.length <= sizeLine) (t : Nat) :
    Inv X pins σ (upd H p (.lst ys)) { s with heap := s.heap.update p f, toks := t } := by
  have e : (s.heap.update p f).get? p = some { cls := .type "list", data := .seq its'.toArray n' } := by
    rw [Heap.get?_update_self f ho (by rw [hf] <;> rfl), hf]
  refine I.write (x := p) (e := p) (by rw [h]; trivial) (.inl rfl) (fun b u hb q => (Heap.get?_update_other _ _ (Ne.symm hb)).trans q) ⟨_, e⟩ ?_
  exact ⟨hz, its', n', r, e⟩
def rSetL : V -> V -> V -> Hp -> (Hp -> Prop) -> Prop := fun o i v H Q => ∃ p xs k j, o = .ref p /\ i = .int k /\ H p = some (.lst xs) /\ ixN xs.length k = some j /\ Q (upd H p (.lst (xs.set j v)))
theorem set_list : PSet X rSetL := by
  intro pins s σ H o i v ov iv u Q I ro ri rv h
  obtain ⟨p, xs, k, j, rfl, rfl, hp, hj, q⟩ := h
  cases ro
  obtain ⟨t, rfl⟩ := ri
  obtain ⟨its, n, r, ho, hz⟩ := I.lst hp
  obtain ⟨h1, h2, h3, h4⟩ := ixN_seq hj
  have hl := r.length
  have hn := line63
  have I' : Inv X pins σ (upd H p (.lst (xs.set j v))) { s with heap := s.heap.update p (Obj.mapSeq (·.setIfInBounds j u)) } :=
    I.lstUpd hp ho (mapSeq_set its n j u) (r.set rv j) (by rw [List.length_set]; exact hz) s.toks
  by_cases h0 : 0 <= k
  · have hk : k.toNat = j := by
      rw [seqIndex_of h0 h4] at h1
      exact Option.some.inj h1
    exact PySem.W.ki_setAt ho h0 (by omega) (by rw [List.size_toArray, ← hl]; exact h4) (by rw [hk]; exact ⟨_, I', q⟩)
  · have hk : (k + (its.toArray.size : Int)).toNat = j := by
      rw [seqIndex_neg (by omega) h3] at h1
      rw [List.size_toArray, ← hl]
      exact Option.some.inj h1
    exact PySem.W.ki_setBack ho (by omega) (by rw [List.size_toArray, ← hl]; exact h3) (by omega) (by rw [hk]; exact ⟨_, I', q⟩)
theorem call_len_seq : CallR X (.builtin "len") (fun xs H Q => ∃ p ys, xs = [.ref p] /\ (SqL X.K H p ys ∨ SqT X.K H p ys) /\ Q (.int ys.length) H) := by
  intro pins s σ H xs us Q I r h
  obtain ⟨p, ys, rfl, hq, q⟩ := h
  obtain ⟨u, rfl, rx⟩ := vals1 r
  cases rx
  have hn := line63
  rcases hq with hq | hq
  · obtain ⟨its, r', pl, hz⟩ := I.list hq
    have hlen := r'.length
    exact Calls.call_len_list pl.isList (by simp only [List.size_toArray] <;> omega) ⟨.int ys.length, H, I.tok _, ⟨s.toks + 1, by rw [List.size_toArray, hlen]⟩, q⟩
  · obtain ⟨its, r', pl, hz⟩ := I.tuple hq
    have hlen := r'.length
    exact len_tuple pl (by simp only [List.size_toArray] <;> omega) ⟨.int ys.length, H, I.tok _, ⟨s.toks + 1, by rw [List.size_toArray, hlen]⟩, q⟩
theorem call_list_of : CallR X (.type "list") (fun xs H Q => ∃ p ys, xs = [.ref p] /\ (SqL X.K H p ys ∨ SqT X.K H p ys) /\ ∀ l, H l = none -> Q (.ref l) (upd H l (.lst ys))) := by
  intro pins s σ H xs us Q I r h
  obtain ⟨p, ys, rfl, hq, q⟩ := h
  obtain ⟨u, rfl, rx⟩ := vals1 r
  cases rx
  have fin : ∀ (its : List Value), Vals ys its -> ys.length <= sizeLine -> ∀ (h' : Heap) (c' : Nat), (∀ b o', s.heap.get? b = some o' -> h'.get? b = some o') ->
      h'.get? s.heap.objs.size = some { cls := .type "list", dict := none, data := .seq its.toArray c', slots := #[] } -> EP X pins σ Q (.ref s.heap.objs.size) { s with heap := h' } := fun its r' hz h' c' kp e =>
    ⟨.ref s.heap.objs.size, _, I.laid (t' := s.toks) kp (Nat.le_refl _) (show ObjOk X.prog X.w _ h' _ (.lst ys) from ⟨hz, its, c', r', e⟩), rfl, q _ (I.hok.fresh (Nat.le_refl _))⟩
  rcases hq with hq | hq
  · obtain ⟨its, r', pl, hz⟩ := I.list hq
    have hlen := r'.length
    obtain ⟨o, ho, hc, n, hd⟩ := pl.isList
    exact call_list_seq p (.inl rfl) ho hc hd (fun h' c' kp e => fin its r' hz h' c' kp e) (by simp only [List.size_toArray] <;> omega)
  · obtain ⟨its, r', pl, hz⟩ := I.tuple hq
    have hlen := r'.length
    obtain ⟨o, ho, hc, n, hd⟩ := pl
    exact call_list_seq p (.inr rfl) ho hc hd (fun h' c' kp e => fin its r' hz h' c' kp e) (by simp only [List.size_toArray] <;> omega)
theorem call_tuple_of : CallR X (.type "tuple") (fun xs H Q => ∃ p ys, xs = [.ref p] /\ ((SqL X.K H p ys /\ ∀ l, H l = none -> Q (.ref l) (upd H l (.tup ys))) ∨ (SqT X.K H p ys /\ Q (.ref p) H))) := by
  intro pins s σ H xs us Q I r h
  obtain ⟨p, ys, rfl, h⟩ := h
  obtain ⟨u, rfl, rx⟩ := vals1 r
  cases rx
  rcases h with ⟨hq, q⟩ | ⟨hq, q⟩
  · obtain ⟨its, r', pl, hz⟩ := I.list hq
    have hlen := r'.length
    refine call_tuple_list pl.isList (fun h' kp => ?_) (by simp only [List.size_toArray] <;> omega)
    have I1 : Inv X pins σ H { s with heap := h' } := I.kept (t' := s.toks) kp
    have I2 : Inv X pins σ (upd H h'.objs.size (.tup ys)) { s with heap := h'.push { cls := .type "tuple", data := .seq its.toArray } } :=
      I1.laid (t' := s.toks) (fun b o e => Heap.get?_push_of_some _ e) (Nat.le_refl _) (show ObjOk X.prog X.w _ _ _ (.tup ys) from ⟨hz, its, r', IsTupD.new _ _⟩)
    exact ⟨.ref h'.objs.size, _, I2, rfl, q _ (I1.hok.fresh (Nat.le_refl _))⟩
  · obtain ⟨its, r', pl, hz⟩ := I.tuple hq
    exact call_tuple_same pl ⟨.ref p, H, I, rfl, q⟩
def tyV (K : PySem.W.Frag) (T : String) (x : V) (H : Hp) : Prop := match x with
  | .str _ => T = "str"
  | .int _ => T = "int"
  | .ref p => (T = "list" /\ ∃ xs, SqL K H p xs) ∨ (T = "tuple" /\ ∃ o, K.lookup p = some o /\ o.cls = .type "tuple" /\ o.dict = none) ∨
      (T = "dict" /\ ((∃ kvs, H p = some (.dK kvs)) ∨ ∃ kvs, H p = some (.dT kvs))) ∨ (T = "set" /\ ∃ S n, H p = some (.set S n))
  | _ => False
theorem tyV_is {pins : List (Addr × Obj)} {σ : St} {H : Hp} {s : Shared} {T : String} {x : V} {v : Value} (I : Inv X pins σ H s) (r : RelV x v) (ty : tyV X.K T x H) :
    s.TypeIs v T /\ ∀ a, v = .ref a -> ∃ ob, s.heap.get? a = some ob /\ ob.dict = none := by
  cases x with
  | str z =>
    obtain ⟨t, rfl⟩ := r
    cases (show T = "str" from ty)
    exact ⟨typeIs_str s z t, fun _ e => nomatch e⟩
  | int i =>
    obtain ⟨t, rfl⟩ := r
    cases (show T = "int" from ty)
    exact ⟨typeIs_int s i t, fun _ e => nomatch e⟩
  | ref p =>
    cases r
    rcases ty with ⟨rfl, xs, hq⟩ | ⟨rfl, o, hk, hc, hd⟩ | ⟨rfl, hk⟩ | ⟨rfl, S, n, hk⟩
    · obtain ⟨its, _, pl, _⟩ := I.list hq
      refine ⟨pl.isList.typeIs, fun a e => ?_⟩
      cases e
      obtain ⟨o, n, e, c, hd, _⟩ := pl
      exact ⟨o, e, hd⟩
    · refine ⟨⟨o, I.kIn p o hk, hc⟩, fun a e => ?_⟩
      cases e
      exact ⟨o, I.kIn _ o hk, hd⟩
    · have z : ∃ o, s.heap.get? p = some o /\ o.ExactDict := by
        rcases hk with ⟨kvs, hk⟩ | ⟨kvs, hk⟩
        · obtain ⟨_, _, _, _, o, _, _, e, ex, _⟩ := I.hok p _ hk
          exact ⟨o, e, ex⟩
        · obtain ⟨_, _, _, _, o, _, _, e, ex, _⟩ := I.hok p _ hk
          exact ⟨o, e, ex⟩
      obtain ⟨o, e, ex⟩ := z
      refine ⟨⟨o, e, ex.1⟩, fun a e2 => ?_⟩
      cases e2
      exact ⟨o, e, ex.2.1⟩
    · obtain ⟨o, _, _, _, e, ex, _⟩ := I.hok p _ hk
      refine ⟨⟨o, e, ex.1⟩, fun a e2 => ?_⟩
      cases e2
      exact ⟨o, e, ex.2.1⟩
  | _ => exact False.elim ty
def tBM (K : PySem.W.Frag) (T : String) (r : V -> List V -> Hp -> VK -> Prop) (to : TE) (t : TA) : TE := fun σ H Q => to σ H fun x H1 => tyV K T x H1 /\ t σ H1 fun xs H2 => r x xs H2 Q
variable {o e : Expr} {es : List Expr} {to : TE} {t : TA} {name : Str} {apos cpos : Pos} {T id : String} {r : V -> List V -> Hp -> VK -> Prop}
theorem pe_bm (pa : PlainAttrs T) (slot : Slot T name id) (hty : typeOf (.builtin id) = pure (.type "method_descriptor")) (hm : MtR X id r) (ho : PE X o to) (ha : PA X (e :: es) t)
    (hbase : attributeBase o name X.env (eval o X.env) = eval o X.env := by rfl)
    (hfew : ((backTo cpos (starEach (e :: es) X.env)).all (fun x => !x.1) && (backToKw cpos (keywordEach [] X.env)).all (fun x => x.1.isSome)
      && decide ((e :: es).length + ([] : List Keyword).length + (if ([] : List Keyword).isEmpty then 0 else 1) < 30)) = true := by rfl)
    (hline : (apos.endLine == cpos.line) = true := by rfl) (hs : starEach (e :: es) X.env = (false, eval e X.env) :: starEach es X.env := by rfl) (hplain : (backTo cpos (starEach es X.env)).any (·.1) = false := by rfl) :
    PE X (.Call (.Attribute o name apos) (e :: es) [] cpos) (tBM X.K T r to t) := by
  intro pins s σ H Q I h
  refine wpAny_Call_method_late hbase hfew hline rfl (thn (ho pins s σ H _ I h) fun v s1 ⟨x, H1, I1, r1, ty, q1⟩ => ?_)
  obtain ⟨h1, h2⟩ := tyV_is I1 r1 ty
  refine ⟨T, id, pa, slot, hty, h1, h2, ?_⟩
  have hA := ha cpos pins s1 σ H1 _ I1 q1
  rw [hs] at hA ⊢
  refine Calls.callWith_builtin (by show (false || (backTo cpos (starEach es X.env)).any (·.1)) = false; rw [hplain] <;> rfl) (Calls.evalArgs_plain ?_)
  exact thn hA fun us s2 ⟨vs, H2, I2, r2, q2⟩ => hm pins s2 σ H2 x vs v us Q I2 r1 r2 q2
/- xs.append(e), list.index on a module's tuple .. are MtR facts of 06m -/
end
end L2
namespace L2
open PySem PySem.Spec PyProof.Rows
def MtM (X : Cx) (id : String) (r : V -> List V -> Hp -> VK -> Prop) : Prop :=
  ∀ (pins : List (Addr × Obj)) (s : Shared) (σ : St) (H : Hp) (x : V) (xs : List V) (v : Value) (us : List Value) (Q : VK), Inv X pins σ H s -> RelV x v -> Vals xs us -> r x xs H Q ->
    wpAny (model X.prog X.w) X.A (call (.builtin id) (v :: us)) (EP X pins σ Q) X.xe s
theorem Vals.one : ∀ {x : V} {us : List Value}, Vals [x] us -> ∃ u, us = [u] /\ RelV x u
  | _, _, .cons r .nil => ⟨_, rfl, r⟩
theorem Vals.rep {xs : List V} {us : List Value} (h : Vals xs us) : ∀ k : Nat, Vals (List.replicate k xs).flatten (List.replicate k us).flatten
  | 0 => .nil
  | k + 1 => by
    rw [List.replicate_succ, List.replicate_succ, List.flatten_cons, List.flatten_cons]
    exact Vals.append h (Vals.rep h k)
theorem foldl_rep (its : List Value) : ∀ (k : Nat) (acc : List Value),
    List.foldl (fun x1 x2 => x1 ++ x2) acc.toArray (List.replicate k its.toArray) = (acc ++ (List.replicate k its).flatten).toArray
  | 0, acc => by simp
  | k + 1, acc => by
    have e : acc.toArray ++ its.toArray = (acc ++ its).toArray := by simp
    have e2 : (acc ++ its) ++ (List.replicate k its).flatten = acc ++ (List.replicate (k + 1) its).flatten := by
      rw [List.replicate_succ, List.flatten_cons, List.append_assoc]
    rw [← e2, ← foldl_rep its k (acc ++ its), ← e, List.replicate_succ, List.foldl_cons]
section
variable {X : Cx} {pins : List (Addr × Obj)} {σ : St} {H : Hp} {s : Shared} {l b : Addr} {xs ys zs : List V}
theorem Inv.lset {its its' : List Value} {n : Nat} {f : Array Value -> Array Value} {t' : Nat} (I : Inv X pins σ H s) (hH : H l = some (.lst xs))
    (e : s.heap.get? l = some { cls := .type "list", data := .seq its.toArray n }) (hf : f its.toArray = its'.toArray) (hv : Vals ys its') (hz : ys.length <= sizeLine) :
    Inv X pins σ (upd H l (.lst ys)) { s with heap := s.heap.update l (Obj.mapSeq f), toks := t' } := by
  have q := PySem.IsL.update e f
  rw [hf] at q
  refine I.write (x := l) (e := l) (by rw [hH]; exact trivial) (.inl rfl) (fun b' u hb hu => (Heap.get?_update_other s.heap (Obj.mapSeq f) (Ne.symm hb)).trans hu) ⟨_, q⟩ ?_
  exact ⟨hz, its', _, hv, q⟩
theorem Inv.lnew {its : List Value} {t' : Nat} (I : Inv X pins σ H s) (hv : Vals ys its) (hz : ys.length <= sizeLine) :
    Inv X pins σ (upd H s.heap.objs.size (.lst ys)) { s with heap := s.heap.push { cls := .type "list", data := .seq its.toArray }, toks := t' } :=
  I.laid (fun _ _ q => Heap.get?_push_of_some _ q) (Nat.le_refl _) ⟨hz, its, 0, hv, Heap.get?_push_size _ rfl⟩
theorem Inv.fresh (I : Inv X pins σ H s) : H s.heap.objs.size = none := I.hok.fresh (Nat.le_refl _)
theorem Inv.lstM (I : Inv X pins σ H s) (hH : H l = some (.lst xs)) : xs.length <= sizeLine /\ ∃ (its : List Value) (n : Nat), Vals xs its /\ xs.length = its.length /\ s.heap.get? l = some { cls := .type "list", data := .seq its.toArray n } := by
  obtain ⟨z, its, n, r, e⟩ := I.hok l _ hH
  exact ⟨z, its, n, r, r.length, e⟩
theorem notLongL {n : Nat} (h : n <= sizeLine) : Builtin.List.listTooLong n = false := by
  unfold Builtin.List.listTooLong
  exact decide_eq_false (by omega)
end
section
variable {X : Cx}
def rAppend : V -> List V -> Hp -> VK -> Prop := fun x vs H Q => ∃ l xs y, x = .ref l /\ vs = [y] /\ H l = some (.lst xs) /\ xs.length < sizeLine /\ Q .non (upd H l (.lst (xs ++ [y])))
theorem mt_append : MtM X "list.append" rAppend := by
  intro pins s σ H x vs v us Q I rx rv h
  obtain ⟨l, xs, y, rfl, rfl, hH, hz, q⟩ := h
  cases rx
  obtain ⟨u, rfl, ru⟩ := rv.one
  obtain ⟨z, its, n, r, hl, e⟩ := I.lstM hH
  refine call_meets F.slot_list_append ⟨_, e, rfl⟩ F.entry_list_append (F.args_list_append_2 _ _) (PySem.list_append l its.toArray n u (by rw [List.size_toArray]; omega)) ⟨e, ?_⟩
  refine ⟨.non, _, I.lset (its' := its ++ [u]) hH e (by simp) (r.append (.cons ru .nil)) ?_, rfl, q⟩
  rw [List.length_append, List.length_singleton]
  omega
def rExtend : V -> List V -> Hp -> VK -> Prop := fun x vs H Q => ∃ l b xs zs, x = .ref l /\ vs = [.ref b] /\ H l = some (.lst xs) /\ H b = some (.lst zs) /\ xs.length + zs.length <= sizeLine /\ Q .non (upd H l (.lst (xs ++ zs)))
theorem mt_extend : MtM X "list.extend" rExtend := by
  intro pins s σ H x vs v us Q I rx rv h
  obtain ⟨l, b, xs, zs, rfl, rfl, hH, hB, hz, q⟩ := h
  cases rx
  obtain ⟨u, rfl, ru⟩ := rv.one
  cases ru
  obtain ⟨z, its, n, r, hl, e⟩ := I.lstM hH
  obtain ⟨z2, its2, n2, r2, hl2, e2⟩ := I.lstM hB
  have hsz : its.toArray.size + its2.toArray.size <= sizeLine := by rw [List.size_toArray, List.size_toArray]; omega
  have hlong : ¬ (!its.toArray.isEmpty && Builtin.List.listTooLong (its.toArray.size + its2.toArray.size)) = true := by
    rw [notLongL hsz, Bool.and_false]
    exact Bool.false_ne_true
  refine call_meets F.slot_list_extend ⟨_, e, rfl⟩ F.entry_list_extend (F.args_list_extend_2 _ _)
    (AutoSeq1.list_extend_list_list_0 l its.toArray n b its2.toArray n2 hlong (by rw [List.size_toArray]; omega) (by omega)) ⟨e, e2, ?_⟩
  refine ⟨.non, _, I.lset (its' := its ++ its2) hH e (by simp) (r.append r2) ?_, rfl, q⟩
  rw [List.length_append]
  omega
def rCat : R2 := fun x y H Q => ∃ l b xs zs, x = .ref l /\ y = .ref b /\ H l = some (.lst xs) /\ H b = some (.lst zs) /\ xs.length + zs.length <= sizeLine /\ ∀ p, H p = none -> Q (.ref p) (upd H p (.lst (xs ++ zs)))
theorem op_cat : OpR X (binaryOp .Add) rCat := by
  intro pins s σ H x y v u Q I rx ry h
  obtain ⟨l, b, xs, zs, rfl, rfl, hH, hB, hz, q⟩ := h
  cases rx
  cases ry
  obtain ⟨z, its, n, r, hl, e⟩ := I.lstM hH
  obtain ⟨z2, its2, n2, r2, hl2, e2⟩ := I.lstM hB
  refine PySem.P.add_list e e2 ?_ (by rw [List.size_toArray, List.size_toArray]; omega)
  have ea : its.toArray ++ its2.toArray = (its ++ its2).toArray := by simp
  rw [ea]
  exact ⟨.ref _, _, I.lnew (t' := s.toks) (r.append r2) (by rw [List.length_append]; omega), rfl, q _ I.fresh⟩
def rRep : R2 := fun x y H Q => ∃ l k xs, x = .ref l /\ y = .int k /\ H l = some (.lst xs) /\ -(2 ^ 63) <= k /\ k < 2 ^ 63 /\ xs.length * k.toNat <= sizeLine /\
  ∀ p, H p = none -> Q (.ref p) (upd H p (.lst (List.replicate k.toNat xs).flatten))
theorem len_rep {α : Type} (xs : List α) (k : Nat) : (List.replicate k xs).flatten.length = k * xs.length := by
  induction k with
  | zero => simp
  | succ k ih => rw [List.replicate_succ, List.flatten_cons, List.length_append, ih, Nat.succ_mul, Nat.add_comm]
theorem op_rep : OpR X (binaryOp .Mult) rRep := by
  intro pins s σ H x y v u Q I rx ry h
  obtain ⟨l, k, xs, rfl, rfl, hH, h1, h2, hz, q⟩ := h
  cases rx
  obtain ⟨t, rfl⟩ := ry
  obtain ⟨z, its, n, r, hl, e⟩ := I.lstM hH
  have hlen : its.toArray.size * k.toNat <= sizeLine := by rw [List.size_toArray, ← hl]; exact hz
  have hcap : ¬ its.toArray.size * k.toNat > (2 ^ 63 - 1) / 8 := by
    have : (sizeLine : Nat) <= (2 ^ 63 - 1) / 8 := by decide
    omega
  have hfit : ¬ (!Builtin.List.listFitsIndex k) = true := by
    rw [fitsIndex_both h1 h2]
    exact Bool.false_ne_true
  have hlong : ¬ Builtin.List.listTooLong (its.toArray.size * k.toNat) = true := by
    rw [notLongL hlen]
    exact Bool.false_ne_true
  have hnew : List.foldl (fun x1 x2 => x1 ++ x2) #[] (List.replicate (if its.toArray.isEmpty = true then 0 else k.toNat) its.toArray) = (List.replicate k.toNat its).flatten.toArray := by
    have f0 : ∀ m : Nat, List.foldl (fun x1 x2 => x1 ++ x2) #[] (List.replicate m its.toArray) = (List.replicate m its).flatten.toArray := fun m => by
      have := foldl_rep its m []
      rw [List.nil_append] at this
      exact this
    rw [f0]
    cases its with
    | nil => simp
    | cons a r' => rw [if_neg (by simp)]
  refine wpAny_binaryOp_repeat_ref (T := "list") (U := "int") (by decide) ⟨_, e, rfl⟩ (fun s' => typeIs_int s' k t) noFill_list_mul F.fills_int_mul F.slot_int_rmul repeat_list F.slot_int_index.lookup
    (call_meets F.slot_int_rmul (typeIs_int s k t) F.entry_int_rmul (F.args_int_rmul_2 _ _) (int___rmul___int_list k t l its.toArray n)
      ⟨e, rfl, ⟨_, e, rfl⟩, call_meets F.slot_list_mul ⟨_, e, rfl⟩ F.entry_list_mul (F.args_list_mul_2 _ _) (AutoListH.list___mul___list_int_3 l its.toArray n k t hfit hcap hlong) ⟨e, ?_⟩⟩)
  rw [hnew]
  exact ⟨.ref _, _, I.lnew (t' := s.toks) (r.rep k.toNat) (by rw [len_rep, Nat.mul_comm]; exact hz), rfl, q _ I.fresh⟩
end
end L2
namespace Att
open PySem PySem.W PySem.Calls PyProof.Rows
theorem ints_of_wellAll {P : Params} {h : Heap} : ∀ (ns : List Int) (vs : List Value), WellAll P h vs (ns.map WData.int) -> IntsAre vs ns := by
  intro ns
  induction ns with
  | nil =>
    intro vs w
    rw [List.map_nil] at w
    cases w
    exact .nil
  | cons n ns ih =>
    intro vs w
    rw [List.map_cons] at w
    cases w with
    | cons a b =>
      cases a
      exact .cons _ _ (ih _ b)
theorem script_of {l : OpenLaw} {n : Nat} (hn : l.most = some n) {P : Params} {h : Heap} {args : List WData} {vals : List Value}
    (hpre : l.row.toRowW.claim.pre args = true) (hwl : WellAll P h vals args) :
    ∃ a vs ns, vals = [Value.ref a] /\ args = [WData.list (ns.map WData.int)] /\ h.get? a = some { cls := .type "list", data := .seq vs.toArray } /\ IntsAre vs ns /\ ns.length <= n := by
  have hsh : WShape.hasAll [] args [.list .int] = true := (pre_splitW hpre).1
  have hc : l.pre.holds [] { args := args } = true := (pre_splitW hpre).2
  obtain ⟨d, r, rfl, h1, h2⟩ := hasAllW_cons hsh
  obtain rfl := hasAllW_nil h2
  obtain ⟨xs, rfl, h3⟩ := hasW_list h1
  obtain ⟨ns, rfl⟩ := items_int h3
  have hlen : ns.length <= n := by
    unfold OpenLaw.pre at hc
    have h4 : (WTm.not (.lt (.lit (.int (n : Int))) (.len (.arg 0)))).holds [] { args := [.list (ns.map .int)] } = true := by
      have h4 := (holds_andW hc).1
      rw [hn] at h4
      exact h4
    have h5 := condW_of h4 (w_not (w_lt w_lit (w_len_list (w_arg rfl))))
    rw [List.length_map] at h5
    refine Nat.le_of_not_lt fun q => ?_
    have q' : (n : Int) < ((ns.length : Nat) : Int) := by omega
    first
      | (rw [decide_eq_true q'] at h5; exact absurd h5 (by decide))
      | (simp at h5; omega)
  cases hwl with
  | cons w1 w2 =>
    cases w2
    cases w1 with
    | list ho hall => exact ⟨_, _, ns, rfl, rfl, ho, ints_of_wellAll ns _ hall, hlen⟩
theorem post_true (l : OpenLaw) (args : List WData) : l.row.toRowW.claim.post args (.bool true) args = true :=
  postW_of (r := l.row.toRowW) (X := (true == true))
    (show WShape.has [] (.bool true) .bool = true by first | rfl | decide | simp [WShape.has, WShape.arms, WShape.armsAll])
    (show (WTm.eq .res (.lit (.bool true))).value [] { args := args, res := some (.bool true), after := args } = some (.bool (true == true)) from w_eq_bool (w_res rfl) w_lit) rfl
theorem attach_call {l : OpenLaw} {n : Nat} {q : Program} {loose : List Str} {XP : (Str -> Option Value) -> Heap -> Prop} {YP : World -> Heap -> Prop} {d : DefRec}
    (hn : l.most = some n) (hdf : d.params.defaults = [])
    (call : ∀ (w : World) (s₀ s₁ : Shared) (mg mb : Str -> Option Value) (fa : Addr) (o : Obj) (pm cd doc : Value) (a : Addr) (vs : List Value) (ns : List Int),
      Ground q loose [] XP w s₀ mg mb s₁.heap -> YP w s₁.heap ->
      s₁.heap.get? fa = some o -> o.data = .func (docDef d.name d.params d.body d.scope pm cd doc) -> s₁.heap.CodeRec cd d.name -> mg d.name = some (.ref fa) ->
      s₁.heap.get? a = some { cls := .type "list", data := .seq vs.toArray } -> IntsAre vs ns -> ns.length <= n -> s₁.gens = #[] ->
      codeAny (model l.prog w) callerA (.call (.ref fa) ⟨[.ref a], []⟩) (fun r s' => r = .ok (.ret (.bool true)) /\ OldK s₁.heap s'.heap /\ s'.os = s₁.os /\ AllBare s'.gens) s₁) :
    WalkO q loose XP YP l.row.toRowW d [] (fun f vs => PySem.call f vs) := by
  intro w s₀ s₁ mg mb G Y fa o pm cd doc dV kV ho hd hcd hD hmg hg args vals as hpre hlay hrd hwl hlo
  obtain rfl : dV = .none := Dflts.none hD hdf
  obtain rfl : kV = .none := Dflts.noKw hD
  obtain ⟨a, vs, ns, rfl, rfl, hobj, hints, hlen⟩ := script_of hn hpre hwl
  refine enter_call (codeAny_mono (call w s₀ s₁ mg mb fa o pm cd doc a vs ns G Y ho (fd_plain hd) hcd hmg hobj hints hlen hg) fun r s' hq => ?_)
  obtain ⟨rfl, h2, h3, h4⟩ := hq
  exact ⟨.inl ⟨.bool true, .bool true, [], rfl, fun _ => rfl, .bool true, post_true l _, fun _ => ⟨List.Pairwise.nil, fun _ hm => (nomatch hm)⟩⟩, h2, h3, h4⟩
end Att
namespace L2
open PySem PySem.Spec PyProof.Rows
theorem vals_ints : ∀ {vs : List Value} {ns : List Int}, IntsAre vs ns -> Vals (ns.map V.int) vs
  | _, _, .nil => .nil
  | _, _, .cons n t h => .cons ⟨t, rfl⟩ (vals_ints h)
def Only (H : Hp) : Prop := ∀ b, H b = none ∨ ∃ o xs, H b = some (.frz o (.lst xs))
theorem law_call {P : Program} {w : World} {K : PySem.W.Frag} {mg mb : Str -> Option Value} {CX : CXT} {k : Nat} {fa a : Addr} {fd : FuncData} {x : Str} {sp : Sp} {s₁ : Shared} {vs : List Value} {ns : List Int}
    (KX : K.In s₁.heap) (hns : s₁.heap.Ns mainGlobals mg) (hb : s₁.heap.Ns builtinsNs mb) (hbb : ∀ x : Str, x ≠ "__name__" -> mb x = bootBuiltins x) (hlim : s₁.heap.NoLimit) (hg : s₁.gens = #[])
    (ha : s₁.heap.get? a = some { cls := .type "list", data := .seq vs.toArray }) (hi : IntsAre vs ns) (hl : ns.length <= sizeLine) (hr : Room k callerA)
    (F : ∀ base : Heap, K.In base -> base.Ns mainGlobals mg -> FnOk P w K mg base CX k fa fd [x] sp) (hbind : ∀ (s : Shared) (u : Value), BindsTo s fd ⟨[u], []⟩ [(x, u)])
    (hsp : ∀ H : Hp, Only H -> SqL K H a (ns.map V.int) -> sp [.ref a] H (fun v _ => v = .bl true) fun _ _ _ => False)
    (hCX : ∀ H e s', CX [] H s₁ (fun _ _ _ => False) e s' -> False) :
    codeAny (model P w) callerA (.call (.ref fa) ⟨[.ref a], []⟩) (fun r s' => r = .ok (.ret (.bool true)) /\ OldK s₁.heap s'.heap /\ s'.os = s₁.os /\ AllBare s'.gens) s₁ := by
  have rv := vals_ints hi
  have lenV := hi.length
  have core : ∀ H : Hp, Only H -> SqL K H a (ns.map V.int) -> HOk P w H s₁.heap -> (∀ b, H b ≠ none -> b = a) -> (H a ≠ none -> K.lookup a = none) ->
      codeAny (model P w) callerA (.call (.ref fa) ⟨[.ref a], []⟩) (fun r s' => r = .ok (.ret (.bool true)) /\ OldK s₁.heap s'.heap /\ s'.os = s₁.os /\ AllBare s'.gens) s₁ := by
    intro H hO hS hok hA hK
    have base_of : ∀ {b : Addr} {o : Obj}, s₁.heap.get? b = some o -> H b = none -> (hidT s₁.heap H).get? b = some o := fun e n => hidT_get e n
    have noA : ∀ {b : Addr} {o : Obj} {es : Array DictEntry} {ep : Nat}, s₁.heap.get? b = some o -> o.data = .dict es ep -> H b = none := fun {b o es ep} e d => by
      cases q : H b with
      | none => rfl
      | some u =>
        have e' : b = a := hA b (by rw [q]; simp)
        subst e'
        rw [ha] at e; cases e
        have d' : Data.seq vs.toArray _ = Data.dict es ep := d
        cases d'
    have nsK : ∀ {b : Addr} {m : Str -> Option Value}, s₁.heap.Ns b m -> (hidT s₁.heap H).Ns b m := fun {b m} ⟨o, es, ep, e, d, r⟩ => ⟨o, es, ep, base_of e (noA e d), d, r⟩
    have hKb : K.In (hidT s₁.heap H) := fun b o e => base_of (KX b o e) (by
      cases q : H b with
      | none => rfl
      | some u =>
        have e' : b = a := hA b (by rw [q]; simp)
        subst e'
        rw [hK (by rw [q]; simp)] at e; cases e)
    have hM : Mod K mg (hidT s₁.heap H) := ⟨hKb, nsK hns, ⟨mb, nsK hb, hbb⟩, let ⟨mc, h1, h2⟩ := hlim; ⟨mc, nsK h1, h2⟩⟩
    have e0 : Env0 P w K mg (hidT s₁.heap H) callerA [] s₁ H := ⟨rfl, hM, fun b o e => of_hidT e, Nat.le_of_eq (hidT_size _ _), trivial, fun b hb => absurd (show b ∈ ([] : List Addr) from hb) (by simp), hok, .of_eq hg⟩
    refine codeAny_mono ((F _ hKb (nsK hns)).run callerA [] s₁ H ⟨[.ref a], []⟩ [.ref a] [.ref a] _ _ hr e0 (hbind s₁ (.ref a)) (.cons rfl .nil) (hsp H hO hS)) fun r s' h => ?_
    cases r with
    | error e => exact (hCX H e s' h).elim
    | ok fl =>
      cases fl with
      | next => exact False.elim h
      | brk => exact False.elim h
      | cont => exact False.elim h
      | ret u =>
        obtain ⟨v, H', os, bare, un, hok', r', q⟩ := h
        have q' : v = .bl true := q
        subst q'
        obtain rfl : u = Value.bool true := r'
        refine ⟨rfl, OldK.of_keep fun b o e => ?_, os, bare⟩
        cases q : H b with
        | none => exact un.keep b o e q (by intro z; exact absurd (show b ∈ ([] : List Addr) from z) (by simp)) (by simp)
        | some u =>
          rcases hO b with z | ⟨ob, xs, z⟩
          · rw [q] at z; cases z
          · have z2 := un.frzs b ob _ z
            obtain ⟨e1, _⟩ := hok b _ z
            obtain ⟨e2, _⟩ := hok' b _ z2
            rw [e] at e1; cases e1
            exact e2
  cases hk : K.lookup a with
  | some o =>
    have e := KX a o hk
    rw [ha] at e
    cases e
    refine core (fun _ => none) (fun _ => .inl rfl) (.inr ⟨_, vs.toArray, _, hk, rfl, rfl, rfl, by rw [List.size_toArray, lenV]; exact hl, by simpa using rv⟩) (fun b u z => by have z' : (none : Option HO) = some u := z; cases z') (fun b z => absurd rfl z) fun z => absurd rfl z
  | none =>
    refine core (fun b => if b = a then some (.frz { cls := .type "list", data := .seq vs.toArray } (.lst (ns.map V.int))) else none) (fun b => ?_) (.inl (.inr ⟨{ cls := .type "list", data := .seq vs.toArray }, if_pos rfl⟩)) (fun b u z => ?_) (fun b z => ?_) fun _ => hk
    · by_cases hb : b = a
      · exact .inr ⟨_, _, if_pos hb⟩
      · exact .inl (if_neg hb)
    · by_cases hb : b = a
      · have z' := (if_pos hb).symm.trans z
        cases z'
        subst hb
        exact ⟨ha, by rw [List.length_map]; exact hl, vs, _, rv, ha⟩
      · have z' := (if_neg hb).symm.trans z
        cases z'
    · by_cases hb : b = a
      · exact hb
      · exact absurd (if_neg hb) z
end L2
namespace L2
open PySem PySem.Spec PyProof.Rows
theorem walk_of {l : PySem.W.OpenLaw} {n k : Nat} {q : Program} {loose : List Str} {XP : (Str -> Option Value) -> Heap -> Prop} {YP : World -> Heap -> Prop} {d : DefRec} {K : Params -> PySem.W.Frag} {CX : World -> CXT} {sp : World -> Sp} {x : Str}
    (hn : l.most = some n) (hn2 : n <= sizeLine) (hdf : d.params.defaults = []) (hr : Room k callerA)
    (hY : ∀ (w : World) (h : Heap), YP w h -> (K w.params).In h)
    (F : ∀ (w : World) (mg : Str -> Option Value) (fa : Addr) (h : Heap), (K w.params).In h -> h.Ns mainGlobals mg -> mg d.name = some (.ref fa) ->
      ∃ fd : FuncData, (∀ (s : Shared) (u : Value), BindsTo s fd ⟨[u], []⟩ [(x, u)]) /\
        ∀ base : Heap, (K w.params).In base -> base.Ns mainGlobals mg -> FnOk l.prog w (K w.params) mg base (CX w) k fa fd [x] (sp w))
    (hsp : ∀ (w : World) (H : Hp) (a : Addr) (ns : List Int), ns.length <= n -> Only H -> SqL (K w.params) H a (ns.map V.int) -> sp w [.ref a] H (fun v _ => v = .bl true) fun _ _ _ => False)
    (hCX : ∀ (w : World) (H : Hp) (s : Shared) (e : Value) (s' : Shared), CX w [] H s (fun _ _ _ => False) e s' -> False) :
    PySem.W.WalkO q loose XP YP l.row.toRowW d [] (fun f vs => PySem.call f vs) := by
  refine Att.attach_call hn hdf fun w s₀ s₁ mg mb fa o pm cd doc a vs ns G Y ho hd hcd hmg hobj hints hlen hg => ?_
  have KX := hY w _ Y
  obtain ⟨fd, hb, hF⟩ := F w mg fa _ KX G.T.g hmg
  exact law_call KX G.T.g G.T.b G.T.builtins G.T.nolimit hg hobj hints (Nat.le_trans hlen hn2) hr hF hb (fun H hO hS => hsp w H a ns hlen hO hS) fun H e s' => hCX w H s₁ e s'
end L2
/- THE LAST THEOREM (shape; LID, My.* are yours):
   My.Adr: a structure of the addresses that your layer names (classes, functions); My.Txt K t: a structure (Prop) of the equations over K;
   My.txt_mk : {K} {implicit addresses ..} (e1 : nsIn K mainGlobals "law" = some (some (.ref f))) (e2 : K.lookup f = some ⟨oc, od, .func (fnOf "law" "law" params body scope dV kV doc pm an cdv ct), sl⟩) (e3 : codeIn K cdv "law" = true) .. : ∃ t, My.Txt K t
set_option maxRecDepth 100000 in
set_option maxHeartbeats 0 in
theorem PySem.Challenge.cw_LID_holds : PySem.Challenge.rw_LID.Holds := by
  w_on; o_law; k_head; (case hw => w_witness2)
  k_fill
  refine L2.walk_of (l := PySem.Challenge.rw_LID) (n := 63) (k := 40) (x := "script") (CX := fun w => ..) (sp := fun _ => My.sp_law) rfl (by decide) rfl ⟨rfl, by decide, by decide⟩ (fun w h Y => PySem.W.kIn_of Y) ?F ?S ?C
  case F =>
    intro w mg fa h KX G hmg
    have T : ∃ t, My.Txt (L2.KOf KX) t := by
      dsimp only [L2.KOf]                          -- K must stand as «<heap const> w.params» for k_is
      refine' My.txt_mk ?e1 ?e2 ?e3 ..
      (case e1 => PySem.W.k_is)                    -- in the order: a name -> its address -> its object -> its parts
      (case e2 => PySem.W.k_is)
      ..
    obtain ⟨t, T⟩ := T
    have e0 := hmg.symm.trans (PySem.W.mg_of KX G T.law)
    cases e0                                       -- fa is the law's own address
    exact ⟨_, fun s u => .of_eq rfl, fun base kb nb => My.law_fn T kb nb⟩     -- if «.of_eq rfl» comes too early: refine' ⟨_, ?b, fun base kb nb => My.law_fn T kb nb⟩; exact fun s u => .of_eq rfl
  case S => exact fun w H a ns hl hO hS => ..
  case C => exact ..
(the tactic k_is has no namespace: write k_is) -/
namespace L2
open PySem PySem.Spec PyProof.Rows
def defArgs (s : Stmt) : Arguments := match s with
  | .FunctionDef _ a _ _ _ _ _ _ _ _ => a
  | _ => { posonlyargs := [], args := [], vararg := none, kwonlyargs := [], kw_defaults := [], kwarg := none, defaults := [] }
def defBody (s : Stmt) : List Stmt := match s with
  | .FunctionDef _ _ b _ _ _ _ _ _ _ => b
  | _ => []
def defScope (s : Stmt) : Scope := match s with
  | .FunctionDef _ _ _ _ _ _ sc _ _ _ => sc
  | _ => { kind := .function, names := [], isGenerator := false, isCoroutine := false }
abbrev CX0 : CXT := fun _ _ _ _ _ _ => False
abbrev E0 : XK := fun _ _ _ => False
theorem pass0 {X : Cx} : Passes CX0 X E0 := fun _ _ _ _ _ _ _ h => h.elim
structure Fun (K : PySem.W.Frag) (x qual : Str) (st : Stmt) (f : Addr) (fd : FuncData) : Prop where
  ex : ∃ (oc : Value) (od : Option Addr) (kV doc pm : Value) (an : Option Addr) (cdv ct : Value) (osl : Array (Option Value)),
    fd = PySem.W.fnOf x qual (defArgs st) (defBody st) (defScope st) .none kV doc pm an cdv ct /\ K.lookup f = some ⟨oc, od, .func fd, osl⟩ /\ PySem.W.codeIn K cdv qual = true
  kp : PySem.W.keepIn K (.ref f) = true
section
variable {P : Program} {w : World} {K : PySem.W.Frag} {mg : Str -> Option Value} {base : Heap}
theorem Fun.ok {x qual : Str} {st : Stmt} {f : Addr} {fd : FuncData} {N ps : List Str} {k : Nat} {sp : Sp} (F : Fun K x qual st f fd) (S : FnScope N ps (defScope st)) (len : ∀ vs H Q E, sp vs H Q E -> vs.length = ps.length)
    (hbody : ∀ (cdv : Value) (A : Around) (outer : List Env) (s : Shared) (H : Hp) (vs : List V) (Q : VK) (E : XK), Room k (A.deeper (envOfC qual (defScope st) s.heap.objs.size f cdv)) -> sp vs H Q E ->
      ∃ t, PSs (cxOf CX0 P w K mg base N qual (defScope st) f cdv A outer s H E).nox (defBody st) t /\ t { nx := fun _ H' => Q .non H', rt := Q } (start N vs) H) : FnOk P w K mg base CX0 (k + 1) f fd ps sp := by
  obtain ⟨oc, od, kV, doc, pm, an, cdv, ct, osl, rfl, lk, hcd⟩ := F.ex
  refine fn_of lk hcd S len fun A outer s H vs Q E hr hsp => ?_
  obtain ⟨t, h, q⟩ := hbody cdv A outer s H vs Q E hr hsp
  exact ⟨t, h.nox, q⟩
theorem Fun.binds {x qual : Str} {st : Stmt} {f : Addr} {fd : FuncData} {ps : List Str} (F : Fun K x qual st f fd)
    (h : ∀ (kV doc pm : Value) (an : Option Addr) (cdv ct : Value) (us : List Value), us.length = ps.length -> bindArgs (PySem.W.fnOf x qual (defArgs st) (defBody st) (defScope st) .none kV doc pm an cdv ct) ⟨us, []⟩ = pure (ps.zip us)) : Binds K fd ps [] := by
  obtain ⟨oc, od, kV, doc, pm, an, cdv, ct, osl, rfl, lk, hcd⟩ := F.ex
  exact .all (h kV doc pm an cdv ct)
theorem fun_mk {x qual : Str} {st : Stmt} {f : Addr} {oc : Value} {od an : Option Addr} {osl : Array (Option Value)} {kV doc pm cdv ct : Value} (l : K.lookup f = some ⟨oc, od, .func (PySem.W.fnOf x qual (defArgs st) (defBody st) (defScope st) .none kV doc pm an cdv ct), osl⟩)
    (c : PySem.W.codeIn K cdv qual = true) (k : PySem.W.keepIn K (.ref f) = true) : Fun K x qual st f (PySem.W.fnOf x qual (defArgs st) (defBody st) (defScope st) .none kV doc pm an cdv ct) := ⟨⟨oc, od, kV, doc, pm, an, cdv, ct, osl, rfl, l, c⟩, k⟩
end
theorem hu_of {A : Around} {k : Nat} (hr : Room k A) : A.units + 1 < cLine := Nat.lt_of_le_of_lt (Nat.add_le_add_left (by decide : 1 <= 64) _) hr.units
section
variable {X : Cx}
theorem pv (i : Nat) {x : Str} {pos : Pos} (hN : X.N[i]? = some x := by rfl) (hv : Vis X.env.scope x := by first | exact Or.inl rfl | exact Or.inr (Or.inl rfl) | exact Or.inr (Or.inr rfl)) (hd : (x == ("__debug__" : Str)) = false := by decide)
    (hcd : (x == ("__classdict__" : Str)) = false := by decide) : PE X (.Name x pos) (tVar i) := pe_var hN hv hd hcd
end
theorem iteF {A B : Prop} (h : B) : if false = true then A else B := by
  rw [if_neg Bool.false_ne_true]
  exact h
theorem iteT {A B : Prop} (h : A) : if true = true then A else B := by
  rw [if_pos rfl]
  exact h
theorem ite2 {c A B : Prop} [Decidable c] (h1 : c -> A) (h2 : ¬ c -> B) : if c then A else B := by
  by_cases h : c
  · rw [if_pos h]
    exact h1 h
  · rw [if_neg h]
    exact h2 h
def Same (H H' : Hp) : Prop := ∀ b o, H b = some o -> H' b = some o
theorem Same.refl (H : Hp) : Same H H := fun _ _ h => h
theorem Same.trans {H H1 H2 : Hp} (a : Same H H1) (b : Same H1 H2) : Same H H2 := fun c o h => b c o (a c o h)
theorem Same.free {H H' : Hp} (e : Same H H') {l : Addr} (h : H' l = Option.none) : H l = Option.none := by
  cases q : H l with
  | none => rfl
  | some o =>
    rw [e l o q] at h
    cases h
end L2
namespace L2
open PySem PySem.Spec PyProof.Rows
def rIsi (K : PySem.W.Frag) : List V -> Hp -> VK -> Prop := fun xs H Q => ∃ x T t b, xs = [x, .ty T] /\ TyOf K H x t /\ PySem.W.kitOne K t (.type T) = some b /\ Q (.bl b) H
section
variable {X : Cx}
theorem call_isi : CallR X (.builtin "isinstance") (rIsi X.K) := by
  intro pins s σ H xs us Q I r h
  obtain ⟨x, T, t, b, rfl, ty, e, q⟩ := h
  obtain ⟨u, w', rfl, rx, rT⟩ := vals2 r
  cases (show w' = Value.type T from rT)
  exact isinst_ok I rx ty e fun tk => ⟨.bl b, H, I.tok _, rfl, q⟩
def rCatE (K : PySem.W.Frag) : R2 := fun x y H Q => ∃ a b ys, x = .ref a /\ y = .ref b /\ SqT K H a [] /\ SqT K H b ys /\ Q (.ref b) H
theorem op_catE : OpR X (binaryOp .Add) (rCatE X.K) := by
  intro pins s σ H x y v u Q I rx ry h
  obtain ⟨a, b, ys, rfl, rfl, ha, hb, q⟩ := h
  cases rx
  cases ry
  obtain ⟨its, r1, p1, _⟩ := I.tuple ha
  obtain ⟨its2, r2, p2, _⟩ := I.tuple hb
  cases r1
  obtain ⟨⟨c1, d1, f1, l1⟩, g1, k1, n1, j1⟩ := id p1
  obtain ⟨⟨c2, d2, f2, l2⟩, g2, k2, n2, j2⟩ := id p2
  simp only at k1 j1 k2 j2
  subst k1 j1 k2 j2
  exact concat_meets ⟨_, g1, rfl⟩ ⟨_, g2, rfl⟩ noFill_tuple_add seq_tuple_add PySem.F.slot_tuple_add PySem.F.entry_tuple_add (PySem.F.args_tuple_add_2 _ _) (tuple_addW0 a b #[] its2.toArray n1 n2 d1 d2 l1 l2 rfl) ⟨g1, g2, ⟨.ref b, H, I, rfl, q⟩⟩
theorem op_catA : OpR X (binaryOp .Add) (fun x y H Q => rCatE X.K x y H Q ∨ rCatT X.K x y H Q) := op_catE.or op_catT
end
end L2
namespace L2
open PySem PySem.Spec PyProof.Rows
def pick (js : List (Option Nat)) (σ : St) : St := js.map fun o => o.bind fun j => (σ[j]?).join
theorem pick_get {js : List (Option Nat)} {σ : St} {i : Nat} {v : V} (h : (pick js σ)[i]? = some (some v)) : ∃ j, js[i]? = some (some j) /\ σ[j]? = some (some v) := by
  unfold pick at h
  rw [List.getElem?_map] at h
  cases e : js[i]? with
  | none => rw [e] at h; cases h
  | some o =>
    rw [e] at h
    have h' : (o.bind fun j => (σ[j]?).join) = some v := Option.some.inj h
    cases o with
    | none => cases h'
    | some j =>
      refine ⟨j, rfl, ?_⟩
      have h2 : (σ[j]?).join = some v := h'
      cases e2 : σ[j]? with
      | none => rw [e2] at h2; cases h2
      | some q =>
        rw [e2] at h2
        have h3 : q = some v := h2
        rw [h3]
structure CompOk (X : Cx) (scope : Scope) (cl : List (Str × Addr)) (N : List Str) (js : List (Option Nat)) : Prop where
  clos : closureFor scope X.env = pure cl
  nocell : ∀ y ∈ scope.names, y.2 ≠ .cell
  kind : scope.kind = .function
  names : ∀ y ∈ scope.names, y.2 = .local -> scope.names.lookup y.1 = some .local
  sub : ∀ x c, cl.lookup x = some c -> X.env.cells.lookup x = some c
  has : ∀ x, ((relabel scope X.env).names.lookup x = some .cell ∨ (relabel scope X.env).names.lookup x = some .free) -> ∃ c, cl.lookup x = some c
  len : js.length = N.length
  seen : ∀ (i j : Nat) (x : Str), N[i]? = some x -> js[i]? = some (some j) -> X.N[j]? = some x /\ X.env.scope.names.lookup x = some .cell /\ ((relabel scope X.env).names.lookup x = some .cell ∨ (relabel scope X.env).names.lookup x = some .free)
abbrev compCx (X : Cx) (scope : Scope) (cl : List (Str × Addr)) (N : List Str) (fp : List Addr) (pins : List (Addr × Obj)) (s : Shared) (H : Hp) (E : Value -> Shared -> Prop) : Cx :=
  { X with N := N, s₀ := s, H₀ := H, env := compEnvC scope cl s.heap.objs.size X.env, outer := X.stack, ex := fp, fn := fun _ => false, pn := X.pn ++ pins, xe := E }
def CompW (J : It) (D : Addr) (js : List (Option Nat)) (g : TG) (tc : TT) (te : TE) (σ : St) (H1 : Hp) (Q : VK) : Prop :=
  ∃ W : Nat -> Nat -> St -> Hp -> List V -> Prop, (∃ m, W 0 m (pick js σ) (upd H1 D (.lst [])) []) /\ ∀ i m σ' H' ys, W i m σ' H' ys -> H' D = some (.lst ys) /\
    ((J.stop i H' /\ Q (.ref D) H') ∨ (J.go i H' /\ ys.length < sizeLine /\ ∃ N : St -> Hp -> List V -> Prop, (∀ σ2 H2 zs, N σ2 H2 zs -> ∃ m', m' < m /\ W (i + 1) m' σ2 H2 zs) /\ ∀ x H2, J.yld i H' x H2 -> g x σ' H2 fun σ2 H3 => tc σ2 H3 fun k H5 =>
      if k = true then te σ2 H5 fun y H4 => H4 D = some (.lst ys) /\ N σ2 (upd H4 D (.lst (ys ++ [y]))) (ys ++ [y]) else H5 D = some (.lst ys) /\ N σ2 H5 ys))
def tComp (js : List (Option Nat)) (wi : TI) (g : TG) (tc : TT) (te : TE) : TE := fun σ H Q => wi σ H fun J H1 => ∀ D, H1 D = none -> CompW J D js g tc te σ H1 Q
def PTs (X : Cx) (cs : List Expr) (t : TT) : Prop :=
  ∀ (pins : List (Addr × Obj)) (s : Shared) (σ : St) (H : Hp) (Q : Bool -> Hp -> Prop), Inv X pins σ H s -> t σ H Q ->
    wpAny (model X.prog X.w) X.A (forIn cs true fun c r => if r = true then do let ok ← isTrue c X.env (eval c X.env); pure (ForInStep.yield ok) else pure (ForInStep.yield r)) (TP X pins σ Q) X.xe s
def tNoTest : TT := fun _ H Q => Q true H
theorem pts_nil {X : Cx} : PTs X [] tNoTest := fun _ _ _ H _ I h => wpAny_tests_nil ⟨H, I, h⟩
section
variable {prog : Program} {w : World} {A : Around} {R : Result -> Shared -> Prop} {s : Shared}
theorem loop_go {elt tg iter : Expr} {cs : List Expr} {scope : Scope} {pos : Pos} {it acc : Value} {env : Env} (J : Nat -> Shared -> Prop)
    (turn : ∀ n s', J n s' -> wpAny (model prog w) A (pyNext it) (fun r t1 => match r with
      | none => R (.ok .next) t1
      | some v => wpAny (model prog w) A (letOwnedTupleGo tg it v) (fun _ t2 => wpAny (model prog w) A (assign tg env v) (fun _ t3 =>
          wpAny (model prog w) A (forIn cs true fun c r => if r = true then do let ok ← isTrue c env (eval c env); pure (ForInStep.yield ok) else pure (ForInStep.yield r)) (fun ok t4 =>
            if ok = true then wpAny (model prog w) A (eval elt env) (fun x t5 => wpAny (model prog w) A (call (.builtin "list.append") [acc, x]) (fun _ t6 => ∃ m, m < n /\ J m t6)
              (notedBy (model prog w) A env fun e s'' => R (.error e) s'') t5) (notedBy (model prog w) A env fun e s'' => R (.error e) s'') t4
            else ∃ m, m < n /\ J m t4) (notedBy (model prog w) A env fun e s'' => R (.error e) s'') t3) (notedBy (model prog w) A env fun e s'' => R (.error e) s'') t2) (notedBy (model prog w) A env fun e s'' => R (.error e) s'') t1)
        (notedBy (model prog w) A env fun e s'' => R (.error e) s'') s')
    (n : Nat) (h : J n s) : codeAny (model prog w) A (.compLoop (.ListComp elt [⟨tg, iter, cs, 0⟩] scope pos) 0 it acc env) R s := by
  refine codeAny_loop rfl J (fun n s' hJ => ?_) n h
  show wpAny _ A ((compTurn (.ListComp elt [⟨tg, iter, cs, 0⟩] scope pos) 0 it acc env).onRaise (fun z => do noteFrame z env; theTreesLotGoes z)) _ _ s'
  refine wpAny_noted ?_
  rw [compTurn_list]
  refine wpAny_bind (wpAny_standAt (wpAny_bind (thn (turn n s' hJ) fun r t1 k1 => ?_)))
  cases r with
  | none => exact wpAny_pure k1
  | some v =>
    refine wpAny_bind (thn k1 fun _ t2 k2 => wpAny_bind (thn k2 fun _ t3 k3 => wpAny_bind (thn k3 fun ok t4 k4 => ?_)))
    cases ok with
    | false => exact wpAny_pure ⟨rfl, k4⟩
    | true => exact wpAny_bind (wpAny_bind (thn k4 fun x t5 k5 => wpAny_bind (thn k5 fun _ t6 k6 => wpAny_pure (wpAny_pure ⟨rfl, k6⟩))))
end
theorem noEx {M : Model} {A : Around} {α : Type} {t : Sem α} {Q : α -> Shared -> Prop} {E E' : Value -> Shared -> Prop} {s : Shared} (hE : ∀ e s', E e s' -> False) (h : wpAny M A t Q E s) : wpAny M A t Q E' s := wpAny_mono h (fun _ _ q => q) fun e s' z => (hE e s' z).elim
theorem lookup_of_key {α β : Type} [BEq α] [LawfulBEq α] : ∀ {l : List (α × β)} {x : α}, x ∈ l.map (·.1) -> ∃ c, l.lookup x = some c
  | [], _, h => by cases h
  | (y, d) :: r, x, h => by
    rw [List.lookup_cons]
    cases e : (x == y) with
    | true => exact ⟨d, rfl⟩
    | false =>
      rcases List.mem_cons.mp h with z | z
      · rw [z] at e; simp at e
      · exact lookup_of_key z
def ownC (sc : Scope) : List Str := (sc.names.filter (fun p => p.2 == .cell)).map (·.1)
theorem cellsFrom_app : ∀ (names : List (Str × NameKind)) (n : Nat) (acc : List (Str × Addr)), cellsFrom n names acc = cellsFrom n names [] ++ acc
  | [], _, _ => rfl
  | (name, kind) :: r, n, acc => by
    unfold cellsFrom
    split
    · rw [cellsFrom_app r (n + 1) ((name, n) :: acc), cellsFrom_app r (n + 1) [(name, n)], List.append_assoc]
      rfl
    · exact cellsFrom_app r n acc
theorem mem_cellsFrom : ∀ {names : List (Str × NameKind)} {n : Nat} {x : Str} {c : Addr}, (x, c) ∈ cellsFrom n names [] -> (x, NameKind.cell) ∈ names
  | [], _, _, _, h => by cases h
  | (name, kind) :: r, n, x, c, h => by
    unfold cellsFrom at h
    split at h
    · next hk =>
      rw [cellsFrom_app] at h
      rcases List.mem_append.mp h with z | z
      · exact List.mem_cons_of_mem _ (mem_cellsFrom z)
      · rw [List.mem_singleton] at z
        cases z
        rw [eq_of_beq hk]
        exact List.mem_cons_self
    · exact List.mem_cons_of_mem _ (mem_cellsFrom h)
theorem of_mem_cells : ∀ {names : List (Str × NameKind)} {n : Nat} {x : Str}, (x, NameKind.cell) ∈ names -> ∃ c, (x, c) ∈ cellsFrom n names []
  | [], _, _, h => by cases h
  | (name, kind) :: r, n, x, h => by
    unfold cellsFrom
    rcases List.mem_cons.mp h with z | z
    · cases z
      rw [if_pos (show (NameKind.cell == NameKind.cell) = true from rfl), cellsFrom_app]
      exact ⟨n, List.mem_append_right _ (List.mem_singleton.mpr rfl)⟩
    · split
      · obtain ⟨c, hc⟩ := of_mem_cells (n := n + 1) z
        rw [cellsFrom_app]
        exact ⟨c, List.mem_append_left _ hc⟩
      · exact of_mem_cells z
theorem mem_own {sc : Scope} {x : Str} : x ∈ ownC sc ↔ (x, NameKind.cell) ∈ sc.names := by
  unfold ownC
  rw [List.mem_map]
  constructor
  · rintro ⟨⟨y, k⟩, h, rfl⟩
    obtain ⟨h1, h2⟩ := List.mem_filter.mp h
    have : k = .cell := eq_of_beq h2
    subst this
    exact h1
  · intro h
    exact ⟨(x, .cell), List.mem_filter.mpr ⟨h, rfl⟩, rfl⟩
theorem lookup_app {α β : Type} [BEq α] : ∀ (l m : List (α × β)) (x : α), (l ++ m).lookup x = (l.lookup x).or (m.lookup x)
  | [], _, _ => rfl
  | (y, d) :: l, m, x => by
    rw [List.cons_append, List.lookup_cons, List.lookup_cons]
    cases (x == y) with
    | true => rfl
    | false => exact lookup_app l m x
theorem newEnv_comp {M : Model} {A : Around} {E : Value -> Shared -> Prop} {s : Shared} {scope : Scope} {globals : Addr} {cl : List (Str × Addr)} {qual : Str} {func : Option Addr} {code : Value} {env : Env} {builtins : Addr} {Q : Env -> Shared -> Prop}
    (hQ : Q (newEnv scope s.heap.objs.size globals (cellsFrom (s.heap.objs.size + 1) scope.names cl) qual func code (some env) builtins) { s with heap := pushCells (s.heap.push { cls := .type "dict", data := .dict #[] }) scope.names }) :
    wpAny M A (newFunctionEnv scope globals cl [] qual func code (some env) builtins) Q E s := by
  simp only [newFunctionEnv, Option.isSome_some, if_true]
  refine wpAny_bind (wpAny_alloc ?_)
  refine wpAny_bind (wpAny_layCells _ (fun name kind cells => by cases hkc : kind == NameKind.cell <;> simp [hkc]) _ _ _ _ ?_)
  rw [show ({ s with heap := s.heap.push { cls := .type "dict", data := .dict #[] } } : Shared).heap.objs.size = s.heap.objs.size + 1 from Heap.size_push ..]
  rw [List.forIn_nil]
  exact wpAny_bind (wpAny_pure (wpAny_pure hQ))
structure CompOkC (X : Cx) (scope : Scope) (cl : List (Str × Addr)) (N : List Str) (js : List (Option Nat)) : Prop where
  clos : closureFor scope X.env = pure cl
  dis : ∀ x ∈ ownC scope, cl.lookup x = none
  kind : scope.kind = .function
  names : ∀ y ∈ scope.names, y.2 = .local -> scope.names.lookup y.1 = some .local
  sub : ∀ x c, cl.lookup x = some c -> X.env.cells.lookup x = some c
  has : ∀ x, ((relabel scope X.env).names.lookup x = some .cell ∨ (relabel scope X.env).names.lookup x = some .free) -> (∃ c, cl.lookup x = some c) ∨ x ∈ ownC scope
  len : js.length = N.length
  seen : ∀ (i j : Nat) (x : Str), N[i]? = some x -> js[i]? = some (some j) -> X.N[j]? = some x /\ x ∉ ownC scope /\ X.env.scope.names.lookup x = some .cell /\ ((relabel scope X.env).names.lookup x = some .cell ∨ (relabel scope X.env).names.lookup x = some .free)
abbrev compCxC (X : Cx) (scope : Scope) (cl : List (Str × Addr)) (N : List Str) (fp : List Addr) (pins : List (Addr × Obj)) (s : Shared) (H : Hp) (E : Value -> Shared -> Prop) : Cx :=
  { X with N := N, s₀ := s, H₀ := H, env := compEnvC scope (cellsFrom (s.heap.objs.size + 1) scope.names cl) s.heap.objs.size X.env, outer := X.stack, ex := fp, fn := fun x => (ownC scope).contains x, pn := X.pn ++ pins, xe := E }
theorem pe_compC {X : Cx} {elt tg iter : Expr} {cs : List Expr} {scope : Scope} {pos : Pos} {cl : List (Str × Addr)} {N : List Str} {js : List (Option Nat)} {wi : TI} {g : TG} {tc : TT} {te : TE}
    (C : CompOkC X scope cl N js) (hc : X.warm = true) (hi : PI X tg iter wi)
    (hg : ∀ fp pins s H, PG (compCxC X scope cl N fp pins s H fun _ _ => False) tg g)
    (ht : ∀ fp pins s H, PTs (compCxC X scope cl N fp pins s H fun _ _ => False) cs tc)
    (he : ∀ fp pins s H, PE (compCxC X scope cl N fp pins s H fun _ _ => False) elt te)
    (hs : ∀ x, foldedSetIterable iter X.env x = pure x := by intro _; rfl) : PE X (.ListComp elt [⟨tg, iter, cs, 0⟩] scope pos) (tComp js wi g tc te) := by
  intro pins s σ H Q I h
  rw [eval_ListComp]
  refine wpAny_comprehension_free (use := none) rfl hs C.clos C.kind C.names (thn (hi pins s σ H _ I h) fun xv s1 h1 => thn h1 fun itv s2 h2 => ?_)
  obtain ⟨it, fp, tn, J, H2, e, I2, T, st2, f2, h2⟩ := h2
  subst e
  obtain ⟨W, ⟨m0, w0⟩, turn⟩ := h2 s2.heap.objs.size I2.fresh
  refine wpAny_newObj_type (newEnv_comp ?_)
  have I3 : Inv X pins σ (upd H2 s2.heap.objs.size (.lst [])) { s2 with heap := s2.heap.push { cls := .type "list", data := .seq ([] : List Value).toArray } } := I2.lnew (t' := s2.toks) (its := []) .nil (Nat.zero_le _)
  dsimp only
  generalize e3 : ({ s2 with heap := s2.heap.push { cls := .type "list", data := .seq ([] : List Value).toArray } } : Shared) = s3 at I3
  have e3h : s2.heap.push { cls := .type "list", data := .seq ([] : List Value).toArray } = s3.heap := by rw [← e3]
  have e3g : s2.gens = s3.gens := by rw [← e3]
  have e3o : s2.os = s3.os := by rw [← e3]
  rw [e3h]
  have ns4 : (pushCells (s3.heap.push { cls := .type "dict", data := .dict #[] }) scope.names).Ns s3.heap.objs.size (fun _ => none) := (Heap.Ns.new s3.heap (.type "dict")).keeps (pushCells_keeps _ _)
  have up4 : ∀ b o, s3.heap.get? b = some o -> (pushCells (s3.heap.push { cls := .type "dict", data := .dict #[] }) scope.names).get? b = some o := fun b o q => pushCells_keeps _ _ b o (Heap.get?_push_of_some _ q)
  have cok := cellsFrom_ok scope.names (s3.heap.push { cls := .type "dict", data := .dict #[] }) (s3.heap.objs.size + 1) [] ⟨fun _ _ hm => (nomatch hm), List.Pairwise.nil⟩ (by rw [Heap.size_push]; exact Nat.le_refl _)
  rw [Heap.size_push] at cok
  generalize pushCells (s3.heap.push { cls := .type "dict", data := .dict #[] }) scope.names = h4 at ns4 up4 cok ⊢
  generalize eH : upd H2 s2.heap.objs.size (.lst []) = H3 at I3 w0
  have hD : s2.heap.objs.size < s3.heap.objs.size := by rw [← e3h, Heap.size_push]; exact Nat.lt_succ_self _
  have up3 : ∀ b o, s2.heap.get? b = some o -> s3.heap.get? b = some o := fun b o q => by rw [← e3h]; exact Heap.get?_push_of_some _ q
  have clt : ∀ x c, cl.lookup x = some c -> c < s3.heap.objs.size := fun x c q => by
    obtain ⟨v, oc, hoc, _⟩ := I3.cell x c (C.sub _ _ q)
    exact Heap.lt_size hoc
  have cas : ∀ x c, (cellsFrom (s3.heap.objs.size + 1) scope.names cl).lookup x = some c -> (cl.lookup x = some c /\ x ∉ ownC scope) ∨ (x ∈ ownC scope /\ (x, c) ∈ cellsFrom (s3.heap.objs.size + 1) scope.names []) := fun x c q => by
    rw [cellsFrom_app, lookup_app] at q
    cases e : (cellsFrom (s3.heap.objs.size + 1) scope.names []).lookup x with
    | some c' =>
      rw [e] at q
      cases q
      have m := mem_of_lookup e
      exact .inr ⟨mem_own.mpr (mem_cellsFrom m), m⟩
    | none =>
      rw [e] at q
      have q' : cl.lookup x = some c := q
      refine .inl ⟨q', fun z => ?_⟩
      rw [C.dis x z] at q'
      cases q'
  have csub : ∀ x c, cl.lookup x = some c -> (cellsFrom (s3.heap.objs.size + 1) scope.names cl).lookup x = some c := fun x c q => by
    rw [cellsFrom_app, lookup_app]
    cases e : (cellsFrom (s3.heap.objs.size + 1) scope.names []).lookup x with
    | none => exact q
    | some c' =>
      have := C.dis x (mem_own.mpr (mem_cellsFrom (mem_of_lookup e)))
      rw [q] at this
      cases this
  have cnew : ∀ x c, (x, c) ∈ cellsFrom (s3.heap.objs.size + 1) scope.names [] -> h4.IsCell c none /\ s3.heap.objs.size + 1 <= c := fun x c m => cok.empty x c m
  have fpo : ∀ b ∈ fp, b < s3.heap.objs.size := fun b hb => by
    obtain ⟨o, eo, _⟩ := T.obj 0 _ st2 b hb
    exact Heap.lt_size (up3 b o eo)
  have fst : ∀ b ∈ fp, b ∉ frs X.stack := fun b hb z => by
    rcases List.mem_cons.mp (I3.stkSub b z) with q | q
    · exact (f2 b hb).2.1 q
    · exact (f2 b hb).2.2.1 q
  have okY : (compCxC X scope cl N fp pins s3 H3 fun _ _ => False).Ok := by
    refine ⟨I.ok.mod, C.kind, I.ok.glob, I.ok.blt, Nat.le_refl _, fun x y c q1 q2 => ?_, fun x z => ?_, fun x c z q => ?_, ⟨I.ok.hd.1, fun hw => I3.hdC hw fun b hb => (f2 b hb).2.2.2.1⟩, I.ok.frames, .inl rfl, fun b hb => ⟨Nat.ne_of_lt (fpo b hb), fun x c q => ?_⟩,
      I3.bs, Nat.le_trans I.ok.bsz I3.sz, fun b o q hb => ?_, fst, I3.stack, I3.stkFree⟩
    · rcases cas x c q1 with ⟨a1, _⟩ | ⟨_, a1⟩
      · rcases cas y c q2 with ⟨a2, _⟩ | ⟨_, a2⟩
        · exact I.ok.inj x y c (C.sub _ _ a1) (C.sub _ _ a2)
        · exact absurd (clt x c a1) (Nat.not_lt.mpr (Nat.le_trans (Nat.le_succ _) (cnew y c a2).2))
      · rcases cas y c q2 with ⟨a2, _⟩ | ⟨_, a2⟩
        · exact absurd (clt y c a2) (Nat.not_lt.mpr (Nat.le_trans (Nat.le_succ _) (cnew x c a1).2))
        · exact name_of_addr cok.apart a1 a2
    · rcases C.has x z with ⟨c, h'⟩ | h'
      · exact ⟨c, csub x c h'⟩
      · obtain ⟨c, m⟩ := of_mem_cells (n := s3.heap.objs.size + 1) (mem_own.mp h')
        obtain ⟨c', e'⟩ := lookup_of_key (List.mem_map.mpr ⟨(x, c), m, rfl⟩)
        refine ⟨c', ?_⟩
        show (cellsFrom (s3.heap.objs.size + 1) scope.names cl).lookup x = some c'
        rw [cellsFrom_app, lookup_app, e']
        rfl
    · rcases cas x c q with ⟨_, a1⟩ | ⟨_, a1⟩
      · exact absurd (List.contains_iff_mem.mp z) a1
      · exact Nat.le_trans (Nat.le_succ _) (cnew x c a1).2
    · rcases cas x c q with ⟨a1, _⟩ | ⟨_, a1⟩
      · exact (f2 b hb).2.2.2.2.1 x c (C.sub _ _ a1)
      · exact Nat.ne_of_gt (Nat.lt_of_lt_of_le (fpo b hb) (Nat.le_trans (Nat.le_succ _) (cnew x c a1).2))
    rcases (f2 b hb).2.2.2.1 with z | z
    · exact I.ok.noex b o q z
    · exact absurd (Nat.lt_of_lt_of_le (Heap.lt_size q) (Nat.le_trans I.ok.bsz z)) (Nat.lt_irrefl _)
  have I4 : Inv (compCxC X scope cl N fp pins s3 H3 fun _ _ => False) [] (pick js σ) H3 { s3 with heap := h4 } := by
    refine ⟨okY, rfl, I3.bare, Un.kept up4, ⟨_, ns4, fun i x v q1 q2 q3 => ?_⟩, fun x c q => ?_, I3.hok.fresh (Nat.le_refl _), fun x c q => ?_, fun p hp => ?_, I3.hok.kept up4, ?_⟩
    · obtain ⟨j, k1, k2⟩ := pick_get q2
      obtain ⟨z1, z0, z2, z3⟩ := C.seen i j x q1 k1
      obtain ⟨m, hn, hl⟩ := I3.loc
      obtain ⟨u, ru, lk⟩ := hl j x v z1 k2 (.inr (.inl z2))
      refine ⟨u, ru, .inr ⟨z3, ?_⟩⟩
      rcases lk with ⟨k, _⟩ | ⟨_, c, ec, oc, hoc, hdc⟩
      · have k' : X.env.scope.names.lookup x = some .local := k
        rw [z2] at k'; cases k'
      · obtain ⟨c', ec'⟩ := (C.has x z3).resolve_right z0
        have := C.sub _ _ ec'
        rw [ec] at this
        cases this
        exact ⟨c, csub x c ec', oc, up4 _ _ hoc, hdc⟩
    · rcases cas x c q with ⟨a1, _⟩ | ⟨_, a1⟩
      · obtain ⟨v, oc, hoc, hdc⟩ := I3.cell x c (C.sub _ _ a1)
        exact ⟨v, oc, up4 _ _ hoc, hdc⟩
      · exact ⟨none, (cnew x c a1).1⟩
    · rcases cas x c q with ⟨a1, _⟩ | ⟨_, a1⟩
      · exact I3.freeC x c (C.sub _ _ a1)
      · exact I3.hok.fresh (Nat.le_trans (Nat.le_succ _) (cnew x c a1).2)
    · have hp' : p ∈ X.pn ++ pins := by simpa using hp
      obtain ⟨q1, q2, q3, q4, q5⟩ := I3.pin p hp'
      refine ⟨up4 _ _ q1, q2, Nat.ne_of_lt (Heap.lt_size q1), fun z => ?_, q5⟩
      rcases List.mem_cons.mp (I3.stkSub _ z) with q | q
      · exact q3 q
      · exact q4 q
    · show (pick js σ).length = N.length
      unfold pick
      rw [List.length_map, C.len]
  have stat : ∀ {H' : Hp}, (∀ b ∈ fp, H' b = none) -> ∀ b ∈ fp, FpOk (compCxC X scope cl N fp pins s3 H3 fun _ _ => False) [] H' b := fun hn b hb =>
    ⟨hn b hb, Nat.ne_of_lt (fpo b hb), fst b hb, .inl hb, fun x c q => by
      rcases cas x c q with ⟨a1, _⟩ | ⟨_, a1⟩
      · exact (f2 b hb).2.2.2.2.1 x c (C.sub _ _ a1)
      · exact Nat.ne_of_gt (Nat.lt_of_lt_of_le (fpo b hb) (Nat.le_trans (Nat.le_succ _) (cnew x c a1).2)), fun p hp => (f2 b hb).2.2.2.2.2 p (by simpa using hp)⟩
  have st4 : tn 0 h4 := T.keep 0 _ _ st2 fun b hb o q => up4 b o (up3 b o q)
  have nx : ∀ e s', (compCxC X scope cl N fp pins s3 H3 fun _ _ => False).xe e s' -> False := fun _ _ z => z
  have loop : codeAny (model X.prog X.w) X.A (.compLoop (.ListComp elt [⟨tg, iter, cs, 0⟩] scope pos) 0 (.ref it) (.ref s2.heap.objs.size) (compEnvC scope (cellsFrom (s3.heap.objs.size + 1) scope.names cl) s3.heap.objs.size X.env))
      (compPost (model X.prog X.w) X.A X.xe none (EP X pins σ Q) (.ref s2.heap.objs.size) s3.heap.objs.size) { s3 with heap := h4 } := by
    refine loop_go (fun n s' => ∃ i σ' H' ys, Inv (compCxC X scope cl N fp pins s3 H3 fun _ _ => False) [] σ' H' s' /\ tn i s'.heap /\ (∀ b ∈ fp, H' b = none) /\ W i n σ' H' ys) ?_ m0 ⟨0, _, H3, [], I4, st4, fun b hb => ?_, w0⟩
    · rintro n s5 ⟨i, σ5, H5, ys, I5, st5, fr5, w5⟩
      obtain ⟨hD5, way⟩ := turn i n σ5 H5 ys w5
      rcases way with ⟨stop, qn⟩ | ⟨go, hz, NN, hN, step⟩
      · refine noEx nx (thn (T.done (compCxC X scope cl N fp pins s3 H3 fun _ _ => False) rfl rfl rfl rfl hc i [] s5 σ5 H5 _ I5 (stat fr5) st5 stop) fun r s6 ⟨hr, I6⟩ => ?_)
        subst hr
        obtain ⟨m, hn, _⟩ := I6.loc
        refine ⟨m, hn, fun h' sb => ⟨.ref s2.heap.objs.size, H5, ?_, rfl, qn⟩⟩
        have low : ∀ b o, s3.heap.get? b = some o -> b ≠ s3.heap.objs.size := fun b o q => Nat.ne_of_lt (Heap.lt_size q)
        have same : ∀ b, b ≠ s3.heap.objs.size -> h'.get? b = s6.heap.get? b := fun b hb => sb.2 b hb
        have B := I6.base
        refine I3.call' (s' := { s6 with heap := h' }) (H' := H5) (ch := fp) I6.os ⟨fun b o q n0 h1 h2 => ?_, fun b o q n0 h1 h2 => ?_, B.free, fun b o q h2 => ?_, B.tups, B.frzs, B.tbls⟩ (fun a o q => ?_) I6.bare (fun b hb => ⟨(f2 b hb).2.2.2.1, (f2 b hb).2.1, (f2 b hb).2.2.2.2.1, (f2 b hb).2.2.2.2.2⟩)
        · exact (same b (low b o q)).trans (B.keep b o q n0 h1 h2)
        · obtain ⟨sl, z⟩ := B.slot b o q n0 h1 h2
          exact ⟨sl, (same b (low b o q)).trans z⟩
        · obtain ⟨o', z⟩ := B.there b o q h2
          exact ⟨o', (same b (low b o q)).trans z⟩
        · have nC : ∀ c u, H5 c = some u -> c ≠ s3.heap.objs.size := fun c u z y => by
            have := I6.free
            rw [y] at z
            rw [show H5 s3.heap.objs.size = none from this] at z
            cases z
          refine (I6.hok a o q).stay (fun c u hc' z => (same c ?_).trans z) (fun _ z => z) fun _ _ z => z
          rcases hc' with z' | z'
          · rw [z']; exact nC a o q
          · exact nC c _ z'
      · refine noEx nx (thn (T.item (compCxC X scope cl N fp pins s3 H3 fun _ _ => False) rfl rfl rfl rfl hc i [] s5 σ5 H5 _ I5 (stat fr5) st5 go) fun r s6 ⟨u, hr, h6⟩ => ?_)
        subst hr
        refine noEx nx (thn h6 fun _ s7 ⟨x, H7, I7, r7, y7, st7, fr7⟩ => ?_)
        have I7' := I7.pinned (stat fr7) (T.obj _ _ st7)
        refine noEx nx (thn (hg fp pins s3 H3 _ s7 σ5 H7 x u _ I7' r7 (step x H7 y7)) fun _ s8 ⟨σ8, H8, I8, q8⟩ => ?_)
        refine noEx nx (thn (ht fp pins s3 H3 _ s8 σ8 H8 _ I8 q8) fun k s9 ⟨H9, I9, q9⟩ => ?_)
        have fin : ∀ {s' : Shared} {σ' : St} {H' : Hp} {ys' : List V}, Inv (compCxC X scope cl N fp pins s3 H3 fun _ _ => False) ([] ++ pinsAt fp s7.heap) σ' H' s' -> NN σ' H' ys' ->
            ∃ m', m' < n /\ ∃ i σ' H' ys, Inv (compCxC X scope cl N fp pins s3 H3 fun _ _ => False) [] σ' H' s' /\ tn i s'.heap /\ (∀ b ∈ fp, H' b = none) /\ W i m' σ' H' ys := fun {s' σ' H' ys'} Iv nv => by
          obtain ⟨m', hm, wv⟩ := hN σ' H' ys' nv
          refine ⟨m', hm, i + 1, σ', H', ys', Iv.unpinned, T.keep _ _ _ st7 fun b hb o q => (Iv.pin (b, o) (List.mem_append_right _ (List.mem_append_right _ (mem_pinsAt hb q)))).1, fun b hb => ?_, wv⟩
          obtain ⟨o, q, _⟩ := T.obj _ _ st7 b hb
          exact (Iv.pin (b, o) (List.mem_append_right _ (List.mem_append_right _ (mem_pinsAt hb q)))).2.1
        cases k with
        | false =>
          rw [if_neg Bool.false_ne_true] at q9 ⊢
          exact fin I9 q9.2
        | true =>
          rw [if_pos rfl] at q9 ⊢
          refine noEx nx (thn (he fp pins s3 H3 _ s9 σ8 H9 _ I9 q9) fun y sA ⟨yv, HA, IA, rA, hDA, qA⟩ => ?_)
          refine noEx nx (thn (mt_append _ sA σ8 HA (.ref s2.heap.objs.size) [yv] _ [y] (fun _ HB => NN σ8 HB (ys ++ [yv])) IA rfl (.cons rA .nil) ⟨_, ys, yv, rfl, rfl, hDA, hz, qA⟩) fun _ sB ⟨_, HB, IB, _, qB⟩ => ?_)
          exact fin IB qB
    · rw [← eH, upd_ne]
      · exact (f2 b hb).1
      · obtain ⟨o, eo, _⟩ := T.obj 0 _ st2 b hb
        exact Nat.ne_of_lt (Heap.lt_size eo)
  have goal : codeAny (model X.prog X.w) X.A (.compStart (.ListComp elt [⟨tg, iter, cs, 0⟩] scope pos) 0 (.ref it) (.ref s2.heap.objs.size) (compEnvC scope (cellsFrom (s3.heap.objs.size + 1) scope.names cl) s3.heap.objs.size X.env))
      (compPost (model X.prog X.w) X.A X.xe none (EP X pins σ Q) (.ref s2.heap.objs.size) s3.heap.objs.size) { s3 with heap := h4 } :=
    codeAny_compStart_list loop (T.self _ 0 _ _ _ st4 loop)
  subst e3
  exact goal
theorem CompOk.c {X : Cx} {scope : Scope} {cl : List (Str × Addr)} {N : List Str} {js : List (Option Nat)} (C : CompOk X scope cl N js) : CompOkC X scope cl N js := ⟨C.clos, fun x hx => absurd rfl (C.nocell _ (mem_own.mp hx)), C.kind, C.names, C.sub, fun x h => .inl (C.has x h), C.len, fun i j x h1 h2 => let ⟨a, b, c⟩ := C.seen i j x h1 h2; ⟨a, fun hx => absurd rfl (C.nocell _ (mem_own.mp hx)), b, c⟩⟩
theorem comp_eq {X : Cx} {scope : Scope} {cl : List (Str × Addr)} {N : List Str} {fp : List Addr} {pins : List (Addr × Obj)} {s : Shared} {H : Hp} {E : Value -> Shared -> Prop} (nc : ∀ y ∈ scope.names, y.2 ≠ .cell) : compCxC X scope cl N fp pins s H E = compCx X scope cl N fp pins s H E := by
  have e0 : ownC scope = [] := List.eq_nil_iff_forall_not_mem.mpr fun x hx => nc _ (mem_own.mp hx) rfl
  have e1 : cellsFrom (s.heap.objs.size + 1) scope.names cl = cl := by
    rw [cellsFrom_app, show cellsFrom (s.heap.objs.size + 1) scope.names [] = [] from List.eq_nil_iff_forall_not_mem.mpr fun p hp => nc _ (mem_cellsFrom (x := p.1) (c := p.2) hp) rfl]
    rfl
  unfold compCxC
  rw [e0, e1]
  rfl
theorem pe_comp {X : Cx} {elt tg iter : Expr} {cs : List Expr} {scope : Scope} {pos : Pos} {cl : List (Str × Addr)} {N : List Str} {js : List (Option Nat)} {wi : TI} {g : TG} {tc : TT} {te : TE}
    (C : CompOk X scope cl N js) (hc : X.warm = true) (hi : PI X tg iter wi)
    (hg : ∀ fp pins s H, PG (compCx X scope cl N fp pins s H fun _ _ => False) tg g)
    (ht : ∀ fp pins s H, PTs (compCx X scope cl N fp pins s H fun _ _ => False) cs tc)
    (he : ∀ fp pins s H, PE (compCx X scope cl N fp pins s H fun _ _ => False) elt te)
    (hs : ∀ x, foldedSetIterable iter X.env x = pure x := by intro _; rfl) : PE X (.ListComp elt [⟨tg, iter, cs, 0⟩] scope pos) (tComp js wi g tc te) :=
  pe_compC C.c hc hi (fun fp pins s H => by rw [comp_eq C.nocell]; exact hg fp pins s H) (fun fp pins s H => by rw [comp_eq C.nocell]; exact ht fp pins s H) (fun fp pins s H => by rw [comp_eq C.nocell]; exact he fp pins s H) hs
end L2
namespace Zt
open PySem PyProof.Rows
theorem notNone (t : Addr) : ¬ ((Value.ref t == Value.none) = true) := Bool.false_ne_true
section
variable {prog : Program} {w : World} {A : Around} {E : Value -> Shared -> Prop} {s : Shared}
theorem pull {j t : Addr} {k : Nat} {vs : Array Value} {x : Value} {Q : Value -> Shared -> Prop} (a : s.heap.IsTupleIter j t k) (b : s.heap.IsTuple t vs) (c : vs[k]? = some x)
    (q : ∀ g, g.IsTupleIter j t (k + 1) -> Heap.SameBut j s.heap g -> Q x { s with heap := g }) : wpAny (model prog w) A (Builtin.SmallTypes.nextOf (.ref j)) Q E s := by
  obtain ⟨oj, gj, cj, dj⟩ := id a
  obtain ⟨ot, gt, _, nt, dt⟩ := b
  unfold Builtin.SmallTypes.nextOf
  refine wpAny_bind (wpAny_callSpecial?_slot (name := Str.ofString "__next__") a.typeIs F.slot_tuple_iterator_next (wpAny_call_entry F.slot_tuple_iterator_next a.typeIs F.entry_tuple_iterator_next ?_ (F.args_tuple_iterator_next_1 _)))
  show wpAny _ _ (field (.ref j) 0 >>= _) _ _ s
  refine wpAny_bind (wpAny_field gj dj (x := .ref t) rfl ?_)
  show wpAny _ _ (ite ((Value.ref t == Value.none) = true) _ _) _ _ s
  rw [if_neg (notNone t)]
  show wpAny _ _ (field (.ref j) 1 >>= _) _ _ s
  refine wpAny_bind (wpAny_field gj dj (x := .int k 0) rfl ?_)
  show wpAny _ _ (seqItems? (.ref t) >>= _) _ _ s
  refine wpAny_bind (wpAny_seqItems gt dt ?_)
  simp only [Int.toNat_natCast, c]
  refine wpAny_bind (wpAny_setField gj dj (by simp) (wpAny_pure ⟨x, rfl, wpAny_pure (q _ ⟨_, Heap.get?_update_self _ gj (Obj.isFreed_of_fields (Obj.data_mapFields dj _)), (Obj.cls_mapFields ..).trans cj, ?_⟩ (Heap.SameBut.update ..))⟩))
  rw [Obj.data_mapFields dj]
  simp [rawInt]
def Iu (p : Bool) (h : Heap) (j t : Addr) (k : Nat) : Prop := bif p then h.IsListIter j t k else h.IsTupleIter j t k
def Su (p : Bool) (h : Heap) (t : Addr) (xs : Array Value) : Prop := bif p then h.IsList t xs else h.IsTuple t xs
theorem Iu.extBut {p : Bool} {h g : Heap} {j t z : Addr} {k : Nat} (a : Iu p h j t k) (e : Heap.ExtBut z h g) (n : j ≠ z) : Iu p g j t k := by
  cases p
  · exact Heap.IsTupleIter.extBut a e n
  · exact Heap.IsListIter.extBut a e n
theorem Su.extBut {p : Bool} {h g : Heap} {t z : Addr} {xs : Array Value} (a : Su p h t xs) (e : Heap.ExtBut z h g) (n : t ≠ z) : Su p g t xs := by
  cases p
  · exact Heap.IsTuple.extBut a e n
  · exact Heap.IsList.extBut a e n
theorem Iu.up {p : Bool} {h g : Heap} {j t : Addr} {k : Nat} (a : Iu p h j t k) (u : ∀ o, h.get? j = some o -> g.get? j = some o) : Iu p g j t k := by
  cases p
  · obtain ⟨o, e, r⟩ := a
    exact ⟨o, u o e, r⟩
  · obtain ⟨o, e, r⟩ := a
    exact ⟨o, u o e, r⟩
theorem Iu.hd {p : Bool} {h g : Heap} {j t : Addr} {k : Nat} (a : Iu p h j t k) (hd : Hd.In A h) (u : Heap.ExtBut j h g) : Hd.In A g := by
  cases p
  · obtain ⟨o, e, _, d⟩ := a
    exact hd.but e (by rw [d]; exact Hd.two_no) u
  · obtain ⟨o, e, _, d⟩ := a
    exact hd.but e (by rw [d]; exact Hd.two_no) u
theorem pullB {p : Bool} {j t : Addr} {k : Nat} {vs : Array Value} {x : Value} {Q : Value -> Shared -> Prop} (a : Iu p s.heap j t k) (b : Su p s.heap t vs) (c : vs[k]? = some x)
    (q : ∀ g, Iu p g j t (k + 1) -> Heap.SameBut j s.heap g -> Q x { s with heap := g }) : wpAny (model prog w) A (Builtin.SmallTypes.nextOf (.ref j)) Q E s := by
  cases p
  · exact pull a b c q
  · exact wpAny_nextOf_list_item a b c q
theorem pull_endB {p : Bool} {j t : Addr} {k : Nat} {vs : Array Value} {Q : Value -> Shared -> Prop} (hd : Hd.In A s.heap) (a : Iu p s.heap j t k) (b : Su p s.heap t vs) (c : vs[k]? = none)
    (q : ∀ g e, Heap.ExtBut j s.heap g -> (∃ o, g.get? e = some o /\ o.cls = .type "StopIteration") -> E (.ref e) { s with heap := g }) : wpAny (model prog w) A (Builtin.SmallTypes.nextOf (.ref j)) Q E s := by
  cases p
  · exact Hd.tup_pull hd a b c q
  · exact Hd.list_pull hd a b c q
theorem zip_item {p1 p2 : Bool} {z TI TO j1 j2 t1 t2 : Addr} {k : Nat} {xs ys : Array Value} {x y a b : Value} {Q : Value -> Shared -> Prop} (D : ZipApart z TI TO j1 j2 t1 t2)
    (zz : IsZip s.heap z TI TO .none) (zI : IsPair s.heap TI (.ref j1) (.ref j2)) (zO : IsPair s.heap TO a b)
    (i1 : Iu p1 s.heap j1 t1 k) (i2 : Iu p2 s.heap j2 t2 k) (l1 : Su p1 s.heap t1 xs) (l2 : Su p2 s.heap t2 ys) (ex : xs[k]? = some x) (ey : ys[k]? = some y)
    (q : ∀ g, IsZip g z TI TO (rawInt s.heap.objs.size) -> IsPair g TO x y -> Iu p1 g j1 t1 (k + 1) -> Iu p2 g j2 t2 (k + 1) -> IsPair g s.heap.objs.size x y ->
      (∀ c o, c ≠ z -> c ≠ TO -> c ≠ j1 -> c ≠ j2 -> s.heap.get? c = some o -> g.get? c = some o) -> Q (.ref s.heap.objs.size) { s with heap := g }) :
    wpAny (model prog w) A (Builtin.«zip.__next__» ⟨[.ref z], []⟩) (fun fin s' => ∃ v, fin = .done (.ret v) /\ Q v s') E s := by
  show wpAny _ _ (field (.ref z) 2 >>= _) _ _ _
  refine wpAny_bind (wpAny_field zz rfl (x := .bool false) rfl ?_)
  show wpAny _ _ (field (.ref z) 3 >>= _) _ _ _
  refine wpAny_bind (wpAny_field zz rfl (x := .ref TI) rfl (wpAny_bind (wpAny_seqItems zI rfl ?_)))
  show wpAny _ _ (Builtin.SmallTypes.ownedTupleIsFree (.ref z) >>= _) _ _ _
  refine wpAny_bind ?_
  unfold Builtin.SmallTypes.ownedTupleIsFree
  refine wpAny_bind (wpAny_field zz rfl (x := .none) rfl (wpAny_pure ?_))
  simp only [if_true]
  refine wpAny_bind (wpAny_rule (wpAny_bind (wpAny_field zz rfl (x := .ref TO) rfl (wpAny_bind (wpAny_setField_rec zz (by simp) fun g1 zz1 s1 => ?_)))))
  replace zz1 : IsZip g1 z TI TO .ellipsis := zz1
  refine wpAny_bind ?_
  simp only [List.zipIdx_cons, List.zipIdx_nil, List.forIn_cons, List.forIn_nil]
  refine wpAny_bind (wpAny_bind (wpAny_onRaise ?_))
  show wpAny _ _ (Builtin.SmallTypes.nextOf (.ref j1) >>= _) _ _ _
  refine wpAny_bind (pullB (i1.extBut s1.extBut D.i1z) (l1.extBut s1.extBut D.l1z) ex fun g2 i1' s2 => wpAny_pure ?_)
  have zO2 : IsPair g2 TO a b := s2.extBut _ _ D.TOi1 (s1.extBut _ _ D.TOz zO)
  refine wpAny_bind (wpAny_seqItems zO2 rfl (wpAny_bind (wpAny_updateSeq_pair zO2 fun g3 zO3 s3 => ?_)))
  replace zO3 : IsPair g3 TO x b := zO3
  refine wpAny_bind (wpAny_letGo (wpAny_pure (wpAny_bind (wpAny_bind (wpAny_onRaise ?_)))))
  show wpAny _ _ (Builtin.SmallTypes.nextOf (.ref j2) >>= _) _ _ _
  have i2' := ((i2.extBut s1.extBut D.i2z).extBut s2.extBut D.i12.symm).extBut s3.extBut D.TOi2.symm
  have l2' := ((l2.extBut s1.extBut D.l2z).extBut s2.extBut D.l2i1).extBut s3.extBut D.l2TO
  refine wpAny_bind (pullB i2' l2' ey fun g4 i2'' s4 => wpAny_pure ?_)
  have zO4 : IsPair g4 TO x b := s4.extBut _ _ D.TOi2 zO3
  refine wpAny_bind (wpAny_seqItems zO4 rfl (wpAny_bind (wpAny_updateSeq_pair zO4 fun g5 zO5 s5 => ?_)))
  replace zO5 : IsPair g5 TO x y := zO5
  refine wpAny_bind (wpAny_letGo (wpAny_pure (wpAny_pure (wpAny_bind (wpAny_seqItems zO5 rfl (wpAny_bind (wpAny_newTuple ?_)))))))
  have sz : g5.objs.size = s.heap.objs.size := by rw [s5.1, s4.1, s3.1, s2.1, s1.1]
  have zz5 : IsZip g5 z TI TO .ellipsis := s5.extBut _ _ D.TOz.symm (s4.extBut _ _ D.i2z.symm (s3.extBut _ _ D.TOz.symm (s2.extBut _ _ D.i1z.symm zz1)))
  have up5 : ∀ c o, c ≠ z -> c ≠ TO -> c ≠ j1 -> c ≠ j2 -> s.heap.get? c = some o -> g5.get? c = some o := fun c o n1 n2 n3 n4 q' =>
    s5.extBut _ _ n2 (s4.extBut _ _ n4 (s3.extBut _ _ n2 (s2.extBut _ _ n3 (s1.extBut _ _ n1 q'))))
  have j15 : Iu p1 g5 j1 t1 (k + 1) := ((i1'.extBut s3.extBut D.TOi1.symm).extBut s4.extBut D.i12).extBut s5.extBut D.TOi1.symm
  have j25 : Iu p2 g5 j2 t2 (k + 1) := i2''.extBut s5.extBut D.TOi2.symm
  have zlt : z < g5.objs.size := Heap.lt_size zz5
  show wpAny _ _ (Builtin.SmallTypes.ownedTupleHandOut (.ref z) (.ref g5.objs.size) >>= _) _ _ _
  refine wpAny_bind ?_
  unfold Builtin.SmallTypes.ownedTupleHandOut
  have zz6 : IsZip (g5.push { cls := .type "tuple", data := .seq #[x, y] }) z TI TO .ellipsis := Heap.get?_push_of_some _ zz5
  refine wpAny_bind (wpAny_setField_rec zz6 (by simp) fun g7 zz7 s7 => ?_)
  replace zz7 : IsZip g7 z TI TO (rawInt g5.objs.size) := zz7
  refine wpAny_setField_rec zz7 (by simp) fun g8 zz8 s8 => ?_
  replace zz8 : IsZip g8 z TI TO (rawInt g5.objs.size) := zz8
  have up8 : ∀ c o, c ≠ z -> g5.get? c = some o -> g8.get? c = some o := fun c o n1 q' => s8.extBut _ _ n1 (s7.extBut _ _ n1 (Heap.get?_push_of_some _ q'))
  have new8 : IsPair g8 g5.objs.size x y := s8.extBut _ _ (Nat.ne_of_gt zlt) (s7.extBut _ _ (Nat.ne_of_gt zlt) (Heap.get?_push_size _ rfl))
  rw [sz] at zz8 new8
  refine wpAny_pure ⟨_, rfl, ?_⟩
  show Q (.ref g5.objs.size) _
  rw [sz]
  refine q g8 zz8 (up8 _ _ D.TOz zO5) ?_ ?_ new8 fun c o n1 n2 n3 n4 q' => up8 c o n1 (up5 c o n1 n2 n3 n4 q')
  · exact j15.up fun o => up8 _ o D.i1z
  · exact j25.up fun o => up8 _ o D.i2z
theorem zip_stop {p1 p2 : Bool} {z TI TO j1 j2 t1 t2 : Addr} {k : Nat} {xs ys : Array Value} {a b : Value} {Q : Fin -> Shared -> Prop} (hd : Hd.In A s.heap) (D : ZipApart z TI TO j1 j2 t1 t2)
    (zz : IsZip s.heap z TI TO .none) (zI : IsPair s.heap TI (.ref j1) (.ref j2)) (zO : IsPair s.heap TO a b)
    (i1 : Iu p1 s.heap j1 t1 k) (i2 : Iu p2 s.heap j2 t2 k) (l1 : Su p1 s.heap t1 xs) (l2 : Su p2 s.heap t2 ys) (ee : xs[k]? = none ∨ ys[k]? = none)
    (q : ∀ g e, (∀ c o, c ≠ z -> c ≠ TO -> c ≠ j1 -> c ≠ j2 -> s.heap.get? c = some o -> g.get? c = some o) -> (∃ o, g.get? e = some o /\ o.cls = .type "StopIteration") -> E (.ref e) { s with heap := g }) :
    wpAny (model prog w) A (Builtin.«zip.__next__» ⟨[.ref z], []⟩) Q E s := by
  show wpAny _ _ (field (.ref z) 2 >>= _) _ _ _
  refine wpAny_bind (wpAny_field zz rfl (x := .bool false) rfl ?_)
  show wpAny _ _ (field (.ref z) 3 >>= _) _ _ _
  refine wpAny_bind (wpAny_field zz rfl (x := .ref TI) rfl (wpAny_bind (wpAny_seqItems zI rfl ?_)))
  show wpAny _ _ (Builtin.SmallTypes.ownedTupleIsFree (.ref z) >>= _) _ _ _
  refine wpAny_bind ?_
  unfold Builtin.SmallTypes.ownedTupleIsFree
  refine wpAny_bind (wpAny_field zz rfl (x := .none) rfl (wpAny_pure ?_))
  simp only [if_true]
  refine wpAny_bind (wpAny_rule (wpAny_bind (wpAny_field zz rfl (x := .ref TO) rfl (wpAny_bind (wpAny_setField_rec zz (by simp) fun g1 zz1 s1 => ?_)))))
  replace zz1 : IsZip g1 z TI TO .ellipsis := zz1
  refine wpAny_bind ?_
  simp only [List.zipIdx_cons, List.zipIdx_nil, List.forIn_cons, List.forIn_nil]
  refine wpAny_bind (wpAny_bind (wpAny_onRaise ?_))
  show wpAny _ _ (Builtin.SmallTypes.nextOf (.ref j1) >>= _) _ _ _
  have hd1 : Hd.In A g1 := hd.but zz (fun vs e => by injection e with e; subst e; exact fun z => nomatch z) s1.extBut
  cases ex : xs[k]? with
  | none =>
    refine wpAny_bind (pull_endB hd1 (i1.extBut s1.extBut D.i1z) (l1.extBut s1.extBut D.l1z) ex fun g2 e s2 ⟨oe, goe, coe⟩ => ?_)
    have zz2 : IsZip g2 z TI TO .ellipsis := s2 _ _ D.i1z.symm zz1
    have nez : e ≠ z := fun y => by
      subst y
      rw [zz2] at goe
      cases goe
      simp at coe
    exact wpAny_setField_rec zz2 (by simp) fun g3 _ s3 => q g3 e (fun c o n1 _ n3 _ y => s3.extBut _ _ n1 (s2 _ _ n3 (s1.extBut _ _ n1 y))) ⟨oe, s3.extBut _ _ nez goe, coe⟩
  | some x =>
    have ey : ys[k]? = none := ee.resolve_left (by rw [ex]; exact fun y => nomatch y)
    refine wpAny_bind (pullB (i1.extBut s1.extBut D.i1z) (l1.extBut s1.extBut D.l1z) ex fun g2 i1' s2 => wpAny_pure ?_)
    have zO2 : IsPair g2 TO a b := s2.extBut _ _ D.TOi1 (s1.extBut _ _ D.TOz zO)
    refine wpAny_bind (wpAny_seqItems zO2 rfl (wpAny_bind (wpAny_updateSeq_pair zO2 fun g3 zO3 s3 => ?_)))
    refine wpAny_bind (wpAny_letGo (wpAny_pure (wpAny_bind (wpAny_bind (wpAny_onRaise ?_)))))
    show wpAny _ _ (Builtin.SmallTypes.nextOf (.ref j2) >>= _) _ _ _
    have i2' := ((i2.extBut s1.extBut D.i2z).extBut s2.extBut D.i12.symm).extBut s3.extBut D.TOi2.symm
    have l2' := ((l2.extBut s1.extBut D.l2z).extBut s2.extBut D.l2i1).extBut s3.extBut D.l2TO
    have hd2 : Hd.In A g2 := (i1.extBut s1.extBut D.i1z).hd hd1 s2.extBut
    have hd3 : Hd.In A g3 := hd2.but zO2 (fun vs e => nomatch e) s3.extBut
    refine wpAny_bind (pull_endB hd3 i2' l2' ey fun g4 e s4 ⟨oe, goe, coe⟩ => ?_)
    have zz4 : IsZip g4 z TI TO .ellipsis := s4 _ _ D.i2z.symm (s3.extBut _ _ D.TOz.symm (s2.extBut _ _ D.i1z.symm zz1))
    have nez : e ≠ z := fun y => by
      subst y
      rw [zz4] at goe
      cases goe
      simp at coe
    exact wpAny_setField_rec zz4 (by simp) fun g5 _ s5 => q g5 e (fun c o n1 n2 n3 n4 y => s5.extBut _ _ n1 (s4 _ _ n4 (s3.extBut _ _ n2 (s2.extBut _ _ n3 (s1.extBut _ _ n1 y))))) ⟨oe, s5.extBut _ _ nez goe, coe⟩
theorem next_item {p1 p2 : Bool} {z TI TO j1 j2 t1 t2 : Addr} {k : Nat} {xs ys : Array Value} {x y a b : Value} {Q : Option Value -> Shared -> Prop} (D : ZipApart z TI TO j1 j2 t1 t2)
    (zz : IsZip s.heap z TI TO .none) (zI : IsPair s.heap TI (.ref j1) (.ref j2)) (zO : IsPair s.heap TO a b)
    (i1 : Iu p1 s.heap j1 t1 k) (i2 : Iu p2 s.heap j2 t2 k) (l1 : Su p1 s.heap t1 xs) (l2 : Su p2 s.heap t2 ys) (ex : xs[k]? = some x) (ey : ys[k]? = some y)
    (q : ∀ g, IsZip g z TI TO (rawInt s.heap.objs.size) -> IsPair g TO x y -> Iu p1 g j1 t1 (k + 1) -> Iu p2 g j2 t2 (k + 1) -> IsPair g s.heap.objs.size x y ->
      (∀ c o, c ≠ z -> c ≠ TO -> c ≠ j1 -> c ≠ j2 -> s.heap.get? c = some o -> g.get? c = some o) -> Q (some (.ref s.heap.objs.size)) { s with heap := g }) : wpAny (model prog w) A (pyNext (.ref z)) Q E s := by
  have ty : s.TypeIs (.ref z) "zip" := ⟨_, zz, rfl⟩
  unfold pyNext
  refine wpAny_bind (wpAny_attempt (wpAny_callSpecial?_slot (name := Str.ofString "__next__") ty F.slot_zip_next (wpAny_call_entry F.slot_zip_next ty F.entry_zip_next ?_ (F.args_zip_next_1 _))))
  exact zip_item D zz zI zO i1 i2 l1 l2 ex ey fun g b1 b2 b3 b4 b5 b6 => wpAny_pure (q g b1 b2 b3 b4 b5 b6)
theorem next_stop {p1 p2 : Bool} {z TI TO j1 j2 t1 t2 : Addr} {k : Nat} {xs ys : Array Value} {a b : Value} {Q : Option Value -> Shared -> Prop} (hd : Hd.In A s.heap) (D : ZipApart z TI TO j1 j2 t1 t2)
    (zz : IsZip s.heap z TI TO .none) (zI : IsPair s.heap TI (.ref j1) (.ref j2)) (zO : IsPair s.heap TO a b)
    (i1 : Iu p1 s.heap j1 t1 k) (i2 : Iu p2 s.heap j2 t2 k) (l1 : Su p1 s.heap t1 xs) (l2 : Su p2 s.heap t2 ys) (ee : xs[k]? = none ∨ ys[k]? = none)
    (q : ∀ g, (∀ c o, c ≠ z -> c ≠ TO -> c ≠ j1 -> c ≠ j2 -> s.heap.get? c = some o -> g.get? c = some o) -> Q none { s with heap := g }) : wpAny (model prog w) A (pyNext (.ref z)) Q E s := by
  have ty : s.TypeIs (.ref z) "zip" := ⟨_, zz, rfl⟩
  unfold pyNext
  refine wpAny_bind (wpAny_attempt (wpAny_callSpecial?_slot (name := Str.ofString "__next__") ty F.slot_zip_next (wpAny_call_entry F.slot_zip_next ty F.entry_zip_next ?_ (F.args_zip_next_1 _))))
  refine zip_stop hd D zz zI zO i1 i2 l1 l2 ee fun g e up ⟨oe, goe, coe⟩ => ?_
  exact wpAny_bind (wpAny_isInstance (T := "StopIteration") (b := true) ⟨oe, goe, coe⟩ isSubtype_stop (wpAny_pure (q _ up)))
end
abbrev mkI (p : Bool) (t : Addr) : Obj := { cls := .type (bif p then "list_iterator" else "tuple_iterator"), data := .fields #[.ref t, .int 0 0] }
theorem Su.push {p : Bool} {h : Heap} {t : Addr} {xs : Array Value} (a : Su p h t xs) (o : Obj) : Su p (h.push o) t xs := by
  cases p
  · exact Heap.IsTuple.push a o
  · exact Heap.IsList.push a o
theorem pyIterB {prog : Program} {w : World} {A : Around} {E : Value -> Shared -> Prop} {s : Shared} {p : Bool} {t : Addr} {xs : Array Value} {Q : Value -> Shared -> Prop} (h : Su p s.heap t xs) (q : Q (.ref s.heap.objs.size) { s with heap := s.heap.push (mkI p t) }) : wpAny (model prog w) A (pyIter (.ref t)) Q E s := by
  cases p
  · exact wpAny_pyIter_tuple h q
  · exact wpAny_pyIter_list h q
abbrev mk1 (p : Bool) (h : Heap) (t1 : Addr) : Heap := h.push (mkI p t1)
abbrev mk2 (p q : Bool) (h : Heap) (t1 t2 : Addr) : Heap := (mk1 p h t1).push (mkI q t2)
abbrev mk3 (p q : Bool) (h : Heap) (t1 t2 : Addr) : Heap := (mk2 p q h t1 t2).push { cls := .type "tuple", data := .seq #[.ref h.objs.size, .ref (mk1 p h t1).objs.size] }
abbrev mk4 (p q : Bool) (h : Heap) (t1 t2 : Addr) : Heap := (mk3 p q h t1 t2).push { cls := .type "tuple", data := .seq #[.none, .none] }
abbrev mk5 (p q : Bool) (h : Heap) (t1 t2 : Addr) : Heap := (mk4 p q h t1 t2).push { cls := .type "zip", data := .fields #[.none, .bool false, .bool false, .ref (mk2 p q h t1 t2).objs.size, .ref (mk3 p q h t1 t2).objs.size] }
theorem meets_new (p q : Bool) (t1 t2 : Addr) (xs ys : Array Value) : Meets (Builtin.«zip.__new__» ⟨[.type "zip", .ref t1, .ref t2], []⟩) (fun _ R s => Su p s.heap t1 xs /\ Su q s.heap t2 ys /\ R (.ok (.ret (.ref (mk4 p q s.heap t1 t2).objs.size))) { s with heap := mk5 p q s.heap t1 t2 }) :=
  .of_wp fun prog w A R s h => by
    obtain ⟨hh, gg, dd, tt, oo⟩ := s
    obtain ⟨a1, a2, h⟩ := h
    have sub := sub_zip
    have b1 : Su p (Shared.heap ⟨hh, gg, dd, tt, oo⟩) t1 xs := a1
    have b2 : Su q (Shared.heap ⟨mk1 p hh t1, gg, dd, tt, oo⟩) t2 ys := Su.push a2 _
    wp_walk using pyIterB b1, pyIterB b2
    exact ⟨_, rfl, h⟩
section
variable {prog : Program} {w : World} {A : Around} {E : Value -> Shared -> Prop} {s : Shared}
theorem make {p q : Bool} {t1 t2 : Addr} {xs ys : Array Value} {Q : Value -> Shared -> Prop} (a1 : Su p s.heap t1 xs) (a2 : Su q s.heap t2 ys)
    (k : ∀ g, IsZip g (s.heap.objs.size + 4) (s.heap.objs.size + 2) (s.heap.objs.size + 3) .none -> IsPair g (s.heap.objs.size + 2) (.ref s.heap.objs.size) (.ref (s.heap.objs.size + 1)) -> IsPair g (s.heap.objs.size + 3) .none .none ->
      Iu p g s.heap.objs.size t1 0 -> Iu q g (s.heap.objs.size + 1) t2 0 -> (∀ c o, s.heap.get? c = some o -> g.get? c = some o) -> Q (.ref (s.heap.objs.size + 4)) { s with heap := g }) :
    wpAny (model prog w) A (call (.type "zip") [.ref t1, .ref t2]) Q E s := by
  refine callType_new F.called_zip (by decide) (F.typeCall_zip_2 _ _) (F.newCall_zip_2 _ _) (fun obj => F.args_object_init_3 obj _ _) F.entry_zip_new (meets_new p q t1 t2 xs ys) ⟨a1, a2, ?_⟩
  have n1 : (mk1 p s.heap t1).objs.size = s.heap.objs.size + 1 := Heap.size_push ..
  have n2 : (mk2 p q s.heap t1 t2).objs.size = s.heap.objs.size + 2 := by rw [Heap.size_push, n1]
  have n3 : (mk3 p q s.heap t1 t2).objs.size = s.heap.objs.size + 3 := by rw [Heap.size_push, n2]
  have n4 : (mk4 p q s.heap t1 t2).objs.size = s.heap.objs.size + 4 := by rw [Heap.size_push, n3]
  have p5 : (mk5 p q s.heap t1 t2).get? (mk4 p q s.heap t1 t2).objs.size = some _ := Heap.get?_push_size _ rfl
  have p4 : (mk5 p q s.heap t1 t2).get? (mk3 p q s.heap t1 t2).objs.size = some _ := Heap.get?_push_of_some _ (Heap.get?_push_size _ rfl)
  have p3 : (mk5 p q s.heap t1 t2).get? (mk2 p q s.heap t1 t2).objs.size = some _ := Heap.get?_push_of_some _ (Heap.get?_push_of_some _ (Heap.get?_push_size _ rfl))
  have p2 : (mk5 p q s.heap t1 t2).get? (mk1 p s.heap t1).objs.size = some _ := Heap.get?_push_of_some _ (Heap.get?_push_of_some _ (Heap.get?_push_of_some _ (Heap.get?_push_size _ rfl)))
  have p1 : (mk5 p q s.heap t1 t2).get? s.heap.objs.size = some _ := Heap.get?_push_of_some _ (Heap.get?_push_of_some _ (Heap.get?_push_of_some _ (Heap.get?_push_of_some _ (Heap.get?_push_size _ rfl))))
  show _ /\ _
  rw [n2, n3, n4] at p5
  rw [n1, n2] at p3
  rw [n3] at p4
  rw [n1] at p2
  rw [n4]
  exact ⟨⟨_, p5, rfl⟩, k _ p5 p3 p4 (by cases p <;> exact ⟨_, p1, rfl, rfl⟩) (by cases q <;> exact ⟨_, p2, rfl, rfl⟩) fun c o y => Heap.get?_push_of_some _ (Heap.get?_push_of_some _ (Heap.get?_push_of_some _ (Heap.get?_push_of_some _ (Heap.get?_push_of_some _ y))))⟩
end
end Zt
namespace L2
open PySem PySem.Spec PyProof.Rows
def tupleTg : Expr -> Bool
  | .Tuple _ _ _ => true
  | _ => false
theorem Inv.turnedNew {X : Cx} {pins : List (Addr × Obj)} {σ : St} {H : Hp} {s : Shared} {h' : Heap} {t' : Nat} {L : List Addr} {p : Addr} {xs : List V} (I : Inv X pins σ H s) (k : ∀ b o, b ∉ L -> s.heap.get? b = some o -> h'.get? b = some o)
    (hf : ∀ b ∈ L, FpOk X pins H b) (hp : s.heap.objs.size <= p) (new : ObjOk X.prog X.w (upd H p (.tup xs)) h' p (.tup xs)) : Inv X pins σ (upd H p (.tup xs)) { s with heap := h', toks := t' } := by
  have hn : H p = none := I.hok.fresh hp
  have ne : ∀ b o, s.heap.get? b = some o -> b ≠ p := fun b o e => Nat.ne_of_lt (Nat.lt_of_lt_of_le (Heap.lt_size e) hp)
  have nit : ∀ b u, H b = some u -> b ∉ L := fun b u e z => by rw [(hf b z).1] at e; cases e
  refine I.step (g' := s.gens) (d' := s.drawn) (ch := L) (fun b hb => ?_) (fun b o _ _ hc e _ => k b o hc e) (fun b o _ _ hc e _ => ⟨o.slots, k b o hc e⟩) (fun b o _ e n => by rw [upd_ne (ne b o e)]; exact n) (fun b o hc e => ⟨o, k b o hc e⟩)
    (fun b ys e => by rw [upd_ne (ne_of_none e hn)]; exact e) (fun b o u e => by rw [upd_ne (ne_of_none e hn)]; exact e) (fun b ps e => ⟨#[], by rw [upd_ne (ne_of_none e hn), e]; simp⟩) (fun m hm => ?_) (fun b u e => ?_) I.bare
  · obtain ⟨_, f1, _, f3, f4, f5⟩ := hf b hb
    exact ⟨f3, f1, f4, f5⟩
  · obtain ⟨o, es, ep, ho, r⟩ := hm
    exact ⟨o, es, ep, k _ o (fun z => (hf _ z).2.1 rfl) ho, r⟩
  · by_cases hb : b = p
    · subst hb
      rw [upd_same] at e
      cases e
      exact new
    · rw [upd_ne hb] at e
      refine (I.hok b u e).stay (fun c v hc q => k c v ?_ q) (fun c q => by rw [upd_ne (ne_of_none q hn)]; exact q) fun c ys q => by rw [upd_ne (ne_of_none q hn)]; exact q
      rcases hc with z | z
      · rw [z]; exact nit b u e
      · exact nit c _ z
theorem Inv.turnedL {X : Cx} {pins : List (Addr × Obj)} {σ : St} {H : Hp} {s : Shared} {h' : Heap} {t' : Nat} {L : List Addr} (I : Inv X pins σ H s) (k : ∀ b o, b ∉ L -> s.heap.get? b = some o -> h'.get? b = some o)
    (hf : ∀ b ∈ L, FpOk X pins H b) : Inv X pins σ H { s with heap := h', toks := t' } := by
  have nit : ∀ b u, H b = some u -> b ∉ L := fun b u e z => by rw [(hf b z).1] at e; cases e
  refine I.step (g' := s.gens) (d' := s.drawn) (ch := L) (fun b hb => ?_) (fun b o _ _ hc e _ => k b o hc e) (fun b o _ _ hc e _ => ⟨o.slots, k b o hc e⟩) (fun _ _ _ _ n => n) (fun b o hc e => ⟨o, k b o hc e⟩) (fun _ _ e => e) (fun _ _ _ e => e) (fun b ps e => ⟨#[], by rw [e]; simp⟩)
    (fun m hm => ?_) (fun b u e => ?_) I.bare
  · obtain ⟨_, f1, _, f3, f4, f5⟩ := hf b hb
    exact ⟨f3, f1, f4, f5⟩
  · obtain ⟨o, es, ep, ho, r⟩ := hm
    exact ⟨o, es, ep, k _ o (fun z => (hf _ z).2.1 rfl) ho, r⟩
  · refine (I.hok b u e).stay (fun c v hc q => k c v ?_ q) (fun _ q => q) fun _ _ q => q
    rcases hc with z | z
    · rw [z]; exact nit b u e
    · exact nit c _ z
def SqB (p : Bool) (K : PySem.W.Frag) (H : Hp) (a : Addr) (xs : List V) : Prop := bif p then SqL K H a xs else SqT K H a xs
theorem Inv.seqB {X : Cx} {pins : List (Addr × Obj)} {σ : St} {H : Hp} {s : Shared} {p : Bool} {a : Addr} {xs : List V} (I : Inv X pins σ H s) (h : SqB p X.K H a xs) : ∃ its : List Value, Vals xs its /\ Zt.Su p s.heap a its.toArray := by
  cases p
  · obtain ⟨its, r, e, _⟩ := I.tuple h
    exact ⟨its, r, e⟩
  · obtain ⟨its, r, e, _⟩ := I.list h
    exact ⟨its, r, e.isList⟩
theorem Inv.seqB_inj {X : Cx} {pins : List (Addr × Obj)} {σ : St} {H : Hp} {s : Shared} {p : Bool} {a : Addr} {xs ys : List V} (I : Inv X pins σ H s) (h : SqB p X.K H a xs) (h' : SqB p X.K H a ys) : xs = ys := by
  cases p
  · exact I.tuple_inj h h'
  · exact I.list_inj h h'
theorem Su.lt {p : Bool} {h : Heap} {a : Addr} {xs : Array Value} (e : Zt.Su p h a xs) : a < h.objs.size := by
  cases p <;> obtain ⟨o, e, _⟩ := e <;> exact Heap.lt_size e
theorem Iu.ob {p : Bool} {h : Heap} {j t : Addr} {k : Nat} (e : Zt.Iu p h j t k) : ∃ o, h.get? j = some o /\ ∀ v, o.data ≠ .cell v := by
  cases p <;> obtain ⟨o, e, _, d⟩ := e <;> exact ⟨o, e, fun v q => by rw [d] at q; cases q⟩
def ItB (p q : Bool) (K : PySem.W.Frag) (a b : Addr) : It :=
  ⟨fun i H => ∃ xs ys x y, SqB p K H a xs /\ SqB q K H b ys /\ xs[i]? = some x /\ ys[i]? = some y,
   fun i H v H' => ∃ n, H n = none /\ v = .ref n /\ ∃ x y, H' = upd H n (.tup [x, y]) /\ ∀ xs ys, SqB p K H a xs -> SqB q K H b ys -> xs[i]? = some x /\ ys[i]? = some y,
   fun i H => ∃ xs ys, SqB p K H a xs /\ SqB q K H b ys /\ (xs.length <= i ∨ ys.length <= i)⟩
theorem turn_zipB {p q : Bool} {cm : Bool} {P : Program} {w : World} {K : PySem.W.Frag} {tg : Expr} (htg : tupleTg tg = true) {z TI TO j1 j2 a b : Addr} (D : ZipApart z TI TO j1 j2 a b) :
    Turn P w K cm tg (ItB p q K a b) [z, TO, j1, j2, TI] z (fun i h => IsZip h z TI TO .none /\ IsPair h TI (.ref j1) (.ref j2) /\ (∃ u v, IsPair h TO u v) /\ Zt.Iu p h j1 a i /\ Zt.Iu q h j2 b i) where
  mem := List.mem_cons_self
  obj := fun i h st c hc => by
    obtain ⟨h1, h2, ⟨u, v, h3⟩, h4, h5⟩ := st
    have nof : ∀ {o : Obj} {vs : Array Value}, o.data = .fields vs -> ∀ v, o.data ≠ .cell v := fun e v q => by rw [e] at q; cases q
    have nos : ∀ {o : Obj} {vs : Array Value} {n : Nat}, o.data = .seq vs n -> ∀ v, o.data ≠ .cell v := fun e v q => by rw [e] at q; cases q
    simp only [List.mem_cons, List.not_mem_nil, or_false] at hc
    rcases hc with rfl | rfl | rfl | rfl | rfl
    · exact ⟨_, h1, nof rfl⟩
    · exact ⟨_, h3, nos rfl⟩
    · exact Iu.ob h4
    · exact Iu.ob h5
    · exact ⟨_, h2, nos rfl⟩
  keep := fun i h h' st k => by
    obtain ⟨h1, h2, ⟨u, v, h3⟩, h4, h5⟩ := st
    exact ⟨k _ (by simp) _ h1, k _ (by simp) _ h2, ⟨u, v, k _ (by simp) _ h3⟩, h4.up (k _ (by simp)), h5.up (k _ (by simp))⟩
  item := by
    intro X hP hw hK hkc hc i pins s σ H E I hf st hg
    subst hP hw hK
    obtain ⟨h1, h2, ⟨u, v, h3⟩, h4, h5⟩ := st
    obtain ⟨xs, ys, x, y, qa, qb, hx, hy⟩ := hg
    obtain ⟨its, rv, pa⟩ := I.seqB qa
    obtain ⟨jts, rw', pb⟩ := I.seqB qb
    obtain ⟨ux, eux, rux⟩ := rv.get hx
    obtain ⟨uy, euy, ruy⟩ := rw'.get hy
    refine Zt.next_item D h1 h2 h3 h4 h5 pa pb (x := ux) (y := uy) (by simpa using eux) (by simpa using euy) fun g b1 b2 b3 b4 b5 b6 => ?_
    refine ⟨_, rfl, ?_⟩
    have zlt : z < s.heap.objs.size := Heap.lt_size h1
    cases tg with
    | Tuple es kk pp =>
      refine wpAny_letOwnedTupleGo_zip b1 fun g' c1 sb => ?_
      have new : IsPair g' s.heap.objs.size ux uy := sb.extBut _ _ (Nat.ne_of_gt zlt) b5
      have I1 : Inv X pins σ (upd H s.heap.objs.size (.tup [x, y])) { s with heap := g' } := by
        refine I.turnedNew (t' := s.toks) (L := [z, TO, j1, j2, TI]) (fun c o hcn e => ?_) hf (Nat.le_refl _) ⟨by show 2 <= sizeLine; decide, [ux, uy], .cons rux (.cons ruy .nil), ⟨_, new, rfl, ⟨0, rfl⟩, rfl⟩⟩
        simp only [List.mem_cons, List.not_mem_nil, or_false, not_or] at hcn
        exact sb.extBut c o hcn.1 (b6 c o hcn.1 hcn.2.1 hcn.2.2.1 hcn.2.2.2.1 e)
      have h2' : IsPair g' TI (.ref j1) (.ref j2) := sb.extBut _ _ D.TIz (b6 _ _ D.TIz D.TITO D.TIi1 D.TIi2 h2)
      refine ⟨.ref s.heap.objs.size, _, I1, rfl, ⟨_, I.fresh, rfl, x, y, rfl, fun xs' ys' q1 q2 => ⟨by rw [I.seqB_inj q1 qa]; exact hx, by rw [I.seqB_inj q2 qb]; exact hy⟩⟩, ⟨c1, h2', ⟨_, _, sb.extBut _ _ D.TOz b2⟩, b3.extBut sb.extBut D.i1z, b4.extBut sb.extBut D.i2z⟩, fun c hcm => ?_⟩
      obtain ⟨o, eo, _⟩ : ∃ o, s.heap.get? c = some o /\ True := by
        simp only [List.mem_cons, List.not_mem_nil, or_false] at hcm
        rcases hcm with rfl | rfl | rfl | rfl | rfl
        · exact ⟨_, h1, trivial⟩
        · exact ⟨_, h3, trivial⟩
        · obtain ⟨o4, g4, _⟩ := Iu.ob h4
          exact ⟨_, g4, trivial⟩
        · obtain ⟨o5, g5, _⟩ := Iu.ob h5
          exact ⟨_, g5, trivial⟩
        · exact ⟨_, h2, trivial⟩
      rw [upd_ne (Nat.ne_of_lt (Heap.lt_size eo))]
      exact (hf c hcm).1
    | _ => exact absurd (show false = true from htg) Bool.false_ne_true
  done := by
    intro X hP hw hK hkc hc i pins s σ H E I hf st hg
    subst hP hw hK
    obtain ⟨h1, h2, ⟨u, v, h3⟩, h4, h5⟩ := st
    obtain ⟨xs, ys, qa, qb, hl⟩ := hg
    obtain ⟨its, rv, pa⟩ := I.seqB qa
    obtain ⟨jts, rw', pb⟩ := I.seqB qb
    have e1 := rv.length
    have e2 := rw'.length
    refine Zt.next_stop (I.hin hc) D h1 h2 h3 h4 h5 pa pb ?_ fun g up => ⟨rfl, ?_⟩
    · rcases hl with hl | hl
      · exact .inl (by simp; omega)
      · exact .inr (by simp; omega)
    · refine I.turnedL (t' := s.toks) (L := [z, TO, j1, j2, TI]) (fun c o hcn e => ?_) hf
      simp only [List.mem_cons, List.not_mem_nil, or_false, not_or] at hcn
      exact up c o hcn.1 hcn.2.1 hcn.2.2.1 hcn.2.2.2.1 e
  self := fun _ _ _ _ _ st h => wpAny_pyIter_zip st.1 h
section
variable {X : Cx} {tg : Expr}
theorem apart_new {n l1 l2 : Addr} (h1 : l1 < n) (h2 : l2 < n) : ZipApart (n + 4) (n + 2) (n + 3) n (n + 1) l1 l2 := zipApart_new h1 h2
def iZipB (p q : Bool) (K : PySem.W.Frag) (ta : TA) : TI := fun σ H R => ta σ H fun vs H1 => ∃ a b, vs = [.ref a, .ref b] /\ (∃ xs, SqB p K H1 a xs) /\ (∃ ys, SqB q K H1 b ys) /\ R (ItB p q K a b) H1
theorem zip_at {p1 q1 : Bool} {pins : List (Addr × Obj)} {σ : St} {H : Hp} {s : Shared} {a b : Addr} {xs ys : List V} {J : It} {R : It -> Hp -> Prop} (I : Inv X pins σ H s) (qa : SqB p1 X.K H a xs) (qb : SqB q1 X.K H b ys)
    (hJ : ∀ {z TI TO j1 j2 : Addr}, ZipApart z TI TO j1 j2 a b -> Turn X.prog X.w X.K X.calm tg J [z, TO, j1, j2, TI] z (fun i h => IsZip h z TI TO .none /\ IsPair h TI (.ref j1) (.ref j2) /\ (∃ u v, IsPair h TO u v) /\ Zt.Iu p1 h j1 a i /\ Zt.Iu q1 h j2 b i)) (q : R J H) :
    wpAny (model X.prog X.w) X.A (call (.type "zip") [.ref a, .ref b]) (fun v s1 => wpAny (model X.prog X.w) X.A (pyIter v) (PIE X pins σ tg R) X.xe s1) X.xe s := by
  obtain ⟨its, rv, pa⟩ := I.seqB qa
  obtain ⟨jts, rw', pb⟩ := I.seqB qb
  have la := Su.lt pa
  have lb := Su.lt pb
  refine Zt.make pa pb fun g z1 z2 z3 z4 z5 up => ?_
  refine wpAny_pyIter_zip z1 ?_
  have I2 : Inv X pins σ H { s with heap := g } := I.kept (t' := s.toks) up
  refine ⟨_, [s.heap.objs.size + 4, s.heap.objs.size + 3, s.heap.objs.size, s.heap.objs.size + 1, s.heap.objs.size + 2], _, _, H, rfl, I2, hJ (apart_new la lb), ⟨z1, z2, ⟨_, _, z3⟩, z4, z5⟩, fun c hc => ?_, q⟩
  have big : s.heap.objs.size <= c := by
    simp only [List.mem_cons, List.not_mem_nil, or_false] at hc
    rcases hc with rfl | rfl | rfl | rfl | rfl
    · exact Nat.le_add_right _ _
    · exact Nat.le_add_right _ _
    · exact Nat.le_refl _
    · exact Nat.le_add_right _ _
    · exact Nat.le_add_right _ _
  exact I.fpOk big (I.hok.fresh big)
theorem pi_zipB {p1 q1 : Bool} {e1 e2 : Expr} {ta : TA} {p pos : Pos} (htg : tupleTg tg = true) (hg : Gl X "zip") (hm : X.mg "zip" = none) (ha : PA X [e1, e2] ta) (hs : starEach [e1, e2] X.env = [(false, eval e1 X.env), (false, eval e2 X.env)] := by rfl) (hs2 : starEach [e2] X.env = [(false, eval e2 X.env)] := by rfl)
    (hb : bootBuiltins "zip" = some (.type "zip") := by decide +kernel) : PI X tg (.Call (.Name "zip" p) [e1, e2] [] pos) (iZipB p1 q1 X.K ta) := by
  intro pins s σ H R I h
  refine Call_ (ld_blt I hg hm hb (PyProof.Rows.callWith_type1 (thn (ha pos pins s σ H _ I h) fun us s1 ⟨vs, H1, I1, r1, q1⟩ => ?_) (by rw [hs, hs2]) (by rw [hs2]; rfl)))
  obtain ⟨a, b, e, ⟨xs, qa⟩, ⟨ys, qb⟩, q⟩ := q1
  subst e
  obtain ⟨u1, u2, rfl, ra, rb⟩ := vals2 r1
  cases ra
  cases rb
  exact zip_at I1 qa qb (turn_zipB htg) q
end
theorem for_zipB {p q : Bool} {K : PySem.W.Frag} {a b : Addr} {xs ys : List V} {g : TG} {tb : TS} {D : Ends} {σ : St} {H : Hp} (Pv : Nat -> St -> Hp -> Prop) (h0 : Pv 0 σ H) (hl : ∀ i σ H, i <= min xs.length ys.length -> Pv i σ H -> SqB p K H a xs /\ SqB q K H b ys)
    (hs : ∀ i x y p σ H, xs[i]? = some x -> ys[i]? = some y -> H p = none -> Pv i σ H -> g (.ref p) σ (upd H p (.tup [x, y])) fun σ2 H2 => tb { D with nx := Pv (i + 1), ct := Pv (i + 1), bk := D.nx } σ2 H2) (hd : ∀ σ H, Pv (min xs.length ys.length) σ H -> D.nx σ H) :
    ∃ W : Nat -> Nat -> St -> Hp -> Prop, (∃ m, W 0 m σ H) /\ ∀ i m σ H, W i m σ H ->
      ((ItB p q K a b).stop i H /\ D.nx σ H) ∨ ((ItB p q K a b).go i H /\ ∃ N : St -> Hp -> Prop, (∀ σ' H', N σ' H' -> ∃ m', m' < m /\ W (i + 1) m' σ' H') /\ ∀ x H', (ItB p q K a b).yld i H x H' -> g x σ H' fun σ2 H2 => tb { D with nx := N, ct := N, bk := D.nx } σ2 H2) := by
  refine ⟨fun i m σ H => m = min xs.length ys.length - i /\ i <= min xs.length ys.length /\ Pv i σ H, ⟨_, rfl, Nat.zero_le _, h0⟩, ?_⟩
  rintro i m σ H ⟨rfl, hi, p⟩
  obtain ⟨qa, qb⟩ := hl i σ H hi p
  by_cases hlt : i < min xs.length ys.length
  · have h1 : i < xs.length := by omega
    have h2 : i < ys.length := by omega
    refine .inr ⟨⟨xs, ys, xs[i], ys[i], qa, qb, by simp [h1], by simp [h2]⟩, Pv (i + 1), fun σ' H' p' => ⟨min xs.length ys.length - (i + 1), by omega, rfl, hlt, p'⟩, fun v H' yv => ?_⟩
    obtain ⟨q, hq, rfl, x, y, rfl, hxy⟩ := yv
    obtain ⟨ex, ey⟩ := hxy xs ys qa qb
    exact hs i x y q σ H ex ey hq p
  · have e : i = min xs.length ys.length := by omega
    refine .inl ⟨⟨xs, ys, qa, qb, by omega⟩, hd σ H (e ▸ p)⟩
abbrev Itz (K : PySem.W.Frag) (a b : Addr) : It := ItB false false K a b
abbrev iZip (K : PySem.W.Frag) (ta : TA) : TI := iZipB false false K ta
section
variable {X : Cx} {tg : Expr}
theorem pi_zip {e1 e2 : Expr} {ta : TA} {p pos : Pos} (htg : tupleTg tg = true) (hg : Gl X "zip") (hm : X.mg "zip" = none) (ha : PA X [e1, e2] ta) (hs : starEach [e1, e2] X.env = [(false, eval e1 X.env), (false, eval e2 X.env)] := by rfl) (hs2 : starEach [e2] X.env = [(false, eval e2 X.env)] := by rfl)
    (hb : bootBuiltins "zip" = some (.type "zip") := by decide +kernel) : PI X tg (.Call (.Name "zip" p) [e1, e2] [] pos) (iZip X.K ta) := pi_zipB htg hg hm ha hs hs2 hb
end
theorem for_zip {K : PySem.W.Frag} {a b : Addr} {xs ys : List V} {g : TG} {tb : TS} {D : Ends} {σ : St} {H : Hp} (Pv : Nat -> St -> Hp -> Prop) (h0 : Pv 0 σ H) (hl : ∀ i σ H, i <= min xs.length ys.length -> Pv i σ H -> SqT K H a xs /\ SqT K H b ys)
    (hs : ∀ i x y p σ H, xs[i]? = some x -> ys[i]? = some y -> H p = none -> Pv i σ H -> g (.ref p) σ (upd H p (.tup [x, y])) fun σ2 H2 => tb { D with nx := Pv (i + 1), ct := Pv (i + 1), bk := D.nx } σ2 H2) (hd : ∀ σ H, Pv (min xs.length ys.length) σ H -> D.nx σ H) :
    ∃ W : Nat -> Nat -> St -> Hp -> Prop, (∃ m, W 0 m σ H) /\ ∀ i m σ H, W i m σ H ->
      ((Itz K a b).stop i H /\ D.nx σ H) ∨ ((Itz K a b).go i H /\ ∃ N : St -> Hp -> Prop, (∀ σ' H', N σ' H' -> ∃ m', m' < m /\ W (i + 1) m' σ' H') /\ ∀ x H', (Itz K a b).yld i H x H' -> g x σ H' fun σ2 H2 => tb { D with nx := N, ct := N, bk := D.nx } σ2 H2) :=
  for_zipB (p := false) (q := false) Pv h0 hl hs hd
end L2
namespace Tp
open PySem PyProof.Rows
open AutoSeq1 (wpAny_loadPart')
end Tp
namespace L2
open PySem PySem.Spec PyProof.Rows
end L2
namespace Tp
open PySem PyProof.Rows
open AutoSeq1 (wpAny_loadPart')
end Tp
namespace HT
open PySem PyProof.Rows
section
variable {prog : Program} {w : World} {A : Around} {E : Value -> Shared -> Prop} {s : Shared}
theorem cut_whole {t sl : Addr} {items : Array Value} {vl vu : Value} {lo hi : Option Int} {Q : Value -> Shared -> Prop} (ht : IsTup s.heap t items) (hs : s.heap.IsSliceOf sl vl vu .none) (pl : IsPart vl lo) (pu : IsPart vu hi)
    (hw : sIx items.size 0 lo = 0 /\ sIx items.size items.size hi = items.size) (h : Q (.ref t) s) : wpAny (model prog w) A (getItem (.ref t) (.ref sl)) Q E s := by
  obtain ⟨os, hos, hcs, hds⟩ := id hs
  have hTs : s.TypeIs (.ref sl) "slice" := ⟨os, hos, hcs⟩
  unfold getItem
  try with_reducible refine wpAny_holding ?_
  first | refine wpAny_bind (wpAny_pure ?_) | skip
  refine wpAny_bind (wpAny_sequenceKey ht.typeIs (by decide) ?_)
  refine wpAny_bind (wpAny_callSpecial?_slot (name := Str.ofString "__getitem__") ht.typeIs PyProof.Rows.slot_tuple_getitem
    (wpAny_call_entry PyProof.Rows.slot_tuple_getitem ht.typeIs entry_tuple_getitem ?_ (args_tuple_getitem _ _)))
  show wpAny _ _ (Builtin.Tuple.tupleItemsOf (.ref t) >>= _) _ _ s
  refine wpAny_bind (tupleItemsOf_ ht ?_)
  refine wpAny_bind (wpAny_typeOf hTs ?_)
  rw [if_pos (by decide)]
  refine wpAny_bind (sliceApplied_gen hs pl pu ?_)
  have hyes : (((sIx items.size 0 lo : Nat) : Int) == 0 && (1 : Int) == 1 && (sIx items.size items.size hi - sIx items.size 0 lo) == items.size) = true := by
    rw [hw.1, hw.2]; simp
  show wpAny _ _ (if (((sIx items.size 0 lo : Nat) : Int) == 0 && (1 : Int) == 1 && (sIx items.size items.size hi - sIx items.size 0 lo) == items.size) = true then _ else _) _ _ s
  rw [if_pos hyes]
  obtain ⟨ot, got, cot, _⟩ := id ht
  unfold Builtin.Tuple.tupleIsExact
  refine wpAny_bind (wpAny_bind (wpAny_typeOf ht.typeIs (wpAny_pure ?_)))
  rw [if_pos (by decide)]
  exact wpAny_bind (wpAny_rule (wpAny_pure ⟨_, rfl, wpAny_pure h⟩))
end
end HT
namespace L2
open PySem PySem.Spec PyProof.Rows
section
variable {X : Cx}
def rSlW (K : PySem.W.Frag) : V -> Option Int -> Option Int -> Hp -> VK -> Prop := fun x lo hi H Q => ∃ a xs, x = .ref a /\ SqT K H a xs /\ HT.sIx xs.length 0 lo = 0 /\ HT.sIx xs.length xs.length hi = xs.length /\ Q (.ref a) H
theorem sl_whole : SlR X (rSlW X.K) := by
  intro pins s σ H x v vl vu lo hi sl Q I rx hs pl pu h
  obtain ⟨a, xs, rfl, hx, w1, w2, q⟩ := h
  cases rx
  obtain ⟨its, r, ht, hz⟩ := I.tuple hx
  have hlen : its.toArray.size = xs.length := by rw [List.size_toArray]; exact r.length.symm
  exact ⟨"tuple", _, PyProof.Rows.slot_tuple_getitem.lookup, ht.typeIs, HT.cut_whole ht hs pl pu (by rw [hlen]; exact ⟨w1, w2⟩) ⟨.ref a, H, I, rfl, q⟩⟩
theorem sl_tupA : SlR X (fun x lo hi H Q => rSlT X.K x lo hi H Q ∨ rSlW X.K x lo hi H Q) := sl_tup.or sl_whole
end
end L2
namespace L2
open PySem PySem.Spec PyProof.Rows
end L2
namespace L2
open PySem PySem.Spec PyProof.Rows
theorem pe_ty {X : Cx} {x : Str} {T : String} {pos : Pos} (hg : Gl X x) (hm : X.mg x = none) (hv : bootBuiltins x = some (.type T)) (hn : x ≠ "__name__" := by decide) (hd : (x == ("__debug__" : Str)) = false := by decide) : PE X (.Name x pos) (tC (.ty T)) :=
  pe_bltn (v := .ty T) hg hm hv rfl hn hd
end L2
namespace Mth
def stripF (p : Nat) : Nat -> Nat -> Nat
  | 0, n => n
  | f + 1, n => if 2 <= p /\ 1 <= n /\ n % p = 0 then stripF p f (n / p) else n
theorem stripF_more (p : Nat) : ∀ f n : Nat, n <= f -> stripF p (f + 1) n = stripF p f n
  | 0, n, h => by
    obtain rfl : n = 0 := by omega
    exact if_neg (fun z => by omega)
  | f + 1, n, h => by
    show (if 2 <= p /\ 1 <= n /\ n % p = 0 then stripF p (f + 1) (n / p) else n) = if 2 <= p /\ 1 <= n /\ n % p = 0 then stripF p f (n / p) else n
    by_cases q : 2 <= p /\ 1 <= n /\ n % p = 0
    · rw [if_pos q, if_pos q]
      exact stripF_more p f (n / p) (by have := Nat.div_lt_self q.2.1 q.1; omega)
    · rw [if_neg q, if_neg q]
theorem stripF_up (p n : Nat) : ∀ k : Nat, stripF p (n + k) n = stripF p n n
  | 0 => rfl
  | k + 1 => by rw [show n + (k + 1) = (n + k) + 1 from rfl, stripF_more p (n + k) n (by omega)]; exact stripF_up p n k
def strip (p : Nat) (n : Nat) : Nat := stripF p n n
theorem strip_unf (p n : Nat) : strip p n = if 2 <= p /\ 1 <= n /\ n % p = 0 then strip p (n / p) else n := by
  have e : strip p n = stripF p (n + 1) n := (stripF_up p n 1).symm
  rw [e]
  show (if 2 <= p /\ 1 <= n /\ n % p = 0 then stripF p n (n / p) else n) = _
  by_cases q : 2 <= p /\ 1 <= n /\ n % p = 0
  · rw [if_pos q, if_pos q]
    have lt := Nat.div_lt_self q.2.1 q.1
    have := stripF_up p (n / p) (n - n / p)
    rw [show n / p + (n - n / p) = n by omega] at this
    exact this
  · rw [if_neg q, if_neg q]
theorem strip_div {p n : Nat} (hp : 2 <= p) (hn : 1 <= n) (h : n % p = 0) : strip p n = strip p (n / p) := by
  rw [strip_unf p n, if_pos ⟨hp, hn, h⟩]
theorem strip_not {p n : Nat} (h : n % p ≠ 0) : strip p n = n := by
  rw [strip_unf, if_neg (fun q => h q.2.2)]
theorem div_pos_of {p n : Nat} (hn : 1 <= n) (h : n % p = 0) : 1 <= n / p := by
  have e := Nat.div_add_mod n p
  rw [h] at e
  rcases Nat.eq_zero_or_pos (n / p) with z | z
  · rw [z] at e; omega
  · exact z
theorem strip_pos {p : Nat} (hp : 2 <= p) : ∀ n : Nat, 1 <= n -> 1 <= strip p n := by
  intro n
  induction n using Nat.strongRecOn with
  | ind n ih =>
    intro hn
    by_cases h : n % p = 0
    · rw [strip_div hp hn h]
      exact ih _ (Nat.div_lt_self hn hp) (div_pos_of hn h)
    · rw [strip_not h]; exact hn
theorem strip_mod {p : Nat} (hp : 2 <= p) : ∀ n : Nat, 1 <= n -> strip p n % p ≠ 0 := by
  intro n
  induction n using Nat.strongRecOn with
  | ind n ih =>
    intro hn
    by_cases h : n % p = 0
    · rw [strip_div hp hn h]
      exact ih _ (Nat.div_lt_self hn hp) (div_pos_of hn h)
    · rw [strip_not h]; exact h
theorem strip_pow {p : Nat} (hp : 2 <= p) {m : Nat} (hm : 1 <= m) : ∀ e : Nat, strip p (p ^ e * m) = strip p m := by
  intro e
  induction e with
  | zero => rw [Nat.pow_zero, Nat.one_mul]
  | succ e ih =>
    have h1 : p ^ (e + 1) * m = p * (p ^ e * m) := by rw [Nat.pow_succ, Nat.mul_comm (p ^ e) p, Nat.mul_assoc]
    have hpos : 1 <= p ^ e * m := Nat.mul_pos (Nat.pow_pos (by omega)) hm
    have h2 : 1 <= p * (p ^ e * m) := Nat.mul_pos (by omega) hpos
    rw [h1, strip_div hp h2 (Nat.mul_mod_right _ _), Nat.mul_div_cancel_left _ (by omega)]
    exact ih
def primes : List Nat := [2, 3, 5, 7, 11, 13, 17, 19, 23, 29]
def stripL (ps : List Nat) (n : Nat) : Nat := ps.foldl (fun m p => strip p m) n
def stripAll (n : Nat) : Nat := stripL primes n
theorem stripL_pos : ∀ (ps : List Nat), (∀ p ∈ ps, 2 <= p) -> ∀ n, 1 <= n -> 1 <= stripL ps n
  | [], _, _, h => h
  | p :: ps, hp, n, h => stripL_pos ps (fun q hq => hp q (List.mem_cons_of_mem _ hq)) _ (strip_pos (hp p List.mem_cons_self) n h)
theorem two_le : ∀ p ∈ primes, 2 <= p := by decide
def noShare (a b : Nat) : Bool := primes.all fun p => a % p != 0 || b % p != 0
theorem noShare_iff {a b : Nat} : noShare a b = true ↔ ∀ p ∈ primes, ¬ (p ∣ a /\ p ∣ b) := by
  unfold noShare
  rw [List.all_eq_true]
  constructor
  · intro h p hp ⟨h1, h2⟩
    have := h p hp
    rw [Nat.mod_eq_zero_of_dvd h1, Nat.mod_eq_zero_of_dvd h2] at this
    exact absurd this (by decide)
  · intro h p hp
    by_cases h1 : a % p = 0
    · by_cases h2 : b % p = 0
      · exact absurd ⟨Nat.dvd_of_mod_eq_zero h1, Nat.dvd_of_mod_eq_zero h2⟩ (h p hp)
      · simp [h2]
    · simp [h1]
def prodR : List Nat -> List Nat -> Nat
  | p :: ps, e :: es => p ^ e * prodR ps es
  | _, _ => 1
theorem prodR_pos : ∀ (ps es : List Nat), (∀ p ∈ ps, 2 <= p) -> 1 <= prodR ps es
  | [], _, _ => Nat.le_refl _
  | _ :: _, [], _ => Nat.le_refl _
  | p :: ps, e :: es, h => Nat.mul_pos (Nat.pow_pos (by have := h p List.mem_cons_self; omega)) (prodR_pos ps es fun q hq => h q (List.mem_cons_of_mem _ hq))
theorem cop_prodR {p : Nat} : ∀ (ps es : List Nat), (∀ q ∈ ps, Nat.Coprime p q) -> Nat.Coprime p (prodR ps es)
  | [], _, _ => Nat.coprime_one_right p
  | _ :: _, [], _ => Nat.coprime_one_right p
  | q :: ps, e :: es, h => Nat.Coprime.mul_right (Nat.Coprime.pow_right e (h q List.mem_cons_self)) (cop_prodR ps es fun r hr => h r (List.mem_cons_of_mem _ hr))
theorem not_mod_of_cop {p n : Nat} (hp : 2 <= p) (c : Nat.Coprime p n) : n % p ≠ 0 := fun h => by
  have := c.eq_one_of_dvd (Nat.dvd_of_mod_eq_zero h)
  omega
theorem strip_one {p : Nat} (hp : 2 <= p) : strip p 1 = 1 := strip_not (by rw [Nat.mod_eq_of_lt (by omega)]; decide)
theorem stripL_one : ∀ (ps : List Nat), (∀ p ∈ ps, 2 <= p) -> stripL ps 1 = 1
  | [], _ => rfl
  | p :: ps, h => by
    show stripL ps (strip p 1) = 1
    rw [strip_one (h p List.mem_cons_self)]
    exact stripL_one ps fun q hq => h q (List.mem_cons_of_mem _ hq)
theorem stripL_prodR : ∀ (ps es : List Nat), (∀ p ∈ ps, 2 <= p) -> ps.Pairwise Nat.Coprime -> stripL ps (prodR ps es) = 1
  | [], _, _, _ => rfl
  | p :: ps, [], h, _ => stripL_one (p :: ps) h
  | p :: ps, e :: es, h, c => by
    have hp := h p List.mem_cons_self
    have ht : ∀ q ∈ ps, 2 <= q := fun q hq => h q (List.mem_cons_of_mem _ hq)
    have c' := List.pairwise_cons.mp c
    show stripL ps (strip p (p ^ e * prodR ps es)) = 1
    rw [strip_pow hp (prodR_pos ps es ht), strip_not (not_mod_of_cop hp (cop_prodR ps es c'.1))]
    exact stripL_prodR ps es ht c'.2
theorem primes_cop : primes.Pairwise Nat.Coprime := by decide
def prod (es : List Nat) : Nat := prodR primes es
theorem prod_pos (es : List Nat) : 1 <= prod es := prodR_pos _ _ two_le
theorem stripAll_prod (es : List Nat) : stripAll (prod es) = 1 := stripL_prodR _ _ two_le primes_cop
theorem cop_at {p : Nat} : ∀ (ps es : List Nat) (k : Nat), ps.Pairwise Nat.Coprime -> ps[k]? = some p -> es.getD k 0 = 0 -> Nat.Coprime p (prodR ps es)
  | [], _, _, _, h, _ => by simp at h
  | _ :: _, [], _, _, _, _ => Nat.coprime_one_right p
  | q :: ps, e :: es, 0, c, h, h0 => by
    simp at h h0
    subst h; subst h0
    show Nat.Coprime q (q ^ 0 * prodR ps es)
    rw [Nat.pow_zero, Nat.one_mul]
    exact cop_prodR ps es (List.pairwise_cons.mp c).1
  | q :: ps, e :: es, k + 1, c, h, h0 => by
    have c' := List.pairwise_cons.mp c
    have h' : ps[k]? = some p := by simpa using h
    have hm : p ∈ ps := List.mem_of_getElem? h'
    refine Nat.Coprime.mul_right (Nat.Coprime.pow_right e (Nat.Coprime.symm (c'.1 p hm))) ?_
    exact cop_at ps es k c'.2 h' (by simpa using h0)
theorem noShare_prod {es fs : List Nat} (h : ∀ k, es.getD k 0 = 0 ∨ fs.getD k 0 = 0) : noShare (prod es) (prod fs) = true := by
  rw [noShare_iff]
  intro p hp ⟨h1, h2⟩
  obtain ⟨k, hk⟩ := List.getElem?_of_mem hp
  have tp := two_le p hp
  rcases h k with e | e
  · have := (cop_at primes es k primes_cop hk e).eq_one_of_dvd h1; omega
  · have := (cop_at primes fs k primes_cop hk e).eq_one_of_dvd h2; omega
theorem prodR_le : ∀ (ps es : List Nat), (∀ p ∈ ps, p <= 29) -> prodR ps es <= 29 ^ es.sum
  | [], _, _ => Nat.pow_pos (by decide)
  | _ :: _, [], _ => Nat.le_refl _
  | p :: ps, e :: es, h => by
    rw [List.sum_cons, Nat.pow_add]
    exact Nat.mul_le_mul (Nat.pow_le_pow_left (h p List.mem_cons_self) e) (prodR_le ps es fun q hq => h q (List.mem_cons_of_mem _ hq))
theorem prod_le (es : List Nat) : prod es <= 29 ^ es.sum := prodR_le primes es (by decide)
def termB (i : Int) : Bool := decide (1 <= i) && decide (i <= 1000000000000) && decide (stripAll i.toNat = 1)
def fracB (i j : Int) : Bool := termB i && termB j && noShare i.toNat j.toNat
theorem termB_prod {es : List Nat} (h : es.sum <= 3) : termB (prod es : Nat) = true := by
  unfold termB
  have h1 := prod_pos es
  have h2 := prod_le es
  have h3 : 29 ^ es.sum <= 29 ^ 3 := Nat.pow_le_pow_right (by decide) h
  have h4 : (29 : Nat) ^ 3 = 24389 := by decide
  rw [Bool.and_eq_true, Bool.and_eq_true, decide_eq_true_iff, decide_eq_true_iff, decide_eq_true_iff]
  refine ⟨⟨by omega, by omega⟩, ?_⟩
  rw [Int.toNat_natCast]
  exact stripAll_prod es
theorem fracB_prod {es fs : List Nat} (h1 : es.sum <= 3) (h2 : fs.sum <= 3) (h : ∀ k, es.getD k 0 = 0 ∨ fs.getD k 0 = 0) : fracB (prod es : Nat) (prod fs : Nat) = true := by
  unfold fracB
  rw [termB_prod h1, termB_prod h2, Int.toNat_natCast, Int.toNat_natCast, noShare_prod h]
  rfl
end Mth
namespace L2
open PySem PySem.Spec PyProof.Rows
def relN (sc osc : Scope) : List (Str × NameKind) := sc.names.map fun (n, k) => if (k == .free && osc.kind == .function && osc.names.lookup n == some .cell) then (n, .cell) else (n, k)
def ksOf (sc : Scope) : List Str := ((sc.names.filter (fun p => p.2 == .free)).reverse).map (·.1)
def compChk (sc osc : Scope) (N XN : List Str) (js : List (Option Nat)) : Bool :=
  sc.names.all (fun y => y.2 != .cell) && decide (sc.kind = .function) && sc.names.all (fun y => y.2 != .local || sc.names.lookup y.1 == some .local) &&
  (relN sc osc).all (fun p => !(p.2 == .cell || p.2 == .free) || (ksOf sc).contains p.1) && js.length == N.length &&
  (List.range N.length).all fun i => match js[i]?, N[i]? with
    | some (some j), some x => XN[j]? == some x && osc.names.lookup x == some .cell && ((relN sc osc).lookup x == some .cell || (relN sc osc).lookup x == some .free)
    | _, _ => true
theorem mem_of_lookup {α β : Type} [BEq α] [LawfulBEq α] : ∀ {l : List (α × β)} {x : α} {c : β}, l.lookup x = some c -> (x, c) ∈ l
  | [], _, _, h => by simp at h
  | (y, d) :: r, x, c, h => by
    rw [List.lookup_cons] at h
    cases e : (x == y) with
    | true =>
      rw [e] at h
      cases h
      rw [eq_of_beq e]
      exact List.mem_cons_self
    | false =>
      rw [e] at h
      exact List.mem_cons_of_mem _ (mem_of_lookup h)
theorem compOk_of {X : Cx} {sc osc : Scope} {cl : List (Str × Addr)} {N XN : List Str} {js : List (Option Nat)} (ho : X.env.scope = osc) (clos : closureFor sc X.env = pure cl) (hk : cl.map (·.1) = ksOf sc)
    (hsub : ∀ p ∈ cl, X.env.cells.lookup p.1 = some p.2) (chk : compChk sc osc N XN js = true) (hN : X.N = XN) : CompOk X sc cl N js := by
  unfold compChk at chk
  simp only [Bool.and_eq_true] at chk
  obtain ⟨⟨⟨⟨⟨h1, h2⟩, h3⟩, h4⟩, h5⟩, h6⟩ := chk
  have er : (relabel sc X.env).names = relN sc osc := by
    unfold relabel relN Env.kindOf
    rw [ho]
  refine ⟨clos, ?_, of_decide_eq_true h2, ?_, ?_, ?_, eq_of_beq h5, ?_⟩
  · intro y hy
    have := List.all_eq_true.mp h1 y hy
    simpa using this
  · intro y hy hl
    have := List.all_eq_true.mp h3 y hy
    rw [hl] at this
    simpa using this
  · intro x c h
    exact hsub (x, c) (mem_of_lookup h)
  · intro x h
    rw [er] at h
    refine lookup_of_key ?_
    rw [hk]
    rcases h with h | h
    all_goals
      have := List.all_eq_true.mp h4 _ (mem_of_lookup h)
      simpa using this
  · intro i j x hNi hj
    have hi : i < N.length := (List.getElem?_eq_some_iff.mp hNi).1
    have := List.all_eq_true.mp h6 i (List.mem_range.mpr hi)
    rw [hj, hNi] at this
    simp only [Bool.and_eq_true, Bool.or_eq_true] at this
    obtain ⟨⟨a, b⟩, c⟩ := this
    refine ⟨?_, ?_, ?_⟩
    · rw [hN]; exact eq_of_beq a
    · rw [ho]; exact eq_of_beq b
    · rw [er]
      rcases c with c | c
      · exact .inl (eq_of_beq c)
      · exact .inr (eq_of_beq c)
end L2
namespace W2
open PySem L2
theorem b_len : bootBuiltins "len" = some (.builtin "len") := PySem.boot_len
theorem b_isinstance : bootBuiltins "isinstance" = some (.builtin "isinstance") := by decide +kernel
theorem b_int : bootBuiltins "int" = some (.type "int") := by decide +kernel
theorem b_bool : bootBuiltins "bool" = some (.type "bool") := by decide +kernel
theorem b_tuple : bootBuiltins "tuple" = some (.type "tuple") := by decide +kernel
theorem b_list : bootBuiltins "list" = some (.type "list") := by decide +kernel
def kindV (H : Hp) : V -> Prop
  | .non => True
  | .bl _ => True
  | .int _ => True
  | .str _ => True
  | .ref a => (∃ xs, H a = some (.tup xs)) ∨ (∃ xs, H a = some (.lst xs)) ∨ (∃ kvs, H a = some (.dK kvs))
  | _ => False
def isI : V -> Bool
  | .int _ => true
  | .bl _ => true
  | _ => false
def isB : V -> Bool
  | .bl _ => true
  | _ => false
def isW : V -> Bool
  | .int _ => true
  | _ => false
theorem isW_eq (v : V) : (isI v && !isB v) = isW v := by cases v <;> rfl
section
variable {K : PySem.W.Frag} {H : Hp} {v : V}
theorem isi_I (k : kindV H v) : ∃ t, TyOf K H v t /\ PySem.W.kitOne K t (.type "int") = some (isI v) := by
  cases v with
  | non => exact ⟨_, .non, by kernel_rfl⟩
  | bl b => exact ⟨_, .bl b, by kernel_rfl⟩
  | int i => exact ⟨_, .int i, by kernel_rfl⟩
  | str x => exact ⟨_, .str x, by kernel_rfl⟩
  | ref a =>
    rcases (show (∃ xs, H a = some (.tup xs)) ∨ (∃ xs, H a = some (.lst xs)) ∨ (∃ kvs, H a = some (.dK kvs)) from k) with ⟨xs, e⟩ | ⟨xs, e⟩ | ⟨kvs, e⟩
    · exact ⟨_, .tup e, by kernel_rfl⟩
    · exact ⟨_, .lst e, by kernel_rfl⟩
    · exact ⟨_, .dK e, by kernel_rfl⟩
  | _ => exact False.elim k
theorem isi_B (k : kindV H v) : ∃ t, TyOf K H v t /\ PySem.W.kitOne K t (.type "bool") = some (isB v) := by
  cases v with
  | non => exact ⟨_, .non, by kernel_rfl⟩
  | bl b => exact ⟨_, .bl b, by kernel_rfl⟩
  | int i => exact ⟨_, .int i, by kernel_rfl⟩
  | str x => exact ⟨_, .str x, by kernel_rfl⟩
  | ref a =>
    rcases (show (∃ xs, H a = some (.tup xs)) ∨ (∃ xs, H a = some (.lst xs)) ∨ (∃ kvs, H a = some (.dK kvs)) from k) with ⟨xs, e⟩ | ⟨xs, e⟩ | ⟨kvs, e⟩
    · exact ⟨_, .tup e, by kernel_rfl⟩
    · exact ⟨_, .lst e, by kernel_rfl⟩
    · exact ⟨_, .dK e, by kernel_rfl⟩
  | _ => exact False.elim k
end
def But (a : Addr) (H H' : Hp) : Prop := ∀ b o, b ≠ a -> H b = some o -> H' b = some o
theorem But.refl (a : Addr) (H : Hp) : But a H H := fun _ _ _ h => h
theorem But.trans {a : Addr} {H H1 H2 : Hp} (x : But a H H1) (y : But a H1 H2) : But a H H2 := fun b o n h => y b o n (x b o n h)
theorem But.of {a : Addr} {H H' : Hp} (x : Same H H') : But a H H' := fun b o _ h => x b o h
theorem But.upd {a : Addr} {H : Hp} {o : HO} : But a H (upd H a o) := fun b q n h => by rw [upd_ne n]; exact h
theorem But.new {a p : Addr} {H H' : Hp} {o : HO} (x : But a H H') (h : H' p = none) : But a H (L2.upd H' p o) := fun b q n e => by rw [upd_ne (ne_of_none (x b q n e) h)]; exact x b q n e
theorem Same.new {H : Hp} {p : Addr} {o : HO} (h : H p = none) : Same H (upd H p o) := fun b q e => by rw [upd_ne (ne_of_none e h)]; exact e
theorem Same.more {H H' : Hp} {p : Addr} {o : HO} (s : Same H H') (h : H' p = none) : Same H (upd H' p o) := s.trans (Same.new h)
theorem map_int_get {ns : List Int} {i : Nat} {y : V} (h : (ns.map V.int)[i]? = some y) : ∃ z, y = .int z /\ ns[i]? = some z := by
  rw [List.getElem?_map] at h
  cases e : ns[i]? with
  | none => rw [e] at h; cases h
  | some z => rw [e] at h; exact ⟨z, (Option.some.inj h).symm, rfl⟩
theorem atI_of {α : Type} {xs : List α} {i : Int} {v : α} (h0 : 0 <= i) (h : xs[i.toNat]? = some v) : atI xs i = some v := by
  have := atI_nat h
  rwa [Int.toNat_of_nonneg h0] at this
theorem ixN_of {n : Nat} {i : Int} (h0 : 0 <= i) (h : i < n) : ixN n i = some i.toNat := by
  unfold ixN
  rw [if_pos h0, if_pos h]
end W2
namespace L2
open PySem PySem.Spec PyProof.Rows
def noStar : Expr -> Bool
  | .Starred _ _ => false
  | _ => true
theorem starEach_cons {e : Expr} (h : noStar e = true) (es : List Expr) (env : Env) : starEach (e :: es) env = (false, eval e env) :: starEach es env := by
  cases e <;> first | rfl | cases h
theorem pa_c {X : Cx} {e : Expr} {es : List Expr} {te : TE} {t : TA} (ha : PE X e te) (hr : PA X es t) (h : noStar e = true := by rfl) : PA X (e :: es) (tCons te t) := pa_cons ha hr (starEach_cons h es X.env)
section
variable {K : PySem.W.Frag} {a D : Addr} {js : List (Option Nat)} {g : TG} {te : TE} {σ : St} {H1 : Hp} {Q : VK}
theorem comp_plain {J : It} {n : Nat} (hn : n <= sizeLine) (Pv : Nat -> St -> Hp -> List V -> Prop) (h0 : Pv 0 (pick js σ) (upd H1 D (.lst [])) [])
    (hgo : ∀ i σ' H' ys, i < n -> H' D = some (.lst ys) -> Pv i σ' H' ys -> J.go i H') (hst : ∀ σ' H' ys, H' D = some (.lst ys) -> ys.length = n -> Pv n σ' H' ys -> J.stop n H' /\ Q (.ref D) H')
    (hs : ∀ i σ' H' ys x H2 (R : St -> V -> Hp -> Prop), i < n -> H' D = some (.lst ys) -> ys.length = i -> Pv i σ' H' ys -> J.yld i H' x H2 ->
      (∀ σ2 y H4, H4 D = some (.lst ys) -> Pv (i + 1) σ2 (upd H4 D (.lst (ys ++ [y]))) (ys ++ [y]) -> R σ2 y H4) -> g x σ' H2 fun σ2 H3 => te σ2 H3 fun y H4 => R σ2 y H4) :
    CompW J D js g tNoTest te σ H1 Q := by
  refine ⟨fun i m σ' H' ys => m = n - i /\ i <= n /\ H' D = some (.lst ys) /\ ys.length = i /\ Pv i σ' H' ys, ⟨n, rfl, Nat.zero_le _, upd_same, rfl, h0⟩, ?_⟩
  rintro i m σ' H' ys ⟨rfl, hi, hD, hy, p⟩
  refine ⟨hD, ?_⟩
  by_cases e : i = n
  · subst e
    exact .inl (hst σ' H' ys hD hy p)
  · have hlt : i < n := by omega
    refine .inr ⟨hgo i σ' H' ys hlt hD p, by omega, fun σ2 H2 zs => H2 D = some (.lst zs) /\ zs.length = i + 1 /\ Pv (i + 1) σ2 H2 zs, fun σ2 H2 zs ⟨z1, z2, z3⟩ => ⟨n - (i + 1), by omega, rfl, by omega, z1, z2, z3⟩, fun x H2 hx => ?_⟩
    exact hs i σ' H' ys x H2 (fun σ2 y H4 => H4 D = some (.lst ys) /\ (upd H4 D (.lst (ys ++ [y]))) D = some (.lst (ys ++ [y])) /\ (ys ++ [y]).length = i + 1 /\ Pv (i + 1) σ2 (upd H4 D (.lst (ys ++ [y]))) (ys ++ [y])) hlt hD hy p hx
      fun σ2 y H4 z1 z2 => ⟨z1, upd_same, by rw [List.length_append, hy]; rfl, z2⟩
theorem comp_range {lo : Int} {n : Nat} (hn : n <= sizeLine) (Pv : Nat -> St -> Hp -> List V -> Prop) (h0 : Pv 0 (pick js σ) (upd H1 D (.lst [])) [])
    (hs : ∀ i σ' H' ys (R : St -> V -> Hp -> Prop), i < n -> H' D = some (.lst ys) -> ys.length = i -> Pv i σ' H' ys -> (∀ σ2 y H4, H4 D = some (.lst ys) -> Pv (i + 1) σ2 (upd H4 D (.lst (ys ++ [y]))) (ys ++ [y]) -> R σ2 y H4) ->
      g (.int (lo + i)) σ' H' fun σ2 H3 => te σ2 H3 fun y H4 => R σ2 y H4)
    (hst : ∀ σ' H' ys, H' D = some (.lst ys) -> ys.length = n -> Pv n σ' H' ys -> Q (.ref D) H') : CompW (Itr lo n) D js g tNoTest te σ H1 Q :=
  comp_plain hn Pv h0 (fun i _ _ _ hi _ _ => hi) (fun σ' H' ys a b c => ⟨Nat.le_refl _, hst σ' H' ys a b c⟩) fun i σ' H' ys x H2 R hi a b c ⟨e1, e2⟩ => by
    subst e1; subst e2
    exact hs i σ' H2 ys R hi a b c
theorem comp_tup {xs : List V} (hn : xs.length <= sizeLine) (Pv : Nat -> St -> Hp -> List V -> Prop) (h0 : Pv 0 (pick js σ) (upd H1 D (.lst [])) [])
    (hl : ∀ i σ' H' ys, i <= xs.length -> H' D = some (.lst ys) -> Pv i σ' H' ys -> SqT K H' a xs)
    (hs : ∀ i x σ' H' ys (R : St -> V -> Hp -> Prop), xs[i]? = some x -> H' D = some (.lst ys) -> ys.length = i -> Pv i σ' H' ys -> (∀ σ2 y H4, H4 D = some (.lst ys) -> Pv (i + 1) σ2 (upd H4 D (.lst (ys ++ [y]))) (ys ++ [y]) -> R σ2 y H4) ->
      g x σ' H' fun σ2 H3 => te σ2 H3 fun y H4 => R σ2 y H4)
    (hst : ∀ σ' H' ys, H' D = some (.lst ys) -> ys.length = xs.length -> Pv xs.length σ' H' ys -> Q (.ref D) H') : CompW (Itt K a) D js g tNoTest te σ H1 Q :=
  comp_plain hn Pv h0 (fun i σ' H' ys hi hD p => ⟨xs, xs[i], hl i σ' H' ys (by omega) hD p, List.getElem?_eq_getElem hi⟩)
    (fun σ' H' ys hD b c => ⟨⟨xs, hl _ σ' H' ys (Nat.le_refl _) hD c, Nat.le_refl _⟩, hst σ' H' ys hD b c⟩) fun i σ' H' ys x H2 R hi hD b c ⟨e1, e2⟩ => by
    subst e1
    exact hs i x σ' H2 ys R (e2 xs (hl i σ' H2 ys (by omega) hD c)) hD b c
end
theorem SqT.upd_new {K : PySem.W.Frag} {H : Hp} {a D : Addr} {xs : List V} {o : HO} (h : SqT K H a xs) (n : H D = none) : SqT K (upd H D o) a xs := by
  rcases h with (h | ⟨u, h⟩) | h
  · exact .inl (.inl (by rw [upd_ne (ne_of_none h n)]; exact h))
  · exact .inl (.inr ⟨u, by rw [upd_ne (ne_of_none h n)]; exact h⟩)
  · exact .inr h
theorem take_map_succ {α β : Type} {f : α -> β} {xs : List α} {i : Nat} {x : α} (h : xs[i]? = some x) : (xs.take (i + 1)).map f = (xs.take i).map f ++ [f x] := by
  rw [List.take_add_one, h, List.map_append]
  rfl
section
variable {K : PySem.W.Frag} {a D : Addr} {js : List (Option Nat)} {te : TE} {σ : St} {H1 : Hp} {Q : VK}
theorem comp_map_tup {xs : List V} {o : Option V} {σ0 : St} {f : V -> V} (hp : pick js σ = o :: σ0) (hn : xs.length <= sizeLine) (hD : H1 D = none) (hS : SqT K H1 a xs)
    (hs : ∀ (x : V) (H' : Hp) (R : VK), x ∈ xs -> R (f x) H' -> te (some x :: σ0) H' R) (q : Q (.ref D) (upd H1 D (.lst (xs.map f)))) : CompW (Itt K a) D js (gName 0) tNoTest te σ H1 Q := by
  refine comp_tup (xs := xs) hn (fun i σ' H' ys => (∃ u, σ' = u :: σ0) /\ ys = (xs.take i).map f /\ H' = upd H1 D (.lst ys)) ⟨⟨o, hp⟩, rfl, rfl⟩ ?_ ?_ ?_
  · rintro i σ' H' ys _ _ ⟨_, rfl, rfl⟩
    exact hS.upd_new hD
  · rintro i x σ' H' ys R hx _ _ ⟨⟨u, rfl⟩, rfl, rfl⟩ k
    refine hs x _ _ (List.mem_of_getElem? hx) (k _ _ _ upd_same ⟨⟨_, rfl⟩, (take_map_succ hx).symm, upd_upd⟩)
  · rintro σ' H' ys _ _ ⟨_, rfl, rfl⟩
    rw [List.take_length]
    exact q
end
theorem while_own {c : TT} {tb : TS} {D : Ends} {σ : St} {H : Hp} (Pv : St -> Hp -> Prop) (μ : St -> Hp -> Nat) (h0 : Pv σ H)
    (hs : ∀ σ H, Pv σ H -> c σ H fun b H1 => if b = true then ∃ N : St -> Hp -> Prop, (∀ σ' H', N σ' H' -> ∃ m', m' < μ σ H /\ m' = μ σ' H' /\ Pv σ' H') /\ tb { D with nx := N, ct := N, bk := D.nx } σ H1 else D.nx σ H1) : tWhile c tb D σ H :=
  ⟨fun m σ H => m = μ σ H /\ Pv σ H, ⟨_, rfl, h0⟩, fun m σ H ⟨e, p⟩ => by subst e; exact hs σ H p⟩
theorem whN {tb : TS} {D : Ends} {σ : St} {H1 : Hp} {m : Nat} {Pv : St -> Hp -> Prop} {μ : St -> Hp -> Nat} (h : tb { D with nx := fun σ' H' => Pv σ' H' /\ μ σ' H' < m, ct := fun σ' H' => Pv σ' H' /\ μ σ' H' < m, bk := D.nx } σ H1) :
    ∃ N : St -> Hp -> Prop, (∀ σ' H', N σ' H' -> ∃ m', m' < m /\ m' = μ σ' H' /\ Pv σ' H') /\ tb { D with nx := N, ct := N, bk := D.nx } σ H1 := ⟨_, fun _ _ ⟨a, b⟩ => ⟨_, b, rfl, a⟩, h⟩
theorem sIx_of {n d : Nat} {i : Int} (h : 0 <= i) : HT.sIx n d (some i) = min i.toNat n := by
  show (if i < 0 then _ else _) = _
  rw [if_neg (by omega)]
theorem cutV_pre {xs : List V} {i : Int} (h : 0 <= i) : cutV xs none (some i) = xs.take i.toNat := by
  unfold cutV
  rw [sIx_of h]
  show (xs.drop 0).take (min i.toNat xs.length - 0) = _
  rw [List.drop_zero, Nat.sub_zero]
  rcases Nat.le_total i.toNat xs.length with g | g
  · rw [Nat.min_eq_left g]
  · rw [Nat.min_eq_right g, List.take_of_length_le (Nat.le_refl _), List.take_of_length_le g]
theorem cutV_suf {xs : List V} {i : Int} (h : 0 <= i) : cutV xs (some i) none = xs.drop i.toNat := by
  unfold cutV
  rw [sIx_of h]
  show (xs.drop (min i.toNat xs.length)).take (xs.length - min i.toNat xs.length) = _
  rcases Nat.le_total i.toNat xs.length with g | g
  · rw [Nat.min_eq_left g, List.take_of_length_le (by rw [List.length_drop]; exact Nat.le_refl _)]
  · rw [Nat.min_eq_right g, List.drop_of_length_le (Nat.le_refl _), List.drop_of_length_le g, List.take_nil]
end L2
namespace L2
open PySem PySem.Spec PyProof.Rows
structure QE (X : Cx) (e : Expr) (t : TE) : Prop where
  o : PE X e t
structure QT (X : Cx) (e : Expr) (t : TT) : Prop where
  o : PT X e t
structure QW (X : Cx) (e : Expr) (t : TT) : Prop where
  o : PW X e t
structure QA (X : Cx) (e : List Expr) (t : TA) : Prop where
  o : PA X e t
structure QS (X : Cx) (e : Stmt) (t : TS) : Prop where
  o : PS X e t
structure QSs (X : Cx) (e : List Stmt) (t : TS) : Prop where
  o : PSs X e t
structure QG (X : Cx) (e : Expr) (t : TG) : Prop where
  o : PG X e t
structure QGs (X : Cx) (e : List Expr) (t : TGs) : Prop where
  o : PGs X e t
structure QO (X : Cx) (e : Option Expr) (t : TO) : Prop where
  o : PO X e t
structure QTs (X : Cx) (e : List Expr) (t : TT) : Prop where
  o : PTs X e t
structure QI (X : Cx) (tg e : Expr) (t : TI) : Prop where
  o : PI X tg e t
theorem qe_var {i : Nat} {x : Str} {pos : Pos} (hN : X.N[i]? = some x) (hv : Vis X.env.scope x) (hd : (x == ("__debug__" : Str)) = false := by decide) (hcd : (x == ("__classdict__" : Str)) = false := by decide) : QE X (.Name x pos) (tVar i) :=
  ⟨pe_var hN hv hd hcd⟩
theorem qv (i : Nat) {x : Str} {pos : Pos} (hN : X.N[i]? = some x := by rfl) (hv : Vis X.env.scope x := by first | exact Or.inl rfl | exact Or.inr (Or.inl rfl) | exact Or.inr (Or.inr rfl)) (hd : (x == ("__debug__" : Str)) = false := by decide) (hcd : (x == ("__classdict__" : Str)) = false := by decide) : QE X (.Name x pos) (tVar i) :=
  ⟨pv i hN hv hd hcd⟩
theorem qe_int {i j pos} : QE X (.Constant (.int i) j pos) (tC (.int i)) :=
  ⟨pe_int ⟩
theorem qe_bl {b j pos} : QE X (.Constant (.bool b) j pos) (tC (.bl b)) :=
  ⟨pe_bl ⟩
theorem qe_non {j pos} : QE X (.Constant .none j pos) (tC .non) :=
  ⟨pe_non ⟩
theorem qe_str {x j pos} : QE X (.Constant (.str x) j pos) (tC (.str x)) :=
  ⟨pe_str ⟩
theorem qe_glob {x : Str} {v : V} {u : Value} {pos : Pos} (hg : Gl X x) (hm : X.mg x = some u) (r : RelV v u) (hd : (x == ("__debug__" : Str)) = false := by decide) : QE X (.Name x pos) (tC v) :=
  ⟨pe_glob hg hm r hd⟩
theorem qe_ty {X : Cx} {x : Str} {T : String} {pos : Pos} (hg : Gl X x) (hm : X.mg x = none) (hv : bootBuiltins x = some (.type T)) (hn : x ≠ "__name__" := by decide) (hd : (x == ("__debug__" : Str)) = false := by decide) : QE X (.Name x pos) (tC (.ty T)) :=
  ⟨pe_ty hg hm hv hn hd⟩
theorem qe_op {a : Expr} {b : Expr} {op : Operator} {r : R2} (ho : OpR X (binaryOp op) r) (ha : QE X a ta) (hb : QE X b tb) : QE X (.BinOp a op b pos) (tOp r ta tb) :=
  ⟨pe_op ho ha.o hb.o⟩
theorem qe_un {a : Expr} {op : UnaryOp} {r : V -> Hp -> VK -> Prop} (ho : UnR X (unaryOp op) r) (ha : QE X a ta) : QE X (.UnaryOp op a pos) (tUn r ta) :=
  ⟨pe_un ho ha.o⟩
theorem qe_and {rest : List Expr} {a : Expr} {b : Expr} (ha : QE X a ta) (hb : QE X (.BoolOp .And (b :: rest) pos) tb) : QE X (.BoolOp .And (a :: b :: rest) pos) (tAndV ta tb) :=
  ⟨pe_and ha.o hb.o⟩
theorem qe_one {a : Expr} {op} {t : TE} (h : QE X a t) : QE X (.BoolOp op [a] pos) t :=
  ⟨pe_one h.o⟩
theorem qe_not {a : Expr} (ha : QE X a ta) : QE X (.UnaryOp .Not a pos) (tNotV ta) :=
  ⟨pe_not ha.o⟩
theorem qe_ifExp {a : Expr} {b : Expr} {c : Expr} (hc : QT X c tA) (ha : QE X a ta) (hb : QE X b tb) : QE X (.IfExp c a b pos) (tIf tA ta tb) :=
  ⟨pe_ifExp hc.o ha.o hb.o⟩
theorem qe_cmpR {a : Expr} {b : Expr} {op : CmpOp} {r : R2} (ho : OpR X (compareOp op) r) (ha : QE X a ta) (hb : QE X b tb) (hm : behindInMarks op b = false) : QE X (.Compare a [op] [b] pos) (tOp r ta tb) :=
  ⟨pe_cmpR ho ha.o hb.o hm⟩
theorem qe_lst (h : QA X es t) : QE X (.List es pos) (tLst t) :=
  ⟨pe_lst h.o⟩
theorem qe_ix {a : Expr} {b : Expr} {r : R2} (hr : IxR X r) (ha : QE X a ta) (hb : QE X b tb) (hs : PlainIx b) : QE X (.Subscript a b pos) (tOp r ta tb) :=
  ⟨pe_ix hr ha.o hb.o hs⟩
theorem qe_slice {lo : Option Expr} {hi : Option Expr} {e : Expr} {r : V -> Option Int -> Option Int -> Hp -> VK -> Prop} (hr : SlR X r) (he : QE X e te) (hl : QO X lo tl) (hu : QO X hi th) : QE X (.Subscript e (.Slice lo hi none p2) pos) (tSl r te tl th) :=
  ⟨pe_slice hr he.o hl.o hu.o⟩
theorem qe_call {e : Expr} (F : FnOk X.prog X.w X.K X.mg X.base CX k f fd ps sp) (hr : Room k X.A) (hg : Gl X x) (hm : X.mg x = some (.ref f)) (hk : PySem.W.keepIn X.K (.ref f) = true) (hb : Binds X.K fd ps ds) (hd : Vals dvs ds) (hx : Passes CX X E) (ha : QA X (e :: es) t) (hdb : (x == ("__debug__" : Str)) = false := by decide) (he : starEach (e :: es) X.env = (false, eval e X.env) :: starEach es X.env := by rfl) (hpl : (backTo pos (starEach es X.env)).any (·.1) = false := by rfl) : QE X (.Call (.Name x p) (e :: es) [] pos) (tCall sp dvs E t) :=
  ⟨pe_call F hr hg hm hk hb hd hx ha.o hdb he hpl⟩
theorem qe_callB {id : String} {e : Expr} (hc : CallR X (.builtin id) r) (hg : Gl X x) (hm : X.mg x = none) (hv : bootBuiltins x = some (.builtin id)) (ha : QA X (e :: es) t) (hn : x ≠ "__name__" := by decide) (hdb : (x == ("__debug__" : Str)) = false := by decide) (he : starEach (e :: es) X.env = (false, eval e X.env) :: starEach es X.env := by rfl) (hpl : (backTo pos (starEach es X.env)).any (·.1) = false := by rfl) : QE X (.Call (.Name x p) (e :: es) [] pos) (tCB r t) :=
  ⟨pe_callB hc hg hm hv ha.o hn hdb he hpl⟩
theorem qe_callTy {e : Expr} (hc : CallR X (.type T) r) (hg : Gl X x) (hm : X.mg x = none) (hv : bootBuiltins x = some (.type T)) (ha : QA X (e :: es) t) (hn : x ≠ "__name__" := by decide) (hdb : (x == ("__debug__" : Str)) = false := by decide) (he : starEach (e :: es) X.env = (false, eval e X.env) :: starEach es X.env := by rfl) (hpl : (backTo pos (starEach es X.env)).any (·.1) = false := by rfl) : QE X (.Call (.Name x p) (e :: es) [] pos) (tCB r t) :=
  ⟨pe_callTy hc hg hm hv ha.o hn hdb he hpl⟩
theorem qe_bm {id : String} {e : Expr} {o : Expr} (pa : PlainAttrs T) (slot : Slot T name id) (hty : typeOf (.builtin id) = pure (.type "method_descriptor")) (hm : MtR X id r) (ho : QE X o to) (ha : QA X (e :: es) t) (hbase : attributeBase o name X.env (eval o X.env) = eval o X.env := by rfl) (hfew : ((backTo cpos (starEach (e :: es) X.env)).all (fun x => !x.1) && (backToKw cpos (keywordEach [] X.env)).all (fun x => x.1.isSome)
      && decide ((e :: es).length + ([] : List Keyword).length + (if ([] : List Keyword).isEmpty then 0 else 1) < 30)) = true := by rfl) (hline : (apos.endLine == cpos.line) = true := by rfl) (hs : starEach (e :: es) X.env = (false, eval e X.env) :: starEach es X.env := by rfl) (hplain : (backTo cpos (starEach es X.env)).any (·.1) = false := by rfl) : QE X (.Call (.Attribute o name apos) (e :: es) [] cpos) (tBM X.K T r to t) :=
  ⟨pe_bm pa slot hty hm ho.o ha.o hbase hfew hline hs hplain⟩
theorem qt_cmpR {a : Expr} {b : Expr} {op : CmpOp} {r : R2} (ho : OpR X (compareOp op) r) (ha : QE X a ta) (hb : QE X b tb) (hm : behindInMarks op b = false) : QT X (.Compare a [op] [b] pos) (tTest (tOp r ta tb)) :=
  ⟨pt_cmpR ho ha.o hb.o hm⟩
theorem qt_not {a : Expr} (ha : QT X a tA) : QT X (.UnaryOp .Not a pos) (tNot tA) :=
  ⟨pt_not ha.o⟩
theorem qt_val {e : Expr} {t : TE} (h : QE X e t) (he : ∀ whole, isTrue e X.env whole = (do let v ← whole; standAt e.pos; holding [v] (truthy v)) := by intro _; rfl) : QT X e (tB t) :=
  ⟨pt_val h.o he⟩
theorem qw_and {rest : List Expr} {a : Expr} {b : Expr} (ha : QT X a tA) (hb : QW X (.BoolOp .And (b :: rest) pos) tB') : QW X (.BoolOp .And (a :: b :: rest) pos) (tAnd tA tB') :=
  ⟨pw_and ha.o hb.o⟩
theorem qw_and1 {a : Expr} (ha : QT X a tA) : QW X (.BoolOp .And [a] pos) tA :=
  ⟨pw_and1 ha.o⟩
theorem qw_or {rest : List Expr} {a : Expr} {b : Expr} (ha : QT X a tA) (hb : QW X (.BoolOp .Or (b :: rest) pos) tB') : QW X (.BoolOp .Or (a :: b :: rest) pos) (tOr tA tB') :=
  ⟨pw_or ha.o hb.o⟩
theorem qw_or1 {a : Expr} (ha : QT X a tA) : QW X (.BoolOp .Or [a] pos) tA :=
  ⟨pw_or1 ha.o⟩
theorem qa_nil  : QA X [] tNil :=
  ⟨pa_nil ⟩
theorem qa_c {X : Cx} {e : Expr} {es : List Expr} {te : TE} {t : TA} (ha : QE X e te) (hr : QA X es t) (h : noStar e = true := by rfl) : QA X (e :: es) (tCons te t) :=
  ⟨pa_c ha.o hr.o h⟩
theorem qo_none  : QO X none tNoPart :=
  ⟨po_none ⟩
theorem qo_some {e : Expr} (h : QE X e te) : QO X (some e) (tPart te) :=
  ⟨po_some h.o⟩
theorem qi_list {l : Expr} {tl : TE} (hl : QE X l tl) : QI X tg l (iList X.K tl) :=
  ⟨pi_list hl.o⟩
theorem qi_tup {l : Expr} {tl : TE} (hl : QE X l tl) : QI X tg l (iTup X.K tl) :=
  ⟨pi_tup hl.o⟩
theorem qi_range1 {a : Expr} {ta : TA} {p pos : Pos} (hg : Gl X "range") (hm : X.mg "range" = none) (ha : QA X [a] ta) (hs : starEach [a] X.env = [(false, eval a X.env)] := by rfl) (hcm : X.calm = true := by rfl) : QI X tg (.Call (.Name "range" p) [a] [] pos) (iRng1 ta) :=
  ⟨pi_range1 hg hm ha.o hs hcm⟩
theorem qi_zip {e1 e2 : Expr} {ta : TA} {p pos : Pos} (htg : tupleTg tg = true) (hg : Gl X "zip") (hm : X.mg "zip" = none) (ha : QA X [e1, e2] ta) (hs : starEach [e1, e2] X.env = [(false, eval e1 X.env), (false, eval e2 X.env)] := by rfl) (hs2 : starEach [e2] X.env = [(false, eval e2 X.env)] := by rfl) (hb : bootBuiltins "zip" = some (.type "zip") := by decide +kernel) : QI X tg (.Call (.Name "zip" p) [e1, e2] [] pos) (iZip X.K ta) :=
  ⟨pi_zip htg hg hm ha.o hs hs2 hb⟩
theorem qg_name {i : Nat} {x : Str} (hN : X.N.Nodup) (hi : X.N[i]? = some x) (hx : Loc X.env.scope x) (hf : X.fn x = true ∨ X.env.scope.names.lookup x = some .local := by first | exact .inl rfl | exact .inr rfl | assumption) : QG X (.Name x pos) (gName i) :=
  ⟨pg_name hN hi hx hf⟩
theorem qg_tup {es : List Expr} {k : Nat} {t : TGs} {n : Nat} (hc : X.warm = true) (h : QGs X es t) (hn : (assignEach es X.env).length = n := by rfl) (hst : (assignEach es X.env).findIdx? (·.1) = none := by rfl) : QG X (.Tuple es k pos) (gTup X.K n t) :=
  ⟨pg_tup hc h.o hn hst⟩
theorem qg_sub {o i : Expr} {to ti : TE} {t : TSet} (ho : QE X o to) (hi : QE X i ti) (hs : PSet X t) (ha : ∀ v, assign (.Subscript o i pos) X.env v = (do
      let ov ← holding [v] (eval o X.env)
      let iv ← holding [v, ov] (eval i X.env)
      standAt pos
      holding [v, ov, iv] (setItem ov iv v)
      release [v, ov, iv] []) := by intro _; rfl) : QG X (.Subscript o i pos) (gSub to ti t) :=
  ⟨pg_sub ho.o hi.o hs ha⟩
theorem qgs_nil  : QGs X [] gNil :=
  ⟨pgs_nil ⟩
theorem qgs_cons {e : Expr} {es : List Expr} {t : TG} {u : TGs} (h1 : QG X e t) (h2 : QGs X es u) (hs : (assignEach (e :: es) X.env).map (·.2) = assign e X.env :: (assignEach es X.env).map (·.2) := by rfl) : QGs X (e :: es) (gCons t u) :=
  ⟨pgs_cons h1.o h2.o hs⟩
theorem qs_set {i : Nat} {x : Str} {e : Expr} {te : TE} {pos' : Pos} (hN : X.N.Nodup) (hi : X.N[i]? = some x) (hx : Loc X.env.scope x) (he : QE X e te) (hs : swapsWith e (some (.Name x pos')) pos.line X.env = pure false := by rfl) (hf : X.fn x = true ∨ X.env.scope.names.lookup x = some .local := by first | exact .inl rfl | exact .inr rfl | assumption) : QS X (.Assign [.Name x pos'] e pos) (tAsg te (gName i)) :=
  ⟨ps_set hN hi hx he.o hs hf⟩
theorem qs_asg {tg e : Expr} {te : TE} {g : TG} (he : QE X e te) (hg : QG X tg g) (hs : swapsWithSole [tg] e pos.line X.env = pure false := by rfl) (hw : swappedStores [tg] e X.env = pure none := by rfl) (h1 : (assignEach [tg] X.env).map (·.2) = [assign tg X.env] := by rfl) : QS X (.Assign [tg] e pos) (tAsg te g) :=
  ⟨ps_asg he.o hg.o hs hw h1⟩
theorem qs_ret {e : Expr} (he : QE X e te) : QS X (.Return (some e) pos) (tRet te) :=
  ⟨ps_ret he.o⟩
theorem qs_expr {e : Expr} (he : QE X e te) (hs : swapsWith e none pos.line X.env = pure false := by rfl) : QS X (.Expr e pos) (tDrop te) :=
  ⟨ps_expr he.o hs⟩
theorem qs_if {c : Expr} {a b : List Stmt} {tc : TT} (hc : QT X c tc) (ha : QSs X a t) (hb : QSs X b u) : QS X (.If c a b pos) (tIfS tc t u) :=
  ⟨ps_if hc.o ha.o hb.o⟩
theorem qs_while {c : Expr} {body : List Stmt} {tc : TT} {tb : TS} (hp : PassesOwn (model X.prog X.w) X.A X.env X.xe) (hc : QT X c tc) (hb : QSs X body tb) : QS X (.While c body [] pos) (tWhile tc tb) :=
  ⟨ps_while hp hc.o hb.o⟩
theorem qs_for {iter : Expr} {body : List Stmt} {wi : TI} {g : TG} {tb : TS} {pos : Pos} (hp : PassesOwn (model X.prog X.w) X.A X.env X.xe) (hc : X.warm = true) (hi : QI X tg iter wi) (hg : QG X tg g) (hb : QSs X body tb) (hs : ∀ x, foldedSetIterable iter X.env x = pure x := by intro _; rfl) : QS X (.For tg iter body [] pos) (tFor wi g tb) :=
  ⟨ps_for hp hc hi.o hg.o hb.o hs⟩
theorem qss_nil  : QSs X [] tNext :=
  ⟨pss_nil ⟩
theorem qss_one {st : Stmt} (h1 : QS X st t) : QSs X [st] t :=
  ⟨pss_one h1.o⟩
theorem qss_cons {rest : List Stmt} {st : Stmt} (h1 : QS X st t) (h2 : QSs X rest u) : QSs X (st :: rest) (tSeq t u) :=
  ⟨pss_cons h1.o h2.o⟩
theorem qts_nil {X : Cx} : QTs X [] tNoTest :=
  ⟨pts_nil ⟩
theorem QW.pt {X : Cx} {e : Expr} {t : TT} (h : QW X e t) : QT X e t :=
  ⟨PW.pt h.o⟩
theorem qe_comp {X : Cx} {elt tg iter : Expr} {cs : List Expr} {scope : Scope} {pos : Pos} {cl : List (Str × Addr)} {N : List Str} {js : List (Option Nat)} {wi : TI} {g : TG} {tc : TT} {te : TE}
    (C : CompOk X scope cl N js) (hc : X.warm = true) (hi : QI X tg iter wi)
    (hg : ∀ fp pins s H, QG (compCx X scope cl N fp pins s H fun _ _ => False) tg g)
    (ht : ∀ fp pins s H, QTs (compCx X scope cl N fp pins s H fun _ _ => False) cs tc)
    (he : ∀ fp pins s H, QE (compCx X scope cl N fp pins s H fun _ _ => False) elt te)
    (hs : ∀ x, foldedSetIterable iter X.env x = pure x := by intro _; rfl) : QE X (.ListComp elt [⟨tg, iter, cs, 0⟩] scope pos) (tComp js wi g tc te) :=
  ⟨pe_comp C hc hi.o (fun a b c d => (hg a b c d).o) (fun a b c d => (ht a b c d).o) (fun a b c d => (he a b c d).o) hs⟩
theorem Fun.okQ {P : Program} {w : World} {K : PySem.W.Frag} {mg : Str -> Option Value} {base : Heap} {x qual : Str} {st : Stmt} {f : Addr} {fd : FuncData} {N ps : List Str} {k : Nat} {sp : Sp} (F : Fun K x qual st f fd) (S : FnScope N ps (defScope st)) (len : ∀ vs H Q E, sp vs H Q E -> vs.length = ps.length)
    (hbody : ∀ (cdv : Value) (A : Around) (outer : List Env) (s : Shared) (H : Hp) (vs : List V) (Q : VK) (E : XK), Room k (A.deeper (envOfC qual (defScope st) s.heap.objs.size f cdv)) -> sp vs H Q E ->
      ∃ t, QSs (cxOf CX0 P w K mg base N qual (defScope st) f cdv A outer s H E).nox (defBody st) t /\ t { nx := fun _ H' => Q .non H', rt := Q } (start N vs) H) : FnOk P w K mg base CX0 (k + 1) f fd ps sp :=
  F.ok S len fun cdv A outer s H vs Q E hr h => let ⟨t, a, b⟩ := hbody cdv A outer s H vs Q E hr h; ⟨t, a.o, b⟩
end L2
namespace W2
open PySem L2
theorem cut_whole_eq {xs : List V} {lo hi : Option Int} (h1 : HT.sIx xs.length 0 lo = 0) (h2 : HT.sIx xs.length xs.length hi = xs.length) : cutV xs lo hi = xs := by
  unfold cutV
  rw [h1, h2, List.drop_zero, Nat.sub_zero, List.take_length]
theorem slice_any {K : PySem.W.Frag} {a : Addr} {xs : List V} {lo hi : Option Int} {H : Hp} {Q : VK} (ha : H a = some (.tup xs)) (q : ∀ p H', Same H H' -> H' p = some (.tup (cutV xs lo hi)) -> Q (.ref p) H') :
    rSlT K (.ref a) lo hi H Q ∨ rSlW K (.ref a) lo hi H Q := by
  by_cases e : HT.sIx xs.length 0 lo = 0 /\ HT.sIx xs.length xs.length hi = xs.length
  · exact .inr ⟨a, xs, rfl, SqT.of ha, e.1, e.2, q a H (Same.refl H) (by rw [cut_whole_eq e.1 e.2]; exact ha)⟩
  · exact .inl ⟨a, xs, rfl, SqT.of ha, e, fun p hp => q p _ (Same.new hp) upd_same⟩
theorem cat_any {K : PySem.W.Frag} {a b : Addr} {xs ys : List V} {H : Hp} {Q : VK} (ha : H a = some (.tup xs)) (hb : H b = some (.tup ys)) (hl : xs.length + ys.length <= sizeLine) (q : ∀ p H', Same H H' -> H' p = some (.tup (xs ++ ys)) -> Q (.ref p) H') :
    rCatE K (.ref a) (.ref b) H Q ∨ rCatT K (.ref a) (.ref b) H Q := by
  by_cases e : xs = []
  · subst e
    exact .inl ⟨a, b, ys, rfl, rfl, SqT.of ha, SqT.of hb, q b H (Same.refl H) hb⟩
  · refine .inr ⟨a, b, xs, ys, rfl, rfl, SqT.of ha, SqT.of hb, e, hl, fun z => ?_, fun z p hp => q p _ (Same.new hp) upd_same⟩
    subst z
    exact q a H (Same.refl H) (by rw [List.append_nil]; exact ha)
end W2
namespace L2
open PySem PySem.Spec PyProof.Rows
theorem OpR.imp {X : Cx} {f : Value -> Value -> Sem Value} {r r' : R2} (h : OpR X f r) (i : ∀ x y H Q, r' x y H Q -> r x y H Q) : OpR X f r' := fun pins s σ H x y v u Q I rx ry z => h pins s σ H x y v u Q I rx ry (i x y H Q z)
theorem CallR.imp {X : Cx} {f : Value} {r r' : List V -> Hp -> VK -> Prop} (h : CallR X f r) (i : ∀ xs H Q, r' xs H Q -> r xs H Q) : CallR X f r' := fun pins s σ H xs us Q I rx z => h pins s σ H xs us Q I rx (i xs H Q z)
theorem SlR.imp {X : Cx} {r r' : V -> Option Int -> Option Int -> Hp -> VK -> Prop} (h : SlR X r) (i : ∀ x lo hi H Q, r' x lo hi H Q -> r x lo hi H Q) : SlR X r' := fun pins s σ H x v vl vu lo hi sl Q I rx a b c z => h pins s σ H x v vl vu lo hi sl Q I rx a b c (i x lo hi H Q z)
theorem MtM.imp {X : Cx} {id : String} {r r' : V -> List V -> Hp -> VK -> Prop} (h : MtM X id r) (i : ∀ x xs H Q, r' x xs H Q -> r x xs H Q) : MtM X id r' := fun pins s σ H x xs v us Q I rx rs z => h pins s σ H x xs v us Q I rx rs (i x xs H Q z)
def NewA (o : HO) (H : Hp) (Q : VK) : Prop := ∀ p H', H p = none -> Same H H' -> H' p = some o -> Q (.ref p) H'
theorem NewA.at {o : HO} {H : Hp} {Q : VK} (q : NewA o H Q) : ∀ p, H p = none -> Q (.ref p) (upd H p o) := fun p hp => q p _ hp (W2.Same.new hp) upd_same
def tTupA (t : TA) : TE := fun σ H Q => t σ H fun xs H1 => xs.length <= sizeLine /\ NewA (.tup xs) H1 Q
def tLstA (t : TA) : TE := fun σ H Q => t σ H fun xs H1 => xs.length <= sizeLine /\ NewA (.lst xs) H1 Q
section
variable {X : Cx}
theorem qe_tupA {es : List Expr} {t : TA} {x1} {pos : Pos} (h : QA X es t) : QE X (.Tuple es x1 pos) (tTupA t) := ⟨by
  intro pins s σ H Q I hq
  refine wpAny_Tuple_spliced (thn (h.o pos pins s σ H _ I hq) fun us s1 ⟨xs, H1, I1, r, z, q⟩ => ⟨by rw [← r.length]; exact z, ?_⟩)
  have hf : H1 s1.heap.objs.size = none := I1.hok.fresh (Nat.le_refl _)
  refine ⟨.ref s1.heap.objs.size, upd H1 s1.heap.objs.size (.tup xs), I1.laid (t' := s1.toks) (fun b u e => Heap.get?_push_of_some _ e) (Nat.le_refl _) ?_, rfl, q.at _ hf⟩
  exact ⟨z, us, r, ⟨_, Heap.get?_push_size _ rfl, rfl, ⟨_, rfl⟩, rfl⟩⟩⟩
theorem qe_lstA {es : List Expr} {t : TA} {pos : Pos} (h : QA X es t) : QE X (.List es pos) (tLstA t) := ⟨by
  intro pins s σ H Q I hq
  refine wpAny_List_spliced (thn (h.o pos pins s σ H _ I hq) fun us s1 ⟨xs, H1, I1, r, z, q⟩ => ⟨by rw [← r.length]; exact z, ?_⟩)
  have hf : H1 s1.heap.objs.size = none := I1.hok.fresh (Nat.le_refl _)
  refine ⟨.ref s1.heap.objs.size, upd H1 s1.heap.objs.size (.lst xs), I1.laid (t' := s1.toks) (fun b u e => Heap.get?_push_of_some _ e) (Nat.le_refl _) ?_, rfl, q.at _ hf⟩
  exact ⟨z, us, 0, r, Heap.get?_push_size _ rfl⟩⟩
def rCatLA : R2 := fun x y H Q => ∃ l b xs zs, x = .ref l /\ y = .ref b /\ H l = some (.lst xs) /\ H b = some (.lst zs) /\ xs.length + zs.length <= sizeLine /\ NewA (.lst (xs ++ zs)) H Q
theorem op_catLA : OpR X (binaryOp .Add) rCatLA := op_cat.imp fun x y H Q ⟨l, b, xs, zs, e1, e2, h1, h2, h3, q⟩ => ⟨l, b, xs, zs, e1, e2, h1, h2, h3, q.at⟩
def rRepLA : R2 := fun x y H Q => ∃ l k xs, x = .ref l /\ y = .int k /\ H l = some (.lst xs) /\ -(2 ^ 63) <= k /\ k < 2 ^ 63 /\ xs.length * k.toNat <= sizeLine /\ NewA (.lst (List.replicate k.toNat xs).flatten) H Q
theorem op_repLA : OpR X (binaryOp .Mult) rRepLA := op_rep.imp fun x y H Q ⟨l, k, xs, e1, e2, h1, h2, h3, h4, q⟩ => ⟨l, k, xs, e1, e2, h1, h2, h3, h4, q.at⟩
theorem call_list_ofA : CallR X (.type "list") (fun xs H Q => ∃ p ys, xs = [.ref p] /\ (SqL X.K H p ys ∨ SqT X.K H p ys) /\ NewA (.lst ys) H Q) := call_list_of.imp fun xs H Q ⟨p, ys, e, h, q⟩ => ⟨p, ys, e, h, q.at⟩
theorem call_tuple_ofA : CallR X (.type "tuple") (fun xs H Q => ∃ p ys, xs = [.ref p] /\ SqL X.K H p ys /\ NewA (.tup ys) H Q) := call_tuple_of.imp fun xs H Q ⟨p, ys, e, h, q⟩ => ⟨p, ys, e, .inl ⟨h, q.at⟩⟩
def rSlA : V -> Option Int -> Option Int -> Hp -> VK -> Prop := fun x lo hi H Q => ∃ a xs, x = .ref a /\ H a = some (.tup xs) /\ ∀ p H', Same H H' -> H' p = some (.tup (cutV xs lo hi)) -> Q (.ref p) H'
theorem sl_A : SlR X rSlA := sl_tupA.imp fun x lo hi H Q ⟨a, xs, e, h, q⟩ => by subst e; exact W2.slice_any h q
def rCatTA : R2 := fun x y H Q => ∃ a b xs ys, x = .ref a /\ y = .ref b /\ H a = some (.tup xs) /\ H b = some (.tup ys) /\ xs.length + ys.length <= sizeLine /\ ∀ p H', Same H H' -> H' p = some (.tup (xs ++ ys)) -> Q (.ref p) H'
theorem op_catTA : OpR X (binaryOp .Add) rCatTA := op_catA.imp fun x y H Q ⟨a, b, xs, ys, e1, e2, h1, h2, h3, q⟩ => by subst e1; subst e2; exact W2.cat_any h1 h2 h3 q
def rAppendA : V -> List V -> Hp -> VK -> Prop := fun x vs H Q => ∃ l xs y, x = .ref l /\ vs = [y] /\ H l = some (.lst xs) /\ xs.length < sizeLine /\ ∀ H', W2.But l H H' -> H' l = some (.lst (xs ++ [y])) -> Q .non H'
theorem mt_appendA : MtM X "list.append" rAppendA := mt_append.imp fun x vs H Q ⟨l, xs, y, e1, e2, h1, h2, q⟩ => ⟨l, xs, y, e1, e2, h1, h2, q _ W2.But.upd upd_same⟩
end
end L2
namespace W2
open PySem L2
def Keep (H H' : Hp) : Prop := ∀ b o, H b = some o -> H' b = some o ∨ ∃ xs ys, o = .lst xs /\ H' b = some (.lst ys)
theorem Keep.of {H H' : Hp} (s : Same H H') : Keep H H' := fun b o h => .inl (s b o h)
theorem Keep.trans {H H1 H2 : Hp} (x : Keep H H1) (y : Keep H1 H2) : Keep H H2 := fun b o h => by
  rcases x b o h with z | ⟨xs, ys, rfl, z⟩
  · exact y b o z
  · rcases y b _ z with z2 | ⟨us, vs, e, z2⟩
    · exact .inr ⟨xs, ys, rfl, z2⟩
    · exact .inr ⟨xs, vs, rfl, z2⟩
theorem Keep.but {a : Addr} {H H' : Hp} {xs ys : List V} (bt : But a H H') (h : H a = some (.lst xs)) (h' : H' a = some (.lst ys)) : Keep H H' := fun b o e => by
  by_cases z : b = a
  · subst z
    rw [h] at e
    cases e
    exact .inr ⟨xs, ys, rfl, h'⟩
  · exact .inl (bt b o z e)
theorem Keep.tup {H H' : Hp} (k : Keep H H') {b : Addr} {xs : List V} (h : H b = some (.tup xs)) : H' b = some (.tup xs) := by
  rcases k b _ h with z | ⟨_, _, e, _⟩
  · exact z
  · cases e
end W2
namespace L2
open PySem PySem.Spec PyProof.Rows
end L2
namespace L2
open PySem PySem.Spec PyProof.Rows
theorem qs_never {X : Cx} {st : Stmt} : QS X st tNever := ⟨ps_never⟩
def Ite (a : Addr) : It :=
  ⟨fun i H => ∃ xs x, H a = some (.lst xs) /\ xs[i]? = some x,
   fun i H v H' => ∃ p, H p = none /\ v = .ref p /\ ∃ x, H' = upd H p (.tup [.int (i : Int), x]) /\ ∀ xs, H a = some (.lst xs) -> xs[i]? = some x,
   fun i H => ∃ xs, H a = some (.lst xs) /\ xs.length <= i⟩
theorem turn_enum {cm : Bool} {P : Program} {w : World} {K : PySem.W.Frag} {tg : Expr} (htg : tupleTg tg = true) {e it a : Addr} (hne : e ≠ it) :
    Turn P w K cm tg (Ite a) [e, it] e (fun i h => (∃ old, IsEnum h e it (i : Int) old) /\ h.IsListIter it a i) where
  mem := List.mem_cons_self
  obj := fun i h st c hc => by
    obtain ⟨⟨old, h1⟩, ⟨o4, h4, _, d4⟩⟩ := st
    have nof : ∀ {o : Obj} {vs : Array Value}, o.data = .fields vs -> ∀ v, o.data ≠ .cell v := fun e v q => by rw [e] at q; cases q
    simp only [List.mem_cons, List.not_mem_nil, or_false] at hc
    rcases hc with rfl | rfl
    · exact ⟨_, h1, nof rfl⟩
    · exact ⟨_, h4, nof d4⟩
  keep := fun i h h' st k => by
    obtain ⟨⟨old, h1⟩, ⟨o4, h4, r4⟩⟩ := st
    exact ⟨⟨old, k _ (by simp) _ h1⟩, ⟨o4, k _ (by simp) _ h4, r4⟩⟩
  item := by
    intro X hP hw hK hkc hc i pins s σ H E I hf st hg
    subst hP hw hK
    obtain ⟨⟨old, h1⟩, h4⟩ := st
    obtain ⟨xs, x, qa, hx⟩ := hg
    obtain ⟨z, its, n, rv, hlen, e0⟩ := I.lstM qa
    obtain ⟨ux, eux, rux⟩ := rv.get hx
    refine wpAny_pyNext_enum_item h1 h4 (show s.heap.IsList a its.toArray from ⟨_, e0, rfl, n, rfl⟩) (x := ux) (by simpa using eux) hne fun g b1 b2 b3 b4 b5 => ?_
    refine ⟨_, rfl, ?_⟩
    have elt : e < s.heap.objs.size := Heap.lt_size h1
    cases tg with
    | Tuple es kk pp =>
      refine wpAny_letOwnedTupleGo_enum b1 fun g' c1 sb => ?_
      have new : g'.get? s.heap.objs.size = some { cls := .type "tuple", data := .seq #[.int i s.toks, ux] } := sb.extBut _ _ (Nat.ne_of_gt elt) b3
      have I1 : Inv X pins σ (upd H s.heap.objs.size (.tup [.int (i : Int), x])) { s with heap := g', toks := s.toks + 1 } := by
        refine I.turnedNew (t' := s.toks + 1) (L := [e, it]) (fun c o hcn eo => ?_) hf (Nat.le_refl _) ⟨by show 2 <= sizeLine; decide, [.int i s.toks, ux], .cons ⟨_, rfl⟩ (.cons rux .nil), ⟨_, new, rfl, ⟨0, rfl⟩, rfl⟩⟩
        simp only [List.mem_cons, List.not_mem_nil, or_false, not_or] at hcn
        exact sb.extBut c o hcn.1 (b5 c o hcn.1 hcn.2 eo)
      refine ⟨.ref s.heap.objs.size, _, I1, rfl, ⟨_, I.fresh, rfl, x, rfl, fun xs' q1 => ?_⟩, ⟨⟨ux, ?_⟩, b2.extBut sb.extBut hne.symm⟩, fun c hcm => ?_⟩
      · rw [qa] at q1; cases q1; exact hx
      · rw [show ((i + 1 : Nat) : Int) = (i : Int) + 1 by omega]; exact c1
      · obtain ⟨o, eo⟩ : ∃ o, s.heap.get? c = some o := by
          simp only [List.mem_cons, List.not_mem_nil, or_false] at hcm
          rcases hcm with rfl | rfl
          · exact ⟨_, h1⟩
          · obtain ⟨o4, g4, _⟩ := h4
            exact ⟨_, g4⟩
        rw [upd_ne (Nat.ne_of_lt (Heap.lt_size eo))]
        exact (hf c hcm).1
    | _ => exact absurd (show false = true from htg) Bool.false_ne_true
  done := by
    intro X hP hw hK hkc hc i pins s σ H E I hf st hg
    subst hP hw hK
    obtain ⟨⟨old, h1⟩, h4⟩ := st
    obtain ⟨xs, qa, hl⟩ := hg
    obtain ⟨z, its, n, rv, hlen, e0⟩ := I.lstM qa
    refine Hd.enum_end (I.hin hc) h1 h4 (show s.heap.IsList a its.toArray from ⟨_, e0, rfl, n, rfl⟩) (by simp; omega) fun g up => ⟨rfl, ?_⟩
    refine I.turnedL (t' := s.toks) (L := [e, it]) (fun c o hcn eo => ?_) hf
    simp only [List.mem_cons, List.not_mem_nil, or_false, not_or] at hcn
    exact up c o hcn.2 eo
  self := fun _ _ _ _ _ st h => by
    obtain ⟨⟨old, h1⟩, _⟩ := st
    exact wpAny_pyIter_enum h1 h
section
variable {X : Cx} {tg : Expr}
def iEnum (ta : TA) : TI := fun σ H R => ta σ H fun vs H1 => ∃ a xs, vs = [.ref a] /\ H1 a = some (.lst xs) /\ R (Ite a) H1
theorem pi_enum {e1 : Expr} {ta : TA} {p pos : Pos} (htg : tupleTg tg = true) (hg : Gl X "enumerate") (hm : X.mg "enumerate" = none) (ha : PA X [e1] ta) (hs : starEach [e1] X.env = [(false, eval e1 X.env)] := by rfl)
    (hb : bootBuiltins "enumerate" = some (.type "enumerate") := by decide +kernel) : PI X tg (.Call (.Name "enumerate" p) [e1] [] pos) (iEnum ta) := by
  intro pins s σ H R I h
  refine Call_ (ld_blt I hg hm hb (PyProof.Rows.callWith_type1 (thn (ha pos pins s σ H _ I h) fun us s1 ⟨vs, H1, I1, r1, q1⟩ => ?_) hs rfl))
  obtain ⟨a, xs, e, qa, q⟩ := q1
  subst e
  obtain ⟨u1, rfl, ra⟩ := vals1 r1
  cases ra
  obtain ⟨z, its, n, rv, hlen, e0⟩ := I1.lstM qa
  refine call_enumerate_1 e0 fun g z1 z2 z3 up => ?_
  refine wpAny_pyIter_enum z1 ?_
  have I2 : Inv X pins σ H1 { s1 with heap := g } := I1.kept (t' := s1.toks) up
  refine ⟨_, [s1.heap.objs.size + 1, s1.heap.objs.size], _, _, H1, rfl, I2, turn_enum htg (Nat.ne_of_gt (Nat.lt_succ_self _)), ⟨⟨_, z1⟩, z2⟩, fun c hc => ?_, q⟩
  have big : s1.heap.objs.size <= c := by
    simp only [List.mem_cons, List.not_mem_nil, or_false] at hc
    rcases hc with rfl | rfl
    · exact Nat.le_add_right _ _
    · exact Nat.le_refl _
  exact I1.fpOk big (I1.hok.fresh big)
theorem qi_enum {e1 : Expr} {ta : TA} {p pos : Pos} (htg : tupleTg tg = true) (hg : Gl X "enumerate") (hm : X.mg "enumerate" = none) (ha : QA X [e1] ta) (hs : starEach [e1] X.env = [(false, eval e1 X.env)] := by rfl)
    (hb : bootBuiltins "enumerate" = some (.type "enumerate") := by decide +kernel) : QI X tg (.Call (.Name "enumerate" p) [e1] [] pos) (iEnum ta) := ⟨pi_enum htg hg hm ha.o hs hb⟩
end
theorem for_enum {a : Addr} {xs : List V} {g : TG} {tb : TS} {D : Ends} {σ : St} {H : Hp} (Pv : Nat -> St -> Hp -> Prop) (h0 : Pv 0 σ H) (hl : ∀ i σ H, i <= xs.length -> Pv i σ H -> H a = some (.lst xs))
    (hs : ∀ i x p σ H, xs[i]? = some x -> H p = none -> Pv i σ H -> g (.ref p) σ (upd H p (.tup [.int (i : Int), x])) fun σ2 H2 => tb { D with nx := Pv (i + 1), ct := Pv (i + 1), bk := D.nx } σ2 H2) (hd : ∀ σ H, Pv xs.length σ H -> D.nx σ H) :
    ∃ W : Nat -> Nat -> St -> Hp -> Prop, (∃ m, W 0 m σ H) /\ ∀ i m σ H, W i m σ H ->
      ((Ite a).stop i H /\ D.nx σ H) ∨ ((Ite a).go i H /\ ∃ N : St -> Hp -> Prop, (∀ σ' H', N σ' H' -> ∃ m', m' < m /\ W (i + 1) m' σ' H') /\ ∀ x H', (Ite a).yld i H x H' -> g x σ H' fun σ2 H2 => tb { D with nx := N, ct := N, bk := D.nx } σ2 H2) := by
  refine ⟨fun i m σ H => m = xs.length - i /\ i <= xs.length /\ Pv i σ H, ⟨_, rfl, Nat.zero_le _, h0⟩, ?_⟩
  rintro i m σ H ⟨rfl, hi, p⟩
  have qa := hl i σ H hi p
  by_cases hlt : i < xs.length
  · refine .inr ⟨⟨xs, xs[i], qa, by simp [hlt]⟩, Pv (i + 1), fun σ' H' p' => ⟨xs.length - (i + 1), by omega, rfl, hlt, p'⟩, fun v H' yv => ?_⟩
    obtain ⟨q, hq, rfl, x, rfl, hxy⟩ := yv
    exact hs i x q σ H (hxy xs qa) hq p
  · have e : i = xs.length := by omega
    refine .inl ⟨⟨xs, qa, by omega⟩, hd σ H (e ▸ p)⟩
end L2
namespace Srt
open PySem PySem.W PyProof.Rows
end Srt
namespace L2
open PySem PySem.Spec PyProof.Rows
def RowV (H : Hp) (x : V) (c : List Int) : Prop := ∃ a, x = .ref a /\ H a = some (.tup (c.map V.int))
def RowsV (H : Hp) (xs : List V) (cs : List (List Int)) : Prop := xs.length = cs.length /\ ∀ (i : Nat) (x : V), xs[i]? = some x -> ∃ c, cs[i]? = some c /\ RowV H x c
section
variable {X : Cx}
theorem all_range_eq : ∀ (ns ms : List Int), ((List.range (min ns.length ms.length)).all (fun j => ns.getD j 0 == ms.getD j 0) && ns.length == ms.length) = decide (ns = ms) := by
  intro ns ms
  by_cases h : ns = ms
  · subst h
    simp
  · rw [decide_eq_false h]
    by_cases hl : ns.length = ms.length
    · rw [Bool.and_eq_false_iff]
      refine .inl ?_
      rw [Bool.eq_false_iff]
      intro z
      rw [List.all_eq_true] at z
      refine h (List.ext_getElem hl fun i h1 h2 => ?_)
      have := z i (List.mem_range.mpr (by omega))
      simpa [h1, h2] using this
    · rw [Bool.and_eq_false_iff]
      exact .inr (by simpa using hl)
end
end L2
namespace Xn
open PySem PyProof.Rows
theorem dict_mapFields (o : Obj) (f : Array Value -> Array Value) : (Obj.mapFields f o).dict = o.dict := by
  unfold Obj.mapFields
  split <;> rfl
def Rec (h : Heap) (e : Addr) (C : Value) (d : Option Addr) (head : Value) : Prop := ∃ oe vs, h.get? e = some oe /\ oe.cls = C /\ oe.dict = d /\ oe.data = .fields vs /\ vs[1]? = some head /\ vs[2]? = some .none
def Ent (h : Heap) (T : Addr) (fl : Value) : Prop := ∃ oT ts, h.get? T = some oT /\ oT.data = .fields ts /\ ts[3]? = some fl
abbrev fra (l : List Env) : List Addr := l.filterMap (·.frame)
def KeptBut (L F : List Addr) (h h' : Heap) : Prop := (∀ b o, b ∉ L -> b ∉ F -> h.get? b = some o -> h'.get? b = some o) /\ ∀ b o, b ∉ L -> b ∈ F -> h.get? b = some o -> ∃ sl, h'.get? b = some { o with slots := sl }
theorem KeptBut.trans {L L' F : List Addr} {h h1 h2 : Heap} (x : KeptBut L F h h1) (y : KeptBut L' F h1 h2) : KeptBut (L ++ L') F h h2 := by
  refine ⟨fun b o nl nf e => ?_, fun b o nl hf e => ?_⟩
  · exact y.1 b o (fun z => nl (List.mem_append_right _ z)) nf (x.1 b o (fun z => nl (List.mem_append_left _ z)) nf e)
  · obtain ⟨sl, e1⟩ := x.2 b o (fun z => nl (List.mem_append_left _ z)) hf e
    obtain ⟨sl', e2⟩ := y.2 b _ (fun z => nl (List.mem_append_right _ z)) hf e1
    exact ⟨sl', e2⟩
section
variable {M : Model} {A : Around} {E : Value -> Shared -> Prop} {s : Shared}
theorem entryP {base : Heap} {env : Env} {outer : List Env} {L e : Addr} {oe : Obj} {vs : Array Value} {head : Value} {hadNext : Bool} {Q : Unit -> Shared -> Prop}
    (hfr : A.frames = some (env :: outer)) (hl : s.heap.FunFrames base (env :: outer)) (hf : env.frame = some L)
    (he : s.heap.get? e = some oe) (hd : oe.data = .fields vs) (hsz : 1 < vs.size) (h2 : vs[2]? = some .none)
    (h : ∀ h' T, s.heap.get? T = none -> KeptBut [e] (fra (env :: outer)) s.heap h' -> Rec h' e oe.cls oe.dict (.ref T) -> Ent h' T (rawInt L) -> Q () { s with heap := h' }) :
    wpAny M A (do let a ← frameOf env; let pl ← entryPlaceOf L hadNext; let b ← EntryCells.newEntry head a .none (rawInt L) .none pl; setField (.ref e) 1 b) Q E s := by
  have hene : e ∉ fra (env :: outer) := fun hm => by
    obtain ⟨_, o, ho, hnf⟩ := hl.mem hm
    rw [he] at ho; injection ho with ho; subst ho; exact hnf vs hd
  refine wpAny_bind (wpAny_frameOf_fun hfr hl hf fun h1 hs1 => ?_)
  refine wpAny_bind (wpAny_entryPlaceOf fun pl hpl => ?_)
  unfold EntryCells.newEntry newFields
  refine wpAny_bind (wpAny_newObj_type ?_ (hpl.sizeOk5 _ _ _ _ _))
  have he1 : h1.get? e = some oe := (hs1.2.1 e hene).trans he
  have he2 := Heap.get?_push_of_some (h := h1) { cls := .type "traceback", dict := none, data := .fields ([head, .ref L, .none, rawInt L, .none] ++ (if pl.isEmpty then List.replicate 6 Value.none else pl)).toArray } he1
  have hTe : h1.objs.size ≠ e := Nat.ne_of_gt (Heap.lt_size he1)
  have hd3 := Obj.data_mapFields hd (·.setIfInBounds 1 (Value.ref h1.objs.size))
  have he3 := Heap.get?_update_self (Obj.mapFields (·.setIfInBounds 1 (Value.ref h1.objs.size))) he2 (Obj.isFreed_of_fields hd3)
  refine wpAny_setField he2 hd hsz (h _ h1.objs.size ?_ ⟨fun b o nl nf q => ?_, fun b o nl hb q => ?_⟩ ⟨_, _, he3, Obj.cls_mapFields _ _, dict_mapFields _ _, hd3, by simp [hsz], by simp [h2]⟩ ⟨_, _, (Heap.get?_update_other _ _ (Ne.symm hTe)).trans (Heap.get?_push_size h1 rfl), rfl, ?_⟩)
  · cases q : s.heap.get? h1.objs.size with
    | none => rfl
    | some o => have := Heap.lt_size q; rw [← hs1.1] at this; exact absurd this (Nat.lt_irrefl _)
  · have nbe : b ≠ e := fun z => nl (by rw [z]; exact List.mem_singleton.mpr rfl)
    rw [Heap.get?_update_other _ _ (Ne.symm nbe)]
    exact Heap.get?_push_of_some _ ((hs1.2.1 b nf).trans q)
  · have nbe : b ≠ e := fun z => nl (by rw [z]; exact List.mem_singleton.mpr rfl)
    obtain ⟨sl, e1⟩ := hs1.2.2 b o q
    refine ⟨sl, ?_⟩
    rw [Heap.get?_update_other _ _ (Ne.symm nbe)]
    exact Heap.get?_push_of_some _ e1
  · first | (simp; done) | (rcases hpl with rfl | ⟨_, _, _, _, _, _, _, rfl⟩ <;> simp)
theorem note_new {base : Heap} {env : Env} {outer : List Env} {L e : Addr} {C : Value} {d : Option Addr} {Q : Unit -> Shared -> Prop}
    (hfr : A.frames = some (env :: outer)) (hl : s.heap.FunFrames base (env :: outer)) (hf : env.frame = some L) (hr : Rec s.heap e C d .none)
    (h : ∀ h' T, s.heap.get? T = none -> KeptBut [e] (fra (env :: outer)) s.heap h' -> Rec h' e C d (.ref T) -> Ent h' T (rawInt L) -> Q () { s with heap := h' }) : wpAny M A (noteFrame (.ref e) env) Q E s := by
  obtain ⟨oe, vs, he, rfl, rfl, hd, h1, h2⟩ := hr
  unfold noteFrame
  simp only [hf]
  refine wpAny_bind (wpAny_field he hd h1 ?_)
  rw [if_neg (show ¬ ((Value.none != Value.none) = true) by decide)]
  exact entryP hfr hl hf he hd (Array.getElem?_eq_some_iff.mp h1).1 h2 h
theorem note_on {base : Heap} {env : Env} {outer : List Env} {L e T0 : Addr} {C : Value} {d : Option Addr} {Q : Unit -> Shared -> Prop}
    (hfr : A.frames = some (env :: outer)) (hl : s.heap.FunFrames base (env :: outer)) (hf : env.frame = some L) (hr : Rec s.heap e C d (.ref T0)) (ht : Ent s.heap T0 .none) (hne : T0 ≠ e)
    (h : ∀ h' T, s.heap.get? T = none -> KeptBut [e, T0] (fra (env :: outer)) s.heap h' -> Rec h' e C d (.ref T) -> Ent h' T (rawInt L) -> Q () { s with heap := h' }) : wpAny M A (noteFrame (.ref e) env) Q E s := by
  obtain ⟨oe, vs, he, rfl, rfl, hd, h1, h2⟩ := hr
  obtain ⟨oT, ts, hT, hdT, h3⟩ := ht
  unfold noteFrame
  simp only [hf]
  refine wpAny_bind (wpAny_field he hd h1 ?_)
  rw [if_pos (show (Value.ref T0 != Value.none) = true from by simp)]
  refine wpAny_bind (wpAny_field hT hdT h3 ?_)
  rw [if_neg (show ¬ ((Value.none == rawInt L) = true) from by simp [rawInt])]
  refine wpAny_bind (wpAny_setField hT hdT (Array.getElem?_eq_some_iff.mp h3).1 ?_)
  have other : ∀ b, b ≠ T0 -> (s.heap.update T0 (Obj.mapFields (·.setIfInBounds 3 Value.none))).get? b = s.heap.get? b := fun b hb => Heap.get?_update_other _ _ (Ne.symm hb)
  have noRecord : ∀ b o, s.heap.get? b = some o -> (∀ vs, o.data ≠ .fields vs) -> b ≠ T0 := fun b o hb hnf q => by
    rw [q, hT] at hb; injection hb with hb; subst hb; exact hnf ts hdT
  refine entryP hfr (hl.of_keeps fun b o hb hnf => ⟨o, (other b (noRecord b o hb hnf)).trans hb, rfl⟩) hf ((other e (Ne.symm hne)).trans he) hd (Array.getElem?_eq_some_iff.mp h1).1 h2 fun h' T hTn kb hr' ht' => ?_
  refine h h' T ?_ ⟨fun b o nl nf q => ?_, fun b o nl hb q => ?_⟩ hr' ht'
  · cases q : s.heap.get? T with
    | none => rfl
    | some o =>
      by_cases z : T = T0
      · have hu := Heap.get?_update_self (Obj.mapFields (·.setIfInBounds 3 Value.none)) hT (Obj.isFreed_of_fields (Obj.data_mapFields hdT _))
        rw [← z] at hu
        rw [z] at hTn
        rw [z] at hu
        rw [hu] at hTn; cases hTn
      · rw [other T z, q] at hTn; cases hTn
  · have n1 : b ≠ T0 := fun z => nl (by rw [z]; simp)
    exact kb.1 b o (fun z => nl (by rw [List.mem_singleton.mp z]; simp)) nf ((other b n1).trans q)
  · have n1 : b ≠ T0 := fun z => nl (by rw [z]; simp)
    exact kb.2 b o (fun z => nl (by rw [List.mem_singleton.mp z]; simp)) hb ((other b n1).trans q)
theorem land {F : List Addr} {e T : Addr} {C fl : Value} {d : Option Addr} {Q : Unit -> Shared -> Prop} (hr : Rec s.heap e C d (.ref T)) (ht : Ent s.heap T fl) (hne : T ≠ e) (hF : ∀ b ∈ F, b ≠ T)
    (h : ∀ h', KeptBut [T] F s.heap h' -> Rec h' e C d (.ref T) -> Ent h' T .none -> Q () { s with heap := h' }) : wpAny M A (setFlight (.ref e) none) Q E s := by
  obtain ⟨oe, vs, he, hC, hdi, hd, h1, h2⟩ := hr
  obtain ⟨oT, ts, hT, hdT, h3⟩ := ht
  have hsz3 : 3 < ts.size := (Array.getElem?_eq_some_iff.mp h3).1
  unfold setFlight
  refine wpAny_bind (wpAny_field he hd h1 ?_)
  rw [if_pos (show (Value.ref T != Value.none) = true from by simp)]
  refine wpAny_setField hT hdT hsz3 (h _ ⟨fun b o nl _ q => (Heap.get?_update_other _ _ (fun z => nl (by rw [z]; exact List.mem_singleton.mpr rfl))).trans q, fun b o nl _ q => ⟨o.slots, (Heap.get?_update_other _ _ (fun z => nl (by rw [z]; exact List.mem_singleton.mpr rfl))).trans q⟩⟩
    ⟨oe, vs, (Heap.get?_update_other _ _ hne).trans he, hC, hdi, hd, h1, h2⟩ ⟨_, _, Heap.get?_update_self _ hT (Obj.isFreed_of_fields (Obj.data_mapFields hdT _)), Obj.data_mapFields hdT _, by simp [hsz3]⟩)
end
end Xn
namespace Xn
open PySem PyProof.Rows
section
variable {M : Model} {A : Around} {E : Value -> Shared -> Prop} {s : Shared}
def HeadOk (h : Heap) (e : Addr) (head : Value) (L : List Addr) : Prop := (head = .none /\ L = []) ∨ ∃ T, head = .ref T /\ Ent h T .none /\ T ≠ e /\ L = [T]
theorem noted {base : Heap} {env : Env} {outer : List Env} {L e : Addr} {C head : Value} {d : Option Addr} {hl' : List Addr} {Q : Unit -> Shared -> Prop}
    (hfr : A.frames = some (env :: outer)) (hl : s.heap.FunFrames base (env :: outer)) (hf : env.frame = some L) (hr : Rec s.heap e C d head) (hh : HeadOk s.heap e head hl')
    (h : ∀ h' T, s.heap.get? T = none -> KeptBut (e :: hl') (fra (env :: outer)) s.heap h' -> Rec h' e C d (.ref T) -> Ent h' T (rawInt L) -> Q () { s with heap := h' }) : wpAny M A (noteFrame (.ref e) env) Q E s := by
  rcases hh with ⟨rfl, rfl⟩ | ⟨T0, rfl, ht, hne, rfl⟩
  · exact note_new hfr hl hf hr h
  · exact note_on hfr hl hf hr ht hne h
theorem landed {base : Heap} {env : Env} {outer : List Env} {L e : Addr} {C head : Value} {d : Option Addr} {hl' : List Addr} {Q : Unit -> Shared -> Prop}
    (hfr : A.frames = some (env :: outer)) (hl : s.heap.FunFrames base (env :: outer)) (hf : env.frame = some L) (hr : Rec s.heap e C d head) (hh : HeadOk s.heap e head hl')
    (h : ∀ h' T, s.heap.get? T = none -> T ≠ e -> KeptBut (e :: hl') (fra (env :: outer)) s.heap h' -> Rec h' e C d (.ref T) -> Ent h' T .none -> Q () { s with heap := h' }) :
    wpAny M A (noteFrame (.ref e) env) (fun _ s' => wpAny M A (setFlight (.ref e) none) Q E s') E s := by
  refine noted hfr hl hf hr hh fun h1 T hT k1 r1 t1 => ?_
  have hTe : T ≠ e := fun z => by
    obtain ⟨oe, _, he, _⟩ := hr
    rw [z, he] at hT; cases hT
  have hTF : ∀ b ∈ fra (env :: outer), b ≠ T := fun b hb z => by
    obtain ⟨_, o, ho, _⟩ := hl.mem hb
    rw [z, hT] at ho; cases ho
  refine land (F := fra (env :: outer)) (s := { s with heap := h1 }) r1 t1 hTe hTF fun h2 k2 r2 t2 => ?_
  have k := k1.trans k2
  refine h h2 T hT hTe ⟨fun b o nl nf q => k.1 b o (fun z => ?_) nf q, fun b o nl hb q => k.2 b o (fun z => ?_) hb q⟩ r2 t2
  all_goals
    rcases List.mem_append.mp z with z | z
    · exact nl z
    · rw [List.mem_singleton.mp z, hT] at q; cases q
theorem leave {base : Heap} {env : Env} {outer : List Env} {L e : Addr} {C head : Value} {d : Option Addr} {hl' : List Addr} {Q : Unit -> Shared -> Prop}
    (hfr : A.frames = some (env :: outer)) (hl : s.heap.FunFrames base (env :: outer)) (hf : env.frame = some L) (hr : Rec s.heap e C d head) (hh : HeadOk s.heap e head hl')
    (h : ∀ h' T, s.heap.get? T = none -> T ≠ e -> KeptBut (e :: hl') (fra (env :: outer)) s.heap h' -> Rec h' e C d (.ref T) -> Ent h' T .none -> Q () { s with heap := h' }) : wpAny M A (leaving env (.ref e)) Q E s := by
  unfold leaving
  exact wpAny_bind (landed hfr hl hf hr hh h)
end
end Xn
namespace L2
open PySem PySem.Spec PyProof.Rows Xn
theorem ObjOk.some {P : Program} {w : World} {H : Hp} {h : Heap} {a : Addr} {o : HO} (x : ObjOk P w H h a o) : ∃ ob, h.get? a = some ob := by
  cases o with
  | lst xs => obtain ⟨_, _, _, _, e⟩ := x; exact ⟨_, e⟩
  | tup xs => obtain ⟨_, _, _, ob, e, _⟩ := x; exact ⟨_, e⟩
  | dK kvs => obtain ⟨_, _, _, _, o, _, _, e, _⟩ := x; exact ⟨_, e⟩
  | dT kvs => obtain ⟨_, _, _, _, o, _, _, e, _⟩ := x; exact ⟨_, e⟩
  | set S n => obtain ⟨o, _, _, _, e, _⟩ := x; exact ⟨_, e⟩
  | ins C dx fs => obtain ⟨_, _, _, e, _⟩ := x; exact ⟨_, e⟩
  | own y => obtain ⟨_, e⟩ := x; exact ⟨_, e⟩
  | xd fs => obtain ⟨_, ⟨_, _, _, e, _⟩, _⟩ := x; exact ⟨_, e⟩
  | rng lo hi => obtain ⟨_, _, _, e⟩ := x; exact ⟨_, e⟩
  | frz ob u => obtain ⟨e, _⟩ := x; exact ⟨_, e⟩
  | tbl ps => exact ⟨_, (show h.get? a = Option.some _ from x)⟩
  | met f y => exact ⟨_, (show h.get? a = Option.some _ from x)⟩
  | ext φ => obtain ⟨_, ⟨_, e⟩, _⟩ := x; exact ⟨_, e⟩
theorem HOk.gone {P : Program} {w : World} {H : Hp} {h : Heap} (x : HOk P w H h) {a : Addr} (e : h.get? a = none) : H a = none := by
  cases q : H a with
  | none => rfl
  | some o =>
    obtain ⟨ob, z⟩ := (x a o q).some
    rw [e] at z; cases z
theorem HOk.keptBut {P : Program} {w : World} {H : Hp} {h h' : Heap} {L F : List Addr} (x : HOk P w H h) (k : KeptBut L F h h') (hL : ∀ b ∈ L, H b = none) (hF : ∀ b ∈ F, H b = none) : HOk P w H h' := fun a o e =>
  (x a o e).stay (fun b u hb q => by
    have hn : H b ≠ none := by
      rcases hb with rfl | z
      · rw [e]; simp
      · rw [z]; simp
    exact k.1 b u (fun z => hn (hL b z)) (fun z => hn (hF b z)) q) (fun _ q => q) fun _ _ q => q
theorem Un.keptBut {fs : List Addr} {H0 H : Hp} {h0 h h' : Heap} {L F : List Addr} (u : Un fs [] H0 H h0 h) (k : KeptBut L F h h') (hL : ∀ b ∈ L, h0.get? b = none) (hF : ∀ b ∈ F, b ∈ fs ∨ h0.get? b = none) : Un fs [] H0 H h0 h' := by
  have nL : ∀ b o, h0.get? b = some o -> b ∉ L := fun b o e z => by rw [hL b z] at e; cases e
  refine ⟨fun b o e n nf nx => ?_, fun b o e n hf nx => ?_, u.free, fun b o e nx => ?_, u.tups, u.frzs, u.tbls⟩
  · refine k.1 b o (nL b o e) (fun z => ?_) (u.keep b o e n nf nx)
    rcases hF b z with z | z
    · exact nf z
    · rw [z] at e; cases e
  · obtain ⟨sl, e1⟩ := u.slot b o e n hf nx
    by_cases hb : b ∈ F
    · obtain ⟨sl', e2⟩ := k.2 b _ (nL b o e) hb e1
      exact ⟨sl', e2⟩
    · exact ⟨sl, k.1 b _ (nL b o e) hb e1⟩
  · obtain ⟨o', e1⟩ := u.there b o e nx
    by_cases hb : b ∈ F
    · obtain ⟨sl', e2⟩ := k.2 b _ (nL b o e) hb e1
      exact ⟨_, e2⟩
    · exact ⟨_, k.1 b _ (nL b o e) hb e1⟩
def CXE (P : Program) (w : World) : CXT := fun outer H s E ev s' => ∃ (e T C : Addr) (d : Option Addr) (H' : Hp), ev = .ref e /\ s'.os = s.os /\ AllBare s'.gens /\ Un (frs outer) [] H H' s.heap s'.heap /\ HOk P w H' s'.heap /\
  s.heap.get? e = none /\ s.heap.get? T = none /\ T ≠ e /\ H' e = none /\ H' T = none /\ Rec s'.heap e (.ref C) d (.ref T) /\ Ent s'.heap T .none /\ E (.ref C) d H'
structure Fresh (X : Cx) (pins : List (Addr × Obj)) (e : Addr) : Prop where
  s0 : X.s₀.heap.get? e = none
  loc : e ≠ X.env.locals
  cell : ∀ x c, X.env.cells.lookup x = some c -> c ≠ e
  pin : ∀ p ∈ X.pn ++ pins, p.1 ≠ e
theorem Fresh.of {X : Cx} {pins : List (Addr × Obj)} {σ : St} {H : Hp} {s : Shared} (I : Inv X pins σ H s) (hx : X.ex = []) {e : Addr} (h : s.heap.get? e = none) : Fresh X pins e := by
  refine ⟨?_, ?_, fun x c hc z => ?_, fun p hp z => ?_⟩
  · cases q : X.s₀.heap.get? e with
    | none => rfl
    | some o =>
      obtain ⟨o', z⟩ := I.base.there e o q (by rw [hx]; simp)
      rw [h] at z; cases z
  · intro z
    obtain ⟨m, ⟨o, _, _, ho, _⟩, _⟩ := I.loc
    rw [z, ho] at h; cases h
  · obtain ⟨v, o, ho, _⟩ := I.cell x c hc
    rw [← z, ho] at h; cases h
  · obtain ⟨ho, _⟩ := I.pin p hp
    rw [← z, ho] at h; cases h
def Xok (X : Cx) (E : XK) : Prop := ∀ (pins : List (Addr × Obj)) (σ : St) (H : Hp) (s : Shared) (e C : Addr) (d : Option Addr) (head : Value) (hl : List Addr), Inv X pins σ H s -> Fresh X pins e -> H e = none ->
  Rec s.heap e (.ref C) d head -> HeadOk s.heap e head hl -> (∀ b ∈ hl, Fresh X pins b /\ H b = none) -> E (.ref C) d H -> X.xe (.ref e) s
theorem passX {X : Cx} {E : XK} (hx : X.ex = []) (k : Xok X E) : Passes (CXE X.prog X.w) X E := by
  rintro pins σ H s ev s' I ⟨e, T, C, d, H', rfl, ho, hg, u, hok, fe, fT, nTe, He, HT, hr, ht, hE⟩
  exact k pins σ H' s' e C d (.ref T) [T] (I.call' ho u hok hg fun b hb => absurd hb (by simp)) (Fresh.of I hx fe) He hr (.inr ⟨T, rfl, ht, nTe, rfl⟩) (fun b hb => by rw [List.mem_singleton.mp hb]; exact ⟨Fresh.of I hx fT, HT⟩) hE
theorem xok_cx {P : Program} {w : World} {K : PySem.W.Frag} {mg : Str -> Option Value} {base : Heap} {N : List Str} {qual : Str} {scope : Scope} {f : Addr} {cd : Value} {A : Around} {outer : List Env} {s0 : Shared} {H0 : Hp} {E : XK} :
    Xok (cxOf (CXE P w) P w K mg base N qual scope f cd A outer s0 H0 E) E := by
  intro pins σ H s e C d head hl I fe He hr hh hhl hE
  show wpAny (model P w) (A.deeper (envOfC qual scope s0.heap.objs.size f cd)) (leaving (envOfC qual scope s0.heap.objs.size f cd) (.ref e)) _ _ s
  have hfs : ∀ b ∈ fra (envOfC qual scope s0.heap.objs.size f cd :: outer), H b = none := I.stkFree
  refine leave (base := base) I.ok.frames I.stack rfl hr hh fun h' T hT nTe kb r1 t1 => ⟨e, T, C, d, H, rfl, I.os, I.bare, ?_, ?_, fe.s0, (Fresh.of I rfl hT).s0, nTe, He, I.hok.gone hT, r1, t1, hE⟩
  · refine (show Un (frs outer) [] H0 H s0.heap s.heap from I.base).keptBut kb (fun b hb => ?_) (fun b hb => ?_)
    · rcases List.mem_cons.mp hb with z | z
      · rw [z]; exact fe.s0
      · exact (hhl b z).1.s0
    · rcases List.mem_cons.mp (show b ∈ s0.heap.objs.size :: frs outer from hb) with z | z
      · refine .inr ?_
        cases q : s0.heap.get? b with
        | none => rfl
        | some o => have := Heap.lt_size q; rw [z] at this; exact absurd this (Nat.lt_irrefl _)
      · exact .inl z
  · refine I.hok.keptBut kb (fun b hb => ?_) hfs
    rcases List.mem_cons.mp hb with z | z
    · rw [z]; exact He
    · exact (hhl b z).2
theorem passE {P : Program} {w : World} {K : PySem.W.Frag} {mg : Str -> Option Value} {base : Heap} {N : List Str} {qual : Str} {scope : Scope} {f : Addr} {cd : Value} {A : Around} {outer : List Env} {s0 : Shared} {H0 : Hp} {E : XK} :
    Passes (CXE P w) (cxOf (CXE P w) P w K mg base N qual scope f cd A outer s0 H0 E) E := passX rfl xok_cx
abbrev bmV : List Value := [.type "ValueError", .type "Exception", .type "BaseException", .type "object"]
structure ECls (K : PySem.W.Frag) (mg : Str -> Option Value) (x : Str) (C : Addr) : Prop where
  at_ : mg x = some (.ref C)
  is : PySem.W.excIn K C bmV "ValueError.__new__" = true
theorem ECls.own {K : PySem.W.Frag} {mg : Str -> Option Value} {x : Str} {C : Addr} {h : Heap} (c : ECls K mg x C) (X : K.In h) : OwnCls x C bmV "ValueError.__new__" mg h := by
  obtain ⟨e, q⟩ := c
  refine ⟨e, ?_⟩
  unfold PySem.W.excIn at q
  split at q
  · rename_i dd cd sl ho
    split at q
    · rename_i C' bm k0 k1 k2 k3 n k5 hm hs
      simp only [Bool.and_eq_true, beq_iff_eq, Bool.not_eq_true'] at q
      obtain ⟨⟨⟨⟨⟨rfl, rfl⟩, hdel⟩, ht⟩, hok⟩, hni⟩ := q
      obtain ⟨nm, bs, mro, ns, qn, hd, sn, sub, ab, col, del⟩ := cd
      dsimp only at hm hdel hok hni
      subst hm hdel
      have hsl : sl = #[k0, k1, k2, k3, some (.builtin "ValueError.__new__"), k5] := by
        obtain ⟨l⟩ := sl
        simp only at hs
        rw [hs]
      subst hsl
      exact ⟨bm, ns, nm, qn, bs, hd, sn, sub, ab, col, dd, k0, k1, k2, k3, k5, _, X _ _ ho, .of_isNs (PySem.W.isNs_of_in X hok), PySem.W.nsMap_none_of_in X hok hni, PySem.W.tail_of_in X ht⟩
    · cases q
  · cases q
end L2
namespace PySem
end PySem
namespace L2
open PySem PySem.Spec PyProof.Rows Xn
theorem Inv.keptBut {X : Cx} {pins : List (Addr × Obj)} {σ : St} {H : Hp} {s : Shared} {h' : Heap} {L : List Addr} (I : Inv X pins σ H s) (hx : X.ex = []) (kb : KeptBut L (frs X.stack) s.heap h') (hL : ∀ b ∈ L, Fresh X pins b /\ H b = none) :
    Inv X pins σ H { s with heap := h' } := by
  have one : ∀ b o, b ∉ L -> s.heap.get? b = some o -> ∃ sl, h'.get? b = some { o with slots := sl } := fun b o nl e => by
    by_cases hb : b ∈ frs X.stack
    · exact kb.2 b o nl hb e
    · exact ⟨o.slots, kb.1 b o nl hb e⟩
  refine ⟨I.ok, I.os, I.bare, ?_, ?_, fun x c e => ?_, I.free, I.freeC, fun p hp => ?_, I.hok.keptBut kb (fun b hb => (hL b hb).2) I.stkFree, I.len⟩
  · rw [hx]
    have u := I.base
    rw [hx] at u
    refine u.keptBut kb (fun b hb => (hL b hb).1.s0) fun b hb => ?_
    rcases List.mem_cons.mp (I.stkSub b hb) with z | z
    · refine .inr ?_
      cases q : X.s₀.heap.get? b with
      | none => rfl
      | some o =>
        have := Nat.lt_of_lt_of_le (Heap.lt_size q) I.ok.above
        rw [z] at this; exact absurd this (Nat.lt_irrefl _)
    · exact .inl z
  · obtain ⟨m, ⟨o, es, ep, ho, r⟩, hl⟩ := I.loc
    obtain ⟨sl, e1⟩ := one X.env.locals o (fun z => (hL _ z).1.loc rfl) ho
    refine ⟨m, ⟨_, es, ep, e1, r⟩, fun i x v a b c => ?_⟩
    obtain ⟨u, rv, l⟩ := hl i x v a b c
    refine ⟨u, rv, ?_⟩
    rcases l with l | ⟨k, c, e, oc, ho', hd⟩
    · exact .inl l
    · obtain ⟨sl', e2⟩ := one c oc (fun z => (hL _ z).1.cell x c e rfl) ho'
      exact .inr ⟨k, c, e, _, e2, hd⟩
  · obtain ⟨v, oc, ho', hd⟩ := I.cell x c e
    obtain ⟨sl', e2⟩ := one c oc (fun z => (hL _ z).1.cell x c e rfl) ho'
    exact ⟨v, _, e2, hd⟩
  · obtain ⟨e, n, ne, nf, d⟩ := I.pin p hp
    refine ⟨kb.1 p.1 p.2 (fun z => (hL _ z).1.pin p hp rfl) (fun z => ?_) e, n, ne, nf, d⟩
    rcases List.mem_cons.mp (I.stkSub p.1 z) with y | y
    · exact ne y
    · exact nf y
theorem unbind_ok {X : Cx} {pins : List (Addr × Obj)} {σ : St} {H : Hp} {s : Shared} {M : Model} {A : Around} {E : Value -> Shared -> Prop} {i : Nat} {x : Str} {v : V} {Q : Unit -> Shared -> Prop} (I : Inv X pins σ H s) (hN : X.N.Nodup) (hi : X.N[i]? = some x) (hk : X.env.scope.names.lookup x = some .local) (hv : σ[i]? = some (some v))
    (h : ∀ s', Inv X pins (σ.set i none) H s' -> Q () s') : wpAny M A (unbindName X.env x) Q E s := by
  obtain ⟨m, hn, hl⟩ := id I.loc
  have hcls : (X.env.scope.kind == .class || (X.env.scope.kind == .module && X.env.locals != X.env.globals)) = false := by rw [I.ok.kind]; rfl
  obtain ⟨u, _, lk⟩ := hl i x v hi hv (.inl hk)
  have hm : m x = some u := by
    rcases lk with ⟨_, e⟩ | ⟨k, _⟩
    · exact e
    · have k' : X.env.scope.names.lookup x = some .cell ∨ X.env.scope.names.lookup x = some .free := k
      rw [hk] at k'
      rcases k' with z | z <;> cases z
  refine wpAny_unbindName_local hk hn hm hcls fun h' w' hn' hs => ?_
  obtain ⟨oL, _, _, hoL, _⟩ := id hn
  have ne0 : ∀ b o, X.s₀.heap.get? b = some o -> b ≠ X.env.locals := fun b o e => Nat.ne_of_lt (Nat.lt_of_lt_of_le (Heap.lt_size e) I.ok.above)
  refine h _ ⟨I.ok, I.os, I.bare, ⟨fun b o e n hb hx => ?_, fun b o e n hb hx => ?_, I.base.free, fun b o e hx => ?_, I.base.tups, I.base.frzs, I.base.tbls⟩, ⟨_, hn', fun j y v' e1 e2 e3 => ?_⟩, fun y c e => ?_, I.free, I.freeC, fun p hp => ?_, ?_, ?_⟩
  · exact (hs.2 b (ne0 b o e)).trans (I.base.keep b o e n hb hx)
  · obtain ⟨sl, e1⟩ := I.base.slot b o e n hb hx
    exact ⟨sl, (hs.2 b (ne0 b o e)).trans e1⟩
  · obtain ⟨o', e1⟩ := I.base.there b o e hx
    exact ⟨o', (hs.2 b (ne0 b o e)).trans e1⟩
  · by_cases hj : j = i
    · subst hj
      have hiσ : j < σ.length := (List.getElem?_eq_some_iff.mp hv).1
      rw [List.getElem?_set_self hiσ] at e2
      cases e2
    · rw [List.getElem?_set_ne (Ne.symm hj)] at e2
      obtain ⟨u', r', q⟩ := hl j y v' e1 e2 e3
      refine ⟨u', r', ?_⟩
      rcases q with ⟨k, e⟩ | ⟨k, c, e, z⟩
      · refine .inl ⟨k, ?_⟩
        have : y ≠ x := fun e => hj (nodup_ix hN e1 (e ▸ hi))
        simp [this, e]
      · exact .inr ⟨k, c, e, z.sameBut hs (I.cne y c e)⟩
  · obtain ⟨w2, z⟩ := I.cell y c e
    exact ⟨w2, z.sameBut hs (I.cne y c e)⟩
  · obtain ⟨e, n, ne, nf, d⟩ := I.pin p hp
    exact ⟨(hs.2 p.1 ne).trans e, n, ne, nf, d⟩
  · intro b ob e
    refine (I.hok b ob e).stay (fun c w' hc q => (hs.2 c ?_).trans q) (fun _ q => q) fun _ _ q => q
    rintro rfl
    rcases hc with rfl | hc
    · rw [I.free] at e; cases e
    · rw [I.free] at hc; cases hc
  · rw [List.length_set]; exact I.len
def excO (e C : Addr) (d : Option Addr) : HO := .ext fun h => ∃ oe vs, h.get? e = some oe /\ oe.cls = .ref C /\ oe.dict = d /\ oe.data = .fields vs /\ vs[2]? = some .none
theorem Rec.ok {P : Program} {w : World} {H : Hp} {h : Heap} {e C : Addr} {d : Option Addr} {head : Value} (r : Rec h e (.ref C) d head) : ObjOk P w H h e (excO e C d) := by
  obtain ⟨oe, vs, he, hc, hd, hf, _, h2⟩ := r
  refine ⟨⟨oe, vs, he, hc, hd, hf, h2⟩, ⟨_, he⟩, ?_⟩
  rintro h1 h2 ⟨oe', vs', a, b, c, d'⟩ k
  exact ⟨oe', vs', k _ a, b, c, d'⟩
theorem Inv.known {X : Cx} {pins : List (Addr × Obj)} {σ : St} {H : Hp} {s : Shared} {e : Addr} {o : HO} (I : Inv X pins σ H s) (hx : X.ex = []) (fe : Fresh X pins e) (he : H e = none) (ok : ObjOk X.prog X.w (upd H e o) s.heap e o) (nf : ∀ b ∈ frs X.stack, b ≠ e) : Inv X pins σ (upd H e o) s := by
  have ne0 : ∀ b ob, X.s₀.heap.get? b = some ob -> b ≠ e := fun b ob q z => by rw [z, fe.s0] at q; cases q
  refine ⟨I.ok, I.os, I.bare, ⟨I.base.keep, I.base.slot, fun b ob q n hx => by rw [upd_ne (ne0 b ob q)]; exact I.base.free b ob q n hx, I.base.there, fun b xs q => ?_, fun b ob u q => ?_, fun b ps q => ?_⟩, I.loc, I.cell, ?_, fun x c q => ?_, fun p hp => ?_, fun b ob q => ?_, I.len⟩
  · have := I.base.tups b xs q
    rw [upd_ne (ne_of_none this he)]; exact this
  · have := I.base.frzs b ob u q
    rw [upd_ne (ne_of_none this he)]; exact this
  · obtain ⟨m, this⟩ := I.base.tbls b ps q
    exact ⟨m, by rw [upd_ne (ne_of_none this he)]; exact this⟩
  · rw [upd_ne (Ne.symm fe.loc)]; exact I.free
  · rw [upd_ne (fe.cell x c q)]; exact I.freeC x c q
  · obtain ⟨a, b, c, d, f⟩ := I.pin p hp
    exact ⟨a, by rw [upd_ne (fe.pin p hp)]; exact b, c, d, f⟩
  · by_cases z : b = e
    · subst z
      rw [upd_same] at q
      cases q
      exact ok
    · rw [upd_ne z] at q
      refine (I.hok b ob q).stay (fun _ _ _ q => q) (fun c q => ?_) fun c xs q => ?_
      · rw [upd_ne (ne_of_none q he)]; exact q
      · rw [upd_ne (ne_of_none q he)]; exact q
end L2
namespace L2
open PySem PySem.Spec PyProof.Rows Xn
abbrev tryCx (X : Cx) (pins : List (Addr × Obj)) (W : Value -> Shared -> Prop) : Cx :=
  { X with pn := X.pn ++ pins, xe := fun e s1 => wpAny (model X.prog X.w) X.A (noteFrame e X.env) (fun _ s2 => wpAny (model X.prog X.w) X.A (setFlight e none) (fun _ s3 => W e s3) X.xe s2) X.xe s1 }
abbrev supCx (X : Cx) (e : Addr) : Cx := { X with A := X.A.mark (some (.ref e)), calm := false, warm := false, xe := fun _ _ => False }
section
variable {X : Cx} {pins pins' : List (Addr × Obj)} {σ : St} {H : Hp} {s : Shared} {W : Value -> Shared -> Prop} {e : Addr}
theorem Cx.Ok.tried (ok : X.Ok) : (tryCx X pins W).Ok :=
  ⟨ok.mod, ok.kind, ok.glob, ok.blt, ok.above, ok.inj, ok.has, ok.cab, ok.hd, ok.frames, ok.stk, ok.exf, ok.bs, ok.bsz, ok.noex, ok.exfs, ok.funs, ok.frf⟩
theorem Cx.Ok.untried (ok : (tryCx X pins W).Ok) : X.Ok :=
  ⟨ok.mod, ok.kind, ok.glob, ok.blt, ok.above, ok.inj, ok.has, ok.cab, ok.hd, ok.frames, ok.stk, ok.exf, ok.bs, ok.bsz, ok.noex, ok.exfs, ok.funs, ok.frf⟩
theorem Cx.Ok.supped (ok : X.Ok) : (supCx X e).Ok :=
  ⟨ok.mod, ok.kind, ok.glob, ok.blt, ok.above, ok.inj, ok.has, ok.cab, ⟨fun h => (nomatch h), fun h => (nomatch h)⟩, ok.frames, ok.stk, ok.exf, ok.bs, ok.bsz, ok.noex, ok.exfs, ok.funs, ok.frf⟩
theorem Inv.tried (I : Inv X pins σ H s) : Inv (tryCx X pins W) [] σ H s :=
  ⟨I.ok.tried, I.os, I.bare, I.base, I.loc, I.cell, I.free, I.freeC, fun p hp => I.pin p (by rw [List.append_nil] at hp; exact hp), I.hok, I.len⟩
theorem Inv.untried (I : Inv (tryCx X pins W) pins' σ H s) : Inv X pins σ H s :=
  ⟨I.ok.untried, I.os, I.bare, I.base, I.loc, I.cell, I.free, I.freeC, fun p hp => I.pin p (List.mem_append_left _ hp), I.hok, I.len⟩
theorem Inv.supped (I : Inv X pins σ H s) : Inv (supCx X e) pins σ H s := ⟨I.ok.supped, I.os, I.bare, I.base, I.loc, I.cell, I.free, I.freeC, I.pin, I.hok, I.len⟩
theorem Inv.unsupped (ok : X.Ok) (I : Inv (supCx X e) pins σ H s) : Inv X pins σ H s := ⟨ok, I.os, I.bare, I.base, I.loc, I.cell, I.free, I.freeC, I.pin, I.hok, I.len⟩
theorem Fresh.untried {b : Addr} (f : Fresh (tryCx X pins W) pins' b) : Fresh X pins b := ⟨f.s0, f.loc, f.cell, fun p hp => f.pin p (List.mem_append_left _ hp)⟩
end
structure Under (K : PySem.W.Frag) (C F : Addr) : Prop where
  is : PySem.W.excIn K C bmV "ValueError.__new__" = true
  in_ : PySem.W.mroIn K C (.ref F) = some true
  ne : C ≠ F
theorem Fun.okX {P : Program} {w : World} {K : PySem.W.Frag} {mg : Str -> Option Value} {base : Heap} {x qual : Str} {st : Stmt} {f : Addr} {fd : FuncData} {N ps : List Str} {k : Nat} {sp : Sp} (F : Fun K x qual st f fd) (S : FnScope N ps (defScope st)) (len : ∀ vs H Q E, sp vs H Q E -> vs.length = ps.length)
    (hbody : ∀ (cdv : Value) (A : Around) (outer : List Env) (s : Shared) (H : Hp) (vs : List V) (Q : VK) (E : XK), Room k (A.deeper (envOfC qual (defScope st) s.heap.objs.size f cdv)) -> sp vs H Q E ->
      ∃ t, QSs (cxOf (CXE P w) P w K mg base N qual (defScope st) f cdv A outer s H E) (defBody st) t /\ t { nx := fun _ H' => Q .non H', rt := Q } (start N vs) H) : FnOk P w K mg base (CXE P w) (k + 1) f fd ps sp := by
  obtain ⟨oc, od, kV, doc, pm, an, cdv, ct, osl, rfl, lk, hcd⟩ := F.ex
  exact fn_of lk hcd S len fun A outer s H vs Q E hr hsp => let ⟨t, a, b⟩ := hbody cdv A outer s H vs Q E hr hsp; ⟨t, a.o, b⟩
end L2
namespace PySem.W
open PySem PySem.Spec PySem.Calls PyProof.Rows
section
variable {prog : Program} {w : World} {A : Around} {E : Value -> Shared -> Prop} {s : Shared} {K : Frag} {x C : Addr} {ox : Obj} {od : Option Obj}
structure XcIs (K : Frag) (C : Addr) : Prop where
  cls : (clsIn K C).isSome = true
  ga : findIn K (.ref C) "__getattribute__" = some (some (.builtin "BaseException.__getattribute__"))
  gn : findIn K (.ref C) "__getattr__" = some none
  at_ : findIn K (.ref C) "__class__" = some (some (.builtin "object.__class__"))
  get : specialIn K (.builtin "object.__class__") "__get__" = some (some (.builtin "getset_descriptor.__get__"))
  tk : takesIn K (.builtin "object.__class__") = some true
  ob : mroIn K C (.type "object") = some true
  be : mroIn K C (.type "BaseException") = some true
theorem xc_check {nameV : Value} {Q : Unit -> Shared -> Prop} (X : K.In s.heap) (I : InstAt s.heap x ox C od) (c : XcIs K C) (h : Q () s) : wpAny (model prog w) A (checkBuiltinCall "BaseException.__getattribute__" ⟨[.ref x, nameV], []⟩) Q E s := by
  have hk : builtinKind "BaseException.__getattribute__" = some .slot := by decide +kernel
  have hsplit : splitId "BaseException.__getattribute__" = some ("BaseException", "__getattribute__") := by decide +kernel
  have ha := F.args_bexc_ga (.ref x) nameV
  obtain ⟨hh, g, d, t, os⟩ := s
  have L0 := I.type (M := model prog w)
  have L1 := looks_mroIn (M := model prog w) X c.be
  simp only [checkBuiltinCall, hk, hsplit]
  refine wpAny_bind ?_
  unfold isInstance
  refine wpAny_bind (L0.at (L1.at ?_))
  repeat (first | assumption | wp_step)
end
end PySem.W
namespace L2
open PySem PySem.Spec PyProof.Rows Xn
end L2
namespace L2
open PySem PySem.Spec PyProof.Rows Xn
end L2
namespace L2
open PySem PySem.Spec PySem.SeqAt PyProof.Rows Xn
section
variable {K : PySem.W.Frag} {a b D : Addr} {js : List (Option Nat)} {g : TG} {te : TE} {σ : St} {H1 : Hp} {Q : VK}
theorem comp_zip {xs ys : List V} (hn : min xs.length ys.length <= sizeLine) (Pv : Nat -> St -> Hp -> List V -> Prop) (h0 : Pv 0 (pick js σ) (upd H1 D (.lst [])) [])
    (hl : ∀ i σ' H' zs, H' D = some (.lst zs) -> Pv i σ' H' zs -> SqT K H' a xs /\ SqT K H' b ys)
    (hs : ∀ i x y p σ' H' zs (R : St -> V -> Hp -> Prop), xs[i]? = some x -> ys[i]? = some y -> H' p = none -> H' D = some (.lst zs) -> zs.length = i -> Pv i σ' H' zs -> (∀ σ2 z H4, H4 D = some (.lst zs) -> Pv (i + 1) σ2 (upd H4 D (.lst (zs ++ [z]))) (zs ++ [z]) -> R σ2 z H4) ->
      g (.ref p) σ' (upd H' p (.tup [x, y])) fun σ2 H3 => te σ2 H3 fun z H4 => R σ2 z H4)
    (hst : ∀ σ' H' zs, H' D = some (.lst zs) -> zs.length = min xs.length ys.length -> Pv (min xs.length ys.length) σ' H' zs -> Q (.ref D) H') : CompW (Itz K a b) D js g tNoTest te σ H1 Q := by
  refine comp_plain hn Pv h0 (fun i σ' H' zs hi hD p => ?_) (fun σ' H' zs hD b' c => ⟨?_, hst σ' H' zs hD b' c⟩) fun i σ' H' zs x H2 R hi hD hz p hx k => ?_
  · obtain ⟨qa, qb⟩ := hl i σ' H' zs hD p
    have h1 : i < xs.length := by omega
    have h2 : i < ys.length := by omega
    exact ⟨xs, ys, xs[i], ys[i], qa, qb, by simp [h1], by simp [h2]⟩
  · obtain ⟨qa, qb⟩ := hl _ σ' H' zs hD c
    exact ⟨xs, ys, qa, qb, by omega⟩
  · obtain ⟨qa, qb⟩ := hl i σ' H' zs hD p
    obtain ⟨q, hq, rfl, x', y', rfl, hxy⟩ := hx
    obtain ⟨ex, ey⟩ := hxy xs ys qa qb
    exact hs i x' y' q σ' H' zs R ex ey hq hD hz p k
end
theorem qg_tupN {X : Cx} {K : PySem.W.Frag} {es : List Expr} {k : Nat} {pos : Pos} {t : TGs} {n : Nat} (hK : X.K = K) (hc : X.warm = true) (h : QGs X es t) (hn : (assignEach es X.env).length = n := by rfl) (hst : (assignEach es X.env).findIdx? (·.1) = none := by rfl) : QG X (.Tuple es k pos) (gTup K n t) := by
  subst hK
  exact qg_tup hc h hn hst
end L2
namespace PySem.W
theorem cls_of_mro {K : Frag} {C : Addr} {b : Value} {r : Bool} (h : mroIn K C b = some r) : (clsIn K C).isSome = true := by
  unfold mroIn at h
  obtain ⟨cd, a, _⟩ := Option.bind_eq_some_iff.mp h
  rw [a]; rfl
theorem kit_self {K : Frag} {C : Addr} : kitOne K (.ref C) (.ref C) = some true := by
  unfold kitOne
  rw [if_pos (by simp)]
theorem kit_false {K : Frag} {C D : Addr} (ty : typeIn K (.ref D) = some (.type "type")) (mo : mroIn K D (.type "object") = some true) (m : mroIn K C (.ref D) = some false) (n : C ≠ D) : kitOne K (.ref C) (.ref D) = some false := by
  unfold kitOne
  rw [if_neg (fun z => n (by have := beq_iff_eq.mp z; injection this))]
  unfold kitCls
  show (if ((clsIn K D).isSome && typeIn K (.ref D) == some (.type "type")) = true then subIn K (.ref C) (.ref D) else none) = _
  rw [cls_of_mro mo, ty]
  exact m
theorem kit_val {K : Frag} {C : Addr} (m : mroIn K C (.type "ValueError") = some true) : kitOne K (.ref C) (.type "ValueError") = some true := by
  unfold kitOne
  rw [if_neg (fun z => by cases beq_iff_eq.mp z)]
  unfold kitCls
  show (if kitMeta "ValueError" = true then subIn K (.ref C) (.type "ValueError") else none) = _
  rw [if_pos (by decide +kernel)]
  exact m
end PySem.W
namespace Mth
def cntF (p : Nat) : Nat -> Nat -> Nat
  | 0, _ => 0
  | f + 1, n => if 2 <= p /\ 1 <= n /\ n % p = 0 then cntF p f (n / p) + 1 else 0
theorem cntF_more (p : Nat) : ∀ f n : Nat, n <= f -> cntF p (f + 1) n = cntF p f n
  | 0, n, h => by
    obtain rfl : n = 0 := by omega
    exact if_neg (fun z => by omega)
  | f + 1, n, h => by
    show (if 2 <= p /\ 1 <= n /\ n % p = 0 then cntF p (f + 1) (n / p) + 1 else 0) = if 2 <= p /\ 1 <= n /\ n % p = 0 then cntF p f (n / p) + 1 else 0
    by_cases q : 2 <= p /\ 1 <= n /\ n % p = 0
    · rw [if_pos q, if_pos q, cntF_more p f (n / p) (by have := Nat.div_lt_self q.2.1 q.1; omega)]
    · rw [if_neg q, if_neg q]
theorem cntF_up (p n : Nat) : ∀ k : Nat, cntF p (n + k) n = cntF p n n
  | 0 => rfl
  | k + 1 => by rw [show n + (k + 1) = (n + k) + 1 from rfl, cntF_more p (n + k) n (by omega)]; exact cntF_up p n k
def cnt (p : Nat) (n : Nat) : Nat := cntF p n n
theorem cnt_unf (p n : Nat) : cnt p n = if 2 <= p /\ 1 <= n /\ n % p = 0 then cnt p (n / p) + 1 else 0 := by
  have e : cnt p n = cntF p (n + 1) n := (cntF_up p n 1).symm
  rw [e]
  show (if 2 <= p /\ 1 <= n /\ n % p = 0 then cntF p n (n / p) + 1 else 0) = _
  by_cases q : 2 <= p /\ 1 <= n /\ n % p = 0
  · rw [if_pos q, if_pos q]
    have lt := Nat.div_lt_self q.2.1 q.1
    have := cntF_up p (n / p) (n - n / p)
    rw [show n / p + (n - n / p) = n by omega] at this
    rw [this]
    rfl
  · rw [if_neg q, if_neg q]
theorem cnt_div {p n : Nat} (hp : 2 <= p) (hn : 1 <= n) (h : n % p = 0) : cnt p n = cnt p (n / p) + 1 := by
  rw [cnt_unf p n, if_pos ⟨hp, hn, h⟩]
theorem cnt_not {p n : Nat} (h : n % p ≠ 0) : cnt p n = 0 := by
  rw [cnt_unf, if_neg fun z => h z.2.2]
def expsL : List Nat -> Nat -> List Nat
  | [], _ => []
  | p :: ps, n => cnt p n :: expsL ps (strip p n)
theorem cnt_spec {p : Nat} (hp : 2 <= p) : ∀ n : Nat, 1 <= n -> n = p ^ cnt p n * strip p n := by
  intro n
  induction n using Nat.strongRecOn with
  | _ n ih =>
    intro hn
    by_cases h : n % p = 0
    · have h1 := div_pos_of hn h
      have e := ih (n / p) (Nat.div_lt_self hn hp) h1
      rw [cnt_div hp hn h, strip_div hp hn h, Nat.pow_succ]
      have e2 : n = p * (n / p) := (Nat.mul_div_cancel' (Nat.dvd_of_mod_eq_zero h)).symm
      calc n = p * (n / p) := e2
        _ = p * (p ^ cnt p (n / p) * strip p (n / p)) := by rw [← e]
        _ = p ^ cnt p (n / p) * p * strip p (n / p) := by rw [← Nat.mul_assoc, Nat.mul_comm p]
    · rw [cnt_not h, strip_not h, Nat.pow_zero, Nat.one_mul]
theorem cnt_eq {p : Nat} (hp : 2 <= p) : ∀ (e r : Nat), 1 <= r -> r % p ≠ 0 -> cnt p (p ^ e * r) = e
  | 0, r, _, h => by rw [Nat.pow_zero, Nat.one_mul, cnt_not h]
  | e + 1, r, hr, h => by
    have e1 : p ^ (e + 1) * r = p * (p ^ e * r) := by rw [Nat.pow_succ, Nat.mul_comm (p ^ e) p, Nat.mul_assoc]
    have hpos : 1 <= p ^ e * r := Nat.mul_pos (Nat.pow_pos (by omega)) hr
    rw [e1, cnt_div hp (Nat.mul_pos (by omega) hpos) (Nat.mul_mod_right p _), Nat.mul_div_cancel_left _ (by omega), cnt_eq hp e r hr h]
theorem cnt_strip {p q : Nat} (hp : 2 <= p) (hq : 2 <= q) (c : Nat.Coprime p q) {n : Nat} (hn : 1 <= n) : cnt p (strip q n) = cnt p n := by
  have e1 := cnt_spec hp n hn
  have e2 := cnt_spec hq n hn
  have hs := strip_pos hq n hn
  have hr := strip_pos hp n hn
  have hrm := strip_mod hp n hn
  have cq : Nat.Coprime (p ^ cnt p n) (q ^ cnt q n) := Nat.Coprime.pow _ _ c
  have hd : p ^ cnt p n ∣ strip q n := by
    have : p ^ cnt p n ∣ q ^ cnt q n * strip q n := by rw [← e2]; exact ⟨strip p n, e1⟩
    exact cq.dvd_of_dvd_mul_left this
  obtain ⟨r, hr'⟩ := hd
  have hr1 : 1 <= r := by
    rcases Nat.eq_zero_or_pos r with z | z
    · rw [z, Nat.mul_zero] at hr'; omega
    · exact z
  have hrp : r % p ≠ 0 := fun z => by
    obtain ⟨t, ht⟩ := Nat.dvd_of_mod_eq_zero z
    have e3 : n = p ^ cnt p n * (p * (t * q ^ cnt q n)) := by
      calc n = q ^ cnt q n * strip q n := e2
        _ = q ^ cnt q n * (p ^ cnt p n * (p * t)) := by rw [hr', ht]
        _ = p ^ cnt p n * (p * (t * q ^ cnt q n)) := by
          rw [Nat.mul_comm (q ^ cnt q n), Nat.mul_assoc, Nat.mul_assoc, Nat.mul_comm t]
    have e4 : p ^ cnt p n * strip p n = p ^ cnt p n * (p * (t * q ^ cnt q n)) := by rw [← e1]; exact e3
    have e5 := Nat.eq_of_mul_eq_mul_left (Nat.pow_pos (by omega)) e4
    rw [e5, Nat.mul_mod_right] at hrm
    exact hrm rfl
  rw [hr', cnt_eq hp _ r hr1 hrp]
theorem expsL_map : ∀ (ps : List Nat), (∀ p ∈ ps, 2 <= p) -> ps.Pairwise Nat.Coprime -> ∀ n, 1 <= n -> expsL ps n = ps.map fun p => cnt p n
  | [], _, _, _, _ => rfl
  | p :: ps, h, hc, n, hn => by
    have hp := h p List.mem_cons_self
    rw [List.pairwise_cons] at hc
    show cnt p n :: expsL ps (strip p n) = cnt p n :: ps.map fun q => cnt q n
    rw [expsL_map ps (fun q hq => h q (List.mem_cons_of_mem _ hq)) hc.2 (strip p n) (strip_pos hp n hn)]
    congr 1
    refine List.map_congr_left fun q hq => ?_
    exact cnt_strip (h q (List.mem_cons_of_mem _ hq)) hp (hc.1 q hq).symm hn
theorem expsL_prodR : ∀ (ps es : List Nat), (∀ p ∈ ps, 2 <= p) -> ps.Pairwise Nat.Coprime -> es.length = ps.length -> expsL ps (prodR ps es) = es
  | [], [], _, _, _ => rfl
  | [], _ :: _, _, _, h => by cases h
  | _ :: _, [], _, _, h => by cases h
  | p :: ps, e :: es, h, hc, hl => by
    have hp := h p List.mem_cons_self
    rw [List.pairwise_cons] at hc
    have hq : ∀ q ∈ ps, 2 <= q := fun q hq => h q (List.mem_cons_of_mem _ hq)
    have hr := prodR_pos ps es hq
    have cp : Nat.Coprime p (prodR ps es) := cop_prodR ps es hc.1
    have nm := not_mod_of_cop hp cp
    show cnt p (p ^ e * prodR ps es) :: expsL ps (strip p (p ^ e * prodR ps es)) = e :: es
    rw [cnt_eq hp e _ hr nm, strip_pow hp hr e, strip_not nm, expsL_prodR ps es hq hc.2 (by simpa using hl)]
def powsOf (n : Nat) : List Nat := primes.map fun p => cnt p n
theorem powsOf_exps {n : Nat} (hn : 1 <= n) : powsOf n = expsL primes n := (expsL_map primes two_le primes_cop n hn).symm
theorem powsOf_prod {es : List Nat} (h : es.length = 10) : powsOf (prod es) = es := by
  rw [powsOf_exps (prod_pos es)]
  exact expsL_prodR primes es two_le primes_cop h
end Mth
namespace Mth
def chg (n d : Nat) : List Int := List.zipWith (fun a b : Nat => (a : Int) - (b : Int)) (powsOf n) (powsOf d)
theorem chg_length (n d : Nat) : (chg n d).length = 10 := by simp [chg, powsOf, primes]
def fitsB (c p : List Int) : Bool := (c.zip p).all fun x => decide (0 <= x.2 + x.1)
def fstI : List (List Int) -> List Int -> Option Nat
  | [], _ => none
  | c :: r, p => if fitsB c p = true then some 0 else (fstI r p).map (· + 1)
def mvd (p c : List Int) (m : Int) : List Int := List.zipWith (fun a b => a + m * b) p c
def nn (p : List Int) : Bool := p.all fun x => decide (0 <= x)
theorem mvd_length {p c : List Int} {m : Int} (hp : p.length = 10) (hc : c.length = 10) : (mvd p c m).length = 10 := by simp [mvd, hp, hc]
def R10 (rows : List (List Int)) : Prop := ∀ c ∈ rows, c.length = 10
theorem fstI_lt : ∀ {rows : List (List Int)} {p : List Int} {i : Nat}, fstI rows p = some i -> ∃ c, rows[i]? = some c /\ fitsB c p = true /\ i < rows.length
  | [], _, _, h => by cases h
  | c :: r, p, i, h => by
    unfold fstI at h
    by_cases hc : fitsB c p = true
    · rw [if_pos hc] at h
      cases h
      exact ⟨c, rfl, hc, by simp⟩
    · rw [if_neg hc] at h
      cases e : fstI r p with
      | none => rw [e] at h; cases h
      | some j =>
        rw [e] at h
        have hj : j + 1 = i := Option.some.inj h
        subst hj
        obtain ⟨c', h1, h2, h3⟩ := fstI_lt e
        exact ⟨c', by simpa using h1, h2, by simp; omega⟩
theorem fstI_at : ∀ (rows : List (List Int)) (p : List Int) (i : Nat), (∀ j, j < i -> ∀ c, rows[j]? = some c -> fitsB c p = false) -> (∀ c, rows[i]? = some c -> fitsB c p = true) -> i < rows.length -> fstI rows p = some i
  | [], _, _, _, _, h => by simp at h
  | c :: r, p, 0, _, h, _ => by
    unfold fstI
    rw [if_pos (h c rfl)]
  | c :: r, p, i + 1, h, h', hl => by
    have h0 := h 0 (by omega) c rfl
    unfold fstI
    rw [h0, if_neg (by decide), fstI_at r p i (fun j hj c' e => h (j + 1) (by omega) c' (by simpa using e)) (fun c' e => h' c' (by simpa using e)) (by simpa using hl)]
    rfl
theorem fstI_none : ∀ (rows : List (List Int)) (p : List Int), (∀ (j : Nat) c, rows[j]? = some c -> fitsB c p = false) -> fstI rows p = none
  | [], _, _ => rfl
  | c :: r, p, h => by
    unfold fstI
    rw [h 0 c rfl, if_neg (by decide), fstI_none r p fun j c' e => h (j + 1) c' (by simpa using e)]
    rfl
def stp (rows : List (List Int)) (p : List Int) : Option (List Int) := (fstI rows p).map fun i => mvd p (rows.getD i []) 1
def goN (rows : List (List Int)) : Nat -> List Int -> Option (List Int)
  | 0, p => some p
  | k + 1, p => (goN rows k p).bind (stp rows)
theorem nn_iff {p : List Int} : nn p = true ↔ ∀ x ∈ p, 0 <= x := by simp [nn]
theorem fitsB_iff {c p : List Int} : fitsB c p = true ↔ ∀ (i : Nat) (a b : Int), c[i]? = some a -> p[i]? = some b -> 0 <= b + a := by
  unfold fitsB
  rw [List.all_eq_true]
  constructor
  · intro h i a b h1 h2
    have hz : (c.zip p)[i]? = some (a, b) := by rw [List.getElem?_zip_eq_some]; exact ⟨h1, h2⟩
    exact of_decide_eq_true (h _ (List.mem_of_getElem? hz))
  · intro h x hx
    obtain ⟨i, hi⟩ := List.getElem?_of_mem hx
    obtain ⟨a, b⟩ := x
    rw [List.getElem?_zip_eq_some] at hi
    exact decide_eq_true (h i a b hi.1 hi.2)
theorem nn_step {c p : List Int} (h : fitsB c p = true) : nn (mvd p c 1) = true := by
  rw [nn_iff]
  intro x hx
  obtain ⟨i, hi⟩ := List.getElem?_of_mem hx
  unfold mvd at hi
  rw [List.getElem?_zipWith_eq_some] at hi
  obtain ⟨b, a, h1, h2, rfl⟩ := hi
  have := fitsB_iff.mp h i a b h2 h1
  omega
theorem getD_of {rows : List (List Int)} {i : Nat} {c : List Int} (h : rows[i]? = some c) : rows.getD i [] = c := by
  rw [List.getD_eq_getElem?_getD, h]; rfl
theorem stp_of {rows : List (List Int)} {p : List Int} {i : Nat} {c : List Int} (h : fstI rows p = some i) (hc : rows[i]? = some c) : stp rows p = some (mvd p c 1) := by
  unfold stp
  rw [h, ← getD_of hc]
  rfl
theorem stp_none {rows : List (List Int)} {p : List Int} (h : fstI rows p = none) : stp rows p = none := by
  unfold stp; rw [h]; rfl
theorem stp_some {rows : List (List Int)} {p q : List Int} (h : stp rows p = some q) : ∃ i c, fstI rows p = some i /\ rows[i]? = some c /\ fitsB c p = true /\ q = mvd p c 1 := by
  unfold stp at h
  cases e : fstI rows p with
  | none => rw [e] at h; cases h
  | some i =>
    rw [e] at h
    obtain ⟨c, h1, h2, _⟩ := fstI_lt e
    have h3 : mvd p (rows.getD i []) 1 = q := Option.some.inj h
    rw [getD_of h1] at h3
    exact ⟨i, c, rfl, h1, h2, h3.symm⟩
theorem stp_ok {rows : List (List Int)} {p q : List Int} (hr : R10 rows) (hp : p.length = 10) (h : stp rows p = some q) : q.length = 10 /\ nn q = true := by
  obtain ⟨i, c, _, h2, h3, rfl⟩ := stp_some h
  exact ⟨mvd_length hp (hr c (List.mem_of_getElem? h2)), nn_step h3⟩
theorem goN_ok {rows : List (List Int)} (hr : R10 rows) {p : List Int} (hp : p.length = 10) (hn : nn p = true) : ∀ {k : Nat} {q : List Int}, goN rows k p = some q -> q.length = 10 /\ nn q = true
  | 0, q, h => by cases h; exact ⟨hp, hn⟩
  | k + 1, q, h => by
    obtain ⟨r, h1, h2⟩ := Option.bind_eq_some_iff.mp h
    exact stp_ok hr (goN_ok hr hp hn h1).1 h2
end Mth
namespace Mth
theorem cnt_zero {i j p : Nat} (h : noShare i j = true) (hp : p ∈ primes) : cnt p i = 0 ∨ cnt p j = 0 := by
  have := noShare_iff.mp h p hp
  by_cases h1 : p ∣ i
  · refine .inr (cnt_not fun z => this ⟨h1, Nat.dvd_of_mod_eq_zero z⟩)
  · exact .inl (cnt_not fun z => h1 (Nat.dvd_of_mod_eq_zero z))
def natI (l : List Nat) : List Int := l.map fun n : Nat => (n : Int)
theorem want_fits {i j : Nat} {p : List Int} (h : noShare i j = true) (hn : nn p = true) : nn (List.zipWith (fun x y : Int => x - y) p (natI (powsOf j))) = fitsB (chg i j) p := by
  have e : ∀ (k : Nat) (a b : Int), (chg i j)[k]? = some a -> p[k]? = some b -> ∃ c : Int, (natI (powsOf j))[k]? = some c /\ (0 <= b - c ↔ 0 <= b + a) := by
    intro k a b h1 h2
    unfold chg at h1
    rw [List.getElem?_zipWith_eq_some] at h1
    obtain ⟨x, y, hx, hy, rfl⟩ := h1
    refine ⟨(y : Int), by unfold natI; rw [List.getElem?_map, hy]; rfl, ?_⟩
    unfold powsOf at hx hy
    rw [List.getElem?_map] at hx hy
    cases hp : primes[k]? with
    | none => rw [hp] at hx; cases hx
    | some q =>
      rw [hp] at hx hy
      have ex : cnt q i = x := Option.some.inj hx
      have ey : cnt q j = y := Option.some.inj hy
      have b0 := nn_iff.mp hn b (List.mem_of_getElem? h2)
      rcases cnt_zero h (List.mem_of_getElem? hp) with z | z
      · rw [z] at ex; omega
      · rw [z] at ey; omega
  rw [Bool.eq_iff_iff, nn_iff, fitsB_iff]
  constructor
  · intro h k a b h1 h2
    obtain ⟨c, hc, iff⟩ := e k a b h1 h2
    refine iff.mp (h _ ?_)
    have : (List.zipWith (fun x y : Int => x - y) p (natI (powsOf j)))[k]? = some (b - c) := by rw [List.getElem?_zipWith_eq_some]; exact ⟨b, c, h2, hc, rfl⟩
    exact List.mem_of_getElem? this
  · intro h x hx
    obtain ⟨k, hk⟩ := List.getElem?_of_mem hx
    rw [List.getElem?_zipWith_eq_some] at hk
    obtain ⟨b, c, hb, hc, rfl⟩ := hk
    have hk10 : k < (natI (powsOf j)).length := (List.getElem?_eq_some_iff.mp hc).1
    have hk' : k < (chg i j).length := by rw [chg_length]; simpa [natI, powsOf, primes] using hk10
    obtain ⟨c', hc', iff⟩ := e k _ b (List.getElem?_eq_getElem hk') hb
    rw [hc] at hc'
    cases hc'
    exact iff.mpr (h k _ b (List.getElem?_eq_getElem hk') hb)
end Mth
namespace L2
open PySem PyProof.Rows
end L2
namespace W2
open PySem L2 Mth
abbrev tupI (c : List Int) : HO := .tup (c.map V.int)
theorem _root_.L2.RowV.same {H H' : Hp} {x : V} {c : List Int} (h : RowV H x c) (s : Same H H') : RowV H' x c := by
  obtain ⟨a, e, ha⟩ := h
  exact ⟨a, e, s _ _ ha⟩
theorem _root_.L2.RowsV.same {H H' : Hp} {xs : List V} {cs : List (List Int)} (h : RowsV H xs cs) (s : Same H H') : RowsV H' xs cs := ⟨h.1, fun i x e => by
  obtain ⟨c, hc, r⟩ := h.2 i x e
  exact ⟨c, hc, r.same s⟩⟩
theorem _root_.L2.RowsV.but {H H' : Hp} {xs : List V} {cs : List (List Int)} {l : Addr} {ys : List V} (h : RowsV H xs cs) (hl : H l = some (.lst ys)) (s : But l H H') : RowsV H' xs cs := ⟨h.1, fun i x e => by
  obtain ⟨c, hc, a, ea, ha⟩ := h.2 i x e
  exact ⟨c, hc, a, ea, s _ _ (ne_of ha hl (by intro z; cases z)) ha⟩⟩
theorem _root_.L2.RowsV.nil {H : Hp} : RowsV H [] [] := ⟨rfl, fun i x e => by cases e⟩
theorem _root_.L2.RowsV.app {H : Hp} {xs ys : List V} {cs ds : List (List Int)} (h : RowsV H xs cs) (g : RowsV H ys ds) : RowsV H (xs ++ ys) (cs ++ ds) := by
  refine ⟨by rw [List.length_append, List.length_append, h.1, g.1], fun i x e => ?_⟩
  by_cases hi : i < xs.length
  · rw [List.getElem?_append_left hi] at e
    obtain ⟨c, hc, r⟩ := h.2 i x e
    exact ⟨c, by rw [List.getElem?_append_left (by rw [← h.1]; exact hi)]; exact hc, r⟩
  · rw [List.getElem?_append_right (by omega)] at e
    obtain ⟨c, hc, r⟩ := g.2 _ x e
    exact ⟨c, by rw [List.getElem?_append_right (by rw [← h.1]; omega), ← h.1]; exact hc, r⟩
theorem _root_.L2.RowsV.one {H : Hp} {x : V} {c : List Int} (h : RowV H x c) : RowsV H [x] [c] := by
  refine ⟨rfl, fun i y e => ?_⟩
  cases i with
  | zero => cases e; exact ⟨c, rfl, h⟩
  | succ i => cases e
theorem _root_.L2.RowsV.at {H : Hp} {xs : List V} {cs : List (List Int)} {i : Nat} {x : V} (h : RowsV H xs cs) (e : xs[i]? = some x) : ∃ c a, cs[i]? = some c /\ x = .ref a /\ H a = some (tupI c) := by
  obtain ⟨c, hc, a, ea, ha⟩ := h.2 i x e
  exact ⟨c, a, hc, ea, ha⟩
theorem _root_.L2.RowsV.of {H : Hp} {xs : List V} {cs : List (List Int)} {i : Nat} {c : List Int} (h : RowsV H xs cs) (e : cs[i]? = some c) : ∃ x a, xs[i]? = some x /\ x = .ref a /\ H a = some (tupI c) := by
  have hi : i < cs.length := (List.getElem?_eq_some_iff.mp e).1
  have hx : xs[i]? = some (xs[i]'(by rw [h.1]; exact hi)) := List.getElem?_eq_getElem _
  obtain ⟨c', a, hc, ea, ha⟩ := h.at hx
  rw [e] at hc
  cases hc
  exact ⟨_, a, hx, ea, ha⟩
def optV : Option Nat -> V
  | none => .non
  | some i => .int (i : Int)
def FrcsV (H : Hp) (xs : List V) (fs : List (Int × Int)) : Prop := xs.length = fs.length /\ ∀ (k : Nat) (x : V), xs[k]? = some x -> ∃ i j c, fs[k]? = some (i, j) /\ x = .ref c /\ H c = some (.tup [.int i, .int j]) /\ fracB i j = true
theorem FrcsV.same {H H' : Hp} {xs : List V} {fs : List (Int × Int)} (h : FrcsV H xs fs) (s : Same H H') : FrcsV H' xs fs := ⟨h.1, fun k x e => by
  obtain ⟨i, j, c, h1, h2, h3, h4⟩ := h.2 k x e
  exact ⟨i, j, c, h1, h2, s _ _ h3, h4⟩⟩
theorem FrcsV.but {H H' : Hp} {xs : List V} {fs : List (Int × Int)} {l : Addr} {ys : List V} (h : FrcsV H xs fs) (hl : H l = some (.lst ys)) (s : But l H H') : FrcsV H' xs fs := ⟨h.1, fun k x e => by
  obtain ⟨i, j, c, h1, h2, h3, h4⟩ := h.2 k x e
  exact ⟨i, j, c, h1, h2, s _ _ (ne_of h3 hl (by intro z; cases z)) h3, h4⟩⟩
def rowsOf (fs : List (Int × Int)) : List (List Int) := fs.map fun f => chg f.1.toNat f.2.toNat
theorem rowsOf_10 (fs : List (Int × Int)) : R10 (rowsOf fs) := fun c hc => by
  obtain ⟨f, _, rfl⟩ := List.mem_map.mp hc
  exact chg_length _ _
theorem rowsOf_len (fs : List (Int × Int)) : (rowsOf fs).length = fs.length := List.length_map _
theorem fracB_parts {i j : Int} (h : fracB i j = true) : (1 <= i /\ stripAll i.toNat = 1) /\ (1 <= j /\ stripAll j.toNat = 1) := by
  unfold fracB termB at h
  simp only [Bool.and_eq_true, decide_eq_true_eq] at h
  exact ⟨⟨h.1.1.1.1, h.1.1.2⟩, ⟨h.1.2.1.1, h.1.2.2⟩⟩
theorem zipWith_snoc {f : Int -> Int -> Int} {xs ys : List Int} {i : Nat} {x y : Int} (hx : xs[i]? = some x) (hy : ys[i]? = some y) : (List.zipWith f xs ys).take (i + 1) = (List.zipWith f xs ys).take i ++ [f x y] := by
  have hz : (List.zipWith f xs ys)[i]? = some (f x y) := by rw [List.getElem?_zipWith_eq_some]; exact ⟨x, y, hx, hy, rfl⟩
  rw [List.take_add_one, hz]
  rfl
theorem comp_zip_ints {K : PySem.W.Frag} {a b D : Addr} {js : List (Option Nat)} {te : TE} {σ : St} {H1 : Hp} {Q : VK} {xs ys : List Int} {σ0 : St} {f : Int -> Int -> Int} (hn : min xs.length ys.length <= sizeLine) (hp : ∃ u v, pick js σ = u :: v :: σ0) (hD : H1 D = none)
    (ha : H1 a = some (tupI xs)) (hb : H1 b = some (tupI ys))
    (hs : ∀ (x y : Int) (H' : Hp) (R : VK), x ∈ xs -> y ∈ ys -> R (.int (f x y)) H' -> te (some (.int x) :: some (.int y) :: σ0) H' R)
    (q : ∀ H', Same H1 H' -> H' D = some (.lst ((List.zipWith f xs ys).map V.int)) -> Q (.ref D) H') : CompW (Itz K a b) D js (gTup K 2 (gCons (gName 0) (gCons (gName 1) gNil))) tNoTest te σ H1 Q := by
  obtain ⟨u0, v0, hp⟩ := hp
  refine comp_zip (K := K) (a := a) (b := b) (xs := xs.map V.int) (ys := ys.map V.int) (by rw [List.length_map, List.length_map]; exact hn) (fun i σ' H' zs => (∃ u v : Option V, σ' = u :: v :: σ0) /\ Same H1 H' /\ zs = ((List.zipWith f xs ys).take i).map V.int) ⟨⟨u0, v0, hp⟩, Same.new hD, rfl⟩ (fun i σ' H' zs _ ⟨_, s', _⟩ => ⟨SqT.of (s' _ _ ha), SqT.of (s' _ _ hb)⟩) ?_ ?_
  · rintro i x y p σ' H' zs R hx hy hp hD' hzl ⟨⟨u, v, rfl⟩, s', rfl⟩ kk
    obtain ⟨x, rfl, hx'⟩ := map_int_get hx
    obtain ⟨y, rfl, hy'⟩ := map_int_get hy
    refine ⟨p, _, rfl, SqT.of upd_same, rfl, _, _, rfl, _, _, rfl, rfl, ?_⟩
    refine hs x y _ _ (List.mem_of_getElem? hx') (List.mem_of_getElem? hy') (kk _ _ _ ?_ ⟨⟨_, _, rfl⟩, ?_, ?_⟩)
    · rw [upd_ne (ne_of_none hD' hp)]; exact hD'
    · intro c o e
      rw [upd_ne (ne_of_none e hD), upd_ne (ne_of_none (s' c o e) hp)]
      exact s' c o e
    · rw [zipWith_snoc hx' hy', List.map_append]
      rfl
  · rintro σ' H' zs hD' hzl ⟨_, s', rfl⟩
    refine q H' s' ?_
    rw [hD', List.length_map, List.length_map, List.take_of_length_le (by rw [List.length_zipWith]; exact Nat.le_refl _)]
end W2
namespace L2
open PySem PySem.Spec PyProof.Rows
end L2
namespace W2
open PySem L2 Mth
end W2
namespace Xi
open PySem PyProof.Rows
section
variable {prog : Program} {w : World} {A : Around} {E : Value -> Shared -> Prop} {h : Heap} {g : Array GenState} {d : Drawn} {t : Nat} {os : OsState}
variable {nm q : Str} {C N : Addr} {bs bm bmB : List Value} {hdct : Bool} {sn : List Str} {sub : List Value} {ab : Bool} {col : Option Bool} {dd : Option Addr} {k0 k1 k2 k3 k5 : Option Value} {B newId initId : String}
theorem type_call (F : ExcBaseFacts B newId initId bmB) (T : OwnTail h bmB bm) {mN : Str -> Option Value} {rest : List Value} {fI : Addr} {oI : Obj} {Q : PySem.Fin -> Shared -> Prop}
    (hC : h.get? C = some (excClassObj nm q C N bs bm hdct sn sub ab col dd k0 k1 k2 k3 k5 newId)) (hn : h.Ns N mN) (hi : mN "__init__" = some (.ref fI))
    (hfI : h.get? fI = some oI) (hfc : oI.cls = .type "function")
    (hq : ∀ h' e, Heap.MadeExcOf h h' e (.ref C) rest ->
      wpAny (model prog w) A (call (.ref fI) (.ref e :: rest)) (fun r s' => r = .none /\ Q (.done (.ret (.ref e))) s') E ⟨h', g, d, t, os⟩) (hrest : rest.length <= sizeLine) :
    wpAny (model prog w) A (Builtin.«type.__call__» ⟨.ref C :: rest, []⟩) Q E ⟨h, g, d, t, os⟩ := by
  repeat (first | with_reducible refine wpAny_loadPart_at hC ?_ | with_reducible refine wpAny_madeBy_exc hC ?_ | wp_step)
  refine codeAny_call_builtin_code (Code.quiet_builtin _ F.quiet) (wpAny_check_new_subT F T hC ?_)
  refine codeAny_exc_new_subT F T hC ?_ hrest
  show wpAny _ _ _ _ _ _
  have hC₁ := Heap.get?_push_of_some { cls := .ref C, data := .fields #[.ref h.objs.size, .none, .none, .none, .bool false, .none] }
    (Heap.get?_push_of_some { cls := .type "tuple", data := .seq rest.toArray } hC)
  have hfI₁ := Heap.get?_push_of_some { cls := .ref C, data := .fields #[.ref h.objs.size, .none, .none, .none, .bool false, .none] }
    (Heap.get?_push_of_some { cls := .type "tuple", data := .seq rest.toArray } hfI)
  have hn₁ : ((h.push { cls := .type "tuple", data := .seq rest.toArray }).push { cls := .ref C, data := .fields #[.ref h.objs.size, .none, .none, .none, .bool false, .none] }).Ns N mN :=
    let ⟨o, es, ep, e, r⟩ := hn; ⟨o, es, ep, Heap.get?_push_of_some _ (Heap.get?_push_of_some _ e), r⟩
  have hget : ((h.push { cls := .type "tuple", data := .seq rest.toArray }).push
      { cls := .ref C, data := .fields #[.ref h.objs.size, .none, .none, .none, .bool false, .none] }).get? (h.objs.size + 1) = some
      { cls := .ref C, data := .fields #[.ref h.objs.size, .none, .none, .none, .bool false, .none] } := by heap_get
  have hcC : (Value.ref C :: bm).contains (.ref C) = true := by simp
  have T₁ := T.keeps (h' := (h.push { cls := .type "tuple", data := .seq rest.toArray }).push { cls := .ref C, data := .fields #[.ref h.objs.size, .none, .none, .none, .bool false, .none] })
    fun b o e => Heap.get?_push_of_some _ (Heap.get?_push_of_some _ e)
  unfold isInstance
  repeat (first | with_reducible refine wpAny_loadPart_at hget ?_ | (with_reducible refine wpAny_isSubtype_exc hC₁ ?_; rw [hcC]) | wp_step)
  show wpAny _ _ (typeLookup (.ref C) _) _ _ _
  refine wpAny_typeLookup_tail hC₁ hn₁ T₁ F.mroIs F.init.lookup ?_
  rw [hi]
  refine wpAny_holding (wpAny_bind ?_)
  unfold bindSpecial
  refine wpAny_bind (wpAny_typeOf (T := "function") ⟨_, hfI₁, hfc⟩ ?_)
  rw [if_pos (by decide)]
  refine wpAny_pure (wpAny_bind (wpAny_mono (hq _ (h.objs.size + 1) ⟨fun b o hb => Heap.get?_push_of_some _ (Heap.get?_push_of_some _ hb), Heap.get?_none_of_le (Nat.le_succ _), h.objs.size, hget, Heap.get?_none_of_le (Nat.le_refl _), ?_⟩) (fun r s' hr => ?_) fun _ _ x => x))
  · exact Heap.get?_push_of_some _ (Heap.get?_push_at rfl rfl)
  · obtain ⟨rfl, hQ⟩ := hr
    wp_walk
    exact hQ
theorem call_exc (F : ExcBaseFacts B newId initId bmB) (T : OwnTail h bmB bm) {mN : Str -> Option Value} {rest : List Value} {fI : Addr} {oI : Obj} {Q : Value -> Shared -> Prop}
    (hC : h.get? C = some (excClassObj nm q C N bs bm hdct sn sub ab col dd k0 k1 k2 k3 k5 newId)) (hn : h.Ns N mN) (hi : mN "__init__" = some (.ref fI))
    (hfI : h.get? fI = some oI) (hfc : oI.cls = .type "function")
    (hq : ∀ h' e, Heap.MadeExcOf h h' e (.ref C) rest ->
      wpAny (model prog w) (A.under (.builtin "type.__call__" ⟨.ref C :: rest, []⟩)) (call (.ref fI) (.ref e :: rest)) (fun r s' => r = .none /\ Q (.ref e) s') E ⟨h', g, d, t, os⟩) (hrest : rest.length <= sizeLine) :
    wpAny (model prog w) A (call (.ref C) rest) Q E ⟨h, g, d, t, os⟩ := by
  have f1 := tc_lookup
  have f2 := tc_bind (.ref C)
  have hT : (⟨h, g, d, t, os⟩ : Shared).TypeIs (.ref C) "type" := ⟨_, hC, rfl⟩
  refine wpAny_call (codeAny_of_tree ?_)
  show wpAny _ _ (callAny (.ref C) _) _ _ _
  repeat (any_goals (first | assumption | with_reducible refine wpAny_loadPart_at hC ?_ | wp_step))
  refine ⟨rfl, ?_⟩
  refine codeAny_call_builtin_at (Code.quiet_builtin _ (by decide +kernel)) entry_typeCall (wpAny_check_type_call_sub hC (type_call (hrest := hrest) F T hC hn hi hfI hfc fun h' e hm => ?_))
  exact hq h' e hm
end
section
variable {M : Model} {A : Around} {E : Value -> Shared -> Prop} {env : Env}
variable {nm q : Str} {C N : Addr} {bs bm : List Value} {hdct : Bool} {sn : List Str} {sub : List Value} {ab : Bool} {col : Option Bool} {dd : Option Addr} {k0 k1 k2 k3 k5 : Option Value} {newId : String}
theorem raiseStmt_made {s : Shared} {x : Sem Value} {Q : Flow -> Shared -> Prop} (hbase : bm.contains (.type "BaseException") = true) (hh : A.handled = none)
    (h : wpAny M A x (fun v s₁ => ∃ e t dx, v = .ref e /\ s₁.heap.get? C = some (excClassObj nm q C N bs bm hdct sn sub ab col dd k0 k1 k2 k3 k5 newId) /\
      s₁.heap.get? e = some { cls := .ref C, dict := dx, data := .fields #[.ref t, .none, .none, .none, .bool false, .none] } /\ E (.ref e) s₁) E s) :
    wpAny M A (raiseStmt env (some x) none) Q E s := by
  have hcB : (Value.ref C :: bm).contains (.type "BaseException") = true := by rw [List.contains_cons, hbase, Bool.or_true]
  unfold raiseStmt
  refine wpAny_bind (wpAny_mono h (fun v s₁ h₁ => ?_) fun _ _ x => x)
  obtain ⟨e, t, dx, rfl, hC, he, hE⟩ := h₁
  obtain ⟨hp, g, d, tk, os⟩ := s₁
  repeat (first | with_reducible refine wpAny_loadPart_at he ?_ | with_reducible refine wpAny_loadPart_at hC ?_ | (with_reducible refine wpAny_isSubtype_exc hC ?_; rw [hcB]) | wp_step)
  exact wpAny_raiseNew_none hh hE
end
section
variable {prog : Program} {w : World} {A : Around} {E : Value -> Shared -> Prop} {s : Shared} {env : Env}
variable {nm q : Str} {C N : Addr} {bs bm bmB : List Value} {hdct : Bool} {sn : List Str} {sub : List Value} {ab : Bool} {col : Option Bool} {dd : Option Addr} {k0 k1 k2 k3 k5 : Option Value} {B newId initId : String}
theorem raise_call (F : ExcBaseFacts B newId initId bmB) {mN : Str -> Option Value} {fI : Addr} {oI : Obj} {x : Str} {np cpos pos : Pos} {args : List Expr} {Q : Flow -> Shared -> Prop}
    (hbase : bm.contains (.type "BaseException") = true) (hh : A.handled = none) (hplain : (backTo cpos (starEach args env)).any (·.1) = false) (hi : mN "__init__" = some (.ref fI)) (hfc : oI.cls = .type "function")
    (h : wpAny (model prog w) A (eval (.Name x np) env) (fun f s₁ => f = .ref C /\ wpAny (model prog w) A (evalArgs (.ref C) true (backTo cpos (starEach args env)) [])
      (fun a s₂ => a.kw = [] /\ a.pos.length <= sizeLine /\ s₂.heap.get? C = some (excClassObj nm q C N bs bm hdct sn sub ab col dd k0 k1 k2 k3 k5 newId) /\ s₂.heap.Ns N mN /\ OwnTail s₂.heap bmB bm /\ s₂.heap.get? fI = some oI /\
        ∀ h' e, Heap.MadeExcOf s₂.heap h' e (.ref C) a.pos -> wpAny (model prog w) (A.under (.builtin "type.__call__" ⟨.ref C :: a.pos, []⟩)) (call (.ref fI) (.ref e :: a.pos))
          (fun r s' => r = .none /\ s'.heap.get? C = some (excClassObj nm q C N bs bm hdct sn sub ab col dd k0 k1 k2 k3 k5 newId) /\ (∃ t dx, s'.heap.get? e = some { cls := .ref C, dict := dx, data := .fields #[.ref t, .none, .none, .none, .bool false, .none] }) /\ E (.ref e) s') E { s₂ with heap := h' }) E s₁) E s) :
    wpAny (model prog w) A (exec (.Raise (some (.Call (.Name x np) args [] cpos)) none pos) env) Q E s := by
  rw [arm_exec_Raise]
  first
    | refine wpAny_bind (wpAny_standAt (raiseStmt_made (C := C) (nm := nm) (q := q) (N := N) (bs := bs) (bm := bm) (hdct := hdct) (sn := sn) (sub := sub) (ab := ab) (col := col) (dd := dd) (k0 := k0) (k1 := k1) (k2 := k2) (k3 := k3) (k5 := k5) (newId := newId) hbase hh (wpAny_bind (wpAny_mono (wpAny_Call_ofName (wpAny_mono h (fun f s₁ h₁ => ?_) fun _ _ x => x)) (fun v s₃ h₃ => wpAny_bind (wpAny_standAt (wpAny_pure h₃))) fun _ _ x => x))))
    | (simp only [evalOpt, Option.map]; refine wpAny_bind (wpAny_standAt (raiseStmt_made (C := C) (nm := nm) (q := q) (N := N) (bs := bs) (bm := bm) (hdct := hdct) (sn := sn) (sub := sub) (ab := ab) (col := col) (dd := dd) (k0 := k0) (k1 := k1) (k2 := k2) (k3 := k3) (k5 := k5) (newId := newId) hbase hh (wpAny_bind (wpAny_mono (wpAny_Call_ofName (wpAny_mono h (fun f s₁ h₁ => ?_) fun _ _ x => x)) (fun v s₃ h₃ => wpAny_bind (wpAny_standAt (wpAny_pure h₃))) fun _ _ x => x)))))
    | (refine wpAny_bind (wpAny_standAt (raiseStmt_made (C := C) (nm := nm) (q := q) (N := N) (bs := bs) (bm := bm) (hdct := hdct) (sn := sn) (sub := sub) (ab := ab) (col := col) (dd := dd) (k0 := k0) (k1 := k1) (k2 := k2) (k3 := k3) (k5 := k5) (newId := newId) hbase hh ?_)); refine wpAny_bind (wpAny_mono (wpAny_Call_ofName (wpAny_mono h (fun f s₁ h₁ => ?_) fun _ _ x => x)) (fun v s₃ h₃ => wpAny_bind (wpAny_standAt (wpAny_pure h₃))) fun _ _ x => x))
  obtain ⟨rfl, h₁⟩ := h₁
  unfold callWith
  refine wpAny_bind (wpAny_holding (wpAny_mono h₁ (fun a s₂ h₂ => wpAny_bind (wpAny_standAt ?_)) fun _ _ x => x))
  obtain ⟨apos, akw⟩ := a
  obtain ⟨hkw, hlen, hC, hn, T, hfI, h₂⟩ := h₂
  obtain rfl : akw = [] := hkw
  obtain ⟨hp, g, d, tk, os⟩ := s₂
  simp only [hplain]
  refine wpAny_bind (wpAny_keeperOf_exc hC ?_)
  refine wpAny_bind (call_exc (hrest := hlen) F T hC hn hi hfI hfc fun h' e hm => wpAny_mono (h₂ h' e hm) (fun r s' hr => ⟨hr.1, ?_⟩) fun _ _ z => z)
  obtain ⟨_, c1, ⟨t, dx, c2⟩, c3⟩ := hr
  refine wpAny_bind (wpAny_holding (wpAny_point (wpAny_pure ?_)))
  exact ⟨e, t, dx, rfl, c1, c2, c3⟩
end
end Xi
namespace PySem.W
open PySem PySem.Spec PySem.Calls PyProof.Rows Builtin.ObjectAttr
theorem refuseV (self : Value) : refuseLoop self "__setattr__" L2.bmV = pure () := by kernel_rfl
section
variable {prog : Program} {w : World} {A : Around} {E : Value -> Shared -> Prop} {R : Result -> Shared -> Prop} {s : Shared} {K : Frag} {x C Fr : Addr} {ox : Obj} {od : Option Obj} {cd : ClassData}
theorem osa_openX {name : Str} {tk : Tok} {v : Value} {r : Option Value} (X : K.In s.heap) (I : InstAt s.heap x ox C od) (hc : clsIn K C = some cd) (hmro : cd.mro = .ref C :: .ref Fr :: L2.bmV) (hob : mroIn K C (.type "object") = some true) (ht : takerIn K C name = some r)
    (h : ∀ b, wpAny (model prog w) A.in1 (match r with | some a => setByDescriptor a (.ref x) v | none => storeInOwnDict (.ref x) (.ref C) (.str name tk) name v b)
      (fun fin s' => match fin with | .done f => R (.ok f) s' | .again c' => c'.quiet = true /\ codeAny (model prog w) A c' R s') (fun e s' => R (.error e) s') s) :
    codeAny (model prog w) A (.call (.builtin "object.__setattr__") ⟨[.ref x, .str name tk, v], []⟩) R s := by
  have SF := PySem.F.store_object
  have sub : Looks (model prog w) s.heap (isInstance (.ref x) (.type "object")) true := I.type.andThen (looks_mroIn X hob)
  refine codeAny_call_builtin SF.slot.plain SF.entry (@check_slot (model prog w) _ _ s "object.__setattr__" "object" "__setattr__" (.ref x) [.str name tk, v] [] _ SF.kind SF.split sub (SF.args (.ref x) (.str name tk) v) ?_)
  obtain ⟨attr, ha, hr⟩ := Option.bind_eq_some_iff.mp ht
  have hm : Looks (model prog w) s.heap (mroOf (.ref C)) cd.mro := (looks_clsIn X hc).andThen .now
  have L3 : Looks (model prog w) s.heap (storeTaker? attr) r := by
    cases attr with
    | none => cases hr; exact .now
    | some a =>
      obtain ⟨b, hb, rfl⟩ := Option.map_eq_some_iff.mp hr
      refine (looks_takesIn X hb).andThen ?_
      cases b <;> exact .now
  rw [osa_eq, refuse_eq]
  refine wpAny_bind (wpAny_bind (I.type.here (wpAny_bind (hm.here ?_))))
  rw [hmro, refuseLoop_ref, refuseLoop_ref, refuseV]
  refine wpAny_pure (wpAny_bind (I.type.here (wpAny_bind ((looks_findIn X ha).here (wpAny_bind (L3.here ?_))))))
  exact h _
theorem set_exc {vs : Array Value} {name : Str} {v : Value} {Q : Unit -> Shared -> Prop} (X : K.In s.heap) (hx : s.heap.get? x = some ⟨.ref C, none, .fields vs, #[]⟩) (hc : clsIn K C = some cd) (hmro : cd.mro = .ref C :: .ref Fr :: L2.bmV) (hd : cd.hasDict = true)
    (hob : mroIn K C (.type "object") = some true) (hs : findIn K (.ref C) "__setattr__" = some (some (.builtin "object.__setattr__"))) (ht : takerIn K C name = some none)
    (h : ∀ h' dx tk, s.heap.get? dx = none -> h'.get? x = some ⟨.ref C, some dx, .fields vs, #[]⟩ -> h'.Ns1 dx (fun y => if y = name then some v else none) -> (∀ b o, b ≠ x -> s.heap.get? b = some o -> h'.get? b = some o) -> Q () { s with heap := h', toks := tk }) :
    wpAny (model prog w) A (setAttr (.ref x) name v) Q E s := by
  have I : InstAt s.heap x ⟨.ref C, none, .fields vs, #[]⟩ C none := ⟨hx, rfl, rfl, trivial⟩
  refine set_plain X I hs (osa_openX (s := { s with toks := s.toks + 1 }) (r := none) X I hc hmro hob ht fun b => ?_)
  refine wpAny_bind (wpAny_pure (wpAny_bind (wpAny_bind (wpAny_loadPart hx (wpAny_bind (PySem.W.Looks.here (s := { s with toks := s.toks + 1 }) (PySem.W.looks_clsIn X hc) ?_))))))
  rw [hd]
  rw [if_neg (by simp)]
  show wpAny _ _ (alloc { cls := .type "dict", data := .dict #[] } >>= fun d => update x (fun o => { o with dict := some d }) >>= fun _ => dictMade (.ref C) x d) _ _ _
  have xl : x < s.heap.objs.size := Heap.lt_size hx
  have hxp : (s.heap.push { cls := .type "dict", data := .dict #[] }).get? x = some ⟨.ref C, none, .fields vs, #[]⟩ := Heap.get?_push_of_some _ hx
  refine wpAny_bind (wpAny_alloc (wpAny_bind (wpAny_update hxp ?_)))
  show wpAny _ _ (pure (some s.heap.objs.size)) _ _ _
  refine wpAny_pure ?_
  have hs1 : Heap.SameBut x (s.heap.push { cls := .type "dict", data := .dict #[] }) ((s.heap.push { cls := .type "dict", data := .dict #[] }).update x fun o => { o with dict := some s.heap.objs.size }) := Heap.SameBut.update _ _ _
  have hx1 : ((s.heap.push { cls := .type "dict", data := .dict #[] }).update x fun o => { o with dict := some s.heap.objs.size }).get? x = some ⟨.ref C, some s.heap.objs.size, .fields vs, #[]⟩ := Heap.get?_update_self _ hxp rfl
  generalize ((s.heap.push { cls := .type "dict", data := .dict #[] }).update x fun o => { o with dict := some s.heap.objs.size }) = h1 at hs1 hx1 ⊢
  have hd1 : h1.get? s.heap.objs.size = some { cls := .type "dict", data := .dict #[] } := (hs1.2 _ (Nat.ne_of_gt xl)).trans (Heap.get?_push_size _ rfl)
  have n1 : h1.Ns1 s.heap.objs.size (fun _ => none) := Heap.Ns1.of_empty ⟨_, #[], _, hd1, rfl, (fun e he => absurd he (by simp)), fun _ => rfl⟩
  show wpAny _ _ (storeInDict s.heap.objs.size (.str name s.toks) name v) _ _ _
  refine wpAny_bind (wpAny_pure (wpAny_bind ?_))
  refine wpAny_nsSet1 (s := { s with heap := h1, toks := s.toks + 1 }) n1 fun h' hn2 hs2 => ?_
  obtain ⟨oD, esD, epD, hoD, hdD, hcD⟩ := hn2.count (PySem.Within.cons (ns := []) name v (fun y hy => absurd rfl hy))
  refine wpAny_bind (wpAny_lookBehind hoD (by rw [hdD]; exact pastItsLine_dict (Nat.le_trans hcD (by show 1 <= sizeLine + 1; decide))) ?_)
  refine wpAny_pure (h h' s.heap.objs.size _ (Heap.get?_none_of_le (Nat.le_refl _)) ((hs2.2 _ (Nat.ne_of_lt xl)).trans hx1) hn2 fun b o nb e => ?_)
  have bl : b < s.heap.objs.size := Heap.lt_size e
  exact (hs2.2 _ (Nat.ne_of_lt bl)).trans ((hs1.2 _ nb).trans (Heap.get?_push_of_some _ e))
theorem get_exc {name : Str} {expr : Bool} {v : Value} {Q : Value -> Shared -> Prop} (X : K.In s.heap) (I : InstAt s.heap x ox C od) (c : XcIs K C) (hf : findObj K C od name = some (.value v)) (hh : handedIn v = true) (h : Q v { s with toks := s.toks + 1 }) :
    wpAny (model prog w) A (getAttr (.ref x) name expr) Q E s := by
  obtain ⟨hh', g, d, t, os⟩ := s
  have L0 := I.type (M := model prog w)
  have L1 := looks_findIn (M := model prog w) X c.ga
  have L2 := looks_findIn (M := model prog w) X c.gn
  have L3 := looks_find (M := model prog w) X I hf
  have f3 := PySem.F.attr_ValueError.ga.bind (.ref x)
  unfold getAttr getAttrBy
  refine wpAny_bind (wpAny_mkText (wpAny_holding (wpAny_bind (L0.at (wpAny_bind (L1.at ?_))))))
  show wpAny _ _ (getAttrByItsOwn _ _ _ _ _ _) _ _ _
  unfold getAttrByItsOwn hookBefore
  refine wpAny_bind (L2.at (wpAny_bind (wpAny_attempt (wpAny_holding ?_))))
  have e1 : callGetattribute (.ref x) (.str name t) (.builtin "BaseException.__getattribute__") expr = boundAndCalled (.builtin "BaseException.__getattribute__") (.ref x) (.str name t) := by
    unfold callGetattribute
    cases expr <;> rfl
  show wpAny _ _ (callGetattribute (.ref x) (.str name t) (.builtin "BaseException.__getattribute__") expr) _ _ _
  rw [e1]
  unfold boundAndCalled
  repeat (any_goals (first | assumption | wp_step))
  refine codeAny_call_builtin PySem.F.attr_ValueError.ga.plain PySem.F.entry_bexc_ga (xc_check X I c ?_)
  refine wpAny_bind (wpAny_pure (wpAny_bind (wpAny_pure (wpAny_bind (L0.at (wpAny_bind (L3.at ?_)))))))
  refine wpAny_pure ?_
  show wpAny _ _ (handedOut v) _ _ _
  rw [handedOut_of hh]
  exact wpAny_pure h
end
end PySem.W
namespace L2
open PySem PySem.Spec PyProof.Rows Xn
structure XI (K : PySem.W.Frag) (mg : Str -> Option Value) (x : Str) (C Fr fI : Addr) : Prop where
  at_ : mg x = some (.ref C)
  ob : ∃ nm q N bs sn sub ab col dd k0 k1 k2 k3 k5, K.lookup C = some (excClassObj nm q C N bs (.ref Fr :: bmV) true sn sub ab col dd k0 k1 k2 k3 k5 "ValueError.__new__") /\ PySem.W.nsOkIn K N = true /\ PySem.W.nsIn K N "__init__" = some (some (.ref fI))
  fr : PySem.W.excIn K Fr bmV "ValueError.__new__" = true
  xc : PySem.W.XcIs K C
  sa : PySem.W.findIn K (.ref C) "__setattr__" = some (some (.builtin "object.__setattr__"))
  fn : ∃ oI, K.lookup fI = some oI /\ oI.cls = .type "function"
theorem XI.cls {K : PySem.W.Frag} {mg : Str -> Option Value} {x : Str} {C Fr fI : Addr} (c : XI K mg x C Fr fI) : ∃ cd, PySem.W.clsIn K C = some cd /\ cd.mro = .ref C :: .ref Fr :: bmV /\ cd.hasDict = true := by
  obtain ⟨nm, q, N, bs, sn, sub, ab, col, dd, k0, k1, k2, k3, k5, h, _⟩ := c.ob
  have e : PySem.W.clsIn K C = (match K.lookup C with | some ⟨_, _, .cls cd, _⟩ => some cd | _ => none) := rfl
  rw [h] at e
  exact ⟨_, e, rfl, rfl⟩
theorem XI.hd {K : PySem.W.Frag} {mg : Str -> Option Value} {x : Str} {C Fr fI : Addr} (c : XI K mg x C Fr fI) : PySem.W.hasDictIn K C = true := by
  obtain ⟨cd, h1, _, h3⟩ := c.cls
  unfold PySem.W.hasDictIn
  rw [h1]
  exact h3
theorem XI.tail {K : PySem.W.Frag} {mg : Str -> Option Value} {x : Str} {C Fr fI : Addr} {h : Heap} (c : XI K mg x C Fr fI) (X : K.In h) : OwnTail h bmV (.ref Fr :: bmV) := by
  obtain ⟨tl, N, nm, q, bs, hdct, sn, sub, ab, col, dd, k0, k1, k2, k3, k5, mN, hC, hN, hni, T⟩ := (ECls.own (mg := fun _ => some (.ref Fr)) (x := x) ⟨rfl, c.fr⟩ X).obj
  exact .own hC hN hni .base
theorem ns_some_of {K : PySem.W.Frag} {h : Heap} {N : Addr} {mg : Str -> Option Value} {n : Str} {v : Value} (X : K.In h) (G : h.Ns N mg) (e : PySem.W.nsIn K N n = some (some v)) : mg n = some v := by
  obtain ⟨o, es, ep, ho, hd, _, hf⟩ := G
  unfold PySem.W.nsIn at e
  split at e
  · rename_i c d es' n' sl q
    have := X _ _ q
    rw [ho] at this
    cases this
    cases hd
    split at e
    · rename_i y he
      rw [← hf]
      unfold nsFind findBy
      rw [← Array.find?_toList, he]
      exact Option.some.inj e
    · split at e <;> cases e
  · cases e
def excM (e C : Addr) (d : Option Addr) (t : Addr) : HO := .ext fun h => h.get? e = some { cls := .ref C, dict := d, data := .fields #[.ref t, .none, .none, .none, .bool false, .none] }
theorem excM_ok {P : Program} {w : World} {H : Hp} {h : Heap} {e C t : Addr} {d : Option Addr} (he : h.get? e = some { cls := .ref C, dict := d, data := .fields #[.ref t, .none, .none, .none, .bool false, .none] }) : ObjOk P w H h e (excM e C d t) :=
  ⟨he, ⟨_, he⟩, fun h1 h2 a k => k _ a⟩
theorem Inv.forget {X : Cx} {pins : List (Addr × Obj)} {σ : St} {H H' : Hp} {s : Shared} {e : Addr} (I : Inv X pins σ H s) (hne : ∀ b, b ≠ e -> H' b = H b) (h0 : H' e = none) (hx : (∀ xs, H e ≠ some (.tup xs)) /\ (∀ o u, H e ≠ some (.frz o u)) /\ (∀ ps, H e ≠ some (.tbl ps)) /\ ∀ b, H e ≠ some (.own b)) : Inv X pins σ H' s := by
  have le : ∀ b, H b = none -> H' b = none := fun b n => by
    by_cases z : b = e
    · rw [z]; exact h0
    · rw [hne b z]; exact n
  refine ⟨I.ok, I.os, I.bare, ⟨I.base.keep, I.base.slot, fun b ob q n hx => le b (I.base.free b ob q n hx), I.base.there, fun b xs q => ?_, fun b ob u q => ?_, fun b ps q => ?_⟩, I.loc, I.cell, le _ I.free, fun x c q => le _ (I.freeC x c q), fun p hp => ?_, fun b ob q => ?_, I.len⟩
  · have := I.base.tups b xs q
    rw [hne b fun z => hx.1 xs (z ▸ this)]; exact this
  · have := I.base.frzs b ob u q
    rw [hne b fun z => hx.2.1 ob u (z ▸ this)]; exact this
  · obtain ⟨m, this⟩ := I.base.tbls b ps q
    exact ⟨m, by rw [hne b fun z => hx.2.2.1 _ (z ▸ this)]; exact this⟩
  · obtain ⟨a, b, c, d, f⟩ := I.pin p hp
    exact ⟨a, le _ b, c, d, f⟩
  · by_cases z : b = e
    · rw [z, h0] at q; cases q
    · rw [hne b z] at q
      refine (I.hok b ob q).stay (fun _ _ _ q => q) (fun c q => ?_) fun c xs q => ?_
      · rw [hne c fun z => hx.2.2.2 _ (z ▸ q)]; exact q
      · rw [hne c fun z => hx.1 _ (z ▸ q)]; exact q
def sp_init (C : Addr) (f : Str) : Sp := fun vs H Q _ => ∃ (e t : Addr) (v : V), vs = [.ref e, v] /\ H e = some (excM e C none t) /\ ∀ dx, H dx = none -> Q .non (upd (upd H e (excM e C (some dx) t)) dx (.xd [(f, v)]))
def sRaiseI (C : Addr) (f : Str) (E : XK) (ta : TA) : TS := fun _ σ H => ta σ H fun vs H1 => ∃ v, vs = [v] /\ ∀ dx H2, Same H1 H2 -> H2 dx = some (.xd [(f, v)]) -> E (.ref C) (some dx) H2
theorem qs_raiseI {X : Cx} {E : XK} {x f : Str} {C Fr fI : Addr} {kk : Nat} {fd : FuncData} {ps : List Str} {a : Expr} {ta : TA} {np cpos pos : Pos} (k : Xok X E) (hx : X.ex = []) (hc : X.calm = true) (c : XI X.K X.mg x C Fr fI) (F : FnOk X.prog X.w X.K X.mg X.base CX0 kk fI fd ps (sp_init C f)) (hr : Room (kk + 1) X.A) (hb : Binds X.K fd ps [])
    (hg : Gl X x) (ha : QA X [a] ta) (hst : noStar a = true := by rfl) (hpl : (backTo cpos (starEach [] X.env)).any (·.1) = false := by rfl) (hd : (x == ("__debug__" : Str)) = false := by decide) : QS X (.Raise (some (.Call (.Name x np) [a] [] cpos)) none pos) (sRaiseI C f E ta) := ⟨by
  intro pins s σ H D I h
  obtain ⟨nm, q, N, bs, sn, sub, ab, col, dd, k0, k1, k2, k3, k5, hCK, hNok, hNi⟩ := c.ob
  obtain ⟨oI, hIK, hIc⟩ := c.fn
  have he := starEach_cons hst [] X.env
  have hmN : X.base.nsMap N "__init__" = some (.ref fI) := ns_some_of I.mod.kin (.of_isNs (PySem.W.isNs_of_in I.mod.kin hNok)) hNi
  refine Xi.raise_call (C := C) (nm := nm) (q := q) (N := N) (bs := bs) (bm := .ref Fr :: bmV) (hdct := true) (sn := sn) (sub := sub) (ab := ab) (col := col) (dd := dd) (k0 := k0) (k1 := k1) (k2 := k2) (k3 := k3) (k5 := k5)
    PySem.F.excBase_ValueError (mN := X.base.nsMap N) (fI := fI) (oI := oI) (by rfl) (I.ok.hd.1 hc) (by rw [he]; show (false || (backTo cpos (starEach [] X.env)).any (·.1)) = false; rw [hpl]; rfl) hmN hIc (ld_glob I hg c.at_ ⟨rfl, ?_⟩ hd)
  have ha' := ha.o cpos pins s σ H _ I h
  rw [he] at ha' ⊢
  refine Calls.evalArgs_plain (thn ha' fun us s1 ⟨vs, H1, I1, r, v, ev, hE⟩ => ?_)
  subst ev
  obtain ⟨u, rfl, ru⟩ := vals1 r
  have hN : X.base.Ns N (X.base.nsMap N) := .of_isNs (PySem.W.isNs_of_in I.mod.kin hNok)
  refine ⟨rfl, (by show 1 <= sizeLine; decide), I1.kIn _ _ hCK, hN.keeps I1.bk, c.tail I1.kIn, I1.kIn _ _ hIK, fun h' e hm => ?_⟩
  obtain ⟨t, he', _, _⟩ := hm.there
  have I2 : Inv X pins σ H1 { s1 with heap := h' } := I1.kept (t' := s1.toks) hm.keeps
  have fe : Fresh X pins e := Fresh.of I1 hx hm.new
  have He : H1 e = none := I1.hok.gone hm.new
  have nfe : ∀ b ∈ frs X.stack, b ≠ e := fun b hb z => by
    obtain ⟨_, o, ho, _⟩ := I1.stack.mem hb
    rw [z, hm.new] at ho; cases ho
  have I3 : Inv X pins σ (upd H1 e (excM e C none t)) { s1 with heap := h' } := I2.known hx fe He (excM_ok he') nfe
  have r2 : Vals [V.ref e, v] [Value.ref e, u] := .cons rfl (.cons ru .nil)
  have hq : sp_init C f [V.ref e, v] (upd H1 e (excM e C none t)) (fun v' H2 => v' = .non /\ ∃ dx, upd H1 e (excM e C none t) dx = none /\ H2 = upd (upd (upd H1 e (excM e C none t)) e (excM e C (some dx) t)) dx (.xd [(f, v)])) E0 :=
    ⟨e, t, v, rfl, upd_same, fun dx hdx => ⟨rfl, dx, hdx, rfl⟩⟩
  have hl : ([Value.ref e, u] ++ []).length = ps.length := by
    have e1 := F.len _ _ _ _ hq
    rw [← e1]; rfl
  refine wpAny_call (codeAny_mono (F.run _ X.stack _ _ ⟨[Value.ref e, u], []⟩ [Value.ref e, u] [V.ref e, v] _ E0 (hr.make C [u] []) (I3.env0.make C [u] []) (hb _ [Value.ref e, u] I3.kIn hl) r2 hq) fun r s' hq' => ?_)
  cases r with
  | error e => exact False.elim hq'
  | ok fl =>
    cases fl with
    | next => exact False.elim hq'
    | brk => exact False.elim hq'
    | cont => exact False.elim hq'
    | ret uu =>
      obtain ⟨v', H', I4, rv, ev, dx, hdx, eH⟩ := I3.after hq'
      subst ev
      have ndx : dx ≠ e := fun z => by rw [z, upd_same] at hdx; cases hdx
      have hdx1 : H1 dx = none := by rw [upd_ne ndx] at hdx; exact hdx
      have hHe : H' e = some (excM e C (some dx) t) := by rw [eH, upd_ne (Ne.symm ndx), upd_same]
      have hobj : s'.heap.get? e = some { cls := .ref C, dict := some dx, data := .fields #[.ref t, .none, .none, .none, .bool false, .none] } := (I4.hok e _ hHe).1
      have I5 : Inv X pins σ (upd H1 dx (.xd [(f, v)])) s' := by
        refine I4.forget (e := e) (fun b nb => ?_) ?_ ⟨fun xs z => ?_, fun o u z => ?_, fun ps z => ?_, fun b z => ?_⟩
        · rw [eH]
          by_cases z : b = dx
          · rw [z, upd_same, upd_same]
          · rw [upd_ne z, upd_ne z, upd_ne nb, upd_ne nb]
        · rw [upd_ne (Ne.symm ndx)]; exact He
        · rw [hHe] at z; cases z
        · rw [hHe] at z; cases z
        · rw [hHe] at z; cases z
        · rw [hHe] at z; cases z
      refine ⟨rv, I4.kIn _ _ hCK, ⟨t, some dx, hobj⟩, ?_⟩
      refine k pins σ _ s' e C (some dx) .none [] I5 fe (by rw [upd_ne (Ne.symm ndx)]; exact He) ⟨_, _, hobj, rfl, rfl, rfl, rfl, rfl⟩ (.inl ⟨rfl, rfl⟩) (fun b hb => absurd hb (by simp)) (hE dx _ (W2.Same.new hdx1) upd_same)⟩
structure UnderI (K : PySem.W.Frag) (C F : Addr) : Prop where
  ob : ∃ nm q N bs bm hdct sn sub ab col dd k0 k1 k2 k3 k5, K.lookup C = some (excClassObj nm q C N bs bm hdct sn sub ab col dd k0 k1 k2 k3 k5 "ValueError.__new__")
  in_ : PySem.W.mroIn K C (.ref F) = some true
  ne : C ≠ F
def sFldX (K : PySem.W.Frag) (to tv : TE) (f : Str) : TS := fun D σ H => tv σ H fun y H1 => to σ H1 fun x H2 => ∃ (e C Fr t : Addr) (cd : ClassData), x = .ref e /\ H2 e = some (excM e C none t) /\ PySem.W.clsIn K C = some cd /\ cd.mro = .ref C :: .ref Fr :: bmV /\ cd.hasDict = true /\
  PySem.W.mroIn K C (.type "object") = some true /\ PySem.W.findIn K (.ref C) "__setattr__" = some (some (.builtin "object.__setattr__")) /\ PySem.W.takerIn K C f = some none /\ ∀ dx, H2 dx = none -> D.nx σ (upd (upd H2 e (excM e C (some dx) t)) dx (.xd [(f, y)]))
theorem qs_fldX {X : Cx} {o value : Expr} {f : Str} {pos pos' : Pos} {ta tv : TE} (hx : X.ex = []) (ha : QE X o ta) (hv : QE X value tv) (hs : swapsWith value (some (.Attribute o f pos')) pos.line X.env = pure false) : QS X (.Assign [.Attribute o f pos'] value pos) (sFldX X.K ta tv f) := ⟨by
  intro pins s σ H D I h
  refine plainObj_wpAny_Assign_Attribute (thn (hv.o pins s σ H _ I h) fun u s1 ⟨y, H1, I1, ry, q⟩ => thn (ha.o pins s1 σ H1 _ I1 q) fun ov s2 ⟨x, H2, I2, rx, e, C, Fr, t, cd, ex, he, hc, hmro, hd, hob, hsa, ht, q2⟩ => ?_) hs
  subst ex
  obtain rfl : ov = Value.ref e := rx
  have hobj := (I2.hok e _ he).1
  refine PySem.W.set_exc I2.kIn hobj hc hmro hd hob hsa ht fun h' dx tk hdx hx' hn hk => ?_
  have I3 : Inv X pins σ (upd H2 e (excM e C (some dx) t)) { s2 with heap := h', toks := tk } := I2.write (by rw [he]; trivial) (.inl rfl) hk ⟨_, hx'⟩ (excM_ok hx')
  have hdx2 : H2 dx = none := I2.hok.gone hdx
  have nde : dx ≠ e := fun z => by rw [z, hobj] at hdx; cases hdx
  have fd : Fresh X pins dx := Fresh.of I2 hx hdx
  have I4 : Inv X pins σ (upd (upd H2 e (excM e C (some dx) t)) dx (.xd [(f, y)])) { s2 with heap := h', toks := tk } := by
    refine I3.known hx fd (by rw [upd_ne nde]; exact hdx2) ⟨_, hn, fun g => ?_⟩ fun b hb z => ?_
    · by_cases z : g = f
      · have hb : (g == f) = true := beq_iff_eq.mpr z
        simp only [List.lookup, hb, if_pos z]
        exact ry
      · have hb : (g == f) = false := beq_eq_false_iff_ne.mpr z
        simp only [List.lookup, hb, if_neg z]
        trivial
    · obtain ⟨_, o, ho, _⟩ := I2.stack.mem hb
      rw [z, hdx] at ho; cases ho
  exact ⟨σ, _, I4, q2 dx hdx2⟩⟩
def tFldX (K : PySem.W.Frag) (ta : TE) (f : Str) : TE := fun σ H Q => ta σ H fun x H1 => ∃ (e C dx : Addr) (fs : List (Str × V)) (v : V), x = .ref e /\ H1 e = some (excO e C (some dx)) /\ H1 dx = some (.xd fs) /\ PySem.W.XcIs K C /\ PySem.W.hasDictIn K C = true /\ PySem.W.findIn K (.ref C) f = some none /\ fs.lookup f = some v /\ Q v H1
theorem exc_inst {X : Cx} {pins : List (Addr × Obj)} {σ : St} {H : Hp} {s : Shared} (I : Inv X pins σ H s) {e C dx : Addr} {fs : List (Str × V)} (he : H e = some (excO e C (some dx))) (hd : H dx = some (.xd fs)) :
    ∃ (oe : Obj) (mA : Str -> Option Value) (od : Obj), PySem.W.InstAt s.heap e oe C (some od) /\ (∀ name, PySem.W.lookIn name od = some (mA name)) /\ ∀ f, RelO (fs.lookup f) (mA f) := by
  obtain ⟨⟨oe, vs, h1, h2, h3, h4, _⟩, _, _⟩ := (show ObjOk X.prog X.w H s.heap e (excO e C (some dx)) from I.hok e _ he)
  obtain ⟨mA, hn, hr⟩ := (show ObjOk X.prog X.w H s.heap dx (.xd fs) from I.hok dx _ hd)
  obtain ⟨od, ho, hl⟩ := lookIn_ns hn
  refine ⟨oe, mA, od, ⟨h1, h2, ?_, ?_⟩, hl, hr⟩
  · unfold PySem.W.notCls
    rw [h4]
  · rw [h3]; exact ho
theorem qe_fldX {X : Cx} {e : Expr} {f : Str} {pos : Pos} {ta : TE} (he : QE X e ta) (hb : attributeBase e f X.env (eval e X.env) = eval e X.env) : QE X (.Attribute e f pos) (tFldX X.K ta f) := ⟨by
  intro pins s σ H Q I h
  refine attr_of hb (thn (he.o pins s σ H _ I h) fun u s1 ⟨x, H1, I1, rx, a, C, dx, fs, v, ex, ea, ed, xc, hh, ha, l, q⟩ => ?_)
  subst ex
  obtain rfl : u = Value.ref a := rx
  obtain ⟨oe, mA, od, J, hl, hr⟩ := exc_inst I1 ea ed
  have hrf := hr f
  rw [l] at hrf
  obtain ⟨u', hu', ru⟩ := hrf.some_of
  exact PySem.W.get_exc I1.kIn J xc (PySem.W.findObj_own hh ha rfl (by rw [hl, hu'])) (handed_of ru) ⟨v, H1, I1.tok _, ru, q⟩⟩
theorem qe_fldXN {X : Cx} {K : PySem.W.Frag} {e : Expr} {f : Str} {pos : Pos} {ta : TE} (hK : X.K = K) (he : QE X e ta) (hb : attributeBase e f X.env (eval e X.env) = eval e X.env) : QE X (.Attribute e f pos) (tFldX K ta f) := by
  subst hK
  exact qe_fldX he hb
end L2
namespace L2
open PySem PySem.Spec PyProof.Rows Xn
def XokS (X : Cx) (E : St -> XK) : Prop := ∀ (pins : List (Addr × Obj)) (σ : St) (H : Hp) (s : Shared) (e C : Addr) (d : Option Addr) (head : Value) (hl : List Addr), Inv X pins σ H s -> Fresh X pins e -> H e = none ->
  Rec s.heap e (.ref C) d head -> HeadOk s.heap e head hl -> (∀ b ∈ hl, Fresh X pins b /\ H b = none) -> E σ (.ref C) d H -> X.xe (.ref e) s
theorem xok_tryS {X : Cx} {pins : List (Addr × Obj)} {W : Value -> Shared -> Prop} {E : St -> XK} (hx : X.ex = []) (hst : X.stack = X.env :: X.outer) (hf : X.env.frame = some X.env.locals)
    (hW : ∀ (σ : St) (H : Hp) (s : Shared) (e C T : Addr) (d : Option Addr), Inv X pins σ H s -> Fresh X pins e -> H e = none -> Rec s.heap e (.ref C) d (.ref T) -> Ent s.heap T .none -> T ≠ e -> Fresh X pins T -> H T = none -> E σ (.ref C) d H -> W (.ref e) s)   : XokS (tryCx X pins W) E := by
  intro pins' σ H s e C d head hl I fe He hr hh hhl hE
  have I0 : Inv X pins σ H s := I.untried
  show wpAny (model X.prog X.w) X.A (noteFrame (.ref e) X.env) _ _ s
  have hfr : X.A.frames = some (X.env :: X.outer) := by rw [← hst]; exact I0.ok.frames
  have hl0 : s.heap.FunFrames X.base (X.env :: X.outer) := by rw [← hst]; exact I0.stack
  refine landed hfr hl0 hf hr hh fun h' T hT nTe kb r1 t1 => ?_
  have kb' : KeptBut (e :: hl) (frs X.stack) s.heap h' := by rw [hst]; exact kb
  have I1 : Inv X pins σ H { s with heap := h' } := I0.keptBut hx kb' fun b hb => by
    rcases List.mem_cons.mp hb with z | z
    · rw [z]; exact ⟨fe.untried, He⟩
    · exact ⟨(hhl b z).1.untried, (hhl b z).2⟩
  exact hW σ H _ e C T d I1 fe.untried He r1 t1 nTe (Fresh.of I0 hx hT) (I0.hok.gone hT) hE
def MatchOk (K : PySem.W.Frag) (F : Addr) (U : Addr -> Prop) : Prop := ∀ C, U C -> ∀ (M : Model) (A : Around) (E : Value -> Shared -> Prop) (Q : Bool -> Shared -> Prop) (s : Shared) (e : Addr) (oe : Obj), K.In s.heap -> s.heap.get? e = some oe -> oe.cls = .ref C -> Q true s -> wpAny M A (excMatches (.ref e) (.ref F)) Q E s
def tTryM (U : Addr -> Prop) (i : Nat) (E : St -> XK) (tb : TS) (ts : Addr -> TS) : TS := fun D σ H => tb D σ H /\ ∀ C d H1 (σ1 : St), E σ1 (.ref C) d H1 -> U C /\ ∀ (e : Addr), H1 e = none -> i < σ1.length ->
  ts e { nx := fun σ2 H2 => D.nx ((σ2.set i (some .non)).set i none) H2, rt := D.rt, bk := fun σ2 H2 => D.bk ((σ2.set i (some .non)).set i none) H2, ct := fun σ2 H2 => D.ct ((σ2.set i (some .non)).set i none) H2 } (σ1.set i (some (.ref e))) (upd H1 e (excO e C d))
theorem qs_tryM {X : Cx} {E : St -> XK} {x n : Str} {i : Nat} {F : Addr} {U : Addr -> Prop} {body suite : List Stmt} {b0 : Stmt} {tb : TS} {ts : Addr -> TS} {np hpos pos : Pos} (hx : X.ex = []) (hst : X.stack = X.env :: X.outer) (hf : X.env.frame = some X.env.locals) (cF : X.mg x = some (.ref F)) (hM : MatchOk X.K F U) (hg : Gl X x)
    (hN : X.N.Nodup) (hi : X.N[i]? = some n) (hk : X.env.scope.names.lookup n = some .local)
    (hb : ∀ pins W, XokS (tryCx X pins W) E -> QSs (tryCx X pins W) body tb) (hs : ∀ e, QSs (supCx X e) (b0 :: suite) (ts e)) (hd : (x == ("__debug__" : Str)) = false := by decide) :
    QS X (.Try body [.ExceptHandler (some (.Name x np)) (some n) (b0 :: suite) hpos] [] [] pos) (tTryM U i E tb ts) := ⟨by
  intro pins s σ H D I ⟨h1, h2⟩
  refine wpAny_Try_except ?_
  have hW : ∀ (σ : St) (H : Hp) (s : Shared) (e C T : Addr) (d : Option Addr), Inv X pins σ H s -> Fresh X pins e -> H e = none -> Rec s.heap e (.ref C) d (.ref T) -> Ent s.heap T .none -> T ≠ e -> Fresh X pins T -> H T = none -> E σ (.ref C) d H ->
      wpAny (model X.prog X.w) X.A (handleBy (.ref e) X.env [.ExceptHandler (some (.Name x np)) (some n) (b0 :: suite) hpos]) (SP X pins D) X.xe s := by
    intro σ H s e C T d I fe He hr ht nTe fT HT hE
    obtain ⟨hU, hsu⟩ := h2 C d H σ hE
    have hiσ : i < σ.length := by rw [I.len]; exact (List.getElem?_eq_some_iff.mp hi).1
    refine wpAny_handleBy_cons (codeAny_handlers_test (Calls.Name_function_global I.ok.kind hg (Calls.loadGlobal_global (by rw [I.ok.glob]; exact I.mod.glob.keeps I.bk) cF ?_) hd)) (by intro q; cases q)
    obtain ⟨oe, vs, he, hcl, hdi, hdt, hv1⟩ := id hr
    refine hM C hU _ _ _ _ _ _ _ I.kIn he hcl ?_
    refine codeAny_handlers_suite_as ?_
    refine land (F := frs X.stack) hr ht nTe (fun b hb z => ?_) fun h' kb r1 t1 => ?_
    · obtain ⟨_, o, ho, hnf⟩ := I.stack.mem hb
      obtain ⟨oT, ts', hT, hdT, _⟩ := ht
      rw [z, hT] at ho
      injection ho with ho
      subst ho
      exact hnf ts' hdT
    have I1 : Inv X pins σ H { s with heap := h' } := I.keptBut hx kb fun b hb => by rw [List.mem_singleton.mp hb]; exact ⟨fT, HT⟩
    have I2 : Inv X pins σ (upd H e (excO e C d)) { s with heap := h' } := I1.known hx fe He (Rec.ok r1) fun b hb z => by
      obtain ⟨_, o, ho, hnf⟩ := I1.stack.mem hb
      obtain ⟨oe', vs', he', _, _, hd', _⟩ := r1
      rw [z] at ho
      have : (Option.some oe') = some o := he'.symm.trans ho
      injection this with this
      subst this
      exact hnf vs' hd'
    refine store_ok I2 hN hi (.inl hk) (v := .ref e) rfl (fun s2 I3 => ?_) (.inr hk)
    refine wpAny_mono ((hs e).o pins s2 _ _ _ I3.supped (hsu e He hiσ)) (fun f s3 hsp => ?_) fun _ _ z => z.elim
    have fin : ∀ (σ3 : St) (H3 : Hp) (Z : Flow -> Shared -> Prop) , Inv X pins σ3 H3 s3 -> (∀ s5, Inv X pins ((σ3.set i (some .non)).set i none) H3 s5 -> Z f s5) ->
        wpAny (model X.prog X.w) X.A (do bindName X.env n .none; unbindBehindTheSuite X.env n hpos) (fun _ s5 => Z f s5) X.xe s3 := by
      intro σ3 H3 Z I4 hZ
      have hi3 : i < σ3.length := by rw [I4.len]; exact (List.getElem?_eq_some_iff.mp hi).1
      refine wpAny_bind (wpAny_bindName (store_ok I4 hN hi (.inl hk) (v := .non) rfl (fun s4 I5 => ?_) (.inr hk)))
      unfold unbindBehindTheSuite
      exact wpAny_onRaise (unbind_ok I5 hN hi hk (List.getElem?_set_self hi3) fun s5 I6 => hZ s5 I6)
    cases f with
    | next =>
      obtain ⟨σ3, H3, I4, q⟩ := hsp
      exact fin σ3 H3 (SP X pins D) (I4.unsupped I.ok) fun s5 I6 => ⟨_, _, I6, q⟩
    | brk =>
      obtain ⟨σ3, H3, I4, q⟩ := hsp
      exact fin σ3 H3 (SP X pins D) (I4.unsupped I.ok) fun s5 I6 => ⟨_, _, I6, q⟩
    | cont =>
      obtain ⟨σ3, H3, I4, q⟩ := hsp
      exact fin σ3 H3 (SP X pins D) (I4.unsupped I.ok) fun s5 I6 => ⟨_, _, I6, q⟩
    | ret u =>
      obtain ⟨v, σ3, H3, I4, rv, q⟩ := hsp
      exact fin σ3 H3 (SP X pins D) (I4.unsupped I.ok) fun s5 I6 => ⟨v, _, _, I6, rv, q⟩
  have xk : XokS (tryCx X pins fun e s3 => wpAny (model X.prog X.w) X.A (handleBy e X.env [.ExceptHandler (some (.Name x np)) (some n) (b0 :: suite) hpos]) (SP X pins D) X.xe s3) E := xok_tryS hx hst hf hW
  refine wpAny_mono ((hb pins _ xk).o [] s σ H D I.tried h1) (fun f s1 hsp => ?_) fun _ _ z => z
  cases f with
  | next =>
    obtain ⟨σ3, H3, I4, q⟩ := hsp
    exact wpAny_execs_nil ⟨σ3, H3, I4.untried, q⟩
  | brk =>
    obtain ⟨σ3, H3, I4, q⟩ := hsp
    exact ⟨σ3, H3, I4.untried, q⟩
  | cont =>
    obtain ⟨σ3, H3, I4, q⟩ := hsp
    exact ⟨σ3, H3, I4.untried, q⟩
  | ret u =>
    obtain ⟨v, σ3, H3, I4, rv, q⟩ := hsp
    exact ⟨v, σ3, H3, I4.untried, rv, q⟩⟩
theorem match_self {K : PySem.W.Frag} {mg : Str -> Option Value} {x : Str} {C Fr fI : Addr} (c : XI K mg x C Fr fI) : MatchOk K C (fun D => D = C) := by
  rintro _ rfl M A E Q s e oe X he hcl hq
  obtain ⟨nm, q, N, bs, sn, sub, ab, col, dd, k0, k1, k2, k3, k5, h, _⟩ := c.ob
  obtain ⟨hh, g, d, t, os⟩ := s
  refine wpAny_excMatches_sub_self (X _ _ h) he hcl ?_ hq
  rw [List.contains_cons, show bmV.contains (.type "BaseException") = true by decide +kernel, Bool.or_true]
end L2
namespace L2
open PySem PySem.Spec PyProof.Rows Xn PySem.W
end L2
namespace L2
open PySem PySem.Spec PyProof.Rows Xn PySem.W
end L2
namespace Mth
end Mth
namespace L2
open PySem PySem.Spec PySem.Calls PyProof.Rows
theorem atI_end {α : Type} {xs : List α} {x : α} {n : Nat} (hn : xs.length = n + 1) (h : xs[n]? = some x) : atI xs (-1) = some x := by
  have e : xs = xs.take n ++ [x] := by
    have h1 : xs.take (n + 1) = xs := List.take_of_length_le (by omega)
    rw [List.take_add_one, h] at h1
    exact h1.symm
  rw [e]
  exact atI_last _ _
end L2
namespace Mth
end Mth
namespace L2
open PySem PySem.Spec PyProof.Rows
end L2
namespace L2
open PySem PySem.Spec PyProof.Rows W2
end L2
namespace L2
open PySem PySem.Spec PyProof.Rows
end L2
namespace Mth
end Mth
namespace Mth
end Mth
namespace W2
open PySem L2 Mth
end W2
namespace L2
open PySem PySem.Spec PyProof.Rows
end L2
namespace Z3
open PySem PyProof.Rows Zt
end Z3
namespace L2
open PySem PySem.Spec PyProof.Rows Z3
end L2
namespace MinD
open PySem PyProof.Rows
end MinD
namespace L2
open PySem PySem.Spec PyProof.Rows
end L2
namespace W2
open PySem L2 Mth
end W2
namespace Mth
end Mth
namespace L2
open PySem PySem.Spec PyProof.Rows
section
variable {X : Cx} {CX : CXT} {k : Nat} {f : Addr} {fd : FuncData} {ps : List Str} {sp : Sp} {E : XK} {x : Str} {p pos : Pos} {e : Expr} {es : List Expr} {t : TA} {i : Nat}
theorem op_neT (hu : X.A.units + 1 < cLine) : OpR X (compareOp .NotEq) (fun x y H Q => ∃ (a b : Addr) (ns ms : List Int), x = .ref a /\ y = .ref b /\ H a = some (.tup (ns.map V.int)) /\ H b = some (.tup (ms.map V.int)) /\ Q (.bl (!decide (ns = ms))) H) := by
  intro pins s σ H x y v u Q I rx ry h
  obtain ⟨a, b, ns, ms, rfl, rfl, ha, hb, q⟩ := h
  cases rx
  cases ry
  obtain ⟨its, r1, p1, _⟩ := I.tuple (SqT.of ha)
  obtain ⟨its2, r2, p2, _⟩ := I.tuple (SqT.of hb)
  have hi := intsAre_of r1
  have hj := intsAre_of r2
  have e1 := hi.length
  have e2 := hj.length
  have := SeqAt.RcNeAt.tuples (A := X.A) (s := s) (e := fun j => ns.getD j 0 == ms.getD j 0) p1 p2 (Nat.lt_of_succ_lt hu) fun j h1 h2 => by
    obtain ⟨t, et⟩ := hi.int_at j its.toArray[j] (by simp)
    obtain ⟨t', et'⟩ := hj.int_at j its2.toArray[j] (by simp)
    rw [et, et']
    exact SeqAt.EqAt.int_int _ _ _ _
  rw [List.size_toArray, List.size_toArray, e1, e2, all_range_eq] at this
  exact this X.prog X.w _ _ ⟨.bl _, H, I, rfl, q⟩
end
end L2
namespace L2
open PySem
theorem passF {P : Program} {w : World} {X : Cx} : Passes (CXE P w) X E0 := fun _ _ _ _ _ _ _ ⟨_, _, _, _, _, _, _, _, _, _, _, _, _, _, _, _, _, hE⟩ => hE.elim
end L2
namespace L2
open PySem
end L2
namespace Mth
end Mth
namespace Mth
end Mth
namespace L2
open PySem PySem.Spec PyProof.Rows
end L2
namespace Itm
open PySem PyProof.Rows
end Itm
namespace L2
open PySem PySem.Spec PyProof.Rows
end L2
namespace Rev
open PySem PyProof.Rows
end Rev
namespace L2
open PySem PySem.Spec PyProof.Rows
end L2
namespace MinT
open PySem PyProof.Rows
open PySem.SeqAt
open PySem.AutoSeq1 (wpAny_loadPart')
open PySem.MeetsSeq PySem.MeetsSeq2 PySem.MeetsSeq3
end MinT
namespace MinT
end MinT
namespace L2
open PySem PySem.Spec PyProof.Rows
end L2
namespace Mth
end Mth
namespace L2
open PySem PySem.Spec PyProof.Rows
end L2
namespace L2
open PySem PySem.Spec PyProof.Rows
end L2
namespace Mth
end Mth
namespace L2
open PySem PySem.Spec PyProof.Rows
end L2
namespace L2
open PySem PySem.Spec PyProof.Rows
end L2
namespace L2
open PySem PySem.Spec PySem.SeqAt PyProof.Rows
end L2
namespace Mth
end Mth
namespace L2
open PySem PySem.Spec PyProof.Rows
def Its (lo st : Int) (n : Nat) : It := ⟨fun i _ => i < n, fun i H x H' => H' = H /\ x = .int (lo + i * st), fun i _ => n <= i⟩
theorem turn_range3 {c : Bool} (hcm : c = true) {P : Program} {w : World} {K : PySem.W.Frag} {tg : Expr} (it : Addr) (lo st : Int) (n : Nat) : Turn P w K c tg (Its lo st n) [it] it (fun i h => IsRangeIter h it (lo + (i : Nat) * st) ((n : Int) - (i : Nat)) st) where
  mem := by simp
  obj := fun i h st b hb => by
    have e : b = it := by simpa using hb
    subst e
    exact ⟨_, st, fun v z => by
      have z' : Data.fields _ = Data.cell v := z
      cases z'⟩
  keep := fun i h h' st k => k it (by simp) _ st
  item := by
    intro X hP hw hK hkc hc i pins s σ H E I hf st' hg
    subst hP hw hK
    obtain ⟨f0, f1, f2, f3, f4, f5⟩ := hf it (by simp)
    have W := Walks.range (prog := X.prog) (w := X.w) (I.ok.hd.1 (hkc.trans hcm)) it lo st n
    refine W.item i s _ _ hg st' fun v h' tk hv st'' kk => ?_
    obtain ⟨t, rfl⟩ := hv
    have I1 : Inv X pins σ H { s with heap := h', toks := tk } := I.turned (fun b o hb e => kk b o (by simpa using hb) e) f0 f1 f3 f4 f5
    exact ⟨_, rfl, go_of (s := { s with heap := h', toks := tk }) (n := "range_iterator") st'' rfl rfl (by decide) ⟨.int (lo + i * st), H, I1, ⟨t, rfl⟩, ⟨rfl, rfl⟩, st'', fun b hb => (hf b hb).1⟩⟩
  done := by
    intro X hP hw hK hkc hc i pins s σ H E I hf st' hg
    subst hP hw hK
    obtain ⟨f0, f1, f2, f3, f4, f5⟩ := hf it (by simp)
    exact wpAny_pyNext_range_end (I.ok.hd.1 (hkc.trans hcm)) st' (by have : n <= i := hg; omega) fun h' eb => ⟨rfl, I.turned (t' := s.toks) (fun b o hb e => eb b o hb e) f0 f1 f3 f4 f5⟩
  self := fun _ _ _ _ _ st h => wpAny_pyIter_rangeiter st h
section
variable {X : Cx} {tg : Expr}
theorem range_it3 (hcm : X.calm = true) {pins : List (Addr × Obj)} {σ : St} {H : Hp} {s : Shared} {R : It -> Hp -> Prop} {E : Value -> Shared -> Prop} {lo hi st : Int} {n : Nat} {t u v : Tok} {tk : Nat} (I : Inv X pins σ H s) (hs : Builtin.Range.small lo hi st = true) (hn : Builtin.Range.rangeSize lo hi st = (n : Int))
    (q : R (Its lo st n) H) : wpAny (model X.prog X.w) X.A (pyIter (.ref s.heap.objs.size)) (PIE X pins σ tg R) E { s with heap := s.heap.push { cls := .type "range", data := .fields #[.int lo t, .int hi u, .int st v] }, toks := tk } := by
  refine wpAny_pyIter_range (IsRange.new ..) hs ?_
  have I1 : Inv X pins σ H { s with heap := s.heap.push { cls := .type "range", data := .fields #[.int lo t, .int hi u, .int st v] }, toks := tk } := I.kept fun b o e => Heap.get?_push_of_some _ e
  refine ⟨(s.heap.push { cls := .type "range", data := .fields #[.int lo t, .int hi u, .int st v] }).objs.size, [(s.heap.push { cls := .type "range", data := .fields #[.int lo t, .int hi u, .int st v] }).objs.size], _, _, H, rfl,
    I1.kept (t' := tk) fun b o e => Heap.get?_push_of_some _ e, turn_range3 hcm _ lo st n, ?_, fun b hb => ?_, q⟩
  · have e1 : lo + ((0 : Nat) : Int) * st = lo := by simp
    have e2 : ((n : Nat) : Int) - ((0 : Nat) : Int) = Builtin.Range.rangeSize lo hi st := by rw [hn]; omega
    show IsRangeIter _ _ (lo + ((0 : Nat) : Int) * st) (((n : Nat) : Int) - ((0 : Nat) : Int)) st
    rw [e1, e2]
    exact Heap.get?_push_size _ rfl
  · have e : b = (s.heap.push { cls := .type "range", data := .fields #[.int lo t, .int hi u, .int st v] }).objs.size := by simpa using hb
    subst e
    exact I1.fpOk (Nat.le_refl _) (I1.hok.fresh (Nat.le_refl _))
def iRng3 (ta : TA) : TI := fun σ H R => ta σ H fun vs H1 => ∃ (i j k : Int) (n : Nat), vs = [.int i, .int j, .int k] /\ (0 < k /\ k < 1000) /\ Builtin.Range.small i j k = true /\ Builtin.Range.rangeSize i j k = (n : Int) /\ R (Its i k n) H1
theorem pi_range3 {a b c : Expr} {ta : TA} {p pos : Pos} (hg : Gl X "range") (hm : X.mg "range" = none) (ha : PA X [a, b, c] ta) (hs : starEach [a, b, c] X.env = [(false, eval a X.env), (false, eval b X.env), (false, eval c X.env)] := by rfl) (hs2 : starEach [b, c] X.env = [(false, eval b X.env), (false, eval c X.env)] := by rfl) (hcm : X.calm = true := by rfl) :
    PI X tg (.Call (.Name "range" p) [a, b, c] [] pos) (iRng3 ta) := by
  intro pins s σ H R I h
  refine Call_ (ld_blt I hg hm boot_range (PyProof.Rows.callWith_type1 (thn (ha pos pins s σ H _ I h) fun us s1 ⟨vs, H1, I1, r1, q1⟩ => ?_) (by rw [hs, hs2]) (by rw [hs2]; rfl)))
  obtain ⟨i, j, k, n, e, ⟨k0, k1⟩, q1, q2, q⟩ := q1
  subst e
  cases r1 with
  | cons r rr =>
    cases rr with
    | cons r' rr =>
      cases rr with
      | cons r'' rr =>
        cases rr
        obtain ⟨t, rfl⟩ := r
        obtain ⟨t', rfl⟩ := r'
        obtain ⟨t'', rfl⟩ := r''
        exact call_range_3 (by omega) (range_it3 hcm I1 q1 q2 q) (.inl (PyProof.noPylong_small (by omega)))
theorem qi_range3 {a b c : Expr} {ta : TA} {p pos : Pos} (hg : Gl X "range") (hm : X.mg "range" = none) (ha : QA X [a, b, c] ta) (hs : starEach [a, b, c] X.env = [(false, eval a X.env), (false, eval b X.env), (false, eval c X.env)] := by rfl) (hs2 : starEach [b, c] X.env = [(false, eval b X.env), (false, eval c X.env)] := by rfl) (hcm : X.calm = true := by rfl) :
    QI X tg (.Call (.Name "range" p) [a, b, c] [] pos) (iRng3 ta) := ⟨pi_range3 hg hm ha.o hs hs2 hcm⟩
end
theorem for_range3 {lo st : Int} {n : Nat} {g : TG} {tb : TS} {D : Ends} {σ : St} {H : Hp} (Pv : Nat -> St -> Hp -> Prop) (h0 : Pv 0 σ H)
    (hs : ∀ i σ H, i < n -> Pv i σ H -> g (.int (lo + i * st)) σ H fun σ2 H2 => tb { D with nx := Pv (i + 1), ct := Pv (i + 1), bk := D.nx } σ2 H2) (hd : ∀ σ H, Pv n σ H -> D.nx σ H) :
    ∃ W : Nat -> Nat -> St -> Hp -> Prop, (∃ m, W 0 m σ H) /\ ∀ i m σ H, W i m σ H ->
      ((Its lo st n).stop i H /\ D.nx σ H) ∨ ((Its lo st n).go i H /\ ∃ N : St -> Hp -> Prop, (∀ σ' H', N σ' H' -> ∃ m', m' < m /\ W (i + 1) m' σ' H') /\ ∀ x H', (Its lo st n).yld i H x H' -> g x σ H' fun σ2 H2 => tb { D with nx := N, ct := N, bk := D.nx } σ2 H2) := by
  refine ⟨fun i m σ H => m = n - i /\ i <= n /\ Pv i σ H, ⟨_, rfl, Nat.zero_le _, h0⟩, ?_⟩
  rintro i m σ H ⟨rfl, hi, p⟩
  by_cases hlt : i < n
  · refine .inr ⟨hlt, Pv (i + 1), fun σ' H' p' => ⟨n - (i + 1), by omega, rfl, hlt, p'⟩, fun x H' yv => ?_⟩
    obtain ⟨rfl, rfl⟩ := yv
    exact hs i σ H' hlt p
  · have e : i = n := by omega
    exact .inl ⟨by show n <= i; omega, hd σ H (e ▸ p)⟩
end L2
namespace Mth
end Mth
namespace L2
open PySem PySem.Spec PyProof.Rows
end L2
namespace Mth
end Mth
namespace L2
open PySem PySem.Spec PyProof.Rows
namespace HT
end HT
end L2
namespace L2
open PySem PySem.Spec PyProof.Rows
end L2
namespace L2
open PySem PySem.Spec PyProof.Rows
end L2
namespace Enk
open PySem PyProof.Rows
end Enk
namespace L2
open PySem PySem.Spec PyProof.Rows
end L2
namespace Rvl
open PySem PyProof.Rows
end Rvl
namespace L2
open PySem PySem.Spec PyProof.Rows
end L2
namespace Enk
open PySem PyProof.Rows
end Enk
namespace L2
open PySem PySem.Spec PyProof.Rows
end L2
namespace Enk
open PySem PyProof.Rows
end Enk
namespace L2
open PySem PySem.Spec PyProof.Rows
end L2
namespace Mth
end Mth
namespace L2
open PySem PySem.Spec PyProof.Rows
end L2
namespace W2
open PySem L2 Mth
end W2
namespace L2
open PySem PySem.Spec PyProof.Rows
end L2
namespace Mth
end Mth
namespace L2
open PySem PySem.Spec PyProof.Rows
end L2
namespace PySem
end PySem
namespace PySem
end PySem
namespace L2
open PySem PySem.Spec PyProof.Rows W2
end L2
namespace Mth
end Mth
namespace Srt
open PySem PySem.W PyProof.Rows L2
end Srt
namespace W2
open PySem PySem.W L2 Srt
end W2
namespace W2
end W2
namespace L2
open PySem PySem.Spec PyProof.Rows
end L2
namespace Mth
end Mth
namespace Mth
end Mth
namespace W2
open PySem L2 Mth
end W2
namespace L2
open PySem PySem.Spec PyProof.Rows
end L2
namespace L2
open PySem
end L2
namespace Mth
open W2
end Mth
namespace L2
open PySem PySem.Spec PyProof.Rows
end L2
namespace W2
open PySem L2 Mth
end W2
namespace Mth
open W2
end Mth
namespace L2
open PySem PySem.Spec PyProof.Rows
end L2
namespace Mth
open W2
end Mth
namespace Srt
open PySem PySem.W PyProof.Rows
end Srt
namespace L2
open PySem PySem.Spec PyProof.Rows
end L2
namespace Xn
open PySem PyProof.Rows
end Xn
namespace L2
open PySem PySem.Spec PyProof.Rows Xn
end L2
namespace Tpi
open PySem PyProof.Rows
end Tpi
namespace L2
open PySem PySem.Spec PyProof.Rows
end L2
namespace L2
open PySem PySem.Spec PyProof.Rows
end L2
namespace Mth
open W2
end Mth
namespace L2
open PySem PySem.Spec PyProof.Rows
end L2
namespace W2
open PySem L2 Mth
end W2
namespace L2
open PySem PySem.Spec PyProof.Rows W2
end L2
namespace Srt
open PySem PySem.W PyProof.Rows L2
end Srt
namespace W2
open PySem PySem.W L2 Srt
end W2
namespace Mth
open W2
end Mth
namespace L2
open PySem PySem.Spec PyProof.Rows
end L2
namespace W2
open PySem L2 Mth
end W2
namespace Mth
open W2
end Mth
namespace Hnd
open PySem PySem.Spec PyProof.Rows
end Hnd
namespace Mth
open PySem PySem.NumText
end Mth
namespace Rvl
open PySem PyProof.Rows
end Rvl
namespace L2
open PySem PySem.Spec PyProof.Rows W2
end L2
namespace W2
open PySem L2 Mth
end W2
namespace L2
open PySem PySem.Spec PyProof.Rows W2
end L2
namespace Mth
open PySem PySem.NumText
instance (x : List Nat) : Decidable (AllDigits x) := by unfold AllDigits; infer_instance
end Mth
namespace Mth
open PySem PySem.NumText
end Mth
namespace Mth
open PySem PySem.NumText
end Mth
namespace Mth
open W2
end Mth
namespace Mth
open W2
end Mth
namespace Mth
end Mth
namespace Mth
end Mth
namespace Mth
end Mth
namespace Mth
end Mth
namespace Mth
end Mth
namespace Mth
end Mth
namespace Mth
end Mth
namespace Mth
end Mth
namespace Mth
end Mth
namespace Mth
end Mth
namespace L2
open PySem PySem.Spec PyProof.Rows
end L2
namespace L2
open PySem PySem.Spec PyProof.Rows W2
end L2
namespace W2
open PySem L2
end W2
namespace L2
open PySem
end L2
namespace L2
open PySem PySem.Spec PyProof.Rows W2
end L2
namespace L2
open PySem PySem.Spec PyProof.Rows
end L2
namespace L2
open PySem PySem.Spec PyProof.Rows
end L2
namespace Tp
open PySem PyProof.Rows
open AutoSeq1 (wpAny_loadPart')
end Tp
namespace W2
open L2 PySem PySem.Spec PyProof.Rows
end W2
namespace Mth
end Mth
namespace W2
open PySem L2
end W2
namespace Mth
open W2
end Mth
namespace Mth
open W2
end Mth
namespace Sts
open PySem PyProof.Rows
end Sts
namespace Sts
open PySem PyProof.Rows
end Sts
namespace Sts
open PySem PyProof.Rows
end Sts
namespace Sts
open PySem PyProof.Rows
end Sts
namespace Sts
open PySem PyProof.Rows
end Sts
namespace Sts
open PySem PySem.W PyProof.Rows
end Sts
namespace L2
open PySem PySem.Spec PyProof.Rows
end L2
namespace Sds
open PySem PySem.W PyProof.Rows L2
end Sds
namespace L2
open PySem PySem.Spec PyProof.Rows
end L2
namespace L2
open PySem PySem.Spec PyProof.Rows W2
end L2
namespace Mth
end Mth
namespace Mth
open PySem PySem.Spec PyProof.Rows
end Mth
namespace Mth
end Mth
namespace W2
open PySem L2
structure Dd (K : PySem.W.Frag) (R : Addr -> Prop) (m q : Str) (st : Stmt) (ps : List Str) where
  f : Addr
  fd : FuncData
  fn : Fun K m q st f fd
  at_ : R f
  bd : Binds K fd ps []
abbrev DfD (K : PySem.W.Frag) (mg : Str -> Option Value) (x : Str) (st : Stmt) (ps : List Str) := Dd K (fun f => mg x = some (.ref f)) x x st ps
abbrev OkD (P : Program) (w : World) (mg : Str -> Option Value) (base : Heap) (CX : CXT) (k : Nat) {K : PySem.W.Frag} {R : Addr -> Prop} {m q : Str} {st : Stmt} {ps : List Str} (D : Dd K R m q st ps) (sp : Sp) : Prop := FnOk P w K mg base CX k D.f D.fd ps sp
theorem sco {N P : List Str} {sc : Scope} (h : FnScope N P sc := by exact ⟨rfl, rfl, rfl, by decide +kernel, rfl, by decide +kernel, by decide +kernel⟩) : FnScope N P sc := h
section
variable {K : PySem.W.Frag} {mg : Str -> Option Value} {h : Heap} {x m q p p1 p2 p3 p4 : Str} {st : Stmt} {ps : List Str} {C F D f : Addr}
def BD (x q : Str) (st : Stmt) (ps : List Str) : Prop := ∀ (kV doc pm : Value) (an : Option Addr) (cdv ct : Value) (us : List Value), us.length = ps.length -> bindArgs (PySem.W.fnOf x q (defArgs st) (defBody st) (defScope st) .none kV doc pm an cdv ct) ⟨us, []⟩ = pure (ps.zip us)
theorem len0 {us : List Value} (h : us.length = 0) : us = [] := List.length_eq_zero_iff.mp h
theorem lenS {us : List Value} {n : Nat} (h : us.length = n + 1) : ∃ u vs, us = u :: vs /\ vs.length = n := by
  cases us with
  | nil => cases h
  | cons u vs => exact ⟨u, vs, rfl, Nat.succ.inj h⟩
theorem bd1 (h : ∀ (kV doc pm : Value) (an : Option Addr) (cdv ct u : Value), bindArgs (PySem.W.fnOf x q (defArgs st) (defBody st) (defScope st) .none kV doc pm an cdv ct) ⟨[u], []⟩ = pure [(p, u)] := by intros; rfl) : BD x q st [p] := fun kV doc pm an cdv ct us hl => by
  obtain ⟨w0, v0, rfl, h0⟩ := lenS hl
  rw [len0 h0]
  exact h kV doc pm an cdv ct w0
theorem bd2 (h : ∀ (kV doc pm : Value) (an : Option Addr) (cdv ct u u1 : Value), bindArgs (PySem.W.fnOf x q (defArgs st) (defBody st) (defScope st) .none kV doc pm an cdv ct) ⟨[u, u1], []⟩ = pure [(p, u), (p1, u1)] := by intros; rfl) : BD x q st [p, p1] := fun kV doc pm an cdv ct us hl => by
  obtain ⟨w0, v0, rfl, h0⟩ := lenS hl
  obtain ⟨w1, v1, rfl, h1⟩ := lenS h0
  rw [len0 h1]
  exact h kV doc pm an cdv ct w0 w1
theorem bd3 (h : ∀ (kV doc pm : Value) (an : Option Addr) (cdv ct u u1 u2 : Value), bindArgs (PySem.W.fnOf x q (defArgs st) (defBody st) (defScope st) .none kV doc pm an cdv ct) ⟨[u, u1, u2], []⟩ = pure [(p, u), (p1, u1), (p2, u2)] := by intros; rfl) : BD x q st [p, p1, p2] := fun kV doc pm an cdv ct us hl => by
  obtain ⟨w0, v0, rfl, h0⟩ := lenS hl
  obtain ⟨w1, v1, rfl, h1⟩ := lenS h0
  obtain ⟨w2, v2, rfl, h2⟩ := lenS h1
  rw [len0 h2]
  exact h kV doc pm an cdv ct w0 w1 w2
def GA (K : PySem.W.Frag) (x : Str) (st : Stmt) : Prop := ∃ f fd, PySem.W.nsIn K mainGlobals x = some (some (.ref f)) /\ Fun K x x st f fd
theorem GA.mk {oc : Value} {od an : Option Addr} {sl : Array (Option Value)} {kV doc pm cd ct : Value} (a : PySem.W.nsIn K mainGlobals x = some (some (.ref f))) (l : K.lookup f = some ⟨oc, od, .func (PySem.W.fnOf x x (defArgs st) (defBody st) (defScope st) .none kV doc pm an cd ct), sl⟩)
    (c : PySem.W.codeIn K cd x = true) (k : PySem.W.keepIn K (.ref f) = true) : GA K x st := ⟨f, _, a, fun_mk l c k⟩
noncomputable def GA.dd (g : GA K x st) (X : K.In h) (G : h.Ns mainGlobals mg) (b : BD x x st ps) : DfD K mg x st ps :=
  Classical.choice (let ⟨f, fd, a, F⟩ := g; ⟨⟨f, fd, F, PySem.W.mg_of X G a, F.binds b⟩⟩)
def MA (K : PySem.W.Frag) (C : Addr) (m q : Str) (st : Stmt) : Prop := ∃ f fd, PySem.W.findIn K (.ref C) m = some (some (.ref f)) /\ Fun K m q st f fd /\ PySem.W.isFn K (.ref f) = true
theorem MA.mk {oc : Value} {od an : Option Addr} {sl : Array (Option Value)} {kV doc pm cd ct : Value} (a : PySem.W.findIn K (.ref C) m = some (some (.ref f))) (l : K.lookup f = some ⟨oc, od, .func (PySem.W.fnOf m q (defArgs st) (defBody st) (defScope st) .none kV doc pm an cd ct), sl⟩)
    (c : PySem.W.codeIn K cd q = true) (k : PySem.W.keepIn K (.ref f) = true) (i : PySem.W.isFn K (.ref f) = true) : MA K C m q st := ⟨f, _, a, fun_mk l c k, i⟩
structure XA (K : PySem.W.Frag) (C F : Addr) : Prop where
  e : PySem.W.excIn K C bmV "ValueError.__new__" = true
  u : PySem.W.mroIn K C (.ref F) = some true
  ne : C ≠ F
  x2 : PySem.W.findIn K (.ref C) "__getattribute__" = some (some (.builtin "BaseException.__getattribute__"))
  x3 : PySem.W.findIn K (.ref C) "__getattr__" = some none
  x4 : PySem.W.findIn K (.ref C) "__class__" = some (some (.builtin "object.__class__"))
  y1 : PySem.W.specialIn K (.builtin "object.__class__") "__get__" = some (some (.builtin "getset_descriptor.__get__"))
  y2 : PySem.W.takesIn K (.builtin "object.__class__") = some true
  x5 : PySem.W.mroIn K C (.type "object") = some true
  x6 : PySem.W.mroIn K C (.type "BaseException") = some true
  v : PySem.W.mroIn K C (.type "ValueError") = some true
theorem XA.un (a : XA K C F) : Under K C F := ⟨a.e, a.u, a.ne⟩
theorem XA.xc (a : XA K C F) : PySem.W.XcIs K C := ⟨PySem.W.cls_of_mro a.x5, a.x2, a.x3, a.x4, a.y1, a.y2, a.x5, a.x6⟩
structure QF (K : PySem.W.Frag) (C D : Addr) : Prop where
  m : PySem.W.mroIn K C (.ref D) = some false
  n : C ≠ D
  ty : PySem.W.typeIn K (.ref D) = some (.type "type")
  mo : PySem.W.mroIn K D (.type "object") = some true
theorem QF.k (a : QF K C D) : PySem.W.kitOne K (.ref C) (.ref D) = some false := PySem.W.kit_false a.ty a.mo a.m a.n
def KF (K : PySem.W.Frag) (C D : Addr) (b : Bool) : Prop := PySem.W.kitOne K (.ref C) (.ref D) = some b
end
end W2
namespace L2
open PySem PySem.Spec PyProof.Rows
section
variable {X : Cx} {CX : CXT} {k k' : Nat} {R : Addr -> Prop} {m q : Str} {st : Stmt} {ps : List Str} {sp : Sp} {E : XK} {x : Str} {p pos : Pos} {e : Expr} {es : List Expr} {t : TA}
theorem qe_cD {D : W2.Dd X.K (fun f => X.mg x = some (.ref f)) m q st ps} (F : FnOk X.prog X.w X.K X.mg X.base CX k D.f D.fd ps sp) (hr : Room k' X.A) (hx : Passes CX X E) (ha : QA X (e :: es) t) (hg : Gl X x := by rfl) (hk : k <= k' := by decide) (hdb : (x == ("__debug__" : Str)) = false := by decide) (he : starEach (e :: es) X.env = (false, eval e X.env) :: starEach es X.env := by rfl) (hpl : (backTo pos (starEach es X.env)).any (·.1) = false := by rfl) : QE X (.Call (.Name x p) (e :: es) [] pos) (tCall sp [] E t) :=
  qe_call F (hr.mono hk) hg D.at_ D.fn.kp D.bd .nil hx ha hdb he hpl
theorem qs_sS {P : List Str} {sc : Scope} {x : Str} {e : Expr} {te : TE} {pos pos' : Pos} (i : Nat) (S : FnScope X.N P sc) (he : QE X e te) (hi : X.N[i]? = some x := by rfl) (hx : Loc X.env.scope x := by exact Or.inl rfl) (hs : swapsWith e (some (.Name x pos')) pos.line X.env = pure false := by rfl) (hf : X.fn x = true ∨ X.env.scope.names.lookup x = some .local := by first | exact .inl rfl | exact .inr rfl | assumption) : QS X (.Assign [.Name x pos'] e pos) (tAsg te (gName i)) :=
  qs_set S.nd hi hx he hs hf
theorem qg_nS {P : List Str} {sc : Scope} {x : Str} {pos : Pos} (i : Nat) (S : FnScope X.N P sc) (hi : X.N[i]? = some x := by rfl) (hx : Loc X.env.scope x := by exact Or.inl rfl) (hf : X.fn x = true ∨ X.env.scope.names.lookup x = some .local := by first | exact .inl rfl | exact .inr rfl | assumption) : QG X (.Name x pos) (gName i) :=
  qg_name S.nd hi hx hf
theorem qe_cB {r : List V -> Hp -> VK -> Prop} {id : String} (hc : CallR X (.builtin id) r) (hm : X.mg x = none) (hv : bootBuiltins x = some (.builtin id)) (ha : QA X (e :: es) t) (hg : Gl X x := by rfl) (hn : x ≠ "__name__" := by decide) (hdb : (x == ("__debug__" : Str)) = false := by decide) (he : starEach (e :: es) X.env = (false, eval e X.env) :: starEach es X.env := by rfl) (hpl : (backTo pos (starEach es X.env)).any (·.1) = false := by rfl) : QE X (.Call (.Name x p) (e :: es) [] pos) (tCB r t) :=
  qe_callB hc hg hm hv ha hn hdb he hpl
theorem qe_cT {r : List V -> Hp -> VK -> Prop} {T : String} (hc : CallR X (.type T) r) (hm : X.mg x = none) (hv : bootBuiltins x = some (.type T)) (ha : QA X (e :: es) t) (hg : Gl X x := by rfl) (hn : x ≠ "__name__" := by decide) (hdb : (x == ("__debug__" : Str)) = false := by decide) (he : starEach (e :: es) X.env = (false, eval e X.env) :: starEach es X.env := by rfl) (hpl : (backTo pos (starEach es X.env)).any (·.1) = false := by rfl) : QE X (.Call (.Name x p) (e :: es) [] pos) (tCB r t) :=
  qe_callTy hc hg hm hv ha hn hdb he hpl
theorem qg_c0 {x : Str} {pos : Pos} (hN : decide X.N.Nodup = true := by kernel_rfl) (hi : X.N[0]? = some x := by rfl) (hx : Loc X.env.scope x := by exact Or.inl rfl) (hf : X.fn x = true ∨ X.env.scope.names.lookup x = some .local := by exact Or.inr rfl) : QG X (.Name x pos) (gName 0) :=
  qg_name (of_decide_eq_true hN) hi hx hf
theorem cok {sc : Scope} {cl : List (Str × Addr)} {N XN P : List Str} {js : List (Option Nat)} {osc : Scope} (_ : FnScope XN P osc) (hsub : ∀ p ∈ cl, X.env.cells.lookup p.1 = some p.2) (ho : X.env.scope = osc := by exact rfl) (clos : closureFor sc X.env = pure cl := by exact rfl) (hk : cl.map (·.1) = ksOf sc := by exact rfl) (chk : compChk sc osc N XN js = true := by decide +kernel) (hN : X.N = XN := by exact rfl) : CompOk X sc cl N js :=
  compOk_of ho clos hk hsub chk hN
end
theorem szl {n : Nat} (h : Nat.ble n 16777216 = true := by rfl) : n <= sizeLine := by rw [sizeLine_eq]; exact Nat.le_of_ble_eq_true h
end L2
namespace L2
open PySem PySem.Spec PyProof.Rows PyProof.Rows.KTD W2
end L2
namespace Mth
end Mth
namespace L2
open PySem PySem.Spec PyProof.Rows W2
end L2
namespace Mth
end Mth
namespace Mth
open W2
end Mth
namespace L2
open PySem PySem.Spec PyProof.Rows Xn W2
def cdO (c : Addr) (q : Str) : HO := .ext fun h => h.CodeRec (.ref c) q
def fnO (f : Addr) (o : Obj) : HO := .ext fun h => h.get? f = some o
theorem cdO_ok {P : Program} {w : World} {H : Hp} {h : Heap} {c : Addr} {q : Str} (x : h.CodeRec (.ref c) q) : ObjOk P w H h c (cdO c q) := by
  refine ⟨x, ?_, fun h1 h2 y k => ?_⟩
  · obtain ⟨c', o, vs, t, e, g, _⟩ := x
    cases e
    exact ⟨o, g⟩
  · obtain ⟨c', o, vs, t, e, g, r⟩ := y
    cases e
    exact ⟨c, o, vs, t, rfl, k _ g, r⟩
theorem fnO_ok {P : Program} {w : World} {H : Hp} {h : Heap} {f : Addr} {o : Obj} (x : h.get? f = some o) : ObjOk P w H h f (fnO f o) := ⟨x, ⟨o, x⟩, fun h1 h2 y k => k _ y⟩
structure TabOk (H : Hp) (P : Addr) (q : Str) (ps : Array Value) : Prop where
  at_ : H P = some (.tbl ps)
  tri : TriplesOk ps.toList
  cds : ∀ pos cv, codeAmong pos ps.toList = some cv -> ∃ c, cv = .ref c /\ H c = some (cdO c q)
def Tab (H : Hp) (P : Addr) (q : Str) : Prop := ∃ ps, TabOk H P q ps
theorem Tab.same {H H' : Hp} {P : Addr} {q : Str} (t : Tab H P q) (s : Same H H') : Tab H' P q := by
  obtain ⟨ps, a, b, c⟩ := t
  exact ⟨ps, s _ _ a, b, fun pos cv e => let ⟨x, h1, h2⟩ := c pos cv e; ⟨x, h1, s _ _ h2⟩⟩
theorem Tab.but {H H' : Hp} {P a : Addr} {q : Str} {xs : List V} (t : Tab H P q) (ha : H a = some (.lst xs)) (s : But a H H') : Tab H' P q := by
  obtain ⟨ps, h1, b, c⟩ := t
  refine ⟨ps, s _ _ (ne_of h1 ha (by intro z; cases z)) h1, b, fun pos cv e => ?_⟩
  obtain ⟨x, h1, h2⟩ := c pos cv e
  exact ⟨x, h1, s _ _ (ne_of h2 ha (by intro z; cases z)) h2⟩
theorem codeAmong_any {p : Pos} {a b : Int} {c cv : Value} (l : List Value) (h : TriplesOk l) (hn : codeAmong p l = none) (he : codeAmong p (l ++ [rawInt a, rawInt b, c]) = some cv) : cv = c := by
  fun_induction TriplesOk l
  · simp only [List.nil_append, codeAmong, rawInt] at he
    split at he
    · cases he
      rfl
    · cases he
  · next ih =>
    simp only [List.cons_append, codeAmong] at hn he
    split at hn
    · cases hn
    · next hc =>
      rw [if_neg hc] at he
      exact ih h hn he
  · exact h.elim
theorem codeAmong_pre {p : Pos} {cv : Value} {r : List Value} (l : List Value) (h : TriplesOk l) (e : codeAmong p l = some cv) : codeAmong p (l ++ r) = some cv := by
  fun_induction TriplesOk l
  · simp [codeAmong] at e
  · next ih =>
    simp only [List.cons_append, codeAmong] at e ⊢
    split at e
    · next hc =>
      rw [if_pos hc]
      exact e
    · next hc =>
      rw [if_neg hc]
      exact ih h e
  · exact h.elim
def BltAt (base : Heap) (mg : Str -> Option Value) : Prop :=
  ∃ bm ob, mg "__builtins__" = some (.ref bm) /\ bm ≠ builtinsNs /\ base.get? bm = some ob /\ ob.cls = .type "module" /\ ob.dict = some builtinsNs /\ ob.data = .plain
abbrev lamO (mg : Str -> Option Value) (qual : Str) (params : Arguments) (body : Expr) (scope : Scope) (clos : List (Str × Addr)) (c : Addr) (ctv : Value) : Obj :=
  PySem.W.kla_obj "<lambda>" qual params body scope clos ((mg "__name__").getD .none) c ctv
def tLam (P : Addr) (mg : Str -> Option Value) (qual : Str) (params : Arguments) (body : Expr) (scope : Scope) (clos : List (Str × Addr)) : TE := fun _ H Q =>
  Tab H P qual /\ ∀ f c ctv H', But P H H' -> Tab H' P qual -> H f = none -> H' f = some (fnO f (lamO mg qual params body scope clos c ctv)) -> H' c = some (cdO c qual) -> Q (.ref f) H'
theorem qe_lam {X : Cx} {c P : Addr} {qual : Str} {params : Arguments} {body : Expr} {scope : Scope} {clos : List (Str × Addr)} {pos : Pos}
    (hcode : X.env.code = .ref c) (C : PySem.W.CodeHd X.base c P) (B : BltAt X.base X.mg) (hcl : closureFor scope X.env = pure clos) (hdef : defaultsOf params X.env = ([], [])) (hq : X.env.qual ++ "<lambda>" = qual) :
    QE X (.Lambda params body scope pos) (tLam P X.mg qual params body scope clos) := ⟨by
  intro pins s σ H Q I h
  obtain ⟨⟨ps, t⟩, h⟩ := h
  refine PySem.W.kla_eval hdef ?_
  rw [hq]
  have hP : s.heap.get? P = some (PySem.W.tabObj ps) := I.hok P _ t.at_
  have hg : s.heap.Ns mainGlobals X.mg := I.mod.glob.keeps I.bk
  have hgP : mainGlobals ≠ P := fun q => by
    obtain ⟨o, es, ep, e, hd, _⟩ := hg
    rw [q, hP] at e
    cases e
    cases hd
  have hB : s.heap.BuiltinsAt X.mg P := by
    obtain ⟨bm, ob, b1, b2, b3, b4, b5, b6⟩ := B
    refine ⟨bm, ob, b1, b2, fun q => ?_, fun q => ?_, I.bk _ _ b3, b4, b5, b6⟩
    · obtain ⟨o, es, ep, e, hd, _⟩ := hg
      have := I.bk _ _ b3
      rw [q, e] at this
      cases this
      rw [hd] at b6
      cases b6
    · have := I.bk _ _ b3
      rw [q, hP] at this
      cases this
      cases b4
  cases hc : codeAmong pos ps.toList with
  | none =>
    refine PySem.W.kla_makeFunction (mg := X.mg) hcl I.ok.glob hg hcode (C.keeps I.bk) hP t.tri hc hgP hB fun c' ctv h' tk hx hge hlt hrec htb => ?_
    have fc : H c' = none := I.hok.fresh hge
    have hsz : s.heap.objs.size <= h'.objs.size := Nat.le_of_lt (Nat.lt_of_le_of_lt hge hlt)
    have ff : H h'.objs.size = none := I.hok.fresh hsz
    have nPc : P ≠ c' := ne_of_none t.at_ fc
    have nPf : P ≠ h'.objs.size := ne_of_none t.at_ ff
    have ncf : c' ≠ h'.objs.size := Nat.ne_of_lt hlt
    have k1 : ∀ b o, b ≠ P -> s.heap.get? b = some o -> (h'.push (lamO X.mg qual params body scope clos c' ctv)).get? b = some o := fun b o n e => Heap.get?_push_of_some _ (hx b o n e)
    obtain ⟨ps', eps⟩ : ∃ ps', ps' = ps ++ #[rawInt pos.line, rawInt pos.col, .ref c'] := ⟨_, rfl⟩
    rw [← eps] at htb
    obtain ⟨H', eH⟩ : ∃ H', H' = upd (upd (upd H P (.tbl ps')) c' (cdO c' qual)) h'.objs.size (fnO h'.objs.size (lamO X.mg qual params body scope clos c' ctv)) := ⟨_, rfl⟩
    have atF : H' h'.objs.size = some (fnO h'.objs.size (lamO X.mg qual params body scope clos c' ctv)) := by rw [eH]; exact upd_same
    have atC : H' c' = some (cdO c' qual) := by rw [eH, upd_ne ncf]; exact upd_same
    have atP : H' P = some (.tbl ps') := by rw [eH, upd_ne nPf, upd_ne nPc]; exact upd_same
    have oth : ∀ b, b ≠ P -> b ≠ c' -> b ≠ h'.objs.size -> H' b = H b := fun b n1 n2 n3 => by rw [eH, upd_ne n3, upd_ne n2, upd_ne n1]
    have bt : But P H H' := fun b o n e => by rw [oth b n (ne_of_none e fc) (ne_of_none e ff)]; exact e
    have J : Inv X pins σ H' { s with heap := h'.push (lamO X.mg qual params body scope clos c' ctv), toks := tk } := by
      refine I.un (t' := tk) ⟨fun b o e n _ _ => k1 b o (fun z => by rw [z, t.at_] at n; cases n) e, fun b o e n _ _ => ⟨o.slots, k1 b o (fun z => by rw [z, t.at_] at n; cases n) e⟩, fun b o e n _ => ?_, fun b o e _ => ?_, fun b xs e => bt b _ (ne_of e t.at_ (by intro z; cases z)) e, fun b o u e => bt b _ (ne_of e t.at_ (by intro z; cases z)) e, fun b qs e => ?_⟩ (fun a o e => ?_)
      · rw [oth b (fun z => by rw [z, t.at_] at n; cases n) (Nat.ne_of_lt (Nat.lt_of_lt_of_le (Heap.lt_size e) hge)) (Nat.ne_of_lt (Nat.lt_of_lt_of_le (Heap.lt_size e) hsz))]
        exact n
      · by_cases hb : b = P
        · exact ⟨_, by rw [hb]; exact Heap.get?_push_of_some _ htb⟩
        · exact ⟨_, k1 b o hb e⟩
      · by_cases hb : b = P
        · rw [hb] at e ⊢
          rw [t.at_] at e
          cases e
          exact ⟨#[rawInt pos.line, rawInt pos.col, .ref c'], by rw [atP, eps]⟩
        · exact ⟨#[], by rw [bt b _ hb e]; simp⟩
      · by_cases h1 : a = h'.objs.size
        · rw [h1, atF] at e
          cases e
          rw [h1]
          exact fnO_ok (Heap.get?_push_size _ rfl)
        by_cases h2 : a = c'
        · rw [h2, atC] at e
          cases e
          rw [h2]
          exact cdO_ok (hrec.push _)
        by_cases h3 : a = P
        · rw [h3, atP] at e
          cases e
          rw [h3]
          exact Heap.get?_push_of_some _ htb
        · rw [oth a h3 h2 h1] at e
          refine (I.hok a o e).stay (fun b u hb r => k1 b u (fun z => ?_) r) (fun b r => bt b _ (ne_of r t.at_ (by intro z; cases z)) r) fun b xs r => bt b _ (ne_of r t.at_ (by intro z; cases z)) r
          rcases hb with hb | hb
          · exact h3 (hb.symm.trans z)
          · rw [z, t.at_] at hb
            cases hb
    refine ⟨.ref h'.objs.size, H', J, rfl, h _ c' ctv H' bt ⟨ps', atP, ?_, fun p cv e => ?_⟩ ff atF atC⟩
    · rw [eps, Array.toList_append]
      exact TriplesOk_snoc _ _ _ _ t.tri
    · rw [eps, Array.toList_append] at e
      by_cases hp : codeAmong p ps.toList = none
      · have := codeAmong_any ps.toList t.tri hp e
        exact ⟨c', this, atC⟩
      · obtain ⟨cv', e'⟩ := Option.ne_none_iff_exists'.mp hp
        rw [codeAmong_pre ps.toList t.tri e'] at e
        cases e
        obtain ⟨x, h1, h2⟩ := t.cds p _ e'
        exact ⟨x, h1, bt _ _ (ne_of h2 t.at_ (by intro z; cases z)) h2⟩
  | some cv =>
    obtain ⟨c', rfl, hc'⟩ := t.cds pos cv hc
    refine PySem.W.kla_makeFunctionHit (mg := X.mg) hcl I.ok.glob hg hcode (C.keeps I.bk) hP t.tri hc hB fun ctv h' tk hk hsz => ?_
    have ff : H h'.objs.size = none := I.hok.fresh hsz
    have s1 : Same H (upd H h'.objs.size (fnO h'.objs.size (lamO X.mg qual params body scope clos c' ctv))) := fun b o e => by rw [upd_ne (ne_of_none e ff)]; exact e
    refine ⟨.ref h'.objs.size, _, I.laid (o := fnO h'.objs.size (lamO X.mg qual params body scope clos c' ctv)) (t' := tk) (fun b o e => Heap.get?_push_of_some _ (hk b o e)) hsz (fnO_ok (Heap.get?_push_size _ rfl)), rfl, h _ c' ctv _ (But.of s1) (Tab.same ⟨ps, t⟩ s1) ff upd_same (s1 _ _ hc')⟩⟩
def Tups (H H' : Hp) : Prop := ∀ b xs, H b = some (.tup xs) -> H' b = some (.tup xs)
theorem Tups.of {H H' : Hp} (s : Same H H') : Tups H H' := fun b xs h => s _ _ h
theorem Tups.trans {H H1 H2 : Hp} (x : Tups H H1) (y : Tups H1 H2) : Tups H H2 := fun b xs h => y _ _ (x _ _ h)
theorem Tab.ne {H : Hp} {P b : Addr} {q : Str} {o : HO} (t : Tab H P q) (h : H b = some o) (n : ∀ ps, o ≠ .tbl ps) : b ≠ P := by
  obtain ⟨ps, e, _⟩ := t
  exact ne_of h e (n ps)
theorem Tab.tups {H H' : Hp} {P : Addr} {q : Str} (t : Tab H P q) (b : But P H H') : Tups H H' := fun c xs h => b _ _ (t.ne h fun ps z => by cases z) h
theorem Tab.sq {K : PySem.W.Frag} {H H' : Hp} {P a : Addr} {q : Str} {xs : List V} (t : Tab H P q) (b : But P H H') (hS : SqL K H a xs) : SqL K H' a xs := by
  rcases hS with (h | ⟨u, h⟩) | h
  · exact .inl (.inl (b _ _ (t.ne h fun ps z => by cases z) h))
  · exact .inl (.inr ⟨u, b _ _ (t.ne h fun ps z => by cases z) h⟩)
  · exact .inr h
end L2
namespace L2
open PySem PySem.Spec PyProof.Rows Xn W2
def cxLam (CX : CXT) (P : Program) (w : World) (K : PySem.W.Frag) (mg : Str -> Option Value) (base : Heap) (N : List Str) (qual : Str) (scope : Scope) (f : Addr) (cd : Value) (cl : List (Str × Addr)) (A : Around) (outer : List Env) (s : Shared) (H : Hp) (E : XK) : Cx where
  prog := P
  w := w
  K := K
  mg := mg
  base := base
  A := A.deeper (PySem.W.envX qual scope s.heap.objs.size f cd cl)
  N := N
  s₀ := s
  H₀ := H
  env := PySem.W.envX qual scope s.heap.objs.size f cd cl
  outer := outer
  stack := PySem.W.envX qual scope s.heap.objs.size f cd cl :: outer
  ex := []
  calm := true
  warm := true
  fn := fun _ => false
  pn := []
  xe := fun e s' => wpAny (model P w) (A.deeper (PySem.W.envX qual scope s.heap.objs.size f cd cl)) (leaving (PySem.W.envX qual scope s.heap.objs.size f cd cl) e) (fun _ s'' => CX outer H s E e s'') (fun e' s'' => CX outer H s E e' s'') s'
structure LamIn (base : Heap) (scope : Scope) (clos : List (Str × Addr)) (N : List Str) (vs : List V) : Prop where
  inj : ∀ x y c, clos.lookup x = some c -> clos.lookup y = some c -> x = y
  has : ∀ x, (scope.names.lookup x = some .cell ∨ scope.names.lookup x = some .free) -> ∃ c, clos.lookup x = some c
  cell : ∀ x c, clos.lookup x = some c -> ∃ v, base.IsCell c v
  look : ∀ (i : Nat) x v, N[i]? = some x -> vs[i]? = some v -> scope.names.lookup x = some .free /\ ∃ c u, clos.lookup x = some c /\ base.IsCell c (some u) /\ RelV v u
  len : vs.length = N.length
theorem inv_lam {CX : CXT} {P : Program} {w : World} {K : PySem.W.Frag} {mg : Str -> Option Value} {base : Heap} {N : List Str} {qual : Str} {scope : Scope} {f : Addr} {cd : Value} {cl : List (Str × Addr)} {A : Around} {outer : List Env} {s : Shared} {H : Hp} {E : XK} {vs : List V} {h₁ : Heap} {tk : Nat} {m : Str -> Option Value}
    (hk : scope.kind = .function) (L : LamIn base scope cl N vs) (hd : A.handled = none) (e0 : Env0 P w K mg base A outer s H) (hns : h₁.Ns s.heap.objs.size m) (k : ∀ b o, s.heap.get? b = some o -> h₁.get? b = some o) :
    Inv (cxLam CX P w K mg base N qual scope f cd cl A outer s H E) [] (vs.map some) H { s with heap := h₁, toks := tk } := by
  have noA : ∀ b : Addr, b ∉ (cxLam CX P w K mg base N qual scope f cd cl A outer s H E).ex := fun b z => absurd (show b ∈ ([] : List Addr) from z) (by simp)
  have ce : ∀ {c : Addr} {v : Option Value}, base.IsCell c v -> h₁.IsCell c v /\ H c = none := fun {c v} ⟨o, e, d⟩ => ⟨⟨o, k _ _ (e0.bs _ _ e).1, d⟩, (e0.bs _ _ e).2⟩
  refine ⟨⟨e0.mod, hk, rfl, rfl, Nat.le_refl _, L.inj, L.has, fun y c z _ => Bool.noConfusion z, ⟨fun _ => hd, fun _ => .inl hd⟩, Around.frames_deeper e0.frames, .inr ⟨rfl, rfl⟩, fun b z => absurd z (noA b), e0.bs, e0.bsz, fun b _ _ => noA b, fun b z => absurd z (noA b), e0.funs, e0.frf⟩,
    rfl, e0.bare, Un.kept k, ⟨_, hns, fun i y v h1 h2 h3 => ?_⟩, fun y c h => ?_, e0.hok.fresh (Nat.le_refl _), fun y c h => ?_, fun p hp => absurd (show p ∈ ([] : List (Addr × Obj)) from hp) (by simp), e0.hok.kept k, ?_⟩
  · rw [List.getElem?_map] at h2
    cases e : vs[i]? with
    | none => rw [e] at h2; cases h2
    | some a =>
      rw [e] at h2
      cases h2
      obtain ⟨kf, c, u, h1, h2, h3⟩ := L.look i y _ h1 e
      exact ⟨u, h3, .inr ⟨.inr kf, c, h1, (ce h2).1⟩⟩
  · obtain ⟨v, hv⟩ := L.cell y c h
    exact ⟨v, (ce hv).1⟩
  · obtain ⟨v, hv⟩ := L.cell y c h
    exact (ce hv).2
  · rw [List.length_map]
    exact L.len
theorem fn_lam {CX : CXT} {P : Program} {w : World} {K : PySem.W.Frag} {mg : Str -> Option Value} {base : Heap} {k : Nat} {f c : Addr} {qual : Str} {params : Arguments} {body : Expr} {scope : Scope} {cl : List (Str × Addr)} {ctv : Value} {N : List Str} {vs0 : List V} {sp : Sp}
    (hk : scope.kind = .function) (hco : scope.isCoroutine = false) (hgen : scope.isGenerator = false) (hcell : ∀ x ∈ scope.names, x.2 ≠ .cell) (L : LamIn base scope cl N vs0)
    (hsp : ∀ vs H Q E, sp vs H Q E -> vs = [] /\ H f = some (fnO f (lamO mg qual params body scope cl c ctv)) /\ H c = some (cdO c qual))
    (hbody : ∀ (A : Around) (outer : List Env) (s : Shared) (H : Hp) (vs : List V) (Q : VK) (E : XK), Room k (A.deeper (PySem.W.envX qual scope s.heap.objs.size f (.ref c) cl)) -> sp vs H Q E ->
      ∃ t, QE (cxLam CX P w K mg base N qual scope f (.ref c) cl A outer s H E) body t /\ t (vs0.map some) H Q) :
    FnOk P w K mg base CX (k + 1) f (PySem.W.kla_fn "<lambda>" qual params body scope cl ((mg "__name__").getD .none) (.ref c) ctv) [] sp := by
  refine ⟨fun vs H Q E h => by rw [(hsp _ _ _ _ h).1]; rfl, fun A outer s H args us vs Q E hr e0 hb r h => ?_⟩
  obtain ⟨rfl, hf, hc⟩ := hsp _ _ _ _ h
  have ho : s.heap.get? f = some (lamO mg qual params body scope cl c ctv) := (e0.hok f _ hf).1
  have hcd : s.heap.CodeRec (.ref c) qual := (e0.hok c _ hc).1
  have lim : s.heap.NoLimit := e0.mod.nolimit.keeps fun b o e => (e0.bs b o e).1
  refine PySem.W.kla_callFunE hr.depth ho rfl hco hgen rfl hcd (hb _ _ _ _ ?_)
  refine wpAny_newFunctionEnv hcell (fun x hx => absurd (show x ∈ ([] : List (Str × Value)) from hx) (by simp)) (fun h₁ hns hsb => ?_) hk
  have hk₁ : ∀ b o, s.heap.get? b = some o -> h₁.get? b = some o := fun b o e => hsb.extBut b o (Nat.ne_of_lt (Heap.lt_size e)) (Heap.get?_push_of_some _ e)
  refine ⟨lim.keeps hk₁, ?_⟩
  show codeAny _ _ (.expr body (PySem.W.envX qual scope s.heap.objs.size f (.ref c) cl)) _ _
  obtain ⟨t, ht, q⟩ := hbody A outer s H [] Q E (hr.deeper _) h
  refine PySem.W.kla_codeExpr (wpAny_mono (ht.o [] _ _ H Q (inv_lam hk L hr.hd e0 hns hk₁) q) (fun u s' hs => ?_) fun e s' hs => hs)
  obtain ⟨v, H', J, rv, q⟩ := hs
  exact ⟨v, H', J.os, J.bare, J.base, J.hok, rv, q⟩
theorem xok_lam {P : Program} {w : World} {K : PySem.W.Frag} {mg : Str -> Option Value} {base : Heap} {N : List Str} {qual : Str} {scope : Scope} {f : Addr} {cd : Value} {cl : List (Str × Addr)} {A : Around} {outer : List Env} {s0 : Shared} {H0 : Hp} {E : XK} :
    Xok (cxLam (CXE P w) P w K mg base N qual scope f cd cl A outer s0 H0 E) E := by
  intro pins σ H s e C d head hl I fe He hr hh hhl hE
  show wpAny (model P w) (A.deeper (PySem.W.envX qual scope s0.heap.objs.size f cd cl)) (leaving (PySem.W.envX qual scope s0.heap.objs.size f cd cl) (.ref e)) _ _ s
  have hfs : ∀ b ∈ fra (PySem.W.envX qual scope s0.heap.objs.size f cd cl :: outer), H b = none := I.stkFree
  refine leave (base := base) I.ok.frames I.stack rfl hr hh fun h' T hT nTe kb r1 t1 => ⟨e, T, C, d, H, rfl, I.os, I.bare, ?_, ?_, fe.s0, (Fresh.of I rfl hT).s0, nTe, He, I.hok.gone hT, r1, t1, hE⟩
  · refine (show Un (frs outer) [] H0 H s0.heap s.heap from I.base).keptBut kb (fun b hb => ?_) (fun b hb => ?_)
    · rcases List.mem_cons.mp hb with z | z
      · rw [z]; exact fe.s0
      · exact (hhl b z).1.s0
    · rcases List.mem_cons.mp (show b ∈ s0.heap.objs.size :: frs outer from hb) with z | z
      · refine .inr ?_
        cases q : s0.heap.get? b with
        | none => rfl
        | some o => have := Heap.lt_size q; rw [z] at this; exact absurd this (Nat.lt_irrefl _)
      · exact .inl z
  · refine I.hok.keptBut kb (fun b hb => ?_) hfs
    rcases List.mem_cons.mp hb with z | z
    · rw [z]; exact He
    · exact (hhl b z).2
def wide (s : Shared) (H : Hp) (stk : List Env) : Heap := PySem.W.hideAll (hidT s.heap H) (frs stk)
section
variable {X : Cx} {pins : List (Addr × Obj)} {σ : St} {H : Hp} {s : Shared}
theorem wide_get {b : Addr} {o : Obj} {stk : List Env} (e : s.heap.get? b = some o) (n : H b = none) (hb : b ∉ frs stk) : (wide s H stk).get? b = some o := PySem.W.hideAll_get _ (hidT_get e n) hb
theorem of_wide {b : Addr} {o : Obj} {stk : List Env} (e : (wide s H stk).get? b = some o) : s.heap.get? b = some o /\ H b = none := of_hidT (PySem.W.of_hideAll _ e)
theorem wide_up (I : Inv X pins σ H s) : ∀ b o, X.base.get? b = some o -> (wide s H X.stack).get? b = some o := fun b o e => by
  obtain ⟨h1, h2⟩ := I.bs b o e
  refine wide_get h1 h2 fun hb => ?_
  have := (I.stack.mem hb).1
  rw [e] at this
  cases this
theorem wide_env (I : Inv X pins σ H s) : Env0 X.prog X.w X.K X.mg (wide s H X.stack) X.A X.stack s H := by
  have up := wide_up I
  have all : ∀ l : List Env, (∀ b ∈ frs l, b ∈ frs X.stack) -> s.heap.FunFrames X.base l -> s.heap.FunFrames (wide s H X.stack) l := by
    intro l
    induction l with
    | nil => intro _ _; trivial
    | cons env r ih =>
      intro hs hl
      obtain ⟨hk, ⟨L, o, hf, hn, ho, hd⟩, hr⟩ := hl
      have hL : L ∈ frs X.stack := hs L (by unfold frs; rw [List.filterMap_cons, hf]; exact List.mem_cons_self)
      exact ⟨hk, ⟨L, o, hf, PySem.W.hideAll_none _ hL, ho, hd⟩, ih (fun b hb => hs b (by unfold frs; rw [List.filterMap_cons, hf]; exact List.mem_cons_of_mem _ hb)) hr⟩
  obtain ⟨kin, glob, ⟨mb, b1, b2⟩, lim⟩ := I.mod
  exact ⟨I.ok.frames, ⟨kin.keeps up, glob.keeps up, ⟨mb, b1.keeps up, b2⟩, lim.keeps up⟩, fun b o e => of_wide e, Nat.le_of_eq (by unfold wide; rw [PySem.W.hideAll_size, hidT_size]), all _ (fun _ h => h) I.stack, I.stkFree, I.hok, I.bare⟩
theorem wide_cell (I : Inv X pins σ H s) (hfn : X.fn = fun _ => true) {x : Str} {c : Addr} {v : Option Value} (hc : X.env.cells.lookup x = some c) (hv : s.heap.IsCell c v) : (wide s H X.stack).IsCell c v := by
  obtain ⟨o, e, d⟩ := hv
  refine ⟨o, wide_get e (I.freeC x c hc) fun hb => ?_, d⟩
  rcases List.mem_cons.mp (I.stkSub c hb) with z | z
  · exact I.cne x c hc z
  · obtain ⟨_, o', ho', _⟩ := I.ok.funs.mem z
    have := I.ok.cab x c (by rw [hfn]) hc
    exact absurd (Nat.lt_of_lt_of_le (Heap.lt_size ho') this) (Nat.lt_irrefl _)
end
theorem pair_right {α β : Type} {F : α -> β -> Prop} : ∀ {l₁ : List α} {l₂ : List β} {i : Nat} {b : β}, Paired F l₁ l₂ -> l₂[i]? = some b -> ∃ a, l₁[i]? = some a /\ F a b
  | _, _, _, _, .nil, e => by simp at e
  | _, _, 0, _, .cons r _, e => by simp at e; subst e; exact ⟨_, rfl, r⟩
  | _, _, i + 1, b, .cons _ t, e => by
    obtain ⟨u, h1, h2⟩ := pair_right (i := i) (b := b) t (by simpa using e)
    exact ⟨u, by simpa using h1, h2⟩
def tCallL (P : Addr) (mg : Str -> Option Value) (qual : Str) (params : Arguments) (body : Expr) (scope : Scope) (clos : List (Str × Addr)) (ix : List Nat) (sp : List V -> Addr -> Addr -> Obj -> Str -> Sp) : TE := fun σ H Q =>
  ∃ vs, Paired (fun (i : Nat) (v : V) => σ[i]? = some (some v)) ix vs /\ Tab H P qual /\
    ∀ f c ctv H', But P H H' -> Tab H' P qual -> H f = none -> H' f = some (fnO f (lamO mg qual params body scope clos c ctv)) -> H' c = some (cdO c qual) -> sp vs f c (lamO mg qual params body scope clos c ctv) qual [.ref f] H' Q E0
theorem qe_callL {X : Cx} {g c P : Addr} {gd : FuncData} {x qual : Str} {params : Arguments} {body : Expr} {scope : Scope} {clos : List (Str × Addr)} {N keys : List Str} {ix : List Nat} {k : Nat} {p lpos pos : Pos} {sp : List V -> Addr -> Addr -> Obj -> Str -> Sp}
    (F : ∀ (base : Heap) (vs : List V) (f c : Addr) (ctv : Value), LamIn base scope clos N vs -> FnOk X.prog X.w X.K X.mg base CX0 k g gd ["call"] (sp vs f c (lamO X.mg qual params body scope clos c ctv) qual))
    (hr : Room k X.A) (hg : Gl X x) (hm : X.mg x = some (.ref g)) (hk : PySem.W.keepIn X.K (.ref g) = true) (hb : Binds X.K gd ["call"] [])
    (hcode : X.env.code = .ref c) (C : PySem.W.CodeHd X.base c P) (B : BltAt X.base X.mg) (hcl : closureFor scope X.env = pure clos) (hdef : defaultsOf params X.env = ([], [])) (hq : X.env.qual ++ "<lambda>" = qual)
    (hfn : X.fn = fun _ => true) (hcells : ∀ y ∈ clos, X.env.cells.lookup y.1 = some y.2) (hkeys : clos.map (·.1) = keys) (hfree : ∀ y ∈ scope.names, (y.2 = .cell ∨ y.2 = .free) -> y.1 ∈ keys)
    (hN : Paired (fun (i : Nat) (y : Str) => X.N[i]? = some y /\ X.env.kindOf y = some .cell /\ scope.names.lookup y = some .free /\ y ∈ keys) ix N)
    (hdb : (x == ("__debug__" : Str)) = false := by decide) :
    QE X (.Call (.Name x p) [.Lambda params body scope lpos] [] pos) (tCallL P X.mg qual params body scope clos ix sp) := ⟨by
  intro pins s σ H Q I h
  obtain ⟨vs, hvs, ht, h⟩ := h
  refine wpAny_Call_Name_kw (ld_glob I hg hm ?_ hdb)
  refine PySem.W.callWith_K (h₀ := X.base) I.ok.mod.kin hk (thn ((qa_c (qe_lam hcode C B hcl hdef hq) qa_nil).o pos pins s σ H
    (fun ws H' => ∃ f c ctv, ws = [.ref f] /\ sp vs f c (lamO X.mg qual params body scope clos c ctv) qual [.ref f] H' Q E0) I ⟨ht, fun f c ctv H' a1 a2 a3 a4 a5 => ⟨f, c, ctv, rfl, h f c ctv H' a1 a2 a3 a4 a5⟩⟩) fun us s1 ⟨ws, H1, I1, r, f, c', ctv, ew, q⟩ => ⟨I1.kIn, ?_⟩) rfl rfl
  subst ew
  have hcell : ∀ y c, clos.lookup y = some c -> X.env.cells.lookup y = some c := fun y c e => hcells (y, c) (PySem.mem_of_lookup e)
  have hkey : ∀ y, y ∈ keys -> ∃ c, clos.lookup y = some c := fun y hy => by
    rw [← hkeys] at hy
    obtain ⟨⟨y', c⟩, hm', e⟩ := List.mem_map.mp hy
    cases hq' : clos.lookup y with
    | some c => exact ⟨c, rfl⟩
    | none =>
      have : clos.lookup y' ≠ none := by
        intro z
        have z' := List.lookup_eq_none_iff.mp z (y', c) hm'
        simp at z'
      rw [show y' = y from e] at this
      exact absurd hq' this
  have hL : LamIn (wide s1 H1 X.stack) scope clos N vs := by
    refine ⟨fun y z c h1 h2 => I1.ok.inj y z c (hcell _ _ h1) (hcell _ _ h2), fun y hy => hkey y ?_, fun y c e => ?_, fun i y v h1 h2 => ?_, ?_⟩
    · rcases hy with hy | hy
      · exact hfree _ (PySem.mem_of_lookup hy) (.inl rfl)
      · exact hfree _ (PySem.mem_of_lookup hy) (.inr rfl)
    · obtain ⟨v, hv⟩ := I1.cell y c (hcell y c e)
      exact ⟨v, wide_cell I1 hfn (hcell y c e) hv⟩
    · obtain ⟨j, hj, n1, n2, n3, n4⟩ := pair_right hN h1
      obtain ⟨j', hj', n5⟩ := pair_right hvs h2
      rw [hj] at hj'
      cases hj'
      obtain ⟨m, _, hl⟩ := I1.loc
      obtain ⟨u, ru, hu⟩ := hl j y v n1 n5 (.inr (.inl n2))
      refine ⟨n3, ?_⟩
      rcases hu with ⟨z, _⟩ | ⟨_, c, hc, hv⟩
      · rw [n2] at z
        cases z
      · obtain ⟨c2, hc2⟩ := hkey y n4
        have e := hcell y c2 hc2
        rw [hc] at e
        cases e
        exact ⟨c, u, hc2, wide_cell I1 hfn hc hv, ru⟩
    · rw [← hvs.length, ← hN.length]
  have hl : (us ++ []).length = ["call"].length := by rw [List.append_nil, ← r.length]; rfl
  have r2 : Vals ([.ref f] ++ []) (us ++ []) := r.append .nil
  refine wpAny_call (codeAny_mono ((F _ vs f c' ctv hL).run X.A X.stack s1 H1 ⟨us, []⟩ (us ++ []) [.ref f] Q E0 hr (wide_env I1) (hb s1 us I1.kIn hl) r2 q) fun r s' hq => ?_)
  cases r with
  | error e => exact False.elim hq
  | ok fl =>
    cases fl with
    | ret u => exact I1.after hq
    | next => exact False.elim hq
    | brk => exact False.elim hq
    | cont => exact False.elim hq⟩
def tCallV0 (i : Nat) (f : Addr) (sp : Sp) (E : St -> XK) : TE := fun σ H Q => σ[i]? = some (some (.ref f)) /\ (∃ oc od fd sl, H f = some (fnO f ⟨oc, od, .func fd, sl⟩)) /\ sp [] H Q (E σ)
theorem qe_callV0 {X : Cx} {k : Nat} {f : Addr} {fd : FuncData} {sp : Sp} {x : Str} {p pos : Pos} {i : Nat} {E : St -> XK} (F : FnOk X.prog X.w X.K X.mg X.base (CXE X.prog X.w) k f fd [] sp) (hr : Room k X.A) (hx : X.ex = []) (kx : XokS X E) (hN : X.N[i]? = some x) (hv : Vis X.env.scope x) (hb : bindArgs fd ⟨[], []⟩ = pure [])
    (hdb : (x == ("__debug__" : Str)) = false := by decide) (hcd : (x == ("__classdict__" : Str)) = false := by decide) : QE X (.Call (.Name x p) [] [] pos) (tCallV0 i f sp E) := ⟨by
  intro pins s σ H Q I h
  obtain ⟨e1, ⟨oc, od, fd', sl, hf⟩, h⟩ := h
  refine wpAny_Call_Name_kw (thn (pe_var hN hv hdb hcd pins s σ H (fun v H2 => v = .ref f /\ H2 = H) I ⟨_, e1, rfl, rfl⟩) fun u s1 ⟨v, H1, I1, r1, ev, eH⟩ => ?_)
  subst ev
  subst eH
  cases r1
  refine PySem.W.callWith_F0 ⟨oc, od, fd', sl, (I1.hok f _ hf).1⟩ ?_
  refine wpAny_call (codeAny_mono (F.run X.A X.stack s1 _ ⟨[], []⟩ [] [] Q (E σ) hr I1.env0 (.of_eq hb) .nil h) fun r s' hq => ?_)
  cases r with
  | error ev =>
    obtain ⟨e, T, C, d, H', rfl, ho, hg', u, hok, fe, fT, nTe, He, HT, hr', ht, hE⟩ := hq
    exact kx pins σ H' s' e C d (.ref T) [T] (I1.call' ho u hok hg' fun b hb => absurd hb (by simp)) (Fresh.of I1 hx fe) He hr' (.inr ⟨T, rfl, ht, nTe, rfl⟩) (fun b hb => by rw [List.mem_singleton.mp hb]; exact ⟨Fresh.of I1 hx fT, HT⟩) hE
  | ok fl =>
    cases fl with
    | ret u => exact I1.after hq
    | next => exact False.elim hq
    | brk => exact False.elim hq
    | cont => exact False.elim hq⟩
end L2
namespace L2
open PySem PySem.Spec PyProof.Rows Xn W2
theorem BltAt.keeps {h h' : Heap} {mg : Str -> Option Value} (B : BltAt h mg) (k : ∀ bm ob, h.get? bm = some ob -> ob.cls = .type "module" -> h'.get? bm = some ob) : BltAt h' mg := by
  obtain ⟨bm, ob, b1, b2, b3, b4, r⟩ := B
  exact ⟨bm, ob, b1, b2, k _ _ b3 b4, b4, r⟩
theorem law_callT {P : Program} {w : World} {K : PySem.W.Frag} {mg mb : Str -> Option Value} {CX : CXT} {k : Nat} {fa a c Pt : Addr} {fd : FuncData} {x : Str} {sp : Sp} {s₁ : Shared} {vs : List Value} {ns : List Int}
    (KX : K.In s₁.heap) (hns : s₁.heap.Ns mainGlobals mg) (hb : s₁.heap.Ns builtinsNs mb) (hbb : ∀ x : Str, x ≠ "__name__" -> mb x = bootBuiltins x) (hlim : s₁.heap.NoLimit) (hg : s₁.gens = #[])
    (hC : PySem.W.CodeHd s₁.heap c Pt) (hT : s₁.heap.get? Pt = some (PySem.W.tabObj #[])) (hKt : PySem.W.noTabs K = true) (BM : BltAt s₁.heap mg)
    (ha : s₁.heap.get? a = some { cls := .type "list", data := .seq vs.toArray }) (hi : IntsAre vs ns) (hl : ns.length <= sizeLine) (hr : Room k callerA)
    (F : ∀ base : Heap, K.In base -> base.Ns mainGlobals mg -> PySem.W.CodeHd base c Pt -> BltAt base mg -> FnOk P w K mg base CX k fa fd [x] sp) (hbind : ∀ (s : Shared) (u : Value), BindsTo s fd ⟨[u], []⟩ [(x, u)])
    (hsp : ∀ H : Hp, H Pt = some (.tbl #[]) -> SqL K H a (ns.map V.int) -> sp [.ref a] H (fun v _ => v = .bl true) fun _ _ _ => False)
    (hCX : ∀ H e s', CX [] H s₁ (fun _ _ _ => False) e s' -> False) :
    codeAny (model P w) callerA (.call (.ref fa) ⟨[.ref a], []⟩) (fun r s' => r = .ok (.ret (.bool true)) /\ OldK s₁.heap s'.heap /\ s'.os = s₁.os /\ AllBare s'.gens) s₁ := by
  have rv := vals_ints hi
  have lenV := hi.length
  have haP : a ≠ Pt := fun q => by
    rw [q, hT] at ha
    cases ha
  have kP : K.lookup Pt = none := by
    cases q : K.lookup Pt with
    | none => rfl
    | some o =>
      have e := KX _ _ q
      rw [hT] at e
      cases e
      have h2 := List.all_eq_true.mp hKt (Pt, _) (PySem.W.mem_of_lookupK q)
      exact absurd (show false = true from h2) Bool.false_ne_true
  have core : ∀ H : Hp, H Pt = some (.tbl #[]) -> (∀ b, b ≠ Pt -> H b = none ∨ ∃ o xs, H b = some (.frz o (.lst xs))) -> SqL K H a (ns.map V.int) -> HOk P w H s₁.heap -> (∀ b, H b ≠ none -> b = a ∨ b = Pt) -> (H a ≠ none -> K.lookup a = none) ->
      codeAny (model P w) callerA (.call (.ref fa) ⟨[.ref a], []⟩) (fun r s' => r = .ok (.ret (.bool true)) /\ OldK s₁.heap s'.heap /\ s'.os = s₁.os /\ AllBare s'.gens) s₁ := by
    intro H hP hO hS hok hA hK
    have base_of : ∀ {b : Addr} {o : Obj}, s₁.heap.get? b = some o -> H b = none -> (hidT s₁.heap H).get? b = some o := fun e n => hidT_get e n
    have noC : ∀ {b : Addr} {o : Obj}, s₁.heap.get? b = some o -> o.cls ≠ .none -> o.cls ≠ .type "list" -> H b = none := fun {b o} e n1 n2 => by
      cases q : H b with
      | none => rfl
      | some u =>
        rcases hA b (by rw [q]; simp) with e' | e'
        · subst e'
          rw [ha] at e; cases e
          exact absurd rfl n2
        · subst e'
          rw [hT] at e; cases e
          exact absurd rfl n1
    have noA : ∀ {b : Addr} {o : Obj} {es : Array DictEntry} {ep : Nat}, s₁.heap.get? b = some o -> o.data = .dict es ep -> H b = none := fun {b o es ep} e d => by
      cases q : H b with
      | none => rfl
      | some u =>
        rcases hA b (by rw [q]; simp) with e' | e'
        · subst e'
          rw [ha] at e; cases e
          have d' : Data.seq vs.toArray _ = Data.dict es ep := d
          cases d'
        · subst e'
          rw [hT] at e; cases e
          have d' : Data.fields #[] = Data.dict es ep := d
          cases d'
    have nsK : ∀ {b : Addr} {m : Str -> Option Value}, s₁.heap.Ns b m -> (hidT s₁.heap H).Ns b m := fun {b m} ⟨o, es, ep, e, d, r⟩ => ⟨o, es, ep, base_of e (noA e d), d, r⟩
    have hKb : K.In (hidT s₁.heap H) := fun b o e => base_of (KX b o e) (by
      cases q : H b with
      | none => rfl
      | some u =>
        rcases hA b (by rw [q]; simp) with e' | e'
        · subst e'
          rw [hK (by rw [q]; simp)] at e; cases e
        · subst e'
          rw [kP] at e; cases e)
    have hCb : PySem.W.CodeHd (hidT s₁.heap H) c Pt := by
      obtain ⟨o, vs, file, tf, flags, tg, inF, text, tt, e, h2, r⟩ := hC
      exact ⟨o, vs, file, tf, flags, tg, inF, text, tt, base_of e (noC e (by rw [h2]; intro z; cases z) (by rw [h2]; intro z; injection z with z; exact absurd z (by decide))), h2, r⟩
    have hBb : BltAt (hidT s₁.heap H) mg := BM.keeps fun bm ob e h => base_of e (noC e (by rw [h]; intro z; cases z) (by rw [h]; intro z; injection z with z; exact absurd z (by decide)))
    have hM : Mod K mg (hidT s₁.heap H) := ⟨hKb, nsK hns, ⟨mb, nsK hb, hbb⟩, let ⟨mc, h1, h2⟩ := hlim; ⟨mc, nsK h1, h2⟩⟩
    have e0 : Env0 P w K mg (hidT s₁.heap H) callerA [] s₁ H := ⟨rfl, hM, fun b o e => of_hidT e, Nat.le_of_eq (hidT_size _ _), trivial, fun b hb => absurd (show b ∈ ([] : List Addr) from hb) (by simp), hok, .of_eq hg⟩
    refine codeAny_mono ((F _ hKb (nsK hns) hCb hBb).run callerA [] s₁ H ⟨[.ref a], []⟩ [.ref a] [.ref a] _ _ hr e0 (hbind s₁ (.ref a)) (.cons rfl .nil) (hsp H hP hS)) fun r s' h => ?_
    cases r with
    | error e => exact (hCX H e s' h).elim
    | ok fl =>
      cases fl with
      | next => exact False.elim h
      | brk => exact False.elim h
      | cont => exact False.elim h
      | ret u =>
        obtain ⟨v, H', os, bare, un, hok', r', q⟩ := h
        have q' : v = .bl true := q
        subst q'
        obtain rfl : u = Value.bool true := r'
        have keep : ∀ b o, b ≠ Pt -> s₁.heap.get? b = some o -> s'.heap.get? b = some o := fun b o nb e => by
          cases q : H b with
          | none => exact un.keep b o e q (by intro z; exact absurd (show b ∈ ([] : List Addr) from z) (by simp)) (by simp)
          | some u =>
            rcases hO b nb with z | ⟨ob, xs, z⟩
            · rw [q] at z; cases z
            · have z2 := un.frzs b ob _ z
              obtain ⟨e1, _⟩ := hok b _ z
              obtain ⟨e2, _⟩ := hok' b _ z2
              rw [e] at e1; cases e1
              exact e2
        obtain ⟨more, hm⟩ := un.tbls Pt _ hP
        have hP' : s'.heap.get? Pt = some (PySem.W.tabObj (#[] ++ more)) := hok' Pt _ hm
        refine ⟨rfl, ⟨fun b o e => ?_, fun b o e => ?_⟩, os, bare⟩
        · by_cases hb : b = Pt
          · subst hb
            rw [hT] at e
            cases e
            exact .inr (.inl ⟨(hC.tab hT).isCodeTable, rfl, #[], more, rfl, hP'⟩)
          · exact .inl (keep b o hb e)
        · by_cases hb : b = Pt
          · subst hb
            exact ⟨_, hP'⟩
          · exact ⟨o, keep b o hb e⟩
  have tok : ∀ H : Hp, ObjOk P w H s₁.heap Pt (.tbl #[]) := fun H => hT
  cases hk : K.lookup a with
  | some o =>
    have e := KX a o hk
    rw [ha] at e
    cases e
    refine core (fun b => if b = Pt then some (.tbl #[]) else none) (if_pos rfl) (fun b nb => .inl (if_neg nb)) (.inr ⟨_, vs.toArray, _, hk, rfl, rfl, rfl, by rw [List.size_toArray, lenV]; exact hl, by simpa using rv⟩) (fun b u z => ?_) (fun b z => ?_) fun z => absurd (if_neg haP) z
    · by_cases hb : b = Pt
      · have z' := (if_pos hb).symm.trans z
        cases z'
        subst hb
        exact tok _
      · have z' := (if_neg hb).symm.trans z
        cases z'
    · by_cases hb : b = Pt
      · exact .inr hb
      · exact absurd (if_neg hb) z
  | none =>
    obtain ⟨H, eH⟩ : ∃ H : Hp, H = fun b => if b = Pt then some (.tbl #[]) else if b = a then some (.frz { cls := .type "list", data := .seq vs.toArray } (.lst (ns.map V.int))) else none := ⟨_, rfl⟩
    have h1 : H Pt = some (.tbl #[]) := by rw [eH]; exact if_pos rfl
    have h2 : H a = some (.frz { cls := .type "list", data := .seq vs.toArray } (.lst (ns.map V.int))) := by
      rw [eH]
      show (if a = Pt then _ else _) = _
      rw [if_neg haP, if_pos rfl]
    have h3 : ∀ b, b ≠ Pt -> b ≠ a -> H b = none := fun b n1 n2 => by
      rw [eH]
      show (if b = Pt then _ else _) = _
      rw [if_neg n1, if_neg n2]
    refine core H h1 (fun b nb => ?_) (.inl (.inr ⟨{ cls := .type "list", data := .seq vs.toArray }, h2⟩)) (fun b u z => ?_) (fun b z => ?_) fun _ => hk
    · by_cases hb : b = a
      · exact .inr ⟨_, _, by rw [hb]; exact h2⟩
      · exact .inl (h3 b nb hb)
    · by_cases hb : b = Pt
      · subst hb
        rw [h1] at z
        cases z
        exact tok _
      by_cases hb2 : b = a
      · subst hb2
        rw [h2] at z
        cases z
        exact ⟨ha, by rw [List.length_map]; exact hl, vs, _, rv, ha⟩
      · rw [h3 b hb hb2] at z
        cases z
    · by_cases hb : b = Pt
      · exact .inr hb
      by_cases hb2 : b = a
      · exact .inl hb2
      · exact absurd (h3 b hb hb2) z
theorem walk_ofT {l : PySem.W.OpenLaw} {n k : Nat} {q : Program} {loose : List Str} {XP : (Str -> Option Value) -> Heap -> Prop} {YP : World -> Heap -> Prop} {d : DefRec} {K : Params -> PySem.W.Frag} {CX : World -> CXT} {sp : World -> Addr -> Sp} {x : Str}
    (hn : l.most = some n) (hn2 : n <= sizeLine) (hdf : d.params.defaults = []) (hr : Room k callerA)
    (hY : ∀ (w : World) (h : Heap), YP w h -> (K w.params).In h)
    (hfind : ((PyProof.Rows.recsOf q).find? (fun e => e.name == d.name)).isSome = true) (hKt : ∀ w : World, PySem.W.noTabs (K w.params) = true) (htab : ∀ w : World, (PySem.W.tabIn (K w.params) d.name).isSome = true)
    (F : ∀ (w : World) (mg : Str -> Option Value) (fa c Pt : Addr) (h : Heap), (K w.params).In h -> h.Ns mainGlobals mg -> mg d.name = some (.ref fa) -> PySem.W.tabIn (K w.params) d.name = some (c, Pt) ->
      ∃ fd : FuncData, (∀ (s : Shared) (u : Value), BindsTo s fd ⟨[u], []⟩ [(x, u)]) /\
        ∀ base : Heap, (K w.params).In base -> base.Ns mainGlobals mg -> PySem.W.CodeHd base c Pt -> BltAt base mg -> FnOk l.prog w (K w.params) mg base (CX w) k fa fd [x] (sp w Pt))
    (hsp : ∀ (w : World) (H : Hp) (a Pt : Addr) (ns : List Int), ns.length <= n -> H Pt = some (.tbl #[]) -> SqL (K w.params) H a (ns.map V.int) -> sp w Pt [.ref a] H (fun v _ => v = .bl true) fun _ _ _ => False)
    (hCX : ∀ (w : World) (H : Hp) (s : Shared) (e : Value) (s' : Shared), CX w [] H s (fun _ _ _ => False) e s' -> False) :
    PySem.W.WalkO q loose XP YP l.row.toRowW d [] (fun f vs => PySem.call f vs) := by
  refine Att.attach_call hn hdf fun w s₀ s₁ mg mb fa o pm cd doc a vs ns G Y ho hd hcd hmg hobj hints hlen hg => ?_
  have KX := hY w _ Y
  obtain ⟨⟨c, Pt⟩, et⟩ := Option.isSome_iff_exists.mp (htab w)
  obtain ⟨d', hf'⟩ := Option.isSome_iff_exists.mp hfind
  obtain ⟨hC, hT⟩ := PySem.W.tab_of G.T KX hf' et
  obtain ⟨fd, hb, hF⟩ := F w mg fa c Pt _ KX G.T.g hmg et
  exact law_callT KX G.T.g G.T.b G.T.builtins G.T.nolimit hg hC hT (hKt w) G.T.bmain hobj hints (Nat.le_trans hlen hn2) hr hF hb (fun H hO hS => hsp w H a Pt ns hlen hO hS) fun H e s' => hCX w H s₁ e s'
end L2
namespace W2
open PySem L2 Mth Xn
def top (i : Nat) : Stmt := PySem.Challenge.pw_wholefract_k75_whole_machine_and_program.main.body.getD i (.Pass ⟨0, 0, 0, 0⟩)
abbrev s_is_whole : Stmt := top 7
abbrev s_powers_of : Stmt := top 8
abbrev s_how_often : Stmt := top 9
abbrev s_without_primes : Stmt := top 10
abbrev s_machine_after : Stmt := top 12
abbrev s_next_stand : Stmt := top 13
abbrev s_changed : Stmt := top 14
abbrev s_program_of : Stmt := top 15
abbrev s_row_fractions : Stmt := top 16
abbrev s_row_prime : Stmt := top 17
abbrev s_row_place : Stmt := top 18
abbrev s_stand_powers : Stmt := top 19
abbrev s_changes_of : Stmt := top 21
abbrev s_fraction_changes : Stmt := top 22
abbrev s_fits : Stmt := top 23
abbrev s_first_of : Stmt := top 24
abbrev s_moved : Stmt := top 25
abbrev s_first_fit : Stmt := top 26
abbrev s_step : Stmt := top 27
abbrev s_after : Stmt := top 28
abbrev s_l_cell_at : Stmt := top 30
abbrev s_l_pot : Stmt := top 31
abbrev s_l_take : Stmt := top 32
abbrev s_l_machine : Stmt := top 33
abbrev s_l_stand : Stmt := top 34
abbrev s_l_led : Stmt := top 35
abbrev s_l_stands : Stmt := top 36
abbrev s_l_rest_told : Stmt := top 37
abbrev s_law : Stmt := top 38
def inCls (s : Stmt) (j : Nat) : Stmt := match s with | .ClassDef _ _ _ b _ _ _ _ _ _ _ => b.getD j (.Pass ⟨0, 0, 0, 0⟩) | s => s
abbrev s_init_AtRest : Stmt := inCls (top 2) 0
theorem sc_init_AtRest : FnScope ["self", "steps"] ["self", "steps"] (defScope s_init_AtRest) := sco
theorem sc_is_whole : FnScope ["thing"] ["thing"] (defScope s_is_whole) := sco
theorem sc_powers_of : FnScope ["number"] ["number"] (defScope s_powers_of) := sco
theorem sc_how_often : FnScope ["prime", "number", "times", "rest"] ["prime", "number"] (defScope s_how_often) := sco
theorem sc_without_primes : FnScope ["number", "rest", "prime"] ["number"] (defScope s_without_primes) := sco
theorem sc_machine_after : FnScope ["machine", "stand", "many", "rows", "reached", "done"] ["machine", "stand", "many"] (defScope s_machine_after) := sco
theorem sc_next_stand : FnScope ["rows", "stand", "row", "values", "counter"] ["rows", "stand"] (defScope s_next_stand) := sco
theorem sc_changed : FnScope ["values", "counter", "more"] ["values", "counter", "more"] (defScope s_changed) := sco
theorem sc_program_of : FnScope ["machine", "many", "rows", "fractions", "number", "second"] ["machine"] (defScope s_program_of) := sco
theorem sc_row_fractions : FnScope ["machine", "number", "second", "row", "counter", "here", "onward"] ["machine", "number", "second"] (defScope s_row_fractions) := sco
theorem sc_row_prime : FnScope ["machine", "number", "second"] ["machine", "number", "second"] (defScope s_row_prime) := sco
theorem sc_row_place : FnScope ["machine", "number", "second", "place"] ["machine", "number", "second"] (defScope s_row_place) := sco
theorem sc_stand_powers : FnScope ["machine", "stand", "second", "powers"] ["machine", "stand", "second"] (defScope s_stand_powers) := sco
theorem sc_changes_of : FnScope ["program"] ["program"] (defScope s_changes_of) := sco
theorem sc_fraction_changes : FnScope ["fraction", "tops", "bottoms"] ["fraction"] (defScope s_fraction_changes) := sco
theorem sc_fits : FnScope ["changes", "powers", "change", "power"] ["changes", "powers"] (defScope s_fits) := sco
theorem sc_first_of : FnScope ["rows", "powers", "number", "changes"] ["rows", "powers"] (defScope s_first_of) := sco
theorem sc_moved : FnScope ["powers", "changes", "many"] ["powers", "changes", "many"] (defScope s_moved) := sco
theorem sc_first_fit : FnScope ["program", "powers"] ["program", "powers"] (defScope s_first_fit) := sco
theorem sc_step : FnScope ["program", "powers"] ["program", "powers"] (defScope s_step) := sco
theorem sc_after : FnScope ["program", "powers", "many", "rows", "reached", "done", "number"] ["program", "powers", "many"] (defScope s_after) := sco
theorem sc_l_cell_at : FnScope ["script", "k"] ["script", "k"] (defScope s_l_cell_at) := sco
theorem sc_l_pot : FnScope ["cell", "number", "j", "more"] ["cell"] (defScope s_l_pot) := sco
theorem sc_l_take : FnScope ["pot", "far", "found"] ["pot", "far"] (defScope s_l_take) := sco
theorem sc_l_machine : FnScope ["pot", "most_counters", "most_rows", "many", "size", "rows", "k", "counter"] ["pot", "most_counters", "most_rows"] (defScope s_l_machine) := sco
theorem sc_l_stand : FnScope ["pot", "machine"] ["pot", "machine"] (defScope s_l_stand) := sco
theorem sc_l_led : FnScope ["machine", "stand", "at", "values", "row", "value"] ["machine", "stand"] (defScope s_l_led) := sco
theorem sc_l_stands : FnScope ["machine", "stand", "many", "found"] ["machine", "stand", "many"] (defScope s_l_stands) := sco
theorem sc_l_rest_told : FnScope ["call", "e"] ["call"] (defScope s_l_rest_told) := sco
theorem sc_law : FnScope ["script", "k", "machine", "program", "stand", "rows", "second", "now", "turn", "begin"] ["script"] (defScope s_law) := sco
set_option genInjectivity false in
set_option genSizeOf false in
structure Tx (K : PySem.W.Frag) (mg : Str -> Option Value) where
  D_is_whole : DfD K mg "is_whole" s_is_whole ["thing"]
  D_powers_of : DfD K mg "powers_of" s_powers_of ["number"]
  D_how_often : DfD K mg "how_often" s_how_often ["prime", "number"]
  D_without_primes : DfD K mg "without_primes" s_without_primes ["number"]
  D_machine_after : DfD K mg "machine_after" s_machine_after ["machine", "stand", "many"]
  D_next_stand : DfD K mg "next_stand" s_next_stand ["rows", "stand"]
  D_changed : DfD K mg "changed" s_changed ["values", "counter", "more"]
  D_program_of : DfD K mg "program_of" s_program_of ["machine"]
  D_row_fractions : DfD K mg "row_fractions" s_row_fractions ["machine", "number", "second"]
  D_row_prime : DfD K mg "row_prime" s_row_prime ["machine", "number", "second"]
  D_row_place : DfD K mg "row_place" s_row_place ["machine", "number", "second"]
  D_stand_powers : DfD K mg "stand_powers" s_stand_powers ["machine", "stand", "second"]
  D_changes_of : DfD K mg "changes_of" s_changes_of ["program"]
  D_fraction_changes : DfD K mg "fraction_changes" s_fraction_changes ["fraction"]
  D_fits : DfD K mg "fits" s_fits ["changes", "powers"]
  D_first_of : DfD K mg "first_of" s_first_of ["rows", "powers"]
  D_moved : DfD K mg "moved" s_moved ["powers", "changes", "many"]
  D_first_fit : DfD K mg "first_fit" s_first_fit ["program", "powers"]
  D_step : DfD K mg "step" s_step ["program", "powers"]
  D_after : DfD K mg "after" s_after ["program", "powers", "many"]
  D_l_cell_at : DfD K mg "_law_cell_at" s_l_cell_at ["script", "k"]
  D_l_pot : DfD K mg "_law_pot" s_l_pot ["cell"]
  D_l_take : DfD K mg "_law_take" s_l_take ["pot", "far"]
  D_l_machine : DfD K mg "_law_machine" s_l_machine ["pot", "most_counters", "most_rows"]
  D_l_stand : DfD K mg "_law_stand" s_l_stand ["pot", "machine"]
  D_l_led : DfD K mg "_law_led" s_l_led ["machine", "stand"]
  D_l_stands : DfD K mg "_law_stands" s_l_stands ["machine", "stand", "many"]
  D_l_rest_told : DfD K mg "_law_rest_told" s_l_rest_told ["call"]
  c_FractError : Addr
  k_FractError : mg "FractError" = some (.ref c_FractError)
  c_AtRest : Addr
  k_AtRest : mg "AtRest" = some (.ref c_AtRest)
  c_NoNumber : Addr
  k_NoNumber : mg "NoNumber" = some (.ref c_NoNumber)
  c_TooMany : Addr
  k_TooMany : mg "TooMany" = some (.ref c_TooMany)
  E_FractError : ECls K mg "FractError" c_FractError
  f_init_AtRest : Addr
  fd_init_AtRest : FuncData
  I_AtRest : XI K mg "AtRest" c_AtRest c_FractError f_init_AtRest
  N_AtRest : Fun K "__init__" "AtRest.__init__" s_init_AtRest f_init_AtRest fd_init_AtRest
  B_AtRest : Binds K fd_init_AtRest ["self", "steps"] []
  UI_AtRest : UnderI K c_AtRest c_FractError
  FA_AtRest : PySem.W.findIn K (.ref c_AtRest) "steps" = some none
  V_AtRest : PySem.W.kitOne K (.ref c_AtRest) (.type "ValueError") = some true
  q_AtRest_AtRest : KF K c_AtRest c_AtRest true
  q_AtRest_NoNumber : KF K c_AtRest c_NoNumber false
  q_AtRest_TooMany : KF K c_AtRest c_TooMany false
  m_len : mg "len" = none
  m_isinstance : mg "isinstance" = none
  m_int : mg "int" = none
  m_bool : mg "bool" = none
  m_tuple : mg "tuple" = none
  m_list : mg "list" = none
  m_range : mg "range" = none
  m_zip : mg "zip" = none
  m_enumerate : mg "enumerate" = none
  m_ValueError : mg "ValueError" = none
  a_PRIMES : Addr
  g_PRIMES : mg "PRIMES" = some (.ref a_PRIMES)
  t_PRIMES : ∀ H, SqT K H a_PRIMES [.int 2, .int 3, .int 5, .int 7, .int 11, .int 13, .int 17, .int 19, .int 23, .int 29]
section
variable {P : Program} {w : World} {K : PySem.W.Frag} {mg : Str -> Option Value} {base : Heap}
def sp_l_take : Sp := fun vs H Q _ => ∃ (a : Addr) (n far : Int), vs = [.ref a, .int far] /\ H a = some (.lst [.int n]) /\ 0 < far /\ far < 1073741824 /\ Q (.int (n % far)) (upd H a (.lst [.int (n / far)]))
theorem ok_l_take (T : Tx K mg) : OkD P w mg base CX0 1 T.D_l_take sp_l_take := by
  refine T.D_l_take.fn.okQ sc_l_take (fun vs H Q E h => ?_) (fun cdv A outer s H vs Q E hr h => ?_)
  · obtain ⟨a, n, far, rfl, _⟩ := h
    rfl
  · obtain ⟨a, n, far, rfl, ha, h0, h1, q⟩ := h
    refine ⟨_, (qss_cons (qs_sS 2 sc_l_take (qe_op op_mod (qe_ix ix_list (qv 0) qe_int (fun _ _ => rfl)) (qv 1)))
      (qss_cons (qs_asg (qe_op op_fdiv (qe_ix ix_list (qv 0) qe_int (fun _ _ => rfl)) (qv 1)) (qg_sub (qv 0) qe_int set_list))
      (qss_one (qs_ret (qv 2))))), ?_⟩
    refine ⟨_, rfl, a, _, _, _, rfl, rfl, SqL.of ha, rfl, _, rfl, _, _, rfl, rfl, h0, ?_⟩
    refine ⟨_, rfl, a, _, _, _, rfl, rfl, SqL.of ha, rfl, _, rfl, _, _, rfl, rfl, ⟨h0, h1⟩, _, rfl, a, _, _, 0, rfl, rfl, ha, rfl, ?_⟩
    exact ⟨_, rfl, q⟩
def sp_l_cell_at (K : PySem.W.Frag) : Sp := fun vs H Q _ => ∃ (a : Addr) (ns : List Int) (k : Int), vs = [.ref a, .int k] /\ SqL K H a (ns.map V.int) /\ 0 <= k /\ ∀ c : Int, Q (.int c) H
theorem ok_l_cell_at (T : Tx K mg) : OkD P w mg base CX0 1 T.D_l_cell_at (sp_l_cell_at K) := by
  refine T.D_l_cell_at.fn.okQ sc_l_cell_at (fun vs H Q E h => ?_) (fun cdv A outer s H vs Q E hr h => ?_)
  · obtain ⟨a, ns, k, rfl, _⟩ := h
    rfl
  · obtain ⟨a, ns, k, rfl, hS, h0, q⟩ := h
    refine ⟨_, (qss_cons (qs_if (qt_cmpR op_lt (qv 1) (qe_cB call_len_seq T.m_len b_len (qa_c (qv 0) qa_nil)) (nomark _))
        (qss_one (qs_ret (qe_ix ix_list (qv 0) (qv 1) (fun _ _ => rfl))))
        qss_nil)
      (qss_one (qs_ret qe_int))), ?_⟩
    refine ⟨_, rfl, _, rfl, a, _, rfl, .inl hS, _, _, rfl, rfl, _, rfl, ?_⟩
    refine ite2 (fun hlt => ?_) (fun _ => q 0)
    have hlt' : k < ((ns.map V.int).length : Int) := by simpa using hlt
    rw [List.length_map] at hlt'
    have hk : k.toNat < ns.length := by omega
    have e : (ns.map V.int)[k.toNat]? = some (V.int ns[k.toNat]) := by rw [List.getElem?_map, List.getElem?_eq_getElem hk]; rfl
    exact ⟨_, rfl, _, rfl, a, _, _, _, rfl, rfl, hS, atI_of h0 e, q _⟩
def sp_l_pot : Sp := fun vs H Q _ => ∃ c : Int, vs = [.int c] /\ ∀ (n : Int) (p : Addr), H p = none -> Q (.ref p) (upd H p (.lst [.int n]))
theorem ok_l_pot (T : Tx K mg) : OkD P w mg base CX0 1 T.D_l_pot sp_l_pot := by
  refine T.D_l_pot.fn.okQ sc_l_pot (fun vs H Q E h => ?_) (fun cdv A outer s H vs Q E hr h => ?_)
  · obtain ⟨c, rfl, _⟩ := h
    rfl
  · obtain ⟨c, rfl, q⟩ := h
    refine ⟨_, (qss_cons (qs_if (qt_cmpR op_ge (qv 0) (qe_op op_pow qe_int qe_int) (nomark _))
        (qss_one (qs_ret (qe_lst (qa_c (qe_op op_sub (qv 0) (qe_op op_pow qe_int qe_int)) qa_nil))))
        qss_nil)
      (qss_cons (qs_sS 1 sc_l_pot qe_int)
      (qss_cons (qs_for PassesOwn.never rfl (qi_range1 rfl T.m_range (qa_c qe_int qa_nil)) (qg_nS 2 sc_l_pot)
        (qss_cons (qs_sS 3 sc_l_pot (qe_op op_mod (qe_op op_mul (qe_op op_add (qe_op op_add (qe_op op_mod (qv 0) qe_int) (qe_op op_mul qe_int (qv 2))) qe_int) qe_int) qe_int))
      (qss_cons (qs_sS 3 sc_l_pot (qe_op op_mod (qe_op op_add (qe_op op_add (qe_op op_mul (qv 3) (qv 3)) (qe_op op_mul qe_int (qv 2))) qe_int) qe_int))
      (qss_one (qs_sS 1 sc_l_pot (qe_op op_add (qe_op op_mul (qv 1) qe_int) (qv 3)))))))
      (qss_one (qs_ret (qe_lst (qa_c (qv 1) qa_nil))))))), ?_⟩
    refine ⟨_, rfl, _, _, rfl, rfl, ⟨by decide, by decide, by decide⟩, _, _, rfl, rfl, _, rfl, ?_⟩
    refine ite2 (fun _ => ?_) (fun _ => ?_)
    · refine ⟨_, rfl, _, _, rfl, rfl, ⟨by decide, by decide, by decide⟩, _, _, rfl, rfl, szl, fun p hp => ?_⟩
      exact q _ p hp
    · refine ⟨64, rfl, by decide, by decide, for_range (n := 64) (fun i σ H2 => ∃ (n : Int) (u v : Option V), σ = [some (.int c), some (.int n), u, v] /\ H2 = H) ⟨0, none, none, rfl, rfl⟩ ?_ ?_⟩
      · rintro i σ H2 hi ⟨n, u, v, rfl, rfl⟩
        refine ⟨_, rfl, _, _, rfl, rfl, (by show (0 : Int) < 2147483629; decide), _, rfl, _, _, rfl, rfl, .inl ⟨by decide, by decide⟩, _, _, rfl, rfl, _, _, rfl, rfl, _, _, rfl, rfl, .inr ⟨by decide, by decide⟩, _, _, rfl, rfl, (by show (0 : Int) < 2147483647; decide), ?_⟩
        refine ⟨_, rfl, _, rfl, _, _, rfl, rfl, .inl ?_, _, rfl, _, _, rfl, rfl, .inl ⟨by decide, by decide⟩, _, _, rfl, rfl, _, _, rfl, rfl, _, _, rfl, rfl, (by show (0 : Int) < 2147483587; decide), ?_⟩
        · have h1 := Int.emod_nonneg ((c % 2147483629 + 7919 * (0 + (i : Int)) + 1) * 48271) (show (2147483647 : Int) ≠ 0 by decide)
          have h2 := Int.emod_lt_of_pos ((c % 2147483629 + 7919 * (0 + (i : Int)) + 1) * 48271) (show (0 : Int) < 2147483647 by decide)
          exact ⟨by omega, by omega⟩
        refine ⟨_, rfl, _, _, rfl, rfl, .inr ⟨by decide, by decide⟩, _, rfl, _, _, rfl, rfl, ?_⟩
        exact ⟨_, _, _, rfl, rfl⟩
      · rintro σ H2 ⟨n, u, v, rfl, rfl⟩
        exact ⟨_, rfl, szl, fun p hp => q n p hp⟩
def sp_l_takeA : Sp := fun vs H Q _ => ∃ (a : Addr) (n far : Int), vs = [.ref a, .int far] /\ H a = some (.lst [.int n]) /\ 0 < far /\ far < 1073741824 /\
  ∀ (r n' : Int) (H' : Hp), 0 <= r -> r < far -> But a H H' -> H' a = some (.lst [.int n']) -> Q (.int r) H'
theorem ok_l_takeA (T : Tx K mg) : OkD P w mg base CX0 1 T.D_l_take sp_l_takeA :=
  (ok_l_take T).imp fun vs H Q E ⟨a, n, far, e, ha, h0, h1, q⟩ => ⟨a, n, far, e, ha, h0, h1, q _ (n / far) _ (Int.emod_nonneg n (by omega)) (Int.emod_lt_of_pos n h0) But.upd upd_same⟩
def primesV : List V := [.int 2, .int 3, .int 5, .int 7, .int 11, .int 13, .int 17, .int 19, .int 23, .int 29]
theorem primesV_get {i : Nat} {x : V} (h : primesV[i]? = some x) : ∃ p : Nat, x = .int (p : Int) /\ primes[i]? = some p /\ p < 30 := by
  match i, h with
  | 0, h => cases h; exact ⟨2, rfl, rfl, by decide⟩
  | 1, h => cases h; exact ⟨3, rfl, rfl, by decide⟩
  | 2, h => cases h; exact ⟨5, rfl, rfl, by decide⟩
  | 3, h => cases h; exact ⟨7, rfl, rfl, by decide⟩
  | 4, h => cases h; exact ⟨11, rfl, rfl, by decide⟩
  | 5, h => cases h; exact ⟨13, rfl, rfl, by decide⟩
  | 6, h => cases h; exact ⟨17, rfl, rfl, by decide⟩
  | 7, h => cases h; exact ⟨19, rfl, rfl, by decide⟩
  | 8, h => cases h; exact ⟨23, rfl, rfl, by decide⟩
  | 9, h => cases h; exact ⟨29, rfl, rfl, by decide⟩
  | (k + 10), h => cases h
def sp_whole : Sp := fun vs H Q _ => ∃ v, vs = [v] /\ kindV H v /\ Q (.bl (isW v)) H
theorem ok_is_whole (T : Tx K mg) : OkD P w mg base CX0 1 T.D_is_whole sp_whole := by
  refine T.D_is_whole.fn.okQ sc_is_whole (fun vs H Q E h => ?_) (fun cdv A outer s H vs Q E hr h => ?_)
  · obtain ⟨v, rfl, _⟩ := h
    rfl
  · obtain ⟨v, rfl, k, q⟩ := h
    refine ⟨_, (qss_one (qs_ret (qe_and (qe_cB call_isi T.m_isinstance b_isinstance (qa_c (qv 0) (qa_c (qe_ty (by rfl) T.m_int b_int) qa_nil))) (qe_one (qe_not (qe_cB call_isi T.m_isinstance b_isinstance (qa_c (qv 0) (qa_c (qe_ty (by rfl) T.m_bool b_bool) qa_nil)))))))), ?_⟩
    obtain ⟨t, ty, e⟩ := isi_I (K := K) k
    obtain ⟨t', ty', e'⟩ := isi_B (K := K) k
    rw [← isW_eq] at q
    refine ⟨v, rfl, v, "int", t, _, rfl, ty, e, _, rfl, ?_⟩
    cases hi : isI v with
    | false =>
      rw [hi] at q
      exact iteF q
    | true =>
      rw [hi] at q
      exact iteT ⟨v, rfl, v, "bool", t', _, rfl, ty', e', _, rfl, q⟩
def natAt (σ : St) (i : Nat) : Nat := match σ[i]? with
  | some (some (.int r)) => r.toNat
  | _ => 0
theorem int_eq0 {i j : Int} (h : decide (V.int i = V.int j) = true) : i = j := by
  have := of_decide_eq_true h
  injection this
theorem int_ne0 {i j : Int} (h : ¬ decide (V.int i = V.int j) = true) : i ≠ j := fun z => h (decide_eq_true (by rw [z]))
theorem stripL_snoc : ∀ (ps : List Nat) (i p n : Nat), ps[i]? = some p -> stripL (ps.take (i + 1)) n = strip p (stripL (ps.take i) n) := by
  intro ps i p n h
  unfold stripL
  rw [List.take_add_one, h, List.foldl_append]
  rfl
def sp_without_primes : Sp := fun vs H Q _ => ∃ m : Int, vs = [.int m] /\ 1 <= m /\ Q (.int (stripAll m.toNat : Nat)) H
theorem ok_without_primes (T : Tx K mg) : OkD P w mg base CX0 1 T.D_without_primes sp_without_primes := by
  refine T.D_without_primes.fn.okQ sc_without_primes (fun vs H Q E h => ?_) (fun cdv A outer s H vs Q E hr h => ?_)
  · obtain ⟨m, rfl, _⟩ := h
    rfl
  · obtain ⟨m, rfl, hm, q⟩ := h
    refine ⟨_, (qss_cons (qs_sS 1 sc_without_primes (qv 0))
      (qss_cons (qs_for PassesOwn.never rfl (qi_tup (qe_glob (v := .ref T.a_PRIMES) (by rfl) T.g_PRIMES rfl)) (qg_nS 2 sc_without_primes)
        (qss_one (qs_while PassesOwn.never (qt_cmpR op_eq (qe_op op_mod (qv 1) (qv 2)) qe_int (nomark _))
        (qss_one (qs_sS 1 sc_without_primes (qe_op op_fdiv (qv 1) (qv 2)))))))
      (qss_one (qs_ret (qv 1))))), ?_⟩
    refine ⟨_, rfl, T.a_PRIMES, rfl, ⟨primesV, T.t_PRIMES H⟩, for_tup (xs := primesV) (fun i σ H2 => (∃ u : Option V, σ = [some (.int m), some (.int (stripL (primes.take i) m.toNat : Nat)), u]) /\ H2 = H) ⟨⟨none, ?_⟩, rfl⟩ (fun i σ H2 _ _ => T.t_PRIMES H2) ?_ ?_⟩
    · show [some (V.int m), some (V.int m), none] = _
      rw [show stripL (primes.take 0) m.toNat = m.toNat from rfl, Int.toNat_of_nonneg (by omega)]
    · rintro i x σ H2 hx ⟨⟨u, rfl⟩, rfl⟩
      obtain ⟨p, rfl, hp, hp30⟩ := primesV_get hx
      have hp2 : 2 <= p := two_le p (List.mem_of_getElem? hp)
      have hpos : 1 <= stripL (primes.take i) m.toNat := stripL_pos _ (fun r hr => two_le r (List.mem_of_mem_take hr)) _ (by omega)
      refine while_own (fun σ H3 => ∃ r : Nat, σ = [some (.int m), some (.int (r : Int)), some (.int (p : Int))] /\ 1 <= r /\ strip p r = strip p (stripL (primes.take i) m.toNat) /\ H3 = H2) (fun σ _ => natAt σ 1) ⟨_, rfl, hpos, rfl, rfl⟩ ?_
      rintro σ H3 ⟨r, rfl, hr1, hrs, rfl⟩
      refine ⟨_, rfl, _, rfl, _, _, rfl, rfl, (by show (0 : Int) < p; omega), rfl, _, rfl, ite2 (fun h => ?_) (fun h => ?_)⟩
      · have h0 : (r : Int) % (p : Int) = 0 := int_eq0 h
        have h0' : r % p = 0 := by omega
        refine whN ⟨_, rfl, _, rfl, _, _, rfl, rfl, ⟨by omega, by omega⟩, ?_⟩
        refine ⟨⟨r / p, ?_, div_pos_of hr1 h0', by rw [← strip_div hp2 hr1 h0']; exact hrs, rfl⟩, ?_⟩
        · rw [Int.natCast_ediv]; rfl
        · show ((r : Int) / (p : Int)).toNat < ((r : Int)).toNat
          rw [← Int.natCast_ediv, Int.toNat_natCast, Int.toNat_natCast]
          exact Nat.div_lt_self hr1 hp2
      · have h0 : ¬ (r : Int) % (p : Int) = 0 := int_ne0 h
        have h0' : r % p ≠ 0 := by omega
        refine ⟨⟨some (.int (p : Int)), ?_⟩, rfl⟩
        rw [stripL_snoc primes i p _ hp, ← hrs, strip_not h0']
    · rintro σ H2 ⟨⟨u, rfl⟩, rfl⟩
      exact ⟨_, rfl, q⟩
inductive MRow where
  | add (c n : Nat)
  | tk (c n o : Nat)
def MRow.vs : MRow -> List V
  | .add c n => [.str "add", .int c, .int n]
  | .tk c n o => [.str "take", .int c, .int n, .int o]
def MRow.ok (many size : Nat) : MRow -> Prop
  | .add c n => c < many /\ n <= size
  | .tk c n o => c < many /\ n <= size /\ o <= size
def MRowsV (H : Hp) (xs : List V) (rs : List MRow) : Prop := xs.length = rs.length /\ ∀ (i : Nat) (x : V), xs[i]? = some x -> ∃ r a, rs[i]? = some r /\ x = .ref a /\ H a = some (.tup r.vs)
structure MacV (H : Hp) (m : Addr) (many : Nat) (rs : List MRow) : Prop where
  ex : ∃ (b : Addr) (xs : List V), H m = some (.tup [.int many, .ref b]) /\ H b = some (.tup xs) /\ MRowsV H xs rs
  m1 : 1 <= many
  r1 : 1 <= rs.length
  ok : ∀ r ∈ rs, r.ok many rs.length
theorem MRowsV.keep {H H' : Hp} {xs : List V} {rs : List MRow} (k : Keep H H') (h : MRowsV H xs rs) : MRowsV H' xs rs := ⟨h.1, fun i x hx => by
  obtain ⟨r, a, h1, h2, h3⟩ := h.2 i x hx
  exact ⟨r, a, h1, h2, k.tup h3⟩⟩
theorem MRowsV.snoc {H : Hp} {xs : List V} {rs : List MRow} (h : MRowsV H xs rs) {a : Addr} {r : MRow} (ha : H a = some (.tup r.vs)) : MRowsV H (xs ++ [.ref a]) (rs ++ [r]) := ⟨by rw [List.length_append, List.length_append, h.1]; rfl, fun i x hx => by
  rcases Nat.lt_or_ge i xs.length with z | z
  · rw [List.getElem?_append_left z] at hx
    obtain ⟨r', a', h1, h2, h3⟩ := h.2 i x hx
    exact ⟨r', a', by rw [List.getElem?_append_left (by rw [← h.1]; exact z)]; exact h1, h2, h3⟩
  · rw [List.getElem?_append_right z] at hx
    have z0 : i - xs.length = 0 := by
      rcases Nat.eq_zero_or_pos (i - xs.length) with z | z
      · exact z
      · rw [List.getElem?_eq_none (show [V.ref a].length <= _ from z)] at hx
        cases hx
    rw [z0] at hx
    cases hx
    exact ⟨r, a, by rw [List.getElem?_append_right (by rw [← h.1]; exact z), ← h.1, z0]; rfl, rfl, ha⟩⟩
theorem MacV.keep {H H' : Hp} {m : Addr} {many : Nat} {rs : List MRow} (k : Keep H H') (h : MacV H m many rs) : MacV H' m many rs := ⟨by
  obtain ⟨b, xs, h1, h2, h3⟩ := h.ex
  exact ⟨b, xs, k.tup h1, k.tup h2, h3.keep k⟩, h.m1, h.r1, h.ok⟩
theorem MacV.same {H H' : Hp} {m : Addr} {many : Nat} {rs : List MRow} (h : MacV H m many rs) (s : Same H H') : MacV H' m many rs := h.keep (Keep.of s)
def sp_l_machine : Sp := fun vs H Q _ => ∃ (a : Addr) (n mc mr : Int), vs = [.ref a, .int mc, .int mr] /\ H a = some (.lst [.int n]) /\ 0 < mc /\ mc <= 10 /\ 0 < mr /\ mr <= 10 /\
  ∀ (m : Addr) (H' : Hp) (n' : Int) (many : Nat) (rs : List MRow), But a H H' -> H' a = some (.lst [.int n']) -> MacV H' m many rs -> (many : Int) <= mc -> (rs.length : Int) <= mr -> Q (.ref m) H'
theorem ok_l_machine (T : Tx K mg) : OkD P w mg base CX0 2 T.D_l_machine sp_l_machine := by
  refine T.D_l_machine.fn.okQ sc_l_machine (fun vs H Q E h => ?_) (fun cdv A outer s H vs Q E hr h => ?_)
  · obtain ⟨a, n, mc, mr, rfl, _⟩ := h
    rfl
  · obtain ⟨a, n, mc, mr, rfl, ha, c1, c2, r1, r2, q⟩ := h
    refine ⟨_, (qss_cons (qs_sS 3 sc_l_machine (qe_op op_add qe_int (qe_cD (ok_l_takeA T) hr pass0 (qa_c (qv 0) (qa_c (qv 1) qa_nil)))))
      (qss_cons (qs_sS 4 sc_l_machine (qe_op op_add qe_int (qe_cD (ok_l_takeA T) hr pass0 (qa_c (qv 0) (qa_c (qv 2) qa_nil)))))
      (qss_cons (qs_sS 5 sc_l_machine (qe_lstA qa_nil))
      (qss_cons (qs_for PassesOwn.never rfl (qi_range1 rfl T.m_range (qa_c (qv 4) qa_nil)) (qg_nS 6 sc_l_machine)
        (qss_cons (qs_sS 7 sc_l_machine (qe_cD (ok_l_takeA T) hr pass0 (qa_c (qv 0) (qa_c (qv 3) qa_nil))))
      (qss_one (qs_if (qt_cmpR op_eq (qe_cD (ok_l_takeA T) hr pass0 (qa_c (qv 0) (qa_c qe_int qa_nil))) qe_int (nomark _))
        (qss_one (qs_expr (qe_bm PySem.F.plainAttrs_list PySem.F.slot_list_append PySem.F.type_list_append mt_appendA (qv 5) (qa_c (qe_tupA (qa_c qe_str (qa_c (qv 7) (qa_c (qe_cD (ok_l_takeA T) hr pass0 (qa_c (qv 0) (qa_c (qe_op op_add (qv 4) qe_int) qa_nil))) qa_nil)))) qa_nil))))
        (qss_one (qs_expr (qe_bm PySem.F.plainAttrs_list PySem.F.slot_list_append PySem.F.type_list_append mt_appendA (qv 5) (qa_c (qe_tupA (qa_c qe_str (qa_c (qv 7) (qa_c (qe_cD (ok_l_takeA T) hr pass0 (qa_c (qv 0) (qa_c (qe_op op_add (qv 4) qe_int) qa_nil))) (qa_c (qe_cD (ok_l_takeA T) hr pass0 (qa_c (qv 0) (qa_c (qe_op op_add (qv 4) qe_int) qa_nil))) qa_nil))))) qa_nil))))))))
      (qss_one (qs_ret (qe_tupA (qa_c (qv 3) (qa_c (qe_cT call_tuple_ofA T.m_tuple b_tuple (qa_c (qv 5) qa_nil)) qa_nil))))))))), ?_⟩
    refine ⟨_, rfl, _, rfl, a, n, mc, rfl, ha, c1, by omega, fun x1 n1 H1 x10 x11 b1 ha1 => ⟨_, _, rfl, rfl, ?_⟩⟩
    refine ⟨_, rfl, _, rfl, a, n1, mr, rfl, ha1, r1, by omega, fun x2 n2 H2 x20 x21 b2 ha2 => ⟨_, _, rfl, rfl, ?_⟩⟩
    obtain ⟨y1, rfl⟩ := Int.eq_ofNat_of_zero_le x10
    obtain ⟨y2, rfl⟩ := Int.eq_ofNat_of_zero_le x20
    refine ⟨szl, fun l H3 f3 s3 hl3 => ?_⟩
    have nal : a ≠ l := ne_of_none ha2 f3
    have b3 : But a H H3 := (b1.trans b2).trans (But.of s3)
    have fl : H l = none := by
      rcases h : H l with _ | o
      · rfl
      · exact absurd (b2 _ _ nal.symm (b1 _ _ nal.symm h)) (by rw [f3]; intro z; cases z)
    refine ⟨_, rfl, 1 + (y2 : Int), rfl, by omega, by omega, for_range (n := (1 + (y2 : Int)).toNat) (fun i σ H4 => (∃ u v : Option V, σ = [some (.ref a), some (.int mc), some (.int mr), some (.int (1 + (y1 : Int))), some (.int (1 + (y2 : Int))), some (.ref l), u, v]) /\ But a H H4 /\ (∃ n' : Int, H4 a = some (.lst [.int n'])) /\ ∃ (xs : List V) (rs : List MRow), H4 l = some (.lst xs) /\ MRowsV H4 xs rs /\ rs.length = i /\ ∀ r ∈ rs, r.ok (1 + y1) (1 + y2))
      ⟨⟨none, none, rfl⟩, b3, ⟨n2, s3 _ _ ha2⟩, [], [], hl3, ⟨rfl, fun i x hx => by cases hx⟩, rfl, fun r hr => by cases hr⟩ ?_ ?_⟩
    · rintro i σ H4 hi ⟨⟨u, v, rfl⟩, b4, ⟨n4, ha4⟩, xs, rs, hl4, hx4, hrl, hok⟩
      refine ⟨_, rfl, _, rfl, a, n4, _, rfl, ha4, by omega, by omega, fun x5 n5 H5 x50 x51 b5 ha5 => ?_⟩
      obtain ⟨y5, rfl⟩ := Int.eq_ofNat_of_zero_le x50
      refine ⟨_, rfl, a, n5, 2, rfl, ha5, by decide, by decide, fun x6 n6 H6 x60 x61 b6 ha6 => ⟨rfl, _, rfl, ?_⟩⟩
      have hl6 : H6 l = some (.lst xs) := b6 _ _ nal.symm (b5 _ _ nal.symm hl4)
      have kx6 : MRowsV H6 xs rs := hx4.keep (Keep.but (b5.trans b6) ha4 ha6)
      have fin : ∀ (H7 H8 H9 : Hp) (n7 : Int) (p : Addr) (r : MRow) (u : Option V), But a H6 H7 -> H7 a = some (.lst [.int n7]) -> H7 p = none -> Same H7 H8 -> H8 p = some (.tup r.vs) -> r.ok (1 + y1) (1 + y2) -> But l H8 H9 -> H9 l = some (.lst (xs ++ [.ref p])) ->
          (∃ u v : Option V, [some (V.ref a), some (.int mc), some (.int mr), some (.int (1 + (y1 : Int))), some (.int (1 + (y2 : Int))), some (.ref l), some (.int (0 + (i : Int))), some (.int (y5 : Int))] = [some (.ref a), some (.int mc), some (.int mr), some (.int (1 + (y1 : Int))), some (.int (1 + (y2 : Int))), some (.ref l), u, v]) /\ But a H H9 /\ (∃ n' : Int, H9 a = some (.lst [.int n'])) /\ ∃ (xs : List V) (rs : List MRow), H9 l = some (.lst xs) /\ MRowsV H9 xs rs /\ rs.length = i + 1 /\ ∀ r ∈ rs, r.ok (1 + y1) (1 + y2) := by
        intro H7 H8 H9 n7 p r u b7 ha7 f7 s8 hp8 ok8 b9 hl9
        have hl7 : H7 l = some (.lst xs) := b7 _ _ nal.symm hl6
        have k79 : Keep H8 H9 := Keep.but b9 (s8 _ _ hl7) hl9
        refine ⟨⟨_, _, rfl⟩, ?_, ⟨n7, b9 _ _ nal (s8 _ _ ha7)⟩, _, rs ++ [r], hl9, (((kx6.keep (Keep.but b7 ha6 ha7)).keep (Keep.of s8)).keep k79).snoc (k79.tup hp8), by rw [List.length_append, hrl]; rfl, ?_⟩
        · intro b o nb e
          have nbl : b ≠ l := ne_of_none e fl
          exact b9 _ _ nbl (s8 _ _ (b7 _ _ nb (b6 _ _ nb (b5 _ _ nb (b4 _ _ nb e)))))
        · intro r' hr'
          rcases List.mem_append.mp hr' with z | z
          · exact hok r' z
          · rw [List.mem_singleton.mp z]; exact ok8
      have hlen : xs.length < sizeLine := by rw [hx4.1, hrl, sizeLine_eq]; omega
      refine ite2 (fun _ => ?_) (fun _ => ?_)
      · refine ⟨_, rfl, .inl ⟨rfl, _, SqL.of hl6⟩, _, rfl, _, rfl, _, rfl, _, _, rfl, rfl, a, n6, _, rfl, ha6, by omega, by omega, fun x7 n7 H7 x70 x71 b7 ha7 => ?_⟩
        obtain ⟨y7, rfl⟩ := Int.eq_ofNat_of_zero_le x70
        refine ⟨szl, fun p H8 f8 s8 hp8 => ⟨l, xs, _, rfl, rfl, s8 _ _ (b7 _ _ nal.symm hl6), hlen, fun H9 b9 hl9 => ?_⟩⟩
        exact fin H7 H8 H9 n7 p (.add y5 y7) u b7 ha7 f8 s8 hp8 ⟨by omega, by omega⟩ b9 hl9
      · refine ⟨_, rfl, .inl ⟨rfl, _, SqL.of hl6⟩, _, rfl, _, rfl, _, rfl, _, _, rfl, rfl, a, n6, _, rfl, ha6, by omega, by omega, fun x7 n7 H7 x70 x71 b7 ha7 => ?_⟩
        obtain ⟨y7, rfl⟩ := Int.eq_ofNat_of_zero_le x70
        refine ⟨_, rfl, _, rfl, _, _, rfl, rfl, a, n7, _, rfl, ha7, by omega, by omega, fun x8 n8 H8 x80 x81 b8 ha8 => ?_⟩
        obtain ⟨y8, rfl⟩ := Int.eq_ofNat_of_zero_le x80
        refine ⟨szl, fun p H9 f9 s9 hp9 => ⟨l, xs, _, rfl, rfl, s9 _ _ (b8 _ _ nal.symm (b7 _ _ nal.symm hl6)), hlen, fun H10 b10 hl10 => ?_⟩⟩
        exact fin H8 H9 H10 n8 p (.tk y5 y7 y8) u (b7.trans b8) ha8 f9 s9 hp9 ⟨by omega, by omega, by omega⟩ b10 hl10
    · rintro σ H4 ⟨⟨u, v, rfl⟩, b4, ⟨n4, ha4⟩, xs, rs, hl4, hx4, hrl, hok⟩
      refine ⟨_, rfl, _, rfl, l, xs, rfl, SqL.of hl4, fun b H5 f5 s5 hb5 => ⟨szl, fun m H6 f6 s6 hm6 => ?_⟩⟩
      refine q m H6 n4 (1 + y1) rs (b4.trans (But.of (s5.trans s6))) (s6 _ _ (s5 _ _ ha4)) ⟨⟨b, xs, by rw [hm6]; rfl, s6 _ _ hb5, hx4.keep (Keep.of (s5.trans s6))⟩, by omega, by omega, ?_⟩ (by omega) (by omega)
      rw [hrl, show (1 + (y2 : Int)).toNat = 1 + y2 by omega]
      exact hok
def sp_l_stand : Sp := fun vs H Q _ => ∃ (a m : Addr) (n : Int) (many : Nat) (rs : List MRow), vs = [.ref a, .ref m] /\ H a = some (.lst [.int n]) /\ MacV H m many rs /\ many <= 10 /\ rs.length <= 1000 /\
  ∀ (s v : Addr) (H' : Hp) (n' : Int) (k : Nat) (es : List Int), But a H H' -> H' a = some (.lst [.int n']) -> H' s = some (.tup [.int k, .ref v]) -> H' v = some (tupI es) -> k <= rs.length -> es.length = many -> (∀ e ∈ es, 0 <= e /\ e < 5) -> Q (.ref s) H'
theorem ok_l_stand (T : Tx K mg) : OkD P w mg base CX0 2 T.D_l_stand sp_l_stand := by
  refine T.D_l_stand.fn.okQ sc_l_stand (fun vs H Q E h => ?_) (fun cdv A outer s H vs Q E hr h => ?_)
  · obtain ⟨a, m, n, many, rs, rfl, _⟩ := h
    rfl
  · obtain ⟨a, m, n, many, rs, rfl, ha, hM, m10, r1000, q⟩ := h
    refine ⟨_, (qss_one (qs_ret (qe_tupA (qa_c (qe_cD (ok_l_takeA T) hr pass0 (qa_c (qv 0) (qa_c (qe_op op_add (qe_cB call_len_seq T.m_len b_len (qa_c (qe_ix ix_tup (qv 1) qe_int (fun _ _ => rfl)) qa_nil)) qe_int) qa_nil))) (qa_c (qe_cT call_tuple_ofA T.m_tuple b_tuple (qa_c (qe_comp (cok sc_l_stand (N := ["k", "pot"]) (js := [none, some 0]) (List.forall_mem_cons.mpr ⟨rfl, (List.forall_mem_nil _)⟩)) rfl (qi_range1 rfl T.m_range (qa_c (qe_ix ix_tup (qv 1) qe_int (fun _ _ => rfl)) qa_nil)) (fun _ _ _ _ => qg_c0) (fun _ _ _ _ => qts_nil)
          (fun _ _ _ _ => (qe_cD (ok_l_takeA T) hr pass0 (qa_c (qv 1) (qa_c qe_int qa_nil))))) qa_nil)) qa_nil))))), ?_⟩
    obtain ⟨b, xs, hm, hb, hx⟩ := hM.ex
    have nma : m ≠ a := ne_of hm ha nofun
    have xl := hx.1
    refine ⟨_, rfl, _, rfl, m, _, 1, _, rfl, rfl, SqT.of hm, rfl, b, xs, rfl, .inr (SqT.of hb), _, _, rfl, rfl, a, n, _, rfl, ha, by omega, by omega, fun x1 n1 H1 x10 x11 b1 ha1 => ?_⟩
    obtain ⟨y1, rfl⟩ := Int.eq_ofNat_of_zero_le x10
    refine ⟨_, rfl, m, _, 0, _, rfl, rfl, SqT.of (b1 _ _ nma hm), rfl, many, rfl, by omega, by omega, fun D hD => ?_⟩
    refine comp_range (n := many) (by rw [sizeLine_eq]; omega) (fun i σ' H' ys => (∃ u : Option V, σ' = [u, some (.ref a)]) /\ But a H H' /\ (∃ n' : Int, H' a = some (.lst [.int n'])) /\ ∃ es : List Int, ys = es.map V.int /\ ∀ e ∈ es, 0 <= e /\ e < 5) ⟨⟨_, rfl⟩, ?_, ⟨n1, ?_⟩, [], rfl, fun e he => by cases he⟩ ?_ ?_
    · exact b1.new hD
    · rw [upd_ne (ne_of_none ha1 hD)]; exact ha1
    · rintro i σ' H' ys R hi hD' hyl ⟨⟨u, rfl⟩, b', ⟨n', ha'⟩, es, rfl, hes⟩ kk
      refine ⟨_, rfl, a, n', 5, rfl, ha', by decide, by decide, fun x2 n2 H2 x20 x21 b2 ha2 => ?_⟩
      have nDa : D ≠ a := (ne_of_none ha1 hD).symm
      refine kk _ _ _ (b2 _ _ nDa hD') ⟨⟨_, rfl⟩, ?_, ⟨n2, ?_⟩, es ++ [x2], ?_, ?_⟩
      · intro c o nc e
        rw [upd_ne (ne_of_none (b1 _ _ nc e) hD)]
        exact b2 _ _ nc (b' _ _ nc e)
      · rw [upd_ne nDa.symm]; exact ha2
      · rw [List.map_append]; rfl
      · intro e he
        rcases List.mem_append.mp he with z | z
        · exact hes e z
        · rw [List.mem_singleton.mp z]; exact ⟨x20, x21⟩
    · rintro σ' H' ys hD' hyl ⟨_, b', ⟨n', ha'⟩, es, rfl, hes⟩
      refine ⟨D, _, rfl, SqL.of hD', fun v H2 f2 s2 hv => ⟨szl, fun st H3 f3 s3 hst => ?_⟩⟩
      exact q st v H3 n' y1 es (b'.trans (But.of (s2.trans s3))) (s3 _ _ (s2 _ _ ha')) hst (s3 _ _ hv) (by omega) (by rw [← hyl, List.length_map]) hes
def sp_row_place : Sp := fun vs H Q _ => ∃ (m b : Addr) (many k : Nat) (sec : Bool), vs = [.ref m, .int k, .bl sec] /\ H m = some (.tup [.int many, .ref b]) /\ Q (.int ((many + 2 * k + (if sec then 1 else 0) : Nat) : Int)) H
theorem ok_row_place (T : Tx K mg) : OkD P w mg base CX0 1 T.D_row_place sp_row_place := by
  refine T.D_row_place.fn.okQ sc_row_place (fun vs H Q E h => ?_) (fun cdv A outer s H vs Q E hr h => ?_)
  · obtain ⟨m, b, many, k, sec, rfl, _⟩ := h
    rfl
  · obtain ⟨m, b, many, k, sec, rfl, hm, q⟩ := h
    refine ⟨_, (qss_cons (qs_sS 3 sc_row_place (qe_op op_add (qe_ix ix_tup (qv 0) qe_int (fun _ _ => rfl)) (qe_op op_mul qe_int (qv 1))))
      (qss_one (qs_ret (qe_ifExp (qt_val (qv 2)) (qe_op op_add (qv 3) qe_int) (qv 3))))), ?_⟩
    refine ⟨_, rfl, m, _, 0, _, rfl, rfl, SqT.of hm, rfl, _, rfl, _, _, rfl, rfl, .inl ⟨by decide, by decide⟩, _, _, rfl, rfl, ?_⟩
    refine ⟨_, rfl, _, rfl, ?_⟩
    cases sec with
    | true => exact iteT ⟨_, rfl, _, _, rfl, rfl, q⟩
    | false => exact iteF ⟨_, rfl, q⟩
def chgM (es : List Int) (c : Nat) (x : Int) : List Int := es.set c (es.getD c 0 + x)
def ledM (rs : List MRow) (s : Nat × List Int) : Nat × List Int :=
  match rs[s.1]? with
  | none => s
  | some (.add c n) => (n, chgM s.2 c 1)
  | some (.tk c n o) => if 0 < s.2.getD c 0 then (n, chgM s.2 c (-1)) else (o, s.2)
def goM (rs : List MRow) : Nat -> Nat × List Int -> Option (Nat × List Int)
  | 0, s => some s
  | n + 1, s => (goM rs n s).bind fun t => if t.1 < rs.length then some (ledM rs t) else none
def StOk (many : Nat) (rs : List MRow) (s : Nat × List Int) : Prop := s.1 <= rs.length /\ s.2.length = many /\ ∀ e ∈ s.2, 0 <= e
def StV (H : Hp) (a : Addr) (s : Nat × List Int) : Prop := ∃ v, H a = some (.tup [.int s.1, .ref v]) /\ H v = some (tupI s.2)
theorem StV.same {H H' : Hp} {a : Addr} {s : Nat × List Int} (h : StV H a s) (k : Same H H') : StV H' a s := by
  obtain ⟨v, h1, h2⟩ := h
  exact ⟨v, k _ _ h1, k _ _ h2⟩
theorem StV.keep {H H' : Hp} {a : Addr} {s : Nat × List Int} (h : StV H a s) (k : Keep H H') : StV H' a s := by
  obtain ⟨v, h1, h2⟩ := h
  exact ⟨v, k.tup h1, k.tup h2⟩
theorem getD_ge {es : List Int} (h : ∀ e ∈ es, 0 <= e) (c : Nat) : 0 <= es.getD c 0 := by
  rw [List.getD_eq_getElem?_getD]
  cases h2 : es[c]? with
  | none => exact Int.le_refl 0
  | some e => exact h e (List.mem_of_getElem? h2)
theorem chgM_ok {es : List Int} {c : Nat} {x : Int} (h : ∀ e ∈ es, 0 <= e) (hx : 0 <= es.getD c 0 + x) : ∀ e ∈ chgM es c x, 0 <= e := by
  intro e he
  rcases List.mem_or_eq_of_mem_set he with z | z
  · exact h e z
  · rw [z]; exact hx
theorem chgM_len {es : List Int} {c : Nat} {x : Int} : (chgM es c x).length = es.length := List.length_set
theorem ledM_ok {many : Nat} {rs : List MRow} {s : Nat × List Int} (hr : ∀ r ∈ rs, r.ok many rs.length) (h : StOk many rs s) : StOk many rs (ledM rs s) := by
  obtain ⟨h1, h2, h3⟩ := h
  unfold ledM
  cases e : rs[s.1]? with
  | none => exact ⟨h1, h2, h3⟩
  | some r =>
    have hk := hr r (List.mem_of_getElem? e)
    cases r with
    | add c n => exact ⟨hk.2, by rw [chgM_len]; exact h2, chgM_ok h3 (by have := getD_ge h3 c; omega)⟩
    | tk c n o =>
      show StOk many rs (if 0 < s.2.getD c 0 then (n, chgM s.2 c (-1)) else (o, s.2))
      split
      · exact ⟨hk.2.1, by rw [chgM_len]; exact h2, chgM_ok h3 (by omega)⟩
      · exact ⟨hk.2.2, h2, h3⟩
theorem goM_ok {many : Nat} {rs : List MRow} {s : Nat × List Int} (hr : ∀ r ∈ rs, r.ok many rs.length) (h : StOk many rs s) : ∀ {n : Nat} {t : Nat × List Int}, goM rs n s = some t -> StOk many rs t
  | 0, t, e => by cases e; exact h
  | n + 1, t, e => by
    obtain ⟨u, h1, h2⟩ := Option.bind_eq_some_iff.mp e
    split at h2
    · cases h2; exact ledM_ok hr (goM_ok hr h h1)
    · cases h2
theorem goM_succ {rs : List MRow} {s t : Nat × List Int} {n : Nat} (h : goM rs n s = some t) (hl : t.1 < rs.length) : goM rs (n + 1) s = some (ledM rs t) := by
  show (goM rs n s).bind _ = _
  rw [h]
  show (if t.1 < rs.length then some (ledM rs t) else none) = _
  rw [if_pos hl]
theorem goM_pre {rs : List MRow} {s : Nat × List Int} : ∀ {k j : Nat} {q : Nat × List Int}, goM rs k s = some q -> j <= k -> ∃ r, goM rs j s = some r
  | 0, j, q, h, hj => by rw [show j = 0 by omega]; exact ⟨q, h⟩
  | k + 1, j, q, h, hj => by
    by_cases e : j = k + 1
    · rw [e]; exact ⟨q, h⟩
    · obtain ⟨r, h1, _⟩ := Option.bind_eq_some_iff.mp h
      exact goM_pre h1 (by omega)
theorem goM_end {rs : List MRow} {s t : Nat × List Int} {n m : Nat} (h : goM rs n s = some t) (he : t.1 = rs.length) (hm : n < m) : goM rs m s = none := by
  cases hg : goM rs m s with
  | none => rfl
  | some q =>
    obtain ⟨r, hr⟩ := goM_pre hg (j := n + 1) (by omega)
    obtain ⟨u, h1, h2⟩ := Option.bind_eq_some_iff.mp hr
    rw [h] at h1
    cases h1
    rw [if_neg (by omega)] at h2
    cases h2
theorem cat3 {es : List Int} {c : Nat} {x : Int} (h : c < es.length) : (es.map V.int).take c ++ [V.int x] ++ (es.map V.int).drop (c + 1) = (es.set c x).map V.int := by
  rw [List.map_set, List.set_eq_take_append_cons_drop, if_pos (by rw [List.length_map]; exact h), List.append_assoc]
  rfl
theorem es_at {es : List Int} {c : Nat} (h : c < es.length) : (es.map V.int)[c]? = some (.int (es.getD c 0)) := by
  rw [List.getElem?_map, List.getD_eq_getElem?_getD, List.getElem?_eq_getElem h]
  rfl
def sp_changed : Sp := fun vs H Q _ => ∃ (v : Addr) (c : Nat) (x : Int) (es : List Int), vs = [.ref v, .int c, .int x] /\ H v = some (tupI es) /\ c < es.length /\ es.length <= 1000 /\ ∀ (p : Addr) (H' : Hp), Same H H' -> H' p = some (tupI (chgM es c x)) -> Q (.ref p) H'
theorem ok_changed (T : Tx K mg) : OkD P w mg base CX0 1 T.D_changed sp_changed := by
  refine T.D_changed.fn.okQ sc_changed (fun vs H Q E h => ?_) (fun cdv A outer s H vs Q E hr h => ?_)
  · obtain ⟨v, c, x, es, rfl, _⟩ := h
    rfl
  · obtain ⟨v, c, x, es, rfl, hv, hc, hl, q⟩ := h
    refine ⟨_, (qss_one (qs_ret (qe_op op_catTA (qe_op op_catTA (qe_slice sl_A (qv 0) qo_none (qo_some (qv 1))) (qe_tupA (qa_c (qe_op op_add (qe_ix ix_tup (qv 0) (qv 1) (fun _ _ => rfl)) (qv 2)) qa_nil))) (qe_slice sl_A (qv 0) (qo_some (qe_op op_add (qv 1) qe_int)) qo_none)))), ?_⟩
    refine ⟨_, rfl, _, rfl, _, rfl, v, _, rfl, hv, fun p1 H1 s1 hp1 => ?_⟩
    refine ⟨_, rfl, _, rfl, v, _, _, _, rfl, rfl, SqT.of (s1 _ _ hv), atI_nat (es_at hc), _, rfl, _, _, rfl, rfl, szl, fun p2 H2 f2 s2 hp2 => ?_⟩
    rw [cutV_pre (Int.natCast_nonneg c), Int.toNat_natCast] at hp1
    have l1 : ((es.map V.int).take c).length <= 1000 := by rw [List.length_take, List.length_map]; omega
    refine ⟨p1, p2, _, _, rfl, rfl, s2 _ _ hp1, hp2, by rw [sizeLine_eq]; show _ + 1 <= _; omega, fun p3 H3 s3 hp3 => ?_⟩
    have s13 := (s1.trans s2).trans s3
    refine ⟨_, rfl, _, rfl, _, _, rfl, rfl, _, rfl, v, _, rfl, s13 _ _ hv, fun p4 H4 s4 hp4 => ?_⟩
    rw [cutV_suf (by omega), show ((c : Int) + 1).toNat = c + 1 by omega] at hp4
    refine ⟨p3, p4, _, _, rfl, rfl, s4 _ _ hp3, hp4, ?_, fun p5 H5 s5 hp5 => q p5 H5 ((s13.trans s4).trans s5) ?_⟩
    · rw [List.length_append, List.length_drop, List.length_map, sizeLine_eq]
      show _ + 1 + _ <= _
      omega
    · rw [hp5, cat3 hc]
      rfl
def sp_next_stand : Sp := fun vs H Q _ => ∃ (b a : Addr) (xs : List V) (rs : List MRow) (many : Nat) (s : Nat × List Int), vs = [.ref b, .ref a] /\ H b = some (.tup xs) /\ MRowsV H xs rs /\ (∀ r ∈ rs, r.ok many rs.length) /\ StV H a s /\ StOk many rs s /\ many <= 1000 /\ s.1 < rs.length /\ ∀ (p : Addr) (H' : Hp), Same H H' -> StV H' p (ledM rs s) -> Q (.ref p) H'
theorem MRowsV.at {H : Hp} {xs : List V} {rs : List MRow} (h : MRowsV H xs rs) {k : Nat} (hk : k < rs.length) : ∃ r a, rs[k]? = some r /\ xs[k]? = some (.ref a) /\ H a = some (.tup r.vs) := by
  have hk' : k < xs.length := by rw [h.1]; exact hk
  obtain ⟨r, a, h1, h2, h3⟩ := h.2 k xs[k] (List.getElem?_eq_getElem hk')
  exact ⟨r, a, h1, by rw [List.getElem?_eq_getElem hk', h2], h3⟩
theorem ok_next_stand (T : Tx K mg) : OkD P w mg base CX0 2 T.D_next_stand sp_next_stand := by
  refine T.D_next_stand.fn.okQ sc_next_stand (fun vs H Q E h => ?_) (fun cdv A outer s H vs Q E hr h => ?_)
  · obtain ⟨b, a, xs, rs, many, s, rfl, _⟩ := h
    rfl
  · obtain ⟨b, a, xs, rs, many, s, rfl, hb, hx, hok, ⟨v, ha, hv⟩, hst, m10, hlt, q⟩ := h
    refine ⟨_, (qss_cons (qs_sS 2 sc_next_stand (qe_ix ix_tup (qv 0) (qe_ix ix_tup (qv 1) qe_int (fun _ _ => rfl)) (fun _ _ => rfl)))
      (qss_cons (qs_sS 3 sc_next_stand (qe_ix ix_tup (qv 1) qe_int (fun _ _ => rfl)))
      (qss_cons (qs_sS 4 sc_next_stand (qe_ix ix_tup (qv 2) qe_int (fun _ _ => rfl)))
      (qss_cons (qs_if (qt_cmpR op_eq (qe_ix ix_tup (qv 2) qe_int (fun _ _ => rfl)) qe_str (nomark _))
        (qss_one (qs_ret (qe_tupA (qa_c (qe_ix ix_tup (qv 2) qe_int (fun _ _ => rfl)) (qa_c (qe_cD (ok_changed T) hr pass0 (qa_c (qv 3) (qa_c (qv 4) (qa_c qe_int qa_nil)))) qa_nil)))))
        qss_nil)
      (qss_cons (qs_if (qt_cmpR op_gt (qe_ix ix_tup (qv 3) (qv 4) (fun _ _ => rfl)) qe_int (nomark _))
        (qss_one (qs_ret (qe_tupA (qa_c (qe_ix ix_tup (qv 2) qe_int (fun _ _ => rfl)) (qa_c (qe_cD (ok_changed T) hr pass0 (qa_c (qv 3) (qa_c (qv 4) (qa_c (qe_un un_neg qe_int) qa_nil)))) qa_nil)))))
        qss_nil)
      (qss_one (qs_ret (qe_tupA (qa_c (qe_ix ix_tup (qv 2) qe_int (fun _ _ => rfl)) (qa_c (qv 3) qa_nil)))))))))), ?_⟩
    obtain ⟨r, ra, hr1, hr2, hr3⟩ := hx.at hlt
    have rok := hok r (List.mem_of_getElem? hr1)
    have el := hst.2.1
    refine ⟨_, rfl, _, rfl, a, _, 0, _, rfl, rfl, SqT.of ha, rfl, b, _, _, _, rfl, rfl, SqT.of hb, atI_nat hr2, ?_⟩
    refine ⟨_, rfl, a, _, 1, _, rfl, rfl, SqT.of ha, rfl, ?_⟩
    cases r with
    | add c n =>
      have e : ledM rs s = (n, chgM s.2 c 1) := by unfold ledM; rw [hr1]
      rw [e] at q
      refine ⟨_, rfl, ra, _, 1, _, rfl, rfl, SqT.of hr3, rfl, _, rfl, ra, _, 0, _, rfl, rfl, SqT.of hr3, rfl, rfl, _, rfl, iteT ?_⟩
      refine ⟨_, rfl, ra, _, 2, _, rfl, rfl, SqT.of hr3, rfl, _, rfl, _, rfl, v, c, 1, s.2, rfl, hv, by rw [el]; exact rok.1, by omega, fun p1 H1 s1 hp1 => ?_⟩
      exact ⟨szl, fun p2 H2 f2 s2 hp2 => q p2 H2 (s1.trans s2) ⟨p1, hp2, s2 _ _ hp1⟩⟩
    | tk c n o =>
      have e : ledM rs s = if 0 < s.2.getD c 0 then (n, chgM s.2 c (-1)) else (o, s.2) := by unfold ledM; rw [hr1]
      rw [e] at q
      have hc : c < s.2.length := by rw [el]; exact rok.1
      refine ⟨_, rfl, ra, _, 1, _, rfl, rfl, SqT.of hr3, rfl, _, rfl, ra, _, 0, _, rfl, rfl, SqT.of hr3, rfl, rfl, _, rfl, iteF ?_⟩
      refine ⟨_, rfl, _, rfl, v, _, _, _, rfl, rfl, SqT.of hv, atI_nat (es_at hc), _, _, rfl, rfl, _, rfl, ite2 (fun h => ?_) (fun h => ?_)⟩
      · have h0 : 0 < s.2.getD c 0 := of_decide_eq_true h
        rw [if_pos h0] at q
        refine ⟨_, rfl, ra, _, 2, _, rfl, rfl, SqT.of hr3, rfl, _, rfl, _, rfl, ?_⟩
        refine ⟨_, rfl, v, c, -1, s.2, rfl, hv, hc, by omega, fun p1 H1 s1 hp1 => ?_⟩
        exact ⟨szl, fun p2 H2 f2 s2 hp2 => q p2 H2 (s1.trans s2) ⟨p1, hp2, s2 _ _ hp1⟩⟩
      · have h0 : ¬ 0 < s.2.getD c 0 := fun z => h (decide_eq_true z)
        rw [if_neg h0] at q
        exact ⟨_, rfl, ra, _, 3, _, rfl, rfl, SqT.of hr3, rfl, _, rfl, szl, fun p2 H2 f2 s2 hp2 => q p2 H2 s2 ⟨v, hp2, s2 _ _ hv⟩⟩
theorem ok_init_AtRest (T : Tx K mg) : FnOk P w K mg base CX0 1 T.f_init_AtRest T.fd_init_AtRest ["self", "steps"] (sp_init T.c_AtRest "steps") := by
  refine T.N_AtRest.okQ sc_init_AtRest (fun vs H Q E h => ?_) (fun cdv A outer s H vs Q E hr h => ?_)
  · obtain ⟨e, t, v, rfl, _⟩ := h
    rfl
  · obtain ⟨e, t, v, rfl, he, q⟩ := h
    refine ⟨_, (qss_one (qs_fldX rfl (qv 0) (qv 1) rfl)), ?_⟩
    obtain ⟨cd, c1, c2, c3⟩ := T.I_AtRest.cls
    refine ⟨_, rfl, _, rfl, e, T.c_AtRest, T.c_FractError, t, cd, rfl, he, c1, c2, c3, T.I_AtRest.xc.ob, T.I_AtRest.sa, ?_, fun dx hdx => q dx hdx⟩
    show PySem.W.takerIn K T.c_AtRest "steps" = some none
    unfold PySem.W.takerIn
    rw [T.FA_AtRest]
    rfl
end
end W2
namespace W2
open PySem L2 Mth Xn
section
variable {P : Program} {w : World} {K : PySem.W.Frag} {mg : Str -> Option Value} {base : Heap}
def prN (i : Nat) : Nat := primes.getD i 1
def eV (l : List Nat) : List Nat := (List.range 10).map fun k => l.count k
theorem eV_get (l : List Nat) (k : Nat) : (eV l).getD k 0 = if k < 10 then l.count k else 0 := by
  unfold eV
  rw [List.getD_eq_getElem?_getD, List.getElem?_map]
  by_cases h : k < 10
  · rw [List.getElem?_range h, if_pos h]
    rfl
  · rw [List.getElem?_eq_none (by rw [List.length_range]; omega), if_neg h]
    rfl
theorem eV_dis {l m : List Nat} (h : ∀ a ∈ l, a ∉ m) (k : Nat) : (eV l).getD k 0 = 0 ∨ (eV m).getD k 0 = 0 := by
  rw [eV_get, eV_get]
  by_cases hk : k < 10
  · rw [if_pos hk, if_pos hk]
    by_cases hm : k ∈ l
    · exact .inr (List.count_eq_zero.mpr (h k hm))
    · exact .inl (List.count_eq_zero.mpr hm)
  · exact .inl (if_neg hk)
theorem eV1 : ∀ c : Fin 11, prod (eV [c.val]) = prN c.val /\ (eV [c.val]).sum <= 3 := by decide +kernel
theorem eV2 : ∀ c x : Fin 11, prod (eV [c.val, x.val]) = prN c.val * prN x.val /\ (eV [c.val, x.val]).sum <= 3 := by decide +kernel
theorem fr21 {c x y : Nat} (hc : c <= 10) (hx : x <= 10) (hy : y <= 10) (h1 : c ≠ y) (h2 : x ≠ y) : fracB ((prN c * prN x : Nat) : Int) ((prN y : Nat) : Int) = true := by
  obtain ⟨e1, e2⟩ := eV2 ⟨c, by omega⟩ ⟨x, by omega⟩
  obtain ⟨e3, e4⟩ := eV1 ⟨y, by omega⟩
  simp only at e1 e2 e3 e4
  rw [← e1, ← e3]
  refine fracB_prod e2 e4 (eV_dis ?_)
  intro a ha
  simp only [List.mem_cons, List.not_mem_nil, or_false] at ha ⊢
  omega
theorem fr12 {c x y : Nat} (hc : c <= 10) (hx : x <= 10) (hy : y <= 10) (h1 : c ≠ x) (h2 : x ≠ y) : fracB ((prN x : Nat) : Int) ((prN y * prN c : Nat) : Int) = true := by
  obtain ⟨e1, e2⟩ := eV2 ⟨y, by omega⟩ ⟨c, by omega⟩
  obtain ⟨e3, e4⟩ := eV1 ⟨x, by omega⟩
  simp only at e1 e2 e3 e4
  rw [← e1, ← e3]
  refine fracB_prod e4 e2 (eV_dis ?_)
  intro a ha
  simp only [List.mem_cons, List.not_mem_nil, or_false] at ha ⊢
  omega
theorem fr11 {x y : Nat} (hx : x <= 10) (hy : y <= 10) (h2 : x ≠ y) : fracB ((prN x : Nat) : Int) ((prN y : Nat) : Int) = true := by
  obtain ⟨e1, e2⟩ := eV1 ⟨y, by omega⟩
  obtain ⟨e3, e4⟩ := eV1 ⟨x, by omega⟩
  simp only at e1 e2 e3 e4
  rw [← e1, ← e3]
  refine fracB_prod e4 e2 (eV_dis ?_)
  intro a ha
  simp only [List.mem_cons, List.not_mem_nil, or_false] at ha ⊢
  omega
def rowX (many size n sec : Nat) : Nat := if n = size then 10 else many + 2 * n + sec
def rowF (many size k sec : Nat) : MRow -> List (Int × Int)
  | .add c n => [(((prN c * prN (rowX many size n (1 - sec)) : Nat) : Int), ((prN (many + 2 * k + sec) : Nat) : Int))]
  | .tk c n o => [(((prN (rowX many size n (1 - sec)) : Nat) : Int), ((prN (many + 2 * k + sec) * prN c : Nat) : Int)), (((prN (rowX many size o (1 - sec)) : Nat) : Int), ((prN (many + 2 * k + sec) : Nat) : Int))]
theorem rowF_ok {many size k sec : Nat} {r : MRow} (h : r.ok many size) (hk : k < size) (hs : sec <= 1) (h10 : many + 2 * size <= 10) : ∀ f ∈ rowF many size k sec r, fracB f.1 f.2 = true := by
  have X : ∀ n, n <= size -> rowX many size n (1 - sec) <= 10 /\ rowX many size n (1 - sec) ≠ many + 2 * k + sec /\ many <= rowX many size n (1 - sec) := by
    intro n hn
    unfold rowX
    split <;> omega
  cases r with
  | add c n =>
    obtain ⟨h1, h2⟩ := h
    obtain ⟨x1, x2, x3⟩ := X n h2
    intro f hf
    rw [List.mem_singleton.mp hf]
    exact fr21 (by omega) x1 (by omega) (by omega) x2
  | tk c n o =>
    obtain ⟨h1, h2, h3⟩ := h
    obtain ⟨x1, x2, x3⟩ := X n h2
    obtain ⟨y1, y2, y3⟩ := X o h3
    intro f hf
    rcases List.mem_cons.mp hf with z | z
    · rw [z]; exact fr12 (by omega) x1 (by omega) (by omega) x2
    · rw [List.mem_singleton.mp z]; exact fr11 y1 (by omega) y2
def progT (many : Nat) (rs : List MRow) : Nat -> List (Int × Int)
  | 0 => []
  | k + 1 => progT many rs k ++ (match rs[k]? with
    | some r => rowF many rs.length k 0 r ++ rowF many rs.length k 1 r
    | none => [])
theorem rowF_len {many size k sec : Nat} {r : MRow} : (rowF many size k sec r).length <= 2 /\ 1 <= (rowF many size k sec r).length := by
  cases r with
  | add c n => exact ⟨Nat.le_succ 1, Nat.le_refl 1⟩
  | tk c n o => exact ⟨Nat.le_refl 2, Nat.le_succ 1⟩
theorem progT_succ {many : Nat} {rs : List MRow} {k : Nat} {r : MRow} (h : rs[k]? = some r) : progT many rs (k + 1) = progT many rs k ++ rowF many rs.length k 0 r ++ rowF many rs.length k 1 r := by
  show progT many rs k ++ _ = _
  rw [h, List.append_assoc]
theorem progT_len {many : Nat} {rs : List MRow} : ∀ k, (progT many rs k).length <= 4 * k
  | 0 => Nat.le_refl 0
  | k + 1 => by
    have := progT_len (many := many) (rs := rs) k
    cases h : rs[k]? with
    | none =>
      show (progT many rs k ++ _).length <= _
      rw [h, List.length_append]
      show _ + 0 <= _
      omega
    | some r =>
      rw [progT_succ h, List.length_append, List.length_append]
      have a := rowF_len (many := many) (size := rs.length) (k := k) (sec := 0) (r := r)
      have b := rowF_len (many := many) (size := rs.length) (k := k) (sec := 1) (r := r)
      omega
theorem FrcsV.app {H : Hp} {xs ys : List V} {fs gs : List (Int × Int)} (h : FrcsV H xs fs) (h' : FrcsV H ys gs) : FrcsV H (xs ++ ys) (fs ++ gs) := ⟨by rw [List.length_append, List.length_append, h.1, h'.1], fun k x hx => by
  rcases Nat.lt_or_ge k xs.length with z | z
  · rw [List.getElem?_append_left z] at hx
    rw [List.getElem?_append_left (by rw [← h.1]; exact z)]
    exact h.2 k x hx
  · rw [List.getElem?_append_right z] at hx
    rw [List.getElem?_append_right (by rw [← h.1]; exact z), ← h.1]
    exact h'.2 _ x hx⟩
theorem frcs1 {H : Hp} {c : Addr} {i j : Int} (h : H c = some (.tup [.int i, .int j])) (f : fracB i j = true) : FrcsV H [V.ref c] [(i, j)] := ⟨rfl, fun k x e => by
  match k, e with
  | 0, e => cases e; exact ⟨i, j, c, rfl, rfl, h, f⟩
  | k + 1, e => cases e⟩
theorem frcs0 {H : Hp} : FrcsV H [] [] := ⟨rfl, fun k x e => by cases e⟩
theorem prV_at : ∀ i : Fin 10, primesV[i.val]? = some (.int ((prN i.val : Nat) : Int)) := by
  intro i
  match i with
  | ⟨0, _⟩ => rfl
  | ⟨1, _⟩ => rfl
  | ⟨2, _⟩ => rfl
  | ⟨3, _⟩ => rfl
  | ⟨4, _⟩ => rfl
  | ⟨5, _⟩ => rfl
  | ⟨6, _⟩ => rfl
  | ⟨7, _⟩ => rfl
  | ⟨8, _⟩ => rfl
  | ⟨9, _⟩ => rfl
theorem prV_at' {i : Nat} (h : i < 10) : atI primesV (i : Int) = some (.int ((prN i : Nat) : Int)) := atI_nat (prV_at ⟨i, h⟩)
theorem prN_le : ∀ i, i <= 10 -> prN i <= 29 := by decide +kernel
def sp_row_prime : Sp := fun vs H Q _ => ∃ (m : Addr) (many n : Nat) (rs : List MRow) (sec : Bool), vs = [.ref m, .int n, .bl sec] /\ MacV H m many rs /\ n <= rs.length /\ many + 2 * rs.length <= 10 /\ Q (.int ((prN (rowX many rs.length n (if sec then 1 else 0)) : Nat) : Int)) H
theorem ok_row_prime (T : Tx K mg) : OkD P w mg base CX0 2 T.D_row_prime sp_row_prime := by
  refine T.D_row_prime.fn.okQ sc_row_prime (fun vs H Q E h => ?_) (fun cdv A outer s H vs Q E hr h => ?_)
  · obtain ⟨m, many, n, rs, sec, rfl, _⟩ := h
    rfl
  · obtain ⟨m, many, n, rs, sec, rfl, hM, hn, h10, q⟩ := h
    refine ⟨_, (qss_cons (qs_if (qt_cmpR op_eq (qv 1) (qe_cB call_len_seq T.m_len b_len (qa_c (qe_ix ix_tup (qv 0) qe_int (fun _ _ => rfl)) qa_nil)) (nomark _))
        (qss_one (qs_ret qe_int))
        qss_nil)
      (qss_one (qs_ret (qe_ix ix_tup (qe_glob (v := .ref T.a_PRIMES) (by rfl) T.g_PRIMES rfl) (qe_cD (ok_row_place T) hr pass0 (qa_c (qv 0) (qa_c (qv 1) (qa_c (qv 2) qa_nil)))) (fun _ _ => rfl))))), ?_⟩
    obtain ⟨b, xs, hm, hb, hx⟩ := hM.ex
    have xl := hx.1
    refine ⟨_, rfl, _, rfl, m, _, 1, _, rfl, rfl, SqT.of hm, rfl, b, _, rfl, .inr (SqT.of hb), rfl, _, rfl, ite2 (fun h => ?_) (fun h => ?_)⟩
    · have h0 : n = rs.length := by have := int_eq0 h; omega
      unfold rowX at q
      rw [if_pos h0] at q
      exact q
    · have h0 : n ≠ rs.length := by have := int_ne0 h; omega
      unfold rowX at q
      rw [if_neg h0] at q
      refine ⟨_, rfl, _, rfl, _, rfl, m, b, many, n, sec, rfl, hm, T.a_PRIMES, primesV, _, _, rfl, rfl, T.t_PRIMES H, prV_at' ?_, q⟩
      cases sec
      · show many + 2 * n + 0 < 10; omega
      · show many + 2 * n + 1 < 10; omega
def sp_row_fractions : Sp := fun vs H Q _ => ∃ (m : Addr) (many k : Nat) (rs : List MRow) (r : MRow) (sec : Bool), vs = [.ref m, .int k, .bl sec] /\ MacV H m many rs /\ rs[k]? = some r /\ many + 2 * rs.length <= 10 /\
  ∀ (l : Addr) (H' : Hp) (xs : List V), H l = none -> Same H H' -> H' l = some (.lst xs) -> FrcsV H' xs (rowF many rs.length k (if sec then 1 else 0) r) -> Q (.ref l) H'
theorem ok_row_fractions (T : Tx K mg) : OkD P w mg base CX0 3 T.D_row_fractions sp_row_fractions := by
  refine T.D_row_fractions.fn.okQ sc_row_fractions (fun vs H Q E h => ?_) (fun cdv A outer s H vs Q E hr h => ?_)
  · obtain ⟨m, many, k, rs, r, sec, rfl, _⟩ := h
    rfl
  · obtain ⟨m, many, k, rs, r, sec, rfl, hM, hr0, h10, q⟩ := h
    refine ⟨_, (qss_cons (qs_sS 3 sc_row_fractions (qe_ix ix_tup (qe_ix ix_tup (qv 0) qe_int (fun _ _ => rfl)) (qv 1) (fun _ _ => rfl)))
      (qss_cons (qs_sS 4 sc_row_fractions (qe_ix ix_tup (qe_glob (v := .ref T.a_PRIMES) (by rfl) T.g_PRIMES rfl) (qe_ix ix_tup (qv 3) qe_int (fun _ _ => rfl)) (fun _ _ => rfl)))
      (qss_cons (qs_sS 5 sc_row_fractions (qe_cD (ok_row_prime T) hr pass0 (qa_c (qv 0) (qa_c (qv 1) (qa_c (qv 2) qa_nil)))))
      (qss_cons (qs_sS 6 sc_row_fractions (qe_cD (ok_row_prime T) hr pass0 (qa_c (qv 0) (qa_c (qe_ix ix_tup (qv 3) qe_int (fun _ _ => rfl)) (qa_c (qe_not (qv 2)) qa_nil)))))
      (qss_cons (qs_if (qt_cmpR op_eq (qe_ix ix_tup (qv 3) qe_int (fun _ _ => rfl)) qe_str (nomark _))
        (qss_one (qs_ret (qe_lstA (qa_c (qe_tupA (qa_c (qe_op op_mul (qv 4) (qv 6)) (qa_c (qv 5) qa_nil))) qa_nil))))
        qss_nil)
      (qss_one (qs_ret (qe_lstA (qa_c (qe_tupA (qa_c (qv 6) (qa_c (qe_op op_mul (qv 5) (qv 4)) qa_nil))) (qa_c (qe_tupA (qa_c (qe_cD (ok_row_prime T) hr pass0 (qa_c (qv 0) (qa_c (qe_ix ix_tup (qv 3) qe_int (fun _ _ => rfl)) (qa_c (qe_not (qv 2)) qa_nil)))) (qa_c (qv 5) qa_nil))) qa_nil)))))))))), ?_⟩
    obtain ⟨b, xs, hm, hb, hx⟩ := hM.ex
    have hk : k < rs.length := (List.getElem?_eq_some_iff.mp hr0).1
    obtain ⟨r', ra, hr1, hr2, hr3⟩ := hx.at hk
    rw [hr0] at hr1
    cases hr1
    have rok := hM.ok r (List.mem_of_getElem? hr0)
    have s1 : (if sec = true then 1 else 0) <= 1 := by cases sec <;> decide
    have fok := rowF_ok (sec := if sec = true then 1 else 0) rok hk s1 h10
    have eown : rowX many rs.length k (if sec = true then 1 else 0) = many + 2 * k + (if sec = true then 1 else 0) := if_neg (by omega)
    have enot : (if (!sec) = true then 1 else 0) = 1 - (if sec = true then 1 else 0) := by cases sec <;> rfl
    refine ⟨_, rfl, m, _, 1, _, rfl, rfl, SqT.of hm, rfl, _, rfl, b, _, _, _, rfl, rfl, SqT.of hb, atI_nat hr2, ?_⟩
    cases r with
    | add c n =>
      refine ⟨_, rfl, ra, _, 1, _, rfl, rfl, SqT.of hr3, rfl, T.a_PRIMES, primesV, _, _, rfl, rfl, T.t_PRIMES H, prV_at' (by have := rok.1; omega), ?_⟩
      refine ⟨_, rfl, _, rfl, _, rfl, m, many, k, rs, sec, rfl, hM, by omega, h10, ?_⟩
      refine ⟨_, rfl, _, rfl, ra, _, 2, _, rfl, rfl, SqT.of hr3, rfl, _, rfl, _, rfl, m, many, n, rs, !sec, rfl, hM, rok.2, h10, ?_⟩
      rw [enot, eown]
      refine ⟨_, rfl, ra, _, 0, _, rfl, rfl, SqT.of hr3, rfl, rfl, _, rfl, iteT ?_⟩
      have pc := prN_le c (by have := rok.1; omega)
      refine ⟨_, rfl, _, rfl, _, _, rfl, rfl, .inl ⟨by omega, by omega⟩, _, rfl, szl, fun p1 H1 f1 s1 hp1 => ⟨szl, fun l H2 f2 s2 hl => ?_⟩⟩
      refine q l H2 _ (s1.free f2) (s1.trans s2) hl (frcs1 ?_ (fok _ List.mem_cons_self))
      rw [s2 _ _ hp1, Int.natCast_mul]
    | tk c n o =>
      refine ⟨_, rfl, ra, _, 1, _, rfl, rfl, SqT.of hr3, rfl, T.a_PRIMES, primesV, _, _, rfl, rfl, T.t_PRIMES H, prV_at' (by have := rok.1; omega), ?_⟩
      refine ⟨_, rfl, _, rfl, _, rfl, m, many, k, rs, sec, rfl, hM, by omega, h10, ?_⟩
      refine ⟨_, rfl, _, rfl, ra, _, 2, _, rfl, rfl, SqT.of hr3, rfl, _, rfl, _, rfl, m, many, n, rs, !sec, rfl, hM, rok.2.1, h10, ?_⟩
      rw [enot, eown]
      refine ⟨_, rfl, ra, _, 0, _, rfl, rfl, SqT.of hr3, rfl, rfl, _, rfl, iteF ?_⟩
      have pc := prN_le (many + 2 * k + (if sec = true then 1 else 0)) (by omega)
      refine ⟨_, rfl, _, rfl, _, rfl, _, _, rfl, rfl, .inl ⟨by omega, by omega⟩, szl, fun p1 H1 f1 s1 hp1 => ?_⟩
      refine ⟨_, rfl, _, rfl, ra, _, 3, _, rfl, rfl, SqT.of (s1 _ _ hr3), rfl, _, rfl, _, rfl, m, many, o, rs, !sec, rfl, hM.same s1, rok.2.2, h10, ?_⟩
      rw [enot]
      refine ⟨_, rfl, szl, fun p2 H2 f2 s2 hp2 => ⟨szl, fun l H3 f3 s3 hl => ?_⟩⟩
      refine q l H3 _ (s1.free (s2.free f3)) ((s1.trans s2).trans s3) hl ((frcs1 ?_ (fok _ List.mem_cons_self)).app (frcs1 (s3 _ _ hp2) (fok _ (List.mem_cons_of_mem _ List.mem_cons_self))))
      rw [s3 _ _ (s2 _ _ hp1), Int.natCast_mul]
def sp_program_of : Sp := fun vs H Q _ => ∃ (m : Addr) (many : Nat) (rs : List MRow), vs = [.ref m] /\ MacV H m many rs /\ many + 2 * rs.length <= 10 /\
  ∀ (p : Addr) (H' : Hp) (xs : List V), Same H H' -> H' p = some (.tup xs) -> FrcsV H' xs (progT many rs rs.length) -> Q (.ref p) H'
theorem ok_program_of (T : Tx K mg) : OkD P w mg base CX0 4 T.D_program_of sp_program_of := by
  refine T.D_program_of.fn.okQ sc_program_of (fun vs H Q E h => ?_) (fun cdv A outer s H vs Q E hr h => ?_)
  · obtain ⟨m, many, rs, rfl, _⟩ := h
    rfl
  · obtain ⟨m, many, rs, rfl, hM, h10, q1⟩ := h
    refine ⟨_, (qss_cons (qs_sS 1 sc_program_of (qe_ix ix_tup (qv 0) qe_int (fun _ _ => rfl)))
      (qss_cons (qs_sS 2 sc_program_of (qe_ix ix_tup (qv 0) qe_int (fun _ _ => rfl)))
      (qss_cons (qs_if (qt_cmpR op_gt (qe_op op_add (qv 1) (qe_op op_mul qe_int (qe_cB call_len_seq T.m_len b_len (qa_c (qv 2) qa_nil)))) (qe_cB call_len_seq T.m_len b_len (qa_c (qe_glob (v := .ref T.a_PRIMES) (by rfl) T.g_PRIMES rfl) qa_nil)) (nomark _))
        (qss_one qs_never)
        qss_nil)
      (qss_cons (qs_sS 3 sc_program_of (qe_lstA qa_nil))
      (qss_cons (qs_for PassesOwn.never rfl (qi_range1 rfl T.m_range (qa_c (qe_cB call_len_seq T.m_len b_len (qa_c (qv 2) qa_nil)) qa_nil)) (qg_nS 4 sc_program_of)
        (qss_one (qs_for PassesOwn.never rfl (qi_tup (qe_tupA (qa_c qe_bl (qa_c qe_bl qa_nil)))) (qg_nS 5 sc_program_of)
        (qss_one (qs_expr (qe_bm PySem.F.plainAttrs_list PySem.F.slot_list_extend PySem.F.type_list_extend mt_extend (qv 3) (qa_c (qe_cD (ok_row_fractions T) hr pass0 (qa_c (qv 0) (qa_c (qv 4) (qa_c (qv 5) qa_nil)))) qa_nil)))))))
      (qss_one (qs_ret (qe_cT call_tuple_ofA T.m_tuple b_tuple (qa_c (qv 3) qa_nil))))))))), ?_⟩
    obtain ⟨b, xs, hm, hb, hx⟩ := hM.ex
    have xl := hx.1
    refine ⟨_, rfl, m, _, 0, _, rfl, rfl, SqT.of hm, rfl, _, rfl, m, _, 1, _, rfl, rfl, SqT.of hm, rfl, ?_⟩
    refine ⟨_, rfl, _, rfl, b, _, rfl, .inr (SqT.of hb), _, _, rfl, rfl, .inl ⟨by decide, by decide⟩, _, _, rfl, rfl, _, _, rfl, .inr (T.t_PRIMES H), _, _, rfl, rfl, _, rfl, ite2 (fun h => ?_) (fun h => ?_)⟩
    · have h0 : (10 : Int) < (many : Int) + 2 * (xs.length : Int) := of_decide_eq_true h
      exfalso
      omega
    · have h0 : ¬ (10 : Int) < (many : Int) + 2 * (xs.length : Int) := fun z => h (decide_eq_true z)
      refine ⟨szl, fun l H1 f1 s1 hl1 => ?_⟩
      refine ⟨_, rfl, b, _, rfl, .inr (SqT.of (s1 _ _ hb)), xs.length, rfl, by omega, by omega, for_range (n := xs.length) (fun i σ H2 => (∃ u v : Option V, σ = [some (.ref m), some (.int (many : Int)), some (.ref b), some (.ref l), u, v]) /\ Same H H2 /\ ∃ ys, H2 l = some (.lst ys) /\ FrcsV H2 ys (progT many rs i)) ⟨⟨_, _, rfl⟩, s1, [], hl1, frcs0⟩ ?_ ?_⟩
      · rintro i σ H2 hi ⟨⟨u, v, rfl⟩, s2, ys, hl2, hf2⟩
        have hri : i < rs.length := by omega
        obtain ⟨r, hr0⟩ : ∃ r, rs[i]? = some r := ⟨rs[i], List.getElem?_eq_getElem hri⟩
        have hlen2 : ys.length <= 4 * i := by rw [hf2.1]; exact progT_len i
        refine ⟨szl, fun t H3 f3 s3 ht3 => ?_⟩
        refine ⟨t, rfl, ⟨_, SqT.of ht3⟩, for_tup (K := K) (a := t) (xs := [.bl false, .bl true]) (fun j σ H4 => (∃ v : Option V, σ = [some (.ref m), some (.int (many : Int)), some (.ref b), some (.ref l), some (.int (0 + (i : Int))), v]) /\ Same H H4 /\ H4 t = some (.tup [.bl false, .bl true]) /\ ∃ zs, H4 l = some (.lst zs) /\ FrcsV H4 zs (progT many rs i ++ (if 0 < j then rowF many rs.length i 0 r else []) ++ (if 1 < j then rowF many rs.length i 1 r else []))) ⟨⟨_, rfl⟩, s2.trans s3, ht3, ys, s3 _ _ hl2, ?_⟩ (fun j σ H4 _ ⟨_, _, h, _⟩ => SqT.of h) ?_ ?_⟩
        · show FrcsV H3 ys (progT many rs i ++ [] ++ [])
          rw [List.append_nil, List.append_nil]
          exact hf2.same s3
        · rintro j x σ H4 hx4 ⟨⟨v', rfl⟩, s4, ht4, zs, hl4, hf4⟩
          obtain ⟨sec, rfl, hj⟩ : ∃ sec : Bool, x = .bl sec /\ j = (if sec = true then 1 else 0) := by
            match j, hx4 with
            | 0, hx4 => cases hx4; exact ⟨false, rfl, rfl⟩
            | 1, hx4 => cases hx4; exact ⟨true, rfl, rfl⟩
            | j + 2, hx4 => cases hx4
          refine ⟨_, rfl, .inl ⟨rfl, _, SqL.of hl4⟩, _, rfl, _, rfl, _, rfl, m, many, i, rs, r, sec, by rw [Int.zero_add]; rfl, hM.same s4, hr0, h10, fun d H5 ws f5 s5 hd5 hf5 => ?_⟩
          have hzl : zs.length + ws.length <= 100 := by
            have e1 := hf4.1
            have e2 := hf5.1
            have a := rowF_len (many := many) (size := rs.length) (k := i) (sec := (if sec = true then 1 else 0)) (r := r)
            have a0 := rowF_len (many := many) (size := rs.length) (k := i) (sec := 0) (r := r)
            have a1 := rowF_len (many := many) (size := rs.length) (k := i) (sec := 1) (r := r)
            have pl := progT_len (many := many) (rs := rs) i
            rw [List.length_append, List.length_append] at e1
            have b0 : (if 0 < j then rowF many rs.length i 0 r else []).length <= 2 := by
              split
              · exact a0.1
              · exact Nat.zero_le _
            have b1 : (if 1 < j then rowF many rs.length i 1 r else []).length <= 2 := by
              split
              · exact a1.1
              · exact Nat.zero_le _
            omega
          refine ⟨l, d, zs, ws, rfl, rfl, s5 _ _ hl4, hd5, by rw [sizeLine_eq]; omega, ⟨⟨_, rfl⟩, ?_, ?_, zs ++ ws, upd_same, ?_⟩⟩
          · intro c o e
            rw [upd_ne (ne_of_none e f1)]
            exact s5 _ _ (s4 _ _ e)
          · rw [upd_ne (ne_of ht4 hl4 nofun)]
            exact s5 _ _ ht4
          · have key : FrcsV H5 (zs ++ ws) (progT many rs i ++ (if 0 < j then rowF many rs.length i 0 r else []) ++ (if 1 < j then rowF many rs.length i 1 r else []) ++ rowF many rs.length i (if sec = true then 1 else 0) r) := (hf4.same s5).app hf5
            have e : progT many rs i ++ (if 0 < j then rowF many rs.length i 0 r else []) ++ (if 1 < j then rowF many rs.length i 1 r else []) ++ rowF many rs.length i (if sec = true then 1 else 0) r = progT many rs i ++ (if 0 < j + 1 then rowF many rs.length i 0 r else []) ++ (if 1 < j + 1 then rowF many rs.length i 1 r else []) := by
              subst hj
              cases sec
              · show progT many rs i ++ [] ++ [] ++ rowF many rs.length i 0 r = progT many rs i ++ rowF many rs.length i 0 r ++ []
                rw [List.append_nil, List.append_nil, List.append_nil]
              · show progT many rs i ++ rowF many rs.length i 0 r ++ [] ++ rowF many rs.length i 1 r = progT many rs i ++ rowF many rs.length i 0 r ++ rowF many rs.length i 1 r
                rw [List.append_nil]
            rw [← e]
            exact key.but (s5 _ _ hl4) But.upd
        · rintro σ H4 ⟨⟨v', rfl⟩, s4, ht4, zs, hl4, hf4⟩
          refine ⟨⟨_, _, rfl⟩, s4, zs, hl4, ?_⟩
          rw [progT_succ hr0]
          exact hf4
      · rintro σ H2 ⟨⟨u, v, rfl⟩, s2, ys, hl2, hf2⟩
        rw [xl] at hf2
        exact ⟨_, rfl, l, _, rfl, SqL.of hl2, fun p H3 f3 s3 hp => q1 p H3 ys (s2.trans s3) hp (hf2.same s3)⟩
def sp_how_often : Sp := fun vs H Q _ => ∃ (p : Nat) (m : Int), vs = [.int (p : Int), .int m] /\ 2 <= p /\ p < 30 /\ 1 <= m /\ Q (.int (cnt p m.toNat : Nat)) H
theorem ok_how_often (T : Tx K mg) : OkD P w mg base CX0 1 T.D_how_often sp_how_often := by
  refine T.D_how_often.fn.okQ sc_how_often (fun vs H Q E h => ?_) (fun cdv A outer s H vs Q E hr h => ?_)
  · obtain ⟨p, m, rfl, _⟩ := h
    rfl
  · obtain ⟨p, m, rfl, hp2, hp30, hm, q⟩ := h
    refine ⟨_, (qss_cons (qs_sS 2 sc_how_often qe_int)
      (qss_cons (qs_sS 3 sc_how_often (qv 1))
      (qss_cons (qs_while PassesOwn.never (qt_cmpR op_eq (qe_op op_mod (qv 3) (qv 0)) qe_int (nomark _))
        (qss_cons (qs_sS 3 sc_how_often (qe_op op_fdiv (qv 3) (qv 0)))
      (qss_one (qs_sS 2 sc_how_often (qe_op op_add (qv 2) qe_int)))))
      (qss_one (qs_ret (qv 2)))))), ?_⟩
    refine ⟨_, rfl, ?_⟩
    refine while_own (fun σ H3 => ∃ o r : Nat, σ = [some (.int (p : Int)), some (.int m), some (.int (o : Int)), some (.int (r : Int))] /\ 1 <= r /\ o + cnt p r = cnt p m.toNat /\ H3 = H) (fun σ _ => natAt σ 3) ⟨0, m.toNat, by rw [Int.toNat_of_nonneg (by omega)]; rfl, by omega, Nat.zero_add _, rfl⟩ ?_
    rintro σ H3 ⟨o, r, rfl, hr1, hro, rfl⟩
    refine ⟨_, rfl, _, rfl, _, _, rfl, rfl, (by show (0 : Int) < p; omega), rfl, _, rfl, ite2 (fun h => ?_) (fun h => ?_)⟩
    · have h0 : (r : Int) % (p : Int) = 0 := int_eq0 h
      have h0' : r % p = 0 := by omega
      refine whN ⟨_, rfl, _, rfl, _, _, rfl, rfl, ⟨by omega, by omega⟩, _, rfl, _, _, rfl, rfl, ?_⟩
      refine ⟨⟨o + 1, r / p, ?_, div_pos_of hr1 h0', by rw [cnt_div hp2 hr1 h0'] at hro; omega, rfl⟩, ?_⟩
      · rw [Int.natCast_ediv, Int.natCast_add]; rfl
      · show ((r : Int) / (p : Int)).toNat < ((r : Int)).toNat
        rw [← Int.natCast_ediv, Int.toNat_natCast, Int.toNat_natCast]
        exact Nat.div_lt_self hr1 hp2
    · have h0 : ¬ (r : Int) % (p : Int) = 0 := int_ne0 h
      have h0' : r % p ≠ 0 := by omega
      rw [cnt_not h0', Nat.add_zero] at hro
      subst hro
      exact ⟨_, rfl, q⟩
def sp_powers_of : Sp := fun vs H Q _ => ∃ i : Int, vs = [.int i] /\ 1 <= i /\ stripAll i.toNat = 1 /\ ∀ p H', Same H H' -> H' p = some (tupI (natI (powsOf i.toNat))) -> Q (.ref p) H'
theorem ok_powers_of (T : Tx K mg) : OkD P w mg base CX0 2 T.D_powers_of sp_powers_of := by
  refine T.D_powers_of.fn.okQ sc_powers_of (fun vs H Q E h => ?_) (fun cdv A outer s H vs Q E hr h => ?_)
  · obtain ⟨i, rfl, _⟩ := h
    rfl
  · obtain ⟨i, rfl, h1, hz, q⟩ := h
    refine ⟨_, (qss_cons (qs_if (QW.pt (qw_or (qt_not (qt_val (qe_cD (ok_is_whole T) hr pass0 (qa_c (qv 0) qa_nil)))) (qw_or (qt_cmpR op_lt (qv 0) qe_int (nomark _)) (qw_or1 (qt_cmpR op_ne (qe_cD (ok_without_primes T) hr pass0 (qa_c (qv 0) qa_nil)) qe_int (nomark _))))))
        (qss_one qs_never)
        qss_nil)
      (qss_one (qs_ret (qe_cT call_tuple_ofA T.m_tuple b_tuple (qa_c (qe_comp (cok sc_powers_of (N := ["prime", "number"]) (js := [none, some 0]) (List.forall_mem_cons.mpr ⟨rfl, (List.forall_mem_nil _)⟩)) rfl (qi_tup (qe_glob (v := .ref T.a_PRIMES) (by rfl) T.g_PRIMES rfl)) (fun _ _ _ _ => qg_c0) (fun _ _ _ _ => qts_nil)
          (fun _ _ _ _ => (qe_cD (ok_how_often T) hr pass0 (qa_c (qv 0) (qa_c (qv 1) qa_nil))))) qa_nil))))), ?_⟩
    refine ⟨_, rfl, _, rfl, trivial, _, rfl, iteF ?_⟩
    refine ⟨_, rfl, _, _, rfl, rfl, _, rfl, ?_⟩
    rw [decide_eq_false (show ¬ i < 1 by omega)]
    refine iteF ⟨_, rfl, i, rfl, h1, rfl, _, rfl, ?_⟩
    rw [hz]
    refine iteF ?_
    refine ⟨T.a_PRIMES, rfl, ⟨primesV, T.t_PRIMES H⟩, fun D hD => comp_map_tup (xs := primesV) (f := fun v => match v with | .int p => V.int (cnt p.toNat i.toNat : Nat) | v => v) rfl (by decide) hD (T.t_PRIMES H) ?_ ?_⟩
    · intro x H' R hx r
      obtain ⟨z, hz⟩ := List.getElem?_of_mem hx
      obtain ⟨p, rfl, hp, hp30⟩ := primesV_get hz
      have hp2 : 2 <= p := two_le p (List.mem_of_getElem? hp)
      refine ⟨_, rfl, _, rfl, p, i, rfl, hp2, hp30, by omega, ?_⟩
      have r2 : R (V.int (cnt ((p : Int).toNat) i.toNat : Nat)) H' := r
      rw [Int.toNat_natCast] at r2
      exact r2
    · refine ⟨D, _, rfl, SqL.of upd_same, fun p H' fp sp hp => q p H' ((Same.new hD).trans sp) ?_⟩
      rw [hp]
      rfl
end
end W2
namespace W2
open PySem L2 Mth Xn
section
variable {P : Program} {w : World} {K : PySem.W.Frag} {mg : Str -> Option Value} {base : Heap}
def sp_machine_afterX (C : Addr) : Sp := fun vs H Q E => ∃ (m a : Addr) (rs : List MRow) (many : Nat) (s : Nat × List Int) (M : Int), vs = [.ref m, .ref a, .int M] /\ MacV H m many rs /\ StV H a s /\ StOk many rs s /\ many <= 1000 /\ 0 <= M /\ M < 2 ^ 62 /\
  (∀ r, goM rs M.toNat s = some r -> ∀ q' H', Same H H' -> StV H' q' r -> Q (.ref q') H') /\
  (∀ (n : Nat) r, n < M.toNat -> goM rs n s = some r -> r.1 = rs.length -> ∀ dx H', Same H H' -> H' dx = some (.xd [("steps", .int (n : Int))]) -> E (.ref C) (some dx) H')
theorem ok_machine_after (T : Tx K mg) : OkD P w mg base (CXE P w) 3 T.D_machine_after (sp_machine_afterX T.c_AtRest) := by
  refine T.D_machine_after.fn.okX sc_machine_after (fun vs H Q E h => ?_) (fun cdv A outer s H vs Q E hr h => ?_)
  · obtain ⟨m, a, rs, many, s, M, rfl, _⟩ := h
    rfl
  · obtain ⟨m, a, rs, many, s, M, rfl, hM, hs, hst, m10, M0, M1, q1, q2⟩ := h
    refine ⟨_, (qss_cons (qs_sS 3 sc_machine_after (qe_ix ix_tup (qv 0) qe_int (fun _ _ => rfl)))
      (qss_cons (qs_sS 4 sc_machine_after (qv 1))
      (qss_cons (qs_for PassesOwn.leaving rfl (qi_range1 rfl T.m_range (qa_c (qv 2) qa_nil)) (qg_nS 5 sc_machine_after)
        (qss_cons (qs_if (qt_cmpR op_eq (qe_ix ix_tup (qv 4) qe_int (fun _ _ => rfl)) (qe_cB call_len_seq T.m_len b_len (qa_c (qv 3) qa_nil)) (nomark _))
        (qss_one (qs_raiseI xok_cx rfl rfl T.I_AtRest (ok_init_AtRest T) (hr.mono (by decide)) T.B_AtRest (by rfl) (qa_c (qv 5) qa_nil)))
        qss_nil)
      (qss_one (qs_sS 4 sc_machine_after (qe_cD (ok_next_stand T) hr pass0 (qa_c (qv 3) (qa_c (qv 4) qa_nil)))))))
      (qss_one (qs_ret (qv 4)))))), ?_⟩
    obtain ⟨b, xs, hm, hb, hx⟩ := hM.ex
    have xl := hx.1
    refine ⟨_, rfl, m, _, 1, _, rfl, rfl, SqT.of hm, rfl, ?_⟩
    refine ⟨_, rfl, _, rfl, M, rfl, by omega, M1, for_range (n := M.toNat) (fun i σ H3 => ∃ (c : Addr) (cur : Nat × List Int) (u : Option V), σ = [some (.ref m), some (.ref a), some (.int M), some (.ref b), some (.ref c), u] /\ Same H H3 /\ StV H3 c cur /\ goM rs i s = some cur)
      ⟨a, s, none, rfl, Same.refl H, hs, rfl⟩ ?_ ?_⟩
    · rintro i σ H3 hi ⟨c, cur, u, rfl, s3, ⟨v, hc3, hv3⟩, hg3⟩
      have hcur := goM_ok hM.ok hst hg3
      refine ⟨_, rfl, c, _, 0, _, rfl, rfl, SqT.of hc3, rfl, _, rfl, b, _, rfl, .inr (SqT.of (s3 _ _ hb)), rfl, _, rfl, ite2 (fun h => ?_) (fun h => ?_)⟩
      · have he : cur.1 = rs.length := by have := int_eq0 h; omega
        refine ⟨_, rfl, _, rfl, fun dx H5 s5 hdx => ?_⟩
        rw [Int.zero_add] at hdx
        exact q2 i cur hi hg3 he dx H5 (s3.trans s5) hdx
      · have he' : ¬ (cur.1 : Int) = (xs.length : Int) := int_ne0 h
        have he : cur.1 < rs.length := by have := hcur.1; omega
        refine ⟨_, rfl, _, rfl, b, c, xs, rs, many, cur, rfl, s3 _ _ hb, hx.keep (Keep.of s3), hM.ok, ⟨v, hc3, hv3⟩, hcur, m10, he, fun p H4 s4 hp => ?_⟩
        exact ⟨p, _, _, rfl, s3.trans s4, hp, goM_succ hg3 he⟩
    · rintro σ H3 ⟨c, cur, u, rfl, s3, hc3, hg3⟩
      exact ⟨_, rfl, q1 cur hg3 c H3 s3 hc3⟩
def sp_l_led : Sp := fun vs H Q _ => ∃ (m a : Addr) (rs : List MRow) (many : Nat) (s : Nat × List Int), vs = [.ref m, .ref a] /\ MacV H m many rs /\ StV H a s /\ StOk many rs s /\ many <= 1000 /\ s.1 < rs.length /\ ∀ (p : Addr) (H' : Hp), Same H H' -> StV H' p (ledM rs s) -> Q (.ref p) H'
theorem ok_l_led (T : Tx K mg) : OkD P w mg base CX0 1 T.D_l_led sp_l_led := by
  refine T.D_l_led.fn.okQ sc_l_led (fun vs H Q E h => ?_) (fun cdv A outer s H vs Q E hr h => ?_)
  · obtain ⟨m, a, rs, many, s, rfl, _⟩ := h
    rfl
  · obtain ⟨m, a, rs, many, s, rfl, hM, ⟨v, ha, hv⟩, hst, m10, hlt, q⟩ := h
    refine ⟨_, (qss_cons (qs_asg (qv 1) (qg_tup rfl (qgs_cons (qg_nS 2 sc_l_led) (qgs_cons (qg_nS 3 sc_l_led) qgs_nil))))
      (qss_cons (qs_sS 4 sc_l_led (qe_ix ix_tup (qe_ix ix_tup (qv 0) qe_int (fun _ _ => rfl)) (qv 2) (fun _ _ => rfl)))
      (qss_cons (qs_sS 5 sc_l_led (qe_ix ix_tup (qv 3) (qe_ix ix_tup (qv 4) qe_int (fun _ _ => rfl)) (fun _ _ => rfl)))
      (qss_cons (qs_if (qt_cmpR op_eq (qe_ix ix_tup (qv 4) qe_int (fun _ _ => rfl)) qe_str (nomark _))
        (qss_one (qs_ret (qe_tupA (qa_c (qe_ix ix_tup (qv 4) qe_int (fun _ _ => rfl)) (qa_c (qe_op op_catTA (qe_op op_catTA (qe_slice sl_A (qv 3) qo_none (qo_some (qe_ix ix_tup (qv 4) qe_int (fun _ _ => rfl)))) (qe_tupA (qa_c (qe_op op_add (qv 5) qe_int) qa_nil))) (qe_slice sl_A (qv 3) (qo_some (qe_op op_add (qe_ix ix_tup (qv 4) qe_int (fun _ _ => rfl)) qe_int)) qo_none)) qa_nil)))))
        qss_nil)
      (qss_cons (qs_if (qt_cmpR op_eq (qv 5) qe_int (nomark _))
        (qss_one (qs_ret (qe_tupA (qa_c (qe_ix ix_tup (qv 4) qe_int (fun _ _ => rfl)) (qa_c (qv 3) qa_nil)))))
        qss_nil)
      (qss_one (qs_ret (qe_tupA (qa_c (qe_ix ix_tup (qv 4) qe_int (fun _ _ => rfl)) (qa_c (qe_op op_catTA (qe_op op_catTA (qe_slice sl_A (qv 3) qo_none (qo_some (qe_ix ix_tup (qv 4) qe_int (fun _ _ => rfl)))) (qe_tupA (qa_c (qe_op op_sub (qv 5) qe_int) qa_nil))) (qe_slice sl_A (qv 3) (qo_some (qe_op op_add (qe_ix ix_tup (qv 4) qe_int (fun _ _ => rfl)) qe_int)) qo_none)) qa_nil)))))))))), ?_⟩
    obtain ⟨b, xs, hm, hb, hx⟩ := hM.ex
    obtain ⟨r, ra, hr1, hr2, hr3⟩ := hx.at hlt
    have rok := hM.ok r (List.mem_of_getElem? hr1)
    have el := hst.2.1
    refine ⟨_, rfl, a, _, rfl, SqT.of ha, rfl, _, _, rfl, _, _, rfl, rfl, ?_⟩
    refine ⟨_, rfl, m, _, 1, _, rfl, rfl, SqT.of hm, rfl, _, rfl, b, _, _, _, rfl, rfl, SqT.of hb, atI_nat hr2, ?_⟩
    have chgd : ∀ (c n : Nat) (x : Int) (r' : List V), c < s.2.length -> H ra = some (.tup (r' : List V)) -> ∀ p1 H1, Same H H1 -> H1 p1 = some (.tup (cutV (s.2.map V.int) none (some (c : Int)))) -> ∀ p2 H2, Same H1 H2 -> H2 p2 = some (.tup [.int x]) -> ∀ p3 H3, Same H2 H3 -> H3 p3 = some (.tup (cutV (s.2.map V.int) none (some (c : Int)) ++ [.int x])) -> ∀ p4 H4, Same H3 H4 -> H4 p4 = some (.tup (cutV (s.2.map V.int) (some ((c : Int) + 1)) none)) ->
        ∀ p5 H5, Same H4 H5 -> H5 p5 = some (.tup (cutV (s.2.map V.int) none (some (c : Int)) ++ [.int x] ++ cutV (s.2.map V.int) (some ((c : Int) + 1)) none)) -> Same H H5 /\ H5 p5 = some (tupI (s.2.set c x)) := by
      intro c n x r' hc _ p1 H1 s1 hp1 p2 H2 s2 hp2 p3 H3 s3 hp3 p4 H4 s4 hp4 p5 H5 s5 hp5
      refine ⟨(((s1.trans s2).trans s3).trans s4).trans s5, ?_⟩
      rw [hp5, cutV_pre (Int.natCast_nonneg c), Int.toNat_natCast, cutV_suf (by omega), show ((c : Int) + 1).toNat = c + 1 by omega, cat3 hc]
    have len1 : ∀ c : Nat, (cutV (s.2.map V.int) none (some (c : Int))).length <= 1000 := fun c => by
      have := cutV_length (s.2.map V.int) none (some (c : Int))
      rw [List.length_map] at this
      omega
    have len2 : ∀ c : Int, (cutV (s.2.map V.int) (some c) none).length <= 1000 := fun c => by
      have := cutV_length (s.2.map V.int) (some c) none
      rw [List.length_map] at this
      omega
    cases r with
    | add c n =>
      have e : ledM rs s = (n, chgM s.2 c 1) := by unfold ledM; rw [hr1]
      rw [e] at q
      have hc : c < s.2.length := by rw [el]; exact rok.1
      have hcut := chgd c n (s.2.getD c 0 + 1) _ hc hr3
      refine ⟨_, rfl, _, rfl, ra, _, 1, _, rfl, rfl, SqT.of hr3, rfl, v, _, _, _, rfl, rfl, SqT.of hv, atI_nat (es_at hc), ?_⟩
      refine ⟨_, rfl, ra, _, 0, _, rfl, rfl, SqT.of hr3, rfl, rfl, _, rfl, iteT ?_⟩
      refine ⟨_, rfl, ra, _, 2, _, rfl, rfl, SqT.of hr3, rfl, _, rfl, _, rfl, ra, _, 1, _, rfl, rfl, SqT.of hr3, rfl, _, rfl, v, _, rfl, hv, fun p1 H1 s1 hp1 => ?_⟩
      refine ⟨_, rfl, _, _, rfl, rfl, szl, fun p2 H2 f2 s2 hp2 => ⟨p1, p2, _, _, rfl, rfl, s2 _ _ hp1, hp2, (by have := len1 c; rw [sizeLine_eq]; show _ + 1 <= _; omega), fun p3 H3 s3 hp3 => ?_⟩⟩
      have s13 := (s1.trans s2).trans s3
      refine ⟨_, rfl, _, rfl, ra, _, 1, _, rfl, rfl, SqT.of (s13 _ _ hr3), rfl, _, _, rfl, rfl, _, rfl, v, _, rfl, s13 _ _ hv, fun p4 H4 s4 hp4 => ⟨p3, p4, _, _, rfl, rfl, s4 _ _ hp3, hp4, ?_, fun p5 H5 s5 hp5 => ?_⟩⟩
      · have l1 := len1 c
        have l2 := len2 ((c : Int) + 1)
        rw [List.length_append, sizeLine_eq]
        show _ + 1 + _ <= _
        omega
      · obtain ⟨z1, z2⟩ := hcut p1 H1 s1 hp1 p2 H2 s2 hp2 p3 H3 s3 hp3 p4 H4 s4 hp4 p5 H5 s5 hp5
        exact ⟨szl, fun p6 H6 f6 s6 hp6 => q p6 H6 (z1.trans s6) ⟨p5, hp6, s6 _ _ z2⟩⟩
    | tk c n o =>
      have e : ledM rs s = if 0 < s.2.getD c 0 then (n, chgM s.2 c (-1)) else (o, s.2) := by unfold ledM; rw [hr1]
      rw [e] at q
      have hc : c < s.2.length := by rw [el]; exact rok.1
      have hcut := chgd c n (s.2.getD c 0 - 1) _ hc hr3
      have hge := getD_ge hst.2.2 c
      refine ⟨_, rfl, _, rfl, ra, _, 1, _, rfl, rfl, SqT.of hr3, rfl, v, _, _, _, rfl, rfl, SqT.of hv, atI_nat (es_at hc), ?_⟩
      refine ⟨_, rfl, ra, _, 0, _, rfl, rfl, SqT.of hr3, rfl, rfl, _, rfl, iteF ?_⟩
      refine ⟨_, rfl, rfl, _, rfl, ite2 (fun h => ?_) (fun h => ?_)⟩
      · have h0 : s.2.getD c 0 = 0 := int_eq0 h
        rw [if_neg (by omega)] at q
        exact ⟨_, rfl, ra, _, 3, _, rfl, rfl, SqT.of hr3, rfl, _, rfl, szl, fun p2 H2 f2 s2 hp2 => q p2 H2 s2 ⟨v, hp2, s2 _ _ hv⟩⟩
      · have h0 : s.2.getD c 0 ≠ 0 := int_ne0 h
        rw [if_pos (by omega)] at q
        refine ⟨_, rfl, ra, _, 2, _, rfl, rfl, SqT.of hr3, rfl, _, rfl, _, rfl, ra, _, 1, _, rfl, rfl, SqT.of hr3, rfl, _, rfl, v, _, rfl, hv, fun p1 H1 s1 hp1 => ?_⟩
        refine ⟨_, rfl, _, _, rfl, rfl, szl, fun p2 H2 f2 s2 hp2 => ⟨p1, p2, _, _, rfl, rfl, s2 _ _ hp1, hp2, (by have := len1 c; rw [sizeLine_eq]; show _ + 1 <= _; omega), fun p3 H3 s3 hp3 => ?_⟩⟩
        have s13 := (s1.trans s2).trans s3
        refine ⟨_, rfl, _, rfl, ra, _, 1, _, rfl, rfl, SqT.of (s13 _ _ hr3), rfl, _, _, rfl, rfl, _, rfl, v, _, rfl, s13 _ _ hv, fun p4 H4 s4 hp4 => ⟨p3, p4, _, _, rfl, rfl, s4 _ _ hp3, hp4, ?_, fun p5 H5 s5 hp5 => ?_⟩⟩
        · have l1 := len1 c
          have l2 := len2 ((c : Int) + 1)
          rw [List.length_append, sizeLine_eq]
          show _ + 1 + _ <= _
          omega
        · obtain ⟨z1, z2⟩ := hcut p1 H1 s1 hp1 p2 H2 s2 hp2 p3 H3 s3 hp3 p4 H4 s4 hp4 p5 H5 s5 hp5
          exact ⟨szl, fun p6 H6 f6 s6 hp6 => q p6 H6 (z1.trans s6) ⟨p5, hp6, s6 _ _ z2⟩⟩
def StsV (H : Hp) (ys : List V) (rs : List MRow) (s : Nat × List Int) : Prop := ∀ (i : Nat) (y : V), ys[i]? = some y -> ∃ a t, y = .ref a /\ StV H a t /\ goM rs i s = some t
theorem StsV.keep {H H' : Hp} {ys : List V} {rs : List MRow} {s : Nat × List Int} (h : StsV H ys rs s) (k : Keep H H') : StsV H' ys rs s := fun i y hy => by
  obtain ⟨a, t, h1, h2, h3⟩ := h i y hy
  exact ⟨a, t, h1, h2.keep k, h3⟩
theorem StsV.last {H : Hp} {ys : List V} {rs : List MRow} {s : Nat × List Int} (h : StsV H ys rs s) {n : Nat} (hn : ys.length = n + 1) : ∃ a t, atI ys (-1) = some (.ref a) /\ StV H a t /\ goM rs n s = some t := by
  have hk : n < ys.length := by omega
  obtain ⟨a, t, h1, h2, h3⟩ := h n ys[n] (List.getElem?_eq_getElem hk)
  exact ⟨a, t, by rw [← h1]; exact atI_end hn (List.getElem?_eq_getElem hk), h2, h3⟩
theorem StsV.snoc {H : Hp} {ys : List V} {rs : List MRow} {s t : Nat × List Int} {n : Nat} {a : Addr} (h : StsV H ys rs s) (hn : ys.length = n) (ha : StV H a t) (hg : goM rs n s = some t) : StsV H (ys ++ [.ref a]) rs s := fun i y hy => by
  rcases Nat.lt_or_ge i ys.length with z | z
  · rw [List.getElem?_append_left z] at hy
    exact h i y hy
  · rw [List.getElem?_append_right z] at hy
    have z0 : i - ys.length = 0 := by
      rcases Nat.eq_zero_or_pos (i - ys.length) with z | z
      · exact z
      · rw [List.getElem?_eq_none (show [V.ref a].length <= _ from z)] at hy
        cases hy
    rw [z0] at hy
    cases hy
    exact ⟨a, t, rfl, ha, by rw [show i = n by omega]; exact hg⟩
def lenM (H : Hp) (a : Addr) : Nat := match H a with
  | some (.lst xs) => xs.length
  | _ => 0
theorem lenM_of {H : Hp} {a : Addr} {xs : List V} (h : H a = some (.lst xs)) : lenM H a = xs.length := by unfold lenM; rw [h]
def sp_l_stands : Sp := fun vs H Q _ => ∃ (m a : Addr) (rs : List MRow) (many : Nat) (s : Nat × List Int) (M : Int), vs = [.ref m, .ref a, .int M] /\ MacV H m many rs /\ StV H a s /\ StOk many rs s /\ many <= 1000 /\ 0 <= M /\ M <= 5000 /\
  ∀ (l : Addr) (H' : Hp) (ys : List V) (n : Nat), Same H H' -> H' l = some (.lst ys) -> StsV H' ys rs s -> ys.length = n + 1 -> n <= M.toNat -> (n = M.toNat ∨ ∃ t, goM rs n s = some t /\ t.1 = rs.length) -> Q (.ref l) H'
theorem ok_l_stands (T : Tx K mg) : OkD P w mg base CX0 2 T.D_l_stands sp_l_stands := by
  refine T.D_l_stands.fn.okQ sc_l_stands (fun vs H Q E h => ?_) (fun cdv A outer s H vs Q E hr h => ?_)
  · obtain ⟨m, a, rs, many, s, M, rfl, _⟩ := h
    rfl
  · obtain ⟨m, a, rs, many, s, M, rfl, hM, hs, hst, m10, M0, M1, q⟩ := h
    refine ⟨_, (qss_cons (qs_sS 3 sc_l_stands (qe_lstA (qa_c (qv 1) qa_nil)))
      (qss_cons (qs_while PassesOwn.never (QW.pt (qw_and (qt_cmpR op_le (qe_cB call_len_seq T.m_len b_len (qa_c (qv 3) qa_nil)) (qv 2) (nomark _)) (qw_and1 (qt_cmpR op_lt (qe_ix ix_tup (qe_ix ix_list (qv 3) (qe_un un_neg qe_int) (fun _ _ => rfl)) qe_int (fun _ _ => rfl)) (qe_cB call_len_seq T.m_len b_len (qa_c (qe_ix ix_tup (qv 0) qe_int (fun _ _ => rfl)) qa_nil)) (nomark _)))))
        (qss_one (qs_expr (qe_bm PySem.F.plainAttrs_list PySem.F.slot_list_append PySem.F.type_list_append mt_appendA (qv 3) (qa_c (qe_cD (ok_l_led T) hr pass0 (qa_c (qv 0) (qa_c (qe_ix ix_list (qv 3) (qe_un un_neg qe_int) (fun _ _ => rfl)) qa_nil))) qa_nil)))))
      (qss_one (qs_ret (qv 3))))), ?_⟩
    obtain ⟨b, xs, hm, hb, hx⟩ := hM.ex
    have xl := hx.1
    refine ⟨_, rfl, szl, fun l H1 f1 s1 hl1 => ?_⟩
    refine while_own (fun σ H2 => σ = [some (.ref m), some (.ref a), some (.int M), some (.ref l)] /\ Same H H2 /\ ∃ (ys : List V) (n : Nat), H2 l = some (.lst ys) /\ StsV H2 ys rs s /\ ys.length = n + 1 /\ n <= M.toNat) (fun _ H2 => M.toNat + 1 - lenM H2 l) ⟨rfl, s1, [.ref a], 0, hl1, ?_, rfl, Nat.zero_le _⟩ ?_
    · intro i y hy
      have i0 : i = 0 := by
        cases i with
        | zero => rfl
        | succ i => cases hy
      subst i0
      cases hy
      exact ⟨a, s, rfl, hs.same s1, rfl⟩
    · rintro σ H2 ⟨rfl, s2, ys, n, hl2, hy2, hn, hnM⟩
      obtain ⟨la, t, hat, ⟨v, hla, hv⟩, hgo⟩ := hy2.last hn
      have htok := goM_ok hM.ok hst hgo
      refine ⟨_, rfl, l, _, rfl, .inl (SqL.of hl2), _, rfl, _, _, rfl, rfl, _, rfl, ite2 (fun h => ?_) (fun h => ?_)⟩
      · have h0 : (ys.length : Int) <= M := of_decide_eq_true h
        refine ⟨_, rfl, _, rfl, l, _, _, _, rfl, rfl, SqL.of hl2, hat, la, _, 0, _, rfl, rfl, SqT.of hla, rfl, _, rfl, m, _, 1, _, rfl, rfl, SqT.of (s2 _ _ hm), rfl, b, _, rfl, .inr (SqT.of (s2 _ _ hb)), _, _, rfl, rfl, _, rfl, ite2 (fun h2 => ?_) (fun h2 => ?_)⟩
        · have h3 : t.1 < rs.length := by have := of_decide_eq_true h2; omega
          refine whN ⟨_, rfl, .inl ⟨rfl, _, SqL.of hl2⟩, _, rfl, _, rfl, _, rfl, l, _, _, _, rfl, rfl, SqL.of hl2, hat, m, la, rs, many, t, rfl, hM.same s2, ⟨v, hla, hv⟩, htok, m10, h3, fun p H3 s3 hp3 => ?_⟩
          refine ⟨l, ys, _, rfl, rfl, s3 _ _ hl2, by rw [hn, sizeLine_eq]; omega, fun H4 b4 hl4 => ?_⟩
          have k4 : Keep H3 H4 := Keep.but b4 (s3 _ _ hl2) hl4
          refine ⟨⟨rfl, ?_, _, n + 1, hl4, ?_, by rw [List.length_append, hn]; rfl, by omega⟩, ?_⟩
          · intro c o e
            exact b4 _ _ (ne_of_none e f1) (s3 _ _ (s2 _ _ e))
          · exact ((hy2.keep (Keep.of s3)).keep k4).snoc hn (hp3.keep k4) (goM_succ hgo h3)
          · show M.toNat + 1 - lenM H4 l < M.toNat + 1 - lenM H2 l
            rw [lenM_of hl4, lenM_of hl2, List.length_append, hn]
            show _ - (n + 1 + 1) < _
            omega
        · have h3' : ¬ (t.1 : Int) < (xs.length : Int) := fun z => h2 (decide_eq_true z)
          have h3 : t.1 = rs.length := by have := htok.1; omega
          exact ⟨_, rfl, q l H2 ys n s2 hl2 hy2 hn hnM (.inr ⟨t, hgo, h3⟩)⟩
      · have h0 : ¬ (ys.length : Int) <= M := fun z => h (decide_eq_true z)
        exact ⟨_, rfl, q l H2 ys n s2 hl2 hy2 hn hnM (.inl (by omega))⟩
theorem flat0 : ∀ n : Nat, (List.replicate n [V.int 0]).flatten = (List.replicate n (0 : Int)).map V.int
  | 0 => rfl
  | n + 1 => by rw [List.replicate_succ, List.replicate_succ, List.flatten_cons, List.map_cons, flat0 n]; rfl
def stP (many size k : Nat) (es : List Int) (sec : Nat) : List Int := if k < size then (es ++ List.replicate (10 - many) 0).set (many + 2 * k + sec) 1 else es ++ List.replicate (10 - many) 0
def sp_stand_powers : Sp := fun vs H Q _ => ∃ (m s v : Addr) (many k : Nat) (rs : List MRow) (es : List Int) (sec : Bool), vs = [.ref m, .ref s, .bl sec] /\ MacV H m many rs /\ H s = some (.tup [.int k, .ref v]) /\ H v = some (tupI es) /\ es.length = many /\ many + 2 * rs.length <= 10 /\
  ∀ (p : Addr) (H' : Hp), Same H H' -> H' p = some (tupI (stP many rs.length k es (if sec then 1 else 0))) -> Q (.ref p) H'
theorem ok_stand_powers (T : Tx K mg) : OkD P w mg base CX0 2 T.D_stand_powers sp_stand_powers := by
  refine T.D_stand_powers.fn.okQ sc_stand_powers (fun vs H Q E h => ?_) (fun cdv A outer s H vs Q E hr h => ?_)
  · obtain ⟨m, s, v, many, k, rs, es, sec, rfl, _⟩ := h
    rfl
  · obtain ⟨m, s, v, many, k, rs, es, sec, rfl, hM, hs, hv, hl, h10, q⟩ := h
    refine ⟨_, (qss_cons (qs_sS 3 sc_stand_powers (qe_op op_catLA (qe_cT call_list_ofA T.m_list b_list (qa_c (qe_ix ix_tup (qv 1) qe_int (fun _ _ => rfl)) qa_nil)) (qe_op op_repLA (qe_lstA (qa_c qe_int qa_nil)) (qe_op op_sub (qe_cB call_len_seq T.m_len b_len (qa_c (qe_glob (v := .ref T.a_PRIMES) (by rfl) T.g_PRIMES rfl) qa_nil)) (qe_ix ix_tup (qv 0) qe_int (fun _ _ => rfl))))))
      (qss_cons (qs_if (qt_cmpR op_lt (qe_ix ix_tup (qv 1) qe_int (fun _ _ => rfl)) (qe_cB call_len_seq T.m_len b_len (qa_c (qe_ix ix_tup (qv 0) qe_int (fun _ _ => rfl)) qa_nil)) (nomark _))
        (qss_one (qs_asg qe_int (qg_sub (qv 3) (qe_cD (ok_row_place T) hr pass0 (qa_c (qv 0) (qa_c (qe_ix ix_tup (qv 1) qe_int (fun _ _ => rfl)) (qa_c (qv 2) qa_nil)))) set_list)))
        qss_nil)
      (qss_one (qs_ret (qe_cT call_tuple_ofA T.m_tuple b_tuple (qa_c (qv 3) qa_nil)))))), ?_⟩
    obtain ⟨b, xs, hm, hb, hx⟩ := hM.ex
    have xl := hx.1
    have fill : ∀ (H5 : Hp) (l : Addr), Same H H5 -> H l = none -> H5 l = some (.lst ((es ++ List.replicate (10 - many) 0).map V.int)) -> ∀ j : Nat, j = many + 2 * k + (if sec then 1 else 0) -> k < rs.length -> ∀ p H', upd H5 l (.lst (((es ++ List.replicate (10 - many) 0).map V.int).set j (.int 1))) p = none -> Same (upd H5 l (.lst (((es ++ List.replicate (10 - many) 0).map V.int).set j (.int 1)))) H' -> H' p = some (.tup (((es ++ List.replicate (10 - many) 0).map V.int).set j (.int 1))) -> Q (.ref p) H' := by
      intro H5 l s5 fl hl5 j hj hk p H' fp sp hp
      refine q p H' ?_ ?_
      · intro c o e
        refine sp _ _ ?_
        rw [upd_ne (ne_of_none e fl)]
        exact s5 _ _ e
      · rw [hp]
        unfold stP
        rw [if_pos hk, ← hj]
        show _ = some (HO.tup _)
        rw [List.map_set]
    refine ⟨_, rfl, s, _, 1, _, rfl, rfl, SqT.of hs, rfl, v, _, rfl, .inr (SqT.of hv), fun l1 H1 f1 s1 hl1 => ?_⟩
    refine ⟨szl, fun l2 H2 f2 s2 hl2 => ⟨_, _, rfl, .inr (T.t_PRIMES H2), _, rfl, m, _, 0, _, rfl, rfl, SqT.of (s2 _ _ (s1 _ _ hm)), rfl, _, _, rfl, rfl, ?_⟩⟩
    refine ⟨l2, 10 - (many : Int), _, rfl, rfl, hl2, by omega, by omega, ?_, fun l3 H3 f3 s3 hl3 => ⟨l1, l3, _, _, rfl, rfl, s3 _ _ (s2 _ _ hl1), hl3, ?_, fun l H4 f4 s4 hl4 => ?_⟩⟩
    · rw [sizeLine_eq]
      show 1 * _ <= _
      omega
    · rw [sizeLine_eq, flat0, List.length_map, List.length_map, List.length_replicate]
      omega
    · rw [flat0, ← List.map_append, show (10 - (many : Int)).toNat = 10 - many by omega] at hl4
      have s14 : Same H H4 := ((s1.trans s2).trans s3).trans s4
      have fl : H l = none := s1.free (s2.free (s3.free f4))
      have hs4 := s14 _ _ hs
      have hm4 := s14 _ _ hm
      refine ⟨_, rfl, s, _, 0, _, rfl, rfl, SqT.of hs4, rfl, _, rfl, m, _, 1, _, rfl, rfl, SqT.of hm4, rfl, b, _, rfl, .inr (SqT.of (s14 _ _ hb)), _, _, rfl, rfl, _, rfl, ite2 (fun h => ?_) (fun h => ?_)⟩
      · have hk : k < rs.length := by have := of_decide_eq_true h; omega
        refine ⟨_, rfl, _, rfl, _, rfl, s, _, 0, _, rfl, rfl, SqT.of hs4, rfl, _, rfl, m, b, many, k, sec, rfl, hm4, l, _, _, _, rfl, rfl, hl4, ixN_of (by omega) ?_, _, rfl, l, _, rfl, SqL.of upd_same, fill H4 l s14 fl hl4 _ (by rw [Int.toNat_natCast]) hk⟩
        rw [List.length_map, List.length_append, List.length_replicate]
        split <;> omega
      · have hk' : ¬ (k : Int) < (xs.length : Int) := fun z => h (decide_eq_true z)
        have hk : ¬ k < rs.length := by omega
        refine ⟨_, rfl, l, _, rfl, SqL.of hl4, fun p H' fp sp hp => q p H' (s14.trans sp) ?_⟩
        rw [hp]
        unfold stP
        rw [if_neg hk]
end
end W2
namespace W2
open PySem L2 Mth Xn
section
variable {P : Program} {w : World} {K : PySem.W.Frag} {mg : Str -> Option Value} {base : Heap}
theorem zip_chg (n d : Nat) : List.zipWith (fun x y : Int => x - y) (natI (powsOf n)) (natI (powsOf d)) = chg n d := by
  unfold natI chg
  rw [List.zipWith_map]
def sp_fraction_changes : Sp := fun vs H Q _ => ∃ (b : Addr) (i j : Int), vs = [.ref b] /\ H b = some (.tup [.int i, .int j]) /\ fracB i j = true /\ ∀ p H', Same H H' -> H' p = some (tupI (chg i.toNat j.toNat)) -> Q (.ref p) H'
theorem ok_fraction_changes (T : Tx K mg) : OkD P w mg base CX0 3 T.D_fraction_changes sp_fraction_changes := by
  refine T.D_fraction_changes.fn.okQ sc_fraction_changes (fun vs H Q E h => ?_) (fun cdv A outer s H vs Q E hr h => ?_)
  · obtain ⟨b, i, j, rfl, _⟩ := h
    rfl
  · obtain ⟨b, i, j, rfl, hb, hf, q⟩ := h
    refine ⟨_, (qss_cons (qs_sS 1 sc_fraction_changes (qe_cD (ok_powers_of T) hr pass0 (qa_c (qe_ix ix_tup (qv 0) qe_int (fun _ _ => rfl)) qa_nil)))
      (qss_cons (qs_sS 2 sc_fraction_changes (qe_cD (ok_powers_of T) hr pass0 (qa_c (qe_ix ix_tup (qv 0) qe_int (fun _ _ => rfl)) qa_nil)))
      (qss_one (qs_ret (qe_cT call_tuple_ofA T.m_tuple b_tuple (qa_c (qe_comp (cok sc_fraction_changes (N := ["top", "bottom"]) (js := [none, none]) (List.forall_mem_nil _)) rfl (qi_zip rfl rfl T.m_zip (qa_c (qv 1) (qa_c (qv 2) qa_nil))) (fun _ _ _ _ => (qg_tupN (K := K) (n := 2) rfl rfl (qgs_cons qg_c0 (qgs_cons (qg_name (i := 1) (show List.Nodup (["top", "bottom"] : List Str) from by decide +kernel) rfl (Or.inl rfl) (Or.inr rfl)) qgs_nil)))) (fun _ _ _ _ => qts_nil)
          (fun _ _ _ _ => (qe_op op_sub (qv 0) (qv 1)))) qa_nil)))))), ?_⟩
    obtain ⟨⟨i1, i2⟩, ⟨j1, j2⟩⟩ := fracB_parts hf
    refine ⟨_, rfl, b, _, _, _, rfl, rfl, SqT.of hb, rfl, i, rfl, i1, i2, fun p1 H1 s1 hp1 => ?_⟩
    refine ⟨_, rfl, b, _, _, _, rfl, rfl, SqT.of (s1 _ _ hb), rfl, j, rfl, j1, j2, fun p2 H2 s2 hp2 => ?_⟩
    refine ⟨_, rfl, _, rfl, p1, p2, rfl, ⟨_, SqT.of (s2 _ _ hp1)⟩, ⟨_, SqT.of hp2⟩, fun D hD => ?_⟩
    refine comp_zip_ints (f := fun x y => x - y) (σ0 := []) (xs := natI (powsOf i.toNat)) (ys := natI (powsOf j.toNat)) (by simp [natI, powsOf, primes]; decide) ⟨_, _, rfl⟩ hD (s2 _ _ hp1) hp2 (fun x y H' R _ _ r => ⟨_, rfl, _, rfl, _, _, rfl, rfl, r⟩) fun H3 s3 h3 => ?_
    refine ⟨D, _, rfl, SqL.of h3, fun p H4 fp s4 hp => q p H4 (((s1.trans s2).trans s3).trans s4) ?_⟩
    rw [hp, zip_chg]
def sp_changes_of : Sp := fun vs H Q _ => ∃ (b : Addr) (xs : List V) (fs : List (Int × Int)), vs = [.ref b] /\ H b = some (.tup xs) /\ FrcsV H xs fs /\ xs.length <= 1000 /\
  ∀ l H' ys, H l = none -> Same H H' -> H' l = some (.lst ys) -> RowsV H' ys (rowsOf fs) -> Q (.ref l) H'
theorem ok_changes_of (T : Tx K mg) : OkD P w mg base CX0 4 T.D_changes_of sp_changes_of := by
  refine T.D_changes_of.fn.okQ sc_changes_of (fun vs H Q E h => ?_) (fun cdv A outer s H vs Q E hr h => ?_)
  · obtain ⟨b, xs, fs, rfl, _⟩ := h
    rfl
  · obtain ⟨b, xs, fs, rfl, hb, hf, hl, q⟩ := h
    refine ⟨_, (qss_one (qs_ret (qe_comp (cok sc_changes_of (N := ["fraction"]) (js := [none]) (List.forall_mem_nil _)) rfl (qi_tup (qv 0)) (fun _ _ _ _ => qg_c0) (fun _ _ _ _ => qts_nil)
          (fun _ _ _ _ => (qe_cD (ok_fraction_changes T) hr pass0 (qa_c (qv 0) qa_nil)))))), ?_⟩
    refine ⟨_, rfl, b, rfl, ⟨_, SqT.of hb⟩, fun D hD => ?_⟩
    refine comp_tup (xs := xs) (by rw [sizeLine_eq]; omega) (fun i σ' H' ys => (∃ u : Option V, σ' = [u]) /\ Same H H' /\ RowsV H' ys ((rowsOf fs).take i)) ⟨⟨_, rfl⟩, Same.new hD, RowsV.nil⟩ (fun i σ' H' ys _ _ ⟨_, s', _⟩ => SqT.of (s' _ _ hb)) ?_ ?_
    · rintro i x σ' H' ys R hx hD' hyl ⟨⟨u, rfl⟩, s', hr'⟩ kk
      obtain ⟨a, d, c, f1, rfl, hc, f4⟩ := hf.2 i x hx
      refine ⟨_, rfl, c, a, d, rfl, s' _ _ hc, f4, fun p H2 s2 hp => ?_⟩
      refine kk _ _ _ (s2 _ _ hD') ⟨⟨_, rfl⟩, ?_, ?_⟩
      · intro e o eo
        rw [upd_ne (ne_of_none eo hD)]
        exact s2 _ _ (s' _ _ eo)
      · have e1 : (rowsOf fs)[i]? = some (chg a.toNat d.toNat) := by unfold rowsOf; rw [List.getElem?_map, f1]; rfl
        rw [List.take_add_one, e1]
        exact RowsV.but ((hr'.same s2).app (RowsV.one ⟨p, rfl, hp⟩)) (s2 _ _ hD') But.upd
    · rintro σ' H' ys hD' hyl ⟨_, s', hr'⟩
      rw [List.take_of_length_le (by rw [rowsOf_len, ← hf.1]; exact Nat.le_refl _)] at hr'
      exact q D H' ys hD s' hD' hr'
def sp_fits : Sp := fun vs H Q _ => ∃ (a b : Addr) (cs ps : List Int), vs = [.ref a, .ref b] /\ H a = some (tupI cs) /\ H b = some (tupI ps) /\ ∀ H', Same H H' -> Q (.bl (fitsB cs ps)) H'
theorem fits_no {cs ps : List Int} {i : Nat} {a b : Int} (h1 : cs[i]? = some a) (h2 : ps[i]? = some b) (h : b + a < 0) : fitsB cs ps = false := by
  rw [Bool.eq_false_iff]
  intro z
  have := fitsB_iff.mp z i a b h1 h2
  omega
theorem ok_fits (T : Tx K mg) : OkD P w mg base CX0 1 T.D_fits sp_fits := by
  refine T.D_fits.fn.okQ sc_fits (fun vs H Q E h => ?_) (fun cdv A outer s H vs Q E hr h => ?_)
  · obtain ⟨a, b, cs, ps, rfl, _⟩ := h
    rfl
  · obtain ⟨a, b, cs, ps, rfl, ha, hb, q⟩ := h
    refine ⟨_, (qss_cons (qs_for PassesOwn.never rfl (qi_zip rfl rfl T.m_zip (qa_c (qv 0) (qa_c (qv 1) qa_nil))) (qg_tup rfl (qgs_cons (qg_nS 2 sc_fits) (qgs_cons (qg_nS 3 sc_fits) qgs_nil)))
        (qss_one (qs_if (qt_cmpR op_lt (qe_op op_add (qv 3) (qv 2)) qe_int (nomark _))
        (qss_one (qs_ret qe_bl))
        qss_nil)))
      (qss_one (qs_ret qe_bl))), ?_⟩
    refine ⟨_, rfl, _, rfl, a, b, rfl, ⟨_, SqT.of ha⟩, ⟨_, SqT.of hb⟩, ?_⟩
    refine for_zip (xs := cs.map V.int) (ys := ps.map V.int) (fun i σ H2 => (∃ u v : Option V, σ = [some (.ref a), some (.ref b), u, v]) /\ Same H H2 /\ ∀ j, j < i -> ∀ x y, cs[j]? = some x -> ps[j]? = some y -> 0 <= y + x) ⟨⟨none, none, rfl⟩, Same.refl H, fun j hj => by omega⟩ (fun i σ H2 _ ⟨_, s2, _⟩ => ⟨SqT.of (s2 _ _ ha), SqT.of (s2 _ _ hb)⟩) ?_ ?_
    · rintro i x y p σ H2 hx hy hp ⟨⟨u, v, rfl⟩, s2, hall⟩
      obtain ⟨x, rfl, hx'⟩ := map_int_get hx
      obtain ⟨y, rfl, hy'⟩ := map_int_get hy
      refine ⟨p, _, rfl, SqT.of upd_same, rfl, _, _, rfl, _, _, rfl, rfl, ?_⟩
      refine ⟨_, rfl, _, rfl, _, _, rfl, rfl, _, _, rfl, rfl, _, rfl, ite2 (fun h => ?_) (fun h => ?_)⟩
      · have h0 : y + x < 0 := of_decide_eq_true h
        have q' := q _ (Same.more (o := .tup [.int x, .int y]) s2 hp)
        rw [fits_no hx' hy' h0] at q'
        exact q'
      · have h0 : ¬ y + x < 0 := fun z => h (decide_eq_true z)
        refine ⟨⟨_, _, rfl⟩, Same.more s2 hp, fun j hj x' y' e1 e2 => ?_⟩
        by_cases hji : j = i
        · subst hji
          rw [hx'] at e1; rw [hy'] at e2
          cases e1; cases e2
          omega
        · exact hall j (by omega) x' y' e1 e2
    · rintro σ H2 ⟨⟨u, v, rfl⟩, s2, hall⟩
      have q' := q H2 s2
      rw [fitsB_iff.mpr fun j x y e1 e2 => hall j ?_ x y e1 e2] at q'
      · exact q'
      · have h1 := (List.getElem?_eq_some_iff.mp e1).1
        have h2 := (List.getElem?_eq_some_iff.mp e2).1
        rw [List.length_map, List.length_map]
        omega
def sp_first_of : Sp := fun vs H Q _ => ∃ (l b : Addr) (ys : List V) (rows : List (List Int)) (ps : List Int), vs = [.ref l, .ref b] /\ H l = some (.lst ys) /\ RowsV H ys rows /\ H b = some (tupI ps) /\ ∀ H', Same H H' -> Q (optV (fstI rows ps)) H'
theorem ok_first_of (T : Tx K mg) : OkD P w mg base CX0 2 T.D_first_of sp_first_of := by
  refine T.D_first_of.fn.okQ sc_first_of (fun vs H Q E h => ?_) (fun cdv A outer s H vs Q E hr h => ?_)
  · obtain ⟨l, b, ys, rows, ps, rfl, _⟩ := h
    rfl
  · obtain ⟨l, b, ys, rows, ps, rfl, hl, hrs, hb, q⟩ := h
    refine ⟨_, (qss_cons (qs_for PassesOwn.never rfl (qi_enum rfl rfl T.m_enumerate (qa_c (qv 0) qa_nil)) (qg_tup rfl (qgs_cons (qg_nS 2 sc_first_of) (qgs_cons (qg_nS 3 sc_first_of) qgs_nil)))
        (qss_one (qs_if (qt_val (qe_cD (ok_fits T) hr pass0 (qa_c (qv 3) (qa_c (qv 1) qa_nil))))
        (qss_one (qs_ret (qv 2)))
        qss_nil)))
      (qss_one (qs_ret qe_non))), ?_⟩
    refine ⟨_, rfl, l, ys, rfl, hl, ?_⟩
    refine for_enum (xs := ys) (fun i σ H2 => (∃ u v : Option V, σ = [some (.ref l), some (.ref b), u, v]) /\ Same H H2 /\ ∀ j, j < i -> ∀ c, rows[j]? = some c -> fitsB c ps = false) ⟨⟨none, none, rfl⟩, Same.refl H, fun j hj => by omega⟩ (fun i σ H2 _ ⟨_, s2, _⟩ => s2 _ _ hl) ?_ ?_
    · rintro i x p σ H2 hx hp ⟨⟨u, v, rfl⟩, s2, hall⟩
      obtain ⟨c, a, hc, rfl, ha⟩ := hrs.at hx
      have s3 := Same.more (o := .tup [.int (i : Int), .ref a]) s2 hp
      refine ⟨p, _, rfl, SqT.of upd_same, rfl, _, _, rfl, _, _, rfl, rfl, ?_⟩
      refine ⟨_, rfl, _, rfl, a, b, c, ps, rfl, s3 _ _ ha, s3 _ _ hb, fun H4 s4 => ⟨_, rfl, ite2 (fun h => ?_) (fun h => ?_)⟩⟩
      · have q' := q H4 (s3.trans s4)
        rw [fstI_at rows ps i hall (fun c' e => by rw [hc] at e; cases e; exact h) (List.getElem?_eq_some_iff.mp hc).1] at q'
        exact ⟨_, rfl, q'⟩
      · refine ⟨⟨_, _, rfl⟩, s3.trans s4, fun j hj c' e => ?_⟩
        by_cases hji : j = i
        · subst hji
          rw [hc] at e
          cases e
          cases z : fitsB c ps with
          | true => exact absurd z h
          | false => rfl
        · exact hall j (by omega) c' e
    · rintro σ H2 ⟨⟨u, v, rfl⟩, s2, hall⟩
      have q' := q H2 s2
      rw [fstI_none rows ps fun j c e => hall j (by rw [hrs.1]; exact (List.getElem?_eq_some_iff.mp e).1) c e] at q'
      exact q'
def sp_moved : Sp := fun vs H Q _ => ∃ (a b : Addr) (ps cs : List Int) (m : Int), vs = [.ref a, .ref b, .int m] /\ H a = some (tupI ps) /\ H b = some (tupI cs) /\ (-(2 ^ 64) < m /\ m < 2 ^ 64) /\ ps.length <= 1000 /\ ∀ p H', Same H H' -> H' p = some (tupI (mvd ps cs m)) -> Q (.ref p) H'
theorem ok_moved (T : Tx K mg) : OkD P w mg base CX0 1 T.D_moved sp_moved := by
  refine T.D_moved.fn.okQ sc_moved (fun vs H Q E h => ?_) (fun cdv A outer s H vs Q E hr h => ?_)
  · obtain ⟨a, b, ps, cs, m, rfl, _⟩ := h
    rfl
  · obtain ⟨a, b, ps, cs, m, rfl, ha, hb, hm, hl, q⟩ := h
    refine ⟨_, (qss_one (qs_ret (qe_cT call_tuple_ofA T.m_tuple b_tuple (qa_c (qe_comp (cok sc_moved (N := ["power", "change", "many"]) (js := [none, none, some 2]) (List.forall_mem_cons.mpr ⟨rfl, (List.forall_mem_nil _)⟩)) rfl (qi_zip rfl rfl T.m_zip (qa_c (qv 0) (qa_c (qv 1) qa_nil))) (fun _ _ _ _ => (qg_tupN (K := K) (n := 2) rfl rfl (qgs_cons qg_c0 (qgs_cons (qg_name (i := 1) (show List.Nodup (["power", "change", "many"] : List Str) from by decide +kernel) rfl (Or.inl rfl) (Or.inr rfl)) qgs_nil)))) (fun _ _ _ _ => qts_nil)
          (fun _ _ _ _ => (qe_op op_add (qv 0) (qe_op op_mul (qv 2) (qv 1))))) qa_nil)))), ?_⟩
    refine ⟨_, rfl, _, rfl, a, b, rfl, ⟨_, SqT.of ha⟩, ⟨_, SqT.of hb⟩, fun D hD => ?_⟩
    refine comp_zip_ints (f := fun x y => x + m * y) (σ0 := [some (.int m)]) (xs := ps) (ys := cs) (by rw [sizeLine_eq]; omega) ⟨_, _, rfl⟩ hD ha hb (fun x y H' R _ _ r => ⟨_, rfl, _, rfl, _, rfl, _, _, rfl, rfl, .inl hm, _, _, rfl, rfl, r⟩) fun H3 s3 h3 => ?_
    exact ⟨D, _, rfl, SqL.of h3, fun p H4 fp s4 hp => q p H4 (s3.trans s4) hp⟩
theorem goN_pre {rows : List (List Int)} {p : List Int} : ∀ {k j : Nat} {q : List Int}, goN rows k p = some q -> j <= k -> ∃ r, goN rows j p = some r
  | 0, j, q, h, hj => by rw [show j = 0 by omega]; exact ⟨q, h⟩
  | k + 1, j, q, h, hj => by
    by_cases e : j = k + 1
    · rw [e]; exact ⟨q, h⟩
    · obtain ⟨r, h1, _⟩ := Option.bind_eq_some_iff.mp h
      exact goN_pre h1 (by omega)
def sp_afterX (C : Addr) : Sp := fun vs H Q E => ∃ (b a : Addr) (xs : List V) (fs : List (Int × Int)) (ps : List Int) (m : Int), vs = [.ref b, .ref a, .int m] /\ H b = some (.tup xs) /\ FrcsV H xs fs /\ xs.length <= 1000 /\ H a = some (tupI ps) /\ ps.length = 10 /\ nn ps = true /\ 0 <= m /\ m < 2 ^ 62 /\
  (∀ r, goN (rowsOf fs) m.toNat ps = some r -> ∀ q' H', Same H H' -> H' q' = some (tupI r) -> Q (.ref q') H') /\
  (∀ (n : Nat) r, n < m.toNat -> goN (rowsOf fs) n ps = some r -> fstI (rowsOf fs) r = none -> ∀ dx H', Same H H' -> H' dx = some (.xd [("steps", .int (n : Int))]) -> E (.ref C) (some dx) H')
theorem ok_after (T : Tx K mg) : OkD P w mg base (CXE P w) 5 T.D_after (sp_afterX T.c_AtRest) := by
  refine T.D_after.fn.okX sc_after (fun vs H Q E h => ?_) (fun cdv A outer s H vs Q E hr h => ?_)
  · obtain ⟨b, a, xs, fs, ps, m, rfl, _⟩ := h
    rfl
  · obtain ⟨b, a, xs, fs, ps, m, rfl, hb, hf, hl, ha, hp10, hnn, m0, m4, q1, q2⟩ := h
    refine ⟨_, (qss_cons (qs_sS 3 sc_after (qe_cD (ok_changes_of T) hr pass0 (qa_c (qv 0) qa_nil)))
      (qss_cons (qs_sS 4 sc_after (qv 1))
      (qss_cons (qs_for PassesOwn.leaving rfl (qi_range1 rfl T.m_range (qa_c (qv 2) qa_nil)) (qg_nS 5 sc_after)
        (qss_cons (qs_sS 6 sc_after (qe_cD (ok_first_of T) hr pass0 (qa_c (qv 3) (qa_c (qv 4) qa_nil))))
      (qss_cons (qs_if (qt_cmpR op_isN (qv 6) qe_non (nomark _))
        (qss_one (qs_raiseI xok_cx rfl rfl T.I_AtRest (ok_init_AtRest T) (hr.mono (by decide)) T.B_AtRest (by rfl) (qa_c (qv 5) qa_nil)))
        qss_nil)
      (qss_one (qs_sS 4 sc_after (qe_cD (ok_moved T) hr pass0 (qa_c (qv 4) (qa_c (qe_ix ix_list (qv 3) (qv 6) (fun _ _ => rfl)) (qa_c qe_int qa_nil)))))))))
      (qss_one (qs_ret (qv 4)))))), ?_⟩
    refine ⟨_, rfl, b, xs, fs, rfl, hb, hf, hl, fun l H1 ys fl s1 hl1 hr1 => ?_⟩
    refine ⟨_, rfl, _, rfl, m, rfl, by omega, m4, for_range (n := m.toNat) (fun i σ H3 => ∃ (c : Addr) (cur : List Int) (u v : Option V), σ = [some (.ref b), some (.ref a), some (.int m), some (.ref l), some (.ref c), u, v] /\ Same H1 H3 /\ H3 c = some (tupI cur) /\ goN (rowsOf fs) i ps = some cur)
      ⟨a, ps, none, none, rfl, Same.refl H1, s1 _ _ ha, rfl⟩ ?_ ?_⟩
    · rintro i σ H3 hi ⟨c, cur, u, v, rfl, s3, hc3, hg3⟩
      have c10 := (goN_ok (rowsOf_10 fs) hp10 hnn hg3).1
      refine ⟨_, rfl, _, rfl, l, c, ys, rowsOf fs, cur, rfl, s3 _ _ hl1, hr1.same s3, hc3, fun H4 s4 => ?_⟩
      cases hfst : fstI (rowsOf fs) cur with
      | none =>
        refine ⟨_, rfl, rfl, _, rfl, iteT ⟨_, rfl, _, rfl, fun dx H5 s5 hdx => ?_⟩⟩
        rw [Int.zero_add] at hdx
        exact q2 i cur hi hg3 hfst dx H5 (((s1.trans s3).trans s4).trans s5) hdx
      | some k =>
        obtain ⟨d, h2, _, _⟩ := fstI_lt hfst
        obtain ⟨x, e, hx, rfl, he⟩ := (hr1.same s3).of h2
        have hst := stp_of hfst h2
        refine ⟨_, rfl, rfl, _, rfl, iteF ⟨_, rfl, _, rfl, _, rfl, l, _, _, _, rfl, rfl, SqL.of (s4 _ _ (s3 _ _ hl1)), atI_of (Int.natCast_nonneg k) (by rw [Int.toNat_natCast]; exact hx), c, e, cur, d, 1, rfl, s4 _ _ hc3, s4 _ _ he, ⟨by decide, by decide⟩, by omega, fun p H6 s6 hp6 => ?_⟩⟩
        refine ⟨p, mvd cur d 1, _, _, rfl, (s3.trans s4).trans s6, hp6, ?_⟩
        show (goN (rowsOf fs) i ps).bind _ = _
        rw [hg3]
        exact hst
    · rintro σ H3 ⟨c, cur, u, v, rfl, s3, hc3, hg3⟩
      exact ⟨_, rfl, q1 cur hg3 c H3 (s1.trans s3) hc3⟩
def sp_stepX (C : Addr) : Sp := fun vs H Q E => ∃ (b a : Addr) (xs : List V) (fs : List (Int × Int)) (ps : List Int), vs = [.ref b, .ref a] /\ H b = some (.tup xs) /\ FrcsV H xs fs /\ xs.length <= 1000 /\ H a = some (tupI ps) /\ ps.length = 10 /\ nn ps = true /\
  (∀ r, stp (rowsOf fs) ps = some r -> ∀ q' H', Same H H' -> H' q' = some (tupI r) -> Q (.ref q') H') /\
  (fstI (rowsOf fs) ps = none -> ∀ dx H', Same H H' -> H' dx = some (.xd [("steps", .int 0)]) -> E (.ref C) (some dx) H')
theorem ok_step (T : Tx K mg) : OkD P w mg base (CXE P w) 6 T.D_step (sp_stepX T.c_AtRest) := by
  refine T.D_step.fn.okX sc_step (fun vs H Q E h => ?_) (fun cdv A outer s H vs Q E hr h => ?_)
  · obtain ⟨b, a, xs, fs, ps, rfl, _⟩ := h
    rfl
  · obtain ⟨b, a, xs, fs, ps, rfl, hb, hf, hl, ha, hp10, hnn, q1, q2⟩ := h
    refine ⟨_, (qss_one (qs_ret (qe_cD (ok_after T) hr passE (qa_c (qv 0) (qa_c (qv 1) (qa_c qe_int qa_nil)))))), ?_⟩
    refine ⟨_, rfl, _, rfl, b, a, xs, fs, ps, 1, rfl, hb, hf, hl, ha, hp10, hnn, by decide, by decide, q1, fun n r hn hg hf' dx H' s' hd => ?_⟩
    have e0 : n = 0 := by
      have : n < 1 := hn
      omega
    subst e0
    cases hg
    exact q2 hf' dx H' s' hd
def sp_first_fit : Sp := fun vs H Q _ => ∃ (b a : Addr) (xs : List V) (fs : List (Int × Int)) (ps : List Int), vs = [.ref b, .ref a] /\ H b = some (.tup xs) /\ FrcsV H xs fs /\ xs.length <= 1000 /\ H a = some (tupI ps) /\ ∀ H', Same H H' -> Q (optV (fstI (rowsOf fs) ps)) H'
theorem ok_first_fit (T : Tx K mg) : OkD P w mg base CX0 5 T.D_first_fit sp_first_fit := by
  refine T.D_first_fit.fn.okQ sc_first_fit (fun vs H Q E h => ?_) (fun cdv A outer s H vs Q E hr h => ?_)
  · obtain ⟨b, a, xs, fs, ps, rfl, _⟩ := h
    rfl
  · obtain ⟨b, a, xs, fs, ps, rfl, hb, hf, hl, ha, q⟩ := h
    refine ⟨_, (qss_one (qs_ret (qe_cD (ok_first_of T) hr pass0 (qa_c (qe_cD (ok_changes_of T) hr pass0 (qa_c (qv 0) qa_nil)) (qa_c (qv 1) qa_nil))))), ?_⟩
    refine ⟨_, rfl, b, xs, fs, rfl, hb, hf, hl, fun l H1 ys fl s1 hl1 hr1 => ?_⟩
    exact ⟨_, rfl, l, a, ys, rowsOf fs, ps, rfl, hl1, hr1, s1 _ _ ha, fun H2 s2 => q H2 (s1.trans s2)⟩
end
end W2
namespace W2
open PySem L2 Mth Xn
section
variable {P : Program} {w : World} {K : PySem.W.Frag} {mg : Str -> Option Value} {base : Heap}
theorem chgM_get {es : List Int} {c d : Nat} {x : Int} (h : c < es.length) : (chgM es c x).getD d 0 = es.getD d 0 + if c = d then x else 0 := by
  unfold chgM
  simp only [List.getD_eq_getElem?_getD]
  by_cases e : c = d
  · subst e
    rw [List.getElem?_set_self h, if_pos rfl]
    rfl
  · rw [List.getElem?_set_ne e, if_neg e, Int.add_zero]
theorem pows_len (n : Nat) : (powsOf n).length = 10 := by simp [powsOf, primes]
theorem nn_get {es : List Int} (h : nn es = true) (c : Nat) : 0 <= es.getD c 0 := by
  rw [List.getD_eq_getElem?_getD]
  cases h2 : es[c]? with
  | none => exact Int.le_refl 0
  | some e => exact nn_iff.mp h e (List.mem_of_getElem? h2)
theorem natI_getD (l : List Nat) (c : Nat) : (natI l).getD c 0 = (l.getD c 0 : Int) := by
  unfold natI
  rw [List.getD_eq_getElem?_getD, List.getD_eq_getElem?_getD, List.getElem?_map]
  cases l[c]? <;> rfl
theorem fit_iff {i j : Nat} {es : List Int} (hs : noShare i j = true) (hl : es.length = 10) (hn : nn es = true) : fitsB (chg i j) es = true ↔ ∀ c, ((powsOf j).getD c 0 : Int) <= es.getD c 0 := by
  rw [← want_fits hs hn, nn_iff]
  constructor
  · intro h c
    rw [← natI_getD]
    by_cases hc : c < 10
    · have h1 : c < es.length := by omega
      have h2 : c < (natI (powsOf j)).length := by unfold natI; rw [List.length_map, pows_len]; exact hc
      have := h (es[c] - (natI (powsOf j))[c]) (List.mem_of_getElem? (i := c) (by rw [List.getElem?_zipWith_eq_some]; exact ⟨_, _, List.getElem?_eq_getElem h1, List.getElem?_eq_getElem h2, rfl⟩))
      rw [List.getD_eq_getElem?_getD, List.getElem?_eq_getElem h2, List.getD_eq_getElem?_getD, List.getElem?_eq_getElem h1]
      show (natI (powsOf j))[c] <= es[c]
      omega
    · rw [List.getD_eq_getElem?_getD, List.getElem?_eq_none (by unfold natI; rw [List.length_map, pows_len]; omega)]
      exact nn_get hn c
  · intro h x hx
    obtain ⟨c, hc⟩ := List.getElem?_of_mem hx
    rw [List.getElem?_zipWith_eq_some] at hc
    obtain ⟨a, b, ha, hb, rfl⟩ := hc
    have := h c
    rw [← natI_getD, List.getD_eq_getElem?_getD, hb, List.getD_eq_getElem?_getD, ha] at this
    show 0 <= a - b
    have : b <= a := this
    omega
theorem stp_skip {c : List Int} {R : List (List Int)} {p : List Int} (h : fitsB c p = false) : stp (c :: R) p = stp R p := by
  unfold stp
  have e : fstI (c :: R) p = (fstI R p).map (· + 1) := by
    show (if fitsB c p = true then some 0 else (fstI R p).map (· + 1)) = _
    rw [h, if_neg (by decide)]
  rw [e, Option.map_map]
  rfl
theorem stp_hit {c : List Int} {R : List (List Int)} {p : List Int} (h : fitsB c p = true) : stp (c :: R) p = some (mvd p c 1) := by
  unfold stp
  have e : fstI (c :: R) p = some 0 := by
    show (if fitsB c p = true then some 0 else (fstI R p).map (· + 1)) = _
    rw [h, if_pos rfl]
  rw [e]
  rfl
theorem stp_skips {R : List (List Int)} {p : List Int} : ∀ {A : List (List Int)}, (∀ c ∈ A, fitsB c p = false) -> stp (A ++ R) p = stp R p
  | [], _ => rfl
  | c :: A, h => by
    show stp (c :: (A ++ R)) p = _
    rw [stp_skip (h c List.mem_cons_self)]
    exact stp_skips fun c' hc => h c' (List.mem_cons_of_mem _ hc)
theorem rowsOf_app (fs gs : List (Int × Int)) : rowsOf (fs ++ gs) = rowsOf fs ++ rowsOf gs := by unfold rowsOf; rw [List.map_append]
theorem eV_len (l : List Nat) : (eV l).length = 10 := by unfold eV; rw [List.length_map, List.length_range]
theorem pw1 {c : Nat} (hc : c <= 10) : powsOf (prN c) = eV [c] := by
  have e := (eV1 ⟨c, by omega⟩).1
  simp only at e
  rw [← e, powsOf_prod (eV_len _)]
theorem pw2 {c x : Nat} (hc : c <= 10) (hx : x <= 10) : powsOf (prN c * prN x) = eV [c, x] := by
  have e := (eV2 ⟨c, by omega⟩ ⟨x, by omega⟩).1
  simp only at e
  rw [← e, powsOf_prod (eV_len _)]
theorem eV1_get {c k : Nat} (h : k < 10) : (eV [c]).getD k 0 = if c = k then 1 else 0 := by
  rw [eV_get, if_pos h, List.count_cons, List.count_nil, Nat.zero_add]
  by_cases e : c = k
  · rw [if_pos e, if_pos (by simpa using e)]
  · rw [if_neg e, if_neg (by simpa using e)]
theorem eV2_get {c x k : Nat} (h : k < 10) : (eV [c, x]).getD k 0 = (if c = k then 1 else 0) + if x = k then 1 else 0 := by
  have h1 := eV1_get (c := x) h
  rw [eV_get, if_pos h] at h1 ⊢
  rw [List.count_cons, h1]
  by_cases e : c = k
  · have : (c == k) = true := by simpa using e
    rw [this, if_pos e, if_pos rfl]; omega
  · have : (c == k) = false := by simpa using e
    rw [this, if_neg e]
    show _ + 0 = _
    omega
theorem stP_len {many S k sec : Nat} {es : List Int} (hl : es.length = many) (h10 : many <= 10) : (stP many S k es sec).length = 10 := by
  unfold stP
  split
  · rw [List.length_set, List.length_append, List.length_replicate]; omega
  · rw [List.length_append, List.length_replicate]; omega
theorem zero_get {many x : Nat} {es : List Int} (hl : es.length = many) : (es ++ List.replicate (10 - many) (0 : Int)).getD x 0 = if x < many then es.getD x 0 else 0 := by
  rw [List.getD_eq_getElem?_getD]
  by_cases h : x < many
  · rw [List.getElem?_append_left (by omega), if_pos h, List.getD_eq_getElem?_getD]
  · rw [List.getElem?_append_right (by omega), if_neg h, List.getElem?_replicate]
    split <;> rfl
theorem stP_get {many S k sec x : Nat} {es : List Int} (hl : es.length = many) (h10 : many + 2 * S <= 10) (hs : sec <= 1) : (stP many S k es sec).getD x 0 = (if x < many then es.getD x 0 else 0) + if k < S /\ x = many + 2 * k + sec then 1 else 0 := by
  unfold stP
  by_cases hk : k < S
  · rw [if_pos hk]
    by_cases hx : x = many + 2 * k + sec
    · subst hx
      rw [List.getD_eq_getElem?_getD, List.getElem?_set_self (by rw [List.length_append, List.length_replicate]; omega), if_neg (by omega), if_pos ⟨hk, rfl⟩]
      rfl
    · rw [List.getD_eq_getElem?_getD, List.getElem?_set_ne (fun z => hx z.symm), ← List.getD_eq_getElem?_getD, zero_get hl, if_neg (c := k < S /\ x = many + 2 * k + sec) (fun z => hx z.2), Int.add_zero]
  · rw [if_neg hk, zero_get hl, if_neg (c := k < S /\ x = many + 2 * k + sec) (fun z => hk z.1), Int.add_zero]
theorem stP_nn {many S k sec : Nat} {es : List Int} (hl : es.length = many) (he : ∀ e ∈ es, 0 <= e) : nn (stP many S k es sec) = true := by
  rw [nn_iff]
  have h0 : ∀ x ∈ es ++ List.replicate (10 - many) (0 : Int), 0 <= x := fun x hx => by
    rcases List.mem_append.mp hx with z | z
    · exact he x z
    · rw [(List.mem_replicate.mp z).2]; exact Int.le_refl 0
  unfold stP
  split
  · intro x hx
    rcases List.mem_or_eq_of_mem_set hx with z | z
    · exact h0 x z
    · rw [z]; decide
  · exact h0
theorem mvd_get2 {p : List Int} {i j : Nat} (hp : p.length = 10) {x : Nat} (hx : x < 10) : (mvd p (chg i j) 1).getD x 0 = p.getD x 0 + (((powsOf i).getD x 0 : Nat) : Int) - (((powsOf j).getD x 0 : Nat) : Int) := by
  have c1 : x < p.length := by omega
  have c2 : x < (powsOf i).length := by rw [pows_len]; exact hx
  have c3 : x < (powsOf j).length := by rw [pows_len]; exact hx
  have e2 : (chg i j)[x]? = some (((powsOf i)[x] : Int) - ((powsOf j)[x] : Int)) := by
    unfold chg
    rw [List.getElem?_zipWith_eq_some]
    exact ⟨_, _, List.getElem?_eq_getElem c2, List.getElem?_eq_getElem c3, rfl⟩
  have e3 : (mvd p (chg i j) 1)[x]? = some (p[x] + 1 * (((powsOf i)[x] : Int) - ((powsOf j)[x] : Int))) := by
    unfold mvd
    rw [List.getElem?_zipWith_eq_some]
    exact ⟨_, _, List.getElem?_eq_getElem c1, e2, rfl⟩
  have gN : ∀ {l : List Nat} (h : x < l.length), l.getD x 0 = l[x] := fun {l} h => by rw [List.getD_eq_getElem?_getD, List.getElem?_eq_getElem h]; rfl
  have gI : ∀ {l : List Int} (h : x < l.length), l.getD x 0 = l[x] := fun {l} h => by rw [List.getD_eq_getElem?_getD, List.getElem?_eq_getElem h]; rfl
  rw [List.getD_eq_getElem?_getD, e3, gI c1, gN c2, gN c3]
  show p[x] + 1 * (((powsOf i)[x] : Int) - ((powsOf j)[x] : Int)) = _
  omega
theorem ext10W {p q : List Int} (h1 : p.length = 10) (h2 : q.length = 10) (h : ∀ x, x < 10 -> p.getD x 0 = q.getD x 0) : p = q := by
  apply List.ext_getElem (by rw [h1, h2])
  intro x a b
  have := h x (by omega)
  rw [List.getD_eq_getElem?_getD, List.getElem?_eq_getElem a, List.getD_eq_getElem?_getD, List.getElem?_eq_getElem b] at this
  exact this
theorem fits_want {i j : Int} {p : List Int} (hf : fracB i j = true) (hp : p.length = 10) (hn : nn p = true) : fitsB (chg i.toNat j.toNat) p = true ↔ ∀ c, c < 10 -> (((powsOf j.toNat).getD c 0 : Nat) : Int) <= p.getD c 0 := by
  have hs : noShare i.toNat j.toNat = true := by
    unfold fracB at hf
    simp only [Bool.and_eq_true] at hf
    exact hf.2
  rw [fit_iff hs hp hn]
  constructor
  · intro h c _; exact h c
  · intro h c
    by_cases z : c < 10
    · exact h c z
    · rw [show (powsOf j.toNat).getD c 0 = 0 by rw [List.getD_eq_getElem?_getD, List.getElem?_eq_none (by rw [pows_len]; omega)]; rfl]
      exact nn_get hn c
section
variable {many S k sec : Nat} {es : List Int}
theorem row_shut (hl : es.length = many) (he : ∀ e ∈ es, 0 <= e) (h10 : many + 2 * S <= 10) (hs : sec <= 1) {k0 s0 : Nat} (hk0 : k0 < S) (hs0 : s0 <= 1) {r : MRow} (hr : r.ok many S) (hd : ¬ (k < S /\ k0 = k /\ s0 = sec)) : ∀ c ∈ rowsOf (rowF many S k0 s0 r), fitsB c (stP many S k es sec) = false := by
  intro c hc
  unfold rowsOf at hc
  obtain ⟨f, hf, rfl⟩ := List.mem_map.mp hc
  have hfr := rowF_ok hr hk0 hs0 h10 f hf
  have hp := stP_len (S := S) (k := k) (sec := sec) hl (by omega)
  have hn := stP_nn (S := S) (k := k) (sec := sec) hl he
  cases hb : fitsB (chg f.1.toNat f.2.toNat) (stP many S k es sec) with
  | false => rfl
  | true =>
    exfalso
    have h := (fits_want hfr hp hn).mp hb (many + 2 * k0 + s0) (by omega)
    rw [stP_get hl h10 hs, if_neg (by omega), if_neg (fun z => hd ⟨z.1, by omega, by omega⟩)] at h
    have hw : 1 <= (powsOf f.2.toNat).getD (many + 2 * k0 + s0) 0 := by
      cases r with
      | add c n =>
        rw [List.mem_singleton.mp hf]
        show 1 <= (powsOf ((prN (many + 2 * k0 + s0) : Nat) : Int).toNat).getD _ 0
        rw [Int.toNat_natCast, pw1 (by omega), eV1_get (by omega), if_pos rfl]
        exact Nat.le_refl 1
      | tk c n o =>
        have := hr.1
        rcases List.mem_cons.mp hf with z | z
        · rw [z]
          show 1 <= (powsOf ((prN (many + 2 * k0 + s0) * prN c : Nat) : Int).toNat).getD _ 0
          rw [Int.toNat_natCast, pw2 (by omega) (by omega), eV2_get (by omega), if_pos rfl]
          omega
        · rw [List.mem_singleton.mp z]
          show 1 <= (powsOf ((prN (many + 2 * k0 + s0) : Nat) : Int).toNat).getD _ 0
          rw [Int.toNat_natCast, pw1 (by omega), eV1_get (by omega), if_pos rfl]
          exact Nat.le_refl 1
    omega
end
theorem rowX_is {many S n s x : Nat} (hx : x < 10) (hn : n <= S) : (rowX many S n s = x) ↔ (n < S /\ x = many + 2 * n + s) := by
  unfold rowX
  split <;> omega
section
variable {many k sec : Nat} {es : List Int} {rs : List MRow}
theorem row_step (hl : es.length = many) (he : ∀ e ∈ es, 0 <= e) (h10 : many + 2 * rs.length <= 10) (hs : sec <= 1) {r : MRow} (hr : rs[k]? = some r) (hok : r.ok many rs.length) (B : List (List Int)) : stp (rowsOf (rowF many rs.length k sec r) ++ B) (stP many rs.length k es sec) = some (stP many rs.length (ledM rs (k, es)).1 (ledM rs (k, es)).2 (1 - sec)) := by
  have hk : k < rs.length := (List.getElem?_eq_some_iff.mp hr).1
  have hp := stP_len (S := rs.length) (k := k) (sec := sec) hl (by omega)
  have hn := stP_nn (S := rs.length) (k := k) (sec := sec) hl he
  have fok := rowF_ok hok hk hs h10
  cases r with
  | add c n =>
    obtain ⟨hc, hn'⟩ := hok
    have e : ledM rs (k, es) = (n, chgM es c 1) := by unfold ledM; rw [hr]
    rw [e]
    have hf := fok _ List.mem_cons_self
    have x1 : rowX many rs.length n (1 - sec) <= 10 := by unfold rowX; split <;> omega
    show stp (chg ((prN c * prN (rowX many rs.length n (1 - sec)) : Nat) : Int).toNat ((prN (many + 2 * k + sec) : Nat) : Int).toNat :: B) _ = _
    rw [Int.toNat_natCast, Int.toNat_natCast]
    rw [stp_hit (by
      have := (fits_want hf hp hn).mpr
      rw [Int.toNat_natCast, Int.toNat_natCast] at this
      refine this fun x hx => ?_
      rw [pw1 (by omega), eV1_get hx, stP_get hl h10 hs]
      have := getD_ge he x
      by_cases z : many + 2 * k + sec = x
      · rw [if_pos z, if_neg (by omega), if_pos ⟨hk, z.symm⟩]
        decide
      · rw [if_neg z]
        split <;> split <;> omega)]
    congr 1
    refine ext10W (mvd_length hp (chg_length _ _)) (stP_len (by rw [chgM_len]; exact hl) (by omega)) fun x hx => ?_
    rw [mvd_get2 hp hx, pw2 (by omega) x1, pw1 (by omega), eV2_get hx, eV1_get hx, stP_get hl h10 hs, stP_get (by rw [chgM_len]; exact hl) h10 (by omega), chgM_get (by omega)]
    have hX := rowX_is (many := many) (s := 1 - sec) hx hn'
    have h1 : (k < rs.length /\ x = many + 2 * k + sec) ↔ many + 2 * k + sec = x := ⟨fun z => z.2.symm, fun z => ⟨hk, z.symm⟩⟩
    simp only [hX, h1]
    (repeat' split) <;> omega
  | tk c n o =>
    obtain ⟨hc, hn', ho⟩ := hok
    have e : ledM rs (k, es) = if 0 < es.getD c 0 then (n, chgM es c (-1)) else (o, es) := by unfold ledM; rw [hr]
    have hf := fok _ List.mem_cons_self
    have hf2 := fok _ (List.mem_cons_of_mem _ List.mem_cons_self)
    have xn : rowX many rs.length n (1 - sec) <= 10 := by unfold rowX; split <;> omega
    have xo : rowX many rs.length o (1 - sec) <= 10 := by unfold rowX; split <;> omega
    have h1 : ∀ x, (k < rs.length /\ x = many + 2 * k + sec) ↔ many + 2 * k + sec = x := fun x => ⟨fun z => z.2.symm, fun z => ⟨hk, z.symm⟩⟩
    show stp (chg ((prN (rowX many rs.length n (1 - sec)) : Nat) : Int).toNat ((prN (many + 2 * k + sec) * prN c : Nat) : Int).toNat :: chg ((prN (rowX many rs.length o (1 - sec)) : Nat) : Int).toNat ((prN (many + 2 * k + sec) : Nat) : Int).toNat :: B) _ = _
    have hw := fits_want hf hp hn
    have hw2 := fits_want hf2 hp hn
    rw [Int.toNat_natCast, Int.toNat_natCast] at hw hw2
    rw [Int.toNat_natCast, Int.toNat_natCast, Int.toNat_natCast, Int.toNat_natCast, e]
    by_cases hz : 0 < es.getD c 0
    · rw [if_pos hz]
      rw [stp_hit (hw.mpr fun x hx => by
        rw [pw2 (by omega) (by omega), eV2_get hx, stP_get hl h10 hs]
        simp only [h1]
        have hge := getD_ge he x
        by_cases a1 : x < many
        · rw [if_pos a1, if_neg (by omega : ¬ many + 2 * k + sec = x), if_neg (by omega : ¬ many + 2 * k + sec = x)]
          by_cases a2 : c = x
          · rw [if_pos a2, ← a2]; omega
          · rw [if_neg a2]; omega
        · rw [if_neg a1, if_neg (by omega : ¬ c = x)]
          split <;> decide)]
      congr 1
      refine ext10W (mvd_length hp (chg_length _ _)) (stP_len (by rw [chgM_len]; exact hl) (by omega)) fun x hx => ?_
      rw [mvd_get2 hp hx, pw1 xn, pw2 (by omega) (by omega), eV1_get hx, eV2_get hx, stP_get hl h10 hs, stP_get (by rw [chgM_len]; exact hl) h10 (by omega), chgM_get (by omega)]
      have hX := rowX_is (many := many) (s := 1 - sec) hx hn'
      simp only [hX, h1]
      (repeat' split) <;> omega
    · rw [if_neg hz]
      rw [stp_skip (by
        cases hb : fitsB (chg (prN (rowX many rs.length n (1 - sec))) (prN (many + 2 * k + sec) * prN c)) (stP many rs.length k es sec) with
        | false => rfl
        | true =>
          exfalso
          have := hw.mp hb c (by omega)
          rw [pw2 (by omega) (by omega), eV2_get (by omega), stP_get hl h10 hs, if_pos hc, if_neg (by omega), if_pos rfl, if_neg (by omega)] at this
          omega)]
      rw [stp_hit (hw2.mpr fun x hx => by
        rw [pw1 (by omega), eV1_get hx, stP_get hl h10 hs]
        simp only [h1]
        have hge := getD_ge he x
        by_cases a1 : x < many
        · rw [if_pos a1, if_neg (by omega : ¬ many + 2 * k + sec = x), if_neg (by omega : ¬ many + 2 * k + sec = x)]
          omega
        · rw [if_neg a1]
          split <;> decide)]
      congr 1
      refine ext10W (mvd_length hp (chg_length _ _)) (stP_len hl (by omega)) fun x hx => ?_
      rw [mvd_get2 hp hx, pw1 xo, pw1 (by omega), eV1_get hx, eV1_get hx, stP_get hl h10 hs, stP_get hl h10 (by omega)]
      have hX := rowX_is (many := many) (s := 1 - sec) hx ho
      simp only [hX, h1]
      (repeat' split) <;> omega
theorem prog_shut (hl : es.length = many) (he : ∀ e ∈ es, 0 <= e) (h10 : many + 2 * rs.length <= 10) (hs : sec <= 1) (hr : ∀ r ∈ rs, r.ok many rs.length) : ∀ j, j <= k -> j <= rs.length -> ∀ c ∈ rowsOf (progT many rs j), fitsB c (stP many rs.length k es sec) = false
  | 0, _, _, c, hc => by cases hc
  | j + 1, hj, hS, c, hc => by
    obtain ⟨r, hr0⟩ : ∃ r, rs[j]? = some r := ⟨_, List.getElem?_eq_getElem (by omega)⟩
    have hok := hr r (List.mem_of_getElem? hr0)
    rw [progT_succ hr0, rowsOf_app, rowsOf_app] at hc
    rcases List.mem_append.mp hc with z | z
    · rcases List.mem_append.mp z with z | z
      · exact prog_shut hl he h10 hs hr j (by omega) (by omega) c z
      · exact row_shut hl he h10 hs (by omega) (by omega) hok (fun z => by omega) c z
    · exact row_shut hl he h10 hs (by omega) (by omega) hok (fun z => by omega) c z
theorem progT_more : ∀ d j : Nat, ∃ B, progT many rs (j + d) = progT many rs j ++ B
  | 0, j => ⟨[], by rw [List.append_nil]; rfl⟩
  | d + 1, j => by
    obtain ⟨B, h⟩ := progT_more d j
    refine ⟨B ++ (match rs[j + d]? with
      | some r => rowF many rs.length (j + d) 0 r ++ rowF many rs.length (j + d) 1 r
      | none => []), ?_⟩
    rw [← List.append_assoc, ← h]
    rfl
theorem prog_steps (hl : es.length = many) (he : ∀ e ∈ es, 0 <= e) (h10 : many + 2 * rs.length <= 10) (hs : sec <= 1) (hr : ∀ r ∈ rs, r.ok many rs.length) (hk : k < rs.length) : stp (rowsOf (progT many rs rs.length)) (stP many rs.length k es sec) = some (stP many rs.length (ledM rs (k, es)).1 (ledM rs (k, es)).2 (1 - sec)) := by
  obtain ⟨r, hr0⟩ : ∃ r, rs[k]? = some r := ⟨_, List.getElem?_eq_getElem hk⟩
  have hok := hr r (List.mem_of_getElem? hr0)
  obtain ⟨B, hB⟩ := progT_more (many := many) (rs := rs) (rs.length - (k + 1)) (k + 1)
  rw [show k + 1 + (rs.length - (k + 1)) = rs.length by omega] at hB
  rw [hB, progT_succ hr0, rowsOf_app, rowsOf_app, rowsOf_app, List.append_assoc, List.append_assoc, stp_skips (prog_shut hl he h10 hs hr k (Nat.le_refl k) (by omega))]
  rcases (by omega : sec = 0 ∨ sec = 1) with z | z
  · subst z
    exact row_step hl he h10 hs hr0 hok _
  · subst z
    rw [stp_skips (row_shut hl he h10 hs hk (by omega) hok (fun z => by omega))]
    exact row_step hl he h10 hs hr0 hok _
theorem prog_rests (hl : es.length = many) (he : ∀ e ∈ es, 0 <= e) (h10 : many + 2 * rs.length <= 10) (hs : sec <= 1) (hr : ∀ r ∈ rs, r.ok many rs.length) (hk : k = rs.length) : fstI (rowsOf (progT many rs rs.length)) (stP many rs.length k es sec) = none :=
  fstI_none _ _ fun j c hc => prog_shut hl he h10 hs hr rs.length (by omega) (Nat.le_refl _) c (List.mem_of_getElem? hc)
end
end
end W2
namespace W2
open PySem L2 Mth Xn
section
variable {P : Program} {w : World} {K : PySem.W.Frag} {mg : Str -> Option Value} {base : Heap}
def xRest (C : Addr) (Q : VK) : XK := fun Cv d H1 => Cv = .ref C /\ ∃ (dx : Addr) (n : Int), d = some dx /\ H1 dx = some (.xd [("steps", .int n)]) /\ ∀ H2, Same H1 H2 -> Q (.int n) H2
def wRest (C f : Addr) (Q : VK) : St -> XK := fun σ Cv d H1 => σ = [some (.ref f), none] /\ xRest C Q Cv d H1
def sp_lam (f c : Addr) (o : Obj) (qual : Str) (spf : Hp -> VK -> XK -> Prop) : Sp := fun ws H Q E => ws = [] /\ H f = some (fnO f o) /\ H c = some (cdO c qual) /\ spf H Q E
def sp_rest (C f c : Addr) (o : Obj) (qual : Str) (spf : Hp -> VK -> XK -> Prop) : Sp := fun ws H Q _ => ws = [.ref f] /\ H f = some (fnO f o) /\ H c = some (cdO c qual) /\ ∀ (Q' : VK) (E' : XK), (∀ Cv d H1, xRest C Q Cv d H1 -> E' Cv d H1) -> spf H Q' E'
theorem ok_rest (T : Tx K mg) {f c : Addr} {o : Obj} {qual : Str} {spf : Hp -> VK -> XK -> Prop} {fdl fd' : FuncData} {oc : Value} {od : Option Addr} {sl : Array (Option Value)} (ho : o = ⟨oc, od, .func fd', sl⟩) (F : FnOk P w K mg base (CXE P w) 7 f fdl [] (sp_lam f c o qual spf)) (hbd : bindArgs fdl ⟨[], []⟩ = pure []) :
    OkD P w mg base CX0 9 T.D_l_rest_told (sp_rest T.c_AtRest f c o qual spf) := by
  refine T.D_l_rest_told.fn.okQ sc_l_rest_told (fun vs H Q E h => ?_) (fun cdv A outer s H vs Q E hr h => ?_)
  · obtain ⟨rfl, _⟩ := h
    rfl
  · obtain ⟨rfl, hf, hc, h⟩ := h
    refine ⟨_, (qss_cons (qs_tryM (E := (wRest T.c_AtRest f Q)) (i := 1) rfl rfl rfl T.I_AtRest.at_ (match_self T.I_AtRest) (by rfl) sc_l_rest_told.nd rfl rfl (fun _ _ xk => (qss_one (qs_expr (qe_callV0 (i := 0) F (hr.mono (by decide)) rfl xk rfl (Or.inl rfl) hbd))))
        (fun _ => (qss_one (qs_ret (qe_fldXN (K := K) rfl (qv 1) (by rfl))))))
      (qss_one (qs_ret qe_non))), ?_⟩
    refine ⟨⟨rfl, ⟨oc, od, fd', sl, by rw [← ho]; exact hf⟩, rfl, hf, hc, h _ _ fun Cv d H1 hx => ⟨rfl, hx⟩⟩, ?_⟩
    rintro C d H1 σ1 ⟨rfl, hC, dx, n, rfl, hdx, q⟩
    cases hC
    refine ⟨rfl, fun e he hσ => ?_⟩
    have s2 : Same H1 (upd H1 e (excO e T.c_AtRest (some dx))) := Same.new he
    exact ⟨_, rfl, e, T.c_AtRest, dx, _, _, rfl, upd_same, s2 _ _ hdx, T.I_AtRest.xc, T.I_AtRest.hd, T.FA_AtRest, rfl, q _ s2⟩
abbrev noArgs : Arguments := { posonlyargs := [], args := [], vararg := none, kwonlyargs := [], kw_defaults := [], kwarg := none, defaults := [] }
theorem two_vs {α : Type} {l : List α} (h : l.length = 2) : ∃ a b, l = [a, b] := by
  match l, h with
  | [a, b], _ => exact ⟨a, b, rfl⟩
def sp_lam_after (C : Addr) (vs : List V) (f c : Addr) (o : Obj) (q : Str) : Sp := sp_rest C f c o q (fun H Q E => sp_afterX C (vs ++ [.int 40]) H Q E)
theorem ok_lam_after (T : Tx K mg) {scope : Scope} {clos : List (Str × Addr)} {vs : List V} {f c : Addr} {ctv : Value} {qual : Str} {p1 p2 p3 p4 p5 : Pos} {k : Nat} (hk : scope.kind = .function) (hco : scope.isCoroutine = false) (hgen : scope.isGenerator = false) (hcell : ∀ x ∈ scope.names, x.2 ≠ .cell)
    (hg : scope.names.lookup ("after" : Str) = some .globalImplicit) (h1 : scope.names.lookup ("program" : Str) = some .free) (h2 : scope.names.lookup ("begin" : Str) = some .free) (hL : LamIn base scope clos ["program", "begin"] vs) :
    OkD P w mg base CX0 9 T.D_l_rest_told (sp_lam_after T.c_AtRest vs f c (lamO mg qual noArgs (.Call (.Name "after" p1) [.Name "program" p2, .Name "begin" p3, .Constant (.int 40) k p4] [] p5) scope clos c ctv) qual) := by
  refine ok_rest T rfl (fn_lam (k := 6) hk hco hgen hcell hL (fun vs H Q E h => ⟨h.1, h.2.1, h.2.2.1⟩) (fun A outer s H ws Q E hr h => ?_)) rfl
  obtain ⟨_, _, _, h⟩ := h
  obtain ⟨v1, v2, rfl⟩ := two_vs (l := vs) hL.len
  refine ⟨_, qe_call (ok_after T) (hr.mono (by decide)) hg T.D_after.at_ T.D_after.fn.kp T.D_after.bd .nil (passX rfl xok_lam) (qa_c (qe_var (i := 0) rfl (.inr (.inr h1))) (qa_c (qe_var (i := 1) rfl (.inr (.inr h2))) (qa_c qe_int qa_nil))), ?_⟩
  exact ⟨_, rfl, _, rfl, h⟩
def sp_lam_machine_after (C : Addr) (vs : List V) (f c : Addr) (o : Obj) (q : Str) : Sp := sp_rest C f c o q (fun H Q E => sp_machine_afterX C (vs ++ [.int 40]) H Q E)
theorem ok_lam_machine_after (T : Tx K mg) {scope : Scope} {clos : List (Str × Addr)} {vs : List V} {f c : Addr} {ctv : Value} {qual : Str} {p1 p2 p3 p4 p5 : Pos} {k : Nat} (hk : scope.kind = .function) (hco : scope.isCoroutine = false) (hgen : scope.isGenerator = false) (hcell : ∀ x ∈ scope.names, x.2 ≠ .cell)
    (hg : scope.names.lookup ("machine_after" : Str) = some .globalImplicit) (h1 : scope.names.lookup ("machine" : Str) = some .free) (h2 : scope.names.lookup ("stand" : Str) = some .free) (hL : LamIn base scope clos ["machine", "stand"] vs) :
    OkD P w mg base CX0 9 T.D_l_rest_told (sp_lam_machine_after T.c_AtRest vs f c (lamO mg qual noArgs (.Call (.Name "machine_after" p1) [.Name "machine" p2, .Name "stand" p3, .Constant (.int 40) k p4] [] p5) scope clos c ctv) qual) := by
  refine ok_rest T rfl (fn_lam (k := 6) hk hco hgen hcell hL (fun vs H Q E h => ⟨h.1, h.2.1, h.2.2.1⟩) (fun A outer s H ws Q E hr h => ?_)) rfl
  obtain ⟨_, _, _, h⟩ := h
  obtain ⟨v1, v2, rfl⟩ := two_vs (l := vs) hL.len
  refine ⟨_, qe_call (ok_machine_after T) (hr.mono (by decide)) hg T.D_machine_after.at_ T.D_machine_after.fn.kp T.D_machine_after.bd .nil (passX rfl xok_lam) (qa_c (qe_var (i := 0) rfl (.inr (.inr h1))) (qa_c (qe_var (i := 1) rfl (.inr (.inr h2))) (qa_c qe_int qa_nil))), ?_⟩
  exact ⟨_, rfl, _, rfl, h⟩
end
end W2
namespace W2
open PySem L2 Mth Xn
theorem MacV.tups {H H' : Hp} {m : Addr} {many : Nat} {rs : List MRow} (h : MacV H m many rs) (k : Tups H H') : MacV H' m many rs := ⟨by
  obtain ⟨b, xs, h1, h2, h3⟩ := h.ex
  refine ⟨b, xs, k _ _ h1, k _ _ h2, h3.1, fun i x hx => ?_⟩
  obtain ⟨r, a, e1, e2, e3⟩ := h3.2 i x hx
  exact ⟨r, a, e1, e2, k _ _ e3⟩, h.m1, h.r1, h.ok⟩
theorem FrcsV.tups {H H' : Hp} {xs : List V} {fs : List (Int × Int)} (h : FrcsV H xs fs) (k : Tups H H') : FrcsV H' xs fs := ⟨h.1, fun i x hx => by
  obtain ⟨a, b, c, h1, h2, h3, h4⟩ := h.2 i x hx
  exact ⟨a, b, c, h1, h2, k _ _ h3, h4⟩⟩
theorem StV.tups {H H' : Hp} {a : Addr} {s : Nat × List Int} (h : StV H a s) (k : Tups H H') : StV H' a s := by
  obtain ⟨v, h1, h2⟩ := h
  exact ⟨v, k _ _ h1, k _ _ h2⟩
theorem StsV.tups {H H' : Hp} {ys : List V} {rs : List MRow} {s : Nat × List Int} (h : StsV H ys rs s) (k : Tups H H') : StsV H' ys rs s := fun i y hy => by
  obtain ⟨a, t, h1, h2, h3⟩ := h i y hy
  exact ⟨a, t, h1, h2.tups k, h3⟩
theorem sq_but {K : PySem.W.Frag} {H H' : Hp} {p a : Addr} {xs : List V} {o : HO} (hS : SqL K H a xs) (hp : H p = none) (bt : But p (L2.upd H p o) H') : SqL K H' a xs := by
  rcases hS with (h | ⟨u, h⟩) | h
  · exact .inl (.inl (bt _ _ (ne_of_none h hp) (by rw [upd_ne (ne_of_none h hp)]; exact h)))
  · exact .inl (.inr ⟨u, bt _ _ (ne_of_none h hp) (by rw [upd_ne (ne_of_none h hp)]; exact h)⟩)
  · exact .inr h
theorem sq_same {K : PySem.W.Frag} {H H' : Hp} {a : Addr} {xs : List V} (hS : SqL K H a xs) (s : Same H H') : SqL K H' a xs := by
  rcases hS with (h | ⟨u, h⟩) | h
  · exact .inl (.inl (s _ _ h))
  · exact .inl (.inr ⟨u, s _ _ h⟩)
  · exact .inr h
theorem prog_goS {many sec : Nat} {rs : List MRow} {s : Nat × List Int} (h10 : many + 2 * rs.length <= 10) (h2 : sec <= 1) (hr : ∀ r ∈ rs, r.ok many rs.length) (hs : StOk many rs s) : ∀ {j : Nat} {t : Nat × List Int}, goM rs j s = some t -> goN (rowsOf (progT many rs rs.length)) j (stP many rs.length s.1 s.2 sec) = some (stP many rs.length t.1 t.2 ((sec + j) % 2))
  | 0, t, h => by cases h; rw [show (sec + 0) % 2 = sec by omega]; rfl
  | j + 1, t, h => by
    obtain ⟨u, h1, h3⟩ := Option.bind_eq_some_iff.mp h
    split at h3
    · next hlt =>
      cases h3
      have ok := goM_ok hr hs h1
      show (goN _ j _).bind (stp _) = _
      rw [prog_goS h10 h2 hr hs h1]
      show stp _ (stP many rs.length u.1 u.2 ((sec + j) % 2)) = _
      rw [prog_steps ok.2.1 ok.2.2 h10 (by omega) hr hlt, show 1 - (sec + j) % 2 = (sec + (j + 1)) % 2 by omega]
    · cases h3
theorem goM_lt {rs : List MRow} {s u t : Nat × List Int} {j : Nat} (h : goM rs j s = some u) (h' : goM rs (j + 1) s = some t) : u.1 < rs.length /\ t = ledM rs u := by
  obtain ⟨v, h1, h2⟩ := Option.bind_eq_some_iff.mp h'
  rw [h] at h1
  cases h1
  split at h2
  · next hlt => cases h2; exact ⟨hlt, rfl⟩
  · cases h2
theorem sec_is {a : Nat} {b : Int} (h : b = a) : (if decide (V.int (b % 2) = V.int 1) = true then 1 else 0) = a % 2 := by
  rw [h]
  by_cases z : (a : Int) % 2 = 1
  · rw [decide_eq_true (by rw [z]), if_pos rfl]; omega
  · rw [decide_eq_false (fun w => z (by injection w)), if_neg (by decide)]; omega
theorem sec_is1 {a : Nat} (h : a <= 1) : (if decide (V.int (a : Int) = V.int 1) = true then 1 else 0) = a := by
  by_cases z : (a : Int) = 1
  · rw [decide_eq_true (by rw [z]), if_pos rfl]; omega
  · rw [decide_eq_false (fun w => z (by injection w)), if_neg (by decide)]; omega
theorem goN_dead {R : List (List Int)} {b c : List Int} {N m : Nat} (hg : goN R N b = some c) (hf : fstI R c = none) (hm : N < m) : goN R m b = none := by
  cases h : goN R m b with
  | none => rfl
  | some r =>
    obtain ⟨r', h1⟩ := goN_pre h (j := N + 1) (by omega)
    have h2 : goN R (N + 1) b = none := by
      show (goN R N b).bind (stp R) = none
      rw [hg]
      exact stp_none hf
    rw [h2] at h1
    cases h1
theorem rest_at {R : List (List Int)} {b c r : List Int} {N n : Nat} (hg : goN R N b = some c) (hf : fstI R c = none) (hg' : goN R n b = some r) (hf' : fstI R r = none) : n = N := by
  rcases Nat.lt_trichotomy n N with z | z | z
  · rw [goN_dead hg' hf' z] at hg
    cases hg
  · exact z
  · rw [goN_dead hg hf z] at hg'
    cases hg'
theorem restM_at {rs : List MRow} {s c r : Nat × List Int} {N n : Nat} (hg : goM rs N s = some c) (hf : c.1 = rs.length) (hg' : goM rs n s = some r) (hf' : r.1 = rs.length) : n = N := by
  rcases Nat.lt_trichotomy n N with z | z | z
  · rw [goM_end hg' hf' z] at hg
    cases hg
  · exact z
  · rw [goM_end hg hf z] at hg'
    cases hg'
section
variable {P : Program} {w : World} {K : PySem.W.Frag} {mg : Str -> Option Value} {base : Heap}
abbrev kLaw : Nat := 10
abbrev lamQ : Str := "law" ++ ".<locals>." ++ "<lambda>"
def sp_law (K : PySem.W.Frag) (Pt : Addr) : Sp := fun vs H Q _ => ∃ (a : Addr) (ns : List Int), vs = [.ref a] /\ SqL K H a (ns.map V.int) /\ ns.length <= 63 /\ Tab H Pt lamQ /\ ∀ H', Q (.bl true) H'
theorem ok_law (T : Tx K mg) {f c Pt : Addr} {fd : FuncData} (F : Fun K "law" "law" s_law f fd) (hcd : fd.code = .ref c) (hC : PySem.W.CodeHd base c Pt) (hB : BltAt base mg) : FnOk P w K mg base CX0 kLaw f fd ["script"] (sp_law K Pt) := by
  obtain ⟨oc, od, kV, doc, pm, an, cdv, ct, osl, rfl, lk, hci⟩ := F.ex
  have hcd' : cdv = .ref c := hcd
  subst hcd'
  refine fn_of lk hci sc_law (fun vs H Q E h => ?_) (fun A outer s H vs Q E hr h => ?_)
  · obtain ⟨a, ns, rfl, _⟩ := h
    rfl
  · obtain ⟨a, ns, rfl, hS, hlen, tab, q⟩ := h
    refine (fun ⟨t, h1, h2⟩ => ⟨t, h1.o.nox, h2⟩ : (∃ t, QSs (cxOf CX0 P w K mg base _ "law" (defScope s_law) f (.ref c) A outer s H E).nox (defBody s_law) t /\ t { nx := fun _ H' => Q .non H', rt := Q } (start _ [.ref a]) H) -> _) ?_
    refine ⟨_, (qss_cons (qs_for PassesOwn.never rfl (qi_range3 rfl T.m_range (qa_c qe_int (qa_c qe_int (qa_c qe_int qa_nil)))) (qg_nS 1 sc_law)
        (qss_cons (qs_set (i := 2) sc_law.nd rfl (Or.inr rfl) (qe_cD (ok_l_machine T) hr pass0 (qa_c (qe_cD (ok_l_pot T) hr pass0 (qa_c (qe_cD (ok_l_cell_at T) hr pass0 (qa_c (qv 0) (qa_c (qv 1) qa_nil))) qa_nil)) (qa_c qe_int (qa_c qe_int qa_nil)))))
      (qss_cons (qs_set (i := 3) sc_law.nd rfl (Or.inr rfl) (qe_cD (ok_program_of T) hr pass0 (qa_c (qv 2) qa_nil)))
      (qss_cons (qs_set (i := 4) sc_law.nd rfl (Or.inr rfl) (qe_cD (ok_l_stand T) hr pass0 (qa_c (qe_cD (ok_l_pot T) hr pass0 (qa_c (qe_cD (ok_l_cell_at T) hr pass0 (qa_c (qv 0) (qa_c (qe_op op_add (qv 1) qe_int) qa_nil))) qa_nil)) (qa_c (qv 2) qa_nil))))
      (qss_cons (qs_sS 5 sc_law (qe_cD (ok_l_stands T) hr pass0 (qa_c (qv 2) (qa_c (qv 4) (qa_c qe_int qa_nil)))))
      (qss_one (qs_for PassesOwn.never rfl (qi_list (qe_lstA (qa_c qe_int (qa_c qe_int qa_nil)))) (qg_nS 6 sc_law)
        (qss_cons (qs_sS 7 sc_law (qe_cD (ok_stand_powers T) hr pass0 (qa_c (qv 2) (qa_c (qv 4) (qa_c (qe_cmpR op_eq (qv 6) qe_int (nomark _)) qa_nil)))))
      (qss_cons (qs_for PassesOwn.never rfl (qi_range1 rfl T.m_range (qa_c (qe_cB call_len_seq T.m_len b_len (qa_c (qv 5) qa_nil)) qa_nil)) (qg_nS 8 sc_law)
        (qss_cons (qs_if (qt_cmpR (op_neT (hu_of hr)) (qv 7) (qe_cD (ok_stand_powers T) hr pass0 (qa_c (qv 2) (qa_c (qe_ix ix_list (qv 5) (qv 8) (fun _ _ => rfl)) (qa_c (qe_cmpR op_eq (qe_op op_mod (qe_op op_add (qv 6) (qv 8)) qe_int) qe_int (nomark _)) qa_nil)))) (nomark _))
        (qss_one (qs_ret qe_bl))
        qss_nil)
      (qss_cons (qs_if (qt_cmpR op_ne (qe_cmpR op_isN (qe_cD (ok_first_fit T) hr pass0 (qa_c (qv 3) (qa_c (qv 7) qa_nil))) qe_non (nomark _)) (qe_cmpR op_eq (qe_ix ix_tup (qe_ix ix_list (qv 5) (qv 8) (fun _ _ => rfl)) qe_int (fun _ _ => rfl)) (qe_cB call_len_seq T.m_len b_len (qa_c (qe_ix ix_tup (qv 2) qe_int (fun _ _ => rfl)) qa_nil)) (nomark _)) (nomark _))
        (qss_one (qs_ret qe_bl))
        qss_nil)
      (qss_one (qs_if (qt_cmpR op_lt (qe_op op_add (qv 8) qe_int) (qe_cB call_len_seq T.m_len b_len (qa_c (qv 5) qa_nil)) (nomark _))
        (qss_one (qs_sS 7 sc_law (qe_cD (ok_step T) hr passF (qa_c (qv 3) (qa_c (qv 7) qa_nil)))))
        qss_nil)))))
      (qss_cons (qs_set (i := 9) sc_law.nd rfl (Or.inr rfl) (qe_cD (ok_stand_powers T) hr pass0 (qa_c (qv 2) (qa_c (qv 4) (qa_c (qe_cmpR op_eq (qv 6) qe_int (nomark _)) qa_nil)))))
      (qss_one (qs_if (qt_cmpR op_le (qe_cB call_len_seq T.m_len b_len (qa_c (qv 5) qa_nil)) qe_int (nomark _))
        (qss_cons (qs_if (qt_cmpR op_ne (qe_callL (N := ["program", "begin"]) (keys := ["program", "begin"]) (ix := [3, 9]) (sp := sp_lam_after T.c_AtRest) (fun _ _ _ _ _ hL => ok_lam_after T rfl rfl rfl (by decide +kernel) rfl rfl rfl hL) (hr.mono (by decide)) rfl T.D_l_rest_told.at_ T.D_l_rest_told.fn.kp T.D_l_rest_told.bd rfl hC hB rfl rfl rfl rfl (List.forall_mem_cons.mpr ⟨rfl, (List.forall_mem_cons.mpr ⟨rfl, (List.forall_mem_nil _)⟩)⟩) rfl (by decide +kernel) (.cons ⟨rfl, rfl, rfl, by decide⟩ (.cons ⟨rfl, rfl, rfl, by decide⟩ .nil))) (qe_op op_sub (qe_cB call_len_seq T.m_len b_len (qa_c (qv 5) qa_nil)) qe_int) (nomark _))
        (qss_one (qs_ret qe_bl))
        qss_nil)
      (qss_one (qs_if (qt_cmpR op_ne (qe_callL (N := ["machine", "stand"]) (keys := ["stand", "machine"]) (ix := [2, 4]) (sp := sp_lam_machine_after T.c_AtRest) (fun _ _ _ _ _ hL => ok_lam_machine_after T rfl rfl rfl (by decide +kernel) rfl rfl rfl hL) (hr.mono (by decide)) rfl T.D_l_rest_told.at_ T.D_l_rest_told.fn.kp T.D_l_rest_told.bd rfl hC hB rfl rfl rfl rfl (List.forall_mem_cons.mpr ⟨rfl, (List.forall_mem_cons.mpr ⟨rfl, (List.forall_mem_nil _)⟩)⟩) rfl (by decide +kernel) (.cons ⟨rfl, rfl, rfl, by decide⟩ (.cons ⟨rfl, rfl, rfl, by decide⟩ .nil))) (qe_op op_sub (qe_cB call_len_seq T.m_len b_len (qa_c (qv 5) qa_nil)) qe_int) (nomark _))
        (qss_one (qs_ret qe_bl))
        qss_nil)))
        (qss_one (qs_if (qt_cmpR (op_neT (hu_of hr)) (qe_cD (ok_after T) hr passF (qa_c (qv 3) (qa_c (qv 9) (qa_c qe_int qa_nil)))) (qe_cD (ok_stand_powers T) hr pass0 (qa_c (qv 2) (qa_c (qe_ix ix_list (qv 5) qe_int (fun _ _ => rfl)) (qa_c (qe_cmpR op_eq (qv 6) qe_int (nomark _)) qa_nil)))) (nomark _))
        (qss_one (qs_ret qe_bl))
        qss_nil))))))))))))))
      (qss_one (qs_ret qe_bl))), ?_⟩
    refine ⟨0, 6, 2, 3, rfl, ⟨by decide, by decide⟩, by decide, by decide, for_range3 (n := 3) (fun i σ H2 => (∃ u1 u2 u3 u4 u5 u6 u7 u8 u9 : Option V, σ = [some (.ref a), u1, u2, u3, u4, u5, u6, u7, u8, u9]) /\ SqL K H2 a (ns.map V.int) /\ Tab H2 Pt lamQ) ⟨⟨none, none, none, none, none, none, none, none, none, rfl⟩, hS, tab⟩ ?_ (fun σ H2 _ => q H2)⟩
    rintro i σ H2 hi ⟨⟨u1, u2, u3, u4, u5, u6, u7, u8, u9, rfl⟩, hS2, tab2⟩
    refine ⟨_, rfl, _, rfl, a, ns, _, rfl, hS2, by omega, fun c' => ⟨c', rfl, fun n pt hpt => ?_⟩⟩
    refine ⟨pt, n, 4, 3, rfl, upd_same, by decide, by decide, by decide, by decide, fun m H3 n3 many rs b3 ha3 hM m3 r3 => ?_⟩
    have hS3 : SqL K H3 a (ns.map V.int) := sq_but hS2 hpt b3
    have tab3 : Tab H3 Pt lamQ := (tab2.same (Same.new hpt)).but upd_same b3
    have h10 : many + 2 * rs.length <= 10 := by omega
    refine ⟨_, rfl, m, many, rs, rfl, hM, h10, fun pr H4 xs s4 hpr hfs => ?_⟩
    have xl := hfs.1
    have hle := progT_len (many := many) (rs := rs) rs.length
    have R := rowsOf_10 (progT many rs rs.length)
    refine ⟨_, rfl, _, rfl, _, _, rfl, rfl, a, ns, _, rfl, sq_same hS3 s4, by omega, fun c' => ⟨c', rfl, fun n' qt hqt => ?_⟩⟩
    have sq : Same H4 (L2.upd H4 qt (.lst [.int n'])) := Same.new hqt
    refine ⟨_, rfl, qt, m, n', many, rs, rfl, upd_same, (hM.same s4).same sq, by omega, by omega, fun st sv H5 n5 k es b5 hq5 hst hsv hk hl he => ?_⟩
    have hS5 : SqL K H5 a (ns.map V.int) := sq_but (sq_same hS3 s4) hqt b5
    have tab5 : Tab H5 Pt lamQ := ((tab3.same s4).same sq).but upd_same b5
    have k45 : Keep H4 H5 := (Keep.of sq).trans (Keep.but b5 upd_same hq5)
    have st0 : StOk many rs (k, es) := ⟨hk, hl, fun e h => (he e h).1⟩
    have hM5 := (hM.same s4).keep k45
    refine ⟨_, rfl, _, rfl, m, st, rs, many, (k, es), 40, rfl, hM5, ⟨sv, hst, hsv⟩, st0, by omega, by decide, by decide, fun l H6 ys N s6 hl6 hys hyl hN hend => ?_⟩
    have tp45 : Tups H4 H5 := fun b xs h => k45.tup h
    have N40 : N <= 40 := hN
    refine ⟨szl, fun lp H7 f7 s7 hlp => ?_⟩
    have s57 := s6.trans s7
    have tab7 : Tab H7 Pt lamQ := tab5.same s57
    have hM7 := hM5.same s57
    have hst7 := s57 _ _ hst
    have hsv7 := s57 _ _ hsv
    have hpr7 := s57 _ _ (tp45 _ _ hpr)
    have hfs7 := (hfs.tups tp45).tups (.of s57)
    have hl7 := s7 _ _ hl6
    have hys7 := hys.tups (.of s7)
    have hS7 := sq_same hS5 s57
    have hgo : ∀ j, j <= N -> ∃ u y, ys[j]? = some (.ref y) /\ StV H7 y u /\ goM rs j (k, es) = some u := fun j hj => by
      obtain ⟨y, u, e1, e2, e3⟩ := hys7 j _ (List.getElem?_eq_getElem (show j < ys.length by omega))
      exact ⟨u, y, by rw [List.getElem?_eq_getElem (show j < ys.length by omega), e1], e2, e3⟩
    have hlm : ∃ tb ts, H7 m = some (.tup [.int many, .ref tb]) /\ H7 tb = some (.tup ts) /\ ts.length = rs.length := by
      obtain ⟨tb, ts, h1, h2, h3⟩ := hM7.ex
      exact ⟨tb, ts, h1, h2, h3.1⟩
    obtain ⟨tb, ts, hm7, htb7, tsl⟩ := hlm
    clear hM5 hM hS3 hS2 tab2 tab3 tab5 s4 k45 tp45 s57 hst hsv hpr hfs hl6 hys hS5 s6 s7 sq b3 b5 ha3 hq5 tab hS
    refine ⟨lp, rfl, ⟨_, SqL.of hlp⟩, for_list (K := K) (a := lp) (xs := [.int 0, .int 1]) (fun j σ G => (∃ u6 u7 u8 u9 : Option V, σ = [some (.ref a), some (.int (0 + (i : Int) * 2)), some (.ref m), some (.ref pr), some (.ref st), some (.ref l), u6, u7, u8, u9]) /\ But Pt H7 G /\ Tab G Pt lamQ) ⟨⟨_, _, _, _, rfl⟩, .refl _ _, tab7⟩ (fun j σ G hj h => SqL.of (h.2.1 _ _ (tab7.ne hlp fun ps z => by cases z) hlp)) ?_ ?_⟩
    · rintro j x σ G hx ⟨⟨u6, u7, u8, u9, rfl⟩, bG, tG⟩
      obtain ⟨sec, hsec, rfl⟩ : ∃ sec : Nat, sec <= 1 /\ x = .int (sec : Int) := by
        match j, hx with
        | 0, hx => cases hx; exact ⟨0, by decide, rfl⟩
        | 1, hx => cases hx; exact ⟨1, by decide, rfl⟩
        | j + 2, hx => cases hx
      have tpG : Tups H7 G := tab7.tups bG
      have hMG := hM7.tups tpG
      have hprG := tpG _ _ hpr7
      have hfsG := hfs7.tups tpG
      have hlG := bG _ _ (tab7.ne hl7 fun ps z => by cases z) hl7
      refine ⟨_, rfl, _, rfl, _, rfl, rfl, m, st, sv, many, k, rs, es, _, rfl, hMG, tpG _ _ hst7, tpG _ _ hsv7, hl, h10, fun nw H8 s8 hnw => ?_⟩
      rw [sec_is1 hsec] at hnw
      refine ⟨_, rfl, l, _, rfl, .inl (SqL.of (s8 _ _ hlG)), _, rfl, by omega, (by show (ys.length : Int) < 2 ^ 62; omega), for_range (n := ys.length) (fun t σ G2 => (∃ (nv : Addr) (u8 : Option V), σ = [some (.ref a), some (.int (0 + (i : Int) * 2)), some (.ref m), some (.ref pr), some (.ref st), some (.ref l), some (.int (sec : Int)), some (.ref nv), u8, u9] /\ (t <= N -> ∃ u, goM rs t (k, es) = some u /\ G2 nv = some (tupI (stP many rs.length u.1 u.2 ((sec + t) % 2))))) /\ Same H8 G2) ⟨⟨nw, _, rfl, fun _ => ⟨_, rfl, by rw [hnw, show (sec + 0) % 2 = sec by omega]⟩⟩, .refl _⟩ ?_ ?_⟩
      · rintro t σ G2 ht ⟨⟨nv, u8, rfl, hnv⟩, sG2⟩
        have ht' : t <= N := by omega
        obtain ⟨u, hgu, hnv⟩ := hnv ht'
        obtain ⟨u', y, hy, hyu, hgu'⟩ := hgo t ht'
        rw [hgu] at hgu'
        cases hgu'
        have uok := goM_ok hM7.ok st0 hgu
        have s8G := s8.trans sG2
        have tp2 : Tups H7 G2 := tpG.trans (.of s8G)
        obtain ⟨yv, hy1, hy2⟩ := hyu.tups tp2
        have hl2 := s8G _ _ hlG
        refine ⟨_, rfl, _, rfl, _, rfl, _, rfl, l, _, _, _, rfl, rfl, SqL.of hl2, atI_of (by omega) (by rw [show (0 + (t : Int)).toNat = t by omega]; exact hy), _, rfl, _, rfl, _, _, rfl, rfl, _, _, rfl, rfl, (by show (0 : Int) < 2; decide), rfl, m, y, yv, many, u.1, rs, u.2, _, rfl, hM7.tups tp2, hy1, hy2, uok.2.1, h10, fun pe G3 s3 hpe => ?_⟩
        rw [sec_is (a := sec + t) (by omega)] at hpe
        refine ⟨nv, pe, _, _, rfl, rfl, s3 _ _ hnv, hpe, _, rfl, ?_⟩
        rw [decide_eq_true rfl]
        refine iteF ?_
        have s83 := sG2.trans s3
        have tp3 : Tups H7 G3 := tp2.trans (.of s3)
        refine ⟨_, rfl, _, rfl, pr, nv, xs, _, _, rfl, tp3 _ _ hpr7, hfs7.tups tp3, by omega, s3 _ _ hnv, fun G4 s4 => ?_⟩
        have s84 := s83.trans s4
        have tp4 : Tups H7 G4 := tp3.trans (.of s4)
        have hl4 := s84 _ _ (s8 _ _ hlG)
        have pl : (stP many rs.length u.1 u.2 ((sec + t) % 2)).length = 10 := stP_len uok.2.1 (by omega)
        have pn : nn (stP many rs.length u.1 u.2 ((sec + t) % 2)) = true := stP_nn uok.2.1 uok.2.2
        have eb : decide (optV (fstI (rowsOf (progT many rs rs.length)) (stP many rs.length u.1 u.2 ((sec + t) % 2))) = V.non) = decide (V.int ((u.1 : Nat) : Int) = V.int ((ts.length : Nat) : Int)) := by
          by_cases hr' : u.1 = rs.length
          · rw [decide_eq_true (show V.int ((u.1 : Nat) : Int) = V.int ((ts.length : Nat) : Int) by rw [hr', tsl]), prog_rests uok.2.1 uok.2.2 h10 (by omega) hM7.ok hr']
            rfl
          · rw [decide_eq_false (show ¬ V.int ((u.1 : Nat) : Int) = V.int ((ts.length : Nat) : Int) from fun z => by injection z with z; omega)]
            have hlt : u.1 < rs.length := by have := uok.1; omega
            have hs := prog_steps (sec := (sec + t) % 2) uok.2.1 uok.2.2 h10 (by omega) hM7.ok hlt
            cases hf : fstI (rowsOf (progT many rs rs.length)) (stP many rs.length u.1 u.2 ((sec + t) % 2)) with
            | none =>
              rw [stp_none hf] at hs
              cases hs
            | some kk => exact decide_eq_false (fun z => by cases z)
        refine ⟨rfl, _, rfl, _, rfl, l, _, _, _, rfl, rfl, SqL.of hl4, atI_of (by omega) (by rw [show (0 + (t : Int)).toNat = t by omega]; exact hy), y, _, 0, _, rfl, rfl, SqT.of (s4 _ _ (s3 _ _ hy1)), rfl, _, rfl, m, _, 1, _, rfl, rfl, SqT.of (tp4 _ _ hm7), rfl, tb, ts, rfl, .inr (SqT.of (tp4 _ _ htb7)), rfl, rfl, _, rfl, ?_⟩
        rw [eb, decide_eq_true rfl]
        refine iteF ?_
        refine ⟨_, rfl, _, _, rfl, rfl, _, rfl, l, _, rfl, .inl (SqL.of hl4), _, _, rfl, rfl, _, rfl, ite2 (fun h' => ?_) (fun h' => ?_)⟩
        · have hlt : (0 : Int) + t + 1 < (ys.length : Int) := of_decide_eq_true h'
          obtain ⟨u2, y2, hy2', hyu2, hgu2⟩ := hgo (t + 1) (by omega)
          obtain ⟨hul, eu⟩ := goM_lt hgu hgu2
          have hs := prog_steps (sec := (sec + t) % 2) uok.2.1 uok.2.2 h10 (by omega) hM7.ok hul
          refine ⟨_, rfl, _, rfl, pr, nv, xs, _, _, rfl, tp4 _ _ hpr7, hfs7.tups tp4, by omega, s4 _ _ (s3 _ _ hnv), pl, pn, fun r hr' q' G5 s5 hq' => ?_, fun hno => ?_⟩
          · rw [hs] at hr'
            cases hr'
            refine ⟨⟨q', _, rfl, fun _ => ⟨_, hgu2, ?_⟩⟩, s84.trans s5⟩
            rw [hq', eu, show 1 - (sec + t) % 2 = (sec + (t + 1)) % 2 by omega]
          · rw [stp_none hno] at hs
            cases hs
        · have hlt : ¬ (0 : Int) + t + 1 < (ys.length : Int) := fun z => h' (decide_eq_true z)
          exact ⟨⟨nv, _, rfl, fun z => by omega⟩, s84⟩
      · rintro σ G2 ⟨⟨nv, u8, rfl, -⟩, sG2⟩
        have s8G := s8.trans sG2
        have tp2 : Tups H7 G2 := tpG.trans (.of s8G)
        have tab2 := tG.same s8G
        refine ⟨_, rfl, _, rfl, _, rfl, rfl, m, st, sv, many, k, rs, es, _, rfl, hM7.tups tp2, tp2 _ _ hst7, tp2 _ _ hsv7, hl, h10, fun bg G3 s3 hbg => ?_⟩
        rw [sec_is1 hsec] at hbg
        have tp3 : Tups H7 G3 := tp2.trans (.of s3)
        have tab3 := tab2.same s3
        have bl : (stP many rs.length k es sec).length = 10 := stP_len hl (by omega)
        have bn : nn (stP many rs.length k es sec) = true := stP_nn hl fun e h => (he e h).1
        have hl3 := s3 _ _ (s8G _ _ hlG)
        have b03 : But Pt H7 G3 := bG.trans (But.of (s8G.trans s3))
        obtain ⟨uN, yN, hyN, hyuN, hgN⟩ := hgo N (Nat.le_refl _)
        have uok := goM_ok hM7.ok st0 hgN
        have hgn := prog_goS h10 hsec hM7.ok st0 hgN
        refine ⟨_, rfl, l, _, rfl, .inl (SqL.of hl3), _, _, rfl, rfl, _, rfl, ite2 (fun h' => ?_) (fun h' => ?_)⟩
        · have hle' : (ys.length : Int) <= 40 := of_decide_eq_true h'
          have hrest : uN.1 = rs.length := by
            rcases hend with z | ⟨t', h1, h2⟩
            · have z' : N = 40 := z
              omega
            · rw [hgN] at h1
              cases h1
              exact h2
          have hno := prog_rests (sec := (sec + N) % 2) uok.2.1 uok.2.2 h10 (by omega) hM7.ok hrest
          refine ⟨[.ref pr, .ref bg], .cons rfl (.cons rfl .nil), tab3, fun f1 c1 ctv1 G4 b4 tab4 ff1 hf1 hc1 => ⟨rfl, hf1, hc1, fun Q' E' hE => ⟨pr, bg, xs, _, _, 40, rfl, (tp3.trans (tab3.tups b4)) _ _ hpr7, hfs7.tups (tp3.trans (tab3.tups b4)), by omega, tab3.tups b4 _ _ hbg, bl, bn, by decide, by decide, fun r hr' => ?_, fun n r hn hg hf dx G5 s5 hdx => hE _ _ _ ⟨rfl, dx, _, rfl, hdx, fun G6 s6 => ?_⟩⟩⟩⟩
          · have hr2 : goN (rowsOf (progT many rs rs.length)) 40 (stP many rs.length k es sec) = some r := hr'
            have hd : goN (rowsOf (progT many rs rs.length)) 40 (stP many rs.length k es sec) = none := goN_dead hgn hno (show N < 40 by omega)
            rw [hd] at hr2
            cases hr2
          have en : n = N := rest_at hgn hno hg hf
          subst en
          have s46 := s5.trans s6
          have tp6 : Tups H7 G6 := (tp3.trans (tab3.tups b4)).trans (.of s46)
          have b6 : But Pt H7 G6 := (b03.trans b4).trans (But.of s46)
          have tab6 := tab4.same s46
          have hl6 := b6 _ _ (tab7.ne hl7 fun ps z => by cases z) hl7
          refine ⟨_, rfl, l, _, rfl, .inl (SqL.of hl6), _, _, rfl, rfl, rfl, _, rfl, ?_⟩
          rw [decide_eq_true (show V.int ((n : Nat) : Int) = V.int ((ys.length : Int) - 1) by rw [show (ys.length : Int) - 1 = (n : Int) by omega])]
          refine iteF ⟨[.ref m, .ref st], .cons rfl (.cons rfl .nil), tab6, fun f2 c2 ctv2 G7 b7 tab7' ff2 hf2 hc2 => ⟨rfl, hf2, hc2, fun Q' E' hE => ⟨m, st, rs, many, (k, es), 40, rfl, hM7.tups (tp6.trans (tab6.tups b7)), ⟨sv, (tp6.trans (tab6.tups b7)) _ _ hst7, (tp6.trans (tab6.tups b7)) _ _ hsv7⟩, st0, by omega, by decide, by decide, fun r hr' => ?_, fun n2 r hn hg hf dx G8 s8' hdx => hE _ _ _ ⟨rfl, dx, _, rfl, hdx, fun G9 s9 => ?_⟩⟩⟩⟩
          · have hr2 : goM rs 40 (k, es) = some r := hr'
            rw [goM_end hgN hrest (show n < 40 by omega)] at hr2
            cases hr2
          have en2 : n2 = n := restM_at hgN hrest hg hf
          subst en2
          have s79 := s8'.trans s9
          have b9 : But Pt H7 G9 := (b6.trans b7).trans (But.of s79)
          have hl9 := b9 _ _ (tab7.ne hl7 fun ps z => by cases z) hl7
          refine ⟨_, rfl, l, _, rfl, .inl (SqL.of hl9), _, _, rfl, rfl, rfl, _, rfl, ?_⟩
          rw [decide_eq_true (show V.int ((n2 : Nat) : Int) = V.int ((ys.length : Int) - 1) by rw [show (ys.length : Int) - 1 = (n2 : Int) by omega])]
          exact iteF ⟨⟨_, _, _, _, rfl⟩, b9, tab7'.same s79⟩
        · have hgt : ¬ (ys.length : Int) <= 40 := fun z => h' (decide_eq_true z)
          have eN : N = 40 := by omega
          subst eN
          refine ⟨_, rfl, _, rfl, pr, bg, xs, _, _, 40, rfl, tp3 _ _ hpr7, hfs7.tups tp3, by omega, hbg, bl, bn, by decide, by decide, fun r hr' q' G4 s4 hq' => ?_, fun n r hn hg hf => ?_⟩
          · have hr2 : goN (rowsOf (progT many rs rs.length)) 40 (stP many rs.length k es sec) = some r := hr'
            have hgn' : goN (rowsOf (progT many rs rs.length)) 40 (stP many rs.length k es sec) = some (stP many rs.length uN.1 uN.2 ((sec + 40) % 2)) := hgn
            rw [hgn'] at hr2
            cases hr2
            have tp4 : Tups H7 G4 := tp3.trans (.of s4)
            obtain ⟨yv, hy1, hy2⟩ := hyuN.tups tp4
            refine ⟨_, rfl, _, rfl, l, _, 40, _, rfl, rfl, SqL.of (s4 _ _ hl3), atI_of (by decide) hyN, _, rfl, rfl, m, yN, yv, many, uN.1, rs, uN.2, _, rfl, hM7.tups tp4, hy1, hy2, uok.2.1, h10, fun pe G5 s5 hpe => ?_⟩
            rw [sec_is1 hsec] at hpe
            rw [show (sec + 40) % 2 = sec by omega] at hq'
            refine ⟨q', pe, _, _, rfl, rfl, s5 _ _ hq', hpe, _, rfl, ?_⟩
            rw [decide_eq_true rfl]
            exact iteF ⟨⟨_, _, _, _, rfl⟩, b03.trans (But.of (s4.trans s5)), (tab3.same s4).same s5⟩
          · have hd : goN (rowsOf (progT many rs rs.length)) 40 (stP many rs.length k es sec) = none := goN_dead hg hf hn
            have hgn' : goN (rowsOf (progT many rs rs.length)) 40 (stP many rs.length k es sec) = some (stP many rs.length uN.1 uN.2 ((sec + 40) % 2)) := hgn
            rw [hd] at hgn'
            cases hgn'
    · rintro σ G ⟨⟨u6, u7, u8, u9, rfl⟩, bG, tG⟩
      exact ⟨⟨_, _, _, _, _, _, _, _, _, rfl⟩, tab7.sq bG hS7, tG⟩
end
theorem all_mk {l : PySem.W.OpenLaw} {w : World} {K : PySem.W.Frag} {h : Heap} {mg : Str -> Option Value} {fa c0 Pt0 h_FractError h_AtRest h_NoNumber h_TooMany fi_AtRest N_AtRest : Addr} (X : K.In h) (G : h.Ns mainGlobals mg) (hfa : mg "law" = some (.ref fa)) (htab : PySem.W.tabIn K "law" = some (c0, Pt0))
    {nm_AtRest qq_AtRest : Str} {bs_AtRest : List Value} {sn_AtRest : List Str} {sub_AtRest : List Value} {ab_AtRest : Bool} {col_AtRest : Option Bool} {dd_AtRest od_AtRest an_AtRest : Option Addr} {kk0_AtRest kk1_AtRest kk2_AtRest kk3_AtRest kk5_AtRest : Option Value} {kV_AtRest dc_AtRest pm_AtRest cd_AtRest ct_AtRest : Value} {sl_AtRest : Array (Option Value)}
    {x_PRIMES : Addr} {t0_PRIMES t1_PRIMES t2_PRIMES t3_PRIMES t4_PRIMES t5_PRIMES t6_PRIMES t7_PRIMES t8_PRIMES t9_PRIMES : Tok} {n_PRIMES : Nat} {d_PRIMES : Option Addr} {sl_PRIMES : Array (Option Value)}
    (h0 : GA K "is_whole" s_is_whole)
    (h1 : GA K "powers_of" s_powers_of)
    (h2 : GA K "how_often" s_how_often)
    (h3 : GA K "without_primes" s_without_primes)
    (h4 : GA K "machine_after" s_machine_after)
    (h5 : GA K "next_stand" s_next_stand)
    (h6 : GA K "changed" s_changed)
    (h7 : GA K "program_of" s_program_of)
    (h8 : GA K "row_fractions" s_row_fractions)
    (h9 : GA K "row_prime" s_row_prime)
    (h10 : GA K "row_place" s_row_place)
    (h11 : GA K "stand_powers" s_stand_powers)
    (h12 : GA K "changes_of" s_changes_of)
    (h13 : GA K "fraction_changes" s_fraction_changes)
    (h14 : GA K "fits" s_fits)
    (h15 : GA K "first_of" s_first_of)
    (h16 : GA K "moved" s_moved)
    (h17 : GA K "first_fit" s_first_fit)
    (h18 : GA K "step" s_step)
    (h19 : GA K "after" s_after)
    (h20 : GA K "_law_cell_at" s_l_cell_at)
    (h21 : GA K "_law_pot" s_l_pot)
    (h22 : GA K "_law_take" s_l_take)
    (h23 : GA K "_law_machine" s_l_machine)
    (h24 : GA K "_law_stand" s_l_stand)
    (h25 : GA K "_law_led" s_l_led)
    (h26 : GA K "_law_stands" s_l_stands)
    (h27 : GA K "_law_rest_told" s_l_rest_told)
    (h28 : GA K "law" s_law)
    (a_FractError : PySem.W.nsIn K mainGlobals "FractError" = some (some (.ref h_FractError)))
    (a_AtRest : PySem.W.nsIn K mainGlobals "AtRest" = some (some (.ref h_AtRest)))
    (a_NoNumber : PySem.W.nsIn K mainGlobals "NoNumber" = some (some (.ref h_NoNumber)))
    (a_TooMany : PySem.W.nsIn K mainGlobals "TooMany" = some (some (.ref h_TooMany)))
    (e_FractError : PySem.W.excIn K h_FractError bmV "ValueError.__new__" = true)
    (q_AtRest_NoNumber : QF K h_AtRest h_NoNumber)
    (q_AtRest_TooMany : QF K h_AtRest h_TooMany)
    (lc_AtRest : K.lookup h_AtRest = some (excClassObj nm_AtRest qq_AtRest h_AtRest N_AtRest bs_AtRest (.ref h_FractError :: bmV) true sn_AtRest sub_AtRest ab_AtRest col_AtRest dd_AtRest kk0_AtRest kk1_AtRest kk2_AtRest kk3_AtRest kk5_AtRest "ValueError.__new__"))
    (no_AtRest : PySem.W.nsOkIn K N_AtRest = true)
    (ni_AtRest : PySem.W.nsIn K N_AtRest "__init__" = some (some (.ref fi_AtRest)))
    (li_AtRest : K.lookup fi_AtRest = some ⟨.type "function", od_AtRest, .func (PySem.W.fnOf "__init__" "AtRest.__init__" (defArgs s_init_AtRest) (defBody s_init_AtRest) (defScope s_init_AtRest) .none kV_AtRest dc_AtRest pm_AtRest an_AtRest cd_AtRest ct_AtRest), sl_AtRest⟩)
    (co_AtRest : PySem.W.codeIn K cd_AtRest "AtRest.__init__" = true)
    (ki_AtRest : PySem.W.keepIn K (.ref fi_AtRest) = true)
    (u_AtRest : PySem.W.mroIn K h_AtRest (.ref h_FractError) = some true)
    (ne_AtRest : h_AtRest ≠ h_FractError)
    (x2_AtRest : PySem.W.findIn K (.ref h_AtRest) "__getattribute__" = some (some (.builtin "BaseException.__getattribute__")))
    (x3_AtRest : PySem.W.findIn K (.ref h_AtRest) "__getattr__" = some none)
    (x4_AtRest : PySem.W.findIn K (.ref h_AtRest) "__class__" = some (some (.builtin "object.__class__")))
    (y1_AtRest : PySem.W.specialIn K (.builtin "object.__class__") "__get__" = some (some (.builtin "getset_descriptor.__get__")))
    (y2_AtRest : PySem.W.takesIn K (.builtin "object.__class__") = some true)
    (x5_AtRest : PySem.W.mroIn K h_AtRest (.type "object") = some true)
    (x6_AtRest : PySem.W.mroIn K h_AtRest (.type "BaseException") = some true)
    (v_AtRest : PySem.W.mroIn K h_AtRest (.type "ValueError") = some true)
    (sa_AtRest : PySem.W.findIn K (.ref h_AtRest) "__setattr__" = some (some (.builtin "object.__setattr__")))
    (fa_AtRest : PySem.W.findIn K (.ref h_AtRest) "steps" = some none)
    (z_len : PySem.W.nsIn K mainGlobals "len" = some none)
    (z_isinstance : PySem.W.nsIn K mainGlobals "isinstance" = some none)
    (z_int : PySem.W.nsIn K mainGlobals "int" = some none)
    (z_bool : PySem.W.nsIn K mainGlobals "bool" = some none)
    (z_tuple : PySem.W.nsIn K mainGlobals "tuple" = some none)
    (z_list : PySem.W.nsIn K mainGlobals "list" = some none)
    (z_range : PySem.W.nsIn K mainGlobals "range" = some none)
    (z_zip : PySem.W.nsIn K mainGlobals "zip" = some none)
    (z_enumerate : PySem.W.nsIn K mainGlobals "enumerate" = some none)
    (z_ValueError : PySem.W.nsIn K mainGlobals "ValueError" = some none)
    (g_PRIMES : PySem.W.nsIn K mainGlobals "PRIMES" = some (some (.ref x_PRIMES)))
    (y_PRIMES : K.lookup x_PRIMES = some ⟨.type "tuple", d_PRIMES, .seq #[.int 2 t0_PRIMES, .int 3 t1_PRIMES, .int 5 t2_PRIMES, .int 7 t3_PRIMES, .int 11 t4_PRIMES, .int 13 t5_PRIMES, .int 17 t6_PRIMES, .int 19 t7_PRIMES, .int 23 t8_PRIMES, .int 29 t9_PRIMES] n_PRIMES, sl_PRIMES⟩) :
    ∃ fd : FuncData, (∀ (s : Shared) (v : Value), BindsTo s fd ⟨[v], []⟩ [("script", v)]) /\ ∀ base : Heap, K.In base -> base.Ns mainGlobals mg -> PySem.W.CodeHd base c0 Pt0 -> BltAt base mg -> FnOk l.prog w K mg base CX0 kLaw fa fd ["script"] (sp_law K Pt0) := by
  obtain ⟨fl, fdl, al, F⟩ := h28
  have e := hfa.symm.trans (PySem.W.mg_of X G al)
  cases e
  have FI_AtRest := fun_mk (st := s_init_AtRest) li_AtRest co_AtRest ki_AtRest
  have T : Tx K mg := ⟨h0.dd X G bd1, h1.dd X G bd1, h2.dd X G bd2, h3.dd X G bd1, h4.dd X G bd3, h5.dd X G bd2, h6.dd X G bd3, h7.dd X G bd1, h8.dd X G bd3, h9.dd X G bd3, h10.dd X G bd3, h11.dd X G bd3, h12.dd X G bd1, h13.dd X G bd1, h14.dd X G bd2, h15.dd X G bd2, h16.dd X G bd3, h17.dd X G bd2, h18.dd X G bd2, h19.dd X G bd3, h20.dd X G bd2, h21.dd X G bd1, h22.dd X G bd2, h23.dd X G bd3, h24.dd X G bd2, h25.dd X G bd2, h26.dd X G bd3, h27.dd X G bd1, h_FractError, PySem.W.mg_of X G a_FractError, h_AtRest, PySem.W.mg_of X G a_AtRest, h_NoNumber, PySem.W.mg_of X G a_NoNumber, h_TooMany, PySem.W.mg_of X G a_TooMany, ⟨PySem.W.mg_of X G a_FractError, e_FractError⟩, fi_AtRest, _, ⟨PySem.W.mg_of X G a_AtRest, ⟨_, _, _, _, _, _, _, _, _, _, _, _, _, _, lc_AtRest, no_AtRest, ni_AtRest⟩, e_FractError, ⟨PySem.W.cls_of_mro x5_AtRest, x2_AtRest, x3_AtRest, x4_AtRest, y1_AtRest, y2_AtRest, x5_AtRest, x6_AtRest⟩, sa_AtRest, ⟨_, li_AtRest, rfl⟩⟩, FI_AtRest, FI_AtRest.binds bd2, ⟨⟨_, _, _, _, _, _, _, _, _, _, _, _, _, _, _, _, lc_AtRest⟩, u_AtRest, ne_AtRest⟩, fa_AtRest, PySem.W.kit_val v_AtRest, PySem.W.kit_self, q_AtRest_NoNumber.k, q_AtRest_TooMany.k, PySem.W.mg_none_of X G z_len, PySem.W.mg_none_of X G z_isinstance, PySem.W.mg_none_of X G z_int, PySem.W.mg_none_of X G z_bool, PySem.W.mg_none_of X G z_tuple, PySem.W.mg_none_of X G z_list, PySem.W.mg_none_of X G z_range, PySem.W.mg_none_of X G z_zip, PySem.W.mg_none_of X G z_enumerate, PySem.W.mg_none_of X G z_ValueError, x_PRIMES, PySem.W.mg_of X G g_PRIMES, fun H => .inr ⟨_, _, _, y_PRIMES, rfl, rfl, szl, (.cons ⟨_, rfl⟩ (.cons ⟨_, rfl⟩ (.cons ⟨_, rfl⟩ (.cons ⟨_, rfl⟩ (.cons ⟨_, rfl⟩ (.cons ⟨_, rfl⟩ (.cons ⟨_, rfl⟩ (.cons ⟨_, rfl⟩ (.cons ⟨_, rfl⟩ (.cons ⟨_, rfl⟩ .nil))))))))))⟩⟩
  have F1 := F
  obtain ⟨_, _, _, _, _, _, _, _, _, rfl, lk, _⟩ := F.ex
  exact ⟨_, fun s v => .of_eq rfl, fun base _ _ hC hB => ok_law T F1 (PySem.W.law_code X G htab hfa (X _ _ lk) rfl) hC hB⟩
theorem walk {l : PySem.W.OpenLaw} {q : Program} {loose : List Str} {XP : (Str -> Option Value) -> Heap -> Prop} {YP : World -> Heap -> Prop} {d : DefRec} {K : Params -> PySem.W.Frag} (hn : l.most = some 63) (hdf : d.params.defaults = [])
    (hY : ∀ (w : World) (h : Heap), YP w h -> (K w.params).In h) (hfind : ((PyProof.Rows.recsOf q).find? (fun e => e.name == d.name)).isSome = true) (hKt : ∀ w : World, PySem.W.noTabs (K w.params) = true) (htab : ∀ w : World, (PySem.W.tabIn (K w.params) d.name).isSome = true)
    (F : ∀ (w : World) (mg : Str -> Option Value) (fa c Pt : Addr) (h : Heap), (K w.params).In h -> h.Ns mainGlobals mg -> mg d.name = some (.ref fa) -> PySem.W.tabIn (K w.params) d.name = some (c, Pt) ->
      ∃ fd : FuncData, (∀ (s : Shared) (u : Value), BindsTo s fd ⟨[u], []⟩ [("script", u)]) /\ ∀ base : Heap, (K w.params).In base -> base.Ns mainGlobals mg -> PySem.W.CodeHd base c Pt -> BltAt base mg -> FnOk l.prog w (K w.params) mg base CX0 kLaw fa fd ["script"] (sp_law (K w.params) Pt)) :
    PySem.W.WalkO q loose XP YP l.row.toRowW d [] (fun f vs => PySem.call f vs) :=
  L2.walk_ofT (n := 63) (k := kLaw) (x := "script") (CX := fun _ => CX0) (sp := fun w => sp_law (K w.params)) hn (by decide) hdf ⟨rfl, by decide, by decide, rfl⟩ hY hfind hKt htab F (fun _ _ a Pt ns hl hP hS => ⟨a, ns, rfl, hS, hl, ⟨#[], hP, trivial, fun _ _ z => nomatch z⟩, fun _ => rfl⟩) fun _ _ _ _ _ z => z
end W2
open PySem PySem.W PyProof.Rows
namespace PySem.W.Fast
theorem tw11096049157341537991:True:=trivial
theorem tw162983595852112271:True:=trivial
theorem tw17299510296678297826:True:=trivial
theorem tw2545120161683800738:True:=trivial
theorem tw2711095388153188558:True:=trivial
theorem tw7222561318530759048:True:=trivial
theorem tw7476826528546875413:True:=trivial
theorem tw7567650385375475045:True:=trivial
theorem tw9375759038556140042:True:=trivial
theorem tw9377846029024040260:True:=trivial
end PySem.W.Fast
set_option maxRecDepth 100000 in
set_option maxHeartbeats 0 in
theorem PySem.Challenge.cw_wholefract_k75_whole_machine_and_program_holds : PySem.Challenge.rw_wholefract_k75_whole_machine_and_program.Holds := by
  w_on; o_law; k_head; (case hw => w_witness2)
  k_fill
  refine W2.walk (l := PySem.Challenge.rw_wholefract_k75_whole_machine_and_program) rfl rfl (fun w h Y => PySem.W.km_in_of Y) ?yf ?yk ?yt ?F
  case yf => kernel_rfl
  case yk => intro w; kernel_rfl
  case yt => intro w; kernel_rfl
  case F =>
    intro w mg fa c Pt h KX G hmg htb
    refine' W2.all_mk KX G hmg htb ?_ ?_ ?_ ?_ ?_ ?_ ?_ ?_ ?_ ?_ ?_ ?_ ?_ ?_ ?_ ?_ ?_ ?_ ?_ ?_ ?_ ?_ ?_ ?_ ?_ ?_ ?_ ?_ ?_ ?_ ?_ ?_ ?_ ?_ ?_ ?_ ?_ ?_ ?_ ?_ ?_ ?_ ?_ ?_ ?_ ?_ ?_ ?_ ?_ ?_ ?_ ?_ ?_ ?_ ?_ ?_ ?_ ?_ ?_ ?_ ?_ ?_ ?_ ?_ ?_ ?_
    all_goals try (show W2.GA _ _ _; exact W2.GA.mk (by k_is) (by k_is) (by k_is) (by k_is))
    iterate 3 (all_goals try k_is)
    all_goals try (show W2.QF _ _ _; exact ⟨by k_is, by decide, by k_is, by k_is⟩)
    all_goals try k_exc
    all_goals try decide
    all_goals try kernel_rfl
    all_goals k_is
