import PyProof.Rows.All
import Wide.All
import OpenK.AllK
import Wide.FinOn
import Lean
import PyProof.EqAt
import PyProof.EqKinds
import PyProof.TupleCall
import PyProof.EnumMake
import PyProof.Draws
import PyProof.Rows.MatchSeqLen
import PyProof.StrLawsTight
import PyProof.StrLawsChain
import KE.IntTextText
import PyProof.JoinWalk
import PyProof.Rows.StrWeight2
import PyProof.StrBlock2
import PyProof.FString
import PyProof.StrLawsOcc
import KE.KIntText
import PyProof.SliceStr2
import PyProof.FString5
import PySem.Challenge.RW_wholefract_k45_whole_base_is_all
set_option Elab.async false
set_option linter.all false
set_option maxRecDepth 100000
namespace L2
open PySem PySem.Spec PyProof.Rows
abbrev Key := Sum Int Str
def keyIs : Key -> Value -> Bool
  | .inl k, v => Value.isInt k v
  | .inr x, v => Value.isStrOf x v
def keyH (w : World) : Key -> Int
  | .inl k => hashInt k
  | .inr x => hashStr w x
theorem keyIs_shape : ∀ {k : Key} {v : Value}, keyIs k v = true -> (∃ i t, k = Sum.inl i /\ v = Value.int i t) ∨ (∃ x t, k = Sum.inr x /\ v = Value.str x t)
  | .inl i, v, h => by
    obtain ⟨t, e⟩ := Value.isInt_shape (k := i) (v := v) h
    exact .inl ⟨i, t, rfl, e⟩
  | .inr x, v, h => by
    obtain ⟨t, e⟩ := Value.isStrOf_shape (x := x) (v := v) h
    exact .inr ⟨x, t, rfl, e⟩
theorem key_ll (a b : Int) : decide ((Sum.inl a : Key) = Sum.inl b) = (a == b) := by
  by_cases e : a = b
  · subst e; simp
  · have h : ¬ (Sum.inl a : Key) = Sum.inl b := fun q => e (Sum.inl.inj q)
    rw [decide_eq_false h]
    exact (beq_eq_false_iff_ne.mpr e).symm
theorem key_rr (a b : Str) : decide ((Sum.inr a : Key) = Sum.inr b) = decide (a = b) := by
  by_cases e : a = b
  · subst e; simp
  · have h : ¬ (Sum.inr a : Key) = Sum.inr b := fun q => e (Sum.inr.inj q)
    rw [decide_eq_false h, decide_eq_false e]
theorem key_lr (a : Int) (b : Str) : decide ((Sum.inl a : Key) = Sum.inr b) = false := decide_eq_false (fun q => nomatch q)
theorem key_rl (a : Str) (b : Int) : decide ((Sum.inr a : Key) = Sum.inl b) = false := decide_eq_false (fun q => nomatch q)
def mixKind (prog : Program) (w : World) : PySem.KeyKind prog w Key where
  is := keyIs
  hash := keyH w
  inj := fun v a b ha hb => by
    rcases keyIs_shape ha with ⟨i, t, rfl, rfl⟩ | ⟨x, t, rfl, rfl⟩
    · rcases keyIs_shape hb with ⟨j, u, rfl, e⟩ | ⟨y, u, rfl, e⟩
      · injection e with e1 _; rw [e1]
      · exact nomatch e
    · rcases keyIs_shape hb with ⟨j, u, rfl, e⟩ | ⟨y, u, rfl, e⟩
      · exact nomatch e
      · injection e with e1 _; rw [e1]
  byValue := fun k v h => by
    rcases keyIs_shape h with ⟨i, t, rfl, rfl⟩ | ⟨x, t, rfl, rfl⟩ <;> rfl
  pyHash := fun hv h => by
    rcases keyIs_shape hv with ⟨i, t, rfl, rfl⟩ | ⟨x, t, rfl, rfl⟩
    · exact wpAny_pyHash_int h
    · exact wpAny_pyHash_str h
  eqBool := fun hu hv h => by
    rcases keyIs_shape hu with ⟨i, t, rfl, rfl⟩ | ⟨x, t, rfl, rfl⟩
    · rcases keyIs_shape hv with ⟨j, u, rfl, rfl⟩ | ⟨y, u, rfl, rfl⟩
      · rw [key_ll] at h; exact wpAny_eqBool_int h
      · rw [key_lr] at h; exact SeqAt.EqAt.int_str i t y u _ _ _ _ h
    · rcases keyIs_shape hv with ⟨j, u, rfl, rfl⟩ | ⟨y, u, rfl, rfl⟩
      · rw [key_rl] at h; exact SeqAt.EqAt.str_int x t j u _ _ _ _ h
      · rw [key_rr] at h; exact wpAny_eqBool_str h
  «strs» := fun k x t v h => by
    rcases keyIs_shape h with ⟨i, u, rfl, e⟩ | ⟨y, u, rfl, e⟩
    · exact nomatch e
    · injection e with e1 _
      subst e1
      cases v <;> rfl
end L2
namespace L2
open PySem PySem.Spec PyProof.Rows
inductive V where
  | non | bl (b : Bool) | int (i : Int) | str (x : Str) | byt (b : Array UInt8) | flt (b : UInt64) | ref (a : Addr) | ty (n : String)
  deriving DecidableEq
def RelV : V -> Value -> Prop
  | .non, u => u = Value.none
  | .bl b, u => u = Value.bool b
  | .int i, u => ∃ t, u = Value.int i t
  | .str x, u => ∃ t, u = Value.str x t
  | .byt b, u => ∃ t, u = Value.bytes b t
  | .flt b, u => ∃ t, u = Value.float b t
  | .ref a, u => u = Value.ref a
  | .ty n, u => u = Value.type n
abbrev Vals : List V -> List Value -> Prop := Paired RelV
theorem Vals.length {xs : List V} {us : List Value} (r : Vals xs us) : xs.length = us.length := Paired.length r
theorem Vals.get : ∀ {xs : List V} {us : List Value} {i : Nat} {x : V}, Vals xs us -> xs[i]? = some x -> ∃ u, us[i]? = some u /\ RelV x u
  | _, _, _, _, .nil, e => by simp at e
  | _, _, 0, _, .cons r _, e => by simp at e; subst e; exact ⟨_, rfl, r⟩
  | _, _, i + 1, x, .cons _ t, e => by
    obtain ⟨u, h1, h2⟩ := Vals.get (i := i) (x := x) t (by simpa using e)
    exact ⟨u, by simpa using h1, h2⟩
theorem Vals.set {x : V} {u : Value} (r : RelV x u) : ∀ {xs : List V} {us : List Value} (i : Nat), Vals xs us -> Vals (xs.set i x) (us.set i u)
  | _, _, _, .nil => .nil
  | _, _, 0, .cons _ t => .cons r t
  | _, _, i + 1, .cons q t => .cons q (Vals.set r i t)
theorem Vals.append : ∀ {xs ys : List V} {us ws : List Value}, Vals xs us -> Vals ys ws -> Vals (xs ++ ys) (us ++ ws)
  | _, _, _, _, .nil, s => s
  | _, _, _, _, .cons r t, s => .cons r (Vals.append t s)
theorem Vals.take : ∀ {xs : List V} {us : List Value} (n : Nat), Vals xs us -> Vals (xs.take n) (us.take n)
  | _, _, 0, _ => .nil
  | _, _, _ + 1, .nil => .nil
  | _, _, n + 1, .cons r t => .cons r (Vals.take n t)
theorem Vals.drop : ∀ {xs : List V} {us : List Value} (n : Nat), Vals xs us -> Vals (xs.drop n) (us.drop n)
  | _, _, 0, r => r
  | _, _, _ + 1, .nil => .nil
  | _, _, n + 1, .cons _ t => Vals.drop n t
def RelO : Option V -> Option Value -> Prop
  | some v, some u => RelV v u
  | none, none => True
  | _, _ => False
def KV {κ : Type} : List (κ × V) -> List (κ × Value) -> Prop := Paired fun (p : κ × V) (q : κ × Value) => p.1 = q.1 /\ RelV p.2 q.2
def kV : Key -> V
  | .inl i => .int i
  | .inr x => .str x
inductive HO where
  | lst (xs : List V)
  | tup (xs : List V)
  | dK (kvs : List (Key × V)) | dT (kvs : List (List Key × V))
  | set (S : Int -> Bool) (n : Nat)
  | ins (C dx : Addr) (fs : List (Str × V))
  | own (x : Addr)
  | xd (fs : List (Str × V))
  | met (f x : Addr)
  | rng (lo hi : Int)
  | frz (o : Obj) (u : HO)
  | tbl (ps : Array Value)
  | ext (φ : Heap -> Prop)
abbrev Hp := Addr -> Option HO
def upd (H : Hp) (a : Addr) (o : HO) : Hp := fun b => if b = a then some o else H b
theorem upd_same {H : Hp} {a : Addr} {o : HO} : upd H a o a = some o := by unfold upd; rw [if_pos rfl]
theorem upd_ne {H : Hp} {a b : Addr} {o : HO} (h : b ≠ a) : upd H a o b = H b := by unfold upd; rw [if_neg h]
theorem upd_upd {H : Hp} {a : Addr} {o u : HO} : upd (upd H a o) a u = upd H a u := by
  funext b; unfold upd; split <;> rfl
theorem ne_of {H : Hp} {a b : Addr} {o u : HO} (h : H a = some o) (h' : H b = some u) (d : o ≠ u) : a ≠ b := by
  intro e; subst e; rw [h] at h'; exact d (Option.some.inj h')
theorem ne_of_none {H : Hp} {a b : Addr} {o : HO} (h : H a = some o) (h' : H b = none) : a ≠ b := by
  intro e; subst e; rw [h] at h'; cases h'
section
variable (P : Program) (w : World)
def IsTupD (h : Heap) (a : Addr) (items : Array Value) : Prop := ∃ o, h.get? a = some o /\ o.cls = .type "tuple" /\ (∃ n, o.data = .seq items n) /\ o.dict = none
theorem IsTupD.up {h : Heap} {a : Addr} {items : Array Value} : IsTupD h a items -> IsTup h a items := fun ⟨o, e, c, d, _⟩ => ⟨o, e, c, d⟩
theorem IsTupD.lt {h : Heap} {a : Addr} {items : Array Value} : IsTupD h a items -> a < h.objs.size := fun ⟨_, e, _⟩ => Heap.lt_size e
theorem IsTupD.new (h : Heap) (items : Array Value) : IsTupD (h.push { cls := .type "tuple", data := .seq items }) h.objs.size items := ⟨_, Heap.get?_push_size _ rfl, rfl, ⟨_, rfl⟩, rfl⟩
def ObjOk (H : Hp) (h : Heap) (a : Addr) : HO -> Prop
  | .lst xs => xs.length <= sizeLine /\ ∃ (its : List Value) (n : Nat), Vals xs its /\ h.get? a = some { cls := .type "list", data := .seq its.toArray n }
  | .tup xs => xs.length <= sizeLine /\ ∃ its : List Value, Vals xs its /\ IsTupD h a its.toArray
  | .dK kvs => kvs.length <= sizeLine /\ (a == sysModules) = false /\ ∃ vs, KV kvs vs /\ h.DictOf (mixKind P w) a vs
  | .dT kvs => kvs.length <= sizeLine /\ (a == sysModules) = false /\ ∃ xs : List (List Key × Addr × Value),
      Paired (fun (p : List Key × V) (q : List Key × Addr × Value) => p.1 = q.1 /\ H q.2.1 = some (.tup (p.1.map kV)) /\ RelV p.2 q.2.2) kvs xs /\
      ∃ o es ep, h.get? a = some o /\ o.ExactDict /\ o.data = .dict es ep /\ es.toList = xs.map (entryOfKey (tupleKind (mixKind P w))) /\ (xs.map (·.1)).Nodup
  | .set S n => h.SetOf (intKind P w) a S n
  | .ins C dx fs => H dx = some (.own a) /\ fs.length <= 1000 /\ dx ≠ a /\ h.get? a = some (PySem.W.instObj C dx) /\
      ∃ mA, h.Ns1 dx mA /\ (∀ f, RelO (fs.lookup f) (mA f)) /\ PySem.Within mA (fs.map (·.1))
  | .own _ => ∃ o, h.get? a = some o
  | .xd fs => ∃ mA, h.Ns1 a mA /\ ∀ f, RelO (fs.lookup f) (mA f)
  | .rng lo hi => ∃ t u v, h.get? a = some { cls := .type "range", data := .fields #[.int lo t, .int hi u, .int 1 v] }
  | .frz o u => h.get? a = some o /\ ObjOk H h a u
  | .tbl ps => h.get? a = some { cls := .none, data := .fields ps }
  | .met f x => h.get? a = some (PySem.W.methodObj (.ref f) (.ref x))
  | .ext φ => φ h /\ (∃ o, h.get? a = some o) /\ ∀ h1 h2 : Heap, φ h1 -> (∀ o, h1.get? a = some o -> h2.get? a = some o) -> φ h2
def HOk (H : Hp) (h : Heap) : Prop := ∀ a o, H a = some o -> ObjOk P w H h a o
end
section
variable {P : Program} {w : World} {H H' : Hp} {h h' : Heap} {a : Addr} {o : HO}
theorem ObjOk.lt (x : ObjOk P w H h a o) : a < h.objs.size := by
  cases o with
  | lst xs => obtain ⟨_, _, _, _, e⟩ := x; exact Heap.lt_size e
  | tup xs => obtain ⟨_, _, _, p⟩ := x; exact p.lt
  | dK kvs => obtain ⟨_, _, _, _, o, _, _, e, _⟩ := x; exact Heap.lt_size e
  | dT kvs => obtain ⟨_, _, _, _, o, _, _, e, _⟩ := x; exact Heap.lt_size e
  | set S n => obtain ⟨o, _, _, _, e, _⟩ := x; exact Heap.lt_size e
  | ins C dx fs => obtain ⟨_, _, _, e, _⟩ := x; exact Heap.lt_size e
  | own y => obtain ⟨_, e⟩ := x; exact Heap.lt_size e
  | xd fs => obtain ⟨_, ⟨_, _, _, e, _⟩, _⟩ := x; exact Heap.lt_size e
  | rng lo hi => obtain ⟨_, _, _, e⟩ := x; exact Heap.lt_size e
  | frz ob u => obtain ⟨e, _⟩ := x; exact Heap.lt_size e
  | tbl ps => exact Heap.lt_size (show h.get? a = some _ from x)
  | met f y => exact Heap.lt_size (show h.get? a = some _ from x)
  | ext φ => obtain ⟨_, ⟨_, e⟩, _⟩ := x; exact Heap.lt_size e
theorem Paired.mapP {α β : Type} {F G : α -> β -> Prop} : ∀ {l₁ : List α} {l₂ : List β}, Paired F l₁ l₂ -> (∀ a b, F a b -> G a b) -> Paired G l₁ l₂
  | _, _, .nil, _ => .nil
  | _, _, .cons r t, f => .cons (f _ _ r) (Paired.mapP t f)
theorem ObjOk.stay (x : ObjOk P w H h a o) (k : ∀ b u, (b = a ∨ H b = some (.own a)) -> h.get? b = some u -> h'.get? b = some u)
    (ho : ∀ b, H b = some (.own a) -> H' b = some (.own a)) (ht : ∀ b xs, H b = some (.tup xs) -> H' b = some (.tup xs)) : ObjOk P w H' h' a o := by
  induction o with
  | lst xs => obtain ⟨z, its, n, r, e⟩ := x; exact ⟨z, its, n, r, k _ _ (.inl rfl) e⟩
  | tup xs => obtain ⟨z, its, r, ob, e, c⟩ := x; exact ⟨z, its, r, ob, k _ _ (.inl rfl) e, c⟩
  | dK kvs => obtain ⟨z, y, vs, r, ob, es, ep, e, c⟩ := x; exact ⟨z, y, vs, r, ob, es, ep, k _ _ (.inl rfl) e, c⟩
  | dT kvs =>
    obtain ⟨z, y, xs, r, ob, es, ep, e, c⟩ := x
    exact ⟨z, y, xs, Paired.mapP r fun p q z => ⟨z.1, ht _ _ z.2.1, z.2.2⟩, ob, es, ep, k _ _ (.inl rfl) e, c⟩
  | set S n => obtain ⟨ob, es, ep, t, e, c⟩ := x; exact ⟨ob, es, ep, t, k _ _ (.inl rfl) e, c⟩
  | ins C dx fs =>
    obtain ⟨d, z, ne, e, mA, ⟨od, es, ep, e2, c⟩, r⟩ := x
    exact ⟨ho _ d, z, ne, k _ _ (.inl rfl) e, mA, ⟨od, es, ep, k _ _ (.inr d) e2, c⟩, r⟩
  | own y => obtain ⟨ob, e⟩ := x; exact ⟨ob, k _ _ (.inl rfl) e⟩
  | xd fs => obtain ⟨mA, ⟨od, es, ep, e, c⟩, r⟩ := x; exact ⟨mA, ⟨od, es, ep, k _ _ (.inl rfl) e, c⟩, r⟩
  | rng lo hi => obtain ⟨t, u, v, e⟩ := x; exact ⟨t, u, v, k _ _ (.inl rfl) e⟩
  | frz ob u ih => obtain ⟨e, q⟩ := x; exact ⟨k _ _ (.inl rfl) e, ih q⟩
  | tbl ps =>
    have e : h.get? a = some { cls := .none, data := .fields ps } := x
    show h'.get? a = some { cls := .none, data := .fields ps }
    exact k a _ (.inl rfl) e
  | met f y =>
    have e : h.get? a = some (PySem.W.methodObj (.ref f) (.ref y)) := x
    show h'.get? a = some (PySem.W.methodObj (.ref f) (.ref y))
    exact k a _ (.inl rfl) e
  | ext φ => obtain ⟨p, ⟨o, e⟩, st⟩ := x; exact ⟨st _ _ p fun o q => k _ _ (.inl rfl) q, ⟨o, k _ _ (.inl rfl) e⟩, st⟩
theorem HOk.lt (x : HOk P w H h) (e : H a = some o) : a < h.objs.size := (x a o e).lt
theorem HOk.fresh (x : HOk P w H h) (e : h.objs.size <= a) : H a = none := by
  cases q : H a with
  | none => rfl
  | some u => exact absurd (Nat.lt_of_lt_of_le (x.lt q) e) (Nat.lt_irrefl _)
theorem HOk.kept (x : HOk P w H h) (k : ∀ b u, h.get? b = some u -> h'.get? b = some u) : HOk P w H h' := fun a o e =>
  (x a o e).stay (fun b u _ q => k b u q) (fun _ q => q) fun _ _ q => q
theorem HOk.laid (x : HOk P w H h) (k : ∀ b u, h.get? b = some u -> h'.get? b = some u) (hp : h.objs.size <= a) (new : ObjOk P w (upd H a o) h' a o) : HOk P w (upd H a o) h' := fun b u e => by
  have hn := x.fresh hp
  by_cases hb : b = a
  · subst hb; rw [upd_same] at e; cases e; exact new
  · rw [upd_ne hb] at e
    exact (x b u e).stay (fun c v _ q => k c v q) (fun c q => by rw [upd_ne (ne_of_none q hn)]; exact q) fun c xs q => by rw [upd_ne (ne_of_none q hn)]; exact q
end
def Rd (H : Hp) (a : Addr) (u : HO) : Prop := H a = some u ∨ ∃ o, H a = some (.frz o u)
theorem Rd.ok {P : Program} {w : World} {H : Hp} {h : Heap} {a : Addr} {u : HO} (r : Rd H a u) (x : HOk P w H h) : ObjOk P w H h a u := by
  rcases r with r | ⟨o, r⟩
  · exact x a u r
  · obtain ⟨_, q⟩ := x a _ r
    exact q
def Mut : Option HO -> Prop
  | some (.lst _) => True
  | some (.dK _) => True
  | some (.dT _) => True
  | some (.set _ _) => True
  | some (.ins _ _ _) => True
  | some (.ext _) => True
  | _ => False
section
variable {P : Program} {w : World} {H : Hp} {h h' : Heap} {x e : Addr} {o' : HO}
theorem HOk.write (ok : HOk P w H h) (mu : Mut (H x)) (he : e = x ∨ H e = some (.own x)) (k : ∀ b u, b ≠ e -> h.get? b = some u -> h'.get? b = some u) (heo : ∃ u, h'.get? e = some u)
    (new : ObjOk P w (upd H x o') h' x o') : HOk P w (upd H x o') h' := fun b u q => by
  have nown : ∀ c y, H c = some (.own y) -> c ≠ x := fun c y r z => by subst z; rw [r] at mu; exact mu
  have ntup : ∀ c xs, H c = some (.tup xs) -> c ≠ x := fun c xs r z => by subst z; rw [r] at mu; exact mu
  by_cases hb : b = x
  · subst hb; rw [upd_same] at q; cases q; exact new
  · rw [upd_ne hb] at q
    by_cases hbe : b = e
    · have q' : H b = some (.own x) := by
        rcases he with z | z
        · exact absurd (hbe.trans z) hb
        · rw [hbe]; exact z
      rw [q] at q'; cases q'
      obtain ⟨v, hv⟩ := heo
      exact ⟨v, by rw [hbe]; exact hv⟩
    · refine (ok b u q).stay (fun c v hc r => k c v ?_ r) (fun c r => by rw [upd_ne (nown c b r)]; exact r) fun c xs r => by rw [upd_ne (ntup c xs r)]; exact r
      rcases hc with rfl | hc
      · exact hbe
      · rintro rfl
        rcases he with z | z
        · exact nown c b hc z
        · rw [hc] at z; cases z; exact hb rfl
end
structure Un (fs ex : List Addr) (H H' : Hp) (h h' : Heap) : Prop where
  keep : ∀ b o, h.get? b = some o -> H b = none -> b ∉ fs -> b ∉ ex -> h'.get? b = some o
  slot : ∀ b o, h.get? b = some o -> H b = none -> b ∈ fs -> b ∉ ex -> ∃ sl, h'.get? b = some { o with slots := sl }
  free : ∀ b o, h.get? b = some o -> H b = none -> b ∉ ex -> H' b = none
  there : ∀ b o, h.get? b = some o -> b ∉ ex -> ∃ o', h'.get? b = some o'
  tups : ∀ b xs, H b = some (.tup xs) -> H' b = some (.tup xs)
  frzs : ∀ b o u, H b = some (.frz o u) -> H' b = some (.frz o u)
  tbls : ∀ b ps, H b = some (.tbl ps) -> ∃ more, H' b = some (.tbl (ps ++ more))
section
variable {fs fs' ex ex' : List Addr} {H H1 H2 : Hp} {h h1 h2 h' : Heap} {a x e : Addr} {o : HO}
theorem Un.any (u : Un fs ex H H1 h h1) {b : Addr} {ob : Obj} (q : h.get? b = some ob) (n : H b = none) (hx : b ∉ ex) : ∃ sl, h1.get? b = some { ob with slots := sl } := by
  by_cases hb : b ∈ fs
  · exact u.slot b ob q n hb hx
  · exact ⟨ob.slots, u.keep b ob q n hb hx⟩
theorem Un.kept (k : ∀ b u, h.get? b = some u -> h'.get? b = some u) : Un fs ex H H h h' :=
  ⟨fun b ob q _ _ _ => k b ob q, fun b ob q _ _ _ => ⟨ob.slots, k b ob q⟩, fun _ _ _ n _ => n, fun b ob q _ => ⟨ob, k b ob q⟩, fun _ _ q => q, fun _ _ _ q => q, fun _ ps q => ⟨#[], by rw [q]; simp⟩⟩
theorem Un.refl : Un fs ex H H h h := Un.kept fun _ _ q => q
theorem Un.laid (k : ∀ b u, h.get? b = some u -> h'.get? b = some u) (hp : h.objs.size <= a) (hn : H a = none) : Un fs ex H (upd H a o) h h' where
  keep := fun b u q _ _ _ => k b u q
  slot := fun b u q _ _ _ => ⟨u.slots, k b u q⟩
  free := fun b u q n _ => by rw [upd_ne (Nat.ne_of_lt (Nat.lt_of_lt_of_le (Heap.lt_size q) hp))]; exact n
  there := fun b u q _ => ⟨u, k b u q⟩
  tups := fun b xs q => by rw [upd_ne (ne_of_none q hn)]; exact q
  frzs := fun b u xs q => by rw [upd_ne (ne_of_none q hn)]; exact q
  tbls := fun b ps q => ⟨#[], by rw [upd_ne (ne_of_none q hn), q]; simp⟩
theorem Un.write (mu : Mut (H x)) (he : e = x ∨ H e = some (.own x)) (k : ∀ b u, b ≠ e -> h.get? b = some u -> h'.get? b = some u) (heo : ∃ u, h'.get? e = some u) : Un fs ex H (upd H x o) h h' := by
  have hx : ∀ b, H b = none -> b ≠ x := fun b n z => by subst z; rw [n] at mu; exact mu
  have hb : ∀ b, H b = none -> b ≠ e := fun b n z => by
    subst z
    rcases he with r | r
    · exact hx b n r
    · rw [n] at r; cases r
  have hm : ∀ b u, H b = some u -> ¬ Mut (some u) -> b ≠ x := fun b u q nm z => by subst z; rw [q] at mu; exact nm mu
  refine ⟨fun b u q n _ _ => k b u (hb b n) q, fun b u q n _ _ => ⟨u.slots, k b u (hb b n) q⟩, fun b u q n _ => by rw [upd_ne (hx b n)]; exact n, fun b u q _ => ?_,
    fun b xs q => by rw [upd_ne (hm b _ q fun z => z)]; exact q, fun b u xs q => by rw [upd_ne (hm b _ q fun z => z)]; exact q, fun b ps q => ⟨#[], by rw [upd_ne (hm b _ q fun z => z), q]; simp⟩⟩
  by_cases hbe : b = e
  · subst hbe; exact heo
  · exact ⟨u, k b u hbe q⟩
end
def trk (h : Heap) (H : Hp) : List Addr := (List.range h.objs.size).filter fun a => (H a).isSome
def hidT (h : Heap) (H : Hp) : Heap := PySem.W.hideAll h (trk h H)
theorem hidT_size (h : Heap) (H : Hp) : (hidT h H).objs.size = h.objs.size := PySem.W.hideAll_size _ _
theorem hidT_get {h : Heap} {H : Hp} {b : Addr} {o : Obj} (e : h.get? b = some o) (n : H b = none) : (hidT h H).get? b = some o :=
  PySem.W.hideAll_get _ e fun hm => by
    have q : (H b).isSome = true := (List.mem_filter.mp hm).2
    rw [n] at q; simp at q
theorem of_hidT {h : Heap} {H : Hp} {b : Addr} {o : Obj} (e : (hidT h H).get? b = some o) : h.get? b = some o /\ H b = none := by
  have e' : h.get? b = some o := PySem.W.of_hideAll (trk h H) e
  refine ⟨e', ?_⟩
  cases q : H b with
  | none => rfl
  | some x =>
    have hm : b ∈ trk h H := List.mem_filter.mpr ⟨List.mem_range.mpr (Heap.lt_size e'), by simp [q]⟩
    have z : (hidT h H).get? b = none := PySem.W.hideAll_none (trk h H) hm
    rw [z] at e; cases e
end L2
namespace L2
open PySem PySem.Spec PyProof.Rows
structure Mod (K : PySem.W.Frag) (mg : Str -> Option Value) (base : Heap) : Prop where
  kin : K.In base
  glob : base.Ns mainGlobals mg
  blt : ∃ mb, base.Ns builtinsNs mb /\ ∀ x : Str, x ≠ "__name__" -> mb x = bootBuiltins x
  nolimit : base.NoLimit
structure Cx where
  prog : Program
  w : World
  K : PySem.W.Frag
  mg : Str -> Option Value
  base : Heap
  A : Around
  N : List Str
  s₀ : Shared
  H₀ : Hp
  env : Env
  outer : List Env
  stack : List Env
  ex : List Addr
  fn : Str -> Bool
  calm : Bool
  pn : List (Addr × Obj)
  xe : Value -> Shared -> Prop
def frs (l : List Env) : List Addr := l.filterMap (·.frame)
abbrev Cx.fs (X : Cx) : List Addr := frs X.outer
def Vis (sc : Scope) (x : Str) : Prop := sc.names.lookup x = some .local ∨ sc.names.lookup x = some .cell ∨ sc.names.lookup x = some .free
def Loc (sc : Scope) (x : Str) : Prop := sc.names.lookup x = some .local ∨ sc.names.lookup x = some .cell
def Look (env : Env) (h : Heap) (m : Str -> Option Value) (x : Str) (u : Value) : Prop :=
  (env.kindOf x = some .local /\ m x = some u) ∨ ((env.kindOf x = some .cell ∨ env.kindOf x = some .free) /\ ∃ c, env.cells.lookup x = some c /\ h.IsCell c (some u))
structure Cx.Ok (X : Cx) : Prop where
  mod : Mod X.K X.mg X.base
  kind : X.env.scope.kind = .function
  glob : X.env.globals = mainGlobals
  blt : X.env.builtins = builtinsNs
  above : X.s₀.heap.objs.size <= X.env.locals
  inj : ∀ x y c, X.env.cells.lookup x = some c -> X.env.cells.lookup y = some c -> x = y
  has : ∀ x, (X.env.kindOf x = some .cell ∨ X.env.kindOf x = some .free) -> ∃ c, X.env.cells.lookup x = some c
  cab : ∀ x c, X.fn x = true -> X.env.cells.lookup x = some c -> X.s₀.heap.objs.size <= c
  hd : X.calm = true -> X.A.handled = none
  frames : X.A.frames = some X.stack
  stk : X.stack = X.outer ∨ (X.stack = X.env :: X.outer /\ X.env.frame = some X.env.locals)
  exf : ∀ b ∈ X.ex, b ≠ X.env.locals /\ ∀ x c, X.env.cells.lookup x = some c -> c ≠ b
  bs : ∀ b o, X.base.get? b = some o -> X.s₀.heap.get? b = some o /\ X.H₀ b = none
  bsz : X.base.objs.size <= X.s₀.heap.objs.size
  noex : ∀ b o, X.base.get? b = some o -> b ∉ X.ex
  exfs : ∀ b ∈ X.ex, b ∉ X.fs
  funs : X.s₀.heap.FunFrames X.base X.outer
  frf : ∀ b ∈ X.fs, X.H₀ b = none
structure Inv (X : Cx) (pins : List (Addr × Obj)) (σ : List (Option V)) (H : Hp) (s : Shared) : Prop where
  ok : X.Ok
  os : s.os = X.s₀.os
  bare : AllBare s.gens
  base : Un X.fs X.ex X.H₀ H X.s₀.heap s.heap
  loc : ∃ m, s.heap.Ns X.env.locals m /\ ∀ (i : Nat) (x : Str) (v : V), X.N[i]? = some x -> σ[i]? = some (some v) -> Vis X.env.scope x -> ∃ u, RelV v u /\ Look X.env s.heap m x u
  cell : ∀ x c, X.env.cells.lookup x = some c -> ∃ v, s.heap.IsCell c v
  free : H X.env.locals = none
  freeC : ∀ x c, X.env.cells.lookup x = some c -> H c = none
  pin : ∀ p ∈ X.pn ++ pins, s.heap.get? p.1 = some p.2 /\ H p.1 = none /\ p.1 ≠ X.env.locals /\ p.1 ∉ X.fs /\ ∀ v, p.2.data ≠ .cell v
  hok : HOk X.prog X.w H s.heap
  len : σ.length = X.N.length
section
variable {X : Cx} {pins : List (Addr × Obj)} {σ : List (Option V)} {H H' : Hp} {s : Shared} {h' : Heap}
theorem Cx.Ok.nofr (ok : X.Ok) {b : Addr} {o : Obj} (e : X.base.get? b = some o) : b ∉ X.fs := fun hb => by
  have := (ok.funs.mem hb).1
  rw [e] at this; cases this
theorem Inv.bs (I : Inv X pins σ H s) : ∀ b o, X.base.get? b = some o -> s.heap.get? b = some o /\ H b = none := fun b o e =>
  ⟨I.base.keep b o (I.ok.bs b o e).1 (I.ok.bs b o e).2 (I.ok.nofr e) (I.ok.noex b o e), I.base.free b o (I.ok.bs b o e).1 (I.ok.bs b o e).2 (I.ok.noex b o e)⟩
theorem Inv.bk (I : Inv X pins σ H s) : ∀ b o, X.base.get? b = some o -> s.heap.get? b = some o := fun b o e => (I.bs b o e).1
theorem Inv.mod (I : Inv X pins σ H s) : Mod X.K X.mg X.base := I.ok.mod
theorem Inv.kIn (I : Inv X pins σ H s) : X.K.In s.heap := I.ok.mod.kin.keeps I.bk
theorem Inv.lt (I : Inv X pins σ H s) : X.env.locals < s.heap.objs.size := let ⟨_, hn, _⟩ := I.loc; hn.lt
theorem Inv.sz (I : Inv X pins σ H s) : X.s₀.heap.objs.size <= s.heap.objs.size := Nat.le_trans I.ok.above (Nat.le_of_lt I.lt)
theorem Inv.nofs (I : Inv X pins σ H s) {a : Addr} (h : s.heap.objs.size <= a) : a ∉ X.fs := fun hb => by
  obtain ⟨_, o, ho, _⟩ := I.ok.funs.mem hb
  exact absurd (Nat.lt_of_lt_of_le (Heap.lt_size ho) (Nat.le_trans I.sz h)) (Nat.lt_irrefl _)
theorem Inv.cne (I : Inv X pins σ H s) : ∀ x c, X.env.cells.lookup x = some c -> c ≠ X.env.locals := fun x c e z => by
  obtain ⟨v, o, ho, hd⟩ := I.cell x c e
  obtain ⟨m, ⟨o', es, ep, ho', hd', _⟩, _⟩ := I.loc
  rw [z, ho'] at ho; cases ho; rw [hd'] at hd; cases hd
theorem Inv.funs (I : Inv X pins σ H s) : s.heap.FunFrames X.base X.outer := by
  have all : ∀ (l : List Env), (∀ b ∈ frs l, b ∈ X.fs) -> X.s₀.heap.FunFrames X.base l -> s.heap.FunFrames X.base l := by
    intro l
    induction l with
    | nil => intro _ _; trivial
    | cons env r ih =>
      intro hs hl
      obtain ⟨hk, ⟨L, o, hf, hn, ho, hd⟩, hr⟩ := hl
      have hL : L ∈ X.fs := hs L (by unfold frs; rw [List.filterMap_cons, hf]; exact List.mem_cons_self)
      obtain ⟨sl, e⟩ := I.base.slot L o ho (I.ok.frf L hL) hL fun z => I.ok.exfs L z hL
      exact ⟨hk, ⟨L, _, hf, hn, e, hd⟩, ih (fun b hb => hs b (by unfold frs; rw [List.filterMap_cons, hf]; exact List.mem_cons_of_mem _ hb)) hr⟩
  exact all X.outer (fun _ hb => hb) I.ok.funs
theorem Inv.stack (I : Inv X pins σ H s) : s.heap.FunFrames X.base X.stack := by
  rcases I.ok.stk with e | ⟨e, hf⟩
  · rw [e]; exact I.funs
  · rw [e]
    obtain ⟨m, hn, _⟩ := I.loc
    refine .cons (by rw [I.ok.kind]; decide) hf hn ?_ I.funs
    exact Heap.get?_none_of_le (Nat.le_trans I.ok.bsz I.ok.above)
theorem Inv.stkSub (I : Inv X pins σ H s) : ∀ b ∈ frs X.stack, b ∈ X.env.locals :: X.fs := fun b hb => by
  rcases I.ok.stk with e | ⟨e, hf⟩
  · rw [e] at hb; exact List.mem_cons_of_mem _ hb
  · rw [e] at hb
    unfold frs at hb
    rw [List.filterMap_cons, hf] at hb
    exact hb
theorem Inv.stkFree (I : Inv X pins σ H s) : ∀ b ∈ frs X.stack, H b = none := fun b hb => by
  rcases List.mem_cons.mp (I.stkSub b hb) with e | hb
  · rw [e]; exact I.free
  · obtain ⟨_, o, ho, _⟩ := I.ok.funs.mem hb
    exact I.base.free b o ho (I.ok.frf b hb) fun z => I.ok.exfs b z hb
theorem Inv.step {g' : Array GenState} {t' : Nat} {d' : Drawn} {ch : List Addr} (I : Inv X pins σ H s)
    (hch : ∀ b ∈ ch, (b ∈ X.ex ∨ X.s₀.heap.objs.size <= b) /\ b ≠ X.env.locals /\ (∀ x c, X.env.cells.lookup x = some c -> c ≠ b) /\ ∀ p ∈ X.pn ++ pins, p.1 ≠ b)
    (keep : ∀ b o, b ≠ X.env.locals -> b ∉ X.fs -> b ∉ ch -> s.heap.get? b = some o -> H b = none -> h'.get? b = some o)
    (slot : ∀ b o, b ≠ X.env.locals -> b ∈ X.fs -> b ∉ ch -> s.heap.get? b = some o -> H b = none -> ∃ sl, h'.get? b = some { o with slots := sl }) (free : ∀ b o, b ∉ ch -> s.heap.get? b = some o -> H b = none -> H' b = none)
    (there : ∀ b o, b ∉ ch -> s.heap.get? b = some o -> ∃ o', h'.get? b = some o')
    (tups : ∀ b xs, H b = some (.tup xs) -> H' b = some (.tup xs)) (frzs : ∀ b o u, H b = some (.frz o u) -> H' b = some (.frz o u)) (tbls : ∀ b ps, H b = some (.tbl ps) -> ∃ more, H' b = some (.tbl (ps ++ more)))
    (ns : ∀ m, s.heap.Ns X.env.locals m -> h'.Ns X.env.locals m) (hok : HOk X.prog X.w H' h') (hg : AllBare g') :
    Inv X pins σ H' { s with heap := h', gens := g', drawn := d', toks := t' } := by
  have neL : ∀ b o, X.s₀.heap.get? b = some o -> b ≠ X.env.locals := fun b o e => Nat.ne_of_lt (Nat.lt_of_lt_of_le (Heap.lt_size e) I.ok.above)
  have neC : ∀ b o, X.s₀.heap.get? b = some o -> b ∉ X.ex -> b ∉ ch := fun b o e hx hb => by
    rcases (hch b hb).1 with z | z
    · exact hx z
    · exact absurd (Nat.lt_of_lt_of_le (Heap.lt_size e) z) (Nat.lt_irrefl _)
  have cellK : ∀ x c, X.env.cells.lookup x = some c -> ∀ v, s.heap.IsCell c v -> h'.IsCell c v := fun x c e v ⟨o, ho, hd⟩ => by
    have nch : c ∉ ch := fun z => (hch c z).2.2.1 x c e rfl
    by_cases hc : c ∈ X.fs
    · obtain ⟨sl, q⟩ := slot c o (I.cne x c e) hc nch ho (I.freeC x c e)
      exact ⟨_, q, hd⟩
    · exact ⟨o, keep c o (I.cne x c e) hc nch ho (I.freeC x c e), hd⟩
  refine ⟨I.ok, I.os, hg, ⟨fun b o e n hb hx => ?_, fun b o e n hb hx => ?_, fun b o e n hx => ?_, fun b o e hx => ?_, fun b xs e => tups b xs (I.base.tups b xs e), fun b o xs e => frzs b o xs (I.base.frzs b o xs e), fun b ps e => ?_⟩, ?_, fun x c e => ?_, ?_, fun x c e => ?_, fun p hp => ?_, hok, I.len⟩
  · exact keep b o (neL b o e) hb (neC b o e hx) (I.base.keep b o e n hb hx) (I.base.free b o e n hx)
  · obtain ⟨sl, e1⟩ := I.base.slot b o e n hb hx
    obtain ⟨sl', e2⟩ := slot b _ (neL b o e) hb (neC b o e hx) e1 (I.base.free b o e n hx)
    exact ⟨sl', e2⟩
  · obtain ⟨o', e1⟩ := I.base.there b o e hx
    exact free b o' (neC b o e hx) e1 (I.base.free b o e n hx)
  · obtain ⟨o', e1⟩ := I.base.there b o e hx
    exact there b o' (neC b o e hx) e1
  · obtain ⟨m1, e1⟩ := I.base.tbls b ps e
    obtain ⟨m2, e2⟩ := tbls b _ e1
    exact ⟨m1 ++ m2, by rw [e2, Array.append_assoc]⟩
  · obtain ⟨m, hn, hl⟩ := I.loc
    refine ⟨m, ns m hn, fun i x v e1 e2 e3 => ?_⟩
    obtain ⟨u, r, l⟩ := hl i x v e1 e2 e3
    refine ⟨u, r, ?_⟩
    rcases l with l | ⟨k, c, e, z⟩
    · exact .inl l
    · exact .inr ⟨k, c, e, cellK x c e _ z⟩
  · obtain ⟨v, z⟩ := I.cell x c e
    exact ⟨v, cellK x c e v z⟩
  · obtain ⟨m, ⟨o, _, _, ho, _⟩, _⟩ := I.loc
    exact free _ o (fun z => (hch _ z).2.1 rfl) ho I.free
  · obtain ⟨v, o, ho, hd⟩ := I.cell x c e
    exact free c o (fun z => (hch c z).2.2.1 x c e rfl) ho (I.freeC x c e)
  · obtain ⟨e, n, ne, nf, d⟩ := I.pin p hp
    have nch : p.1 ∉ ch := fun z => (hch p.1 z).2.2.2 p hp rfl
    exact ⟨keep p.1 p.2 ne nf nch e n, free p.1 p.2 nch e n, ne, nf, d⟩
theorem Inv.un {t' : Nat} (I : Inv X pins σ H s) (u : Un X.fs [] H H' s.heap h') (hok : HOk X.prog X.w H' h') : Inv X pins σ H' { s with heap := h', toks := t' } := by
  obtain ⟨m, ⟨o, es, ep, ho, r⟩, _⟩ := id I.loc
  obtain ⟨sl, hL⟩ := u.any ho I.free (by simp)
  exact I.step (g' := s.gens) (d' := s.drawn) (ch := []) (fun _ z => nomatch z) (fun b o _ hb _ e n => u.keep b o e n hb (by simp)) (fun b o _ hb _ e n => u.slot b o e n hb (by simp)) (fun b o _ e n => u.free b o e n (by simp)) (fun b o _ e => u.there b o e (by simp)) u.tups u.frzs u.tbls (fun m' hm => by
    obtain ⟨o', es', ep', ho', r'⟩ := hm
    rw [ho] at ho'; cases ho'
    exact ⟨_, es', ep', hL, r'⟩) hok I.bare
theorem Inv.call {g' : Array GenState} {t' : Nat} {d' : Drawn} {ch : List Addr} (I : Inv X pins σ H s) (u : Un (frs X.stack) ch H H' s.heap h') (hok : HOk X.prog X.w H' h') (hg : AllBare g')
    (hch : ∀ b ∈ ch, (b ∈ X.ex ∨ X.s₀.heap.objs.size <= b) /\ b ≠ X.env.locals /\ (∀ x c, X.env.cells.lookup x = some c -> c ≠ b) /\ ∀ p ∈ X.pn ++ pins, p.1 ≠ b) :
    Inv X pins σ H' { s with heap := h', gens := g', drawn := d', toks := t' } := by
  obtain ⟨m, ⟨o, es, ep, ho, r⟩, _⟩ := id I.loc
  obtain ⟨sl, hL⟩ := u.any ho I.free fun z => (hch _ z).2.1 rfl
  exact I.step (ch := ch) hch (fun b o hL hb hc e n => u.keep b o e n (fun z => (List.mem_cons.mp (I.stkSub b z)).elim hL hb) hc) (fun b o _ _ hc e n => u.any e n hc) (fun b o hc e n => u.free b o e n hc) (fun b o hc e => u.there b o e hc) u.tups u.frzs u.tbls (fun m' hm => by
    obtain ⟨o', es', ep', ho', r'⟩ := hm
    rw [ho] at ho'; cases ho'
    exact ⟨_, es', ep', hL, r'⟩) hok hg
theorem Inv.turned {t' : Nat} {it : Addr} (I : Inv X pins σ H s) (k : ∀ b o, b ≠ it -> s.heap.get? b = some o -> h'.get? b = some o) (hn : H it = none) (hL : it ≠ X.env.locals)
    (h1 : it ∈ X.ex ∨ X.s₀.heap.objs.size <= it) (h2 : ∀ x c, X.env.cells.lookup x = some c -> c ≠ it) (h3 : ∀ p ∈ X.pn ++ pins, p.1 ≠ it) : Inv X pins σ H { s with heap := h', toks := t' } := by
  have nit : ∀ b u, H b = some u -> b ≠ it := fun b u e z => by rw [z, hn] at e; cases e
  refine I.step (g' := s.gens) (d' := s.drawn) (ch := [it]) (fun b hb => ?_) (fun b o _ _ hc e _ => k b o (fun z => hc (by simp [z])) e) (fun b o _ _ hc e _ => ⟨o.slots, k b o (fun z => hc (by simp [z])) e⟩) (fun _ _ _ _ n => n)
    (fun b o hc e => ⟨o, k b o (fun z => hc (by simp [z])) e⟩) (fun _ _ e => e) (fun _ _ _ e => e) (fun b ps e => ⟨#[], by rw [e]; simp⟩) (fun m hm => ?_) (fun b u e => ?_) I.bare
  · have e : b = it := by simpa using hb
    subst e
    exact ⟨h1, hL, h2, h3⟩
  · obtain ⟨o, es, ep, ho, r⟩ := hm
    exact ⟨o, es, ep, k _ o (Ne.symm hL) ho, r⟩
  · refine (I.hok b u e).stay (fun c v hc q => k c v ?_ q) (fun _ q => q) fun _ _ q => q
    rcases hc with z | z
    · rw [z]; exact nit b u e
    · exact nit c _ z
theorem Inv.tok (I : Inv X pins σ H s) (t : Nat) : Inv X pins σ H { s with toks := t } := I.un (h' := s.heap) (t' := t) Un.refl I.hok
theorem Inv.kept {t' : Nat} (I : Inv X pins σ H s) (k : ∀ b u, s.heap.get? b = some u -> h'.get? b = some u) : Inv X pins σ H { s with heap := h', toks := t' } := I.un (Un.kept k) (I.hok.kept k)
theorem Inv.laid {a : Addr} {o : HO} {t' : Nat} (I : Inv X pins σ H s) (k : ∀ b u, s.heap.get? b = some u -> h'.get? b = some u) (hp : s.heap.objs.size <= a) (new : ObjOk X.prog X.w (upd H a o) h' a o) :
    Inv X pins σ (upd H a o) { s with heap := h', toks := t' } := I.un (Un.laid k hp (I.hok.fresh hp)) (I.hok.laid k hp new)
theorem Inv.write {x e : Addr} {o : HO} {t' : Nat} (I : Inv X pins σ H s) (mu : Mut (H x)) (he : e = x ∨ H e = some (.own x)) (k : ∀ b u, b ≠ e -> s.heap.get? b = some u -> h'.get? b = some u) (heo : ∃ u, h'.get? e = some u)
    (new : ObjOk X.prog X.w (upd H x o) h' x o) : Inv X pins σ (upd H x o) { s with heap := h', toks := t' } := I.un (Un.write mu he k heo) (I.hok.write mu he k heo new)
theorem Inv.pins_of {pins' : List (Addr × Obj)} (I : Inv X pins σ H s) (h : ∀ p ∈ pins', s.heap.get? p.1 = some p.2 /\ H p.1 = none /\ p.1 ≠ X.env.locals /\ p.1 ∉ X.fs /\ ∀ v, p.2.data ≠ .cell v) : Inv X pins' σ H s :=
  ⟨I.ok, I.os, I.bare, I.base, I.loc, I.cell, I.free, I.freeC, fun p hp => (List.mem_append.mp hp).elim (fun z => I.pin p (List.mem_append_left _ z)) (h p), I.hok, I.len⟩
theorem nodup_ix {N : List Str} (hN : N.Nodup) {i j : Nat} {x : Str} (a : N[i]? = some x) (b : N[j]? = some x) : i = j := by
  obtain ⟨h1, e1⟩ := List.getElem?_eq_some_iff.mp a
  obtain ⟨h2, e2⟩ := List.getElem?_eq_some_iff.mp b
  exact (List.getElem_inj hN).mp (e1.trans e2.symm)
theorem store_ok2 {M : Model} {A : Around} {E : Value -> Shared -> Prop} {i : Nat} {x : Str} {v : V} {u : Value} {Q : Unit -> Shared -> Prop} (I : Inv X pins σ H s) (hN : X.N.Nodup) (hi : X.N[i]? = some x) (hx : Loc X.env.scope x) (r : RelV v u)
    (h : ∀ s', Inv X pins (σ.set i (some v)) H s' -> (∃ a, Heap.SameBut a s.heap s'.heap /\ (a = X.env.locals ∨ X.env.cells.lookup x = some a)) -> Q () s') (hf : X.fn x = true ∨ X.env.scope.names.lookup x = some .local := by first | exact .inl rfl | exact .inr rfl | assumption) : wpAny M A (storeName X.env x u) Q E s := by
  obtain ⟨m, hn, hl⟩ := id I.loc
  have hcls : (X.env.scope.kind == .class || (X.env.scope.kind == .module && X.env.locals != X.env.globals)) = false := by rw [I.ok.kind]; rfl
  have hiσ : i < σ.length := by rw [I.len]; exact (List.getElem?_eq_some_iff.mp hi).1
  have cne := I.cne
  have tracked : ∀ {a : Addr} {h' : Heap}, (∃ o, s.heap.get? a = some o /\ H a = none) -> Heap.SameBut a s.heap h' -> HOk X.prog X.w H h' := fun {a h'} ha hs b ob e => by
    obtain ⟨_, _, hfree⟩ := ha
    refine (I.hok b ob e).stay (fun c w' hc q => (hs.2 c ?_).trans q) (fun _ q => q) fun _ _ q => q
    rintro rfl
    rcases hc with rfl | hc
    · rw [hfree] at e; cases e
    · rw [hfree] at hc; cases hc
  rcases hx with hk | hk
  · refine wpAny_storeName_local hk hn (fun h' hn' hs => ?_) hcls
    obtain ⟨oL, _, _, hoL, _⟩ := id hn
    refine h _ ⟨I.ok, I.os, I.bare, ⟨fun b o e n hb hx => ?_, fun b o e n hb hx => ?_, I.base.free, fun b o e hx => ?_, I.base.tups, I.base.frzs, I.base.tbls⟩, ⟨_, hn', fun j y v' e1 e2 e3 => ?_⟩, fun y c e => ?_, I.free, I.freeC, fun p hp => ?_, tracked ⟨oL, hoL, I.free⟩ hs, by simpa using I.len⟩ ⟨_, hs, .inl rfl⟩
    · exact (hs.2 b (Nat.ne_of_lt (Nat.lt_of_lt_of_le (Heap.lt_size e) I.ok.above))).trans (I.base.keep b o e n hb hx)
    · obtain ⟨sl, e1⟩ := I.base.slot b o e n hb hx
      exact ⟨sl, (hs.2 b (Nat.ne_of_lt (Nat.lt_of_lt_of_le (Heap.lt_size e) I.ok.above))).trans e1⟩
    · obtain ⟨o', e1⟩ := I.base.there b o e hx
      exact ⟨o', (hs.2 b (Nat.ne_of_lt (Nat.lt_of_lt_of_le (Heap.lt_size e) I.ok.above))).trans e1⟩
    · by_cases hj : j = i
      · subst hj
        rw [hi] at e1; cases e1
        rw [List.getElem?_set_self hiσ] at e2
        cases e2
        exact ⟨u, r, .inl ⟨hk, by simp⟩⟩
      · rw [List.getElem?_set_ne (Ne.symm hj)] at e2
        obtain ⟨u', r', q⟩ := hl j y v' e1 e2 e3
        refine ⟨u', r', ?_⟩
        rcases q with ⟨k, e⟩ | ⟨k, c, e, z⟩
        · refine .inl ⟨k, ?_⟩
          have : y ≠ x := fun e => hj (nodup_ix hN e1 (e ▸ hi))
          simp [this, e]
        · exact .inr ⟨k, c, e, z.sameBut hs (cne y c e)⟩
    · obtain ⟨w', z⟩ := I.cell y c e
      exact ⟨w', z.sameBut hs (cne y c e)⟩
    · obtain ⟨e, n, ne, nf, d⟩ := I.pin p hp
      exact ⟨(hs.2 p.1 ne).trans e, n, ne, nf, d⟩
  · have hfn : X.fn x = true := by
      rcases hf with z | z
      · exact z
      · rw [z] at hk; cases hk
    obtain ⟨c, hc⟩ := I.ok.has x (.inl hk)
    obtain ⟨w', z⟩ := I.cell x c hc
    refine wpAny_storeName_cell I.ok.kind hk hc z (fun h' hc' hs => ?_)
    obtain ⟨oc, hoc, hocd⟩ := id z
    refine h { s with heap := h' } ⟨I.ok, I.os, I.bare, ⟨fun b o e n hb hx => ?_, fun b o e n hb hx => ?_, I.base.free, fun b o e hx => ?_, I.base.tups, I.base.frzs, I.base.tbls⟩, ⟨m, hn.sameBut hs (Ne.symm (cne x c hc)), fun j y v' e1 e2 e3 => ?_⟩, fun y c' e => ?_, I.free, I.freeC, fun p hp => ?_, tracked ⟨oc, hoc, I.freeC x c hc⟩ hs, by simpa using I.len⟩ ⟨c, hs, .inr hc⟩
    · exact (hs.2 b (Nat.ne_of_lt (Nat.lt_of_lt_of_le (Heap.lt_size e) (I.ok.cab x c hfn hc)))).trans (I.base.keep b o e n hb hx)
    · obtain ⟨sl, e1⟩ := I.base.slot b o e n hb hx
      exact ⟨sl, (hs.2 b (Nat.ne_of_lt (Nat.lt_of_lt_of_le (Heap.lt_size e) (I.ok.cab x c hfn hc)))).trans e1⟩
    · obtain ⟨o', e1⟩ := I.base.there b o e hx
      exact ⟨o', (hs.2 b (Nat.ne_of_lt (Nat.lt_of_lt_of_le (Heap.lt_size e) (I.ok.cab x c hfn hc)))).trans e1⟩
    · by_cases hj : j = i
      · subst hj
        rw [hi] at e1; cases e1
        rw [List.getElem?_set_self hiσ] at e2
        cases e2
        exact ⟨u, r, .inr ⟨.inl hk, c, hc, hc'⟩⟩
      · rw [List.getElem?_set_ne (Ne.symm hj)] at e2
        obtain ⟨u', r', q⟩ := hl j y v' e1 e2 e3
        refine ⟨u', r', ?_⟩
        rcases q with q | ⟨k, c', e, z'⟩
        · exact .inl q
        · refine .inr ⟨k, c', e, z'.sameBut hs ?_⟩
          rintro rfl
          exact hj (nodup_ix hN e1 (I.ok.inj _ _ _ e hc ▸ hi))
    · by_cases hcc : c' = c
      · subst hcc; exact ⟨_, hc'⟩
      · obtain ⟨w2, z2⟩ := I.cell y c' e
        exact ⟨w2, z2.sameBut hs hcc⟩
    · obtain ⟨e, n, ne, nf, d⟩ := I.pin p hp
      refine ⟨(hs.2 p.1 ?_).trans e, n, ne, nf, d⟩
      intro q
      rw [q, hoc] at e
      have q' : oc = p.2 := Option.some.inj e
      exact d w' (by rw [← q']; exact hocd)
theorem store_ok {M : Model} {A : Around} {E : Value -> Shared -> Prop} {i : Nat} {x : Str} {v : V} {u : Value} {Q : Unit -> Shared -> Prop} (I : Inv X pins σ H s) (hN : X.N.Nodup) (hi : X.N[i]? = some x) (hx : Loc X.env.scope x) (r : RelV v u)
    (h : ∀ s', Inv X pins (σ.set i (some v)) H s' -> Q () s') (hf : X.fn x = true ∨ X.env.scope.names.lookup x = some .local := by first | exact .inl rfl | exact .inr rfl | assumption) : wpAny M A (storeName X.env x u) Q E s :=
  store_ok2 I hN hi hx r (fun s' I' _ => h s' I') hf
theorem Inv.call' {s' : Shared} {ch : List Addr} (I : Inv X pins σ H s) (ho : s'.os = s.os) (u : Un (frs X.stack) ch H H' s.heap s'.heap) (hok : HOk X.prog X.w H' s'.heap) (hg : AllBare s'.gens)
    (hch : ∀ b ∈ ch, (b ∈ X.ex ∨ X.s₀.heap.objs.size <= b) /\ b ≠ X.env.locals /\ (∀ x c, X.env.cells.lookup x = some c -> c ≠ b) /\ ∀ p ∈ X.pn ++ pins, p.1 ≠ b) : Inv X pins σ H' s' := by
  obtain ⟨h', g', d', t', o'⟩ := s'
  have e : o' = s.os := ho
  subst e
  exact I.call (g' := g') (t' := t') (d' := d') u hok hg hch
end
abbrev XK := Value -> Option Addr -> Hp -> Prop
abbrev St := List (Option V)
abbrev VK := V -> Hp -> Prop
abbrev TE := St -> Hp -> VK -> Prop
abbrev TT := St -> Hp -> (Bool -> Hp -> Prop) -> Prop
abbrev TA := St -> Hp -> (List V -> Hp -> Prop) -> Prop
structure Ends where
  nx : St -> Hp -> Prop
  rt : VK
  bk : St -> Hp -> Prop := fun _ _ => False
  ct : St -> Hp -> Prop := fun _ _ => False
abbrev TS := Ends -> St -> Hp -> Prop
def EP (X : Cx) (pins : List (Addr × Obj)) (σ : St) (Q : VK) (u : Value) (s' : Shared) : Prop := ∃ v H', Inv X pins σ H' s' /\ RelV v u /\ Q v H'
def TP (X : Cx) (pins : List (Addr × Obj)) (σ : St) (Q : Bool -> Hp -> Prop) (b : Bool) (s' : Shared) : Prop := ∃ H', Inv X pins σ H' s' /\ Q b H'
def AP (X : Cx) (pins : List (Addr × Obj)) (σ : St) (Q : List V -> Hp -> Prop) (us : List Value) (s' : Shared) : Prop := ∃ vs H', Inv X pins σ H' s' /\ Vals vs us /\ Q vs H'
def SP (X : Cx) (pins : List (Addr × Obj)) (D : Ends) (f : Flow) (s' : Shared) : Prop :=
  match f with
  | .next => ∃ σ' H', Inv X pins σ' H' s' /\ D.nx σ' H'
  | .brk => ∃ σ' H', Inv X pins σ' H' s' /\ D.bk σ' H'
  | .cont => ∃ σ' H', Inv X pins σ' H' s' /\ D.ct σ' H'
  | .ret u => ∃ v σ' H', Inv X pins σ' H' s' /\ RelV v u /\ D.rt v H'
def PE (X : Cx) (e : Expr) (t : TE) : Prop :=
  ∀ (pins : List (Addr × Obj)) (s : Shared) (σ : St) (H : Hp) (Q : VK), Inv X pins σ H s -> t σ H Q -> wpAny (model X.prog X.w) X.A (eval e X.env) (EP X pins σ Q) X.xe s
def PT (X : Cx) (e : Expr) (t : TT) : Prop :=
  ∀ (pins : List (Addr × Obj)) (s : Shared) (σ : St) (H : Hp) (Q : Bool -> Hp -> Prop), Inv X pins σ H s -> t σ H Q -> wpAny (model X.prog X.w) X.A (isTrue e X.env (eval e X.env)) (TP X pins σ Q) X.xe s
def PW (X : Cx) (e : Expr) (t : TT) : Prop :=
  ∀ (whole : Sem Value) (pins : List (Addr × Obj)) (s : Shared) (σ : St) (H : Hp) (Q : Bool -> Hp -> Prop), Inv X pins σ H s -> t σ H Q -> wpAny (model X.prog X.w) X.A (isTrue e X.env whole) (TP X pins σ Q) X.xe s
theorem PW.pt {X : Cx} {e : Expr} {t : TT} (h : PW X e t) : PT X e t := h _
def PA (X : Cx) (es : List Expr) (t : TA) : Prop :=
  ∀ (pos : Pos) (pins : List (Addr × Obj)) (s : Shared) (σ : St) (H : Hp) (Q : List V -> Hp -> Prop), Inv X pins σ H s -> t σ H Q -> wpAny (model X.prog X.w) X.A (spliced (backTo pos (starEach es X.env))) (AP X pins σ Q) X.xe s
def PS (X : Cx) (st : Stmt) (t : TS) : Prop :=
  ∀ (pins : List (Addr × Obj)) (s : Shared) (σ : St) (H : Hp) (D : Ends), Inv X pins σ H s -> t D σ H -> wpAny (model X.prog X.w) X.A (exec st X.env) (SP X pins D) X.xe s
def PSs (X : Cx) (st : List Stmt) (t : TS) : Prop :=
  ∀ (pins : List (Addr × Obj)) (s : Shared) (σ : St) (H : Hp) (D : Ends), Inv X pins σ H s -> t D σ H -> wpAny (model X.prog X.w) X.A (execs st X.env) (SP X pins D) X.xe s
theorem thn {α : Type} {t : Sem α} {Q Q' : α -> Shared -> Prop} {M : Model} {A : Around} {E : Value -> Shared -> Prop} {s : Shared} (h : wpAny M A t Q E s) (hQ : ∀ a s, Q a s -> Q' a s) : wpAny M A t Q' E s := wpAny_mono h hQ fun _ _ x => x
end L2
namespace L2
open PySem PySem.Spec PyProof.Rows
section
variable {X : Cx}
def tVar (i : Nat) : TE := fun σ H Q => ∃ v, σ[i]? = some (some v) /\ Q v H
def tC (v : V) : TE := fun _ H Q => Q v H
theorem pe_var {i : Nat} {x : Str} {pos : Pos} (hN : X.N[i]? = some x) (hv : Vis X.env.scope x) (hd : (x == ("__debug__" : Str)) = false := by decide) (hcd : (x == ("__classdict__" : Str)) = false := by decide) : PE X (.Name x pos) (tVar i) := by
  intro pins s σ H Q I h
  obtain ⟨v, e, h⟩ := h
  obtain ⟨m, hn, hl⟩ := I.loc
  obtain ⟨u, r, l⟩ := hl i x v hN e hv
  have fin : EP X pins σ Q u s := ⟨v, H, I, r, h⟩
  rcases l with ⟨hk, hm⟩ | ⟨hk, c, hc, hcell⟩
  · exact wpAny_Name (wpAny_loadName_local I.ok.kind hk hn hm fin) hd
  · rcases hk with hk | hk
    · exact wpAny_Name (wpAny_loadName_cell I.ok.kind hk hc hcell fin) hd
    · exact wpAny_Name (wpAny_loadName_free I.ok.kind hk hc hcell fin hcd) hd
theorem pe_int {i j pos} : PE X (.Constant (.int i) j pos) (tC (.int i)) := fun _ _ _ H _ I h => wpAny_Constant_int ⟨.int i, H, I.tok _, ⟨_, rfl⟩, h⟩
theorem pe_bl {b j pos} : PE X (.Constant (.bool b) j pos) (tC (.bl b)) := fun _ _ _ H _ I h => Constant_bool ⟨.bl b, H, I, rfl, h⟩
def Gl (X : Cx) (x : Str) : Prop := X.env.kindOf x = some .globalImplicit
theorem ld_glob {E : Value -> Shared -> Prop} {pins : List (Addr × Obj)} {s : Shared} {σ : St} {H : Hp} {x : Str} {u : Value} {pos : Pos} {Q : Value -> Shared -> Prop} (I : Inv X pins σ H s) (hg : Gl X x) (hm : X.mg x = some u) (h : Q u s)
    (hd : (x == ("__debug__" : Str)) = false := by decide) : wpAny (model X.prog X.w) X.A (eval (.Name x pos) X.env) Q E s :=
  Calls.Name_function_global I.ok.kind hg (Calls.loadGlobal_global (by rw [I.ok.glob]; exact I.mod.glob.keeps I.bk) hm h) hd
theorem ld_blt {E : Value -> Shared -> Prop} {pins : List (Addr × Obj)} {s : Shared} {σ : St} {H : Hp} {x : Str} {u : Value} {pos : Pos} {Q : Value -> Shared -> Prop} (I : Inv X pins σ H s) (hg : Gl X x) (hm : X.mg x = none) (hv : bootBuiltins x = some u) (h : Q u s)
    (hn : x ≠ "__name__" := by decide) (hd : (x == ("__debug__" : Str)) = false := by decide) : wpAny (model X.prog X.w) X.A (eval (.Name x pos) X.env) Q E s := by
  obtain ⟨mb, h1, h2⟩ := I.mod.blt
  exact Calls.Name_function_global I.ok.kind hg (Calls.loadGlobal_builtin (by rw [I.ok.glob]; exact I.mod.glob.keeps I.bk) hm (by rw [I.ok.blt]; exact h1.keeps I.bk) ((h2 x hn).trans hv) h) hd
theorem pe_glob {x : Str} {v : V} {u : Value} {pos : Pos} (hg : Gl X x) (hm : X.mg x = some u) (r : RelV v u) (hd : (x == ("__debug__" : Str)) = false := by decide) : PE X (.Name x pos) (tC v) :=
  fun _ _ _ H _ I h => ld_glob I hg hm ⟨v, H, I, r, h⟩ hd
theorem pe_bltn {x : Str} {v : V} {u : Value} {pos : Pos} (hg : Gl X x) (hm : X.mg x = none) (hv : bootBuiltins x = some u) (r : RelV v u) (hn : x ≠ "__name__" := by decide) (hd : (x == ("__debug__" : Str)) = false := by decide) : PE X (.Name x pos) (tC v) :=
  fun _ _ _ H _ I h => ld_blt I hg hm hv ⟨v, H, I, r, h⟩ hn hd
variable {a b : Expr} {ta tb : TE} {pos : Pos}
def tB (t : TE) : TT := fun σ H Q => t σ H fun x H1 => ∃ c, x = .bl c /\ Q c H1
theorem pt_val {e : Expr} {t : TE} (h : PE X e t) (he : ∀ whole, isTrue e X.env whole = (do let v ← whole; standAt e.pos; holding [v] (truthy v)) := by intro _; rfl) : PT X e (tB t) := by
  intro pins s σ H Q I hw
  refine isTrue_plain (thn (h pins s σ H _ I hw) fun v s1 ⟨x, H1, I1, r1, q1⟩ => ?_) (he _)
  obtain ⟨d, rfl, q⟩ := q1
  cases r1
  exact wpAny_truthy_bool ⟨H1, I1, q⟩
variable {tA tB' : TT} {rest : List Expr}
def tOr (t u : TT) : TT := fun σ H Q => t σ H fun c H1 => if c = true then Q true H1 else u σ H1 Q
def tNot (t : TT) : TT := fun σ H Q => t σ H fun c H1 => Q (!c) H1
theorem pw_or1 (ha : PT X a tA) : PW X (.BoolOp .Or [a] pos) tA := by
  intro wh pins s σ H Q I h
  refine isTrue_or (thn (ha pins s σ H Q I h) fun c s1 e => ?_)
  cases c with
  | false => exact isTrue_or_nil e
  | true => exact e
theorem pw_or (ha : PT X a tA) (hb : PW X (.BoolOp .Or (b :: rest) pos) tB') : PW X (.BoolOp .Or (a :: b :: rest) pos) (tOr tA tB') := by
  intro wh pins s σ H Q I h
  refine isTrue_or (thn (ha pins s σ H _ I h) fun c s1 ⟨H1, I1, q1⟩ => ?_)
  cases c with
  | true => exact ⟨H1, I1, q1⟩
  | false => exact hb wh pins s1 σ H1 Q I1 q1
theorem pt_not (ha : PT X a tA) : PT X (.UnaryOp .Not a pos) (tNot tA) := by
  intro pins s σ H Q I h
  exact isTrue_not (ha pins s σ H (fun c H1 => Q (!c) H1) I h)
def tAndV (ta tb : TE) : TE := fun σ H Q => ta σ H fun x H1 => ∃ c, x = .bl c /\ if c = true then tb σ H1 Q else Q (.bl false) H1
def tNotV (ta : TE) : TE := fun σ H Q => ta σ H fun x H1 => ∃ c, x = .bl c /\ Q (.bl (!c)) H1
theorem pe_one {op} {t : TE} (h : PE X a t) : PE X (.BoolOp op [a] pos) t := fun pins s σ H Q I hw => BoolOp_one (h pins s σ H Q I hw)
theorem pe_and (ha : PE X a ta) (hb : PE X (.BoolOp .And (b :: rest) pos) tb) : PE X (.BoolOp .And (a :: b :: rest) pos) (tAndV ta tb) := by
  intro pins s σ H Q I h
  refine BoolOp_and (thn (ha pins s σ H _ I h) fun v s1 ⟨x, H1, I1, r1, q1⟩ => ?_)
  obtain ⟨c, rfl, q1⟩ := q1
  cases r1
  refine wpAny_truthy_bool ?_
  cases c with
  | true => exact hb pins s1 σ H1 Q I1 q1
  | false => exact ⟨.bl false, H1, I1, rfl, q1⟩
theorem pe_not (ha : PE X a ta) : PE X (.UnaryOp .Not a pos) (tNotV ta) := by
  intro pins s σ H Q I h
  refine UnaryOp_ (thn (ha pins s σ H _ I h) fun v s1 ⟨x, H1, I1, r1, q1⟩ => ?_)
  obtain ⟨c, rfl, q1⟩ := q1
  cases r1
  exact not_of (wpAny_truthy_bool ⟨.bl (!c), H1, I1, rfl, q1⟩)
def tIf (t : TT) (ta tb : TE) : TE := fun σ H Q => t σ H fun c H1 => if c = true then ta σ H1 Q else tb σ H1 Q
theorem pe_ifExp {c : Expr} (hc : PT X c tA) (ha : PE X a ta) (hb : PE X b tb) : PE X (.IfExp c a b pos) (tIf tA ta tb) := by
  intro pins s σ H Q I h
  refine wpAny_IfExp (thn (hc pins s σ H _ I h) fun d s1 ⟨H1, I1, q1⟩ => ?_)
  cases d with
  | true => exact ha pins s1 σ H1 Q I1 q1
  | false => exact hb pins s1 σ H1 Q I1 q1
end
end L2
namespace L2
open PySem PySem.Spec PyProof.Rows
def SqL (K : PySem.W.Frag) (H : Hp) (a : Addr) (xs : List V) : Prop :=
  Rd H a (.lst xs) ∨
    ∃ (o : Obj) (its : Array Value) (n : Nat), K.lookup a = some o /\ o.cls = .type "list" /\ o.dict = none /\ o.data = .seq its n /\ its.size <= sizeLine /\ Vals xs its.toList
def SqT (K : PySem.W.Frag) (H : Hp) (a : Addr) (xs : List V) : Prop :=
  Rd H a (.tup xs) ∨
    ∃ (o : Obj) (its : Array Value) (n : Nat), K.lookup a = some o /\ o.cls = .type "tuple" /\ o.data = .seq its n /\ its.size <= sizeLine /\ Vals xs its.toList
def absV : Value -> Option V
  | .none => some .non
  | .bool b => some (.bl b)
  | .int i _ => some (.int i)
  | .str x _ => some (.str x)
  | .bytes b _ => some (.byt b)
  | .float b _ => some (.flt b)
  | .ref a => some (.ref a)
  | .type n => some (.ty n)
  | _ => none
theorem RelV.abs {x : V} {u : Value} (r : RelV x u) : absV u = some x := by
  cases x with
  | non => cases r; rfl
  | bl _ => cases r; rfl
  | int _ => obtain ⟨t, rfl⟩ := r; rfl
  | str _ => obtain ⟨t, rfl⟩ := r; rfl
  | byt _ => obtain ⟨t, rfl⟩ := r; rfl
  | flt _ => obtain ⟨t, rfl⟩ := r; rfl
  | ref _ => cases r; rfl
  | ty _ => cases r; rfl
theorem RelV.inj {x y : V} {u : Value} (r : RelV x u) (q : RelV y u) : x = y := Option.some.inj (r.abs.symm.trans q.abs)
theorem Vals.inj : ∀ {xs ys : List V} {us : List Value}, Vals xs us -> Vals ys us -> xs = ys
  | _, _, _, .nil, .nil => rfl
  | _, _, _, .cons r t, .cons r' t' => by rw [r.inj r', Vals.inj t t']
section
variable {X : Cx} {pins : List (Addr × Obj)} {σ : St} {H : Hp} {s : Shared} {a : Addr} {xs ys : List V}
theorem SqL.of {K : PySem.W.Frag} (h : H a = some (.lst xs)) : SqL K H a xs := .inl (.inl h)
theorem SqT.of {K : PySem.W.Frag} (h : H a = some (.tup xs)) : SqT K H a xs := .inl (.inl h)
theorem Inv.list (I : Inv X pins σ H s) (h : SqL X.K H a xs) : ∃ its : List Value, Vals xs its /\ PlainL s.heap a its.toArray /\ xs.length <= sizeLine := by
  rcases h with h | ⟨o, its, n, hk, hc, hd, hs, hz, r⟩
  · obtain ⟨z, its, n, r, e⟩ := h.ok I.hok
    exact ⟨its, r, ⟨_, n, e, rfl, rfl, rfl⟩, z⟩
  · refine ⟨its.toList, r, ⟨o, n, I.kIn a o hk, hc, hd, by simpa using hs⟩, ?_⟩
    have e := r.length
    simp only [Array.length_toList] at e
    omega
theorem Inv.tuple (I : Inv X pins σ H s) (h : SqT X.K H a xs) : ∃ its : List Value, Vals xs its /\ IsTup s.heap a its.toArray /\ xs.length <= sizeLine := by
  rcases h with h | ⟨o, its, n, hk, hc, hs, hz, r⟩
  · obtain ⟨z, its, r, p⟩ := h.ok I.hok
    exact ⟨its, r, p.up, z⟩
  · refine ⟨its.toList, r, ⟨o, I.kIn a o hk, hc, n, by simpa using hs⟩, ?_⟩
    have e := r.length
    simp only [Array.length_toList] at e
    omega
theorem Inv.list_inj (I : Inv X pins σ H s) (h : SqL X.K H a xs) (h' : SqL X.K H a ys) : xs = ys := by
  obtain ⟨its, r, ⟨o, n, e, _, _, d⟩, _⟩ := I.list h
  obtain ⟨its', r', ⟨o', n', e', _, _, d'⟩, _⟩ := I.list h'
  rw [e] at e'; cases e'
  rw [d] at d'
  injection d' with d1 _
  have : its = its' := by simpa using congrArg Array.toList d1
  subst this
  exact r.inj r'
theorem Inv.tuple_inj (I : Inv X pins σ H s) (h : SqT X.K H a xs) (h' : SqT X.K H a ys) : xs = ys := by
  obtain ⟨its, r, ⟨o, e, _, n, d⟩, _⟩ := I.tuple h
  obtain ⟨its', r', ⟨o', e', _, n', d'⟩, _⟩ := I.tuple h'
  rw [e] at e'; cases e'
  rw [d] at d'
  injection d' with d1 _
  have : its = its' := by simpa using congrArg Array.toList d1
  subst this
  exact r.inj r'
end
abbrev Cx.wish (X : Cx) (E : Value -> Shared -> Prop) : Cx := { X with xe := E }
abbrev Cx.nox (X : Cx) : Cx := X.wish fun _ _ => False
theorem Cx.Ok.wish {X : Cx} (ok : X.Ok) (E : Value -> Shared -> Prop) : (X.wish E).Ok :=
  ⟨ok.mod, ok.kind, ok.glob, ok.blt, ok.above, ok.inj, ok.has, ok.cab, ok.hd, ok.frames, ok.stk, ok.exf, ok.bs, ok.bsz, ok.noex, ok.exfs, ok.funs, ok.frf⟩
theorem Cx.Ok.unwish {X : Cx} {E : Value -> Shared -> Prop} (ok : (X.wish E).Ok) : X.Ok :=
  ⟨ok.mod, ok.kind, ok.glob, ok.blt, ok.above, ok.inj, ok.has, ok.cab, ok.hd, ok.frames, ok.stk, ok.exf, ok.bs, ok.bsz, ok.noex, ok.exfs, ok.funs, ok.frf⟩
section
variable {X : Cx} {pins : List (Addr × Obj)} {σ : St} {H : Hp} {s : Shared} {E : Value -> Shared -> Prop}
theorem Inv.wish (I : Inv X pins σ H s) (E : Value -> Shared -> Prop) : Inv (X.wish E) pins σ H s := ⟨I.ok.wish E, I.os, I.bare, I.base, I.loc, I.cell, I.free, I.freeC, I.pin, I.hok, I.len⟩
theorem Inv.unwish (I : Inv (X.wish E) pins σ H s) : Inv X pins σ H s := ⟨I.ok.unwish, I.os, I.bare, I.base, I.loc, I.cell, I.free, I.freeC, I.pin, I.hok, I.len⟩
theorem SP.unwish {D : Ends} {f : Flow} {s' : Shared} (h : SP (X.wish E) pins D f s') : SP X pins D f s' := by
  cases f with
  | next => obtain ⟨σ', H', I, q⟩ := h; exact ⟨σ', H', I.unwish, q⟩
  | brk => obtain ⟨σ', H', I, q⟩ := h; exact ⟨σ', H', I.unwish, q⟩
  | cont => obtain ⟨σ', H', I, q⟩ := h; exact ⟨σ', H', I.unwish, q⟩
  | ret u => obtain ⟨v, σ', H', I, r, q⟩ := h; exact ⟨v, σ', H', I.unwish, r, q⟩
theorem PSs.nox {st : List Stmt} {t : TS} (h : PSs X.nox st t) : PSs X st t := fun pins s σ H D I hw =>
  wpAny_mono (h pins s σ H D (I.wish _) hw) (fun _ _ q => q.unwish) fun _ _ z => False.elim z
end
section
variable {X : Cx} {st : Stmt} {rest : List Stmt} {t u : TS} {e : Expr} {te : TE} {pos : Pos}
def tNext : TS := fun D σ H => D.nx σ H
def tSeq (t u : TS) : TS := fun D σ H => t { D with nx := u D } σ H
theorem pss_nil : PSs X [] tNext := fun _ _ σ H _ I h => wpAny_execs_nil ⟨σ, H, I, h⟩
theorem pss_cons (h1 : PS X st t) (h2 : PSs X rest u) : PSs X (st :: rest) (tSeq t u) := by
  intro pins s σ H D I h
  refine wpAny_execs_cons (thn (h1 pins s σ H { D with nx := u D } I h) fun f s1 q => ?_)
  cases f with
  | next =>
    obtain ⟨σ', H', I', q⟩ := q
    exact h2 pins s1 σ' H' D I' q
  | ret v => exact q
  | brk => exact q
  | cont => exact q
theorem pss_one (h1 : PS X st t) : PSs X [st] t := by
  intro pins s σ H D I h
  refine wpAny_execs_cons (thn (h1 pins s σ H D I h) fun f s1 q => ?_)
  cases f with
  | next => exact wpAny_execs_nil q
  | ret v => exact q
  | brk => exact q
  | cont => exact q
theorem Inv.quiet {pins : List (Addr × Obj)} {σ : St} {H : Hp} {s : Shared} (I : Inv X pins σ H s) : interactive X.env = false := by simp [interactive, I.ok.kind]
def tDrop (te : TE) : TS := fun D σ H => te σ H fun _ H1 => D.nx σ H1
theorem ps_expr (he : PE X e te) (hs : swapsWith e none pos.line X.env = pure false := by rfl) : PS X (.Expr e pos) (tDrop te) := by
  intro pins s σ H D I h
  exact wpAny_Expr_any (thn (he pins s σ H _ I h) fun v s1 ⟨x, H1, I1, r1, q1⟩ => ⟨σ, H1, I1, q1⟩) I.quiet hs
def tRet (te : TE) : TS := fun D σ H => te σ H D.rt
theorem ps_ret (he : PE X e te) : PS X (.Return (some e) pos) (tRet te) := by
  intro pins s σ H D I h
  exact wpAny_Return_some (thn (he pins s σ H _ I h) fun v s1 ⟨x, H1, I1, r1, q1⟩ => ⟨x, σ, H1, I1, r1, q1⟩)
def tIfS (c : TT) (t u : TS) : TS := fun D σ H => c σ H fun b H1 => if b = true then t D σ H1 else u D σ H1
theorem ps_if {c : Expr} {a b : List Stmt} {tc : TT} (hc : PT X c tc) (ha : PSs X a t) (hb : PSs X b u) : PS X (.If c a b pos) (tIfS tc t u) := by
  intro pins s σ H D I h
  refine wpAny_If (thn (hc pins s σ H _ I h) fun d s1 ⟨H1, I1, q1⟩ => ?_)
  cases d with
  | true => exact ha pins s1 σ H1 D I1 q1
  | false => exact hb pins s1 σ H1 D I1 q1
def tNever : TS := fun _ _ _ => False
theorem ps_never : PS X st tNever := fun _ _ _ _ _ _ h => h.elim
end
abbrev TG := V -> St -> Hp -> (St -> Hp -> Prop) -> Prop
abbrev TGs := List V -> St -> Hp -> (St -> Hp -> Prop) -> Prop
def PG (X : Cx) (target : Expr) (t : TG) : Prop :=
  ∀ (pins : List (Addr × Obj)) (s : Shared) (σ : St) (H : Hp) (v : V) (u : Value) (Q : St -> Hp -> Prop), Inv X pins σ H s -> RelV v u -> t v σ H Q ->
    wpAny (model X.prog X.w) X.A (assign target X.env u) (fun _ s' => ∃ σ' H', Inv X pins σ' H' s' /\ Q σ' H') X.xe s
def PGs (X : Cx) (ts : List Expr) (t : TGs) : Prop :=
  ∀ (pins : List (Addr × Obj)) (s : Shared) (σ : St) (H : Hp) (vs : List V) (us : List Value) (Q : St -> Hp -> Prop), Inv X pins σ H s -> Vals vs us -> t vs σ H Q ->
    wpAny (model X.prog X.w) X.A (assignInOrder ((assignEach ts X.env).map (·.2)) us) (fun _ s' => ∃ σ' H', Inv X pins σ' H' s' /\ Q σ' H') X.xe s
abbrev TSet := V -> V -> V -> Hp -> (Hp -> Prop) -> Prop
def PSet (X : Cx) (t : TSet) : Prop :=
  ∀ (pins : List (Addr × Obj)) (s : Shared) (σ : St) (H : Hp) (o i v : V) (ov iv u : Value) (Q : Hp -> Prop), Inv X pins σ H s -> RelV o ov -> RelV i iv -> RelV v u -> t o i v H Q ->
    wpAny (model X.prog X.w) X.A (setItem ov iv u) (fun _ s' => ∃ H', Inv X pins σ H' s' /\ Q H') X.xe s
section
variable {X : Cx} {pos : Pos}
def gName (i : Nat) : TG := fun v σ H Q => Q (σ.set i (some v)) H
theorem pg_name {i : Nat} {x : Str} (hN : X.N.Nodup) (hi : X.N[i]? = some x) (hx : Loc X.env.scope x) (hf : X.fn x = true ∨ X.env.scope.names.lookup x = some .local := by first | exact .inl rfl | exact .inr rfl | assumption) : PG X (.Name x pos) (gName i) := by
  intro pins s σ H v u Q I r h
  exact wpAny_assign_Name (store_ok I hN hi hx r (fun s' I' => ⟨_, H, I', h⟩) hf)
def gNil : TGs := fun vs σ H Q => vs = [] /\ Q σ H
def gCons (t : TG) (u : TGs) : TGs := fun vs σ H Q => ∃ v r, vs = v :: r /\ t v σ H fun σ' H' => u r σ' H' Q
theorem pgs_nil : PGs X [] gNil := by
  intro pins s σ H vs us Q I r h
  obtain ⟨e, h⟩ := h
  subst e
  cases r
  exact assignInOrder_nil ⟨σ, H, I, h⟩
theorem pgs_cons {e : Expr} {es : List Expr} {t : TG} {u : TGs} (h1 : PG X e t) (h2 : PGs X es u)
    (hs : (assignEach (e :: es) X.env).map (·.2) = assign e X.env :: (assignEach es X.env).map (·.2) := by rfl) : PGs X (e :: es) (gCons t u) := by
  intro pins s σ H vs us Q I r h
  obtain ⟨v, vr, e1, h⟩ := h
  subst e1
  cases r with
  | cons r rr =>
    rw [hs]
    refine assignInOrder_cons (thn (h1 pins s σ H _ _ _ I r h) fun _ s1 ⟨σ1, H1, I1, q1⟩ => ?_)
    exact h2 pins s1 σ1 H1 _ _ Q I1 rr q1
def gTup (K : PySem.W.Frag) (n : Nat) (t : TGs) : TG := fun v σ H Q => ∃ a xs, v = .ref a /\ SqT K H a xs /\ xs.length = n /\ t xs σ H Q
theorem pg_tup {es : List Expr} {k : Nat} {t : TGs} {n : Nat} (hc : X.calm = true) (h : PGs X es t)
    (hn : (assignEach es X.env).length = n := by rfl) (hst : (assignEach es X.env).findIdx? (·.1) = none := by rfl) : PG X (.Tuple es k pos) (gTup X.K n t) := by
  intro pins s σ H v u Q I r hw
  obtain ⟨a, xs, e1, hq, hl, hw⟩ := hw
  subst e1
  cases r
  obtain ⟨its, rv, ht, hz⟩ := I.tuple hq
  refine assign_Tuple_tuple (I.ok.hd hc) ht (by simp [hn, ← hl, rv.length]) hst fun h' hx => ?_
  have I1 : Inv X pins σ H { s with heap := h' } := I.kept (t' := s.toks) fun b o e => hx b o (Nat.ne_of_lt (Heap.lt_size e)) e
  exact h pins _ σ H xs _ Q I1 (by simpa using rv) hw
def gSub (to ti : TE) (t : TSet) : TG := fun v σ H Q => to σ H fun o H1 => ti σ H1 fun i H2 => t o i v H2 fun H3 => Q σ H3
theorem pg_sub {o i : Expr} {to ti : TE} {t : TSet} (ho : PE X o to) (hi : PE X i ti) (hs : PSet X t)
    (ha : ∀ v, assign (.Subscript o i pos) X.env v = (do
      let ov ← holding [v] (eval o X.env)
      let iv ← holding [v, ov] (eval i X.env)
      standAt pos
      holding [v, ov, iv] (setItem ov iv v)
      release [v, ov, iv] []) := by intro _; rfl) : PG X (.Subscript o i pos) (gSub to ti t) := by
  intro pins s σ H v u Q I r h
  rw [ha]
  refine wpAny_bind (wpAny_holding (thn (ho pins s σ H _ I h) fun ov s1 ⟨x, H1, I1, r1, q1⟩ => ?_))
  refine wpAny_bind (wpAny_holding (thn (hi pins s1 σ H1 _ I1 q1) fun iv s2 ⟨y, H2, I2, r2, q2⟩ => ?_))
  refine wpAny_bind (wpAny_standAt (wpAny_bind (wpAny_holding (thn (hs pins s2 σ H2 x y v ov iv u _ I2 r1 r2 r q2) fun _ s3 ⟨H3, I3, q3⟩ => ?_))))
  exact wpAny_release ⟨σ, H3, I3, q3⟩
def tAsg (te : TE) (g : TG) : TS := fun D σ H => te σ H fun x H1 => g x σ H1 D.nx
theorem ps_asg {tg e : Expr} {te : TE} {g : TG} (he : PE X e te) (hg : PG X tg g) (hs : swapsWithSole [tg] e pos.line X.env = pure false := by rfl) (hw : swappedStores [tg] e X.env = pure none := by rfl)
    (h1 : (assignEach [tg] X.env).map (·.2) = [assign tg X.env] := by rfl) : PS X (.Assign [tg] e pos) (tAsg te g) := by
  intro pins s σ H D I h
  refine wpAny_Assign_stores (thn (he pins s σ H _ I h) fun v s1 ⟨x, H1, I1, r1, q1⟩ => ?_) hs hw
  rw [h1]
  exact thn (hg pins s1 σ H1 x v _ I1 r1 q1) fun _ s2 q => q
theorem ps_set {i : Nat} {x : Str} {e : Expr} {te : TE} {pos' : Pos} (hN : X.N.Nodup) (hi : X.N[i]? = some x) (hx : Loc X.env.scope x) (he : PE X e te) (hs : swapsWith e (some (.Name x pos')) pos.line X.env = pure false := by rfl) (hf : X.fn x = true ∨ X.env.scope.names.lookup x = some .local := by first | exact .inl rfl | exact .inr rfl | assumption) :
    PS X (.Assign [.Name x pos'] e pos) (tAsg te (gName i)) := by
  intro pins s σ H D I h
  refine wpAny_Assign_Name (thn (he pins s σ H _ I h) fun v s1 ⟨y, H1, I1, r1, q1⟩ => ?_) hs
  exact store_ok I1 hN hi hx r1 (fun s2 I2 => ⟨_, H1, I2, q1⟩) hf
def tPar (i j : Nat) (ta : TA) : TS := fun D σ H => ta σ H fun vs H1 => ∃ v w, vs = [v, w] /\ D.nx ((σ.set i (some v)).set j (some w)) H1
theorem ps_par {i j : Nat} {x y : Str} {a b : Expr} {ta : TA} {px py pt : Pos} {kt k2 pt2} (hc : X.calm = true) (hN : X.N.Nodup) (hi : X.N[i]? = some x) (hj : X.N[j]? = some y) (hij : i ≠ j)
    (hx : X.env.scope.names.lookup x = some .local) (hy : X.env.scope.names.lookup y = some .local) (ha : PA X [a, b] ta)
    (hw : swappedStores [.Tuple [.Name x px, .Name y py] kt pt] (.Tuple [a, b] k2 pt2) X.env = pure (some [x, y]))
    (hs : swapsWithSole [.Tuple [.Name x px, .Name y py] kt pt] (.Tuple [a, b] k2 pt2) pos.line X.env = pure false := by rfl) :
    PS X (.Assign [.Tuple [.Name x px, .Name y py] kt pt] (.Tuple [a, b] k2 pt2) pos) (tPar i j ta) := by
  intro pins s σ H D I h
  rw [exec_Assign_arm]
  refine wpAny_bind (wpAny_standAt ?_)
  rw [hs]
  refine wpAny_bind (wpAny_pure ?_)
  rw [if_neg (by decide)]
  refine wpAny_bind (Tuple_ (thn (ha _ pins s σ H _ I h) fun us s1 ⟨vs, H1, I1, r1, q1⟩ => ?_))
  obtain ⟨v, w, e1, q1⟩ := q1
  subst e1
  obtain ⟨u1, u2, rfl, rv, rw'⟩ : ∃ u1 u2, us = [u1, u2] /\ RelV v u1 /\ RelV w u2 := by
    cases r1 with
    | cons p q =>
      cases q with
      | cons p' q' =>
        cases q'
        exact ⟨_, _, rfl, p, p'⟩
  refine wpAny_newObj_type ?_ (by show 2 <= sizeLine; decide)
  have I2 : Inv X pins σ H1 { s1 with heap := s1.heap.push { cls := .type "tuple", data := .seq [u1, u2].toArray } } := I1.kept (t' := s1.toks) fun b o e => Heap.get?_push_of_some _ e
  rw [hw]
  refine wpAny_bind (wpAny_pure ?_)
  show wpAny (model X.prog X.w) X.A (do rule "assign.swapped-stores"; let items ← unpackItems (.ref s1.heap.objs.size) 2 none; assignInOrder [fun v => bindName X.env y v, fun v => bindName X.env x v] items.reverse; pure Flow.next) _ _ _
  refine wpAny_bind (wpAny_rule (wpAny_bind (unpackItems_tuple (items := #[u1, u2]) (I.ok.hd hc) (IsTup.new s1.heap _) fun h' hx' => ?_)))
  have I3 := I2.kept (h' := h') (t' := s1.toks) fun b o e => hx' b o (Nat.ne_of_lt (Heap.lt_size e)) e
  show wpAny _ _ (assignInOrder [fun v => bindName X.env y v, fun v => bindName X.env x v] [u2, u1] >>= fun _ => pure Flow.next) _ _ _
  refine wpAny_bind (assignInOrder_cons (wpAny_bindName (store_ok I3 hN hj (.inl hy) rw' (fun s2 I4 => ?_) (.inr hy))))
  refine assignInOrder_cons (wpAny_bindName (store_ok I4 hN hi (.inl hx) rv (fun s3 I5 => assignInOrder_nil (wpAny_pure ?_)) (.inr hx)))
  rw [List.set_comm _ _ (Ne.symm hij)] at I5
  exact ⟨_, H1, I5, q1⟩
end
section
variable {X : Cx} {pos : Pos}
def tWhile (c : TT) (tb : TS) : TS := fun D σ H => ∃ W : Nat -> St -> Hp -> Prop, (∃ m, W m σ H) /\ ∀ m σ H, W m σ H ->
  c σ H fun b H1 => if b = true then ∃ N : St -> Hp -> Prop, (∀ σ' H', N σ' H' -> ∃ m', m' < m /\ W m' σ' H') /\ tb { D with nx := N, ct := N, bk := D.nx } σ H1 else D.nx σ H1
theorem ps_while {c : Expr} {body : List Stmt} {tc : TT} {tb : TS} (hp : PassesOwn (model X.prog X.w) X.A X.env X.xe) (hc : PT X c tc) (hb : PSs X body tb) : PS X (.While c body [] pos) (tWhile tc tb) := by
  intro pins s σ H D I h
  obtain ⟨W, ⟨m0, w0⟩, turn⟩ := h
  refine wpAny_While (codeAny_whileLoop (fun n s' => ∃ σ' H', Inv X pins σ' H' s' /\ W n σ' H') ?_ m0 ⟨σ, H, I, w0⟩)
  rintro n s1 ⟨σ1, H1, I1, w1⟩
  refine wpAny_passesOwn hp (thn (hc pins s1 σ1 H1 _ I1 (turn n σ1 H1 w1)) fun b s2 ⟨H2, I2, q2⟩ => ?_)
  cases b with
  | true =>
    obtain ⟨N, hN, q2⟩ := q2
    rw [if_pos rfl]
    refine wpAny_passesOwn hp (thn (hb pins s2 σ1 H2 _ I2 q2) fun f s3 q3 => ?_)
    cases f with
    | next =>
      obtain ⟨σ3, H3, I3, n3⟩ := q3
      obtain ⟨m', hm, w3⟩ := hN σ3 H3 n3
      exact ⟨m', hm, σ3, H3, I3, w3⟩
    | cont =>
      obtain ⟨σ3, H3, I3, n3⟩ := q3
      obtain ⟨m', hm, w3⟩ := hN σ3 H3 n3
      exact ⟨m', hm, σ3, H3, I3, w3⟩
    | brk => exact q3
    | ret v => exact q3
  | false =>
    rw [if_neg Bool.false_ne_true]
    exact wpAny_execs_nil ⟨σ1, H2, I2, q2⟩
end
structure It where
  go : Nat -> Hp -> Prop
  yld : Nat -> Hp -> V -> Hp -> Prop
  stop : Nat -> Hp -> Prop
def FpOk (X : Cx) (pins : List (Addr × Obj)) (H : Hp) (b : Addr) : Prop :=
  H b = none /\ b ≠ X.env.locals /\ b ∉ X.fs /\ (b ∈ X.ex ∨ X.s₀.heap.objs.size <= b) /\ (∀ x c, X.env.cells.lookup x = some c -> c ≠ b) /\ ∀ p ∈ X.pn ++ pins, p.1 ≠ b
theorem Inv.fpOk {X : Cx} {pins : List (Addr × Obj)} {σ : St} {H H' : Hp} {s : Shared} {b : Addr} (I : Inv X pins σ H s) (hb : s.heap.objs.size <= b) (hn : H' b = none) : FpOk X pins H' b := by
  refine ⟨hn, Nat.ne_of_gt (Nat.lt_of_lt_of_le I.lt hb), I.nofs hb, .inr (Nat.le_trans I.sz hb), fun x c e z => ?_, fun p hp z => ?_⟩
  · obtain ⟨v, q⟩ := I.cell x c e
    exact absurd (Nat.lt_of_lt_of_le q.lt (by rw [z]; exact hb)) (Nat.lt_irrefl _)
  · exact absurd (Nat.lt_of_lt_of_le (Heap.lt_size (I.pin p hp).1) (by rw [z]; exact hb)) (Nat.lt_irrefl _)
structure Turn (P : Program) (w : World) (K : PySem.W.Frag) (tg : Expr) (J : It) (fp : List Addr) (it : Addr) (tn : Nat -> Heap -> Prop) : Prop where
  mem : it ∈ fp
  obj : ∀ i h, tn i h -> ∀ b ∈ fp, ∃ o, h.get? b = some o /\ ∀ v, o.data ≠ .cell v
  keep : ∀ i h h', tn i h -> (∀ b ∈ fp, ∀ o, h.get? b = some o -> h'.get? b = some o) -> tn i h'
  item : ∀ (X : Cx), X.prog = P -> X.w = w -> X.K = K -> X.calm = true -> ∀ (i : Nat) (pins : List (Addr × Obj)) (s : Shared) (σ : St) (H : Hp) (E : Value -> Shared -> Prop), Inv X pins σ H s -> (∀ b ∈ fp, FpOk X pins H b) -> tn i s.heap -> J.go i H ->
    wpAny (model P w) X.A (pyNext (.ref it)) (fun r s1 => ∃ u, r = some u /\
      wpAny (model P w) X.A (letOwnedTupleGo tg (.ref it) u) (fun _ s2 => ∃ x H', Inv X pins σ H' s2 /\ RelV x u /\ J.yld i H x H' /\ tn (i + 1) s2.heap /\ ∀ b ∈ fp, H' b = none) E s1) E s
  done : ∀ (X : Cx), X.prog = P -> X.w = w -> X.K = K -> X.calm = true -> ∀ (i : Nat) (pins : List (Addr × Obj)) (s : Shared) (σ : St) (H : Hp) (E : Value -> Shared -> Prop), Inv X pins σ H s -> (∀ b ∈ fp, FpOk X pins H b) -> tn i s.heap -> J.stop i H ->
    wpAny (model P w) X.A (pyNext (.ref it)) (fun r s1 => r = none /\ Inv X pins σ H s1) E s
  self : ∀ (A : Around) (i : Nat) (s : Shared) (Q : Value -> Shared -> Prop) (E : Value -> Shared -> Prop), tn i s.heap -> Q (.ref it) s -> wpAny (model P w) A (pyIter (.ref it)) Q E s
abbrev TI := St -> Hp -> (It -> Hp -> Prop) -> Prop
def PIE (X : Cx) (pins : List (Addr × Obj)) (σ : St) (tg : Expr) (R : It -> Hp -> Prop) (itv : Value) (s2 : Shared) : Prop :=
  ∃ (it : Addr) (fp : List Addr) (tn : Nat -> Heap -> Prop) (J : It) (H' : Hp), itv = .ref it /\ Inv X pins σ H' s2 /\ Turn X.prog X.w X.K tg J fp it tn /\ tn 0 s2.heap /\ (∀ b ∈ fp, FpOk X pins H' b) /\ R J H'
def PI (X : Cx) (tg iter : Expr) (wi : TI) : Prop :=
  ∀ (pins : List (Addr × Obj)) (s : Shared) (σ : St) (H : Hp) (R : It -> Hp -> Prop), Inv X pins σ H s -> wi σ H R ->
    wpAny (model X.prog X.w) X.A (eval iter X.env) (fun v s1 => wpAny (model X.prog X.w) X.A (pyIter v) (PIE X pins σ tg R) X.xe s1) X.xe s
theorem go_of {M : Model} {A : Around} {E : Value -> Shared -> Prop} {s : Shared} {tg : Expr} {it : Addr} {u : Value} {o : Obj} {n : String} {vs : Array Value} {Q : Unit -> Shared -> Prop} (ho : s.heap.get? it = some o) (hc : o.cls = .type n) (hd : o.data = .fields vs)
    (hn : ["enumerate", "zip", "dict_itemiterator", "dict_reverseitemiterator", "odict_iterator", "itertools.zip_longest", "itertools.pairwise"].contains n = false) (hQ : Q () s) : wpAny M A (letOwnedTupleGo tg (.ref it) u) Q E s := by
  unfold letOwnedTupleGo
  cases tg <;> first
    | exact wpAny_pure hQ
    | (cases u <;> first
        | exact wpAny_pure hQ
        | (refine wpAny_bind (wpAny_load ho ?_)
           rw [hc, hd]
           show wpAny M A (if (["enumerate", "zip", "dict_itemiterator", "dict_reverseitemiterator", "odict_iterator", "itertools.zip_longest", "itertools.pairwise"].contains n && vs[0]? == some (rawInt _)) = true then _ else _) Q E s
           rw [if_neg (by intro h; rw [hn, Bool.false_and] at h; cases h)]
           exact wpAny_pure hQ))
def Itl (K : PySem.W.Frag) (a : Addr) : It :=
  ⟨fun i H => ∃ xs x, SqL K H a xs /\ xs[i]? = some x, fun i H x H' => H' = H /\ ∀ xs, SqL K H a xs -> xs[i]? = some x, fun i H => ∃ xs, SqL K H a xs /\ xs.length <= i⟩
def Itt (K : PySem.W.Frag) (a : Addr) : It :=
  ⟨fun i H => ∃ xs x, SqT K H a xs /\ xs[i]? = some x, fun i H x H' => H' = H /\ ∀ xs, SqT K H a xs -> xs[i]? = some x, fun i H => ∃ xs, SqT K H a xs /\ xs.length <= i⟩
def Itr (lo : Int) (n : Nat) : It := ⟨fun i _ => i < n, fun i H x H' => H' = H /\ x = .int (lo + i), fun i _ => n <= i⟩
theorem turn_list {P : Program} {w : World} {K : PySem.W.Frag} {tg : Expr} (a it : Addr) : Turn P w K tg (Itl K a) [it] it (fun i h => h.IsListIter it a i) where
  mem := by simp
  obj := fun i h st b hb => by
    have e : b = it := by simpa using hb
    subst e
    obtain ⟨o, e, c, d⟩ := st
    exact ⟨o, e, fun v z => by rw [d] at z; cases z⟩
  keep := fun i h h' st k => st.at fun o e => k it (by simp) o e
  item := by
    intro X hP hw hK hc i pins s σ H E I hf st hg
    subst hP hw hK
    obtain ⟨xs, x, hq, hx⟩ := hg
    obtain ⟨its, rv, p, hz⟩ := I.list hq
    obtain ⟨u, hu, ru⟩ := rv.get hx
    obtain ⟨f0, f1, f2, f3, f4, f5⟩ := hf it (by simp)
    refine wpAny_pyNext_list_item st p.isList (x := u) (by simpa using hu) fun h' st' sb => ?_
    have I1 : Inv X pins σ H { s with heap := h' } := I.turned (t' := s.toks) (fun b o hb e => (sb.2 b hb).trans e) f0 f1 f3 f4 f5
    obtain ⟨o, e, c, d⟩ := id st'
    exact ⟨u, rfl, go_of (s := { s with heap := h' }) e c d (by decide) ⟨x, H, I1, ru, ⟨rfl, fun ys hy => by rw [I.list_inj hy hq]; exact hx⟩, st', fun b hb => (hf b hb).1⟩⟩
  done := by
    intro X hP hw hK hc i pins s σ H E I hf st hg
    subst hP hw hK
    obtain ⟨xs, hq, hx⟩ := hg
    obtain ⟨its, rv, p, hz⟩ := I.list hq
    obtain ⟨f0, f1, f2, f3, f4, f5⟩ := hf it (by simp)
    have hl := rv.length
    exact wpAny_pyNext_list_end (I.ok.hd hc) st p.isList (by simp; omega) fun h' eb => ⟨rfl, I.turned (t' := s.toks) (fun b o hb e => eb b o hb e) f0 f1 f3 f4 f5⟩
  self := fun _ _ _ _ _ st h => wpAny_pyIter_listiter st h
theorem turn_tuple {P : Program} {w : World} {K : PySem.W.Frag} {tg : Expr} (a it : Addr) : Turn P w K tg (Itt K a) [it] it (fun i h => h.IsTupleIter it a i) where
  mem := by simp
  obj := fun i h st b hb => by
    have e : b = it := by simpa using hb
    subst e
    obtain ⟨o, e, c, d⟩ := st
    exact ⟨o, e, fun v z => by rw [d] at z; cases z⟩
  keep := fun i h h' st k => st.at fun o e => k it (by simp) o e
  item := by
    intro X hP hw hK hc i pins s σ H E I hf st hg
    subst hP hw hK
    obtain ⟨xs, x, hq, hx⟩ := hg
    obtain ⟨its, rv, p, hz⟩ := I.tuple hq
    obtain ⟨u, hu, ru⟩ := rv.get hx
    obtain ⟨f0, f1, f2, f3, f4, f5⟩ := hf it (by simp)
    refine wpAny_pyNext_tuple_item st (show s.heap.IsTuple a its.toArray from p) (x := u) (by simpa using hu) fun h' st' sb => ?_
    have I1 : Inv X pins σ H { s with heap := h' } := I.turned (t' := s.toks) (fun b o hb e => (sb.2 b hb).trans e) f0 f1 f3 f4 f5
    obtain ⟨o, e, c, d⟩ := id st'
    exact ⟨u, rfl, go_of (s := { s with heap := h' }) e c d (by decide) ⟨x, H, I1, ru, ⟨rfl, fun ys hy => by rw [I.tuple_inj hy hq]; exact hx⟩, st', fun b hb => (hf b hb).1⟩⟩
  done := by
    intro X hP hw hK hc i pins s σ H E I hf st hg
    subst hP hw hK
    obtain ⟨xs, hq, hx⟩ := hg
    obtain ⟨its, rv, p, hz⟩ := I.tuple hq
    obtain ⟨f0, f1, f2, f3, f4, f5⟩ := hf it (by simp)
    have hl := rv.length
    exact wpAny_pyNext_tuple_end (I.ok.hd hc) st (show s.heap.IsTuple a its.toArray from p) (by simp; omega) fun h' eb => ⟨rfl, I.turned (t' := s.toks) (fun b o hb e => eb b o hb e) f0 f1 f3 f4 f5⟩
  self := fun _ _ _ _ _ st h => wpAny_pyIter_tupleiter st h
theorem turn_range {P : Program} {w : World} {K : PySem.W.Frag} {tg : Expr} (it : Addr) (lo : Int) (n : Nat) : Turn P w K tg (Itr lo n) [it] it (fun i h => IsRangeIter h it (lo + (i : Nat) * 1) ((n : Int) - (i : Nat)) 1) where
  mem := by simp
  obj := fun i h st b hb => by
    have e : b = it := by simpa using hb
    subst e
    exact ⟨_, st, fun v z => by
      have z' : Data.fields _ = Data.cell v := z
      cases z'⟩
  keep := fun i h h' st k => k it (by simp) _ st
  item := by
    intro X hP hw hK hc i pins s σ H E I hf st hg
    subst hP hw hK
    obtain ⟨f0, f1, f2, f3, f4, f5⟩ := hf it (by simp)
    have W := Walks.range (prog := X.prog) (w := X.w) (I.ok.hd hc) it lo 1 n
    refine W.item i s _ _ hg st fun v h' tk hv st' kk => ?_
    obtain ⟨t, rfl⟩ := hv
    have I1 : Inv X pins σ H { s with heap := h', toks := tk } := I.turned (fun b o hb e => kk b o (by simpa using hb) e) f0 f1 f3 f4 f5
    refine ⟨_, rfl, go_of (s := { s with heap := h', toks := tk }) (n := "range_iterator") st' rfl rfl (by decide) ⟨.int (lo + i), H, I1, ⟨t, ?_⟩, ⟨rfl, rfl⟩, st', fun b hb => (hf b hb).1⟩⟩
    rw [Int.mul_one]
  done := by
    intro X hP hw hK hc i pins s σ H E I hf st hg
    subst hP hw hK
    obtain ⟨f0, f1, f2, f3, f4, f5⟩ := hf it (by simp)
    exact wpAny_pyNext_range_end (I.ok.hd hc) st (by have : n <= i := hg; omega) fun h' eb => ⟨rfl, I.turned (t' := s.toks) (fun b o hb e => eb b o hb e) f0 f1 f3 f4 f5⟩
  self := fun _ _ _ _ _ st h => wpAny_pyIter_rangeiter st h
end L2
namespace L2
open PySem PySem.Spec PyProof.Rows
section
variable {X : Cx} {tg : Expr}
def iList (K : PySem.W.Frag) (tl : TE) : TI := fun σ H R => tl σ H fun x H1 => ∃ a, x = .ref a /\ (∃ xs, SqL K H1 a xs) /\ R (Itl K a) H1
def iTup (K : PySem.W.Frag) (tl : TE) : TI := fun σ H R => tl σ H fun x H1 => ∃ a, x = .ref a /\ (∃ xs, SqT K H1 a xs) /\ R (Itt K a) H1
theorem pi_list {l : Expr} {tl : TE} (hl : PE X l tl) : PI X tg l (iList X.K tl) := by
  intro pins s σ H R I h
  refine thn (hl pins s σ H _ I h) fun v s1 ⟨x, H1, I1, r1, q1⟩ => ?_
  obtain ⟨a, e, ⟨xs, hq⟩, q⟩ := q1
  subst e
  cases r1
  obtain ⟨its, rv, p, hz⟩ := I1.list hq
  refine wpAny_pyIter_list p.isList ?_
  refine ⟨s1.heap.objs.size, [s1.heap.objs.size], _, _, H1, rfl, I1.kept (t' := s1.toks) fun b o e => Heap.get?_push_of_some _ e, turn_list a _, ⟨_, Heap.get?_push_size _ rfl, rfl, rfl⟩, fun b hb => ?_, q⟩
  have e : b = s1.heap.objs.size := by simpa using hb
  subst e
  exact I1.fpOk (Nat.le_refl _) (I1.hok.fresh (Nat.le_refl _))
theorem pi_tup {l : Expr} {tl : TE} (hl : PE X l tl) : PI X tg l (iTup X.K tl) := by
  intro pins s σ H R I h
  refine thn (hl pins s σ H _ I h) fun v s1 ⟨x, H1, I1, r1, q1⟩ => ?_
  obtain ⟨a, e, ⟨xs, hq⟩, q⟩ := q1
  subst e
  cases r1
  obtain ⟨its, rv, p, hz⟩ := I1.tuple hq
  refine wpAny_pyIter_tuple (show s1.heap.IsTuple a its.toArray from p) ?_
  refine ⟨s1.heap.objs.size, [s1.heap.objs.size], _, _, H1, rfl, I1.kept (t' := s1.toks) fun b o e => Heap.get?_push_of_some _ e, turn_tuple a _, ⟨_, Heap.get?_push_size _ rfl, rfl, rfl⟩, fun b hb => ?_, q⟩
  have e : b = s1.heap.objs.size := by simpa using hb
  subst e
  exact I1.fpOk (Nat.le_refl _) (I1.hok.fresh (Nat.le_refl _))
theorem range_it {pins : List (Addr × Obj)} {σ : St} {H : Hp} {s : Shared} {R : It -> Hp -> Prop} {E : Value -> Shared -> Prop} {lo hi : Int} {t u v : Tok} {tk : Nat} (I : Inv X pins σ H s) (h1 : -(2 ^ 62) <= lo) (h2 : lo < 2 ^ 62) (h3 : -(2 ^ 62) <= hi) (h4 : hi < 2 ^ 62)
    (q : R (Itr lo (hi - lo).toNat) H) : wpAny (model X.prog X.w) X.A (pyIter (.ref s.heap.objs.size)) (PIE X pins σ tg R) E { s with heap := s.heap.push { cls := .type "range", data := .fields #[.int lo t, .int hi u, .int 1 v] }, toks := tk } := by
  refine wpAny_pyIter_range (IsRange.new ..) (small_one h1 h2 h3 h4) ?_
  have I1 : Inv X pins σ H { s with heap := s.heap.push { cls := .type "range", data := .fields #[.int lo t, .int hi u, .int 1 v] }, toks := tk } := I.kept fun b o e => Heap.get?_push_of_some _ e
  refine ⟨(s.heap.push { cls := .type "range", data := .fields #[.int lo t, .int hi u, .int 1 v] }).objs.size, [(s.heap.push { cls := .type "range", data := .fields #[.int lo t, .int hi u, .int 1 v] }).objs.size], _, _, H, rfl,
    I1.kept (t' := tk) fun b o e => Heap.get?_push_of_some _ e, turn_range _ lo (hi - lo).toNat, ?_, fun b hb => ?_, q⟩
  · have e1 : lo + ((0 : Nat) : Int) * 1 = lo := by simp
    have e2 : (((hi - lo).toNat : Nat) : Int) - ((0 : Nat) : Int) = Builtin.Range.rangeSize lo hi 1 := by rw [rangeSize_one]; split <;> omega
    show IsRangeIter _ _ (lo + ((0 : Nat) : Int) * 1) ((((hi - lo).toNat : Nat) : Int) - ((0 : Nat) : Int)) 1
    rw [e1, e2]
    exact Heap.get?_push_size _ rfl
  · have e : b = (s.heap.push { cls := .type "range", data := .fields #[.int lo t, .int hi u, .int 1 v] }).objs.size := by simpa using hb
    subst e
    exact I1.fpOk (Nat.le_refl _) (I1.hok.fresh (Nat.le_refl _))
def iRng1 (ta : TA) : TI := fun σ H R => ta σ H fun vs H1 => ∃ j : Int, vs = [.int j] /\ -(2 ^ 62) <= j /\ j < 2 ^ 62 /\ R (Itr 0 j.toNat) H1
def iRng2 (ta : TA) : TI := fun σ H R => ta σ H fun vs H1 => ∃ i j : Int, vs = [.int i, .int j] /\ (-(2 ^ 62) <= i /\ i < 2 ^ 62 /\ -(2 ^ 62) <= j /\ j < 2 ^ 62) /\ R (Itr i (j - i).toNat) H1
theorem pi_range1 {a : Expr} {ta : TA} {p pos : Pos} (hg : Gl X "range") (hm : X.mg "range" = none) (ha : PA X [a] ta) (hs : starEach [a] X.env = [(false, eval a X.env)] := by rfl) : PI X tg (.Call (.Name "range" p) [a] [] pos) (iRng1 ta) := by
  intro pins s σ H R I h
  refine Call_ (ld_blt I hg hm boot_range (PyProof.Rows.callWith_type1 (thn (ha pos pins s σ H _ I h) fun us s1 ⟨vs, H1, I1, r1, q1⟩ => ?_) hs rfl))
  obtain ⟨j, e, q1, q2, q⟩ := q1
  subst e
  cases r1 with
  | cons r rr =>
    cases rr
    obtain ⟨t, rfl⟩ := r
    exact call_range_1 (range_it I1 (by omega) (by omega) q1 q2 (by simpa using q))
theorem pi_range2 {a b : Expr} {ta : TA} {p pos : Pos} (hg : Gl X "range") (hm : X.mg "range" = none) (ha : PA X [a, b] ta) (hs : starEach [a, b] X.env = [(false, eval a X.env), (false, eval b X.env)] := by rfl) (hs2 : starEach [b] X.env = [(false, eval b X.env)] := by rfl) :
    PI X tg (.Call (.Name "range" p) [a, b] [] pos) (iRng2 ta) := by
  intro pins s σ H R I h
  refine Call_ (ld_blt I hg hm boot_range (PyProof.Rows.callWith_type1 (thn (ha pos pins s σ H _ I h) fun us s1 ⟨vs, H1, I1, r1, q1⟩ => ?_) (by rw [hs, hs2]) (by rw [hs2]; rfl)))
  obtain ⟨i, j, e, ⟨q1, q2, q3, q4⟩, q⟩ := q1
  subst e
  cases r1 with
  | cons r rr =>
    cases rr with
    | cons r' rr =>
      cases rr
      obtain ⟨t, rfl⟩ := r
      obtain ⟨t', rfl⟩ := r'
      exact call_range_2 (range_it I1 q1 q2 q3 q4 q)
def tFor (wi : TI) (g : TG) (tb : TS) : TS := fun D σ H => wi σ H fun J H1 => ∃ W : Nat -> Nat -> St -> Hp -> Prop, (∃ m, W 0 m σ H1) /\ ∀ i m σ H, W i m σ H ->
  (J.stop i H /\ D.nx σ H) ∨ (J.go i H /\ ∃ N : St -> Hp -> Prop, (∀ σ' H', N σ' H' -> ∃ m', m' < m /\ W (i + 1) m' σ' H') /\ ∀ x H', J.yld i H x H' -> g x σ H' fun σ2 H2 => tb { D with nx := N, ct := N, bk := D.nx } σ2 H2)
def pinsAt (fp : List Addr) (h : Heap) : List (Addr × Obj) := fp.filterMap fun b => (h.get? b).map fun o => (b, o)
theorem mem_pinsAt {fp : List Addr} {h : Heap} {b : Addr} {o : Obj} (hb : b ∈ fp) (e : h.get? b = some o) : (b, o) ∈ pinsAt fp h := List.mem_filterMap.mpr ⟨b, hb, by rw [e]; rfl⟩
theorem of_pinsAt {fp : List Addr} {h : Heap} {p : Addr × Obj} (hp : p ∈ pinsAt fp h) : p.1 ∈ fp /\ h.get? p.1 = some p.2 := by
  obtain ⟨b, hb, e⟩ := List.mem_filterMap.mp hp
  cases q : h.get? b with
  | none => rw [q] at e; cases e
  | some o =>
    rw [q] at e
    have e' : (b, o) = p := Option.some.inj e
    subst e'
    exact ⟨hb, q⟩
theorem Inv.pinned {pins : List (Addr × Obj)} {σ : St} {H : Hp} {s : Shared} {fp : List Addr} (I : Inv X pins σ H s) (hf : ∀ b ∈ fp, FpOk X pins H b) (ho : ∀ b ∈ fp, ∃ o, s.heap.get? b = some o /\ ∀ v, o.data ≠ .cell v) : Inv X (pins ++ pinsAt fp s.heap) σ H s :=
  I.pins_of fun p hp => (List.mem_append.mp hp).elim (fun z => I.pin p (List.mem_append_right _ z)) fun z => by
    obtain ⟨hb, e⟩ := of_pinsAt z
    obtain ⟨f0, f1, f2, _⟩ := hf p.1 hb
    obtain ⟨o, e', d⟩ := ho p.1 hb
    rw [e] at e'; cases e'
    exact ⟨e, f0, f1, f2, d⟩
theorem Inv.unpinned {pins pl : List (Addr × Obj)} {σ : St} {H : Hp} {s : Shared} (I : Inv X (pins ++ pl) σ H s) : Inv X pins σ H s := I.pins_of fun p hp => I.pin p (List.mem_append_right _ (List.mem_append_left _ hp))
theorem ps_for {iter : Expr} {body : List Stmt} {wi : TI} {g : TG} {tb : TS} {pos : Pos} (hp : PassesOwn (model X.prog X.w) X.A X.env X.xe) (hc : X.calm = true) (hi : PI X tg iter wi) (hg : PG X tg g) (hb : PSs X body tb)
    (hs : ∀ x, foldedSetIterable iter X.env x = pure x := by intro _; rfl) : PS X (.For tg iter body [] pos) (tFor wi g tb) := by
  intro pins s σ H D I h
  refine wpAny_For (thn (hi pins s σ H _ I h) fun v s1 h1 => thn h1 fun itv s2 h2 => ?_) hs
  obtain ⟨it, fp, tn, J, H2, e, I2, T, st2, f2, W, ⟨m0, w0⟩, turn⟩ := h2
  subst e
  have stat : ∀ {H' : Hp}, (∀ b ∈ fp, H' b = none) -> ∀ b ∈ fp, FpOk X pins H' b := fun hn b hb => ⟨hn b hb, (f2 b hb).2⟩
  refine codeAny_forLoop_any (fun n s' => ∃ i σ' H', Inv X pins σ' H' s' /\ tn i s'.heap /\ (∀ b ∈ fp, H' b = none) /\ W i n σ' H') ?_ m0 ⟨0, σ, H2, I2, st2, fun b hb => (f2 b hb).1, w0⟩
  rintro n s3 ⟨i, σ3, H3, I3, st3, fr3, w3⟩
  rcases turn i n σ3 H3 w3 with ⟨stop, qn⟩ | ⟨go, N, hN, step⟩
  · refine wpAny_passesOwn hp (thn (T.done X rfl rfl rfl hc i pins s3 σ3 H3 X.xe I3 (stat fr3) st3 stop) fun r s4 ⟨hr, I4⟩ => ?_)
    subst hr
    exact wpAny_execs_nil ⟨σ3, H3, I4, qn⟩
  · refine wpAny_passesOwn hp (thn (T.item X rfl rfl rfl hc i pins s3 σ3 H3 X.xe I3 (stat fr3) st3 go) fun r s4 ⟨u, hr, h4⟩ => ?_)
    subst hr
    refine wpAny_passesOwn hp (thn h4 fun _ s5 ⟨x, H5, I5, r5, y5, st5, fr5⟩ => ?_)
    have I5' := I5.pinned (stat fr5) (T.obj _ _ st5)
    refine wpAny_passesOwn hp (thn (hg _ s5 σ3 H5 x u _ I5' r5 (step x H5 y5)) fun _ s6 ⟨σ6, H6, I6, q6⟩ => ?_)
    refine wpAny_passesOwn hp (thn (hb _ s6 σ6 H6 _ I6 q6) fun f s7 q7 => ?_)
    have again : ∀ {σ7 : St} {H7 : Hp}, Inv X (pins ++ pinsAt fp s5.heap) σ7 H7 s7 -> N σ7 H7 -> ∃ m, m < n /\ ∃ i σ' H', Inv X pins σ' H' s7 /\ tn i s7.heap /\ (∀ b ∈ fp, H' b = none) /\ W i m σ' H' := fun {σ7 H7} I7 n7 => by
      obtain ⟨m', hm, w7⟩ := hN σ7 H7 n7
      refine ⟨m', hm, i + 1, σ7, H7, I7.unpinned, T.keep _ _ _ st5 fun b hb o e => (I7.pin (b, o) (List.mem_append_right _ (List.mem_append_right _ (mem_pinsAt hb e)))).1, fun b hb => ?_, w7⟩
      obtain ⟨o, e, d⟩ := T.obj _ _ st5 b hb
      exact (I7.pin (b, o) (List.mem_append_right _ (List.mem_append_right _ (mem_pinsAt hb e)))).2.1
    cases f with
    | next => obtain ⟨σ7, H7, I7, n7⟩ := q7; exact again I7 n7
    | cont => obtain ⟨σ7, H7, I7, n7⟩ := q7; exact again I7 n7
    | brk => obtain ⟨σ7, H7, I7, q7⟩ := q7; exact ⟨σ7, H7, I7.unpinned, q7⟩
    | ret v => obtain ⟨x7, σ7, H7, I7, r7, q7⟩ := q7; exact ⟨x7, σ7, H7, I7.unpinned, r7, q7⟩
end
theorem for_list {K : PySem.W.Frag} {a : Addr} {xs : List V} {g : TG} {tb : TS} {D : Ends} {σ : St} {H : Hp} (Pv : Nat -> St -> Hp -> Prop) (h0 : Pv 0 σ H) (hl : ∀ i σ H, i <= xs.length -> Pv i σ H -> SqL K H a xs)
    (hs : ∀ i x σ H, xs[i]? = some x -> Pv i σ H -> g x σ H fun σ2 H2 => tb { D with nx := Pv (i + 1), ct := Pv (i + 1), bk := D.nx } σ2 H2) (hd : ∀ σ H, Pv xs.length σ H -> D.nx σ H) :
    ∃ W : Nat -> Nat -> St -> Hp -> Prop, (∃ m, W 0 m σ H) /\ ∀ i m σ H, W i m σ H ->
      ((Itl K a).stop i H /\ D.nx σ H) ∨ ((Itl K a).go i H /\ ∃ N : St -> Hp -> Prop, (∀ σ' H', N σ' H' -> ∃ m', m' < m /\ W (i + 1) m' σ' H') /\ ∀ x H', (Itl K a).yld i H x H' -> g x σ H' fun σ2 H2 => tb { D with nx := N, ct := N, bk := D.nx } σ2 H2) := by
  refine ⟨fun i m σ H => m = xs.length - i /\ i <= xs.length /\ Pv i σ H, ⟨xs.length, by simp, Nat.zero_le _, h0⟩, ?_⟩
  rintro i m σ H ⟨rfl, hi, p⟩
  have q := hl i σ H hi p
  by_cases hlt : i < xs.length
  · refine .inr ⟨⟨xs, xs[i], q, by simp [hlt]⟩, Pv (i + 1), fun σ' H' p' => ⟨xs.length - (i + 1), by omega, rfl, hlt, p'⟩, fun x H' y => ?_⟩
    obtain ⟨e, y⟩ := y
    subst e
    exact hs i x σ _ (y xs q) p
  · have e : i = xs.length := by omega
    subst e
    exact .inl ⟨⟨xs, q, Nat.le_refl _⟩, hd σ H p⟩
theorem for_tup {K : PySem.W.Frag} {a : Addr} {xs : List V} {g : TG} {tb : TS} {D : Ends} {σ : St} {H : Hp} (Pv : Nat -> St -> Hp -> Prop) (h0 : Pv 0 σ H) (hl : ∀ i σ H, i <= xs.length -> Pv i σ H -> SqT K H a xs)
    (hs : ∀ i x σ H, xs[i]? = some x -> Pv i σ H -> g x σ H fun σ2 H2 => tb { D with nx := Pv (i + 1), ct := Pv (i + 1), bk := D.nx } σ2 H2) (hd : ∀ σ H, Pv xs.length σ H -> D.nx σ H) :
    ∃ W : Nat -> Nat -> St -> Hp -> Prop, (∃ m, W 0 m σ H) /\ ∀ i m σ H, W i m σ H ->
      ((Itt K a).stop i H /\ D.nx σ H) ∨ ((Itt K a).go i H /\ ∃ N : St -> Hp -> Prop, (∀ σ' H', N σ' H' -> ∃ m', m' < m /\ W (i + 1) m' σ' H') /\ ∀ x H', (Itt K a).yld i H x H' -> g x σ H' fun σ2 H2 => tb { D with nx := N, ct := N, bk := D.nx } σ2 H2) := by
  refine ⟨fun i m σ H => m = xs.length - i /\ i <= xs.length /\ Pv i σ H, ⟨xs.length, by simp, Nat.zero_le _, h0⟩, ?_⟩
  rintro i m σ H ⟨rfl, hi, p⟩
  have q := hl i σ H hi p
  by_cases hlt : i < xs.length
  · refine .inr ⟨⟨xs, xs[i], q, by simp [hlt]⟩, Pv (i + 1), fun σ' H' p' => ⟨xs.length - (i + 1), by omega, rfl, hlt, p'⟩, fun x H' y => ?_⟩
    obtain ⟨e, y⟩ := y
    subst e
    exact hs i x σ _ (y xs q) p
  · have e : i = xs.length := by omega
    subst e
    exact .inl ⟨⟨xs, q, Nat.le_refl _⟩, hd σ H p⟩
theorem for_range {lo : Int} {n : Nat} {g : TG} {tb : TS} {D : Ends} {σ : St} {H : Hp} (Pv : Nat -> St -> Hp -> Prop) (h0 : Pv 0 σ H)
    (hs : ∀ i σ H, i < n -> Pv i σ H -> g (.int (lo + i)) σ H fun σ2 H2 => tb { D with nx := Pv (i + 1), ct := Pv (i + 1), bk := D.nx } σ2 H2) (hd : ∀ σ H, Pv n σ H -> D.nx σ H) :
    ∃ W : Nat -> Nat -> St -> Hp -> Prop, (∃ m, W 0 m σ H) /\ ∀ i m σ H, W i m σ H ->
      ((Itr lo n).stop i H /\ D.nx σ H) ∨ ((Itr lo n).go i H /\ ∃ N : St -> Hp -> Prop, (∀ σ' H', N σ' H' -> ∃ m', m' < m /\ W (i + 1) m' σ' H') /\ ∀ x H', (Itr lo n).yld i H x H' -> g x σ H' fun σ2 H2 => tb { D with nx := N, ct := N, bk := D.nx } σ2 H2) := by
  refine ⟨fun i m σ H => m = n - i /\ i <= n /\ Pv i σ H, ⟨n, by simp, Nat.zero_le _, h0⟩, ?_⟩
  rintro i m σ H ⟨rfl, hi, p⟩
  by_cases hlt : i < n
  · refine .inr ⟨hlt, Pv (i + 1), fun σ' H' p' => ⟨n - (i + 1), by omega, rfl, hlt, p'⟩, fun x H' y => ?_⟩
    obtain ⟨e, y⟩ := y
    subst e y
    exact hs i σ _ hlt p
  · have e : i = n := by omega
    subst e
    exact .inl ⟨Nat.le_refl _, hd σ H p⟩
end L2
namespace L2
open PySem PySem.Spec PyProof.Rows
abbrev R2 := V -> V -> Hp -> VK -> Prop
def OpR (X : Cx) (f : Value -> Value -> Sem Value) (r : R2) : Prop :=
  ∀ (pins : List (Addr × Obj)) (s : Shared) (σ : St) (H : Hp) (x y : V) (v u : Value) (Q : VK), Inv X pins σ H s -> RelV x v -> RelV y u -> r x y H Q ->
    wpAny (model X.prog X.w) X.A (f v u) (EP X pins σ Q) X.xe s
def UnR (X : Cx) (f : Value -> Sem Value) (r : V -> Hp -> VK -> Prop) : Prop :=
  ∀ (pins : List (Addr × Obj)) (s : Shared) (σ : St) (H : Hp) (x : V) (v : Value) (Q : VK), Inv X pins σ H s -> RelV x v -> r x H Q ->
    wpAny (model X.prog X.w) X.A (f v) (EP X pins σ Q) X.xe s
def CallR (X : Cx) (f : Value) (r : List V -> Hp -> VK -> Prop) : Prop :=
  ∀ (pins : List (Addr × Obj)) (s : Shared) (σ : St) (H : Hp) (xs : List V) (us : List Value) (Q : VK), Inv X pins σ H s -> Vals xs us -> r xs H Q ->
    wpAny (model X.prog X.w) X.A (call f us) (EP X pins σ Q) X.xe s
def tOp (r : R2) (ta tb : TE) : TE := fun σ H Q => ta σ H fun x H1 => tb σ H1 fun y H2 => r x y H2 Q
def tUn (r : V -> Hp -> VK -> Prop) (ta : TE) : TE := fun σ H Q => ta σ H fun x H1 => r x H1 Q
def rI (C : Int -> Int -> Prop) (g : Int -> Int -> V) : R2 := fun x y H Q => ∃ i j, x = .int i /\ y = .int j /\ C i j /\ Q (g i j) H
def rI0 (g : Int -> Int -> V) : R2 := fun x y H Q => ∃ i j, x = .int i /\ y = .int j /\ Q (g i j) H
def rU (g : Int -> V) : V -> Hp -> VK -> Prop := fun x H Q => ∃ i, x = .int i /\ Q (g i) H
section
variable {X : Cx} {a b c : Expr} {ta tb tc : TE} {pos : Pos}
theorem binT (ha : PE X a ta) (hb : PE X b tb) {pins : List (Addr × Obj)} {s : Shared} {σ : St} {H : Hp} {R : V -> V -> Hp -> Prop} (I : Inv X pins σ H s)
    (h : ta σ H fun x H1 => tb σ H1 fun y H2 => R x y H2) {Q : Value -> Shared -> Prop} {f : Value -> Value -> Sem Value}
    (hf : ∀ v u s2 x y H2, Inv X pins σ H2 s2 -> RelV x v -> RelV y u -> R x y H2 -> wpAny (model X.prog X.w) X.A (f v u) Q X.xe s2) :
    wpAny (model X.prog X.w) X.A (eval a X.env) (fun v s₁ => wpAny (model X.prog X.w) X.A (eval b X.env) (fun u s₂ => wpAny (model X.prog X.w) X.A (f v u) Q X.xe s₂) X.xe s₁) X.xe s := by
  refine thn (ha pins s σ H _ I h) fun v s1 ⟨x, H1, I1, r1, q1⟩ => ?_
  refine thn (hb pins s1 σ H1 _ I1 q1) fun u s2 ⟨y, H2, I2, r2, q2⟩ => ?_
  exact hf v u s2 x y H2 I2 r1 r2 q2
theorem pe_op {op : Operator} {r : R2} (ho : OpR X (binaryOp op) r) (ha : PE X a ta) (hb : PE X b tb) : PE X (.BinOp a op b pos) (tOp r ta tb) := by
  intro pins s σ H Q I h
  exact wpAny_BinOp (binT ha hb I h fun v u s2 x y H2 I2 rx ry q => ho pins s2 σ H2 x y v u Q I2 rx ry q)
theorem pe_un {op : UnaryOp} {r : V -> Hp -> VK -> Prop} (ho : UnR X (unaryOp op) r) (ha : PE X a ta) : PE X (.UnaryOp op a pos) (tUn r ta) := by
  intro pins s σ H Q I h
  exact UnaryOp_ (thn (ha pins s σ H _ I h) fun v s1 ⟨x, H1, I1, r1, q1⟩ => ho pins s1 σ H1 x v Q I1 r1 q1)
theorem opI {f : Value -> Value -> Sem Value} {C : Int -> Int -> Prop} {g : Int -> Int -> Int}
    (rule : ∀ (i j : Int) (t u : Tok) (s : Shared) (Q : Value -> Shared -> Prop) (E : Value -> Shared -> Prop), C i j -> Q (.int (g i j) s.toks) { s with toks := s.toks + 1 } -> wpAny (model X.prog X.w) X.A (f (.int i t) (.int j u)) Q E s) :
    OpR X f (rI C fun i j => .int (g i j)) := by
  intro pins s σ H x y v u Q I rx ry h
  obtain ⟨i, j, rfl, rfl, hc, q⟩ := h
  obtain ⟨t, rfl⟩ := rx
  obtain ⟨t', rfl⟩ := ry
  exact rule i j t t' s _ _ hc ⟨.int (g i j), H, I.tok _, ⟨_, rfl⟩, q⟩
theorem opI0 {f : Value -> Value -> Sem Value} {g : Int -> Int -> Int}
    (rule : ∀ (i j : Int) (t u : Tok) (s : Shared) (Q : Value -> Shared -> Prop) (E : Value -> Shared -> Prop), Q (.int (g i j) s.toks) { s with toks := s.toks + 1 } -> wpAny (model X.prog X.w) X.A (f (.int i t) (.int j u)) Q E s) :
    OpR X f (rI0 fun i j => .int (g i j)) := by
  intro pins s σ H x y v u Q I rx ry h
  obtain ⟨i, j, rfl, rfl, q⟩ := h
  obtain ⟨t, rfl⟩ := rx
  obtain ⟨t', rfl⟩ := ry
  exact rule i j t t' s _ _ ⟨.int (g i j), H, I.tok _, ⟨_, rfl⟩, q⟩
theorem opB0 {f : Value -> Value -> Sem Value} {g : Int -> Int -> Bool}
    (rule : ∀ (i j : Int) (t u : Tok) (s : Shared) (Q : Value -> Shared -> Prop) (E : Value -> Shared -> Prop), Q (.bool (g i j)) s -> wpAny (model X.prog X.w) X.A (f (.int i t) (.int j u)) Q E s) :
    OpR X f (rI0 fun i j => .bl (g i j)) := by
  intro pins s σ H x y v u Q I rx ry h
  obtain ⟨i, j, rfl, rfl, q⟩ := h
  obtain ⟨t, rfl⟩ := rx
  obtain ⟨t', rfl⟩ := ry
  exact rule i j t t' s _ _ ⟨.bl (g i j), H, I, rfl, q⟩
def CDiv (i j : Int) : Prop := 0 < j /\ j < 1073741824
def CPow (i j : Int) : Prop := 0 <= j /\ j <= 1000000 /\ i.natAbs < 2 ^ 64
def CMul (i j : Int) : Prop := (-(2 ^ 64) < i /\ i < 2 ^ 64) ∨ (-(2 ^ 64) < j /\ j < 2 ^ 64)
theorem CMul.ok {i j : Int} (h : CMul i j) : IntMulOk i j := by
  rcases h with ⟨h1, h2⟩ | ⟨h1, h2⟩
  · exact .of_left (intBits_le_64 h1 h2)
  · exact .of_right (intBits_le_64 h1 h2)
theorem op_add : OpR X (binaryOp .Add) (rI0 fun i j => .int (i + j)) := opI0 fun _ _ _ _ _ _ _ q => add_int q
theorem op_sub : OpR X (binaryOp .Sub) (rI0 fun i j => .int (i - j)) := opI0 fun _ _ _ _ _ _ _ q => sub_int q
theorem op_mul : OpR X (binaryOp .Mult) (rI CMul fun i j => .int (i * j)) := opI fun _ _ _ _ _ _ _ hc q => mul_int q hc.ok
theorem op_fdiv : OpR X (binaryOp .FloorDiv) (rI CDiv fun i j => .int (i / j)) := opI fun i j _ _ _ _ _ hc q => by
  have h1 : (0 : Int) < j := hc.1
  have h2 : j < 1073741824 := hc.2
  exact floordiv_int (by omega) (by rw [Int.fdiv_eq_ediv_of_nonneg i (by omega)]; exact q) (.inl (PyProof.noPylong_small (by omega)))
theorem op_mod : OpR X (binaryOp .Mod) (rI (fun _ j => 0 < j) fun i j => .int (i % j)) := opI fun i j _ _ _ _ _ hc q => by
  have h1 : (0 : Int) < j := hc
  exact mod_int' (by omega) (by rw [Int.fmod_eq_emod_of_nonneg i (by omega)]; exact q)
theorem op_pow : OpR X (binaryOp .Pow) (rI CPow fun i j => .int (i ^ j.toNat)) := opI fun _ _ _ _ _ _ _ hc q => pow_int_small hc.1 hc.2.1 hc.2.2 q
theorem unI {f : Value -> Sem Value} {g : Int -> Int}
    (rule : ∀ (i : Int) (t : Tok) (s : Shared) (Q : Value -> Shared -> Prop) (E : Value -> Shared -> Prop), Q (.int (g i) s.toks) { s with toks := s.toks + 1 } -> wpAny (model X.prog X.w) X.A (f (.int i t)) Q E s) :
    UnR X f (rU fun i => .int (g i)) := by
  intro pins s σ H x v Q I rx h
  obtain ⟨i, rfl, q⟩ := h
  obtain ⟨t, rfl⟩ := rx
  exact rule i t s _ _ ⟨.int (g i), H, I.tok _, ⟨_, rfl⟩, q⟩
theorem un_neg : UnR X (unaryOp .USub) (rU fun i => .int (-i)) := unI fun _ _ _ _ _ q => neg_int q
end
def scal : V -> V -> Bool
  | .non, .non => true | .non, .int _ => true | .int _, .non => true | .non, .bl _ => true | .bl _, .non => true | .non, .str _ => true | .str _, .non => true
  | .int _, .int _ => true | .bl _, .bl _ => true | .str _, .str _ => true | .byt _, .byt _ => true
  | .int _, .str _ => true | .str _, .int _ => true | .bl _, .str _ => true | .str _, .bl _ => true
  | _, _ => false
def rEq : R2 := fun x y H Q => scal x y = true /\ Q (.bl (decide (x = y))) H
def rNe : R2 := fun x y H Q => scal x y = true /\ Q (.bl (!decide (x = y))) H
theorem dec_int {i j : Int} : decide (V.int i = V.int j) = (i == j) := by
  rw [Bool.eq_iff_iff]
  simp
theorem dec_bl {i j : Bool} : decide (V.bl i = V.bl j) = (i == j) := by
  rw [Bool.eq_iff_iff]
  simp
theorem dec_str {i j : Str} : decide (V.str i = V.str j) = (i == j) := by
  rw [Bool.eq_iff_iff]
  simp
theorem dec_byt {i j : Array UInt8} : decide (V.byt i = V.byt j) = (i.toList == j.toList) := by
  rw [Bool.eq_iff_iff]
  cases i
  cases j
  simp
section
variable {X : Cx} {a b c : Expr} {ta tb tc : TE} {pos : Pos}
theorem fin_bl {pins : List (Addr × Obj)} {σ : St} {H : Hp} {s : Shared} {Q : VK} {k k' : Bool} (I : Inv X pins σ H s) (q : Q (.bl k) H) (e : k = k') : EP X pins σ Q (.bool k') s := by
  subst e
  exact ⟨.bl k, H, I, rfl, q⟩
theorem op_eq : OpR X (compareOp .Eq) rEq := by
  intro pins s σ H x y v u Q I rx ry h
  obtain ⟨hs, q⟩ := h
  cases x with
  | non =>
    cases rx
    cases y with
    | non => cases ry; exact PySem.EqNone.eq_none_none (fin_bl I q (by simp))
    | bl j => cases ry; exact PySem.EqNone.eq_none_bool (fin_bl I q (by simp))
    | int j => obtain ⟨t', rfl⟩ := ry; exact PySem.EqNone.eq_none_int (fin_bl I q (by simp))
    | str j => obtain ⟨t', rfl⟩ := ry; exact PySem.EqNone.eq_none_str (fin_bl I q (by simp))
    | _ => exact absurd (show false = true from hs) Bool.false_ne_true
  | bl i =>
    cases rx
    cases y with
    | non => cases ry; exact PySem.EqNone.eq_bool_none (fin_bl I q (by simp))
    | bl j => cases ry; exact eq_bool (fin_bl I q dec_bl)
    | str j => obtain ⟨t', rfl⟩ := ry; exact PySem.EqMixed.eq_bool_str (fin_bl I q (by simp))
    | _ => exact absurd (show false = true from hs) Bool.false_ne_true
  | int i =>
    obtain ⟨t, rfl⟩ := rx
    cases y with
    | non => cases ry; exact PySem.EqNone.eq_int_none (fin_bl I q (by simp))
    | int j => obtain ⟨t', rfl⟩ := ry; exact eq_int (fin_bl I q dec_int)
    | str j => obtain ⟨t', rfl⟩ := ry; exact PySem.EqMixed.eq_int_str (fin_bl I q (by simp))
    | _ => exact absurd (show false = true from hs) Bool.false_ne_true
  | str i =>
    obtain ⟨t, rfl⟩ := rx
    cases y with
    | non => cases ry; exact PySem.EqNone.eq_str_none (fin_bl I q (by simp))
    | bl j => cases ry; exact PySem.EqMixed.eq_str_bool (fin_bl I q (by simp))
    | int j => obtain ⟨t', rfl⟩ := ry; exact PySem.EqMixed.eq_str_int (fin_bl I q (by simp))
    | str j => obtain ⟨t', rfl⟩ := ry; exact eq_str (fin_bl I q dec_str)
    | _ => exact absurd (show false = true from hs) Bool.false_ne_true
  | byt i =>
    obtain ⟨t, rfl⟩ := rx
    cases y with
    | byt j => obtain ⟨t', rfl⟩ := ry; exact PySem.W.eq_bytes (fin_bl I q dec_byt)
    | _ => exact absurd (show false = true from hs) Bool.false_ne_true
  | _ => cases y <;> exact absurd (show false = true from hs) Bool.false_ne_true
theorem op_ne : OpR X (compareOp .NotEq) rNe := by
  intro pins s σ H x y v u Q I rx ry h
  obtain ⟨hs, q⟩ := h
  cases x with
  | non =>
    cases rx
    cases y with
    | non => cases ry; exact PySem.EqNone.ne_none_none (fin_bl I q (by simp))
    | bl j => cases ry; exact PySem.EqNone.ne_none_bool (fin_bl I q (by simp))
    | int j => obtain ⟨t', rfl⟩ := ry; exact PySem.EqNone.ne_none_int (fin_bl I q (by simp))
    | str j => obtain ⟨t', rfl⟩ := ry; exact PySem.EqNone.ne_none_str (fin_bl I q (by simp))
    | _ => exact absurd (show false = true from hs) Bool.false_ne_true
  | bl i =>
    cases rx
    cases y with
    | non => cases ry; exact PySem.EqNone.ne_bool_none (fin_bl I q (by simp))
    | bl j => cases ry; exact ne_bool (fin_bl I q (congrArg not dec_bl))
    | str j => obtain ⟨t', rfl⟩ := ry; exact PySem.EqMixed.ne_bool_str (fin_bl I q (by simp))
    | _ => exact absurd (show false = true from hs) Bool.false_ne_true
  | int i =>
    obtain ⟨t, rfl⟩ := rx
    cases y with
    | non => cases ry; exact PySem.EqNone.ne_int_none (fin_bl I q (by simp))
    | int j => obtain ⟨t', rfl⟩ := ry; exact ne_int (fin_bl I q (congrArg not dec_int))
    | str j => obtain ⟨t', rfl⟩ := ry; exact PySem.EqMixed.ne_int_str (fin_bl I q (by simp))
    | _ => exact absurd (show false = true from hs) Bool.false_ne_true
  | str i =>
    obtain ⟨t, rfl⟩ := rx
    cases y with
    | non => cases ry; exact PySem.EqNone.ne_str_none (fin_bl I q (by simp))
    | bl j => cases ry; exact PySem.EqMixed.ne_str_bool (fin_bl I q (by simp))
    | int j => obtain ⟨t', rfl⟩ := ry; exact PySem.EqMixed.ne_str_int (fin_bl I q (by simp))
    | str j => obtain ⟨t', rfl⟩ := ry; exact ne_str (fin_bl I q (congrArg not dec_str))
    | _ => exact absurd (show false = true from hs) Bool.false_ne_true
  | byt i =>
    obtain ⟨t, rfl⟩ := rx
    cases y with
    | byt j => obtain ⟨t', rfl⟩ := ry; exact PySem.W.ne_bytes (fin_bl I q (congrArg not dec_byt))
    | _ => exact absurd (show false = true from hs) Bool.false_ne_true
  | _ => cases y <;> exact absurd (show false = true from hs) Bool.false_ne_true
theorem op_lt : OpR X (compareOp .Lt) (rI0 fun i j => .bl (decide (i < j))) := opB0 fun _ _ _ _ _ _ _ q => lt_int q
theorem op_gt : OpR X (compareOp .Gt) (rI0 fun i j => .bl (decide (j < i))) := opB0 fun _ _ _ _ _ _ _ q => gt_int q
theorem op_ge : OpR X (compareOp .GtE) (rI0 fun i j => .bl (decide (j <= i))) := opB0 fun _ _ _ _ _ _ _ q => ge_int q
theorem nomark (b : Expr) {op : CmpOp} (h : op ≠ .In := by decide) (h2 : op ≠ .NotIn := by decide) : behindInMarks op b = false := by
  have e1 : (op == CmpOp.In) = false := by cases op <;> first | rfl | exact absurd rfl h
  have e2 : (op == CmpOp.NotIn) = false := by cases op <;> first | rfl | exact absurd rfl h2
  cases b <;> simp [behindInMarks, e1, e2]
theorem pe_cmpR {op : CmpOp} {r : R2} (ho : OpR X (compareOp op) r) (ha : PE X a ta) (hb : PE X b tb) (hm : behindInMarks op b = false) : PE X (.Compare a [op] [b] pos) (tOp r ta tb) := by
  intro pins s σ H Q I h
  exact wpAny_Compare1 (binT ha hb I h fun v u s2 x y H2 I2 rx ry q => ho pins s2 σ H2 x y v u Q I2 rx ry q) hm
def tTest (t : TE) : TT := fun σ H Q => t σ H fun x H' => ∃ k, x = .bl k /\ Q k H'
theorem pt_cmpR {op : CmpOp} {r : R2} (ho : OpR X (compareOp op) r) (ha : PE X a ta) (hb : PE X b tb) (hm : behindInMarks op b = false) : PT X (.Compare a [op] [b] pos) (tTest (tOp r ta tb)) := by
  intro pins s σ H Q I h
  refine wpAny_isTrue_Compare1 (thn (ha pins s σ H _ I h) fun v s1 ⟨x, H1, I1, r1, q1⟩ => thn (hb pins s1 σ H1 _ I1 q1) fun u s2 ⟨y, H2, I2, r2, q2⟩ =>
    thn (ho pins s2 σ H2 x y v u _ I2 r1 r2 q2) fun c s3 ⟨z, H3, I3, r3, k, e, q3⟩ => ?_) hm
  subst e
  cases r3
  exact wpAny_truthy_bool ⟨H3, I3, q3⟩
theorem line63 : (sizeLine : Nat) < 2 ^ 63 := by rw [sizeLine_eq]; decide
theorem vals1 {x : V} {us : List Value} (r : Vals [x] us) : ∃ u, us = [u] /\ RelV x u := by
  cases r with
  | cons r1 r2 => cases r2; exact ⟨_, rfl, r1⟩
theorem vals2 {x y : V} {us : List Value} (r : Vals [x, y] us) : ∃ u w', us = [u, w'] /\ RelV x u /\ RelV y w' := by
  cases r with
  | cons r1 r2 =>
    cases r2 with
    | cons r3 r4 => cases r4; exact ⟨_, _, rfl, r1, r3⟩
theorem call_abs : CallR X (.builtin "abs") (fun xs H Q => ∃ i, xs = [.int i] /\ Q (.int (if i < 0 then -i else i)) H) := by
  intro pins s σ H xs us Q I r h
  obtain ⟨i, rfl, q⟩ := h
  obtain ⟨u, rfl, t, rfl⟩ := vals1 r
  exact call_abs_int fun u tk => ⟨.int (if i < 0 then -i else i), H, I.tok _, ⟨_, rfl⟩, q⟩
theorem call_max2 (hc : X.calm = true) : CallR X (.builtin "max") (fun xs H Q => ∃ i j, xs = [.int i, .int j] /\ Q (.int (if j > i then j else i)) H) := by
  intro pins s σ H xs us Q I r h
  obtain ⟨i, j, rfl, q⟩ := h
  obtain ⟨u, w', rfl, ⟨t, rfl⟩, ⟨t', rfl⟩⟩ := vals2 r
  refine max_two_ints (I.ok.hd hc) fun h' tk k => ⟨_, H, I.kept k, ?_, q⟩
  by_cases hj : j > i
  · rw [if_pos hj, if_pos hj]; exact ⟨_, rfl⟩
  · rw [if_neg hj, if_neg hj]; exact ⟨_, rfl⟩
theorem call_int1 : CallR X (.type "int") (fun xs H Q => (∃ i, xs = [.int i] /\ Q (.int i) H) ∨ ∃ k, xs = [.bl k] /\ Q (.int (if k then 1 else 0)) H) := by
  intro pins s σ H xs us Q I r h
  rcases h with ⟨i, rfl, q⟩ | ⟨k, rfl, q⟩
  · obtain ⟨u, rfl, t, rfl⟩ := vals1 r
    exact call_int_int ⟨.int i, H, I, ⟨_, rfl⟩, q⟩
  · obtain ⟨u, rfl, r1⟩ := vals1 r
    cases r1
    exact call_int_bool ⟨.int (if k then 1 else 0), H, I.tok _, ⟨_, rfl⟩, q⟩
end
end L2
namespace L2
open PySem PySem.Spec PyProof.Rows
structure ObjM (h : Heap) (x dx C : Addr) (mA : Str -> Option Value) : Prop where
  obj : h.get? x = some (PySem.W.instObj C dx)
  ns : h.Ns1 dx mA
  ne : dx ≠ x
theorem lookIn_ns {h : Heap} {dx : Addr} {mA : Str -> Option Value} (n : h.Ns1 dx mA) : ∃ od, h.get? dx = some od /\ ∀ name, PySem.W.lookIn name od = some (mA name) := by
  obtain ⟨o, es, ep, ho, hd, hk, _, hm⟩ := n
  refine ⟨o, ho, fun name => ?_⟩
  have e := hm name
  unfold nsFind findBy at e
  rw [← Array.find?_toList] at e
  unfold PySem.W.lookIn
  rw [hd]
  dsimp only
  split
  · rename_i y q
    rw [q] at e
    exact congrArg some e
  · rename_i q
    rw [q] at e
    have a : es.toList.any (·.refKey) = false := by
      rw [List.any_eq_false]
      intro y hy
      obtain ⟨z, t, hkey⟩ := hk y (Array.mem_toList_iff.mp hy)
      simp [DictEntry.refKey, hkey]
    have a' : ¬ es.toList.any (·.refKey) = true := by rw [a]; exact Bool.false_ne_true
    rw [if_neg a']
    exact congrArg some e
theorem ObjM.look {h : Heap} {x dx C : Addr} {mA : Str -> Option Value} (I : ObjM h x dx C mA) : ∃ od, PySem.W.InstAt h x (PySem.W.instObj C dx) C (some od) /\ ∀ name, PySem.W.lookIn name od = some (mA name) :=
  let ⟨od, ho, hl⟩ := lookIn_ns I.ns
  ⟨od, ⟨I.obj, rfl, rfl, ho⟩, hl⟩
section
variable {P : Program} {w : World} {H H' : Hp} {h h' : Heap} {a C dx : Addr} {fs fs' : List (Str × V)}
theorem ins_get (hok : HOk P w H h) (e : H a = some (.ins C dx fs)) : ∃ mA, ObjM h a dx C mA /\ (∀ f, RelO (fs.lookup f) (mA f)) /\ PySem.Within mA (fs.map (·.1)) /\ fs.length <= 1000 /\ H dx = some (.own a) := by
  obtain ⟨d, z, ne, ob, mA, n, r, q⟩ := (show ObjOk P w H h a (.ins C dx fs) from hok a _ e)
  exact ⟨mA, ⟨ob, n, ne⟩, r, q, z, d⟩
end
structure Cls (K : PySem.W.Frag) (C : Addr) : Prop where
  pg : PySem.W.plainGet K C Str.empty = true
  hd : PySem.W.hasDictIn K C = true
  po : PySem.W.plainOver K C = true
  sa : PySem.W.findIn K (.ref C) "__setattr__" = some (some (.builtin "object.__setattr__"))
theorem Cls.get {K : PySem.W.Frag} {C : Addr} (c : Cls K C) (f : Str) : PySem.W.plainGet K C f = true := c.pg
section
variable {X : Cx} {pins : List (Addr × Obj)} {σ : St} {H : Hp} {s : Shared} {A : Around} {E : Value -> Shared -> Prop} {Q : Value -> Shared -> Prop} {c : Value} {b : Bool}
inductive TyOf (K : PySem.W.Frag) (H : Hp) : V -> Value -> Prop where
  | non : TyOf K H .non (.type "NoneType")
  | bl (x : Bool) : TyOf K H (.bl x) (.type "bool")
  | int (i : Int) : TyOf K H (.int i) (.type "int")
  | str (x : Str) : TyOf K H (.str x) (.type "str")
  | flt (x : UInt64) : TyOf K H (.flt x) (.type "float")
  | lst {a : Addr} {xs : List V} (e : H a = some (.lst xs)) : TyOf K H (.ref a) (.type "list")
  | frz {a : Addr} {o : Obj} {xs : List V} (e : H a = some (.frz o (.lst xs))) : TyOf K H (.ref a) (.type "list")
  | tup {a : Addr} {xs : List V} (e : H a = some (.tup xs)) : TyOf K H (.ref a) (.type "tuple")
  | dK {a : Addr} {kvs : List (Key × V)} (e : H a = some (.dK kvs)) : TyOf K H (.ref a) (.type "dict")
  | dT {a : Addr} {kvs : List (List Key × V)} (e : H a = some (.dT kvs)) : TyOf K H (.ref a) (.type "dict")
  | ins {a C dx : Addr} {fs : List (Str × V)} (e : H a = some (.ins C dx fs)) (cl : Cls K C) (ha : PySem.W.findIn K (.ref C) "__class__" = some (some (.builtin "object.__class__")))
      (hn : PySem.W.specialIn K (.builtin "object.__class__") "__get__" = some (some (.builtin "getset_descriptor.__get__"))) (htk : PySem.W.takesIn K (.builtin "object.__class__") = some true)
      (hm : PySem.W.mroIn K C (.type "object") = some true) : TyOf K H (.ref a) (.ref C)
theorem isinst_ok {x : V} {u t : Value} (I : Inv X pins σ H s) (rx : RelV x u) (ty : TyOf X.K H x t) (e : PySem.W.kitOne X.K t c = some b) (h : ∀ tk, Q (.bool b) { s with toks := tk }) :
    wpAny (model X.prog X.w) A (call (.builtin "isinstance") [u, c]) Q E s := by
  cases ty with
  | non => cases (show u = Value.none from rx); exact PySem.W.kia_one PySem.W.kitx_none I.kIn True.intro e (fun z => nomatch z) h
  | bl y => cases (show u = Value.bool y from rx); exact PySem.W.kia_one PySem.W.kitx_bool I.kIn True.intro e (fun z => nomatch z) h
  | int i => obtain ⟨t, q⟩ := (show ∃ t, u = Value.int i t from rx); cases q; exact PySem.W.kia_one PySem.W.kitx_int I.kIn True.intro e (fun z => nomatch z) h
  | str y => obtain ⟨t, q⟩ := (show ∃ t, u = Value.str y t from rx); cases q; exact PySem.W.kia_one PySem.W.kitx_str I.kIn True.intro e (fun z => nomatch z) h
  | flt y => obtain ⟨t, q⟩ := (show ∃ t, u = Value.float y t from rx); cases q; exact PySem.W.kia_one PySem.W.kitx_float I.kIn True.intro e (fun z => nomatch z) h
  | @lst a xs ea =>
    cases (show u = Value.ref a from rx)
    obtain ⟨_, _, n, _, h1⟩ := (show ObjOk X.prog X.w H s.heap a (.lst xs) from I.hok a _ ea)
    exact PySem.W.kia_one PySem.W.kitx_list I.kIn ⟨_, h1, rfl⟩ e (fun z => nomatch z) h
  | @frz a ob xs ea =>
    cases (show u = Value.ref a from rx)
    obtain ⟨_, _, _, n, _, h1⟩ := (show ObjOk X.prog X.w H s.heap a (.frz ob (.lst xs)) from I.hok a _ ea)
    exact PySem.W.kia_one PySem.W.kitx_list I.kIn ⟨_, h1, rfl⟩ e (fun z => nomatch z) h
  | @tup a xs ea =>
    cases (show u = Value.ref a from rx)
    obtain ⟨_, _, _, p0⟩ := (show ObjOk X.prog X.w H s.heap a (.tup xs) from I.hok a _ ea)
    have p := p0.up
    obtain ⟨o, h1, h2, _⟩ := p
    exact PySem.W.kia_one PySem.W.kitx_tuple I.kIn ⟨o, h1, h2⟩ e (fun z => nomatch z) h
  | @dK a kvs ea =>
    cases (show u = Value.ref a from rx)
    obtain ⟨_, _, vs, _, p⟩ := (show ObjOk X.prog X.w H s.heap a (.dK kvs) from I.hok a _ ea)
    obtain ⟨o, es, ep, h1, h2, _⟩ := p
    exact PySem.W.kia_one PySem.W.kitx_dict I.kIn ⟨o, h1, h2.1⟩ e (fun z => nomatch z) h
  | @dT a kvs ea =>
    cases (show u = Value.ref a from rx)
    obtain ⟨_, _, xs, _, o, es, ep, h1, h2, _⟩ := (show ObjOk X.prog X.w H s.heap a (.dT kvs) from I.hok a _ ea)
    exact PySem.W.kia_one PySem.W.kitx_dict I.kIn ⟨o, h1, h2.1⟩ e (fun z => nomatch z) h
  | @ins a C dx fs ea cl ha hn htk hm =>
    cases (show u = Value.ref a from rx)
    obtain ⟨mA, O, _⟩ := ins_get I.hok ea
    obtain ⟨od, J, _⟩ := O.look
    exact PySem.W.kia_one (PySem.W.kitx_own (cl.get _) cl.hd ha hn htk hm) I.kIn J e (fun z => nomatch z) h
end
end L2
namespace L2
open PySem PySem.Spec PyProof.Rows
structure Room (k : Nat) (A : Around) : Prop where
  hd : A.handled = none
  dp : A.depth + 3 * k + 5 < recursionLimit
  un : A.units + 16 * k + 200 < cLine
theorem Room.mono {j k : Nat} {A : Around} (r : Room k A) (h : j <= k) : Room j A := ⟨r.hd, by have := r.dp; omega, by have := r.un; omega⟩
theorem Room.deeper {k : Nat} {A : Around} (r : Room (k + 1) A) (env : Env) : Room k (A.deeper env) :=
  ⟨r.hd, by have := r.dp; show A.depth + 1 + 3 * k + 5 < _; omega, by have := r.un; show A.units + 3 + 16 * k + 200 < _; omega⟩
theorem Room.depth {k : Nat} {A : Around} (r : Room k A) : A.depth < recursionLimit := by have := r.dp; omega
theorem Room.units {k : Nat} {A : Around} (r : Room k A) : A.units + 64 < cLine := by have := r.un; omega
def tNil : TA := fun _ H Q => Q [] H
def tCons (ta : TE) (tr : TA) : TA := fun σ H Q => ta σ H fun x H1 => tr σ H1 fun xs H2 => Q (x :: xs) H2
section
variable {X : Cx} {e : Expr} {es : List Expr} {te : TE} {t : TA} {pos : Pos}
theorem pa_nil : PA X [] tNil := fun _ _ _ _ H Q I h => Calls.spliced_nil ⟨[], H, I, .nil, h⟩
theorem pa_cons (ha : PE X e te) (hr : PA X es t) (hs : starEach (e :: es) X.env = (false, eval e X.env) :: starEach es X.env := by rfl) : PA X (e :: es) (tCons te t) := by
  intro pos pins s σ H Q I h
  rw [hs]
  show wpAny _ _ (spliced ((false, eval e X.env) :: backTo pos (starEach es X.env))) _ _ s
  refine Calls.spliced_cons (thn (ha pins s σ H _ I h) fun u s1 ⟨x, H1, I1, r1, q1⟩ => ?_)
  exact thn (hr pos pins s1 σ H1 _ I1 q1) fun us s2 ⟨xs, H2, I2, r2, q2⟩ => ⟨x :: xs, H2, I2, .cons r1 r2, q2⟩
def tLst (t : TA) : TE := fun σ H Q => t σ H fun xs H1 => xs.length <= sizeLine /\ ∀ p, H1 p = none -> Q (.ref p) (upd H1 p (.lst xs))
theorem pe_lst (h : PA X es t) : PE X (.List es pos) (tLst t) := by
  intro pins s σ H Q I hq
  refine wpAny_List_spliced (thn (h pos pins s σ H _ I hq) fun us s1 ⟨xs, H1, I1, r, z, q⟩ => ⟨by rw [← r.length]; exact z, ?_⟩)
  have hf : H1 s1.heap.objs.size = none := I1.hok.fresh (Nat.le_refl _)
  refine ⟨.ref s1.heap.objs.size, upd H1 s1.heap.objs.size (.lst xs), I1.laid (t' := s1.toks) (fun b u e => Heap.get?_push_of_some _ e) (Nat.le_refl _) ?_, rfl, q _ hf⟩
  exact ⟨z, us, 0, r, Heap.get?_push_size _ rfl⟩
end
abbrev Sp := List V -> Hp -> VK -> XK -> Prop
abbrev CXT := List Env -> Hp -> Shared -> XK -> Value -> Shared -> Prop
structure Env0 (P : Program) (w : World) (K : PySem.W.Frag) (mg : Str -> Option Value) (base : Heap) (A : Around) (outer : List Env) (s : Shared) (H : Hp) : Prop where
  frames : A.frames = some outer
  mod : Mod K mg base
  bs : ∀ b o, base.get? b = some o -> s.heap.get? b = some o /\ H b = none
  bsz : base.objs.size <= s.heap.objs.size
  funs : s.heap.FunFrames base outer
  frf : ∀ b ∈ frs outer, H b = none
  hok : HOk P w H s.heap
  bare : AllBare s.gens
def CE (outer : List Env) (P : Program) (w : World) (H : Hp) (s : Shared) (Q : VK) (u : Value) (s' : Shared) : Prop :=
  ∃ v H', s'.os = s.os /\ AllBare s'.gens /\ Un (frs outer) [] H H' s.heap s'.heap /\ HOk P w H' s'.heap /\ RelV v u /\ Q v H'
def CR (CX : CXT) (outer : List Env) (P : Program) (w : World) (H : Hp) (s : Shared) (Q : VK) (E : XK) (r : Result) (s' : Shared) : Prop :=
  match r with
  | .ok (.ret u) => CE outer P w H s Q u s'
  | .ok _ => False
  | .error e => CX outer H s E e s'
structure FnOk (P : Program) (w : World) (K : PySem.W.Frag) (mg : Str -> Option Value) (base : Heap) (CX : CXT) (k : Nat) (f : Addr) (fd : FuncData) (ps : List Str) (sp : Sp) : Prop where
  len : ∀ vs H Q E, sp vs H Q E -> vs.length = ps.length
  run : ∀ (A : Around) (outer : List Env) (s : Shared) (H : Hp) (args : Args) (us : List Value) (vs : List V) (Q : VK) (E : XK), Room k A -> Env0 P w K mg base A outer s H -> BindsTo s fd args (ps.zip us) -> Vals vs us -> sp vs H Q E ->
    codeAny (model P w) A (.call (.ref f) args) (CR CX outer P w H s Q E) s
theorem FnOk.imp {P : Program} {w : World} {K : PySem.W.Frag} {mg : Str -> Option Value} {base : Heap} {CX : CXT} {k : Nat} {f : Addr} {fd : FuncData} {ps : List Str} {sp sp' : Sp} (F : FnOk P w K mg base CX k f fd ps sp)
    (h : ∀ vs H Q E, sp' vs H Q E -> sp vs H Q E) : FnOk P w K mg base CX k f fd ps sp' :=
  ⟨fun vs H Q E q => F.len vs H Q E (h _ _ _ _ q), fun A outer s H args us vs Q E hr he hb hv hs => F.run A outer s H args us vs Q E hr he hb hv (h _ _ _ _ hs)⟩
section
variable {X : Cx} {pins : List (Addr × Obj)} {σ : St} {H : Hp} {s s' : Shared}
theorem Inv.env0 (I : Inv X pins σ H s) : Env0 X.prog X.w X.K X.mg X.base X.A X.stack s H :=
  ⟨I.ok.frames, I.ok.mod, I.bs, Nat.le_trans I.ok.bsz I.sz, I.stack, I.stkFree, I.hok, I.bare⟩
theorem Inv.after {Q : VK} {u : Value} (I : Inv X pins σ H s) (h : CE X.stack X.prog X.w H s Q u s') : EP X pins σ Q u s' := by
  obtain ⟨v, H', os, bare, un, hok, r, q⟩ := h
  obtain ⟨hh, g, d, t, os'⟩ := s'
  obtain rfl : os' = s.os := os
  exact ⟨v, H', I.call (h' := hh) (g' := g) (d' := d) (t' := t) (ch := []) un hok bare (fun b z => absurd z (by simp)), r, q⟩
end
def tCall (sp : Sp) (dvs : List V) (E : XK) (t : TA) : TE := fun σ H Q => t σ H fun vs H1 => sp (vs ++ dvs) H1 Q E
def Binds (K : PySem.W.Frag) (fd : FuncData) (ps : List Str) (ds : List Value) : Prop :=
  ∀ (s : Shared) (us : List Value), K.In s.heap -> (us ++ ds).length = ps.length -> BindsTo s fd ⟨us, []⟩ (ps.zip (us ++ ds))
theorem Binds.all {K : PySem.W.Frag} {fd : FuncData} {ps : List Str} (h : ∀ us : List Value, us.length = ps.length -> bindArgs fd ⟨us, []⟩ = pure (ps.zip us)) : Binds K fd ps [] := fun s us _ hl => by
  rw [List.append_nil] at hl ⊢
  exact .of_eq (h us hl)
def Passes (CX : CXT) (X : Cx) (E : XK) : Prop := ∀ (pins : List (Addr × Obj)) (σ : St) (H : Hp) (s : Shared) (e : Value) (s' : Shared), Inv X pins σ H s -> CX X.stack H s E e s' -> X.xe e s'
section
variable {X : Cx} {CX : CXT} {k : Nat} {f C : Addr} {fd : FuncData} {ps : List Str} {sp : Sp} {dvs : List V} {ds : List Value} {E : XK} {x m : Str} {p pos apos : Pos} {e o : Expr} {es : List Expr} {ta : TE} {t : TA}
theorem run_fn {pins : List (Addr × Obj)} {σ : St} {H : Hp} {s : Shared} {Q : VK} {us : List Value} {vs : List V} (F : FnOk X.prog X.w X.K X.mg X.base CX k f fd ps sp) (hr : Room k X.A) (hb : Binds X.K fd ps ds) (hd : Vals dvs ds) (hx : Passes CX X E)
    (I : Inv X pins σ H s) (r : Vals vs us) (h : sp (vs ++ dvs) H Q E) : wpAny (model X.prog X.w) X.A (call (.ref f) us) (EP X pins σ Q) X.xe s := by
  have r2 : Vals (vs ++ dvs) (us ++ ds) := r.append hd
  have hl : (us ++ ds).length = ps.length := by rw [← r2.length]; exact F.len _ _ _ _ h
  refine wpAny_call (codeAny_mono (F.run X.A X.stack s H ⟨us, []⟩ (us ++ ds) (vs ++ dvs) Q E hr I.env0 (hb s us I.kIn hl) r2 h) fun r s' hq => ?_)
  cases r with
  | error e => exact hx pins σ H s e s' I hq
  | ok fl =>
    cases fl with
    | ret u => exact I.after hq
    | next => exact False.elim hq
    | brk => exact False.elim hq
    | cont => exact False.elim hq
theorem pe_call (F : FnOk X.prog X.w X.K X.mg X.base CX k f fd ps sp) (hr : Room k X.A) (hg : Gl X x) (hm : X.mg x = some (.ref f)) (hk : PySem.W.keepIn X.K (.ref f) = true) (hb : Binds X.K fd ps ds) (hd : Vals dvs ds) (hx : Passes CX X E)
    (ha : PA X (e :: es) t) (hdb : (x == ("__debug__" : Str)) = false := by decide) (he : starEach (e :: es) X.env = (false, eval e X.env) :: starEach es X.env := by rfl) (hpl : (backTo pos (starEach es X.env)).any (·.1) = false := by rfl) :
    PE X (.Call (.Name x p) (e :: es) [] pos) (tCall sp dvs E t) := by
  intro pins s σ H Q I h
  refine wpAny_Call_Name_kw (ld_glob I hg hm ?_ hdb)
  refine PySem.W.callWith_K (h₀ := X.base) I.ok.mod.kin hk (thn (ha pos pins s σ H _ I h) fun us s1 ⟨vs, H1, I1, r, q⟩ => ⟨I1.kIn, ?_⟩) he hpl
  exact run_fn F hr hb hd hx I1 r q
theorem pe_call0 (F : FnOk X.prog X.w X.K X.mg X.base CX k f fd ps sp) (hr : Room k X.A) (hg : Gl X x) (hm : X.mg x = some (.ref f)) (hk : PySem.W.keepIn X.K (.ref f) = true) (hb : Binds X.K fd ps ds) (hd : Vals dvs ds) (hx : Passes CX X E)
    (hdb : (x == ("__debug__" : Str)) = false := by decide) : PE X (.Call (.Name x p) [] [] pos) (tCall sp dvs E tNil) := by
  intro pins s σ H Q I h
  refine wpAny_Call_Name_kw (ld_glob I hg hm ?_ hdb)
  exact PySem.W.callWith_K0 I.kIn hk (run_fn (us := []) F hr hb hd hx I .nil h)
end
structure FnScope (N P : List Str) (sc : Scope) : Prop where
  kind : sc.kind = .function
  co : sc.isCoroutine = false
  gen : sc.isGenerator = false
  nd : N.Nodup
  pre : N.take P.length = P
  par : ∀ x ∈ P, sc.names.lookup x = some .local ∨ sc.names.lookup x = some .cell
  nofree : ∀ y ∈ sc.names, y.2 ≠ .free
theorem bindL_out {kindOf : Str -> Option NameKind} {x : Str} : ∀ {binds : List (Str × Value)} {m : Str -> Option Value}, (∀ v, (x, v) ∉ binds) -> bindL kindOf binds m x = m x
  | [], _, _ => rfl
  | (n, v) :: r, m, h => by
    unfold bindL
    rw [bindL_out fun w hw => h w (List.mem_cons_of_mem _ hw)]
    split
    · have : x ≠ n := by rintro rfl; exact h v List.mem_cons_self
      simp [this]
    · rfl
theorem bindC_out {kindOf : Str -> Option NameKind} {x : Str} : ∀ {binds : List (Str × Value)} {m : Str -> Option Value}, (∀ v, (x, v) ∉ binds) -> bindC kindOf binds m x = m x
  | [], _, _ => rfl
  | (n, v) :: r, m, h => by
    unfold bindC
    rw [bindC_out fun w hw => h w (List.mem_cons_of_mem _ hw)]
    split
    · rfl
    · have : x ≠ n := by rintro rfl; exact h v List.mem_cons_self
      simp [this]
theorem bindL_get {kindOf : Str -> Option NameKind} {x : Str} {v : Value} : ∀ {P : List Str} {vs : List Value} {i : Nat} {m : Str -> Option Value}, P.Nodup -> P[i]? = some x -> vs[i]? = some v -> kindOf x = some .local ->
    bindL kindOf (P.zip vs) m x = some v
  | [], _, _, _, _, h, _, _ => by simp at h
  | _ :: _, [], _, _, _, _, h, _ => by simp at h
  | p :: P, w :: vs, 0, m, nd, h1, h2, hk => by
    simp at h1 h2; subst h1; subst h2
    show bindL kindOf ((p, w) :: P.zip vs) m p = _
    unfold bindL
    rw [bindL_out fun v hv => (List.nodup_cons.mp nd).1 (List.of_mem_zip hv).1, if_pos hk]
    simp
  | p :: P, w :: vs, i + 1, m, nd, h1, h2, hk => by
    show bindL kindOf ((p, w) :: P.zip vs) m x = _
    unfold bindL
    exact bindL_get (i := i) (List.nodup_cons.mp nd).2 (by simpa using h1) (by simpa using h2) hk
theorem bindC_get {kindOf : Str -> Option NameKind} {x : Str} {v : Value} : ∀ {P : List Str} {vs : List Value} {i : Nat} {m : Str -> Option Value}, P.Nodup -> P[i]? = some x -> vs[i]? = some v -> kindOf x ≠ some .local ->
    bindC kindOf (P.zip vs) m x = some v
  | [], _, _, _, _, h, _, _ => by simp at h
  | _ :: _, [], _, _, _, _, h, _ => by simp at h
  | p :: P, w :: vs, 0, m, nd, h1, h2, hk => by
    simp at h1 h2; subst h1; subst h2
    show bindC kindOf ((p, w) :: P.zip vs) m p = _
    unfold bindC
    rw [bindC_out fun v hv => (List.nodup_cons.mp nd).1 (List.of_mem_zip hv).1, if_neg hk]
    simp
  | p :: P, w :: vs, i + 1, m, nd, h1, h2, hk => by
    show bindC kindOf ((p, w) :: P.zip vs) m x = _
    unfold bindC
    exact bindC_get (i := i) (List.nodup_cons.mp nd).2 (by simpa using h1) (by simpa using h2) hk
def start (N : List Str) (vs : List V) : St := vs.map some ++ List.replicate (N.length - vs.length) none
def cxOf (CX : CXT) (P : Program) (w : World) (K : PySem.W.Frag) (mg : Str -> Option Value) (base : Heap) (N : List Str) (qual : Str) (scope : Scope) (f : Addr) (cd : Value) (A : Around) (outer : List Env) (s : Shared) (H : Hp) (E : XK) : Cx where
  prog := P
  w := w
  K := K
  mg := mg
  base := base
  A := A.deeper (envOfC qual scope s.heap.objs.size f cd)
  N := N
  s₀ := s
  H₀ := H
  env := envOfC qual scope s.heap.objs.size f cd
  outer := outer
  stack := envOfC qual scope s.heap.objs.size f cd :: outer
  ex := []
  calm := true
  fn := fun _ => true
  pn := []
  xe := fun e s' => wpAny (model P w) (A.deeper (envOfC qual scope s.heap.objs.size f cd)) (leaving (envOfC qual scope s.heap.objs.size f cd) e) (fun _ s'' => CX outer H s E e s'') (fun e' s'' => CX outer H s E e' s'') s'
theorem cell_has {sc : Scope} {n : Nat} {x : Str} (h : sc.names.lookup x = some .cell) : ∃ c, (cellsFrom n sc.names []).lookup x = some c := by
  have q := PySem.W.cellsFrom_some sc.names n [] (.inl h)
  exact Option.isSome_iff_exists.mp q
theorem inv_start {CX : CXT} {P : Program} {w : World} {K : PySem.W.Frag} {mg : Str -> Option Value} {base : Heap} {N ps : List Str} {qual : Str} {scope : Scope} {f : Addr} {cd : Value} {A : Around} {outer : List Env} {s s1 : Shared} {H : Hp} {E : XK} {us : List Value} {vs : List V}
    (S : FnScope N ps scope) (hd : A.handled = none) (e0 : Env0 P w K mg base A outer s H) (hl : vs.length = ps.length) (r : Vals vs us)
    (x : InCallC s s.heap.objs.size (bindL (envOfC qual scope s.heap.objs.size f cd).kindOf (ps.zip us) fun _ => none) (cellsFrom (s.heap.objs.size + 1) scope.names []) (bindC (envOfC qual scope s.heap.objs.size f cd).kindOf (ps.zip us) fun _ => none) s1) :
    Inv (cxOf CX P w K mg base N qual scope f cd A outer s H E) [] (start N vs) H s1 := by
  have hpl : ps.length <= N.length := by have := congrArg List.length S.pre; rw [List.length_take] at this; omega
  obtain ⟨h1, tk, rfl, hk⟩ := x.done
  have noA : ∀ b : Addr, b ∉ (cxOf CX P w K mg base N qual scope f cd A outer s H E).ex := fun b z => absurd (show b ∈ ([] : List Addr) from z) (by simp)
  refine ⟨⟨e0.mod, S.kind, rfl, rfl, Nat.le_refl _, fun y z c h1 h2 => ?_, fun y hy => ?_, fun y c _ h => ?_, fun _ => hd, Around.frames_deeper e0.frames, .inr ⟨rfl, rfl⟩, fun b z => absurd z (noA b), e0.bs, e0.bsz, fun b _ _ => noA b, fun b z => absurd z (noA b), e0.funs, e0.frf⟩,
    rfl, e0.bare, Un.kept hk, ⟨_, x.toInCall.ns, fun i y v h1 h2 h3 => ?_⟩, fun y c h => ⟨_, x.cell y c h⟩, e0.hok.fresh (Nat.le_refl _), fun y c h => ?_, fun p hp => absurd (show p ∈ ([] : List (Addr × Obj)) from hp) (by simp), e0.hok.kept hk, ?_⟩
  · exact name_of_addr x.apart (PySem.mem_of_lookup h1) (PySem.mem_of_lookup h2)
  · have hy : scope.names.lookup y = some .cell ∨ scope.names.lookup y = some .free := hy
    rcases hy with hy | hy
    · exact cell_has hy
    · exact absurd rfl (S.nofree _ (PySem.mem_of_lookup hy))
  · exact Nat.le_of_lt (x.above y c (PySem.mem_of_lookup h))
  · have hi : i < vs.length := by
      unfold start at h2
      by_cases hi : i < vs.length
      · exact hi
      · rw [List.getElem?_append_right (by simpa using hi)] at h2
        rw [List.getElem?_replicate] at h2
        split at h2 <;> cases h2
    have ha : vs[i]? = some v := by
      unfold start at h2
      rw [List.getElem?_append_left (by simpa using hi), List.getElem?_map] at h2
      cases e : vs[i]? with
      | none => rw [e] at h2; cases h2
      | some a => rw [e] at h2; cases h2; rfl
    obtain ⟨u, hu, rv⟩ := r.get ha
    have hp : ps[i]? = some y := by
      rw [← S.pre, List.getElem?_take_of_lt (by omega)]; exact h1
    have ndP : ps.Nodup := by rw [← S.pre]; exact S.nd.sublist (List.take_sublist _ _)
    refine ⟨u, rv, ?_⟩
    rcases S.par y (List.mem_of_getElem? hp) with k | k
    · exact .inl ⟨k, bindL_get ndP hp hu k⟩
    · obtain ⟨c, e⟩ := cell_has (n := s.heap.objs.size + 1) k
      refine .inr ⟨.inl k, c, e, ?_⟩
      have q := x.cell y c e
      rw [bindC_get ndP hp hu (by show scope.names.lookup y ≠ _; rw [k]; decide)] at q
      exact q
  · exact e0.hok.fresh (Nat.le_of_lt (x.above y c (PySem.mem_of_lookup h)))
  · unfold start
    show _ = N.length
    rw [List.length_append, List.length_map, List.length_replicate]
    omega
theorem fn_of {CX : CXT} {P : Program} {w : World} {K : PySem.W.Frag} {mg : Str -> Option Value} {base : Heap} {k : Nat} {f : Addr} {name qual : Str} {params : Arguments} {body : List Stmt} {scope : Scope} {dV kV doc pm cdv ct oc : Value} {an od : Option Addr}
    {osl : Array (Option Value)} {N ps : List Str} {sp : Sp} (lk : K.lookup f = some ⟨oc, od, .func (PySem.W.fnOf name qual params body scope dV kV doc pm an cdv ct), osl⟩) (hcd : PySem.W.codeIn K cdv qual = true) (S : FnScope N ps scope)
    (len : ∀ vs H Q E, sp vs H Q E -> vs.length = ps.length)
    (hbody : ∀ (A : Around) (outer : List Env) (s : Shared) (H : Hp) (vs : List V) (Q : VK) (E : XK), Room k (A.deeper (envOfC qual scope s.heap.objs.size f cdv)) -> sp vs H Q E ->
      ∃ t, PSs (cxOf CX P w K mg base N qual scope f cdv A outer s H E) body t /\ t { nx := fun _ H' => Q .non H', rt := Q } (start N vs) H) :
    FnOk P w K mg base CX (k + 1) f (PySem.W.fnOf name qual params body scope dV kV doc pm an cdv ct) ps sp := by
  refine ⟨len, fun A outer s H args us vs Q E hr e0 hb r hsp => ?_⟩
  have hl := len _ _ _ _ hsp
  have KX : K.In s.heap := e0.mod.kin.keeps fun b o e => (e0.bs b o e).1
  have lim : s.heap.NoLimit := e0.mod.nolimit.keeps fun b o e => (e0.bs b o e).1
  have hkind : ∀ y ∈ ps.zip us, scope.names.lookup y.1 = some .local ∨ (scope.names.lookup y.1 = some .cell /\ ((cellsFrom (s.heap.objs.size + 1) scope.names []).lookup y.1).isSome = true) := fun ⟨n, v⟩ hy => by
    rcases S.par n (List.of_mem_zip hy).1 with q | q
    · exact .inl q
    · exact .inr ⟨q, PySem.W.cellsFrom_some _ _ _ (.inl q)⟩
  refine codeAny_call_function hr.depth (KX _ _ lk) rfl S.co S.gen rfl (PySem.W.codeRec_of KX hcd) (hb _ _ _ _ ?_)
  refine wpAny_newFunctionEnv_cells S.kind hkind fun env he s1 x => ?_
  subst he
  refine ⟨lim.keeps x.toInCall.keep, codeAny_func ?_⟩
  obtain ⟨t, ht, hq⟩ := hbody A outer s H vs Q E (hr.deeper _) hsp
  have I : Inv (cxOf CX P w K mg base N qual scope f cdv A outer s H E) [] (start N vs) H s1 := inv_start S hr.hd e0 hl r x
  refine wpAny_mono (ht [] s1 (start N vs) H _ I hq) (fun fl s' hs => ?_) fun e s' hs => hs
  have fin : ∀ {σ' : St} {H' : Hp} {v : V} {u : Value}, Inv (cxOf CX P w K mg base N qual scope f cdv A outer s H E) [] σ' H' s' -> RelV v u -> Q v H' -> CE outer P w H s Q u s' :=
    fun {σ' H' v u} J rv q => ⟨v, H', J.os, J.bare, J.base, J.hok, rv, q⟩
  cases fl with
  | ret u =>
    obtain ⟨v, σ', H', J, rv, q⟩ := hs
    exact fin J rv q
  | next =>
    obtain ⟨σ', H', J, q⟩ := hs
    exact fin (v := V.non) (u := Value.none) J rfl q
  | brk =>
    obtain ⟨_, _, _, q⟩ := hs
    exact False.elim q
  | cont =>
    obtain ⟨_, _, _, q⟩ := hs
    exact False.elim q
end L2
namespace L2
open PySem PySem.Spec PyProof.Rows
section
variable {X : Cx} {x : Str} {p pos : Pos} {e : Expr} {es : List Expr} {t : TA} {id T : String} {r : List V -> Hp -> VK -> Prop}
def tCB (r : List V -> Hp -> VK -> Prop) (t : TA) : TE := fun σ H Q => t σ H fun vs H1 => r vs H1 Q
theorem pe_callB (hc : CallR X (.builtin id) r) (hg : Gl X x) (hm : X.mg x = none) (hv : bootBuiltins x = some (.builtin id)) (ha : PA X (e :: es) t) (hn : x ≠ "__name__" := by decide) (hdb : (x == ("__debug__" : Str)) = false := by decide)
    (he : starEach (e :: es) X.env = (false, eval e X.env) :: starEach es X.env := by rfl) (hpl : (backTo pos (starEach es X.env)).any (·.1) = false := by rfl) : PE X (.Call (.Name x p) (e :: es) [] pos) (tCB r t) := by
  intro pins s σ H Q I h
  refine wpAny_Call_Name_kw (ld_blt I hg hm hv ?_ hn hdb)
  exact PyProof.Rows.callWith_builtin1 (thn (ha pos pins s σ H _ I h) fun us s1 ⟨vs, H1, I1, r1, q1⟩ => hc pins s1 σ H1 vs us Q I1 r1 q1) he hpl
theorem pe_callTy (hc : CallR X (.type T) r) (hg : Gl X x) (hm : X.mg x = none) (hv : bootBuiltins x = some (.type T)) (ha : PA X (e :: es) t) (hn : x ≠ "__name__" := by decide) (hdb : (x == ("__debug__" : Str)) = false := by decide)
    (he : starEach (e :: es) X.env = (false, eval e X.env) :: starEach es X.env := by rfl) (hpl : (backTo pos (starEach es X.env)).any (·.1) = false := by rfl) : PE X (.Call (.Name x p) (e :: es) [] pos) (tCB r t) := by
  intro pins s σ H Q I h
  refine wpAny_Call_Name_kw (ld_blt I hg hm hv ?_ hn hdb)
  exact PyProof.Rows.callWith_type1 (thn (ha pos pins s σ H _ I h) fun us s1 ⟨vs, H1, I1, r1, q1⟩ => hc pins s1 σ H1 vs us Q I1 r1 q1) he hpl
end
end L2
namespace HT
open PySem PyProof.Rows
end HT
namespace L2
open PySem PySem.Spec PyProof.Rows
theorem intsAre_of {ns : List Int} : ∀ {us : List Value}, Vals (ns.map V.int) us -> IntsAre us ns := by
  induction ns with
  | nil => intro us r; rw [List.map_nil] at r; cases r; exact .nil
  | cons n ns ih =>
    intro us r
    rw [List.map_cons] at r
    cases r with
    | cons r1 r2 =>
      obtain ⟨t, e⟩ := r1
      subst e
      exact .cons n t (ih r2)
end L2
namespace L2
open PySem PySem.Spec PyProof.Rows
def ixN (n : Nat) (i : Int) : Option Nat := if 0 <= i then (if i < n then some i.toNat else none) else if -(n : Int) <= i then some (i + n).toNat else none
def atI {α : Type} (xs : List α) (i : Int) : Option α := (ixN xs.length i).bind fun j => xs[j]?
theorem ixN_seq {n : Nat} {i : Int} {j : Nat} (h : ixN n i = some j) : seqIndex? i n = some j /\ j < n /\ -(n : Int) <= i /\ i < n := by
  unfold ixN at h
  by_cases h0 : 0 <= i
  · rw [if_pos h0] at h
    by_cases h1 : i < n
    · rw [if_pos h1] at h
      have e : i.toNat = j := Option.some.inj h
      exact ⟨by rw [seqIndex_of h0 h1, e], by omega, by omega, h1⟩
    · rw [if_neg h1] at h; cases h
  · rw [if_neg h0] at h
    by_cases h1 : -(n : Int) <= i
    · rw [if_pos h1] at h
      have e : (i + n).toNat = j := Option.some.inj h
      exact ⟨by rw [seqIndex_neg (by omega) h1, e], by omega, h1, by omega⟩
    · rw [if_neg h1] at h; cases h
theorem atI_get {α : Type} {xs : List α} {i : Int} {v : α} (h : atI xs i = some v) : ∃ j, seqIndex? i xs.length = some j /\ xs[j]? = some v /\ j < xs.length /\ -(xs.length : Int) <= i /\ i < xs.length := by
  unfold atI at h
  cases e : ixN xs.length i with
  | none => rw [e] at h; cases h
  | some j =>
    rw [e] at h
    obtain ⟨h1, h2, h3, h4⟩ := ixN_seq e
    exact ⟨j, h1, h, h2, h3, h4⟩
theorem atI_nat {α : Type} {xs : List α} {j : Nat} {v : α} (h : xs[j]? = some v) : atI xs (j : Int) = some v := by
  have hj : j < xs.length := (List.getElem?_eq_some_iff.mp h).1
  have e : ixN xs.length (j : Int) = some j := by
    unfold ixN
    rw [if_pos (by omega), if_pos (by omega)]; simp
  unfold atI; rw [e]; exact h
theorem atI_last {α : Type} (xs : List α) (v : α) : atI (xs ++ [v]) (-1) = some v := by
  have hl : (xs ++ [v]).length = xs.length + 1 := by simp
  have e : ixN (xs ++ [v]).length (-1) = some xs.length := by
    unfold ixN
    rw [hl, if_neg (by decide), if_pos (by omega)]
    congr 1
    omega
  unfold atI
  rw [e]
  show (xs ++ [v])[xs.length]? = some v
  simp
def PlainIx (b : Expr) : Prop := ∀ o i, subscripted b false o i = operate [o, i] (getItem o i)
def IxR (X : Cx) (r : R2) : Prop :=
  ∀ (value slice : Expr) (pins : List (Addr × Obj)) (s : Shared) (σ : St) (H : Hp) (x y : V) (v u : Value) (Q : VK), Inv X pins σ H s -> RelV x v -> RelV y u -> r x y H Q ->
    subscripted slice false v u = operate [v, u] (getItem v u) -> wpAny (model X.prog X.w) X.A (subscriptTail value slice v u) (EP X pins σ Q) X.xe s
def MtR (X : Cx) (id : String) (r : V -> List V -> Hp -> VK -> Prop) : Prop :=
  ∀ (pins : List (Addr × Obj)) (s : Shared) (σ : St) (H : Hp) (x : V) (xs : List V) (v : Value) (us : List Value) (Q : VK), Inv X pins σ H s -> RelV x v -> Vals xs us -> r x xs H Q ->
    wpAny (model X.prog X.w) X.A (call (.builtin id) (v :: us)) (EP X pins σ Q) X.xe s
section
variable {X : Cx} {a b : Expr} {ta tb : TE} {pos : Pos}
theorem pe_ix {r : R2} (hr : IxR X r) (ha : PE X a ta) (hb : PE X b tb) (hs : PlainIx b) : PE X (.Subscript a b pos) (tOp r ta tb) := by
  intro pins s σ H Q I h
  exact Subscript_ (binT ha hb I h fun v u s2 x y H2 I2 rx ry q => hr a b pins s2 σ H2 x y v u Q I2 rx ry q (hs _ _))
def rIxL (K : PySem.W.Frag) : R2 := fun x y H Q => ∃ p xs i v, x = .ref p /\ y = .int i /\ SqL K H p xs /\ atI xs i = some v /\ Q v H
def rIxT (K : PySem.W.Frag) : R2 := fun x y H Q => ∃ p xs i v, x = .ref p /\ y = .int i /\ SqT K H p xs /\ atI xs i = some v /\ Q v H
theorem ix_list : IxR X (rIxL X.K) := by
  intro value slice pins s σ H x y v u Q I rx ry h hs
  obtain ⟨p, xs, i, z, rfl, rfl, hq, he, q⟩ := h
  cases rx
  obtain ⟨t, rfl⟩ := ry
  obtain ⟨its, r, pl, hz⟩ := I.list hq
  obtain ⟨j, h1, h2, h3, h4, h5⟩ := atI_get he
  obtain ⟨w, ew, rw'⟩ := r.get h2
  have hl := r.length
  have hn := line63
  have fin : EP X pins σ Q w s := ⟨z, H, I, rw', q⟩
  by_cases h0 : 0 <= i
  · have hj : i.toNat = j := by
      rw [seqIndex_of h0 h5] at h1
      exact Option.some.inj h1
    exact item_listR pl.isList h0 (by omega) (by rw [hj]; simpa using ew) fin hs
  · have hj : (i + (its.toArray.size : Int)).toNat = j := by
      rw [seqIndex_neg (by omega) h4] at h1
      rw [List.size_toArray, ← hl]
      exact Option.some.inj h1
    exact subscriptTail_builtinR (x := w) pl.isList.typeIs slot_list_getitem.lookup
      (wpAny_getItem_list_neg (Q := fun r s' => r = w /\ EP X pins σ Q r s') pl.isList (by omega) (by rw [List.size_toArray] <;> omega) (by omega) (by rw [hj]; simpa using ew) ⟨rfl, fin⟩) hs
theorem ix_tup : IxR X (rIxT X.K) := by
  intro value slice pins s σ H x y v u Q I rx ry h hs
  obtain ⟨p, xs, i, z, rfl, rfl, hq, he, q⟩ := h
  cases rx
  obtain ⟨t, rfl⟩ := ry
  obtain ⟨its, r, pl, hz⟩ := I.tuple hq
  obtain ⟨j, h1, h2, h3, h4, h5⟩ := atI_get he
  obtain ⟨w, ew, rw'⟩ := r.get h2
  have hl := r.length
  have hn := line63
  have fin : EP X pins σ Q w s := ⟨z, H, I, rw', q⟩
  exact subscriptTail_builtinR (x := w) pl.typeIs slot_tuple_getitem.lookup
    (getItem_tuple (j := j) (Q := fun r s' => r = w /\ EP X pins σ Q r s') pl (by omega) (by omega) (by rw [List.size_toArray, ← hl]; exact h1) (by simpa using ew) ⟨rfl, fin⟩) hs
theorem mapSeq_set (its : List Value) (n j : Nat) (u : Value) : Obj.mapSeq (·.setIfInBounds j u) { cls := .type "list", data := .seq its.toArray n } = { cls := .type "list", data := .seq (its.set j u).toArray n } := by
  simp [Obj.mapSeq]
theorem Inv.lst {pins : List (Addr × Obj)} {σ : St} {H : Hp} {s : Shared} {p : Addr} {xs : List V} (I : Inv X pins σ H s) (h : H p = some (.lst xs)) :
    ∃ (its : List Value) (n : Nat), Vals xs its /\ s.heap.get? p = some { cls := .type "list", data := .seq its.toArray n } /\ xs.length <= sizeLine := by
  obtain ⟨z, its, n, r, e⟩ := I.hok p _ h
  exact ⟨its, n, r, e, z⟩
theorem Inv.lstUpd {pins : List (Addr × Obj)} {σ : St} {H : Hp} {s : Shared} {p : Addr} {xs ys : List V} {its its' : List Value} {n n' : Nat} {f : Obj -> Obj} (I : Inv X pins σ H s) (h : H p = some (.lst xs))
    (ho : s.heap.get? p = some { cls := .type "list", data := .seq its.toArray n }) (hf : f { cls := .type "list", data := .seq its.toArray n } = { cls := .type "list", data := .seq its'.toArray n' }) (r : Vals ys its') (hz : ys.length <= sizeLine) (t : Nat) :
    Inv X pins σ (upd H p (.lst ys)) { s with heap := s.heap.update p f, toks := t } := by
  have e : (s.heap.update p f).get? p = some { cls := .type "list", data := .seq its'.toArray n' } := by
    rw [Heap.get?_update_self f ho (by rw [hf] <;> rfl), hf]
  refine I.write (x := p) (e := p) (by rw [h]; trivial) (.inl rfl) (fun b u hb q => (Heap.get?_update_other _ _ (Ne.symm hb)).trans q) ⟨_, e⟩ ?_
  exact ⟨hz, its', n', r, e⟩
def rSetL : V -> V -> V -> Hp -> (Hp -> Prop) -> Prop := fun o i v H Q => ∃ p xs k j, o = .ref p /\ i = .int k /\ H p = some (.lst xs) /\ ixN xs.length k = some j /\ Q (upd H p (.lst (xs.set j v)))
theorem set_list : PSet X rSetL := by
  intro pins s σ H o i v ov iv u Q I ro ri rv h
  obtain ⟨p, xs, k, j, rfl, rfl, hp, hj, q⟩ := h
  cases ro
  obtain ⟨t, rfl⟩ := ri
  obtain ⟨its, n, r, ho, hz⟩ := I.lst hp
  obtain ⟨h1, h2, h3, h4⟩ := ixN_seq hj
  have hl := r.length
  have hn := line63
  have I' : Inv X pins σ (upd H p (.lst (xs.set j v))) { s with heap := s.heap.update p (Obj.mapSeq (·.setIfInBounds j u)) } :=
    I.lstUpd hp ho (mapSeq_set its n j u) (r.set rv j) (by rw [List.length_set]; exact hz) s.toks
  by_cases h0 : 0 <= k
  · have hk : k.toNat = j := by
      rw [seqIndex_of h0 h4] at h1
      exact Option.some.inj h1
    exact PySem.W.ki_setAt ho h0 (by omega) (by rw [List.size_toArray, ← hl]; exact h4) (by rw [hk]; exact ⟨_, I', q⟩)
  · have hk : (k + (its.toArray.size : Int)).toNat = j := by
      rw [seqIndex_neg (by omega) h3] at h1
      rw [List.size_toArray, ← hl]
      exact Option.some.inj h1
    exact PySem.W.ki_setBack ho (by omega) (by rw [List.size_toArray, ← hl]; exact h3) (by omega) (by rw [hk]; exact ⟨_, I', q⟩)
theorem call_len_seq : CallR X (.builtin "len") (fun xs H Q => ∃ p ys, xs = [.ref p] /\ (SqL X.K H p ys ∨ SqT X.K H p ys) /\ Q (.int ys.length) H) := by
  intro pins s σ H xs us Q I r h
  obtain ⟨p, ys, rfl, hq, q⟩ := h
  obtain ⟨u, rfl, rx⟩ := vals1 r
  cases rx
  have hn := line63
  rcases hq with hq | hq
  · obtain ⟨its, r', pl, hz⟩ := I.list hq
    have hlen := r'.length
    exact Calls.call_len_list pl.isList (by simp only [List.size_toArray] <;> omega) ⟨.int ys.length, H, I.tok _, ⟨s.toks + 1, by rw [List.size_toArray, hlen]⟩, q⟩
  · obtain ⟨its, r', pl, hz⟩ := I.tuple hq
    have hlen := r'.length
    exact len_tuple pl (by simp only [List.size_toArray] <;> omega) ⟨.int ys.length, H, I.tok _, ⟨s.toks + 1, by rw [List.size_toArray, hlen]⟩, q⟩
theorem call_tuple_of : CallR X (.type "tuple") (fun xs H Q => ∃ p ys, xs = [.ref p] /\ ((SqL X.K H p ys /\ ∀ l, H l = none -> Q (.ref l) (upd H l (.tup ys))) ∨ (SqT X.K H p ys /\ Q (.ref p) H))) := by
  intro pins s σ H xs us Q I r h
  obtain ⟨p, ys, rfl, h⟩ := h
  obtain ⟨u, rfl, rx⟩ := vals1 r
  cases rx
  rcases h with ⟨hq, q⟩ | ⟨hq, q⟩
  · obtain ⟨its, r', pl, hz⟩ := I.list hq
    have hlen := r'.length
    refine call_tuple_list pl.isList (fun h' kp => ?_) (by simp only [List.size_toArray] <;> omega)
    have I1 : Inv X pins σ H { s with heap := h' } := I.kept (t' := s.toks) kp
    have I2 : Inv X pins σ (upd H h'.objs.size (.tup ys)) { s with heap := h'.push { cls := .type "tuple", data := .seq its.toArray } } :=
      I1.laid (t' := s.toks) (fun b o e => Heap.get?_push_of_some _ e) (Nat.le_refl _) (show ObjOk X.prog X.w _ _ _ (.tup ys) from ⟨hz, its, r', IsTupD.new _ _⟩)
    exact ⟨.ref h'.objs.size, _, I2, rfl, q _ (I1.hok.fresh (Nat.le_refl _))⟩
  · obtain ⟨its, r', pl, hz⟩ := I.tuple hq
    exact call_tuple_same pl ⟨.ref p, H, I, rfl, q⟩
def tyV (K : PySem.W.Frag) (T : String) (x : V) (H : Hp) : Prop := match x with
  | .str _ => T = "str"
  | .int _ => T = "int"
  | .ref p => (T = "list" /\ ∃ xs, SqL K H p xs) ∨ (T = "tuple" /\ ∃ o, K.lookup p = some o /\ o.cls = .type "tuple" /\ o.dict = none) ∨
      (T = "dict" /\ ((∃ kvs, H p = some (.dK kvs)) ∨ ∃ kvs, H p = some (.dT kvs))) ∨ (T = "set" /\ ∃ S n, H p = some (.set S n))
  | _ => False
theorem tyV_is {pins : List (Addr × Obj)} {σ : St} {H : Hp} {s : Shared} {T : String} {x : V} {v : Value} (I : Inv X pins σ H s) (r : RelV x v) (ty : tyV X.K T x H) :
    s.TypeIs v T /\ ∀ a, v = .ref a -> ∃ ob, s.heap.get? a = some ob /\ ob.dict = none := by
  cases x with
  | str z =>
    obtain ⟨t, rfl⟩ := r
    cases (show T = "str" from ty)
    exact ⟨typeIs_str s z t, fun _ e => nomatch e⟩
  | int i =>
    obtain ⟨t, rfl⟩ := r
    cases (show T = "int" from ty)
    exact ⟨typeIs_int s i t, fun _ e => nomatch e⟩
  | ref p =>
    cases r
    rcases ty with ⟨rfl, xs, hq⟩ | ⟨rfl, o, hk, hc, hd⟩ | ⟨rfl, hk⟩ | ⟨rfl, S, n, hk⟩
    · obtain ⟨its, _, pl, _⟩ := I.list hq
      refine ⟨pl.isList.typeIs, fun a e => ?_⟩
      cases e
      obtain ⟨o, n, e, c, hd, _⟩ := pl
      exact ⟨o, e, hd⟩
    · refine ⟨⟨o, I.kIn p o hk, hc⟩, fun a e => ?_⟩
      cases e
      exact ⟨o, I.kIn _ o hk, hd⟩
    · have z : ∃ o, s.heap.get? p = some o /\ o.ExactDict := by
        rcases hk with ⟨kvs, hk⟩ | ⟨kvs, hk⟩
        · obtain ⟨_, _, _, _, o, _, _, e, ex, _⟩ := I.hok p _ hk
          exact ⟨o, e, ex⟩
        · obtain ⟨_, _, _, _, o, _, _, e, ex, _⟩ := I.hok p _ hk
          exact ⟨o, e, ex⟩
      obtain ⟨o, e, ex⟩ := z
      refine ⟨⟨o, e, ex.1⟩, fun a e2 => ?_⟩
      cases e2
      exact ⟨o, e, ex.2.1⟩
    · obtain ⟨o, _, _, _, e, ex, _⟩ := I.hok p _ hk
      refine ⟨⟨o, e, ex.1⟩, fun a e2 => ?_⟩
      cases e2
      exact ⟨o, e, ex.2.1⟩
  | _ => exact False.elim ty
def tBM (K : PySem.W.Frag) (T : String) (r : V -> List V -> Hp -> VK -> Prop) (to : TE) (t : TA) : TE := fun σ H Q => to σ H fun x H1 => tyV K T x H1 /\ t σ H1 fun xs H2 => r x xs H2 Q
variable {o e : Expr} {es : List Expr} {to : TE} {t : TA} {name : Str} {apos cpos : Pos} {T id : String} {r : V -> List V -> Hp -> VK -> Prop}
theorem pe_bm (pa : PlainAttrs T) (slot : Slot T name id) (hty : typeOf (.builtin id) = pure (.type "method_descriptor")) (hm : MtR X id r) (ho : PE X o to) (ha : PA X (e :: es) t)
    (hbase : attributeBase o name X.env (eval o X.env) = eval o X.env := by rfl)
    (hfew : ((backTo cpos (starEach (e :: es) X.env)).all (fun x => !x.1) && (backToKw cpos (keywordEach [] X.env)).all (fun x => x.1.isSome)
      && decide ((e :: es).length + ([] : List Keyword).length + (if ([] : List Keyword).isEmpty then 0 else 1) < 30)) = true := by rfl)
    (hline : (apos.endLine == cpos.line) = true := by rfl) (hs : starEach (e :: es) X.env = (false, eval e X.env) :: starEach es X.env := by rfl) (hplain : (backTo cpos (starEach es X.env)).any (·.1) = false := by rfl) :
    PE X (.Call (.Attribute o name apos) (e :: es) [] cpos) (tBM X.K T r to t) := by
  intro pins s σ H Q I h
  refine wpAny_Call_method_late hbase hfew hline rfl (thn (ho pins s σ H _ I h) fun v s1 ⟨x, H1, I1, r1, ty, q1⟩ => ?_)
  obtain ⟨h1, h2⟩ := tyV_is I1 r1 ty
  refine ⟨T, id, pa, slot, hty, h1, h2, ?_⟩
  have hA := ha cpos pins s1 σ H1 _ I1 q1
  rw [hs] at hA ⊢
  refine Calls.callWith_builtin (by show (false || (backTo cpos (starEach es X.env)).any (·.1)) = false; rw [hplain] <;> rfl) (Calls.evalArgs_plain ?_)
  exact thn hA fun us s2 ⟨vs, H2, I2, r2, q2⟩ => hm pins s2 σ H2 x vs v us Q I2 r1 r2 q2
/- xs.append(e), list.index on a module's tuple .. are MtR facts of 06m -/
end
end L2
namespace L2
open PySem PySem.Spec PyProof.Rows
def MtM (X : Cx) (id : String) (r : V -> List V -> Hp -> VK -> Prop) : Prop :=
  ∀ (pins : List (Addr × Obj)) (s : Shared) (σ : St) (H : Hp) (x : V) (xs : List V) (v : Value) (us : List Value) (Q : VK), Inv X pins σ H s -> RelV x v -> Vals xs us -> r x xs H Q ->
    wpAny (model X.prog X.w) X.A (call (.builtin id) (v :: us)) (EP X pins σ Q) X.xe s
theorem Vals.one : ∀ {x : V} {us : List Value}, Vals [x] us -> ∃ u, us = [u] /\ RelV x u
  | _, _, .cons r .nil => ⟨_, rfl, r⟩
theorem Vals.eraseIdx : ∀ {xs : List V} {us : List Value} (i : Nat), Vals xs us -> Vals (xs.eraseIdx i) (us.eraseIdx i)
  | _, _, _, .nil => .nil
  | _, _, 0, .cons _ t => t
  | _, _, i + 1, .cons r t => .cons r (Vals.eraseIdx i t)
theorem Vals.rep {xs : List V} {us : List Value} (h : Vals xs us) : ∀ k : Nat, Vals (List.replicate k xs).flatten (List.replicate k us).flatten
  | 0 => .nil
  | k + 1 => by
    rw [List.replicate_succ, List.replicate_succ, List.flatten_cons, List.flatten_cons]
    exact Vals.append h (Vals.rep h k)
theorem len_erase {α : Type} : ∀ (l : List α) (i : Nat), (l.eraseIdx i).length <= l.length
  | [], _ => Nat.le_refl _
  | _ :: _, 0 => Nat.le_succ _
  | _ :: r, i + 1 => Nat.succ_le_succ (len_erase r i)
theorem foldl_rep (its : List Value) : ∀ (k : Nat) (acc : List Value),
    List.foldl (fun x1 x2 => x1 ++ x2) acc.toArray (List.replicate k its.toArray) = (acc ++ (List.replicate k its).flatten).toArray
  | 0, acc => by simp
  | k + 1, acc => by
    have e : acc.toArray ++ its.toArray = (acc ++ its).toArray := by simp
    have e2 : (acc ++ its) ++ (List.replicate k its).flatten = acc ++ (List.replicate (k + 1) its).flatten := by
      rw [List.replicate_succ, List.flatten_cons, List.append_assoc]
    rw [← e2, ← foldl_rep its k (acc ++ its), ← e, List.replicate_succ, List.foldl_cons]
section
variable {X : Cx} {pins : List (Addr × Obj)} {σ : St} {H : Hp} {s : Shared} {l b : Addr} {xs ys zs : List V}
theorem Inv.lset {its its' : List Value} {n : Nat} {f : Array Value -> Array Value} {t' : Nat} (I : Inv X pins σ H s) (hH : H l = some (.lst xs))
    (e : s.heap.get? l = some { cls := .type "list", data := .seq its.toArray n }) (hf : f its.toArray = its'.toArray) (hv : Vals ys its') (hz : ys.length <= sizeLine) :
    Inv X pins σ (upd H l (.lst ys)) { s with heap := s.heap.update l (Obj.mapSeq f), toks := t' } := by
  have q := PySem.IsL.update e f
  rw [hf] at q
  refine I.write (x := l) (e := l) (by rw [hH]; exact trivial) (.inl rfl) (fun b' u hb hu => (Heap.get?_update_other s.heap (Obj.mapSeq f) (Ne.symm hb)).trans hu) ⟨_, q⟩ ?_
  exact ⟨hz, its', _, hv, q⟩
theorem Inv.lnew {its : List Value} {t' : Nat} (I : Inv X pins σ H s) (hv : Vals ys its) (hz : ys.length <= sizeLine) :
    Inv X pins σ (upd H s.heap.objs.size (.lst ys)) { s with heap := s.heap.push { cls := .type "list", data := .seq its.toArray }, toks := t' } :=
  I.laid (fun _ _ q => Heap.get?_push_of_some _ q) (Nat.le_refl _) ⟨hz, its, 0, hv, Heap.get?_push_size _ rfl⟩
theorem Inv.fresh (I : Inv X pins σ H s) : H s.heap.objs.size = none := I.hok.fresh (Nat.le_refl _)
theorem Inv.lstM (I : Inv X pins σ H s) (hH : H l = some (.lst xs)) : xs.length <= sizeLine /\ ∃ (its : List Value) (n : Nat), Vals xs its /\ xs.length = its.length /\ s.heap.get? l = some { cls := .type "list", data := .seq its.toArray n } := by
  obtain ⟨z, its, n, r, e⟩ := I.hok l _ hH
  exact ⟨z, its, n, r, r.length, e⟩
theorem notLongL {n : Nat} (h : n <= sizeLine) : Builtin.List.listTooLong n = false := by
  unfold Builtin.List.listTooLong
  exact decide_eq_false (by omega)
end
section
variable {X : Cx}
def rAppend : V -> List V -> Hp -> VK -> Prop := fun x vs H Q => ∃ l xs y, x = .ref l /\ vs = [y] /\ H l = some (.lst xs) /\ xs.length < sizeLine /\ Q .non (upd H l (.lst (xs ++ [y])))
theorem mt_append : MtM X "list.append" rAppend := by
  intro pins s σ H x vs v us Q I rx rv h
  obtain ⟨l, xs, y, rfl, rfl, hH, hz, q⟩ := h
  cases rx
  obtain ⟨u, rfl, ru⟩ := rv.one
  obtain ⟨z, its, n, r, hl, e⟩ := I.lstM hH
  refine call_meets F.slot_list_append ⟨_, e, rfl⟩ F.entry_list_append (F.args_list_append_2 _ _) (PySem.list_append l its.toArray n u (by rw [List.size_toArray]; omega)) ⟨e, ?_⟩
  refine ⟨.non, _, I.lset (its' := its ++ [u]) hH e (by simp) (r.append (.cons ru .nil)) ?_, rfl, q⟩
  rw [List.length_append, List.length_singleton]
  omega
def rPopAt : V -> List V -> Hp -> VK -> Prop := fun x vs H Q => ∃ l xs i k y, x = .ref l /\ vs = [.int i] /\ H l = some (.lst xs) /\ -(2 ^ 63) <= i /\ i < 2 ^ 63 /\ seqIndex? i xs.length = some k /\ xs[k]? = some y /\ Q y (upd H l (.lst (xs.eraseIdx k)))
theorem mt_popAt : MtM X "list.pop" rPopAt := by
  intro pins s σ H x vs v us Q I rx rv h
  obtain ⟨l, xs, i, k, y, rfl, rfl, hH, h1, h2, hk, hy, q⟩ := h
  cases rx
  obtain ⟨u, rfl, ru⟩ := rv.one
  obtain ⟨t, rfl⟩ := ru
  obtain ⟨z, its, n, r, hl, e⟩ := I.lstM hH
  obtain ⟨w, hw, rw'⟩ := r.get hy
  refine call_meets F.slot_list_pop ⟨_, e, rfl⟩ F.entry_list_pop (F.args_list_pop_2 _ _)
    (MeetsSeq.list_pop_at l its.toArray n i t k w (fitsIndex_both h1 h2) (by rw [List.size_toArray, ← hl]; exact hk) (by rw [← Array.getElem?_toList]; exact hw) (by rw [List.size_toArray]; omega)) ⟨e, ?_⟩
  refine ⟨y, _, I.lset (its' := its.eraseIdx k) hH e ?_ (r.eraseIdx k) ?_, rw', q⟩
  · show its.toArray.eraseIdxIfInBounds k = (its.eraseIdx k).toArray
    rw [List.eraseIdxIfInBounds_toArray]
  · have := len_erase xs k
    omega
def rRep : R2 := fun x y H Q => ∃ l k xs, x = .ref l /\ y = .int k /\ H l = some (.lst xs) /\ -(2 ^ 63) <= k /\ k < 2 ^ 63 /\ xs.length * k.toNat <= sizeLine /\
  ∀ p, H p = none -> Q (.ref p) (upd H p (.lst (List.replicate k.toNat xs).flatten))
theorem len_rep {α : Type} (xs : List α) (k : Nat) : (List.replicate k xs).flatten.length = k * xs.length := by
  induction k with
  | zero => simp
  | succ k ih => rw [List.replicate_succ, List.flatten_cons, List.length_append, ih, Nat.succ_mul, Nat.add_comm]
theorem op_rep : OpR X (binaryOp .Mult) rRep := by
  intro pins s σ H x y v u Q I rx ry h
  obtain ⟨l, k, xs, rfl, rfl, hH, h1, h2, hz, q⟩ := h
  cases rx
  obtain ⟨t, rfl⟩ := ry
  obtain ⟨z, its, n, r, hl, e⟩ := I.lstM hH
  have hlen : its.toArray.size * k.toNat <= sizeLine := by rw [List.size_toArray, ← hl]; exact hz
  have hcap : ¬ its.toArray.size * k.toNat > (2 ^ 63 - 1) / 8 := by
    have : (sizeLine : Nat) <= (2 ^ 63 - 1) / 8 := by decide
    omega
  have hfit : ¬ (!Builtin.List.listFitsIndex k) = true := by
    rw [fitsIndex_both h1 h2]
    exact Bool.false_ne_true
  have hlong : ¬ Builtin.List.listTooLong (its.toArray.size * k.toNat) = true := by
    rw [notLongL hlen]
    exact Bool.false_ne_true
  have hnew : List.foldl (fun x1 x2 => x1 ++ x2) #[] (List.replicate (if its.toArray.isEmpty = true then 0 else k.toNat) its.toArray) = (List.replicate k.toNat its).flatten.toArray := by
    have f0 : ∀ m : Nat, List.foldl (fun x1 x2 => x1 ++ x2) #[] (List.replicate m its.toArray) = (List.replicate m its).flatten.toArray := fun m => by
      have := foldl_rep its m []
      rw [List.nil_append] at this
      exact this
    rw [f0]
    cases its with
    | nil => simp
    | cons a r' => rw [if_neg (by simp)]
  refine wpAny_binaryOp_repeat_ref (T := "list") (U := "int") (by decide) ⟨_, e, rfl⟩ (fun s' => typeIs_int s' k t) noFill_list_mul F.fills_int_mul F.slot_int_rmul repeat_list F.slot_int_index.lookup
    (call_meets F.slot_int_rmul (typeIs_int s k t) F.entry_int_rmul (F.args_int_rmul_2 _ _) (int___rmul___int_list k t l its.toArray n)
      ⟨e, rfl, ⟨_, e, rfl⟩, call_meets F.slot_list_mul ⟨_, e, rfl⟩ F.entry_list_mul (F.args_list_mul_2 _ _) (AutoListH.list___mul___list_int_3 l its.toArray n k t hfit hcap hlong) ⟨e, ?_⟩⟩)
  rw [hnew]
  exact ⟨.ref _, _, I.lnew (t' := s.toks) (r.rep k.toNat) (by rw [len_rep, Nat.mul_comm]; exact hz), rfl, q _ I.fresh⟩
end
end L2
namespace Att
open PySem PySem.W PySem.Calls PyProof.Rows
theorem ints_of_wellAll {P : Params} {h : Heap} : ∀ (ns : List Int) (vs : List Value), WellAll P h vs (ns.map WData.int) -> IntsAre vs ns := by
  intro ns
  induction ns with
  | nil =>
    intro vs w
    rw [List.map_nil] at w
    cases w
    exact .nil
  | cons n ns ih =>
    intro vs w
    rw [List.map_cons] at w
    cases w with
    | cons a b =>
      cases a
      exact .cons _ _ (ih _ b)
theorem script_of {l : OpenLaw} {n : Nat} (hn : l.most = some n) {P : Params} {h : Heap} {args : List WData} {vals : List Value}
    (hpre : l.row.toRowW.claim.pre args = true) (hwl : WellAll P h vals args) :
    ∃ a vs ns, vals = [Value.ref a] /\ args = [WData.list (ns.map WData.int)] /\ h.get? a = some { cls := .type "list", data := .seq vs.toArray } /\ IntsAre vs ns /\ ns.length <= n := by
  have hsh : WShape.hasAll [] args [.list .int] = true := (pre_splitW hpre).1
  have hc : l.pre.holds [] { args := args } = true := (pre_splitW hpre).2
  obtain ⟨d, r, rfl, h1, h2⟩ := hasAllW_cons hsh
  obtain rfl := hasAllW_nil h2
  obtain ⟨xs, rfl, h3⟩ := hasW_list h1
  obtain ⟨ns, rfl⟩ := items_int h3
  have hlen : ns.length <= n := by
    unfold OpenLaw.pre at hc
    have h4 : (WTm.not (.lt (.lit (.int (n : Int))) (.len (.arg 0)))).holds [] { args := [.list (ns.map .int)] } = true := by
      have h4 := (holds_andW hc).1
      rw [hn] at h4
      exact h4
    have h5 := condW_of h4 (w_not (w_lt w_lit (w_len_list (w_arg rfl))))
    rw [List.length_map] at h5
    refine Nat.le_of_not_lt fun q => ?_
    have q' : (n : Int) < ((ns.length : Nat) : Int) := by omega
    first
      | (rw [decide_eq_true q'] at h5; exact absurd h5 (by decide))
      | (simp at h5; omega)
  cases hwl with
  | cons w1 w2 =>
    cases w2
    cases w1 with
    | list ho hall => exact ⟨_, _, ns, rfl, rfl, ho, ints_of_wellAll ns _ hall, hlen⟩
theorem post_true (l : OpenLaw) (args : List WData) : l.row.toRowW.claim.post args (.bool true) args = true :=
  postW_of (r := l.row.toRowW) (X := (true == true))
    (show WShape.has [] (.bool true) .bool = true by first | rfl | decide | simp [WShape.has, WShape.arms, WShape.armsAll])
    (show (WTm.eq .res (.lit (.bool true))).value [] { args := args, res := some (.bool true), after := args } = some (.bool (true == true)) from w_eq_bool (w_res rfl) w_lit) rfl
theorem attach_call {l : OpenLaw} {n : Nat} {q : Program} {loose : List Str} {XP : (Str -> Option Value) -> Heap -> Prop} {YP : World -> Heap -> Prop} {d : DefRec}
    (hn : l.most = some n) (hdf : d.params.defaults = [])
    (call : ∀ (w : World) (s₀ s₁ : Shared) (mg mb : Str -> Option Value) (fa : Addr) (o : Obj) (pm cd doc : Value) (a : Addr) (vs : List Value) (ns : List Int),
      Ground q loose [] XP w s₀ mg mb s₁.heap -> YP w s₁.heap ->
      s₁.heap.get? fa = some o -> o.data = .func (docDef d.name d.params d.body d.scope pm cd doc) -> s₁.heap.CodeRec cd d.name -> mg d.name = some (.ref fa) ->
      s₁.heap.get? a = some { cls := .type "list", data := .seq vs.toArray } -> IntsAre vs ns -> ns.length <= n -> s₁.gens = #[] ->
      codeAny (model l.prog w) callerA (.call (.ref fa) ⟨[.ref a], []⟩) (fun r s' => r = .ok (.ret (.bool true)) /\ OldK s₁.heap s'.heap /\ s'.os = s₁.os /\ AllBare s'.gens) s₁) :
    WalkO q loose XP YP l.row.toRowW d [] (fun f vs => PySem.call f vs) := by
  intro w s₀ s₁ mg mb G Y fa o pm cd doc dV kV ho hd hcd hD hmg hg args vals as hpre hlay hrd hwl hlo
  obtain rfl : dV = .none := Dflts.none hD hdf
  obtain rfl : kV = .none := Dflts.noKw hD
  obtain ⟨a, vs, ns, rfl, rfl, hobj, hints, hlen⟩ := script_of hn hpre hwl
  refine enter_call (codeAny_mono (call w s₀ s₁ mg mb fa o pm cd doc a vs ns G Y ho (fd_plain hd) hcd hmg hobj hints hlen hg) fun r s' hq => ?_)
  obtain ⟨rfl, h2, h3, h4⟩ := hq
  exact ⟨.inl ⟨.bool true, .bool true, [], rfl, fun _ => rfl, .bool true, post_true l _, fun _ => ⟨List.Pairwise.nil, fun _ hm => (nomatch hm)⟩⟩, h2, h3, h4⟩
end Att
namespace L2
open PySem PySem.Spec PyProof.Rows
theorem vals_ints : ∀ {vs : List Value} {ns : List Int}, IntsAre vs ns -> Vals (ns.map V.int) vs
  | _, _, .nil => .nil
  | _, _, .cons n t h => .cons ⟨t, rfl⟩ (vals_ints h)
def Only (H : Hp) : Prop := ∀ b, H b = none ∨ ∃ o xs, H b = some (.frz o (.lst xs))
theorem law_call {P : Program} {w : World} {K : PySem.W.Frag} {mg mb : Str -> Option Value} {CX : CXT} {k : Nat} {fa a : Addr} {fd : FuncData} {x : Str} {sp : Sp} {s₁ : Shared} {vs : List Value} {ns : List Int}
    (KX : K.In s₁.heap) (hns : s₁.heap.Ns mainGlobals mg) (hb : s₁.heap.Ns builtinsNs mb) (hbb : ∀ x : Str, x ≠ "__name__" -> mb x = bootBuiltins x) (hlim : s₁.heap.NoLimit) (hg : s₁.gens = #[])
    (ha : s₁.heap.get? a = some { cls := .type "list", data := .seq vs.toArray }) (hi : IntsAre vs ns) (hl : ns.length <= sizeLine) (hr : Room k callerA)
    (F : ∀ base : Heap, K.In base -> base.Ns mainGlobals mg -> FnOk P w K mg base CX k fa fd [x] sp) (hbind : ∀ (s : Shared) (u : Value), BindsTo s fd ⟨[u], []⟩ [(x, u)])
    (hsp : ∀ H : Hp, Only H -> SqL K H a (ns.map V.int) -> sp [.ref a] H (fun v _ => v = .bl true) fun _ _ _ => False)
    (hCX : ∀ H e s', CX [] H s₁ (fun _ _ _ => False) e s' -> False) :
    codeAny (model P w) callerA (.call (.ref fa) ⟨[.ref a], []⟩) (fun r s' => r = .ok (.ret (.bool true)) /\ OldK s₁.heap s'.heap /\ s'.os = s₁.os /\ AllBare s'.gens) s₁ := by
  have rv := vals_ints hi
  have lenV := hi.length
  have core : ∀ H : Hp, Only H -> SqL K H a (ns.map V.int) -> HOk P w H s₁.heap -> (∀ b, H b ≠ none -> b = a) -> (H a ≠ none -> K.lookup a = none) ->
      codeAny (model P w) callerA (.call (.ref fa) ⟨[.ref a], []⟩) (fun r s' => r = .ok (.ret (.bool true)) /\ OldK s₁.heap s'.heap /\ s'.os = s₁.os /\ AllBare s'.gens) s₁ := by
    intro H hO hS hok hA hK
    have base_of : ∀ {b : Addr} {o : Obj}, s₁.heap.get? b = some o -> H b = none -> (hidT s₁.heap H).get? b = some o := fun e n => hidT_get e n
    have noA : ∀ {b : Addr} {o : Obj} {es : Array DictEntry} {ep : Nat}, s₁.heap.get? b = some o -> o.data = .dict es ep -> H b = none := fun {b o es ep} e d => by
      cases q : H b with
      | none => rfl
      | some u =>
        have e' : b = a := hA b (by rw [q]; simp)
        subst e'
        rw [ha] at e; cases e
        have d' : Data.seq vs.toArray _ = Data.dict es ep := d
        cases d'
    have nsK : ∀ {b : Addr} {m : Str -> Option Value}, s₁.heap.Ns b m -> (hidT s₁.heap H).Ns b m := fun {b m} ⟨o, es, ep, e, d, r⟩ => ⟨o, es, ep, base_of e (noA e d), d, r⟩
    have hKb : K.In (hidT s₁.heap H) := fun b o e => base_of (KX b o e) (by
      cases q : H b with
      | none => rfl
      | some u =>
        have e' : b = a := hA b (by rw [q]; simp)
        subst e'
        rw [hK (by rw [q]; simp)] at e; cases e)
    have hM : Mod K mg (hidT s₁.heap H) := ⟨hKb, nsK hns, ⟨mb, nsK hb, hbb⟩, let ⟨mc, h1, h2⟩ := hlim; ⟨mc, nsK h1, h2⟩⟩
    have e0 : Env0 P w K mg (hidT s₁.heap H) callerA [] s₁ H := ⟨rfl, hM, fun b o e => of_hidT e, Nat.le_of_eq (hidT_size _ _), trivial, fun b hb => absurd (show b ∈ ([] : List Addr) from hb) (by simp), hok, .of_eq hg⟩
    refine codeAny_mono ((F _ hKb (nsK hns)).run callerA [] s₁ H ⟨[.ref a], []⟩ [.ref a] [.ref a] _ _ hr e0 (hbind s₁ (.ref a)) (.cons rfl .nil) (hsp H hO hS)) fun r s' h => ?_
    cases r with
    | error e => exact (hCX H e s' h).elim
    | ok fl =>
      cases fl with
      | next => exact False.elim h
      | brk => exact False.elim h
      | cont => exact False.elim h
      | ret u =>
        obtain ⟨v, H', os, bare, un, hok', r', q⟩ := h
        have q' : v = .bl true := q
        subst q'
        obtain rfl : u = Value.bool true := r'
        refine ⟨rfl, OldK.of_keep fun b o e => ?_, os, bare⟩
        cases q : H b with
        | none => exact un.keep b o e q (by intro z; exact absurd (show b ∈ ([] : List Addr) from z) (by simp)) (by simp)
        | some u =>
          rcases hO b with z | ⟨ob, xs, z⟩
          · rw [q] at z; cases z
          · have z2 := un.frzs b ob _ z
            obtain ⟨e1, _⟩ := hok b _ z
            obtain ⟨e2, _⟩ := hok' b _ z2
            rw [e] at e1; cases e1
            exact e2
  cases hk : K.lookup a with
  | some o =>
    have e := KX a o hk
    rw [ha] at e
    cases e
    refine core (fun _ => none) (fun _ => .inl rfl) (.inr ⟨_, vs.toArray, _, hk, rfl, rfl, rfl, by rw [List.size_toArray, lenV]; exact hl, by simpa using rv⟩) (fun b u z => by have z' : (none : Option HO) = some u := z; cases z') (fun b z => absurd rfl z) fun z => absurd rfl z
  | none =>
    refine core (fun b => if b = a then some (.frz { cls := .type "list", data := .seq vs.toArray } (.lst (ns.map V.int))) else none) (fun b => ?_) (.inl (.inr ⟨{ cls := .type "list", data := .seq vs.toArray }, if_pos rfl⟩)) (fun b u z => ?_) (fun b z => ?_) fun _ => hk
    · by_cases hb : b = a
      · exact .inr ⟨_, _, if_pos hb⟩
      · exact .inl (if_neg hb)
    · by_cases hb : b = a
      · have z' := (if_pos hb).symm.trans z
        cases z'
        subst hb
        exact ⟨ha, by rw [List.length_map]; exact hl, vs, _, rv, ha⟩
      · have z' := (if_neg hb).symm.trans z
        cases z'
    · by_cases hb : b = a
      · exact hb
      · exact absurd (if_neg hb) z
end L2
namespace L2
open PySem PySem.Spec PyProof.Rows
theorem walk_of {l : PySem.W.OpenLaw} {n k : Nat} {q : Program} {loose : List Str} {XP : (Str -> Option Value) -> Heap -> Prop} {YP : World -> Heap -> Prop} {d : DefRec} {K : Params -> PySem.W.Frag} {CX : World -> CXT} {sp : World -> Sp} {x : Str}
    (hn : l.most = some n) (hn2 : n <= sizeLine) (hdf : d.params.defaults = []) (hr : Room k callerA)
    (hY : ∀ (w : World) (h : Heap), YP w h -> (K w.params).In h)
    (F : ∀ (w : World) (mg : Str -> Option Value) (fa : Addr) (h : Heap), (K w.params).In h -> h.Ns mainGlobals mg -> mg d.name = some (.ref fa) ->
      ∃ fd : FuncData, (∀ (s : Shared) (u : Value), BindsTo s fd ⟨[u], []⟩ [(x, u)]) /\
        ∀ base : Heap, (K w.params).In base -> base.Ns mainGlobals mg -> FnOk l.prog w (K w.params) mg base (CX w) k fa fd [x] (sp w))
    (hsp : ∀ (w : World) (H : Hp) (a : Addr) (ns : List Int), ns.length <= n -> Only H -> SqL (K w.params) H a (ns.map V.int) -> sp w [.ref a] H (fun v _ => v = .bl true) fun _ _ _ => False)
    (hCX : ∀ (w : World) (H : Hp) (s : Shared) (e : Value) (s' : Shared), CX w [] H s (fun _ _ _ => False) e s' -> False) :
    PySem.W.WalkO q loose XP YP l.row.toRowW d [] (fun f vs => PySem.call f vs) := by
  refine Att.attach_call hn hdf fun w s₀ s₁ mg mb fa o pm cd doc a vs ns G Y ho hd hcd hmg hobj hints hlen hg => ?_
  have KX := hY w _ Y
  obtain ⟨fd, hb, hF⟩ := F w mg fa _ KX G.T.g hmg
  exact law_call KX G.T.g G.T.b G.T.builtins G.T.nolimit hg hobj hints (Nat.le_trans hlen hn2) hr hF hb (fun H hO hS => hsp w H a ns hlen hO hS) fun H e s' => hCX w H s₁ e s'
end L2
/- THE LAST THEOREM (shape; LID, My.* are yours):
   My.Adr: a structure of the addresses that your layer names (classes, functions); My.Txt K t: a structure (Prop) of the equations over K;
   My.txt_mk : {K} {implicit addresses ..} (e1 : nsIn K mainGlobals "law" = some (some (.ref f))) (e2 : K.lookup f = some ⟨oc, od, .func (fnOf "law" "law" params body scope dV kV doc pm an cdv ct), sl⟩) (e3 : codeIn K cdv "law" = true) .. : ∃ t, My.Txt K t
set_option maxRecDepth 100000 in
set_option maxHeartbeats 0 in
theorem PySem.Challenge.cw_LID_holds : PySem.Challenge.rw_LID.Holds := by
  w_on; o_law; k_head; (case hw => w_witness2)
  k_fill
  refine L2.walk_of (l := PySem.Challenge.rw_LID) (n := 63) (k := 40) (x := "script") (CX := fun w => ..) (sp := fun _ => My.sp_law) rfl (by decide) rfl ⟨rfl, by decide, by decide⟩ (fun w h Y => PySem.W.kIn_of Y) ?F ?S ?C
  case F =>
    intro w mg fa h KX G hmg
    have T : ∃ t, My.Txt (L2.KOf KX) t := by
      dsimp only [L2.KOf]                          -- K must stand as «<heap const> w.params» for k_is
      refine' My.txt_mk ?e1 ?e2 ?e3 ..
      (case e1 => PySem.W.k_is)                    -- in the order: a name -> its address -> its object -> its parts
      (case e2 => PySem.W.k_is)
      ..
    obtain ⟨t, T⟩ := T
    have e0 := hmg.symm.trans (PySem.W.mg_of KX G T.law)
    cases e0                                       -- fa is the law's own address
    exact ⟨_, fun s u => .of_eq rfl, fun base kb nb => My.law_fn T kb nb⟩     -- if «.of_eq rfl» comes too early: refine' ⟨_, ?b, fun base kb nb => My.law_fn T kb nb⟩; exact fun s u => .of_eq rfl
  case S => exact fun w H a ns hl hO hS => ..
  case C => exact ..
(the tactic k_is has no namespace: write k_is) -/
namespace L2
open PySem PySem.Spec PyProof.Rows
def defArgs (s : Stmt) : Arguments := match s with
  | .FunctionDef _ a _ _ _ _ _ _ _ _ => a
  | _ => { posonlyargs := [], args := [], vararg := none, kwonlyargs := [], kw_defaults := [], kwarg := none, defaults := [] }
def defBody (s : Stmt) : List Stmt := match s with
  | .FunctionDef _ _ b _ _ _ _ _ _ _ => b
  | _ => []
def defScope (s : Stmt) : Scope := match s with
  | .FunctionDef _ _ _ _ _ _ sc _ _ _ => sc
  | _ => { kind := .function, names := [], isGenerator := false, isCoroutine := false }
abbrev CX0 : CXT := fun _ _ _ _ _ _ => False
abbrev E0 : XK := fun _ _ _ => False
theorem pass0 {X : Cx} : Passes CX0 X E0 := fun _ _ _ _ _ _ _ h => h.elim
structure Fun (K : PySem.W.Frag) (x qual : Str) (st : Stmt) (f : Addr) (fd : FuncData) : Prop where
  ex : ∃ (oc : Value) (od : Option Addr) (kV doc pm : Value) (an : Option Addr) (cdv ct : Value) (osl : Array (Option Value)),
    fd = PySem.W.fnOf x qual (defArgs st) (defBody st) (defScope st) .none kV doc pm an cdv ct /\ K.lookup f = some ⟨oc, od, .func fd, osl⟩ /\ PySem.W.codeIn K cdv qual = true
  kp : PySem.W.keepIn K (.ref f) = true
section
variable {P : Program} {w : World} {K : PySem.W.Frag} {mg : Str -> Option Value} {base : Heap}
theorem Fun.ok {x qual : Str} {st : Stmt} {f : Addr} {fd : FuncData} {N ps : List Str} {k : Nat} {sp : Sp} (F : Fun K x qual st f fd) (S : FnScope N ps (defScope st)) (len : ∀ vs H Q E, sp vs H Q E -> vs.length = ps.length)
    (hbody : ∀ (cdv : Value) (A : Around) (outer : List Env) (s : Shared) (H : Hp) (vs : List V) (Q : VK) (E : XK), Room k (A.deeper (envOfC qual (defScope st) s.heap.objs.size f cdv)) -> sp vs H Q E ->
      ∃ t, PSs (cxOf CX0 P w K mg base N qual (defScope st) f cdv A outer s H E).nox (defBody st) t /\ t { nx := fun _ H' => Q .non H', rt := Q } (start N vs) H) : FnOk P w K mg base CX0 (k + 1) f fd ps sp := by
  obtain ⟨oc, od, kV, doc, pm, an, cdv, ct, osl, rfl, lk, hcd⟩ := F.ex
  refine fn_of lk hcd S len fun A outer s H vs Q E hr hsp => ?_
  obtain ⟨t, h, q⟩ := hbody cdv A outer s H vs Q E hr hsp
  exact ⟨t, h.nox, q⟩
theorem Fun.binds {x qual : Str} {st : Stmt} {f : Addr} {fd : FuncData} {ps : List Str} (F : Fun K x qual st f fd)
    (h : ∀ (kV doc pm : Value) (an : Option Addr) (cdv ct : Value) (us : List Value), us.length = ps.length -> bindArgs (PySem.W.fnOf x qual (defArgs st) (defBody st) (defScope st) .none kV doc pm an cdv ct) ⟨us, []⟩ = pure (ps.zip us)) : Binds K fd ps [] := by
  obtain ⟨oc, od, kV, doc, pm, an, cdv, ct, osl, rfl, lk, hcd⟩ := F.ex
  exact .all (h kV doc pm an cdv ct)
theorem fun_mk {x qual : Str} {st : Stmt} {f : Addr} {oc : Value} {od an : Option Addr} {osl : Array (Option Value)} {kV doc pm cdv ct : Value} (l : K.lookup f = some ⟨oc, od, .func (PySem.W.fnOf x qual (defArgs st) (defBody st) (defScope st) .none kV doc pm an cdv ct), osl⟩)
    (c : PySem.W.codeIn K cdv qual = true) (k : PySem.W.keepIn K (.ref f) = true) : Fun K x qual st f (PySem.W.fnOf x qual (defArgs st) (defBody st) (defScope st) .none kV doc pm an cdv ct) := ⟨⟨oc, od, kV, doc, pm, an, cdv, ct, osl, rfl, l, c⟩, k⟩
end
theorem hu_of {A : Around} {k : Nat} (hr : Room k A) : A.units + 1 < cLine := Nat.lt_of_le_of_lt (Nat.add_le_add_left (by decide : 1 <= 64) _) hr.units
section
variable {X : Cx}
theorem pv (i : Nat) {x : Str} {pos : Pos} (hN : X.N[i]? = some x := by rfl) (hv : Vis X.env.scope x := by first | exact Or.inl rfl | exact Or.inr (Or.inl rfl) | exact Or.inr (Or.inr rfl)) (hd : (x == ("__debug__" : Str)) = false := by decide)
    (hcd : (x == ("__classdict__" : Str)) = false := by decide) : PE X (.Name x pos) (tVar i) := pe_var hN hv hd hcd
end
theorem iteF {A B : Prop} (h : B) : if false = true then A else B := by
  rw [if_neg Bool.false_ne_true]
  exact h
theorem iteT {A B : Prop} (h : A) : if true = true then A else B := by
  rw [if_pos rfl]
  exact h
theorem ite2 {c A B : Prop} [Decidable c] (h1 : c -> A) (h2 : ¬ c -> B) : if c then A else B := by
  by_cases h : c
  · rw [if_pos h]
    exact h1 h
  · rw [if_neg h]
    exact h2 h
def Same (H H' : Hp) : Prop := ∀ b o, H b = some o -> H' b = some o
theorem Same.refl (H : Hp) : Same H H := fun _ _ h => h
theorem Same.trans {H H1 H2 : Hp} (a : Same H H1) (b : Same H1 H2) : Same H H2 := fun c o h => b c o (a c o h)
theorem Same.free {H H' : Hp} (e : Same H H') {l : Addr} (h : H' l = Option.none) : H l = Option.none := by
  cases q : H l with
  | none => rfl
  | some o =>
    rw [e l o q] at h
    cases h
theorem Same.seq {K : PySem.W.Frag} {H H' : Hp} {a : Addr} {xs : List V} (e : Same H H') (h : SqL K H a xs) : SqL K H' a xs := by
  rcases h with (h | ⟨o, h⟩) | h
  · exact .inl (.inl (e _ _ h))
  · exact .inl (.inr ⟨o, e _ _ h⟩)
  · exact .inr h
end L2
set_option maxHeartbeats 4000000
namespace L2
open PySem PySem.Spec PyProof.Rows
def rIsi (K : PySem.W.Frag) : List V -> Hp -> VK -> Prop := fun xs H Q => ∃ x T t b, xs = [x, .ty T] /\ TyOf K H x t /\ PySem.W.kitOne K t (.type T) = some b /\ Q (.bl b) H
section
variable {X : Cx}
theorem call_isi : CallR X (.builtin "isinstance") (rIsi X.K) := by
  intro pins s σ H xs us Q I r h
  obtain ⟨x, T, t, b, rfl, ty, e, q⟩ := h
  obtain ⟨u, w', rfl, rx, rT⟩ := vals2 r
  cases (show w' = Value.type T from rT)
  exact isinst_ok I rx ty e fun tk => ⟨.bl b, H, I.tok _, rfl, q⟩
theorem vals_bl : ∀ {bs : List Bool} {us : List Value}, Vals (bs.map V.bl) us -> us = bs.map Value.bool
  | [], _, r => by rw [List.map_nil] at r; cases r; rfl
  | b :: bs, _, r => by
    rw [List.map_cons] at r
    cases r with
    | cons r1 r2 =>
      cases (show _ = Value.bool b from r1)
      rw [vals_bl r2]
      rfl
theorem all_range (bs : List Bool) : ((List.range bs.length).all fun i => bs.getD i true) = bs.all id := by
  rw [Bool.eq_iff_iff, List.all_eq_true, List.all_eq_true]
  constructor
  · intro h b hb
    obtain ⟨i, hi, rfl⟩ := List.getElem_of_mem hb
    have := h i (List.mem_range.mpr hi)
    rw [List.getD_eq_getElem?_getD, List.getElem?_eq_getElem hi] at this
    exact this
  · intro h i hi
    have hi' := List.mem_range.mp hi
    rw [List.getD_eq_getElem?_getD, List.getElem?_eq_getElem hi']
    exact h _ (List.getElem_mem hi')
theorem call_all (hc : X.calm = true) : CallR X (.builtin "all") (fun xs H Q => ∃ (p : Addr) (bs : List Bool), xs = [.ref p] /\ SqL X.K H p (bs.map V.bl) /\ Q (.bl (bs.all id)) H) := by
  intro pins s σ H xs us Q I r h
  obtain ⟨p, bs, rfl, hq, q⟩ := h
  obtain ⟨u, rfl, ru⟩ := vals1 r
  cases ru
  obtain ⟨its, rv, pl, hz⟩ := I.list hq
  have ei := vals_bl rv
  subst ei
  have hp : p < s.heap.objs.size := by obtain ⟨_, _, e, _⟩ := pl; exact Heap.lt_size e
  have hd : X.A.in1.handled = none := I.ok.hd hc
  refine call_all_walk (wpAny_pyIter_list pl.isList ?_)
  refine ⟨s.heap.objs.size, _, _, _, _, _, (fun i => bs.getD i true), rfl, Walks.list hd s.heap.objs.size p (Nat.ne_of_lt hp) (bs.map Value.bool).toArray, ⟨⟨_, Heap.get?_push_size _ rfl, rfl, rfl⟩, pl.isList.push _⟩, ?_, ?_⟩
  · intro i v s' Q' E' hv hQ
    have hv' : (bs.map Value.bool)[i]? = some v := by simpa using hv
    rw [List.getElem?_map] at hv'
    cases e : bs[i]? with
    | none => rw [e] at hv'; cases hv'
    | some b =>
      rw [e] at hv'
      cases hv'
      have hQ' : Q' (bs.getD i true) s' := hQ
      rw [List.getD_eq_getElem?_getD, e] at hQ'
      exact wpAny_truthy_bool hQ'
  · intro h' tk hk
    refine ⟨.bl (bs.all id), H, I.kept fun b o e => hk b o ?_ (Heap.get?_push_of_some _ e), ?_, q⟩
    · intro z
      rw [List.mem_singleton.mp z] at e
      exact absurd (Heap.lt_size e) (Nat.lt_irrefl _)
    · show Value.bool _ = Value.bool _
      rw [← all_range bs]
      simp
def rInsert : V -> List V -> Hp -> VK -> Prop := fun x vs H Q => ∃ l xs i y, x = .ref l /\ vs = [.int i, y] /\ H l = some (.lst xs) /\ 0 <= i /\ i < 2 ^ 63 /\ xs.length < sizeLine /\
  Q .non (upd H l (.lst (xs.take (min i.toNat xs.length) ++ y :: xs.drop (min i.toNat xs.length))))
theorem insert_arr (its : List Value) (k : Nat) (u : Value) : (its.toArray.extract 0 k).push u ++ its.toArray.extract k = (its.take k ++ u :: its.drop k).toArray := by
  apply Array.toList_inj.mp
  simp
  exact List.take_of_length_le (by simp)
theorem mt_insert : MtM X "list.insert" rInsert := by
  intro pins s σ H x vs v us Q I rx rv h
  obtain ⟨l, xs, i, y, rfl, rfl, hH, h0, h1, hz, q⟩ := h
  cases rx
  obtain ⟨ui, uy, rfl, ⟨t, rfl⟩, ry⟩ := vals2 rv
  obtain ⟨z, its, n, r, hl, e⟩ := I.lstM hH
  have hfit : ¬ (!Builtin.List.listFitsIndex i) = true := by
    rw [fitsIndex_both (by omega) h1]
    exact Bool.false_ne_true
  refine call_meets F.slot_list_insert ⟨_, e, rfl⟩ F.entry_list_insert (F.args_list_insert_3 _ _ _) (AutoListH.list_insert_list_int_val_1 l its.toArray n i t uy hfit (by rw [List.size_toArray]; omega)) ⟨e, ?_⟩
  refine ⟨.non, _, I.lset (its' := its.take (min i.toNat xs.length) ++ uy :: its.drop (min i.toNat xs.length)) hH e ?_ ((r.take _).append (.cons ry (r.drop _))) ?_, rfl, q⟩
  · have hk : (if i < 0 then (i + ((its.toArray.size : Nat) : Int)).toNat else min i.toNat its.toArray.size) = min i.toNat xs.length := by
      rw [if_neg (by omega), List.size_toArray, hl]
    show ((its.toArray.extract 0 (if i < 0 then (i + ((its.toArray.size : Nat) : Int)).toNat else min i.toNat its.toArray.size)).push uy ++ its.toArray.extract (if i < 0 then (i + ((its.toArray.size : Nat) : Int)).toNat else min i.toNat its.toArray.size)) = _
    rw [hk, insert_arr]
  · simp only [List.length_append, List.length_take, List.length_cons, List.length_drop]
    omega
end
end L2
namespace L2
open PySem PySem.Spec PyProof.Rows
def pick (js : List (Option Nat)) (σ : St) : St := js.map fun o => o.bind fun j => (σ[j]?).join
theorem pick_get {js : List (Option Nat)} {σ : St} {i : Nat} {v : V} (h : (pick js σ)[i]? = some (some v)) : ∃ j, js[i]? = some (some j) /\ σ[j]? = some (some v) := by
  unfold pick at h
  rw [List.getElem?_map] at h
  cases e : js[i]? with
  | none => rw [e] at h; cases h
  | some o =>
    rw [e] at h
    have h' : (o.bind fun j => (σ[j]?).join) = some v := Option.some.inj h
    cases o with
    | none => cases h'
    | some j =>
      refine ⟨j, rfl, ?_⟩
      have h2 : (σ[j]?).join = some v := h'
      cases e2 : σ[j]? with
      | none => rw [e2] at h2; cases h2
      | some q =>
        rw [e2] at h2
        have h3 : q = some v := h2
        rw [h3]
structure CompOk (X : Cx) (scope : Scope) (cl : List (Str × Addr)) (N : List Str) (js : List (Option Nat)) : Prop where
  clos : closureFor scope X.env = pure cl
  nocell : ∀ y ∈ scope.names, y.2 ≠ .cell
  kind : scope.kind = .function
  names : ∀ y ∈ scope.names, y.2 = .local -> scope.names.lookup y.1 = some .local
  sub : ∀ x c, cl.lookup x = some c -> X.env.cells.lookup x = some c
  has : ∀ x, ((relabel scope X.env).names.lookup x = some .cell ∨ (relabel scope X.env).names.lookup x = some .free) -> ∃ c, cl.lookup x = some c
  len : js.length = N.length
  seen : ∀ (i j : Nat) (x : Str), N[i]? = some x -> js[i]? = some (some j) -> X.N[j]? = some x /\ X.env.scope.names.lookup x = some .cell /\ ((relabel scope X.env).names.lookup x = some .cell ∨ (relabel scope X.env).names.lookup x = some .free)
abbrev compCx (X : Cx) (scope : Scope) (cl : List (Str × Addr)) (N : List Str) (fp : List Addr) (pins : List (Addr × Obj)) (s : Shared) (H : Hp) (E : Value -> Shared -> Prop) : Cx :=
  { X with N := N, s₀ := s, H₀ := H, env := compEnvC scope cl s.heap.objs.size X.env, outer := X.stack, ex := fp, fn := fun _ => false, pn := X.pn ++ pins, xe := E }
def CompW (J : It) (D : Addr) (js : List (Option Nat)) (g : TG) (tc : TT) (te : TE) (σ : St) (H1 : Hp) (Q : VK) : Prop :=
  ∃ W : Nat -> Nat -> St -> Hp -> List V -> Prop, (∃ m, W 0 m (pick js σ) (upd H1 D (.lst [])) []) /\ ∀ i m σ' H' ys, W i m σ' H' ys -> H' D = some (.lst ys) /\
    ((J.stop i H' /\ Q (.ref D) H') ∨ (J.go i H' /\ ys.length < sizeLine /\ ∃ N : St -> Hp -> List V -> Prop, (∀ σ2 H2 zs, N σ2 H2 zs -> ∃ m', m' < m /\ W (i + 1) m' σ2 H2 zs) /\ ∀ x H2, J.yld i H' x H2 -> g x σ' H2 fun σ2 H3 => tc σ2 H3 fun k H5 =>
      if k = true then te σ2 H5 fun y H4 => H4 D = some (.lst ys) /\ N σ2 (upd H4 D (.lst (ys ++ [y]))) (ys ++ [y]) else H5 D = some (.lst ys) /\ N σ2 H5 ys))
def tComp (js : List (Option Nat)) (wi : TI) (g : TG) (tc : TT) (te : TE) : TE := fun σ H Q => wi σ H fun J H1 => ∀ D, H1 D = none -> CompW J D js g tc te σ H1 Q
theorem comp_gen {J : It} {n : Nat} {D : Addr} {js : List (Option Nat)} {g : TG} {tc : TT} {te : TE} {σ : St} {H1 : Hp} {Q : VK} (hn : n <= sizeLine) (Pv : Nat -> St -> Hp -> List V -> Prop) (h0 : Pv 0 (pick js σ) (upd H1 D (.lst [])) [])
    (hp : ∀ i σ' H' ys, i <= n -> Pv i σ' H' ys -> H' D = some (.lst ys) /\ ys.length <= i) (hgo : ∀ i σ' H' ys, i < n -> Pv i σ' H' ys -> J.go i H') (hst : ∀ σ' H' ys, Pv n σ' H' ys -> J.stop n H' /\ Q (.ref D) H')
    (hs : ∀ i σ' H' ys x H2, i < n -> Pv i σ' H' ys -> J.yld i H' x H2 -> g x σ' H2 fun σ2 H3 => tc σ2 H3 fun k H5 =>
      if k = true then te σ2 H5 fun y H4 => H4 D = some (.lst ys) /\ Pv (i + 1) σ2 (upd H4 D (.lst (ys ++ [y]))) (ys ++ [y]) else H5 D = some (.lst ys) /\ Pv (i + 1) σ2 H5 ys) :
    ∃ W : Nat -> Nat -> St -> Hp -> List V -> Prop, (∃ m, W 0 m (pick js σ) (upd H1 D (.lst [])) []) /\ ∀ i m σ' H' ys, W i m σ' H' ys -> H' D = some (.lst ys) /\
      ((J.stop i H' /\ Q (.ref D) H') ∨ (J.go i H' /\ ys.length < sizeLine /\ ∃ N : St -> Hp -> List V -> Prop, (∀ σ2 H2 zs, N σ2 H2 zs -> ∃ m', m' < m /\ W (i + 1) m' σ2 H2 zs) /\ ∀ x H2, J.yld i H' x H2 -> g x σ' H2 fun σ2 H3 => tc σ2 H3 fun k H5 =>
        if k = true then te σ2 H5 fun y H4 => H4 D = some (.lst ys) /\ N σ2 (upd H4 D (.lst (ys ++ [y]))) (ys ++ [y]) else H5 D = some (.lst ys) /\ N σ2 H5 ys)) := by
  refine ⟨fun i m σ' H' ys => m = n - i /\ i <= n /\ Pv i σ' H' ys, ⟨n, rfl, Nat.zero_le _, h0⟩, ?_⟩
  rintro i m σ' H' ys ⟨rfl, hi, p⟩
  obtain ⟨hD, hy⟩ := hp i σ' H' ys hi p
  refine ⟨hD, ?_⟩
  by_cases hlt : i < n
  · exact .inr ⟨hgo i σ' H' ys hlt p, by omega, Pv (i + 1), fun σ2 H2 zs p' => ⟨n - (i + 1), by omega, rfl, hlt, p'⟩, fun x H2 y => hs i σ' H' ys x H2 hlt p y⟩
  · have e : i = n := by omega
    subst e
    exact .inl (hst σ' H' ys p)
def PTs (X : Cx) (cs : List Expr) (t : TT) : Prop :=
  ∀ (pins : List (Addr × Obj)) (s : Shared) (σ : St) (H : Hp) (Q : Bool -> Hp -> Prop), Inv X pins σ H s -> t σ H Q ->
    wpAny (model X.prog X.w) X.A (forIn cs true fun c r => if r = true then do let ok ← isTrue c X.env (eval c X.env); pure (ForInStep.yield ok) else pure (ForInStep.yield r)) (TP X pins σ Q) X.xe s
def tNoTest : TT := fun _ H Q => Q true H
theorem pts_nil {X : Cx} : PTs X [] tNoTest := fun _ _ _ H _ I h => wpAny_tests_nil ⟨H, I, h⟩
theorem pts_one {X : Cx} {c : Expr} {t : TT} (hc : PT X c t) : PTs X [c] t := fun pins s σ H Q I h => wpAny_tests_one (hc pins s σ H Q I h)
section
variable {prog : Program} {w : World} {A : Around} {R : Result -> Shared -> Prop} {s : Shared}
theorem loop_go {elt tg iter : Expr} {cs : List Expr} {scope : Scope} {pos : Pos} {it acc : Value} {env : Env} (J : Nat -> Shared -> Prop)
    (turn : ∀ n s', J n s' -> wpAny (model prog w) A (pyNext it) (fun r t1 => match r with
      | none => R (.ok .next) t1
      | some v => wpAny (model prog w) A (letOwnedTupleGo tg it v) (fun _ t2 => wpAny (model prog w) A (assign tg env v) (fun _ t3 =>
          wpAny (model prog w) A (forIn cs true fun c r => if r = true then do let ok ← isTrue c env (eval c env); pure (ForInStep.yield ok) else pure (ForInStep.yield r)) (fun ok t4 =>
            if ok = true then wpAny (model prog w) A (eval elt env) (fun x t5 => wpAny (model prog w) A (call (.builtin "list.append") [acc, x]) (fun _ t6 => ∃ m, m < n /\ J m t6)
              (notedBy (model prog w) A env fun e s'' => R (.error e) s'') t5) (notedBy (model prog w) A env fun e s'' => R (.error e) s'') t4
            else ∃ m, m < n /\ J m t4) (notedBy (model prog w) A env fun e s'' => R (.error e) s'') t3) (notedBy (model prog w) A env fun e s'' => R (.error e) s'') t2) (notedBy (model prog w) A env fun e s'' => R (.error e) s'') t1)
        (notedBy (model prog w) A env fun e s'' => R (.error e) s'') s')
    (n : Nat) (h : J n s) : codeAny (model prog w) A (.compLoop (.ListComp elt [⟨tg, iter, cs, 0⟩] scope pos) 0 it acc env) R s := by
  refine codeAny_loop rfl J (fun n s' hJ => ?_) n h
  show wpAny _ A ((compTurn (.ListComp elt [⟨tg, iter, cs, 0⟩] scope pos) 0 it acc env).onRaise (fun z => do noteFrame z env; theTreesLotGoes z)) _ _ s'
  refine wpAny_noted ?_
  rw [compTurn_list]
  refine wpAny_bind (wpAny_standAt (wpAny_bind (thn (turn n s' hJ) fun r t1 k1 => ?_)))
  cases r with
  | none => exact wpAny_pure k1
  | some v =>
    refine wpAny_bind (thn k1 fun _ t2 k2 => wpAny_bind (thn k2 fun _ t3 k3 => wpAny_bind (thn k3 fun ok t4 k4 => ?_)))
    cases ok with
    | false => exact wpAny_pure ⟨rfl, k4⟩
    | true => exact wpAny_bind (wpAny_bind (thn k4 fun x t5 k5 => wpAny_bind (thn k5 fun _ t6 k6 => wpAny_pure (wpAny_pure ⟨rfl, k6⟩))))
end
theorem noEx {M : Model} {A : Around} {α : Type} {t : Sem α} {Q : α -> Shared -> Prop} {E E' : Value -> Shared -> Prop} {s : Shared} (hE : ∀ e s', E e s' -> False) (h : wpAny M A t Q E s) : wpAny M A t Q E' s := wpAny_mono h (fun _ _ q => q) fun e s' z => (hE e s' z).elim
theorem pe_comp {X : Cx} {elt tg iter : Expr} {cs : List Expr} {scope : Scope} {pos : Pos} {cl : List (Str × Addr)} {N : List Str} {js : List (Option Nat)} {wi : TI} {g : TG} {tc : TT} {te : TE}
    (C : CompOk X scope cl N js) (hc : X.calm = true) (hi : PI X tg iter wi)
    (hg : ∀ fp pins s H, PG (compCx X scope cl N fp pins s H fun _ _ => False) tg g)
    (ht : ∀ fp pins s H, PTs (compCx X scope cl N fp pins s H fun _ _ => False) cs tc)
    (he : ∀ fp pins s H, PE (compCx X scope cl N fp pins s H fun _ _ => False) elt te)
    (hs : ∀ x, foldedSetIterable iter X.env x = pure x := by intro _; rfl) : PE X (.ListComp elt [⟨tg, iter, cs, 0⟩] scope pos) (tComp js wi g tc te) := by
  intro pins s σ H Q I h
  rw [eval_ListComp]
  refine wpAny_comprehension_free (use := none) rfl hs C.clos C.kind C.names (thn (hi pins s σ H _ I h) fun xv s1 h1 => thn h1 fun itv s2 h2 => ?_)
  obtain ⟨it, fp, tn, J, H2, e, I2, T, st2, f2, h2⟩ := h2
  subst e
  obtain ⟨W, ⟨m0, w0⟩, turn⟩ := h2 s2.heap.objs.size I2.fresh
  refine wpAny_newObj_type (wpAny_newFunctionEnv C.nocell (by intro y hy; simp at hy) (fun h4 ns4 sb4 => ?_) C.kind)
  have I3 : Inv X pins σ (upd H2 s2.heap.objs.size (.lst [])) { s2 with heap := s2.heap.push { cls := .type "list", data := .seq ([] : List Value).toArray } } := I2.lnew (t' := s2.toks) (its := []) .nil (Nat.zero_le _)
  dsimp only at ns4 sb4 ⊢
  generalize e3 : ({ s2 with heap := s2.heap.push { cls := .type "list", data := .seq ([] : List Value).toArray } } : Shared) = s3 at I3
  have e3h : s2.heap.push { cls := .type "list", data := .seq ([] : List Value).toArray } = s3.heap := by rw [← e3]
  have e3g : s2.gens = s3.gens := by rw [← e3]
  have e3o : s2.os = s3.os := by rw [← e3]
  rw [e3h] at ns4 sb4 ⊢
  generalize eH : upd H2 s2.heap.objs.size (.lst []) = H3 at I3 w0
  have hD : s2.heap.objs.size < s3.heap.objs.size := by rw [← e3h, Heap.size_push]; exact Nat.lt_succ_self _
  have up3 : ∀ b o, s2.heap.get? b = some o -> s3.heap.get? b = some o := fun b o q => by rw [← e3h]; exact Heap.get?_push_of_some _ q
  have up4 : ∀ b o, s3.heap.get? b = some o -> h4.get? b = some o := fun b o q => sb4.extBut b o (Nat.ne_of_lt (Heap.lt_size q)) (Heap.get?_push_of_some _ q)
  have fpo : ∀ b ∈ fp, b < s3.heap.objs.size := fun b hb => by
    obtain ⟨o, eo, _⟩ := T.obj 0 _ st2 b hb
    exact Heap.lt_size (up3 b o eo)
  have fst : ∀ b ∈ fp, b ∉ frs X.stack := fun b hb z => by
    rcases List.mem_cons.mp (I3.stkSub b z) with q | q
    · exact (f2 b hb).2.1 q
    · exact (f2 b hb).2.2.1 q
  have okY : (compCx X scope cl N fp pins s3 H3 fun _ _ => False).Ok := by
    refine ⟨I.ok.mod, C.kind, I.ok.glob, I.ok.blt, Nat.le_refl _, fun x y c q1 q2 => I.ok.inj x y c (C.sub _ _ q1) (C.sub _ _ q2), C.has, fun x c z => absurd z Bool.false_ne_true, I.ok.hd, I.ok.frames, .inl rfl, fun b hb => ⟨Nat.ne_of_lt (fpo b hb), fun x c q => (f2 b hb).2.2.2.2.1 x c (C.sub _ _ q)⟩,
      I3.bs, Nat.le_trans I.ok.bsz I3.sz, fun b o q hb => ?_, fst, I3.stack, I3.stkFree⟩
    rcases (f2 b hb).2.2.2.1 with z | z
    · exact I.ok.noex b o q z
    · exact absurd (Nat.lt_of_lt_of_le (Heap.lt_size q) (Nat.le_trans I.ok.bsz z)) (Nat.lt_irrefl _)
  have I4 : Inv (compCx X scope cl N fp pins s3 H3 fun _ _ => False) [] (pick js σ) H3 { s3 with heap := h4, toks := s3.toks + ([] : List (Str × Value)).length } := by
    refine ⟨okY, rfl, I3.bare, Un.kept up4, ⟨_, ns4, fun i x v q1 q2 q3 => ?_⟩, fun x c q => ?_, I3.hok.fresh (Nat.le_refl _), fun x c q => I3.freeC x c (C.sub _ _ q), fun p hp => ?_, I3.hok.kept up4, ?_⟩
    · obtain ⟨j, k1, k2⟩ := pick_get q2
      obtain ⟨z1, z2, z3⟩ := C.seen i j x q1 k1
      obtain ⟨m, hn, hl⟩ := I3.loc
      obtain ⟨u, ru, lk⟩ := hl j x v z1 k2 (.inr (.inl z2))
      refine ⟨u, ru, .inr ⟨z3, ?_⟩⟩
      rcases lk with ⟨k, _⟩ | ⟨_, c, ec, oc, hoc, hdc⟩
      · have k' : X.env.scope.names.lookup x = some .local := k
        rw [z2] at k'; cases k'
      · obtain ⟨c', ec'⟩ := C.has x z3
        have := C.sub _ _ ec'
        rw [ec] at this
        cases this
        exact ⟨c, ec', oc, up4 _ _ hoc, hdc⟩
    · obtain ⟨v, oc, hoc, hdc⟩ := I3.cell x c (C.sub _ _ q)
      exact ⟨v, oc, up4 _ _ hoc, hdc⟩
    · have hp' : p ∈ X.pn ++ pins := by simpa using hp
      obtain ⟨q1, q2, q3, q4, q5⟩ := I3.pin p hp'
      refine ⟨up4 _ _ q1, q2, Nat.ne_of_lt (Heap.lt_size q1), fun z => ?_, q5⟩
      rcases List.mem_cons.mp (I3.stkSub _ z) with q | q
      · exact q3 q
      · exact q4 q
    · show (pick js σ).length = N.length
      unfold pick
      rw [List.length_map, C.len]
  have stat : ∀ {H' : Hp}, (∀ b ∈ fp, H' b = none) -> ∀ b ∈ fp, FpOk (compCx X scope cl N fp pins s3 H3 fun _ _ => False) [] H' b := fun hn b hb =>
    ⟨hn b hb, Nat.ne_of_lt (fpo b hb), fst b hb, .inl hb, fun x c q => (f2 b hb).2.2.2.2.1 x c (C.sub _ _ q), fun p hp => (f2 b hb).2.2.2.2.2 p (by simpa using hp)⟩
  have st4 : tn 0 h4 := T.keep 0 _ _ st2 fun b hb o q => up4 b o (up3 b o q)
  have nx : ∀ e s', (compCx X scope cl N fp pins s3 H3 fun _ _ => False).xe e s' -> False := fun _ _ z => z
  have loop : codeAny (model X.prog X.w) X.A (.compLoop (.ListComp elt [⟨tg, iter, cs, 0⟩] scope pos) 0 (.ref it) (.ref s2.heap.objs.size) (compEnvC scope cl s3.heap.objs.size X.env))
      (compPost (model X.prog X.w) X.A X.xe none (EP X pins σ Q) (.ref s2.heap.objs.size) s3.heap.objs.size) { s3 with heap := h4, toks := s3.toks + ([] : List (Str × Value)).length } := by
    refine loop_go (fun n s' => ∃ i σ' H' ys, Inv (compCx X scope cl N fp pins s3 H3 fun _ _ => False) [] σ' H' s' /\ tn i s'.heap /\ (∀ b ∈ fp, H' b = none) /\ W i n σ' H' ys) ?_ m0 ⟨0, _, H3, [], I4, st4, fun b hb => ?_, w0⟩
    · rintro n s5 ⟨i, σ5, H5, ys, I5, st5, fr5, w5⟩
      obtain ⟨hD5, way⟩ := turn i n σ5 H5 ys w5
      rcases way with ⟨stop, qn⟩ | ⟨go, hz, NN, hN, step⟩
      · refine noEx nx (thn (T.done (compCx X scope cl N fp pins s3 H3 fun _ _ => False) rfl rfl rfl hc i [] s5 σ5 H5 _ I5 (stat fr5) st5 stop) fun r s6 ⟨hr, I6⟩ => ?_)
        subst hr
        obtain ⟨m, hn, _⟩ := I6.loc
        refine ⟨m, hn, fun h' sb => ⟨.ref s2.heap.objs.size, H5, ?_, rfl, qn⟩⟩
        have low : ∀ b o, s3.heap.get? b = some o -> b ≠ s3.heap.objs.size := fun b o q => Nat.ne_of_lt (Heap.lt_size q)
        have same : ∀ b, b ≠ s3.heap.objs.size -> h'.get? b = s6.heap.get? b := fun b hb => sb.2 b hb
        have B := I6.base
        refine I3.call' (s' := { s6 with heap := h' }) (H' := H5) (ch := fp) I6.os ⟨fun b o q n0 h1 h2 => ?_, fun b o q n0 h1 h2 => ?_, B.free, fun b o q h2 => ?_, B.tups, B.frzs, B.tbls⟩ (fun a o q => ?_) I6.bare (fun b hb => ⟨(f2 b hb).2.2.2.1, (f2 b hb).2.1, (f2 b hb).2.2.2.2.1, (f2 b hb).2.2.2.2.2⟩)
        · exact (same b (low b o q)).trans (B.keep b o q n0 h1 h2)
        · obtain ⟨sl, z⟩ := B.slot b o q n0 h1 h2
          exact ⟨sl, (same b (low b o q)).trans z⟩
        · obtain ⟨o', z⟩ := B.there b o q h2
          exact ⟨o', (same b (low b o q)).trans z⟩
        · have nC : ∀ c u, H5 c = some u -> c ≠ s3.heap.objs.size := fun c u z y => by
            have := I6.free
            rw [y] at z
            rw [show H5 s3.heap.objs.size = none from this] at z
            cases z
          refine (I6.hok a o q).stay (fun c u hc' z => (same c ?_).trans z) (fun _ z => z) fun _ _ z => z
          rcases hc' with z' | z'
          · rw [z']; exact nC a o q
          · exact nC c _ z'
      · refine noEx nx (thn (T.item (compCx X scope cl N fp pins s3 H3 fun _ _ => False) rfl rfl rfl hc i [] s5 σ5 H5 _ I5 (stat fr5) st5 go) fun r s6 ⟨u, hr, h6⟩ => ?_)
        subst hr
        refine noEx nx (thn h6 fun _ s7 ⟨x, H7, I7, r7, y7, st7, fr7⟩ => ?_)
        have I7' := I7.pinned (stat fr7) (T.obj _ _ st7)
        refine noEx nx (thn (hg fp pins s3 H3 _ s7 σ5 H7 x u _ I7' r7 (step x H7 y7)) fun _ s8 ⟨σ8, H8, I8, q8⟩ => ?_)
        refine noEx nx (thn (ht fp pins s3 H3 _ s8 σ8 H8 _ I8 q8) fun k s9 ⟨H9, I9, q9⟩ => ?_)
        have fin : ∀ {s' : Shared} {σ' : St} {H' : Hp} {ys' : List V}, Inv (compCx X scope cl N fp pins s3 H3 fun _ _ => False) ([] ++ pinsAt fp s7.heap) σ' H' s' -> NN σ' H' ys' ->
            ∃ m', m' < n /\ ∃ i σ' H' ys, Inv (compCx X scope cl N fp pins s3 H3 fun _ _ => False) [] σ' H' s' /\ tn i s'.heap /\ (∀ b ∈ fp, H' b = none) /\ W i m' σ' H' ys := fun {s' σ' H' ys'} Iv nv => by
          obtain ⟨m', hm, wv⟩ := hN σ' H' ys' nv
          refine ⟨m', hm, i + 1, σ', H', ys', Iv.unpinned, T.keep _ _ _ st7 fun b hb o q => (Iv.pin (b, o) (List.mem_append_right _ (List.mem_append_right _ (mem_pinsAt hb q)))).1, fun b hb => ?_, wv⟩
          obtain ⟨o, q, _⟩ := T.obj _ _ st7 b hb
          exact (Iv.pin (b, o) (List.mem_append_right _ (List.mem_append_right _ (mem_pinsAt hb q)))).2.1
        cases k with
        | false =>
          rw [if_neg Bool.false_ne_true] at q9 ⊢
          exact fin I9 q9.2
        | true =>
          rw [if_pos rfl] at q9 ⊢
          refine noEx nx (thn (he fp pins s3 H3 _ s9 σ8 H9 _ I9 q9) fun y sA ⟨yv, HA, IA, rA, hDA, qA⟩ => ?_)
          refine noEx nx (thn (mt_append _ sA σ8 HA (.ref s2.heap.objs.size) [yv] _ [y] (fun _ HB => NN σ8 HB (ys ++ [yv])) IA rfl (.cons rA .nil) ⟨_, ys, yv, rfl, rfl, hDA, hz, qA⟩) fun _ sB ⟨_, HB, IB, _, qB⟩ => ?_)
          exact fin IB qB
    · rw [← eH, upd_ne]
      · exact (f2 b hb).1
      · obtain ⟨o, eo, _⟩ := T.obj 0 _ st2 b hb
        exact Nat.ne_of_lt (Heap.lt_size eo)
  have goal : codeAny (model X.prog X.w) X.A (.compStart (.ListComp elt [⟨tg, iter, cs, 0⟩] scope pos) 0 (.ref it) (.ref s2.heap.objs.size) (compEnvC scope cl s3.heap.objs.size X.env))
      (compPost (model X.prog X.w) X.A X.xe none (EP X pins σ Q) (.ref s2.heap.objs.size) s3.heap.objs.size) { s3 with heap := h4, toks := s3.toks + ([] : List (Str × Value)).length } :=
    codeAny_compStart_list loop (T.self _ 0 _ _ _ st4 loop)
  subst e3
  exact goal
end L2
namespace Zt
open PySem PyProof.Rows
theorem notNone (t : Addr) : ¬ ((Value.ref t == Value.none) = true) := Bool.false_ne_true
section
variable {prog : Program} {w : World} {A : Around} {E : Value -> Shared -> Prop} {s : Shared}
theorem pull {j t : Addr} {k : Nat} {vs : Array Value} {x : Value} {Q : Value -> Shared -> Prop} (a : s.heap.IsTupleIter j t k) (b : s.heap.IsTuple t vs) (c : vs[k]? = some x)
    (q : ∀ g, g.IsTupleIter j t (k + 1) -> Heap.SameBut j s.heap g -> Q x { s with heap := g }) : wpAny (model prog w) A (Builtin.SmallTypes.nextOf (.ref j)) Q E s := by
  obtain ⟨oj, gj, cj, dj⟩ := id a
  obtain ⟨ot, gt, _, nt, dt⟩ := b
  unfold Builtin.SmallTypes.nextOf
  refine wpAny_bind (wpAny_callSpecial?_slot (name := Str.ofString "__next__") a.typeIs F.slot_tuple_iterator_next (wpAny_call_entry F.slot_tuple_iterator_next a.typeIs F.entry_tuple_iterator_next ?_ (F.args_tuple_iterator_next_1 _)))
  show wpAny _ _ (field (.ref j) 0 >>= _) _ _ s
  refine wpAny_bind (wpAny_field gj dj (x := .ref t) rfl ?_)
  show wpAny _ _ (ite ((Value.ref t == Value.none) = true) _ _) _ _ s
  rw [if_neg (notNone t)]
  show wpAny _ _ (field (.ref j) 1 >>= _) _ _ s
  refine wpAny_bind (wpAny_field gj dj (x := .int k 0) rfl ?_)
  show wpAny _ _ (seqItems? (.ref t) >>= _) _ _ s
  refine wpAny_bind (wpAny_seqItems gt dt ?_)
  simp only [Int.toNat_natCast, c]
  refine wpAny_bind (wpAny_setField gj dj (by simp) (wpAny_pure ⟨x, rfl, wpAny_pure (q _ ⟨_, Heap.get?_update_self _ gj (Obj.isFreed_of_fields (Obj.data_mapFields dj _)), (Obj.cls_mapFields ..).trans cj, ?_⟩ (Heap.SameBut.update ..))⟩))
  rw [Obj.data_mapFields dj]
  simp [rawInt]
theorem pull_end {j t : Addr} {k : Nat} {vs : Array Value} {Q : Value -> Shared -> Prop} (hd : A.handled = none) (a : s.heap.IsTupleIter j t k) (b : s.heap.IsTuple t vs) (c : vs[k]? = none)
    (q : ∀ g e, Heap.ExtBut j s.heap g -> (∃ o, g.get? e = some o /\ o.cls = .type "StopIteration") -> E (.ref e) { s with heap := g }) : wpAny (model prog w) A (Builtin.SmallTypes.nextOf (.ref j)) Q E s := by
  obtain ⟨oj, gj, cj, dj⟩ := id a
  obtain ⟨ot, gt, _, nt, dt⟩ := b
  unfold Builtin.SmallTypes.nextOf
  refine wpAny_bind (wpAny_callSpecial?_slot (name := Str.ofString "__next__") a.typeIs F.slot_tuple_iterator_next (wpAny_call_entry F.slot_tuple_iterator_next a.typeIs F.entry_tuple_iterator_next ?_ (F.args_tuple_iterator_next_1 _)))
  show wpAny _ _ (field (.ref j) 0 >>= _) _ _ s
  refine wpAny_bind (wpAny_field gj dj (x := .ref t) rfl ?_)
  show wpAny _ _ (ite ((Value.ref t == Value.none) = true) _ _) _ _ s
  rw [if_neg (notNone t)]
  show wpAny _ _ (field (.ref j) 1 >>= _) _ _ s
  refine wpAny_bind (wpAny_field gj dj (x := .int k 0) rfl ?_)
  show wpAny _ _ (seqItems? (.ref t) >>= _) _ _ s
  refine wpAny_bind (wpAny_seqItems gt dt ?_)
  simp only [Int.toNat_natCast, c]
  refine wpAny_bind (wpAny_rule (wpAny_bind (wpAny_setField gj dj (by simp) ?_)))
  show wpAny _ _ (newExc (.type "StopIteration") [] >>= _) _ _ _
  refine wpAny_bind ?_
  simp only [newExc, newTuple]
  refine wpAny_bind (wpAny_newObj_type (wpAny_bind (m := firstArgMember _ _) (wpAny_of_eq (a := Value.none) (by first | rfl | (simp only [firstArgMember]; rfl)) (wpAny_newObj_type ?_ (by size_fits)))) (by size_fits))
  simp only [raiseNew]
  refine wpAny_bind (wpAny_handled ?_)
  first
    | rw [show A.in1.handled = none from hd]
    | rw [hd]
  exact wpAny_bind (wpAny_pure (wpAny_throw (q _ _ (((Heap.SameBut.update ..).extBut.push _).push _) ⟨_, Heap.get?_push_size _ rfl, rfl⟩)))
theorem zip_item {z TI TO j1 j2 t1 t2 : Addr} {k : Nat} {xs ys : Array Value} {x y a b : Value} {Q : Value -> Shared -> Prop} (D : ZipApart z TI TO j1 j2 t1 t2)
    (zz : IsZip s.heap z TI TO .none) (zI : IsPair s.heap TI (.ref j1) (.ref j2)) (zO : IsPair s.heap TO a b)
    (i1 : s.heap.IsTupleIter j1 t1 k) (i2 : s.heap.IsTupleIter j2 t2 k) (l1 : s.heap.IsTuple t1 xs) (l2 : s.heap.IsTuple t2 ys) (ex : xs[k]? = some x) (ey : ys[k]? = some y)
    (q : ∀ g, IsZip g z TI TO (rawInt s.heap.objs.size) -> IsPair g TO x y -> g.IsTupleIter j1 t1 (k + 1) -> g.IsTupleIter j2 t2 (k + 1) -> IsPair g s.heap.objs.size x y ->
      (∀ c o, c ≠ z -> c ≠ TO -> c ≠ j1 -> c ≠ j2 -> s.heap.get? c = some o -> g.get? c = some o) -> Q (.ref s.heap.objs.size) { s with heap := g }) :
    wpAny (model prog w) A (Builtin.«zip.__next__» ⟨[.ref z], []⟩) (fun fin s' => ∃ v, fin = .done (.ret v) /\ Q v s') E s := by
  show wpAny _ _ (field (.ref z) 2 >>= _) _ _ _
  refine wpAny_bind (wpAny_field zz rfl (x := .bool false) rfl ?_)
  show wpAny _ _ (field (.ref z) 3 >>= _) _ _ _
  refine wpAny_bind (wpAny_field zz rfl (x := .ref TI) rfl (wpAny_bind (wpAny_seqItems zI rfl ?_)))
  show wpAny _ _ (Builtin.SmallTypes.ownedTupleIsFree (.ref z) >>= _) _ _ _
  refine wpAny_bind ?_
  unfold Builtin.SmallTypes.ownedTupleIsFree
  refine wpAny_bind (wpAny_field zz rfl (x := .none) rfl (wpAny_pure ?_))
  simp only [if_true]
  refine wpAny_bind (wpAny_rule (wpAny_bind (wpAny_field zz rfl (x := .ref TO) rfl (wpAny_bind (wpAny_setField_rec zz (by simp) fun g1 zz1 s1 => ?_)))))
  replace zz1 : IsZip g1 z TI TO .ellipsis := zz1
  refine wpAny_bind ?_
  simp only [List.zipIdx_cons, List.zipIdx_nil, List.forIn_cons, List.forIn_nil]
  refine wpAny_bind (wpAny_bind (wpAny_onRaise ?_))
  show wpAny _ _ (Builtin.SmallTypes.nextOf (.ref j1) >>= _) _ _ _
  refine wpAny_bind (pull (i1.extBut s1.extBut D.i1z) (l1.extBut s1.extBut D.l1z) ex fun g2 i1' s2 => wpAny_pure ?_)
  have zO2 : IsPair g2 TO a b := s2.extBut _ _ D.TOi1 (s1.extBut _ _ D.TOz zO)
  refine wpAny_bind (wpAny_seqItems zO2 rfl (wpAny_bind (wpAny_updateSeq_pair zO2 fun g3 zO3 s3 => ?_)))
  replace zO3 : IsPair g3 TO x b := zO3
  refine wpAny_bind (wpAny_letGo (wpAny_pure (wpAny_bind (wpAny_bind (wpAny_onRaise ?_)))))
  show wpAny _ _ (Builtin.SmallTypes.nextOf (.ref j2) >>= _) _ _ _
  have i2' := ((i2.extBut s1.extBut D.i2z).extBut s2.extBut D.i12.symm).extBut s3.extBut D.TOi2.symm
  have l2' := ((l2.extBut s1.extBut D.l2z).extBut s2.extBut D.l2i1).extBut s3.extBut D.l2TO
  refine wpAny_bind (pull i2' l2' ey fun g4 i2'' s4 => wpAny_pure ?_)
  have zO4 : IsPair g4 TO x b := s4.extBut _ _ D.TOi2 zO3
  refine wpAny_bind (wpAny_seqItems zO4 rfl (wpAny_bind (wpAny_updateSeq_pair zO4 fun g5 zO5 s5 => ?_)))
  replace zO5 : IsPair g5 TO x y := zO5
  refine wpAny_bind (wpAny_letGo (wpAny_pure (wpAny_pure (wpAny_bind (wpAny_seqItems zO5 rfl (wpAny_bind (wpAny_newTuple ?_)))))))
  have sz : g5.objs.size = s.heap.objs.size := by rw [s5.1, s4.1, s3.1, s2.1, s1.1]
  have zz5 : IsZip g5 z TI TO .ellipsis := s5.extBut _ _ D.TOz.symm (s4.extBut _ _ D.i2z.symm (s3.extBut _ _ D.TOz.symm (s2.extBut _ _ D.i1z.symm zz1)))
  have up5 : ∀ c o, c ≠ z -> c ≠ TO -> c ≠ j1 -> c ≠ j2 -> s.heap.get? c = some o -> g5.get? c = some o := fun c o n1 n2 n3 n4 q' =>
    s5.extBut _ _ n2 (s4.extBut _ _ n4 (s3.extBut _ _ n2 (s2.extBut _ _ n3 (s1.extBut _ _ n1 q'))))
  have j15 : g5.IsTupleIter j1 t1 (k + 1) := ((i1'.extBut s3.extBut D.TOi1.symm).extBut s4.extBut D.i12).extBut s5.extBut D.TOi1.symm
  have j25 : g5.IsTupleIter j2 t2 (k + 1) := i2''.extBut s5.extBut D.TOi2.symm
  have zlt : z < g5.objs.size := Heap.lt_size zz5
  show wpAny _ _ (Builtin.SmallTypes.ownedTupleHandOut (.ref z) (.ref g5.objs.size) >>= _) _ _ _
  refine wpAny_bind ?_
  unfold Builtin.SmallTypes.ownedTupleHandOut
  have zz6 : IsZip (g5.push { cls := .type "tuple", data := .seq #[x, y] }) z TI TO .ellipsis := Heap.get?_push_of_some _ zz5
  refine wpAny_bind (wpAny_setField_rec zz6 (by simp) fun g7 zz7 s7 => ?_)
  replace zz7 : IsZip g7 z TI TO (rawInt g5.objs.size) := zz7
  refine wpAny_setField_rec zz7 (by simp) fun g8 zz8 s8 => ?_
  replace zz8 : IsZip g8 z TI TO (rawInt g5.objs.size) := zz8
  have up8 : ∀ c o, c ≠ z -> g5.get? c = some o -> g8.get? c = some o := fun c o n1 q' => s8.extBut _ _ n1 (s7.extBut _ _ n1 (Heap.get?_push_of_some _ q'))
  have new8 : IsPair g8 g5.objs.size x y := s8.extBut _ _ (Nat.ne_of_gt zlt) (s7.extBut _ _ (Nat.ne_of_gt zlt) (Heap.get?_push_size _ rfl))
  rw [sz] at zz8 new8
  refine wpAny_pure ⟨_, rfl, ?_⟩
  show Q (.ref g5.objs.size) _
  rw [sz]
  refine q g8 zz8 (up8 _ _ D.TOz zO5) ?_ ?_ new8 fun c o n1 n2 n3 n4 q' => up8 c o n1 (up5 c o n1 n2 n3 n4 q')
  · obtain ⟨o, e, r⟩ := j15
    exact ⟨o, up8 _ _ D.i1z e, r⟩
  · obtain ⟨o, e, r⟩ := j25
    exact ⟨o, up8 _ _ D.i2z e, r⟩
theorem zip_stop {z TI TO j1 j2 t1 t2 : Addr} {k : Nat} {xs ys : Array Value} {a b : Value} {Q : Fin -> Shared -> Prop} (hd : A.handled = none) (D : ZipApart z TI TO j1 j2 t1 t2)
    (zz : IsZip s.heap z TI TO .none) (zI : IsPair s.heap TI (.ref j1) (.ref j2)) (zO : IsPair s.heap TO a b)
    (i1 : s.heap.IsTupleIter j1 t1 k) (i2 : s.heap.IsTupleIter j2 t2 k) (l1 : s.heap.IsTuple t1 xs) (l2 : s.heap.IsTuple t2 ys) (ee : xs[k]? = none ∨ ys[k]? = none)
    (q : ∀ g e, (∀ c o, c ≠ z -> c ≠ TO -> c ≠ j1 -> c ≠ j2 -> s.heap.get? c = some o -> g.get? c = some o) -> (∃ o, g.get? e = some o /\ o.cls = .type "StopIteration") -> E (.ref e) { s with heap := g }) :
    wpAny (model prog w) A (Builtin.«zip.__next__» ⟨[.ref z], []⟩) Q E s := by
  show wpAny _ _ (field (.ref z) 2 >>= _) _ _ _
  refine wpAny_bind (wpAny_field zz rfl (x := .bool false) rfl ?_)
  show wpAny _ _ (field (.ref z) 3 >>= _) _ _ _
  refine wpAny_bind (wpAny_field zz rfl (x := .ref TI) rfl (wpAny_bind (wpAny_seqItems zI rfl ?_)))
  show wpAny _ _ (Builtin.SmallTypes.ownedTupleIsFree (.ref z) >>= _) _ _ _
  refine wpAny_bind ?_
  unfold Builtin.SmallTypes.ownedTupleIsFree
  refine wpAny_bind (wpAny_field zz rfl (x := .none) rfl (wpAny_pure ?_))
  simp only [if_true]
  refine wpAny_bind (wpAny_rule (wpAny_bind (wpAny_field zz rfl (x := .ref TO) rfl (wpAny_bind (wpAny_setField_rec zz (by simp) fun g1 zz1 s1 => ?_)))))
  replace zz1 : IsZip g1 z TI TO .ellipsis := zz1
  refine wpAny_bind ?_
  simp only [List.zipIdx_cons, List.zipIdx_nil, List.forIn_cons, List.forIn_nil]
  refine wpAny_bind (wpAny_bind (wpAny_onRaise ?_))
  show wpAny _ _ (Builtin.SmallTypes.nextOf (.ref j1) >>= _) _ _ _
  cases ex : xs[k]? with
  | none =>
    refine wpAny_bind (pull_end hd (i1.extBut s1.extBut D.i1z) (l1.extBut s1.extBut D.l1z) ex fun g2 e s2 ⟨oe, goe, coe⟩ => ?_)
    have zz2 : IsZip g2 z TI TO .ellipsis := s2 _ _ D.i1z.symm zz1
    have nez : e ≠ z := fun y => by
      subst y
      rw [zz2] at goe
      cases goe
      simp at coe
    exact wpAny_setField_rec zz2 (by simp) fun g3 _ s3 => q g3 e (fun c o n1 _ n3 _ y => s3.extBut _ _ n1 (s2 _ _ n3 (s1.extBut _ _ n1 y))) ⟨oe, s3.extBut _ _ nez goe, coe⟩
  | some x =>
    have ey : ys[k]? = none := ee.resolve_left (by rw [ex]; exact fun y => nomatch y)
    refine wpAny_bind (pull (i1.extBut s1.extBut D.i1z) (l1.extBut s1.extBut D.l1z) ex fun g2 i1' s2 => wpAny_pure ?_)
    have zO2 : IsPair g2 TO a b := s2.extBut _ _ D.TOi1 (s1.extBut _ _ D.TOz zO)
    refine wpAny_bind (wpAny_seqItems zO2 rfl (wpAny_bind (wpAny_updateSeq_pair zO2 fun g3 zO3 s3 => ?_)))
    refine wpAny_bind (wpAny_letGo (wpAny_pure (wpAny_bind (wpAny_bind (wpAny_onRaise ?_)))))
    show wpAny _ _ (Builtin.SmallTypes.nextOf (.ref j2) >>= _) _ _ _
    have i2' := ((i2.extBut s1.extBut D.i2z).extBut s2.extBut D.i12.symm).extBut s3.extBut D.TOi2.symm
    have l2' := ((l2.extBut s1.extBut D.l2z).extBut s2.extBut D.l2i1).extBut s3.extBut D.l2TO
    refine wpAny_bind (pull_end hd i2' l2' ey fun g4 e s4 ⟨oe, goe, coe⟩ => ?_)
    have zz4 : IsZip g4 z TI TO .ellipsis := s4 _ _ D.i2z.symm (s3.extBut _ _ D.TOz.symm (s2.extBut _ _ D.i1z.symm zz1))
    have nez : e ≠ z := fun y => by
      subst y
      rw [zz4] at goe
      cases goe
      simp at coe
    exact wpAny_setField_rec zz4 (by simp) fun g5 _ s5 => q g5 e (fun c o n1 n2 n3 n4 y => s5.extBut _ _ n1 (s4 _ _ n4 (s3.extBut _ _ n2 (s2.extBut _ _ n3 (s1.extBut _ _ n1 y))))) ⟨oe, s5.extBut _ _ nez goe, coe⟩
theorem next_item {z TI TO j1 j2 t1 t2 : Addr} {k : Nat} {xs ys : Array Value} {x y a b : Value} {Q : Option Value -> Shared -> Prop} (D : ZipApart z TI TO j1 j2 t1 t2)
    (zz : IsZip s.heap z TI TO .none) (zI : IsPair s.heap TI (.ref j1) (.ref j2)) (zO : IsPair s.heap TO a b)
    (i1 : s.heap.IsTupleIter j1 t1 k) (i2 : s.heap.IsTupleIter j2 t2 k) (l1 : s.heap.IsTuple t1 xs) (l2 : s.heap.IsTuple t2 ys) (ex : xs[k]? = some x) (ey : ys[k]? = some y)
    (q : ∀ g, IsZip g z TI TO (rawInt s.heap.objs.size) -> IsPair g TO x y -> g.IsTupleIter j1 t1 (k + 1) -> g.IsTupleIter j2 t2 (k + 1) -> IsPair g s.heap.objs.size x y ->
      (∀ c o, c ≠ z -> c ≠ TO -> c ≠ j1 -> c ≠ j2 -> s.heap.get? c = some o -> g.get? c = some o) -> Q (some (.ref s.heap.objs.size)) { s with heap := g }) : wpAny (model prog w) A (pyNext (.ref z)) Q E s := by
  have ty : s.TypeIs (.ref z) "zip" := ⟨_, zz, rfl⟩
  unfold pyNext
  refine wpAny_bind (wpAny_attempt (wpAny_callSpecial?_slot (name := Str.ofString "__next__") ty F.slot_zip_next (wpAny_call_entry F.slot_zip_next ty F.entry_zip_next ?_ (F.args_zip_next_1 _))))
  exact zip_item D zz zI zO i1 i2 l1 l2 ex ey fun g b1 b2 b3 b4 b5 b6 => wpAny_pure (q g b1 b2 b3 b4 b5 b6)
theorem next_stop {z TI TO j1 j2 t1 t2 : Addr} {k : Nat} {xs ys : Array Value} {a b : Value} {Q : Option Value -> Shared -> Prop} (hd : A.handled = none) (D : ZipApart z TI TO j1 j2 t1 t2)
    (zz : IsZip s.heap z TI TO .none) (zI : IsPair s.heap TI (.ref j1) (.ref j2)) (zO : IsPair s.heap TO a b)
    (i1 : s.heap.IsTupleIter j1 t1 k) (i2 : s.heap.IsTupleIter j2 t2 k) (l1 : s.heap.IsTuple t1 xs) (l2 : s.heap.IsTuple t2 ys) (ee : xs[k]? = none ∨ ys[k]? = none)
    (q : ∀ g, (∀ c o, c ≠ z -> c ≠ TO -> c ≠ j1 -> c ≠ j2 -> s.heap.get? c = some o -> g.get? c = some o) -> Q none { s with heap := g }) : wpAny (model prog w) A (pyNext (.ref z)) Q E s := by
  have ty : s.TypeIs (.ref z) "zip" := ⟨_, zz, rfl⟩
  unfold pyNext
  refine wpAny_bind (wpAny_attempt (wpAny_callSpecial?_slot (name := Str.ofString "__next__") ty F.slot_zip_next (wpAny_call_entry F.slot_zip_next ty F.entry_zip_next ?_ (F.args_zip_next_1 _))))
  refine zip_stop hd D zz zI zO i1 i2 l1 l2 ee fun g e up ⟨oe, goe, coe⟩ => ?_
  exact wpAny_bind (wpAny_isInstance (T := "StopIteration") (b := true) ⟨oe, goe, coe⟩ isSubtype_stop (wpAny_pure (q _ up)))
end
abbrev mk1 (h : Heap) (t1 : Addr) : Heap := h.push { cls := .type "tuple_iterator", data := .fields #[.ref t1, .int 0 0] }
abbrev mk2 (h : Heap) (t1 t2 : Addr) : Heap := (mk1 h t1).push { cls := .type "tuple_iterator", data := .fields #[.ref t2, .int 0 0] }
abbrev mk3 (h : Heap) (t1 t2 : Addr) : Heap := (mk2 h t1 t2).push { cls := .type "tuple", data := .seq #[.ref h.objs.size, .ref (mk1 h t1).objs.size] }
abbrev mk4 (h : Heap) (t1 t2 : Addr) : Heap := (mk3 h t1 t2).push { cls := .type "tuple", data := .seq #[.none, .none] }
abbrev mk5 (h : Heap) (t1 t2 : Addr) : Heap := (mk4 h t1 t2).push { cls := .type "zip", data := .fields #[.none, .bool false, .bool false, .ref (mk2 h t1 t2).objs.size, .ref (mk3 h t1 t2).objs.size] }
theorem meets_new (t1 t2 : Addr) (xs ys : Array Value) : Meets (Builtin.«zip.__new__» ⟨[.type "zip", .ref t1, .ref t2], []⟩) (fun _ R s => s.heap.IsTuple t1 xs /\ s.heap.IsTuple t2 ys /\ R (.ok (.ret (.ref (mk4 s.heap t1 t2).objs.size))) { s with heap := mk5 s.heap t1 t2 }) :=
  .of_wp fun prog w A R s h => by
    obtain ⟨hh, gg, dd, tt, oo⟩ := s
    obtain ⟨a1, a2, h⟩ := h
    have sub := sub_zip
    have b1 : Heap.IsTuple (Shared.heap ⟨hh, gg, dd, tt, oo⟩) t1 xs := a1
    have b2 : Heap.IsTuple (Shared.heap ⟨mk1 hh t1, gg, dd, tt, oo⟩) t2 ys := Heap.IsTuple.push a2 _
    wp_walk using wpAny_pyIter_tuple b1, wpAny_pyIter_tuple b2
    exact ⟨_, rfl, h⟩
section
variable {prog : Program} {w : World} {A : Around} {E : Value -> Shared -> Prop} {s : Shared}
theorem make {t1 t2 : Addr} {xs ys : Array Value} {Q : Value -> Shared -> Prop} (a1 : s.heap.IsTuple t1 xs) (a2 : s.heap.IsTuple t2 ys)
    (q : ∀ g, IsZip g (s.heap.objs.size + 4) (s.heap.objs.size + 2) (s.heap.objs.size + 3) .none -> IsPair g (s.heap.objs.size + 2) (.ref s.heap.objs.size) (.ref (s.heap.objs.size + 1)) -> IsPair g (s.heap.objs.size + 3) .none .none ->
      g.IsTupleIter s.heap.objs.size t1 0 -> g.IsTupleIter (s.heap.objs.size + 1) t2 0 -> (∀ c o, s.heap.get? c = some o -> g.get? c = some o) -> Q (.ref (s.heap.objs.size + 4)) { s with heap := g }) :
    wpAny (model prog w) A (call (.type "zip") [.ref t1, .ref t2]) Q E s := by
  refine callType_new F.called_zip (by decide) (F.typeCall_zip_2 _ _) (F.newCall_zip_2 _ _) (fun obj => F.args_object_init_3 obj _ _) F.entry_zip_new (meets_new t1 t2 xs ys) ⟨a1, a2, ?_⟩
  have n1 : (mk1 s.heap t1).objs.size = s.heap.objs.size + 1 := Heap.size_push ..
  have n2 : (mk2 s.heap t1 t2).objs.size = s.heap.objs.size + 2 := by rw [Heap.size_push, n1]
  have n3 : (mk3 s.heap t1 t2).objs.size = s.heap.objs.size + 3 := by rw [Heap.size_push, n2]
  have n4 : (mk4 s.heap t1 t2).objs.size = s.heap.objs.size + 4 := by rw [Heap.size_push, n3]
  have p5 : (mk5 s.heap t1 t2).get? (mk4 s.heap t1 t2).objs.size = some _ := Heap.get?_push_size _ rfl
  have p4 : (mk5 s.heap t1 t2).get? (mk3 s.heap t1 t2).objs.size = some _ := Heap.get?_push_of_some _ (Heap.get?_push_size _ rfl)
  have p3 : (mk5 s.heap t1 t2).get? (mk2 s.heap t1 t2).objs.size = some _ := Heap.get?_push_of_some _ (Heap.get?_push_of_some _ (Heap.get?_push_size _ rfl))
  have p2 : (mk5 s.heap t1 t2).get? (mk1 s.heap t1).objs.size = some _ := Heap.get?_push_of_some _ (Heap.get?_push_of_some _ (Heap.get?_push_of_some _ (Heap.get?_push_size _ rfl)))
  have p1 : (mk5 s.heap t1 t2).get? s.heap.objs.size = some _ := Heap.get?_push_of_some _ (Heap.get?_push_of_some _ (Heap.get?_push_of_some _ (Heap.get?_push_of_some _ (Heap.get?_push_size _ rfl))))
  show _ /\ _
  rw [n2, n3, n4] at p5
  rw [n1, n2] at p3
  rw [n3] at p4
  rw [n1] at p2
  rw [n4]
  exact ⟨⟨_, p5, rfl⟩, q _ p5 p3 p4 ⟨_, p1, rfl, rfl⟩ ⟨_, p2, rfl, rfl⟩ fun c o y => Heap.get?_push_of_some _ (Heap.get?_push_of_some _ (Heap.get?_push_of_some _ (Heap.get?_push_of_some _ (Heap.get?_push_of_some _ y))))⟩
end
end Zt
namespace L2
open PySem PySem.Spec PyProof.Rows
def Itz (K : PySem.W.Frag) (a b : Addr) : It :=
  ⟨fun i H => ∃ xs ys x y, SqT K H a xs /\ SqT K H b ys /\ xs[i]? = some x /\ ys[i]? = some y,
   fun i H v H' => ∃ p, H p = none /\ v = .ref p /\ ∃ x y, H' = upd H p (.tup [x, y]) /\ ∀ xs ys, SqT K H a xs -> SqT K H b ys -> xs[i]? = some x /\ ys[i]? = some y,
   fun i H => ∃ xs ys, SqT K H a xs /\ SqT K H b ys /\ (xs.length <= i ∨ ys.length <= i)⟩
def tupleTg : Expr -> Bool
  | .Tuple _ _ _ => true
  | _ => false
theorem Inv.turnedNew {X : Cx} {pins : List (Addr × Obj)} {σ : St} {H : Hp} {s : Shared} {h' : Heap} {t' : Nat} {L : List Addr} {p : Addr} {xs : List V} (I : Inv X pins σ H s) (k : ∀ b o, b ∉ L -> s.heap.get? b = some o -> h'.get? b = some o)
    (hf : ∀ b ∈ L, FpOk X pins H b) (hp : s.heap.objs.size <= p) (new : ObjOk X.prog X.w (upd H p (.tup xs)) h' p (.tup xs)) : Inv X pins σ (upd H p (.tup xs)) { s with heap := h', toks := t' } := by
  have hn : H p = none := I.hok.fresh hp
  have ne : ∀ b o, s.heap.get? b = some o -> b ≠ p := fun b o e => Nat.ne_of_lt (Nat.lt_of_lt_of_le (Heap.lt_size e) hp)
  have nit : ∀ b u, H b = some u -> b ∉ L := fun b u e z => by rw [(hf b z).1] at e; cases e
  refine I.step (g' := s.gens) (d' := s.drawn) (ch := L) (fun b hb => ?_) (fun b o _ _ hc e _ => k b o hc e) (fun b o _ _ hc e _ => ⟨o.slots, k b o hc e⟩) (fun b o _ e n => by rw [upd_ne (ne b o e)]; exact n) (fun b o hc e => ⟨o, k b o hc e⟩)
    (fun b ys e => by rw [upd_ne (ne_of_none e hn)]; exact e) (fun b o u e => by rw [upd_ne (ne_of_none e hn)]; exact e) (fun b ps e => ⟨#[], by rw [upd_ne (ne_of_none e hn), e]; simp⟩) (fun m hm => ?_) (fun b u e => ?_) I.bare
  · obtain ⟨_, f1, _, f3, f4, f5⟩ := hf b hb
    exact ⟨f3, f1, f4, f5⟩
  · obtain ⟨o, es, ep, ho, r⟩ := hm
    exact ⟨o, es, ep, k _ o (fun z => (hf _ z).2.1 rfl) ho, r⟩
  · by_cases hb : b = p
    · subst hb
      rw [upd_same] at e
      cases e
      exact new
    · rw [upd_ne hb] at e
      refine (I.hok b u e).stay (fun c v hc q => k c v ?_ q) (fun c q => by rw [upd_ne (ne_of_none q hn)]; exact q) fun c ys q => by rw [upd_ne (ne_of_none q hn)]; exact q
      rcases hc with z | z
      · rw [z]; exact nit b u e
      · exact nit c _ z
theorem Inv.turnedL {X : Cx} {pins : List (Addr × Obj)} {σ : St} {H : Hp} {s : Shared} {h' : Heap} {t' : Nat} {L : List Addr} (I : Inv X pins σ H s) (k : ∀ b o, b ∉ L -> s.heap.get? b = some o -> h'.get? b = some o)
    (hf : ∀ b ∈ L, FpOk X pins H b) : Inv X pins σ H { s with heap := h', toks := t' } := by
  have nit : ∀ b u, H b = some u -> b ∉ L := fun b u e z => by rw [(hf b z).1] at e; cases e
  refine I.step (g' := s.gens) (d' := s.drawn) (ch := L) (fun b hb => ?_) (fun b o _ _ hc e _ => k b o hc e) (fun b o _ _ hc e _ => ⟨o.slots, k b o hc e⟩) (fun _ _ _ _ n => n) (fun b o hc e => ⟨o, k b o hc e⟩) (fun _ _ e => e) (fun _ _ _ e => e) (fun b ps e => ⟨#[], by rw [e]; simp⟩)
    (fun m hm => ?_) (fun b u e => ?_) I.bare
  · obtain ⟨_, f1, _, f3, f4, f5⟩ := hf b hb
    exact ⟨f3, f1, f4, f5⟩
  · obtain ⟨o, es, ep, ho, r⟩ := hm
    exact ⟨o, es, ep, k _ o (fun z => (hf _ z).2.1 rfl) ho, r⟩
  · refine (I.hok b u e).stay (fun c v hc q => k c v ?_ q) (fun _ q => q) fun _ _ q => q
    rcases hc with z | z
    · rw [z]; exact nit b u e
    · exact nit c _ z
theorem turn_zip {P : Program} {w : World} {K : PySem.W.Frag} {tg : Expr} (htg : tupleTg tg = true) {z TI TO j1 j2 a b : Addr} (D : ZipApart z TI TO j1 j2 a b) :
    Turn P w K tg (Itz K a b) [z, TO, j1, j2, TI] z (fun i h => IsZip h z TI TO .none /\ IsPair h TI (.ref j1) (.ref j2) /\ (∃ u v, IsPair h TO u v) /\ h.IsTupleIter j1 a i /\ h.IsTupleIter j2 b i) where
  mem := List.mem_cons_self
  obj := fun i h st c hc => by
    obtain ⟨h1, h2, ⟨u, v, h3⟩, ⟨o4, h4, _, d4⟩, ⟨o5, h5, _, d5⟩⟩ := st
    have nof : ∀ {o : Obj} {vs : Array Value}, o.data = .fields vs -> ∀ v, o.data ≠ .cell v := fun e v q => by rw [e] at q; cases q
    have nos : ∀ {o : Obj} {vs : Array Value} {n : Nat}, o.data = .seq vs n -> ∀ v, o.data ≠ .cell v := fun e v q => by rw [e] at q; cases q
    simp only [List.mem_cons, List.not_mem_nil, or_false] at hc
    rcases hc with rfl | rfl | rfl | rfl | rfl
    · exact ⟨_, h1, nof rfl⟩
    · exact ⟨_, h3, nos rfl⟩
    · exact ⟨_, h4, nof d4⟩
    · exact ⟨_, h5, nof d5⟩
    · exact ⟨_, h2, nos rfl⟩
  keep := fun i h h' st k => by
    obtain ⟨h1, h2, ⟨u, v, h3⟩, ⟨o4, h4, r4⟩, ⟨o5, h5, r5⟩⟩ := st
    exact ⟨k _ (by simp) _ h1, k _ (by simp) _ h2, ⟨u, v, k _ (by simp) _ h3⟩, ⟨o4, k _ (by simp) _ h4, r4⟩, ⟨o5, k _ (by simp) _ h5, r5⟩⟩
  item := by
    intro X hP hw hK hc i pins s σ H E I hf st hg
    subst hP hw hK
    obtain ⟨h1, h2, ⟨u, v, h3⟩, h4, h5⟩ := st
    obtain ⟨xs, ys, x, y, qa, qb, hx, hy⟩ := hg
    obtain ⟨its, rv, pa, _⟩ := I.tuple qa
    obtain ⟨jts, rw', pb, _⟩ := I.tuple qb
    obtain ⟨ux, eux, rux⟩ := rv.get hx
    obtain ⟨uy, euy, ruy⟩ := rw'.get hy
    refine Zt.next_item D h1 h2 h3 h4 h5 (show s.heap.IsTuple a its.toArray from pa) (show s.heap.IsTuple b jts.toArray from pb) (x := ux) (y := uy) (by simpa using eux) (by simpa using euy) fun g b1 b2 b3 b4 b5 b6 => ?_
    refine ⟨_, rfl, ?_⟩
    have zlt : z < s.heap.objs.size := Heap.lt_size h1
    cases tg with
    | Tuple es kk pp =>
      refine wpAny_letOwnedTupleGo_zip b1 fun g' c1 sb => ?_
      have new : IsPair g' s.heap.objs.size ux uy := sb.extBut _ _ (Nat.ne_of_gt zlt) b5
      have I1 : Inv X pins σ (upd H s.heap.objs.size (.tup [x, y])) { s with heap := g' } := by
        refine I.turnedNew (t' := s.toks) (L := [z, TO, j1, j2, TI]) (fun c o hcn e => ?_) hf (Nat.le_refl _) ⟨by show 2 <= sizeLine; decide, [ux, uy], .cons rux (.cons ruy .nil), ⟨_, new, rfl, ⟨0, rfl⟩, rfl⟩⟩
        simp only [List.mem_cons, List.not_mem_nil, or_false, not_or] at hcn
        exact sb.extBut c o hcn.1 (b6 c o hcn.1 hcn.2.1 hcn.2.2.1 hcn.2.2.2.1 e)
      have h2' : IsPair g' TI (.ref j1) (.ref j2) := sb.extBut _ _ D.TIz (b6 _ _ D.TIz D.TITO D.TIi1 D.TIi2 h2)
      refine ⟨.ref s.heap.objs.size, _, I1, rfl, ⟨_, I.fresh, rfl, x, y, rfl, fun xs' ys' q1 q2 => ⟨by rw [I.tuple_inj q1 qa]; exact hx, by rw [I.tuple_inj q2 qb]; exact hy⟩⟩, ⟨c1, h2', ⟨_, _, sb.extBut _ _ D.TOz b2⟩, b3.extBut sb.extBut D.i1z, b4.extBut sb.extBut D.i2z⟩, fun c hcm => ?_⟩
      obtain ⟨o, eo, _⟩ : ∃ o, s.heap.get? c = some o /\ True := by
        simp only [List.mem_cons, List.not_mem_nil, or_false] at hcm
        rcases hcm with rfl | rfl | rfl | rfl | rfl
        · exact ⟨_, h1, trivial⟩
        · exact ⟨_, h3, trivial⟩
        · obtain ⟨o4, g4, _⟩ := h4
          exact ⟨_, g4, trivial⟩
        · obtain ⟨o5, g5, _⟩ := h5
          exact ⟨_, g5, trivial⟩
        · exact ⟨_, h2, trivial⟩
      rw [upd_ne (Nat.ne_of_lt (Heap.lt_size eo))]
      exact (hf c hcm).1
    | _ => exact absurd (show false = true from htg) Bool.false_ne_true
  done := by
    intro X hP hw hK hc i pins s σ H E I hf st hg
    subst hP hw hK
    obtain ⟨h1, h2, ⟨u, v, h3⟩, h4, h5⟩ := st
    obtain ⟨xs, ys, qa, qb, hl⟩ := hg
    obtain ⟨its, rv, pa, _⟩ := I.tuple qa
    obtain ⟨jts, rw', pb, _⟩ := I.tuple qb
    have e1 := rv.length
    have e2 := rw'.length
    refine Zt.next_stop (I.ok.hd hc) D h1 h2 h3 h4 h5 (show s.heap.IsTuple a its.toArray from pa) (show s.heap.IsTuple b jts.toArray from pb) ?_ fun g up => ⟨rfl, ?_⟩
    · rcases hl with hl | hl
      · exact .inl (by simp; omega)
      · exact .inr (by simp; omega)
    · refine I.turnedL (t' := s.toks) (L := [z, TO, j1, j2, TI]) (fun c o hcn e => ?_) hf
      simp only [List.mem_cons, List.not_mem_nil, or_false, not_or] at hcn
      exact up c o hcn.1 hcn.2.1 hcn.2.2.1 hcn.2.2.2.1 e
  self := fun _ _ _ _ _ st h => wpAny_pyIter_zip st.1 h
section
variable {X : Cx} {tg : Expr}
def iZip (K : PySem.W.Frag) (ta : TA) : TI := fun σ H R => ta σ H fun vs H1 => ∃ a b, vs = [.ref a, .ref b] /\ (∃ xs, SqT K H1 a xs) /\ (∃ ys, SqT K H1 b ys) /\ R (Itz K a b) H1
theorem apart_new {n l1 l2 : Addr} (h1 : l1 < n) (h2 : l2 < n) : ZipApart (n + 4) (n + 2) (n + 3) n (n + 1) l1 l2 := zipApart_new h1 h2
theorem pi_zip {e1 e2 : Expr} {ta : TA} {p pos : Pos} (htg : tupleTg tg = true) (hg : Gl X "zip") (hm : X.mg "zip" = none) (ha : PA X [e1, e2] ta) (hs : starEach [e1, e2] X.env = [(false, eval e1 X.env), (false, eval e2 X.env)] := by rfl) (hs2 : starEach [e2] X.env = [(false, eval e2 X.env)] := by rfl)
    (hb : bootBuiltins "zip" = some (.type "zip") := by decide +kernel) : PI X tg (.Call (.Name "zip" p) [e1, e2] [] pos) (iZip X.K ta) := by
  intro pins s σ H R I h
  refine Call_ (ld_blt I hg hm hb (PyProof.Rows.callWith_type1 (thn (ha pos pins s σ H _ I h) fun us s1 ⟨vs, H1, I1, r1, q1⟩ => ?_) (by rw [hs, hs2]) (by rw [hs2]; rfl)))
  obtain ⟨a, b, e, ⟨xs, qa⟩, ⟨ys, qb⟩, q⟩ := q1
  subst e
  obtain ⟨u1, u2, rfl, ra, rb⟩ := vals2 r1
  cases ra
  cases rb
  obtain ⟨its, rv, pa, _⟩ := I1.tuple qa
  obtain ⟨jts, rw', pb, _⟩ := I1.tuple qb
  have la : a < s1.heap.objs.size := by obtain ⟨o, e, _⟩ := pa; exact Heap.lt_size e
  have lb : b < s1.heap.objs.size := by obtain ⟨o, e, _⟩ := pb; exact Heap.lt_size e
  refine Zt.make (show s1.heap.IsTuple a its.toArray from pa) (show s1.heap.IsTuple b jts.toArray from pb) fun g z1 z2 z3 z4 z5 up => ?_
  refine wpAny_pyIter_zip z1 ?_
  have I2 : Inv X pins σ H1 { s1 with heap := g } := I1.kept (t' := s1.toks) up
  refine ⟨_, [s1.heap.objs.size + 4, s1.heap.objs.size + 3, s1.heap.objs.size, s1.heap.objs.size + 1, s1.heap.objs.size + 2], _, _, H1, rfl, I2, turn_zip htg (apart_new la lb), ⟨z1, z2, ⟨_, _, z3⟩, z4, z5⟩, fun c hc => ?_, q⟩
  have big : s1.heap.objs.size <= c := by
    simp only [List.mem_cons, List.not_mem_nil, or_false] at hc
    rcases hc with rfl | rfl | rfl | rfl | rfl
    · exact Nat.le_add_right _ _
    · exact Nat.le_add_right _ _
    · exact Nat.le_refl _
    · exact Nat.le_add_right _ _
    · exact Nat.le_add_right _ _
  exact I1.fpOk big (I1.hok.fresh big)
end
end L2
namespace Tp
open PySem PyProof.Rows
open AutoSeq1 (wpAny_loadPart')
end Tp
namespace L2
open PySem PySem.Spec PyProof.Rows
end L2
namespace Tp
open PySem PyProof.Rows
open AutoSeq1 (wpAny_loadPart')
end Tp
namespace HT
open PySem PyProof.Rows
end HT
namespace L2
open PySem PySem.Spec PyProof.Rows
end L2
namespace L2
open PySem PySem.Spec PyProof.Rows
end L2
namespace L2
open PySem PySem.Spec PyProof.Rows
theorem pe_ty {X : Cx} {x : Str} {T : String} {pos : Pos} (hg : Gl X x) (hm : X.mg x = none) (hv : bootBuiltins x = some (.type T)) (hn : x ≠ "__name__" := by decide) (hd : (x == ("__debug__" : Str)) = false := by decide) : PE X (.Name x pos) (tC (.ty T)) :=
  pe_bltn (v := .ty T) hg hm hv rfl hn hd
end L2
namespace Mth
def strip (p : Nat) (n : Nat) : Nat := if h : 2 <= p /\ 1 <= n /\ n % p = 0 then strip p (n / p) else n
termination_by n
decreasing_by exact Nat.div_lt_self h.2.1 h.1
theorem strip_div {p n : Nat} (hp : 2 <= p) (hn : 1 <= n) (h : n % p = 0) : strip p n = strip p (n / p) := by
  conv => lhs; unfold strip
  rw [dif_pos ⟨hp, hn, h⟩]
theorem strip_not {p n : Nat} (h : n % p ≠ 0) : strip p n = n := by
  unfold strip
  rw [dif_neg (fun q => h q.2.2)]
theorem div_pos_of {p n : Nat} (hn : 1 <= n) (h : n % p = 0) : 1 <= n / p := by
  have e := Nat.div_add_mod n p
  rw [h] at e
  rcases Nat.eq_zero_or_pos (n / p) with z | z
  · rw [z] at e; omega
  · exact z
theorem strip_pos {p : Nat} (hp : 2 <= p) : ∀ n : Nat, 1 <= n -> 1 <= strip p n := by
  intro n
  induction n using Nat.strongRecOn with
  | ind n ih =>
    intro hn
    by_cases h : n % p = 0
    · rw [strip_div hp hn h]
      exact ih _ (Nat.div_lt_self hn hp) (div_pos_of hn h)
    · rw [strip_not h]; exact hn
theorem strip_mod {p : Nat} (hp : 2 <= p) : ∀ n : Nat, 1 <= n -> strip p n % p ≠ 0 := by
  intro n
  induction n using Nat.strongRecOn with
  | ind n ih =>
    intro hn
    by_cases h : n % p = 0
    · rw [strip_div hp hn h]
      exact ih _ (Nat.div_lt_self hn hp) (div_pos_of hn h)
    · rw [strip_not h]; exact h
theorem strip_pow {p : Nat} (hp : 2 <= p) {m : Nat} (hm : 1 <= m) : ∀ e : Nat, strip p (p ^ e * m) = strip p m := by
  intro e
  induction e with
  | zero => rw [Nat.pow_zero, Nat.one_mul]
  | succ e ih =>
    have h1 : p ^ (e + 1) * m = p * (p ^ e * m) := by rw [Nat.pow_succ, Nat.mul_comm (p ^ e) p, Nat.mul_assoc]
    have hpos : 1 <= p ^ e * m := Nat.mul_pos (Nat.pow_pos (by omega)) hm
    have h2 : 1 <= p * (p ^ e * m) := Nat.mul_pos (by omega) hpos
    rw [h1, strip_div hp h2 (Nat.mul_mod_right _ _), Nat.mul_div_cancel_left _ (by omega)]
    exact ih
def primes : List Nat := [2, 3, 5, 7, 11, 13, 17, 19, 23, 29]
def stripL (ps : List Nat) (n : Nat) : Nat := ps.foldl (fun m p => strip p m) n
def stripAll (n : Nat) : Nat := stripL primes n
theorem stripL_pos : ∀ (ps : List Nat), (∀ p ∈ ps, 2 <= p) -> ∀ n, 1 <= n -> 1 <= stripL ps n
  | [], _, _, h => h
  | p :: ps, hp, n, h => stripL_pos ps (fun q hq => hp q (List.mem_cons_of_mem _ hq)) _ (strip_pos (hp p List.mem_cons_self) n h)
theorem two_le : ∀ p ∈ primes, 2 <= p := by decide
def noShare (a b : Nat) : Bool := primes.all fun p => a % p != 0 || b % p != 0
theorem noShare_iff {a b : Nat} : noShare a b = true ↔ ∀ p ∈ primes, ¬ (p ∣ a /\ p ∣ b) := by
  unfold noShare
  rw [List.all_eq_true]
  constructor
  · intro h p hp ⟨h1, h2⟩
    have := h p hp
    rw [Nat.mod_eq_zero_of_dvd h1, Nat.mod_eq_zero_of_dvd h2] at this
    exact absurd this (by decide)
  · intro h p hp
    by_cases h1 : a % p = 0
    · by_cases h2 : b % p = 0
      · exact absurd ⟨Nat.dvd_of_mod_eq_zero h1, Nat.dvd_of_mod_eq_zero h2⟩ (h p hp)
      · simp [h2]
    · simp [h1]
def prodR : List Nat -> List Nat -> Nat
  | p :: ps, e :: es => p ^ e * prodR ps es
  | _, _ => 1
theorem prodR_pos : ∀ (ps es : List Nat), (∀ p ∈ ps, 2 <= p) -> 1 <= prodR ps es
  | [], _, _ => Nat.le_refl _
  | _ :: _, [], _ => Nat.le_refl _
  | p :: ps, e :: es, h => Nat.mul_pos (Nat.pow_pos (by have := h p List.mem_cons_self; omega)) (prodR_pos ps es fun q hq => h q (List.mem_cons_of_mem _ hq))
theorem cop_prodR {p : Nat} : ∀ (ps es : List Nat), (∀ q ∈ ps, Nat.Coprime p q) -> Nat.Coprime p (prodR ps es)
  | [], _, _ => Nat.coprime_one_right p
  | _ :: _, [], _ => Nat.coprime_one_right p
  | q :: ps, e :: es, h => Nat.Coprime.mul_right (Nat.Coprime.pow_right e (h q List.mem_cons_self)) (cop_prodR ps es fun r hr => h r (List.mem_cons_of_mem _ hr))
theorem not_mod_of_cop {p n : Nat} (hp : 2 <= p) (c : Nat.Coprime p n) : n % p ≠ 0 := fun h => by
  have := c.eq_one_of_dvd (Nat.dvd_of_mod_eq_zero h)
  omega
theorem strip_one {p : Nat} (hp : 2 <= p) : strip p 1 = 1 := strip_not (by rw [Nat.mod_eq_of_lt (by omega)]; decide)
theorem stripL_one : ∀ (ps : List Nat), (∀ p ∈ ps, 2 <= p) -> stripL ps 1 = 1
  | [], _ => rfl
  | p :: ps, h => by
    show stripL ps (strip p 1) = 1
    rw [strip_one (h p List.mem_cons_self)]
    exact stripL_one ps fun q hq => h q (List.mem_cons_of_mem _ hq)
theorem stripL_prodR : ∀ (ps es : List Nat), (∀ p ∈ ps, 2 <= p) -> ps.Pairwise Nat.Coprime -> stripL ps (prodR ps es) = 1
  | [], _, _, _ => rfl
  | p :: ps, [], h, _ => stripL_one (p :: ps) h
  | p :: ps, e :: es, h, c => by
    have hp := h p List.mem_cons_self
    have ht : ∀ q ∈ ps, 2 <= q := fun q hq => h q (List.mem_cons_of_mem _ hq)
    have c' := List.pairwise_cons.mp c
    show stripL ps (strip p (p ^ e * prodR ps es)) = 1
    rw [strip_pow hp (prodR_pos ps es ht), strip_not (not_mod_of_cop hp (cop_prodR ps es c'.1))]
    exact stripL_prodR ps es ht c'.2
theorem primes_cop : primes.Pairwise Nat.Coprime := by decide
def prod (es : List Nat) : Nat := prodR primes es
theorem prod_pos (es : List Nat) : 1 <= prod es := prodR_pos _ _ two_le
theorem stripAll_prod (es : List Nat) : stripAll (prod es) = 1 := stripL_prodR _ _ two_le primes_cop
theorem cop_at {p : Nat} : ∀ (ps es : List Nat) (k : Nat), ps.Pairwise Nat.Coprime -> ps[k]? = some p -> es.getD k 0 = 0 -> Nat.Coprime p (prodR ps es)
  | [], _, _, _, h, _ => by simp at h
  | _ :: _, [], _, _, _, _ => Nat.coprime_one_right p
  | q :: ps, e :: es, 0, c, h, h0 => by
    simp at h h0
    subst h; subst h0
    show Nat.Coprime q (q ^ 0 * prodR ps es)
    rw [Nat.pow_zero, Nat.one_mul]
    exact cop_prodR ps es (List.pairwise_cons.mp c).1
  | q :: ps, e :: es, k + 1, c, h, h0 => by
    have c' := List.pairwise_cons.mp c
    have h' : ps[k]? = some p := by simpa using h
    have hm : p ∈ ps := List.mem_of_getElem? h'
    refine Nat.Coprime.mul_right (Nat.Coprime.pow_right e (Nat.Coprime.symm (c'.1 p hm))) ?_
    exact cop_at ps es k c'.2 h' (by simpa using h0)
theorem noShare_prod {es fs : List Nat} (h : ∀ k, es.getD k 0 = 0 ∨ fs.getD k 0 = 0) : noShare (prod es) (prod fs) = true := by
  rw [noShare_iff]
  intro p hp ⟨h1, h2⟩
  obtain ⟨k, hk⟩ := List.getElem?_of_mem hp
  have tp := two_le p hp
  rcases h k with e | e
  · have := (cop_at primes es k primes_cop hk e).eq_one_of_dvd h1; omega
  · have := (cop_at primes fs k primes_cop hk e).eq_one_of_dvd h2; omega
theorem prodR_le : ∀ (ps es : List Nat), (∀ p ∈ ps, p <= 29) -> prodR ps es <= 29 ^ es.sum
  | [], _, _ => Nat.pow_pos (by decide)
  | _ :: _, [], _ => Nat.le_refl _
  | p :: ps, e :: es, h => by
    rw [List.sum_cons, Nat.pow_add]
    exact Nat.mul_le_mul (Nat.pow_le_pow_left (h p List.mem_cons_self) e) (prodR_le ps es fun q hq => h q (List.mem_cons_of_mem _ hq))
theorem prod_le (es : List Nat) : prod es <= 29 ^ es.sum := prodR_le primes es (by decide)
def termB (i : Int) : Bool := decide (1 <= i) && decide (i <= 1000000000000) && decide (stripAll i.toNat = 1)
def fracB (i j : Int) : Bool := termB i && termB j && noShare i.toNat j.toNat
def ups (xs : List Int) : List Nat := xs.map Int.toNat
def downs (xs : List Int) : List Nat := xs.map fun x => (-x).toNat
theorem ups_or_downs (xs : List Int) (k : Nat) : (ups xs).getD k 0 = 0 ∨ (downs xs).getD k 0 = 0 := by
  unfold ups downs
  rw [List.getD_eq_getElem?_getD, List.getD_eq_getElem?_getD, List.getElem?_map, List.getElem?_map]
  cases xs[k]? with
  | none => exact .inl rfl
  | some x => simp; omega
theorem sum_set_le : ∀ (xs : List Nat) (k : Nat) (v : Nat), (xs.set k v).sum + xs.getD k 0 <= xs.sum + v
  | [], k, v => by simp
  | x :: xs, 0, v => by simp; omega
  | x :: xs, k + 1, v => by
    have := sum_set_le xs k v
    simp only [List.set_cons_succ, List.sum_cons, List.getD_cons_succ]
    omega
theorem ups_up {xs : List Int} {k : Nat} {x : Int} (h : xs[k]? = some x) : (ups (xs.set k (x + 1))).sum <= (ups xs).sum + 1 := by
  have q := sum_set_le (ups xs) k (x + 1).toNat
  have e : (ups xs).getD k 0 = x.toNat := by unfold ups; rw [List.getD_eq_getElem?_getD, List.getElem?_map, h]; rfl
  rw [e] at q
  have e2 : ups (xs.set k (x + 1)) = (ups xs).set k (x + 1).toNat := by unfold ups; rw [List.map_set]
  rw [e2]
  omega
end Mth
namespace L2
open PySem PySem.Spec PyProof.Rows
def relN (sc osc : Scope) : List (Str × NameKind) := sc.names.map fun (n, k) => if (k == .free && osc.kind == .function && osc.names.lookup n == some .cell) then (n, .cell) else (n, k)
def ksOf (sc : Scope) : List Str := ((sc.names.filter (fun p => p.2 == .free)).reverse).map (·.1)
def compChk (sc osc : Scope) (N XN : List Str) (js : List (Option Nat)) : Bool :=
  sc.names.all (fun y => y.2 != .cell) && decide (sc.kind = .function) && sc.names.all (fun y => y.2 != .local || sc.names.lookup y.1 == some .local) &&
  (relN sc osc).all (fun p => !(p.2 == .cell || p.2 == .free) || (ksOf sc).contains p.1) && js.length == N.length &&
  (List.range N.length).all fun i => match js[i]?, N[i]? with
    | some (some j), some x => XN[j]? == some x && osc.names.lookup x == some .cell && ((relN sc osc).lookup x == some .cell || (relN sc osc).lookup x == some .free)
    | _, _ => true
theorem mem_of_lookup {α β : Type} [BEq α] [LawfulBEq α] : ∀ {l : List (α × β)} {x : α} {c : β}, l.lookup x = some c -> (x, c) ∈ l
  | [], _, _, h => by simp at h
  | (y, d) :: r, x, c, h => by
    rw [List.lookup_cons] at h
    cases e : (x == y) with
    | true =>
      rw [e] at h
      cases h
      rw [eq_of_beq e]
      exact List.mem_cons_self
    | false =>
      rw [e] at h
      exact List.mem_cons_of_mem _ (mem_of_lookup h)
theorem lookup_of_key {α β : Type} [BEq α] [LawfulBEq α] : ∀ {l : List (α × β)} {x : α}, x ∈ l.map (·.1) -> ∃ c, l.lookup x = some c
  | [], _, h => by cases h
  | (y, d) :: r, x, h => by
    rw [List.lookup_cons]
    cases e : (x == y) with
    | true => exact ⟨d, rfl⟩
    | false =>
      rcases List.mem_cons.mp h with z | z
      · rw [z] at e; simp at e
      · exact lookup_of_key z
theorem compOk_of {X : Cx} {sc osc : Scope} {cl : List (Str × Addr)} {N XN : List Str} {js : List (Option Nat)} (ho : X.env.scope = osc) (clos : closureFor sc X.env = pure cl) (hk : cl.map (·.1) = ksOf sc)
    (hsub : ∀ p ∈ cl, X.env.cells.lookup p.1 = some p.2) (chk : compChk sc osc N XN js = true) (hN : X.N = XN) : CompOk X sc cl N js := by
  unfold compChk at chk
  simp only [Bool.and_eq_true] at chk
  obtain ⟨⟨⟨⟨⟨h1, h2⟩, h3⟩, h4⟩, h5⟩, h6⟩ := chk
  have er : (relabel sc X.env).names = relN sc osc := by
    unfold relabel relN Env.kindOf
    rw [ho]
  refine ⟨clos, ?_, of_decide_eq_true h2, ?_, ?_, ?_, eq_of_beq h5, ?_⟩
  · intro y hy
    have := List.all_eq_true.mp h1 y hy
    simpa using this
  · intro y hy hl
    have := List.all_eq_true.mp h3 y hy
    rw [hl] at this
    simpa using this
  · intro x c h
    exact hsub (x, c) (mem_of_lookup h)
  · intro x h
    rw [er] at h
    refine lookup_of_key ?_
    rw [hk]
    rcases h with h | h
    all_goals
      have := List.all_eq_true.mp h4 _ (mem_of_lookup h)
      simpa using this
  · intro i j x hNi hj
    have hi : i < N.length := (List.getElem?_eq_some_iff.mp hNi).1
    have := List.all_eq_true.mp h6 i (List.mem_range.mpr hi)
    rw [hj, hNi] at this
    simp only [Bool.and_eq_true, Bool.or_eq_true] at this
    obtain ⟨⟨a, b⟩, c⟩ := this
    refine ⟨?_, ?_, ?_⟩
    · rw [hN]; exact eq_of_beq a
    · rw [ho]; exact eq_of_beq b
    · rw [er]
      rcases c with c | c
      · exact .inl (eq_of_beq c)
      · exact .inr (eq_of_beq c)
end L2
namespace W2
open PySem L2
structure Df (K : PySem.W.Frag) (mg : Str -> Option Value) (x : Str) (st : Stmt) (ps : List Str) (f : Addr) (fd : FuncData) : Prop where
  fn : Fun K x x st f fd
  at_ : mg x = some (.ref f)
  bd : Binds K fd ps []
theorem b_len : bootBuiltins "len" = some (.builtin "len") := PySem.boot_len
theorem b_isinstance : bootBuiltins "isinstance" = some (.builtin "isinstance") := by decide +kernel
theorem b_int : bootBuiltins "int" = some (.type "int") := by decide +kernel
theorem b_bool : bootBuiltins "bool" = some (.type "bool") := by decide +kernel
theorem b_tuple : bootBuiltins "tuple" = some (.type "tuple") := by decide +kernel
theorem b_max : bootBuiltins "max" = some (.builtin "max") := by decide +kernel
theorem b_all : bootBuiltins "all" = some (.builtin "all") := by decide +kernel
def kindV (H : Hp) : V -> Prop
  | .non => True
  | .bl _ => True
  | .int _ => True
  | .str _ => True
  | .ref a => (∃ xs, H a = some (.tup xs)) ∨ (∃ xs, H a = some (.lst xs)) ∨ (∃ kvs, H a = some (.dK kvs))
  | _ => False
def tupO : Option HO -> Option (List V)
  | some (.tup xs) => some xs
  | _ => none
def isT (H : Hp) : V -> Option (List V)
  | .ref a => tupO (H a)
  | _ => none
theorem isT_ref {H : Hp} {a : Addr} {xs : List V} (h : H a = some (.tup xs)) : isT H (.ref a) = some xs := by
  show tupO (H a) = _
  rw [h]
  rfl
theorem isT_some {H : Hp} {v : V} {xs : List V} (h : isT H v = some xs) : ∃ a, v = .ref a /\ H a = some (.tup xs) := by
  cases v with
  | ref a =>
    refine ⟨a, rfl, ?_⟩
    have h' : tupO (H a) = some xs := h
    cases e : H a with
    | none => rw [e] at h'; cases h'
    | some o =>
      rw [e] at h'
      cases o <;> first | (cases h'; rfl) | cases h'
  | _ => cases h
def isI : V -> Bool
  | .int _ => true
  | .bl _ => true
  | _ => false
def isB : V -> Bool
  | .bl _ => true
  | _ => false
def isW : V -> Bool
  | .int _ => true
  | _ => false
theorem isW_eq (v : V) : (isI v && !isB v) = isW v := by cases v <;> rfl
section
variable {K : PySem.W.Frag} {H : Hp} {v : V}
theorem isi_T (k : kindV H v) : ∃ t, TyOf K H v t /\ PySem.W.kitOne K t (.type "tuple") = some (isT H v).isSome := by
  cases v with
  | non => exact ⟨_, .non, by kernel_rfl⟩
  | bl b => exact ⟨_, .bl b, by kernel_rfl⟩
  | int i => exact ⟨_, .int i, by kernel_rfl⟩
  | str x => exact ⟨_, .str x, by kernel_rfl⟩
  | ref a =>
    rcases (show (∃ xs, H a = some (.tup xs)) ∨ (∃ xs, H a = some (.lst xs)) ∨ (∃ kvs, H a = some (.dK kvs)) from k) with ⟨xs, e⟩ | ⟨xs, e⟩ | ⟨kvs, e⟩
    · exact ⟨_, .tup e, by rw [isT_ref e]; kernel_rfl⟩
    · refine ⟨_, .lst e, ?_⟩
      show _ = some (tupO (H a)).isSome
      rw [e]
      kernel_rfl
    · refine ⟨_, .dK e, ?_⟩
      show _ = some (tupO (H a)).isSome
      rw [e]
      kernel_rfl
  | _ => exact False.elim k
theorem isi_I (k : kindV H v) : ∃ t, TyOf K H v t /\ PySem.W.kitOne K t (.type "int") = some (isI v) := by
  cases v with
  | non => exact ⟨_, .non, by kernel_rfl⟩
  | bl b => exact ⟨_, .bl b, by kernel_rfl⟩
  | int i => exact ⟨_, .int i, by kernel_rfl⟩
  | str x => exact ⟨_, .str x, by kernel_rfl⟩
  | ref a =>
    rcases (show (∃ xs, H a = some (.tup xs)) ∨ (∃ xs, H a = some (.lst xs)) ∨ (∃ kvs, H a = some (.dK kvs)) from k) with ⟨xs, e⟩ | ⟨xs, e⟩ | ⟨kvs, e⟩
    · exact ⟨_, .tup e, by kernel_rfl⟩
    · exact ⟨_, .lst e, by kernel_rfl⟩
    · exact ⟨_, .dK e, by kernel_rfl⟩
  | _ => exact False.elim k
theorem isi_B (k : kindV H v) : ∃ t, TyOf K H v t /\ PySem.W.kitOne K t (.type "bool") = some (isB v) := by
  cases v with
  | non => exact ⟨_, .non, by kernel_rfl⟩
  | bl b => exact ⟨_, .bl b, by kernel_rfl⟩
  | int i => exact ⟨_, .int i, by kernel_rfl⟩
  | str x => exact ⟨_, .str x, by kernel_rfl⟩
  | ref a =>
    rcases (show (∃ xs, H a = some (.tup xs)) ∨ (∃ xs, H a = some (.lst xs)) ∨ (∃ kvs, H a = some (.dK kvs)) from k) with ⟨xs, e⟩ | ⟨xs, e⟩ | ⟨kvs, e⟩
    · exact ⟨_, .tup e, by kernel_rfl⟩
    · exact ⟨_, .lst e, by kernel_rfl⟩
    · exact ⟨_, .dK e, by kernel_rfl⟩
  | _ => exact False.elim k
end
theorem Same.kind {H H' : Hp} (s : Same H H') {v : V} (k : kindV H v) : kindV H' v := by
  cases v with
  | ref a =>
    rcases (show (∃ xs, H a = some (.tup xs)) ∨ (∃ xs, H a = some (.lst xs)) ∨ (∃ kvs, H a = some (.dK kvs)) from k) with ⟨xs, e⟩ | ⟨xs, e⟩ | ⟨kvs, e⟩
    · exact .inl ⟨xs, s _ _ e⟩
    · exact .inr (.inl ⟨xs, s _ _ e⟩)
    · exact .inr (.inr ⟨kvs, s _ _ e⟩)
  | non => trivial
  | bl b => trivial
  | int i => trivial
  | str x => trivial
  | byt b => exact False.elim k
  | flt b => exact False.elim k
  | ty b => exact False.elim k
def But (a : Addr) (H H' : Hp) : Prop := ∀ b o, b ≠ a -> H b = some o -> H' b = some o
theorem But.refl (a : Addr) (H : Hp) : But a H H := fun _ _ _ h => h
theorem But.trans {a : Addr} {H H1 H2 : Hp} (x : But a H H1) (y : But a H1 H2) : But a H H2 := fun b o n h => y b o n (x b o n h)
theorem But.of {a : Addr} {H H' : Hp} (x : Same H H') : But a H H' := fun b o _ h => x b o h
theorem But.upd {a : Addr} {H : Hp} {o : HO} : But a H (upd H a o) := fun b q n h => by rw [upd_ne n]; exact h
theorem But.new {a p : Addr} {H H' : Hp} {o : HO} (x : But a H H') (h : H' p = none) : But a H (L2.upd H' p o) := fun b q n e => by rw [upd_ne (ne_of_none (x b q n e) h)]; exact x b q n e
theorem But.set {a : Addr} {H H' : Hp} {o : HO} (x : But a H H') : But a H (L2.upd H' a o) := fun b q n e => by rw [upd_ne n]; exact x b q n e
theorem Same.new {H : Hp} {p : Addr} {o : HO} (h : H p = none) : Same H (upd H p o) := fun b q e => by rw [upd_ne (ne_of_none e h)]; exact e
theorem Same.more {H H' : Hp} {p : Addr} {o : HO} (s : Same H H') (h : H' p = none) : Same H (upd H' p o) := s.trans (Same.new h)
theorem map_int_get {ns : List Int} {i : Nat} {y : V} (h : (ns.map V.int)[i]? = some y) : ∃ z, y = .int z /\ ns[i]? = some z := by
  rw [List.getElem?_map] at h
  cases e : ns[i]? with
  | none => rw [e] at h; cases h
  | some z => rw [e] at h; exact ⟨z, (Option.some.inj h).symm, rfl⟩
theorem atI_of {α : Type} {xs : List α} {i : Int} {v : α} (h0 : 0 <= i) (h : xs[i.toNat]? = some v) : atI xs i = some v := by
  have := atI_nat h
  rwa [Int.toNat_of_nonneg h0] at this
theorem ixN_of {n : Nat} {i : Int} (h0 : 0 <= i) (h : i < n) : ixN n i = some i.toNat := by
  unfold ixN
  rw [if_pos h0, if_pos h]
end W2
namespace L2
open PySem PySem.Spec PyProof.Rows
def noStar : Expr -> Bool
  | .Starred _ _ => false
  | _ => true
theorem starEach_cons {e : Expr} (h : noStar e = true) (es : List Expr) (env : Env) : starEach (e :: es) env = (false, eval e env) :: starEach es env := by
  cases e <;> first | rfl | cases h
theorem pa_c {X : Cx} {e : Expr} {es : List Expr} {te : TE} {t : TA} (ha : PE X e te) (hr : PA X es t) (h : noStar e = true := by rfl) : PA X (e :: es) (tCons te t) := pa_cons ha hr (starEach_cons h es X.env)
section
variable {K : PySem.W.Frag} {a D : Addr} {js : List (Option Nat)} {g : TG} {te : TE} {σ : St} {H1 : Hp} {Q : VK}
theorem comp_plain {J : It} {n : Nat} (hn : n <= sizeLine) (Pv : Nat -> St -> Hp -> List V -> Prop) (h0 : Pv 0 (pick js σ) (upd H1 D (.lst [])) [])
    (hgo : ∀ i σ' H' ys, i < n -> H' D = some (.lst ys) -> Pv i σ' H' ys -> J.go i H') (hst : ∀ σ' H' ys, H' D = some (.lst ys) -> ys.length = n -> Pv n σ' H' ys -> J.stop n H' /\ Q (.ref D) H')
    (hs : ∀ i σ' H' ys x H2 (R : St -> V -> Hp -> Prop), i < n -> H' D = some (.lst ys) -> ys.length = i -> Pv i σ' H' ys -> J.yld i H' x H2 ->
      (∀ σ2 y H4, H4 D = some (.lst ys) -> Pv (i + 1) σ2 (upd H4 D (.lst (ys ++ [y]))) (ys ++ [y]) -> R σ2 y H4) -> g x σ' H2 fun σ2 H3 => te σ2 H3 fun y H4 => R σ2 y H4) :
    CompW J D js g tNoTest te σ H1 Q := by
  refine ⟨fun i m σ' H' ys => m = n - i /\ i <= n /\ H' D = some (.lst ys) /\ ys.length = i /\ Pv i σ' H' ys, ⟨n, rfl, Nat.zero_le _, upd_same, rfl, h0⟩, ?_⟩
  rintro i m σ' H' ys ⟨rfl, hi, hD, hy, p⟩
  refine ⟨hD, ?_⟩
  by_cases e : i = n
  · subst e
    exact .inl (hst σ' H' ys hD hy p)
  · have hlt : i < n := by omega
    refine .inr ⟨hgo i σ' H' ys hlt hD p, by omega, fun σ2 H2 zs => H2 D = some (.lst zs) /\ zs.length = i + 1 /\ Pv (i + 1) σ2 H2 zs, fun σ2 H2 zs ⟨z1, z2, z3⟩ => ⟨n - (i + 1), by omega, rfl, by omega, z1, z2, z3⟩, fun x H2 hx => ?_⟩
    exact hs i σ' H' ys x H2 (fun σ2 y H4 => H4 D = some (.lst ys) /\ (upd H4 D (.lst (ys ++ [y]))) D = some (.lst (ys ++ [y])) /\ (ys ++ [y]).length = i + 1 /\ Pv (i + 1) σ2 (upd H4 D (.lst (ys ++ [y]))) (ys ++ [y])) hlt hD hy p hx
      fun σ2 y H4 z1 z2 => ⟨z1, upd_same, by rw [List.length_append, hy]; rfl, z2⟩
theorem comp_range {lo : Int} {n : Nat} (hn : n <= sizeLine) (Pv : Nat -> St -> Hp -> List V -> Prop) (h0 : Pv 0 (pick js σ) (upd H1 D (.lst [])) [])
    (hs : ∀ i σ' H' ys (R : St -> V -> Hp -> Prop), i < n -> H' D = some (.lst ys) -> ys.length = i -> Pv i σ' H' ys -> (∀ σ2 y H4, H4 D = some (.lst ys) -> Pv (i + 1) σ2 (upd H4 D (.lst (ys ++ [y]))) (ys ++ [y]) -> R σ2 y H4) ->
      g (.int (lo + i)) σ' H' fun σ2 H3 => te σ2 H3 fun y H4 => R σ2 y H4)
    (hst : ∀ σ' H' ys, H' D = some (.lst ys) -> ys.length = n -> Pv n σ' H' ys -> Q (.ref D) H') : CompW (Itr lo n) D js g tNoTest te σ H1 Q :=
  comp_plain hn Pv h0 (fun i _ _ _ hi _ _ => hi) (fun σ' H' ys a b c => ⟨Nat.le_refl _, hst σ' H' ys a b c⟩) fun i σ' H' ys x H2 R hi a b c ⟨e1, e2⟩ => by
    subst e1; subst e2
    exact hs i σ' H2 ys R hi a b c
theorem comp_list {xs : List V} (hn : xs.length <= sizeLine) (Pv : Nat -> St -> Hp -> List V -> Prop) (h0 : Pv 0 (pick js σ) (upd H1 D (.lst [])) [])
    (hl : ∀ i σ' H' ys, i <= xs.length -> H' D = some (.lst ys) -> Pv i σ' H' ys -> SqL K H' a xs)
    (hs : ∀ i x σ' H' ys (R : St -> V -> Hp -> Prop), xs[i]? = some x -> H' D = some (.lst ys) -> ys.length = i -> Pv i σ' H' ys -> (∀ σ2 y H4, H4 D = some (.lst ys) -> Pv (i + 1) σ2 (upd H4 D (.lst (ys ++ [y]))) (ys ++ [y]) -> R σ2 y H4) ->
      g x σ' H' fun σ2 H3 => te σ2 H3 fun y H4 => R σ2 y H4)
    (hst : ∀ σ' H' ys, H' D = some (.lst ys) -> ys.length = xs.length -> Pv xs.length σ' H' ys -> Q (.ref D) H') : CompW (Itl K a) D js g tNoTest te σ H1 Q :=
  comp_plain hn Pv h0 (fun i σ' H' ys hi hD p => ⟨xs, xs[i], hl i σ' H' ys (by omega) hD p, List.getElem?_eq_getElem hi⟩)
    (fun σ' H' ys hD b c => ⟨⟨xs, hl _ σ' H' ys (Nat.le_refl _) hD c, Nat.le_refl _⟩, hst σ' H' ys hD b c⟩) fun i σ' H' ys x H2 R hi hD b c ⟨e1, e2⟩ => by
    subst e1
    exact hs i x σ' H2 ys R (e2 xs (hl i σ' H2 ys (by omega) hD c)) hD b c
theorem comp_tup {xs : List V} (hn : xs.length <= sizeLine) (Pv : Nat -> St -> Hp -> List V -> Prop) (h0 : Pv 0 (pick js σ) (upd H1 D (.lst [])) [])
    (hl : ∀ i σ' H' ys, i <= xs.length -> H' D = some (.lst ys) -> Pv i σ' H' ys -> SqT K H' a xs)
    (hs : ∀ i x σ' H' ys (R : St -> V -> Hp -> Prop), xs[i]? = some x -> H' D = some (.lst ys) -> ys.length = i -> Pv i σ' H' ys -> (∀ σ2 y H4, H4 D = some (.lst ys) -> Pv (i + 1) σ2 (upd H4 D (.lst (ys ++ [y]))) (ys ++ [y]) -> R σ2 y H4) ->
      g x σ' H' fun σ2 H3 => te σ2 H3 fun y H4 => R σ2 y H4)
    (hst : ∀ σ' H' ys, H' D = some (.lst ys) -> ys.length = xs.length -> Pv xs.length σ' H' ys -> Q (.ref D) H') : CompW (Itt K a) D js g tNoTest te σ H1 Q :=
  comp_plain hn Pv h0 (fun i σ' H' ys hi hD p => ⟨xs, xs[i], hl i σ' H' ys (by omega) hD p, List.getElem?_eq_getElem hi⟩)
    (fun σ' H' ys hD b c => ⟨⟨xs, hl _ σ' H' ys (Nat.le_refl _) hD c, Nat.le_refl _⟩, hst σ' H' ys hD b c⟩) fun i σ' H' ys x H2 R hi hD b c ⟨e1, e2⟩ => by
    subst e1
    exact hs i x σ' H2 ys R (e2 xs (hl i σ' H2 ys (by omega) hD c)) hD b c
end
theorem SqL.upd_new {K : PySem.W.Frag} {H : Hp} {a D : Addr} {xs : List V} {o : HO} (h : SqL K H a xs) (n : H D = none) : SqL K (upd H D o) a xs := by
  rcases h with (h | ⟨u, h⟩) | h
  · exact .inl (.inl (by rw [upd_ne (ne_of_none h n)]; exact h))
  · exact .inl (.inr ⟨u, by rw [upd_ne (ne_of_none h n)]; exact h⟩)
  · exact .inr h
theorem SqT.upd_new {K : PySem.W.Frag} {H : Hp} {a D : Addr} {xs : List V} {o : HO} (h : SqT K H a xs) (n : H D = none) : SqT K (upd H D o) a xs := by
  rcases h with (h | ⟨u, h⟩) | h
  · exact .inl (.inl (by rw [upd_ne (ne_of_none h n)]; exact h))
  · exact .inl (.inr ⟨u, by rw [upd_ne (ne_of_none h n)]; exact h⟩)
  · exact .inr h
theorem take_map_succ {α β : Type} {f : α -> β} {xs : List α} {i : Nat} {x : α} (h : xs[i]? = some x) : (xs.take (i + 1)).map f = (xs.take i).map f ++ [f x] := by
  rw [List.take_add_one, h, List.map_append]
  rfl
section
variable {K : PySem.W.Frag} {a D : Addr} {js : List (Option Nat)} {te : TE} {σ : St} {H1 : Hp} {Q : VK}
theorem comp_map_list {xs : List V} {o : Option V} {σ0 : St} {f : V -> V} (hp : pick js σ = o :: σ0) (hn : xs.length <= sizeLine) (hD : H1 D = none) (hS : SqL K H1 a xs)
    (hs : ∀ (x : V) (H' : Hp) (R : VK), x ∈ xs -> R (f x) H' -> te (some x :: σ0) H' R) (q : Q (.ref D) (upd H1 D (.lst (xs.map f)))) : CompW (Itl K a) D js (gName 0) tNoTest te σ H1 Q := by
  refine comp_list (xs := xs) hn (fun i σ' H' ys => (∃ u, σ' = u :: σ0) /\ ys = (xs.take i).map f /\ H' = upd H1 D (.lst ys)) ⟨⟨o, hp⟩, rfl, rfl⟩ ?_ ?_ ?_
  · rintro i σ' H' ys _ _ ⟨_, rfl, rfl⟩
    exact hS.upd_new hD
  · rintro i x σ' H' ys R hx _ _ ⟨⟨u, rfl⟩, rfl, rfl⟩ k
    refine hs x _ _ (List.mem_of_getElem? hx) (k _ _ _ upd_same ⟨⟨_, rfl⟩, (take_map_succ hx).symm, upd_upd⟩)
  · rintro σ' H' ys _ _ ⟨_, rfl, rfl⟩
    rw [List.take_length]
    exact q
theorem comp_map_tup {xs : List V} {o : Option V} {σ0 : St} {f : V -> V} (hp : pick js σ = o :: σ0) (hn : xs.length <= sizeLine) (hD : H1 D = none) (hS : SqT K H1 a xs)
    (hs : ∀ (x : V) (H' : Hp) (R : VK), x ∈ xs -> R (f x) H' -> te (some x :: σ0) H' R) (q : Q (.ref D) (upd H1 D (.lst (xs.map f)))) : CompW (Itt K a) D js (gName 0) tNoTest te σ H1 Q := by
  refine comp_tup (xs := xs) hn (fun i σ' H' ys => (∃ u, σ' = u :: σ0) /\ ys = (xs.take i).map f /\ H' = upd H1 D (.lst ys)) ⟨⟨o, hp⟩, rfl, rfl⟩ ?_ ?_ ?_
  · rintro i σ' H' ys _ _ ⟨_, rfl, rfl⟩
    exact hS.upd_new hD
  · rintro i x σ' H' ys R hx _ _ ⟨⟨u, rfl⟩, rfl, rfl⟩ k
    refine hs x _ _ (List.mem_of_getElem? hx) (k _ _ _ upd_same ⟨⟨_, rfl⟩, (take_map_succ hx).symm, upd_upd⟩)
  · rintro σ' H' ys _ _ ⟨_, rfl, rfl⟩
    rw [List.take_length]
    exact q
end
theorem while_own {c : TT} {tb : TS} {D : Ends} {σ : St} {H : Hp} (Pv : St -> Hp -> Prop) (μ : St -> Hp -> Nat) (h0 : Pv σ H)
    (hs : ∀ σ H, Pv σ H -> c σ H fun b H1 => if b = true then ∃ N : St -> Hp -> Prop, (∀ σ' H', N σ' H' -> ∃ m', m' < μ σ H /\ m' = μ σ' H' /\ Pv σ' H') /\ tb { D with nx := N, ct := N, bk := D.nx } σ H1 else D.nx σ H1) : tWhile c tb D σ H :=
  ⟨fun m σ H => m = μ σ H /\ Pv σ H, ⟨_, rfl, h0⟩, fun m σ H ⟨e, p⟩ => by subst e; exact hs σ H p⟩
theorem whN {tb : TS} {D : Ends} {σ : St} {H1 : Hp} {m : Nat} {Pv : St -> Hp -> Prop} {μ : St -> Hp -> Nat} (h : tb { D with nx := fun σ' H' => Pv σ' H' /\ μ σ' H' < m, ct := fun σ' H' => Pv σ' H' /\ μ σ' H' < m, bk := D.nx } σ H1) :
    ∃ N : St -> Hp -> Prop, (∀ σ' H', N σ' H' -> ∃ m', m' < m /\ m' = μ σ' H' /\ Pv σ' H') /\ tb { D with nx := N, ct := N, bk := D.nx } σ H1 := ⟨_, fun _ _ ⟨a, b⟩ => ⟨_, b, rfl, a⟩, h⟩
end L2
namespace L2
open PySem PySem.Spec PyProof.Rows
structure QE (X : Cx) (e : Expr) (t : TE) : Prop where
  o : PE X e t
structure QT (X : Cx) (e : Expr) (t : TT) : Prop where
  o : PT X e t
structure QW (X : Cx) (e : Expr) (t : TT) : Prop where
  o : PW X e t
structure QA (X : Cx) (e : List Expr) (t : TA) : Prop where
  o : PA X e t
structure QS (X : Cx) (e : Stmt) (t : TS) : Prop where
  o : PS X e t
structure QSs (X : Cx) (e : List Stmt) (t : TS) : Prop where
  o : PSs X e t
structure QG (X : Cx) (e : Expr) (t : TG) : Prop where
  o : PG X e t
structure QGs (X : Cx) (e : List Expr) (t : TGs) : Prop where
  o : PGs X e t
structure QTs (X : Cx) (e : List Expr) (t : TT) : Prop where
  o : PTs X e t
structure QI (X : Cx) (tg e : Expr) (t : TI) : Prop where
  o : PI X tg e t
theorem qv (i : Nat) {x : Str} {pos : Pos} (hN : X.N[i]? = some x := by rfl) (hv : Vis X.env.scope x := by first | exact Or.inl rfl | exact Or.inr (Or.inl rfl) | exact Or.inr (Or.inr rfl)) (hd : (x == ("__debug__" : Str)) = false := by decide) (hcd : (x == ("__classdict__" : Str)) = false := by decide) : QE X (.Name x pos) (tVar i) :=
  ⟨pv i hN hv hd hcd⟩
theorem qe_int {i j pos} : QE X (.Constant (.int i) j pos) (tC (.int i)) :=
  ⟨pe_int ⟩
theorem qe_bl {b j pos} : QE X (.Constant (.bool b) j pos) (tC (.bl b)) :=
  ⟨pe_bl ⟩
theorem qe_glob {x : Str} {v : V} {u : Value} {pos : Pos} (hg : Gl X x) (hm : X.mg x = some u) (r : RelV v u) (hd : (x == ("__debug__" : Str)) = false := by decide) : QE X (.Name x pos) (tC v) :=
  ⟨pe_glob hg hm r hd⟩
theorem qe_ty {X : Cx} {x : Str} {T : String} {pos : Pos} (hg : Gl X x) (hm : X.mg x = none) (hv : bootBuiltins x = some (.type T)) (hn : x ≠ "__name__" := by decide) (hd : (x == ("__debug__" : Str)) = false := by decide) : QE X (.Name x pos) (tC (.ty T)) :=
  ⟨pe_ty hg hm hv hn hd⟩
theorem qe_op {a : Expr} {b : Expr} {op : Operator} {r : R2} (ho : OpR X (binaryOp op) r) (ha : QE X a ta) (hb : QE X b tb) : QE X (.BinOp a op b pos) (tOp r ta tb) :=
  ⟨pe_op ho ha.o hb.o⟩
theorem qe_un {a : Expr} {op : UnaryOp} {r : V -> Hp -> VK -> Prop} (ho : UnR X (unaryOp op) r) (ha : QE X a ta) : QE X (.UnaryOp op a pos) (tUn r ta) :=
  ⟨pe_un ho ha.o⟩
theorem qe_and {rest : List Expr} {a : Expr} {b : Expr} (ha : QE X a ta) (hb : QE X (.BoolOp .And (b :: rest) pos) tb) : QE X (.BoolOp .And (a :: b :: rest) pos) (tAndV ta tb) :=
  ⟨pe_and ha.o hb.o⟩
theorem qe_one {a : Expr} {op} {t : TE} (h : QE X a t) : QE X (.BoolOp op [a] pos) t :=
  ⟨pe_one h.o⟩
theorem qe_not {a : Expr} (ha : QE X a ta) : QE X (.UnaryOp .Not a pos) (tNotV ta) :=
  ⟨pe_not ha.o⟩
theorem qe_ifExp {a : Expr} {b : Expr} {c : Expr} (hc : QT X c tA) (ha : QE X a ta) (hb : QE X b tb) : QE X (.IfExp c a b pos) (tIf tA ta tb) :=
  ⟨pe_ifExp hc.o ha.o hb.o⟩
theorem qe_cmpR {a : Expr} {b : Expr} {op : CmpOp} {r : R2} (ho : OpR X (compareOp op) r) (ha : QE X a ta) (hb : QE X b tb) (hm : behindInMarks op b = false) : QE X (.Compare a [op] [b] pos) (tOp r ta tb) :=
  ⟨pe_cmpR ho ha.o hb.o hm⟩
theorem qe_lst (h : QA X es t) : QE X (.List es pos) (tLst t) :=
  ⟨pe_lst h.o⟩
theorem qe_ix {a : Expr} {b : Expr} {r : R2} (hr : IxR X r) (ha : QE X a ta) (hb : QE X b tb) (hs : PlainIx b) : QE X (.Subscript a b pos) (tOp r ta tb) :=
  ⟨pe_ix hr ha.o hb.o hs⟩
theorem qe_call {e : Expr} (F : FnOk X.prog X.w X.K X.mg X.base CX k f fd ps sp) (hr : Room k X.A) (hg : Gl X x) (hm : X.mg x = some (.ref f)) (hk : PySem.W.keepIn X.K (.ref f) = true) (hb : Binds X.K fd ps ds) (hd : Vals dvs ds) (hx : Passes CX X E) (ha : QA X (e :: es) t) (hdb : (x == ("__debug__" : Str)) = false := by decide) (he : starEach (e :: es) X.env = (false, eval e X.env) :: starEach es X.env := by rfl) (hpl : (backTo pos (starEach es X.env)).any (·.1) = false := by rfl) : QE X (.Call (.Name x p) (e :: es) [] pos) (tCall sp dvs E t) :=
  ⟨pe_call F hr hg hm hk hb hd hx ha.o hdb he hpl⟩
theorem qe_call0 (F : FnOk X.prog X.w X.K X.mg X.base CX k f fd ps sp) (hr : Room k X.A) (hg : Gl X x) (hm : X.mg x = some (.ref f)) (hk : PySem.W.keepIn X.K (.ref f) = true) (hb : Binds X.K fd ps ds) (hd : Vals dvs ds) (hx : Passes CX X E) (hdb : (x == ("__debug__" : Str)) = false := by decide) : QE X (.Call (.Name x p) [] [] pos) (tCall sp dvs E tNil) :=
  ⟨pe_call0 F hr hg hm hk hb hd hx hdb⟩
theorem qe_callB {id : String} {e : Expr} (hc : CallR X (.builtin id) r) (hg : Gl X x) (hm : X.mg x = none) (hv : bootBuiltins x = some (.builtin id)) (ha : QA X (e :: es) t) (hn : x ≠ "__name__" := by decide) (hdb : (x == ("__debug__" : Str)) = false := by decide) (he : starEach (e :: es) X.env = (false, eval e X.env) :: starEach es X.env := by rfl) (hpl : (backTo pos (starEach es X.env)).any (·.1) = false := by rfl) : QE X (.Call (.Name x p) (e :: es) [] pos) (tCB r t) :=
  ⟨pe_callB hc hg hm hv ha.o hn hdb he hpl⟩
theorem qe_callTy {e : Expr} (hc : CallR X (.type T) r) (hg : Gl X x) (hm : X.mg x = none) (hv : bootBuiltins x = some (.type T)) (ha : QA X (e :: es) t) (hn : x ≠ "__name__" := by decide) (hdb : (x == ("__debug__" : Str)) = false := by decide) (he : starEach (e :: es) X.env = (false, eval e X.env) :: starEach es X.env := by rfl) (hpl : (backTo pos (starEach es X.env)).any (·.1) = false := by rfl) : QE X (.Call (.Name x p) (e :: es) [] pos) (tCB r t) :=
  ⟨pe_callTy hc hg hm hv ha.o hn hdb he hpl⟩
theorem qe_bm {id : String} {e : Expr} {o : Expr} (pa : PlainAttrs T) (slot : Slot T name id) (hty : typeOf (.builtin id) = pure (.type "method_descriptor")) (hm : MtR X id r) (ho : QE X o to) (ha : QA X (e :: es) t) (hbase : attributeBase o name X.env (eval o X.env) = eval o X.env := by rfl) (hfew : ((backTo cpos (starEach (e :: es) X.env)).all (fun x => !x.1) && (backToKw cpos (keywordEach [] X.env)).all (fun x => x.1.isSome)
      && decide ((e :: es).length + ([] : List Keyword).length + (if ([] : List Keyword).isEmpty then 0 else 1) < 30)) = true := by rfl) (hline : (apos.endLine == cpos.line) = true := by rfl) (hs : starEach (e :: es) X.env = (false, eval e X.env) :: starEach es X.env := by rfl) (hplain : (backTo cpos (starEach es X.env)).any (·.1) = false := by rfl) : QE X (.Call (.Attribute o name apos) (e :: es) [] cpos) (tBM X.K T r to t) :=
  ⟨pe_bm pa slot hty hm ho.o ha.o hbase hfew hline hs hplain⟩
theorem qt_cmpR {a : Expr} {b : Expr} {op : CmpOp} {r : R2} (ho : OpR X (compareOp op) r) (ha : QE X a ta) (hb : QE X b tb) (hm : behindInMarks op b = false) : QT X (.Compare a [op] [b] pos) (tTest (tOp r ta tb)) :=
  ⟨pt_cmpR ho ha.o hb.o hm⟩
theorem qt_not {a : Expr} (ha : QT X a tA) : QT X (.UnaryOp .Not a pos) (tNot tA) :=
  ⟨pt_not ha.o⟩
theorem qt_val {e : Expr} {t : TE} (h : QE X e t) (he : ∀ whole, isTrue e X.env whole = (do let v ← whole; standAt e.pos; holding [v] (truthy v)) := by intro _; rfl) : QT X e (tB t) :=
  ⟨pt_val h.o he⟩
theorem qw_or {rest : List Expr} {a : Expr} {b : Expr} (ha : QT X a tA) (hb : QW X (.BoolOp .Or (b :: rest) pos) tB') : QW X (.BoolOp .Or (a :: b :: rest) pos) (tOr tA tB') :=
  ⟨pw_or ha.o hb.o⟩
theorem qw_or1 {a : Expr} (ha : QT X a tA) : QW X (.BoolOp .Or [a] pos) tA :=
  ⟨pw_or1 ha.o⟩
theorem qa_nil  : QA X [] tNil :=
  ⟨pa_nil ⟩
theorem qa_c {X : Cx} {e : Expr} {es : List Expr} {te : TE} {t : TA} (ha : QE X e te) (hr : QA X es t) (h : noStar e = true := by rfl) : QA X (e :: es) (tCons te t) :=
  ⟨pa_c ha.o hr.o h⟩
theorem qi_list {l : Expr} {tl : TE} (hl : QE X l tl) : QI X tg l (iList X.K tl) :=
  ⟨pi_list hl.o⟩
theorem qi_tup {l : Expr} {tl : TE} (hl : QE X l tl) : QI X tg l (iTup X.K tl) :=
  ⟨pi_tup hl.o⟩
theorem qi_range1 {a : Expr} {ta : TA} {p pos : Pos} (hg : Gl X "range") (hm : X.mg "range" = none) (ha : QA X [a] ta) (hs : starEach [a] X.env = [(false, eval a X.env)] := by rfl) : QI X tg (.Call (.Name "range" p) [a] [] pos) (iRng1 ta) :=
  ⟨pi_range1 hg hm ha.o hs⟩
theorem qi_range2 {a b : Expr} {ta : TA} {p pos : Pos} (hg : Gl X "range") (hm : X.mg "range" = none) (ha : QA X [a, b] ta) (hs : starEach [a, b] X.env = [(false, eval a X.env), (false, eval b X.env)] := by rfl) (hs2 : starEach [b] X.env = [(false, eval b X.env)] := by rfl) : QI X tg (.Call (.Name "range" p) [a, b] [] pos) (iRng2 ta) :=
  ⟨pi_range2 hg hm ha.o hs hs2⟩
theorem qi_zip {e1 e2 : Expr} {ta : TA} {p pos : Pos} (htg : tupleTg tg = true) (hg : Gl X "zip") (hm : X.mg "zip" = none) (ha : QA X [e1, e2] ta) (hs : starEach [e1, e2] X.env = [(false, eval e1 X.env), (false, eval e2 X.env)] := by rfl) (hs2 : starEach [e2] X.env = [(false, eval e2 X.env)] := by rfl) (hb : bootBuiltins "zip" = some (.type "zip") := by decide +kernel) : QI X tg (.Call (.Name "zip" p) [e1, e2] [] pos) (iZip X.K ta) :=
  ⟨pi_zip htg hg hm ha.o hs hs2 hb⟩
theorem qg_name {i : Nat} {x : Str} (hN : X.N.Nodup) (hi : X.N[i]? = some x) (hx : Loc X.env.scope x) (hf : X.fn x = true ∨ X.env.scope.names.lookup x = some .local := by first | exact .inl rfl | exact .inr rfl | assumption) : QG X (.Name x pos) (gName i) :=
  ⟨pg_name hN hi hx hf⟩
theorem qg_tup {es : List Expr} {k : Nat} {t : TGs} {n : Nat} (hc : X.calm = true) (h : QGs X es t) (hn : (assignEach es X.env).length = n := by rfl) (hst : (assignEach es X.env).findIdx? (·.1) = none := by rfl) : QG X (.Tuple es k pos) (gTup X.K n t) :=
  ⟨pg_tup hc h.o hn hst⟩
theorem qg_sub {o i : Expr} {to ti : TE} {t : TSet} (ho : QE X o to) (hi : QE X i ti) (hs : PSet X t) (ha : ∀ v, assign (.Subscript o i pos) X.env v = (do
      let ov ← holding [v] (eval o X.env)
      let iv ← holding [v, ov] (eval i X.env)
      standAt pos
      holding [v, ov, iv] (setItem ov iv v)
      release [v, ov, iv] []) := by intro _; rfl) : QG X (.Subscript o i pos) (gSub to ti t) :=
  ⟨pg_sub ho.o hi.o hs ha⟩
theorem qgs_nil  : QGs X [] gNil :=
  ⟨pgs_nil ⟩
theorem qgs_cons {e : Expr} {es : List Expr} {t : TG} {u : TGs} (h1 : QG X e t) (h2 : QGs X es u) (hs : (assignEach (e :: es) X.env).map (·.2) = assign e X.env :: (assignEach es X.env).map (·.2) := by rfl) : QGs X (e :: es) (gCons t u) :=
  ⟨pgs_cons h1.o h2.o hs⟩
theorem qs_set {i : Nat} {x : Str} {e : Expr} {te : TE} {pos' : Pos} (hN : X.N.Nodup) (hi : X.N[i]? = some x) (hx : Loc X.env.scope x) (he : QE X e te) (hs : swapsWith e (some (.Name x pos')) pos.line X.env = pure false := by rfl) (hf : X.fn x = true ∨ X.env.scope.names.lookup x = some .local := by first | exact .inl rfl | exact .inr rfl | assumption) : QS X (.Assign [.Name x pos'] e pos) (tAsg te (gName i)) :=
  ⟨ps_set hN hi hx he.o hs hf⟩
theorem qs_asg {tg e : Expr} {te : TE} {g : TG} (he : QE X e te) (hg : QG X tg g) (hs : swapsWithSole [tg] e pos.line X.env = pure false := by rfl) (hw : swappedStores [tg] e X.env = pure none := by rfl) (h1 : (assignEach [tg] X.env).map (·.2) = [assign tg X.env] := by rfl) : QS X (.Assign [tg] e pos) (tAsg te g) :=
  ⟨ps_asg he.o hg.o hs hw h1⟩
theorem qs_par {i j : Nat} {x y : Str} {a b : Expr} {ta : TA} {px py pt : Pos} {kt k2 pt2} (hc : X.calm = true) (hN : X.N.Nodup) (hi : X.N[i]? = some x) (hj : X.N[j]? = some y) (hij : i ≠ j) (hx : X.env.scope.names.lookup x = some .local) (hy : X.env.scope.names.lookup y = some .local) (ha : QA X [a, b] ta) (hw : swappedStores [.Tuple [.Name x px, .Name y py] kt pt] (.Tuple [a, b] k2 pt2) X.env = pure (some [x, y])) (hs : swapsWithSole [.Tuple [.Name x px, .Name y py] kt pt] (.Tuple [a, b] k2 pt2) pos.line X.env = pure false := by rfl) : QS X (.Assign [.Tuple [.Name x px, .Name y py] kt pt] (.Tuple [a, b] k2 pt2) pos) (tPar i j ta) :=
  ⟨ps_par hc hN hi hj hij hx hy ha.o hw hs⟩
theorem qs_ret {e : Expr} (he : QE X e te) : QS X (.Return (some e) pos) (tRet te) :=
  ⟨ps_ret he.o⟩
theorem qs_expr {e : Expr} (he : QE X e te) (hs : swapsWith e none pos.line X.env = pure false := by rfl) : QS X (.Expr e pos) (tDrop te) :=
  ⟨ps_expr he.o hs⟩
theorem qs_if {c : Expr} {a b : List Stmt} {tc : TT} (hc : QT X c tc) (ha : QSs X a t) (hb : QSs X b u) : QS X (.If c a b pos) (tIfS tc t u) :=
  ⟨ps_if hc.o ha.o hb.o⟩
theorem qs_while {c : Expr} {body : List Stmt} {tc : TT} {tb : TS} (hp : PassesOwn (model X.prog X.w) X.A X.env X.xe) (hc : QT X c tc) (hb : QSs X body tb) : QS X (.While c body [] pos) (tWhile tc tb) :=
  ⟨ps_while hp hc.o hb.o⟩
theorem qs_for {iter : Expr} {body : List Stmt} {wi : TI} {g : TG} {tb : TS} {pos : Pos} (hp : PassesOwn (model X.prog X.w) X.A X.env X.xe) (hc : X.calm = true) (hi : QI X tg iter wi) (hg : QG X tg g) (hb : QSs X body tb) (hs : ∀ x, foldedSetIterable iter X.env x = pure x := by intro _; rfl) : QS X (.For tg iter body [] pos) (tFor wi g tb) :=
  ⟨ps_for hp hc hi.o hg.o hb.o hs⟩
theorem qss_nil  : QSs X [] tNext :=
  ⟨pss_nil ⟩
theorem qss_one {st : Stmt} (h1 : QS X st t) : QSs X [st] t :=
  ⟨pss_one h1.o⟩
theorem qss_cons {rest : List Stmt} {st : Stmt} (h1 : QS X st t) (h2 : QSs X rest u) : QSs X (st :: rest) (tSeq t u) :=
  ⟨pss_cons h1.o h2.o⟩
theorem qts_nil {X : Cx} : QTs X [] tNoTest :=
  ⟨pts_nil ⟩
theorem qts_one {X : Cx} {c : Expr} {t : TT} (hc : QT X c t) : QTs X [c] t :=
  ⟨pts_one hc.o⟩
theorem QW.pt {X : Cx} {e : Expr} {t : TT} (h : QW X e t) : QT X e t :=
  ⟨PW.pt h.o⟩
theorem qe_comp {X : Cx} {elt tg iter : Expr} {cs : List Expr} {scope : Scope} {pos : Pos} {cl : List (Str × Addr)} {N : List Str} {js : List (Option Nat)} {wi : TI} {g : TG} {tc : TT} {te : TE}
    (C : CompOk X scope cl N js) (hc : X.calm = true) (hi : QI X tg iter wi)
    (hg : ∀ fp pins s H, QG (compCx X scope cl N fp pins s H fun _ _ => False) tg g)
    (ht : ∀ fp pins s H, QTs (compCx X scope cl N fp pins s H fun _ _ => False) cs tc)
    (he : ∀ fp pins s H, QE (compCx X scope cl N fp pins s H fun _ _ => False) elt te)
    (hs : ∀ x, foldedSetIterable iter X.env x = pure x := by intro _; rfl) : QE X (.ListComp elt [⟨tg, iter, cs, 0⟩] scope pos) (tComp js wi g tc te) :=
  ⟨pe_comp C hc hi.o (fun a b c d => (hg a b c d).o) (fun a b c d => (ht a b c d).o) (fun a b c d => (he a b c d).o) hs⟩
theorem Fun.okQ {P : Program} {w : World} {K : PySem.W.Frag} {mg : Str -> Option Value} {base : Heap} {x qual : Str} {st : Stmt} {f : Addr} {fd : FuncData} {N ps : List Str} {k : Nat} {sp : Sp} (F : Fun K x qual st f fd) (S : FnScope N ps (defScope st)) (len : ∀ vs H Q E, sp vs H Q E -> vs.length = ps.length)
    (hbody : ∀ (cdv : Value) (A : Around) (outer : List Env) (s : Shared) (H : Hp) (vs : List V) (Q : VK) (E : XK), Room k (A.deeper (envOfC qual (defScope st) s.heap.objs.size f cdv)) -> sp vs H Q E ->
      ∃ t, QSs (cxOf CX0 P w K mg base N qual (defScope st) f cdv A outer s H E).nox (defBody st) t /\ t { nx := fun _ H' => Q .non H', rt := Q } (start N vs) H) : FnOk P w K mg base CX0 (k + 1) f fd ps sp :=
  F.ok S len fun cdv A outer s H vs Q E hr h => let ⟨t, a, b⟩ := hbody cdv A outer s H vs Q E hr h; ⟨t, a.o, b⟩
end L2
namespace W2
open PySem L2
end W2
namespace L2
open PySem PySem.Spec PyProof.Rows
theorem OpR.imp {X : Cx} {f : Value -> Value -> Sem Value} {r r' : R2} (h : OpR X f r) (i : ∀ x y H Q, r' x y H Q -> r x y H Q) : OpR X f r' := fun pins s σ H x y v u Q I rx ry z => h pins s σ H x y v u Q I rx ry (i x y H Q z)
theorem CallR.imp {X : Cx} {f : Value} {r r' : List V -> Hp -> VK -> Prop} (h : CallR X f r) (i : ∀ xs H Q, r' xs H Q -> r xs H Q) : CallR X f r' := fun pins s σ H xs us Q I rx z => h pins s σ H xs us Q I rx (i xs H Q z)
theorem MtM.imp {X : Cx} {id : String} {r r' : V -> List V -> Hp -> VK -> Prop} (h : MtM X id r) (i : ∀ x xs H Q, r' x xs H Q -> r x xs H Q) : MtM X id r' := fun pins s σ H x xs v us Q I rx rs z => h pins s σ H x xs v us Q I rx rs (i x xs H Q z)
def NewA (o : HO) (H : Hp) (Q : VK) : Prop := ∀ p H', H p = none -> Same H H' -> H' p = some o -> Q (.ref p) H'
theorem NewA.at {o : HO} {H : Hp} {Q : VK} (q : NewA o H Q) : ∀ p, H p = none -> Q (.ref p) (upd H p o) := fun p hp => q p _ hp (W2.Same.new hp) upd_same
def tTupA (t : TA) : TE := fun σ H Q => t σ H fun xs H1 => xs.length <= sizeLine /\ NewA (.tup xs) H1 Q
def tLstA (t : TA) : TE := fun σ H Q => t σ H fun xs H1 => xs.length <= sizeLine /\ NewA (.lst xs) H1 Q
section
variable {X : Cx}
theorem qe_tupA {es : List Expr} {t : TA} {x1} {pos : Pos} (h : QA X es t) : QE X (.Tuple es x1 pos) (tTupA t) := ⟨by
  intro pins s σ H Q I hq
  refine wpAny_Tuple_spliced (thn (h.o pos pins s σ H _ I hq) fun us s1 ⟨xs, H1, I1, r, z, q⟩ => ⟨by rw [← r.length]; exact z, ?_⟩)
  have hf : H1 s1.heap.objs.size = none := I1.hok.fresh (Nat.le_refl _)
  refine ⟨.ref s1.heap.objs.size, upd H1 s1.heap.objs.size (.tup xs), I1.laid (t' := s1.toks) (fun b u e => Heap.get?_push_of_some _ e) (Nat.le_refl _) ?_, rfl, q.at _ hf⟩
  exact ⟨z, us, r, ⟨_, Heap.get?_push_size _ rfl, rfl, ⟨_, rfl⟩, rfl⟩⟩⟩
theorem qe_lstA {es : List Expr} {t : TA} {pos : Pos} (h : QA X es t) : QE X (.List es pos) (tLstA t) := ⟨by
  intro pins s σ H Q I hq
  refine wpAny_List_spliced (thn (h.o pos pins s σ H _ I hq) fun us s1 ⟨xs, H1, I1, r, z, q⟩ => ⟨by rw [← r.length]; exact z, ?_⟩)
  have hf : H1 s1.heap.objs.size = none := I1.hok.fresh (Nat.le_refl _)
  refine ⟨.ref s1.heap.objs.size, upd H1 s1.heap.objs.size (.lst xs), I1.laid (t' := s1.toks) (fun b u e => Heap.get?_push_of_some _ e) (Nat.le_refl _) ?_, rfl, q.at _ hf⟩
  exact ⟨z, us, 0, r, Heap.get?_push_size _ rfl⟩⟩
def rRepLA : R2 := fun x y H Q => ∃ l k xs, x = .ref l /\ y = .int k /\ H l = some (.lst xs) /\ -(2 ^ 63) <= k /\ k < 2 ^ 63 /\ xs.length * k.toNat <= sizeLine /\ NewA (.lst (List.replicate k.toNat xs).flatten) H Q
theorem op_repLA : OpR X (binaryOp .Mult) rRepLA := op_rep.imp fun x y H Q ⟨l, k, xs, e1, e2, h1, h2, h3, h4, q⟩ => ⟨l, k, xs, e1, e2, h1, h2, h3, h4, q.at⟩
theorem call_tuple_ofA : CallR X (.type "tuple") (fun xs H Q => ∃ p ys, xs = [.ref p] /\ SqL X.K H p ys /\ NewA (.tup ys) H Q) := call_tuple_of.imp fun xs H Q ⟨p, ys, e, h, q⟩ => ⟨p, ys, e, .inl ⟨h, q.at⟩⟩
def rAppendA : V -> List V -> Hp -> VK -> Prop := fun x vs H Q => ∃ l xs y, x = .ref l /\ vs = [y] /\ H l = some (.lst xs) /\ xs.length < sizeLine /\ ∀ H', W2.But l H H' -> H' l = some (.lst (xs ++ [y])) -> Q .non H'
theorem mt_appendA : MtM X "list.append" rAppendA := mt_append.imp fun x vs H Q ⟨l, xs, y, e1, e2, h1, h2, q⟩ => ⟨l, xs, y, e1, e2, h1, h2, q _ W2.But.upd upd_same⟩
end
end L2
namespace W2
open PySem L2
def Keep (H H' : Hp) : Prop := ∀ b o, H b = some o -> H' b = some o ∨ ∃ xs ys, o = .lst xs /\ H' b = some (.lst ys)
theorem Keep.refl (H : Hp) : Keep H H := fun _ _ h => .inl h
theorem Keep.of {H H' : Hp} (s : Same H H') : Keep H H' := fun b o h => .inl (s b o h)
theorem Keep.trans {H H1 H2 : Hp} (x : Keep H H1) (y : Keep H1 H2) : Keep H H2 := fun b o h => by
  rcases x b o h with z | ⟨xs, ys, rfl, z⟩
  · exact y b o z
  · rcases y b _ z with z2 | ⟨us, vs, e, z2⟩
    · exact .inr ⟨xs, ys, rfl, z2⟩
    · exact .inr ⟨xs, vs, rfl, z2⟩
theorem Keep.but {a : Addr} {H H' : Hp} {xs ys : List V} (bt : But a H H') (h : H a = some (.lst xs)) (h' : H' a = some (.lst ys)) : Keep H H' := fun b o e => by
  by_cases z : b = a
  · subst z
    rw [h] at e
    cases e
    exact .inr ⟨xs, ys, rfl, h'⟩
  · exact .inl (bt b o z e)
theorem Keep.tup {H H' : Hp} (k : Keep H H') {b : Addr} {xs : List V} (h : H b = some (.tup xs)) : H' b = some (.tup xs) := by
  rcases k b _ h with z | ⟨_, _, e, _⟩
  · exact z
  · cases e
def wf1 (H : Hp) (v : V) : Prop := kindV H v /\ ∀ xs, isT H v = some xs -> xs.length <= 1000 /\ ∀ x ∈ xs, kindV H x
section
variable {H : Hp} {p : Addr} {xs : List V}
theorem kind_tup (h : H p = some (.tup xs)) : kindV H (.ref p) := .inl ⟨xs, h⟩
theorem wf1_tup (h : H p = some (.tup xs)) (l : xs.length <= 1000) (m : ∀ x ∈ xs, kindV H x) : wf1 H (.ref p) := ⟨kind_tup h, fun ys e => by rw [isT_ref h] at e; cases e; exact ⟨l, m⟩⟩
end
end W2
namespace L2
open PySem PySem.Spec PyProof.Rows
end L2
namespace L2
open PySem PySem.Spec PyProof.Rows
theorem qs_never {X : Cx} {st : Stmt} : QS X st tNever := ⟨ps_never⟩
def Ite (a : Addr) : It :=
  ⟨fun i H => ∃ xs x, H a = some (.lst xs) /\ xs[i]? = some x,
   fun i H v H' => ∃ p, H p = none /\ v = .ref p /\ ∃ x, H' = upd H p (.tup [.int (i : Int), x]) /\ ∀ xs, H a = some (.lst xs) -> xs[i]? = some x,
   fun i H => ∃ xs, H a = some (.lst xs) /\ xs.length <= i⟩
theorem turn_enum {P : Program} {w : World} {K : PySem.W.Frag} {tg : Expr} (htg : tupleTg tg = true) {e it a : Addr} (hne : e ≠ it) :
    Turn P w K tg (Ite a) [e, it] e (fun i h => (∃ old, IsEnum h e it (i : Int) old) /\ h.IsListIter it a i) where
  mem := List.mem_cons_self
  obj := fun i h st c hc => by
    obtain ⟨⟨old, h1⟩, ⟨o4, h4, _, d4⟩⟩ := st
    have nof : ∀ {o : Obj} {vs : Array Value}, o.data = .fields vs -> ∀ v, o.data ≠ .cell v := fun e v q => by rw [e] at q; cases q
    simp only [List.mem_cons, List.not_mem_nil, or_false] at hc
    rcases hc with rfl | rfl
    · exact ⟨_, h1, nof rfl⟩
    · exact ⟨_, h4, nof d4⟩
  keep := fun i h h' st k => by
    obtain ⟨⟨old, h1⟩, ⟨o4, h4, r4⟩⟩ := st
    exact ⟨⟨old, k _ (by simp) _ h1⟩, ⟨o4, k _ (by simp) _ h4, r4⟩⟩
  item := by
    intro X hP hw hK hc i pins s σ H E I hf st hg
    subst hP hw hK
    obtain ⟨⟨old, h1⟩, h4⟩ := st
    obtain ⟨xs, x, qa, hx⟩ := hg
    obtain ⟨z, its, n, rv, hlen, e0⟩ := I.lstM qa
    obtain ⟨ux, eux, rux⟩ := rv.get hx
    refine wpAny_pyNext_enum_item h1 h4 (show s.heap.IsList a its.toArray from ⟨_, e0, rfl, n, rfl⟩) (x := ux) (by simpa using eux) hne fun g b1 b2 b3 b4 b5 => ?_
    refine ⟨_, rfl, ?_⟩
    have elt : e < s.heap.objs.size := Heap.lt_size h1
    cases tg with
    | Tuple es kk pp =>
      refine wpAny_letOwnedTupleGo_enum b1 fun g' c1 sb => ?_
      have new : g'.get? s.heap.objs.size = some { cls := .type "tuple", data := .seq #[.int i s.toks, ux] } := sb.extBut _ _ (Nat.ne_of_gt elt) b3
      have I1 : Inv X pins σ (upd H s.heap.objs.size (.tup [.int (i : Int), x])) { s with heap := g', toks := s.toks + 1 } := by
        refine I.turnedNew (t' := s.toks + 1) (L := [e, it]) (fun c o hcn eo => ?_) hf (Nat.le_refl _) ⟨by show 2 <= sizeLine; decide, [.int i s.toks, ux], .cons ⟨_, rfl⟩ (.cons rux .nil), ⟨_, new, rfl, ⟨0, rfl⟩, rfl⟩⟩
        simp only [List.mem_cons, List.not_mem_nil, or_false, not_or] at hcn
        exact sb.extBut c o hcn.1 (b5 c o hcn.1 hcn.2 eo)
      refine ⟨.ref s.heap.objs.size, _, I1, rfl, ⟨_, I.fresh, rfl, x, rfl, fun xs' q1 => ?_⟩, ⟨⟨ux, ?_⟩, b2.extBut sb.extBut hne.symm⟩, fun c hcm => ?_⟩
      · rw [qa] at q1; cases q1; exact hx
      · rw [show ((i + 1 : Nat) : Int) = (i : Int) + 1 by omega]; exact c1
      · obtain ⟨o, eo⟩ : ∃ o, s.heap.get? c = some o := by
          simp only [List.mem_cons, List.not_mem_nil, or_false] at hcm
          rcases hcm with rfl | rfl
          · exact ⟨_, h1⟩
          · obtain ⟨o4, g4, _⟩ := h4
            exact ⟨_, g4⟩
        rw [upd_ne (Nat.ne_of_lt (Heap.lt_size eo))]
        exact (hf c hcm).1
    | _ => exact absurd (show false = true from htg) Bool.false_ne_true
  done := by
    intro X hP hw hK hc i pins s σ H E I hf st hg
    subst hP hw hK
    obtain ⟨⟨old, h1⟩, h4⟩ := st
    obtain ⟨xs, qa, hl⟩ := hg
    obtain ⟨z, its, n, rv, hlen, e0⟩ := I.lstM qa
    refine wpAny_pyNext_enum_end (I.ok.hd hc) h1 h4 (show s.heap.IsList a its.toArray from ⟨_, e0, rfl, n, rfl⟩) (by simp; omega) fun g up => ⟨rfl, ?_⟩
    refine I.turnedL (t' := s.toks) (L := [e, it]) (fun c o hcn eo => ?_) hf
    simp only [List.mem_cons, List.not_mem_nil, or_false, not_or] at hcn
    exact up c o hcn.2 eo
  self := fun _ _ _ _ _ st h => by
    obtain ⟨⟨old, h1⟩, _⟩ := st
    exact wpAny_pyIter_enum h1 h
section
variable {X : Cx} {tg : Expr}
def iEnum (ta : TA) : TI := fun σ H R => ta σ H fun vs H1 => ∃ a xs, vs = [.ref a] /\ H1 a = some (.lst xs) /\ R (Ite a) H1
theorem pi_enum {e1 : Expr} {ta : TA} {p pos : Pos} (htg : tupleTg tg = true) (hg : Gl X "enumerate") (hm : X.mg "enumerate" = none) (ha : PA X [e1] ta) (hs : starEach [e1] X.env = [(false, eval e1 X.env)] := by rfl)
    (hb : bootBuiltins "enumerate" = some (.type "enumerate") := by decide +kernel) : PI X tg (.Call (.Name "enumerate" p) [e1] [] pos) (iEnum ta) := by
  intro pins s σ H R I h
  refine Call_ (ld_blt I hg hm hb (PyProof.Rows.callWith_type1 (thn (ha pos pins s σ H _ I h) fun us s1 ⟨vs, H1, I1, r1, q1⟩ => ?_) hs rfl))
  obtain ⟨a, xs, e, qa, q⟩ := q1
  subst e
  obtain ⟨u1, rfl, ra⟩ := vals1 r1
  cases ra
  obtain ⟨z, its, n, rv, hlen, e0⟩ := I1.lstM qa
  refine call_enumerate_1 e0 fun g z1 z2 z3 up => ?_
  refine wpAny_pyIter_enum z1 ?_
  have I2 : Inv X pins σ H1 { s1 with heap := g } := I1.kept (t' := s1.toks) up
  refine ⟨_, [s1.heap.objs.size + 1, s1.heap.objs.size], _, _, H1, rfl, I2, turn_enum htg (Nat.ne_of_gt (Nat.lt_succ_self _)), ⟨⟨_, z1⟩, z2⟩, fun c hc => ?_, q⟩
  have big : s1.heap.objs.size <= c := by
    simp only [List.mem_cons, List.not_mem_nil, or_false] at hc
    rcases hc with rfl | rfl
    · exact Nat.le_add_right _ _
    · exact Nat.le_refl _
  exact I1.fpOk big (I1.hok.fresh big)
theorem qi_enum {e1 : Expr} {ta : TA} {p pos : Pos} (htg : tupleTg tg = true) (hg : Gl X "enumerate") (hm : X.mg "enumerate" = none) (ha : QA X [e1] ta) (hs : starEach [e1] X.env = [(false, eval e1 X.env)] := by rfl)
    (hb : bootBuiltins "enumerate" = some (.type "enumerate") := by decide +kernel) : QI X tg (.Call (.Name "enumerate" p) [e1] [] pos) (iEnum ta) := ⟨pi_enum htg hg hm ha.o hs hb⟩
end
section
variable {X : Cx}
theorem call_sumL (hc : X.calm = true) : CallR X (.builtin "sum") (fun xs H Q => ∃ (p : Addr) (ns : List Int), xs = [.ref p] /\ SqL X.K H p (ns.map V.int) /\ Q (.int ns.sum) H) := by
  intro pins s σ H xs us Q I r h
  obtain ⟨p, ns, rfl, hq, q⟩ := h
  obtain ⟨u, rfl, rx⟩ := vals1 r
  cases rx
  obtain ⟨its, r', pl, hz⟩ := I.list hq
  have hl := pl.isList
  have hi := intsAre_of r'
  obtain ⟨xs, e⟩ := hi.allInts.items
  have hns : ns = xs.toList.map (·.1) := by rw [← hi.numsOf, ← nums_intItems, ← e]
  rw [e] at hl
  refine sum_intListG (I.ok.hd hc) hl fun h' tk t' hk => ?_
  rw [preSum_eq, List.take_of_length_le (by simp), ← hns]
  exact ⟨.int ns.sum, H, I.kept hk, ⟨_, rfl⟩, q⟩
end
end L2
namespace Srt
open PySem PySem.W PyProof.Rows
end Srt
namespace L2
open PySem PySem.Spec PyProof.Rows
def RowV (H : Hp) (x : V) (c : List Int) : Prop := ∃ a, x = .ref a /\ H a = some (.tup (c.map V.int))
def RowsV (H : Hp) (xs : List V) (cs : List (List Int)) : Prop := xs.length = cs.length /\ ∀ (i : Nat) (x : V), xs[i]? = some x -> ∃ c, cs[i]? = some c /\ RowV H x c
section
variable {X : Cx}
theorem all_range_eq : ∀ (ns ms : List Int), ((List.range (min ns.length ms.length)).all (fun j => ns.getD j 0 == ms.getD j 0) && ns.length == ms.length) = decide (ns = ms) := by
  intro ns ms
  by_cases h : ns = ms
  · subst h
    simp
  · rw [decide_eq_false h]
    by_cases hl : ns.length = ms.length
    · rw [Bool.and_eq_false_iff]
      refine .inl ?_
      rw [Bool.eq_false_iff]
      intro z
      rw [List.all_eq_true] at z
      refine h (List.ext_getElem hl fun i h1 h2 => ?_)
      have := z i (List.mem_range.mpr (by omega))
      simpa [h1, h2] using this
    · rw [Bool.and_eq_false_iff]
      exact .inr (by simpa using hl)
end
end L2
namespace Xn
open PySem PyProof.Rows
end Xn
namespace Xn
open PySem PyProof.Rows
end Xn
namespace L2
open PySem PySem.Spec PyProof.Rows Xn
end L2
namespace PySem
end PySem
namespace L2
open PySem PySem.Spec PyProof.Rows Xn
end L2
namespace L2
open PySem PySem.Spec PyProof.Rows Xn
end L2
namespace PySem.W
open PySem PySem.Spec PySem.Calls PyProof.Rows
end PySem.W
namespace L2
open PySem PySem.Spec PyProof.Rows Xn
end L2
namespace L2
open PySem PySem.Spec PyProof.Rows Xn
end L2
namespace L2
open PySem PySem.Spec PySem.SeqAt PyProof.Rows Xn
section
variable {K : PySem.W.Frag} {a b D : Addr} {js : List (Option Nat)} {g : TG} {te : TE} {σ : St} {H1 : Hp} {Q : VK}
theorem comp_zip {xs ys : List V} (hn : min xs.length ys.length <= sizeLine) (Pv : Nat -> St -> Hp -> List V -> Prop) (h0 : Pv 0 (pick js σ) (upd H1 D (.lst [])) [])
    (hl : ∀ i σ' H' zs, H' D = some (.lst zs) -> Pv i σ' H' zs -> SqT K H' a xs /\ SqT K H' b ys)
    (hs : ∀ i x y p σ' H' zs (R : St -> V -> Hp -> Prop), xs[i]? = some x -> ys[i]? = some y -> H' p = none -> H' D = some (.lst zs) -> zs.length = i -> Pv i σ' H' zs -> (∀ σ2 z H4, H4 D = some (.lst zs) -> Pv (i + 1) σ2 (upd H4 D (.lst (zs ++ [z]))) (zs ++ [z]) -> R σ2 z H4) ->
      g (.ref p) σ' (upd H' p (.tup [x, y])) fun σ2 H3 => te σ2 H3 fun z H4 => R σ2 z H4)
    (hst : ∀ σ' H' zs, H' D = some (.lst zs) -> zs.length = min xs.length ys.length -> Pv (min xs.length ys.length) σ' H' zs -> Q (.ref D) H') : CompW (Itz K a b) D js g tNoTest te σ H1 Q := by
  refine comp_plain hn Pv h0 (fun i σ' H' zs hi hD p => ?_) (fun σ' H' zs hD b' c => ⟨?_, hst σ' H' zs hD b' c⟩) fun i σ' H' zs x H2 R hi hD hz p hx k => ?_
  · obtain ⟨qa, qb⟩ := hl i σ' H' zs hD p
    have h1 : i < xs.length := by omega
    have h2 : i < ys.length := by omega
    exact ⟨xs, ys, xs[i], ys[i], qa, qb, by simp [h1], by simp [h2]⟩
  · obtain ⟨qa, qb⟩ := hl _ σ' H' zs hD c
    exact ⟨xs, ys, qa, qb, by omega⟩
  · obtain ⟨qa, qb⟩ := hl i σ' H' zs hD p
    obtain ⟨q, hq, rfl, x', y', rfl, hxy⟩ := hx
    obtain ⟨ex, ey⟩ := hxy xs ys qa qb
    exact hs i x' y' q σ' H' zs R ex ey hq hD hz p k
end
theorem comp_map_tupS {K : PySem.W.Frag} {a D : Addr} {js : List (Option Nat)} {te : TE} {σ : St} {H1 : Hp} {Q : VK} {xs : List V} {o : Option V} {σ0 : St} {f : V -> V} (hp : pick js σ = o :: σ0) (hn : xs.length <= sizeLine) (hD : H1 D = none) (hS : SqT K H1 a xs)
    (hs : ∀ (x : V) (H' : Hp) (R : VK), Same H1 H' -> x ∈ xs -> R (f x) H' -> te (some x :: σ0) H' R) (q : Q (.ref D) (upd H1 D (.lst (xs.map f)))) : CompW (Itt K a) D js (gName 0) tNoTest te σ H1 Q := by
  refine comp_tup (xs := xs) hn (fun i σ' H' ys => (∃ u, σ' = u :: σ0) /\ ys = (xs.take i).map f /\ H' = upd H1 D (.lst ys)) ⟨⟨o, hp⟩, rfl, rfl⟩ ?_ ?_ ?_
  · rintro i σ' H' ys _ _ ⟨_, rfl, rfl⟩
    exact hS.upd_new hD
  · rintro i x σ' H' ys R hx _ _ ⟨⟨u, rfl⟩, rfl, rfl⟩ k
    refine hs x _ _ (W2.Same.new hD) (List.mem_of_getElem? hx) (k _ _ _ upd_same ⟨⟨_, rfl⟩, (take_map_succ hx).symm, upd_upd⟩)
  · rintro σ' H' ys _ _ ⟨_, rfl, rfl⟩
    rw [List.take_length]
    exact q
theorem qg_tupN {X : Cx} {K : PySem.W.Frag} {es : List Expr} {k : Nat} {pos : Pos} {t : TGs} {n : Nat} (hK : X.K = K) (hc : X.calm = true) (h : QGs X es t) (hn : (assignEach es X.env).length = n := by rfl) (hst : (assignEach es X.env).findIdx? (·.1) = none := by rfl) : QG X (.Tuple es k pos) (gTup K n t) := by
  subst hK
  exact qg_tup hc h hn hst
def tIfJ (c : TT) (t u : TS) : TS := fun D σ H => ∃ J : St -> Hp -> Prop, (c σ H fun b H1 => if b = true then t { D with nx := J } σ H1 else u { D with nx := J } σ H1) /\ ∀ σ' H', J σ' H' -> D.nx σ' H'
theorem qs_ifJ {X : Cx} {c : Expr} {a b : List Stmt} {tc : TT} {t u : TS} {pos : Pos} (hc : QT X c tc) (ha : QSs X a t) (hb : QSs X b u) : QS X (.If c a b pos) (tIfJ tc t u) := ⟨by
  intro pins s σ H D I ⟨J, h1, h2⟩
  refine thn ((qs_if hc ha hb).o pins s σ H { D with nx := J } I h1) fun f s' hs => ?_
  cases f with
  | next => obtain ⟨σ', H', I', q⟩ := hs; exact ⟨σ', H', I', h2 σ' H' q⟩
  | brk => exact hs
  | cont => exact hs
  | ret u => exact hs⟩
end L2
namespace PySem.W
end PySem.W
namespace Mth
def cnt (p : Nat) (n : Nat) : Nat := if h : 2 <= p /\ 1 <= n /\ n % p = 0 then cnt p (n / p) + 1 else 0
termination_by n
decreasing_by exact Nat.div_lt_self h.2.1 h.1
theorem cnt_div {p n : Nat} (hp : 2 <= p) (hn : 1 <= n) (h : n % p = 0) : cnt p n = cnt p (n / p) + 1 := by
  rw [cnt, dif_pos ⟨hp, hn, h⟩]
theorem cnt_not {p n : Nat} (h : n % p ≠ 0) : cnt p n = 0 := by
  rw [cnt, dif_neg fun z => h z.2.2]
def expsL : List Nat -> Nat -> List Nat
  | [], _ => []
  | p :: ps, n => cnt p n :: expsL ps (strip p n)
theorem expsL_length : ∀ (ps : List Nat) (n : Nat), (expsL ps n).length = ps.length
  | [], _ => rfl
  | p :: ps, n => by simp only [expsL, List.length_cons, expsL_length ps]
theorem expsL_snoc : ∀ (ps : List Nat) (i p n : Nat), ps[i]? = some p -> expsL (ps.take (i + 1)) n = expsL (ps.take i) n ++ [cnt p (stripL (ps.take i) n)]
  | [], _, _, _, h => by cases h
  | q :: ps, 0, p, n, h => by
    have z : q = p := Option.some.inj h
    subst z
    rfl
  | q :: ps, i + 1, p, n, h => by
    show cnt q n :: expsL (ps.take (i + 1)) (strip q n) = cnt q n :: (expsL (ps.take i) (strip q n) ++ [cnt p (stripL (ps.take i) (strip q n))])
    rw [expsL_snoc ps i p (strip q n) h]
theorem cnt_spec {p : Nat} (hp : 2 <= p) : ∀ n : Nat, 1 <= n -> n = p ^ cnt p n * strip p n := by
  intro n
  induction n using Nat.strongRecOn with
  | _ n ih =>
    intro hn
    by_cases h : n % p = 0
    · have h1 := div_pos_of hn h
      have e := ih (n / p) (Nat.div_lt_self hn hp) h1
      rw [cnt_div hp hn h, strip_div hp hn h, Nat.pow_succ]
      have e2 : n = p * (n / p) := (Nat.mul_div_cancel' (Nat.dvd_of_mod_eq_zero h)).symm
      calc n = p * (n / p) := e2
        _ = p * (p ^ cnt p (n / p) * strip p (n / p)) := by rw [← e]
        _ = p ^ cnt p (n / p) * p * strip p (n / p) := by rw [← Nat.mul_assoc, Nat.mul_comm p]
    · rw [cnt_not h, strip_not h, Nat.pow_zero, Nat.one_mul]
theorem cnt_eq {p : Nat} (hp : 2 <= p) : ∀ (e r : Nat), 1 <= r -> r % p ≠ 0 -> cnt p (p ^ e * r) = e
  | 0, r, _, h => by rw [Nat.pow_zero, Nat.one_mul, cnt_not h]
  | e + 1, r, hr, h => by
    have e1 : p ^ (e + 1) * r = p * (p ^ e * r) := by rw [Nat.pow_succ, Nat.mul_comm (p ^ e) p, Nat.mul_assoc]
    have hpos : 1 <= p ^ e * r := Nat.mul_pos (Nat.pow_pos (by omega)) hr
    rw [e1, cnt_div hp (Nat.mul_pos (by omega) hpos) (Nat.mul_mod_right p _), Nat.mul_div_cancel_left _ (by omega), cnt_eq hp e r hr h]
theorem cnt_strip {p q : Nat} (hp : 2 <= p) (hq : 2 <= q) (c : Nat.Coprime p q) {n : Nat} (hn : 1 <= n) : cnt p (strip q n) = cnt p n := by
  have e1 := cnt_spec hp n hn
  have e2 := cnt_spec hq n hn
  have hs := strip_pos hq n hn
  have hr := strip_pos hp n hn
  have hrm := strip_mod hp n hn
  have cq : Nat.Coprime (p ^ cnt p n) (q ^ cnt q n) := Nat.Coprime.pow _ _ c
  have hd : p ^ cnt p n ∣ strip q n := by
    have : p ^ cnt p n ∣ q ^ cnt q n * strip q n := by rw [← e2]; exact ⟨strip p n, e1⟩
    exact cq.dvd_of_dvd_mul_left this
  obtain ⟨r, hr'⟩ := hd
  have hr1 : 1 <= r := by
    rcases Nat.eq_zero_or_pos r with z | z
    · rw [z, Nat.mul_zero] at hr'; omega
    · exact z
  have hrp : r % p ≠ 0 := fun z => by
    obtain ⟨t, ht⟩ := Nat.dvd_of_mod_eq_zero z
    have e3 : n = p ^ cnt p n * (p * (t * q ^ cnt q n)) := by
      calc n = q ^ cnt q n * strip q n := e2
        _ = q ^ cnt q n * (p ^ cnt p n * (p * t)) := by rw [hr', ht]
        _ = p ^ cnt p n * (p * (t * q ^ cnt q n)) := by
          rw [Nat.mul_comm (q ^ cnt q n), Nat.mul_assoc, Nat.mul_assoc, Nat.mul_comm t]
    have e4 : p ^ cnt p n * strip p n = p ^ cnt p n * (p * (t * q ^ cnt q n)) := by rw [← e1]; exact e3
    have e5 := Nat.eq_of_mul_eq_mul_left (Nat.pow_pos (by omega)) e4
    rw [e5, Nat.mul_mod_right] at hrm
    exact hrm rfl
  rw [hr', cnt_eq hp _ r hr1 hrp]
theorem expsL_map : ∀ (ps : List Nat), (∀ p ∈ ps, 2 <= p) -> ps.Pairwise Nat.Coprime -> ∀ n, 1 <= n -> expsL ps n = ps.map fun p => cnt p n
  | [], _, _, _, _ => rfl
  | p :: ps, h, hc, n, hn => by
    have hp := h p List.mem_cons_self
    rw [List.pairwise_cons] at hc
    show cnt p n :: expsL ps (strip p n) = cnt p n :: ps.map fun q => cnt q n
    rw [expsL_map ps (fun q hq => h q (List.mem_cons_of_mem _ hq)) hc.2 (strip p n) (strip_pos hp n hn)]
    congr 1
    refine List.map_congr_left fun q hq => ?_
    exact cnt_strip (h q (List.mem_cons_of_mem _ hq)) hp (hc.1 q hq).symm hn
def powsOf (n : Nat) : List Nat := primes.map fun p => cnt p n
theorem powsOf_exps {n : Nat} (hn : 1 <= n) : powsOf n = expsL primes n := (expsL_map primes two_le primes_cop n hn).symm
end Mth
namespace Mth
def chg (n d : Nat) : List Int := List.zipWith (fun a b : Nat => (a : Int) - (b : Int)) (powsOf n) (powsOf d)
theorem chg_length (n d : Nat) : (chg n d).length = 10 := by simp [chg, powsOf, primes]
def R10 (rows : List (List Int)) : Prop := ∀ c ∈ rows, c.length = 10
end Mth
namespace Mth
def natI (l : List Nat) : List Int := l.map fun n : Nat => (n : Int)
end Mth
namespace L2
open PySem PyProof.Rows
theorem b_sum : bootBuiltins "sum" = some (.builtin "sum") := by decide +kernel
theorem b_abs : bootBuiltins "abs" = some (.builtin "abs") := by decide +kernel
end L2
namespace W2
open PySem L2 Mth
abbrev tupI (c : List Int) : HO := .tup (c.map V.int)
theorem _root_.L2.RowV.same {H H' : Hp} {x : V} {c : List Int} (h : RowV H x c) (s : Same H H') : RowV H' x c := by
  obtain ⟨a, e, ha⟩ := h
  exact ⟨a, e, s _ _ ha⟩
theorem _root_.L2.RowsV.same {H H' : Hp} {xs : List V} {cs : List (List Int)} (h : RowsV H xs cs) (s : Same H H') : RowsV H' xs cs := ⟨h.1, fun i x e => by
  obtain ⟨c, hc, r⟩ := h.2 i x e
  exact ⟨c, hc, r.same s⟩⟩
theorem _root_.L2.RowsV.but {H H' : Hp} {xs : List V} {cs : List (List Int)} {l : Addr} {ys : List V} (h : RowsV H xs cs) (hl : H l = some (.lst ys)) (s : But l H H') : RowsV H' xs cs := ⟨h.1, fun i x e => by
  obtain ⟨c, hc, a, ea, ha⟩ := h.2 i x e
  exact ⟨c, hc, a, ea, s _ _ (ne_of ha hl (by intro z; cases z)) ha⟩⟩
theorem _root_.L2.RowsV.nil {H : Hp} : RowsV H [] [] := ⟨rfl, fun i x e => by cases e⟩
theorem _root_.L2.RowsV.app {H : Hp} {xs ys : List V} {cs ds : List (List Int)} (h : RowsV H xs cs) (g : RowsV H ys ds) : RowsV H (xs ++ ys) (cs ++ ds) := by
  refine ⟨by rw [List.length_append, List.length_append, h.1, g.1], fun i x e => ?_⟩
  by_cases hi : i < xs.length
  · rw [List.getElem?_append_left hi] at e
    obtain ⟨c, hc, r⟩ := h.2 i x e
    exact ⟨c, by rw [List.getElem?_append_left (by rw [← h.1]; exact hi)]; exact hc, r⟩
  · rw [List.getElem?_append_right (by omega)] at e
    obtain ⟨c, hc, r⟩ := g.2 _ x e
    exact ⟨c, by rw [List.getElem?_append_right (by rw [← h.1]; omega), ← h.1]; exact hc, r⟩
theorem _root_.L2.RowsV.one {H : Hp} {x : V} {c : List Int} (h : RowV H x c) : RowsV H [x] [c] := by
  refine ⟨rfl, fun i y e => ?_⟩
  cases i with
  | zero => cases e; exact ⟨c, rfl, h⟩
  | succ i => cases e
def FrcsV (H : Hp) (xs : List V) (fs : List (Int × Int)) : Prop := xs.length = fs.length /\ ∀ (k : Nat) (x : V), xs[k]? = some x -> ∃ i j c, fs[k]? = some (i, j) /\ x = .ref c /\ H c = some (.tup [.int i, .int j]) /\ fracB i j = true
theorem FrcsV.same {H H' : Hp} {xs : List V} {fs : List (Int × Int)} (h : FrcsV H xs fs) (s : Same H H') : FrcsV H' xs fs := ⟨h.1, fun k x e => by
  obtain ⟨i, j, c, h1, h2, h3, h4⟩ := h.2 k x e
  exact ⟨i, j, c, h1, h2, s _ _ h3, h4⟩⟩
theorem frcs_of {H : Hp} : ∀ {xs : List V}, (∀ x ∈ xs, ∃ (c : Addr) (i j : Int), x = .ref c /\ H c = some (.tup [.int i, .int j]) /\ fracB i j = true) -> ∃ fs, FrcsV H xs fs
  | [], _ => ⟨[], rfl, fun k x e => by cases e⟩
  | x :: xs, h => by
    obtain ⟨c, i, j, h1, h2, h3⟩ := h x List.mem_cons_self
    obtain ⟨fs, f1, f2⟩ := frcs_of fun y hy => h y (List.mem_cons_of_mem _ hy)
    refine ⟨(i, j) :: fs, by simp [f1], fun k y e => ?_⟩
    cases k with
    | zero => cases e; exact ⟨i, j, c, rfl, h1, h2, h3⟩
    | succ k => exact f2 k y (by simpa using e)
def rowsOf (fs : List (Int × Int)) : List (List Int) := fs.map fun f => chg f.1.toNat f.2.toNat
theorem rowsOf_10 (fs : List (Int × Int)) : R10 (rowsOf fs) := fun c hc => by
  obtain ⟨f, _, rfl⟩ := List.mem_map.mp hc
  exact chg_length _ _
theorem rowsOf_len (fs : List (Int × Int)) : (rowsOf fs).length = fs.length := List.length_map _
theorem fracB_parts {i j : Int} (h : fracB i j = true) : (1 <= i /\ stripAll i.toNat = 1) /\ (1 <= j /\ stripAll j.toNat = 1) := by
  unfold fracB termB at h
  simp only [Bool.and_eq_true, decide_eq_true_eq] at h
  exact ⟨⟨h.1.1.1.1, h.1.1.2⟩, ⟨h.1.2.1.1, h.1.2.2⟩⟩
theorem zipWith_snoc {f : Int -> Int -> Int} {xs ys : List Int} {i : Nat} {x y : Int} (hx : xs[i]? = some x) (hy : ys[i]? = some y) : (List.zipWith f xs ys).take (i + 1) = (List.zipWith f xs ys).take i ++ [f x y] := by
  have hz : (List.zipWith f xs ys)[i]? = some (f x y) := by rw [List.getElem?_zipWith_eq_some]; exact ⟨x, y, hx, hy, rfl⟩
  rw [List.take_add_one, hz]
  rfl
theorem comp_zip_ints {K : PySem.W.Frag} {a b D : Addr} {js : List (Option Nat)} {te : TE} {σ : St} {H1 : Hp} {Q : VK} {xs ys : List Int} {σ0 : St} {f : Int -> Int -> Int} (hn : min xs.length ys.length <= sizeLine) (hp : ∃ u v, pick js σ = u :: v :: σ0) (hD : H1 D = none)
    (ha : H1 a = some (tupI xs)) (hb : H1 b = some (tupI ys))
    (hs : ∀ (x y : Int) (H' : Hp) (R : VK), x ∈ xs -> y ∈ ys -> R (.int (f x y)) H' -> te (some (.int x) :: some (.int y) :: σ0) H' R)
    (q : ∀ H', Same H1 H' -> H' D = some (.lst ((List.zipWith f xs ys).map V.int)) -> Q (.ref D) H') : CompW (Itz K a b) D js (gTup K 2 (gCons (gName 0) (gCons (gName 1) gNil))) tNoTest te σ H1 Q := by
  obtain ⟨u0, v0, hp⟩ := hp
  refine comp_zip (K := K) (a := a) (b := b) (xs := xs.map V.int) (ys := ys.map V.int) (by rw [List.length_map, List.length_map]; exact hn) (fun i σ' H' zs => (∃ u v : Option V, σ' = u :: v :: σ0) /\ Same H1 H' /\ zs = ((List.zipWith f xs ys).take i).map V.int) ⟨⟨u0, v0, hp⟩, Same.new hD, rfl⟩ (fun i σ' H' zs _ ⟨_, s', _⟩ => ⟨SqT.of (s' _ _ ha), SqT.of (s' _ _ hb)⟩) ?_ ?_
  · rintro i x y p σ' H' zs R hx hy hp hD' hzl ⟨⟨u, v, rfl⟩, s', rfl⟩ kk
    obtain ⟨x, rfl, hx'⟩ := map_int_get hx
    obtain ⟨y, rfl, hy'⟩ := map_int_get hy
    refine ⟨p, _, rfl, SqT.of upd_same, rfl, _, _, rfl, _, _, rfl, rfl, ?_⟩
    refine hs x y _ _ (List.mem_of_getElem? hx') (List.mem_of_getElem? hy') (kk _ _ _ ?_ ⟨⟨_, _, rfl⟩, ?_, ?_⟩)
    · rw [upd_ne (ne_of_none hD' hp)]; exact hD'
    · intro c o e
      rw [upd_ne (ne_of_none e hD), upd_ne (ne_of_none (s' c o e) hp)]
      exact s' c o e
    · rw [zipWith_snoc hx' hy', List.map_append]
      rfl
  · rintro σ' H' zs hD' hzl ⟨_, s', rfl⟩
    refine q H' s' ?_
    rw [hD', List.length_map, List.length_map, List.take_of_length_le (by rw [List.length_zipWith]; exact Nat.le_refl _)]
end W2
namespace L2
open PySem PySem.Spec PyProof.Rows
def Itzl (a b : Addr) : It :=
  ⟨fun i H => ∃ xs ys x y, H a = some (.lst xs) /\ H b = some (.lst ys) /\ xs[i]? = some x /\ ys[i]? = some y,
   fun i H v H' => ∃ p, H p = none /\ v = .ref p /\ ∃ x y, H' = upd H p (.tup [x, y]) /\ ∀ xs ys, H a = some (.lst xs) -> H b = some (.lst ys) -> xs[i]? = some x /\ ys[i]? = some y,
   fun i H => ∃ xs ys, H a = some (.lst xs) /\ H b = some (.lst ys) /\ (xs.length <= i ∨ ys.length <= i)⟩
theorem turn_zipL {P : Program} {w : World} {K : PySem.W.Frag} {tg : Expr} (htg : tupleTg tg = true) {z TI TO j1 j2 a b : Addr} (D : ZipApart z TI TO j1 j2 a b) :
    Turn P w K tg (Itzl a b) [z, TO, j1, j2, TI] z (fun i h => IsZip h z TI TO .none /\ IsPair h TI (.ref j1) (.ref j2) /\ (∃ u v, IsPair h TO u v) /\ h.IsListIter j1 a i /\ h.IsListIter j2 b i) where
  mem := List.mem_cons_self
  obj := fun i h st c hc => by
    obtain ⟨h1, h2, ⟨u, v, h3⟩, ⟨o4, h4, _, d4⟩, ⟨o5, h5, _, d5⟩⟩ := st
    have nof : ∀ {o : Obj} {vs : Array Value}, o.data = .fields vs -> ∀ v, o.data ≠ .cell v := fun e v q => by rw [e] at q; cases q
    have nos : ∀ {o : Obj} {vs : Array Value} {n : Nat}, o.data = .seq vs n -> ∀ v, o.data ≠ .cell v := fun e v q => by rw [e] at q; cases q
    simp only [List.mem_cons, List.not_mem_nil, or_false] at hc
    rcases hc with rfl | rfl | rfl | rfl | rfl
    · exact ⟨_, h1, nof rfl⟩
    · exact ⟨_, h3, nos rfl⟩
    · exact ⟨_, h4, nof d4⟩
    · exact ⟨_, h5, nof d5⟩
    · exact ⟨_, h2, nos rfl⟩
  keep := fun i h h' st k => by
    obtain ⟨h1, h2, ⟨u, v, h3⟩, ⟨o4, h4, r4⟩, ⟨o5, h5, r5⟩⟩ := st
    exact ⟨k _ (by simp) _ h1, k _ (by simp) _ h2, ⟨u, v, k _ (by simp) _ h3⟩, ⟨o4, k _ (by simp) _ h4, r4⟩, ⟨o5, k _ (by simp) _ h5, r5⟩⟩
  item := by
    intro X hP hw hK hc i pins s σ H E I hf st hg
    subst hP hw hK
    obtain ⟨h1, h2, ⟨u, v, h3⟩, h4, h5⟩ := st
    obtain ⟨xs, ys, x, y, qa, qb, hx, hy⟩ := hg
    obtain ⟨_, its, n1, rv, _, pa⟩ := I.lstM qa
    obtain ⟨_, jts, n2, rw', _, pb⟩ := I.lstM qb
    obtain ⟨ux, eux, rux⟩ := rv.get hx
    obtain ⟨uy, euy, ruy⟩ := rw'.get hy
    refine wpAny_pyNext_zip_item D h1 h2 h3 h4 h5 (show s.heap.IsList a its.toArray from ⟨_, pa, rfl, n1, rfl⟩) (show s.heap.IsList b jts.toArray from ⟨_, pb, rfl, n2, rfl⟩) (x := ux) (y := uy) (by simpa using eux) (by simpa using euy) fun g b1 b2 b3 b4 b5 _ b6 => ?_
    refine ⟨_, rfl, ?_⟩
    have zlt : z < s.heap.objs.size := Heap.lt_size h1
    cases tg with
    | Tuple es kk pp =>
      refine wpAny_letOwnedTupleGo_zip b1 fun g' c1 sb => ?_
      have new : IsPair g' s.heap.objs.size ux uy := sb.extBut _ _ (Nat.ne_of_gt zlt) b5
      have I1 : Inv X pins σ (upd H s.heap.objs.size (.tup [x, y])) { s with heap := g' } := by
        refine I.turnedNew (t' := s.toks) (L := [z, TO, j1, j2, TI]) (fun c o hcn e => ?_) hf (Nat.le_refl _) ⟨by show 2 <= sizeLine; decide, [ux, uy], .cons rux (.cons ruy .nil), ⟨_, new, rfl, ⟨0, rfl⟩, rfl⟩⟩
        simp only [List.mem_cons, List.not_mem_nil, or_false, not_or] at hcn
        exact sb.extBut c o hcn.1 (b6 c o hcn.1 hcn.2.1 hcn.2.2.1 hcn.2.2.2.1 e)
      have h2' : IsPair g' TI (.ref j1) (.ref j2) := sb.extBut _ _ D.TIz (b6 _ _ D.TIz D.TITO D.TIi1 D.TIi2 h2)
      refine ⟨.ref s.heap.objs.size, _, I1, rfl, ⟨_, I.fresh, rfl, x, y, rfl, fun xs' ys' q1 q2 => ?_⟩, ⟨c1, h2', ⟨_, _, sb.extBut _ _ D.TOz b2⟩, b3.extBut sb.extBut D.i1z, b4.extBut sb.extBut D.i2z⟩, fun c hcm => ?_⟩
      · rw [qa] at q1
        rw [qb] at q2
        cases q1
        cases q2
        exact ⟨hx, hy⟩
      obtain ⟨o, eo, _⟩ : ∃ o, s.heap.get? c = some o /\ True := by
        simp only [List.mem_cons, List.not_mem_nil, or_false] at hcm
        rcases hcm with rfl | rfl | rfl | rfl | rfl
        · exact ⟨_, h1, trivial⟩
        · exact ⟨_, h3, trivial⟩
        · obtain ⟨o4, g4, _⟩ := h4
          exact ⟨_, g4, trivial⟩
        · obtain ⟨o5, g5, _⟩ := h5
          exact ⟨_, g5, trivial⟩
        · exact ⟨_, h2, trivial⟩
      rw [upd_ne (Nat.ne_of_lt (Heap.lt_size eo))]
      exact (hf c hcm).1
    | _ => exact absurd (show false = true from htg) Bool.false_ne_true
  done := by
    intro X hP hw hK hc i pins s σ H E I hf st hg
    subst hP hw hK
    obtain ⟨h1, h2, ⟨u, v, h3⟩, h4, h5⟩ := st
    obtain ⟨xs, ys, qa, qb, hl⟩ := hg
    obtain ⟨_, its, n1, rv, e1, pa⟩ := I.lstM qa
    obtain ⟨_, jts, n2, rw', e2, pb⟩ := I.lstM qb
    refine wpAny_pyNext_zip_end (I.ok.hd hc) D h1 h2 h3 h4 h5 (show s.heap.IsList a its.toArray from ⟨_, pa, rfl, n1, rfl⟩) (show s.heap.IsList b jts.toArray from ⟨_, pb, rfl, n2, rfl⟩) ?_ fun g up => ⟨rfl, ?_⟩
    · rcases hl with hl | hl
      · exact .inl (by simp; omega)
      · exact .inr (by simp; omega)
    · refine I.turnedL (t' := s.toks) (L := [z, TO, j1, j2, TI]) (fun c o hcn e => ?_) hf
      simp only [List.mem_cons, List.not_mem_nil, or_false, not_or] at hcn
      exact up c o hcn.1 hcn.2.1 hcn.2.2.1 hcn.2.2.2.1 e
  self := fun _ _ _ _ _ st h => wpAny_pyIter_zip st.1 h
section
variable {X : Cx} {tg : Expr}
def iZipL (ta : TA) : TI := fun σ H R => ta σ H fun vs H1 => ∃ a b xs ys, vs = [.ref a, .ref b] /\ H1 a = some (.lst xs) /\ H1 b = some (.lst ys) /\ R (Itzl a b) H1
theorem qi_zipL {e1 e2 : Expr} {ta : TA} {p pos : Pos} (htg : tupleTg tg = true) (hg : Gl X "zip") (hm : X.mg "zip" = none) (ha : QA X [e1, e2] ta) (hs : starEach [e1, e2] X.env = [(false, eval e1 X.env), (false, eval e2 X.env)] := by rfl) (hs2 : starEach [e2] X.env = [(false, eval e2 X.env)] := by rfl)
    (hb : bootBuiltins "zip" = some (.type "zip") := by decide +kernel) : QI X tg (.Call (.Name "zip" p) [e1, e2] [] pos) (iZipL ta) := ⟨by
  intro pins s σ H R I h
  refine Call_ (ld_blt I hg hm hb (PyProof.Rows.callWith_type1 (thn (ha.o pos pins s σ H _ I h) fun us s1 ⟨vs, H1, I1, r1, q1⟩ => ?_) (by rw [hs, hs2]) (by rw [hs2]; rfl)))
  obtain ⟨a, b, xs, ys, e, qa, qb, q⟩ := q1
  subst e
  obtain ⟨u1, u2, rfl, ra, rb⟩ := vals2 r1
  cases ra
  cases rb
  obtain ⟨_, its, n1, rv, e1, pa⟩ := I1.lstM qa
  obtain ⟨_, jts, n2, rw', e2, pb⟩ := I1.lstM qb
  have la : a < s1.heap.objs.size := Heap.lt_size pa
  have lb : b < s1.heap.objs.size := Heap.lt_size pb
  refine call_zip_2 (show s1.heap.IsList a its.toArray from ⟨_, pa, rfl, n1, rfl⟩) (show s1.heap.IsList b jts.toArray from ⟨_, pb, rfl, n2, rfl⟩) fun g z1 z2 z3 z4 z5 _ up => ?_
  refine wpAny_pyIter_zip z1 ?_
  have I2 : Inv X pins σ H1 { s1 with heap := g } := I1.kept (t' := s1.toks) up
  refine ⟨_, [s1.heap.objs.size + 4, s1.heap.objs.size + 3, s1.heap.objs.size, s1.heap.objs.size + 1, s1.heap.objs.size + 2], _, _, H1, rfl, I2, turn_zipL htg (apart_new la lb), ⟨z1, z2, ⟨_, _, z3⟩, z4, z5⟩, fun c hc => ?_, q⟩
  have big : s1.heap.objs.size <= c := by
    simp only [List.mem_cons, List.not_mem_nil, or_false] at hc
    rcases hc with rfl | rfl | rfl | rfl | rfl
    · exact Nat.le_add_right _ _
    · exact Nat.le_add_right _ _
    · exact Nat.le_refl _
    · exact Nat.le_add_right _ _
    · exact Nat.le_add_right _ _
  exact I1.fpOk big (I1.hok.fresh big)⟩
end
theorem comp_zipL {a b D : Addr} {js : List (Option Nat)} {g : TG} {te : TE} {σ : St} {H1 : Hp} {Q : VK} {xs ys : List V} (hn : min xs.length ys.length <= sizeLine) (Pv : Nat -> St -> Hp -> List V -> Prop) (h0 : Pv 0 (pick js σ) (upd H1 D (.lst [])) [])
    (hl : ∀ i σ' H' zs, H' D = some (.lst zs) -> Pv i σ' H' zs -> H' a = some (.lst xs) /\ H' b = some (.lst ys))
    (hs : ∀ i x y p σ' H' zs (R : St -> V -> Hp -> Prop), xs[i]? = some x -> ys[i]? = some y -> H' p = none -> H' D = some (.lst zs) -> zs.length = i -> Pv i σ' H' zs -> (∀ σ2 z H4, H4 D = some (.lst zs) -> Pv (i + 1) σ2 (upd H4 D (.lst (zs ++ [z]))) (zs ++ [z]) -> R σ2 z H4) ->
      g (.ref p) σ' (upd H' p (.tup [x, y])) fun σ2 H3 => te σ2 H3 fun z H4 => R σ2 z H4)
    (hst : ∀ σ' H' zs, H' D = some (.lst zs) -> zs.length = min xs.length ys.length -> Pv (min xs.length ys.length) σ' H' zs -> Q (.ref D) H') : CompW (Itzl a b) D js g tNoTest te σ H1 Q := by
  refine comp_plain hn Pv h0 (fun i σ' H' zs hi hD p => ?_) (fun σ' H' zs hD b' c => ⟨?_, hst σ' H' zs hD b' c⟩) fun i σ' H' zs x H2 R hi hD hz p hx k => ?_
  · obtain ⟨qa, qb⟩ := hl i σ' H' zs hD p
    have h1 : i < xs.length := by omega
    have h2 : i < ys.length := by omega
    exact ⟨xs, ys, xs[i], ys[i], qa, qb, by simp [h1], by simp [h2]⟩
  · obtain ⟨qa, qb⟩ := hl _ σ' H' zs hD c
    exact ⟨xs, ys, qa, qb, by omega⟩
  · obtain ⟨qa, qb⟩ := hl i σ' H' zs hD p
    obtain ⟨q, hq, rfl, x', y', rfl, hxy⟩ := hx
    obtain ⟨ex, ey⟩ := hxy xs ys qa qb
    exact hs i x' y' q σ' H' zs R ex ey hq hD hz p k
end L2
namespace W2
open PySem L2 Mth
end W2
namespace Xi
open PySem PyProof.Rows
end Xi
namespace PySem.W
open PySem PySem.Spec PySem.Calls PyProof.Rows Builtin.ObjectAttr
end PySem.W
namespace L2
open PySem PySem.Spec PyProof.Rows Xn
end L2
namespace Mth
end Mth
namespace L2
open PySem PySem.Spec PySem.Calls PyProof.Rows
theorem atI_end {α : Type} {xs : List α} {x : α} {n : Nat} (hn : xs.length = n + 1) (h : xs[n]? = some x) : atI xs (-1) = some x := by
  have e : xs = xs.take n ++ [x] := by
    have h1 : xs.take (n + 1) = xs := List.take_of_length_le (by omega)
    rw [List.take_add_one, h] at h1
    exact h1.symm
  rw [e]
  exact atI_last _ _
end L2
namespace Mth
end Mth
namespace Zm
open PySem PyProof.Rows Zt
section
variable {prog : Program} {w : World} {A : Around} {E : Value -> Shared -> Prop} {s : Shared}
theorem zip_item {z TI TO j1 j2 t1 t2 : Addr} {k : Nat} {xs ys : Array Value} {x y a b : Value} {Q : Value -> Shared -> Prop} (D : ZipApart z TI TO j1 j2 t1 t2)
    (zz : IsZip s.heap z TI TO .none) (zI : IsPair s.heap TI (.ref j1) (.ref j2)) (zO : IsPair s.heap TO a b)
    (i1 : s.heap.IsTupleIter j1 t1 k) (i2 : s.heap.IsListIter j2 t2 k) (l1 : s.heap.IsTuple t1 xs) (l2 : s.heap.IsList t2 ys) (ex : xs[k]? = some x) (ey : ys[k]? = some y)
    (q : ∀ g, IsZip g z TI TO (rawInt s.heap.objs.size) -> IsPair g TO x y -> g.IsTupleIter j1 t1 (k + 1) -> g.IsListIter j2 t2 (k + 1) -> IsPair g s.heap.objs.size x y ->
      (∀ c o, c ≠ z -> c ≠ TO -> c ≠ j1 -> c ≠ j2 -> s.heap.get? c = some o -> g.get? c = some o) -> Q (.ref s.heap.objs.size) { s with heap := g }) :
    wpAny (model prog w) A (Builtin.«zip.__next__» ⟨[.ref z], []⟩) (fun fin s' => ∃ v, fin = .done (.ret v) /\ Q v s') E s := by
  show wpAny _ _ (field (.ref z) 2 >>= _) _ _ _
  refine wpAny_bind (wpAny_field zz rfl (x := .bool false) rfl ?_)
  show wpAny _ _ (field (.ref z) 3 >>= _) _ _ _
  refine wpAny_bind (wpAny_field zz rfl (x := .ref TI) rfl (wpAny_bind (wpAny_seqItems zI rfl ?_)))
  show wpAny _ _ (Builtin.SmallTypes.ownedTupleIsFree (.ref z) >>= _) _ _ _
  refine wpAny_bind ?_
  unfold Builtin.SmallTypes.ownedTupleIsFree
  refine wpAny_bind (wpAny_field zz rfl (x := .none) rfl (wpAny_pure ?_))
  simp only [if_true]
  refine wpAny_bind (wpAny_rule (wpAny_bind (wpAny_field zz rfl (x := .ref TO) rfl (wpAny_bind (wpAny_setField_rec zz (by simp) fun g1 zz1 s1 => ?_)))))
  replace zz1 : IsZip g1 z TI TO .ellipsis := zz1
  refine wpAny_bind ?_
  simp only [List.zipIdx_cons, List.zipIdx_nil, List.forIn_cons, List.forIn_nil]
  refine wpAny_bind (wpAny_bind (wpAny_onRaise ?_))
  show wpAny _ _ (Builtin.SmallTypes.nextOf (.ref j1) >>= _) _ _ _
  refine wpAny_bind (pull (i1.extBut s1.extBut D.i1z) (l1.extBut s1.extBut D.l1z) ex fun g2 i1' s2 => wpAny_pure ?_)
  have zO2 : IsPair g2 TO a b := s2.extBut _ _ D.TOi1 (s1.extBut _ _ D.TOz zO)
  refine wpAny_bind (wpAny_seqItems zO2 rfl (wpAny_bind (wpAny_updateSeq_pair zO2 fun g3 zO3 s3 => ?_)))
  replace zO3 : IsPair g3 TO x b := zO3
  refine wpAny_bind (wpAny_letGo (wpAny_pure (wpAny_bind (wpAny_bind (wpAny_onRaise ?_)))))
  show wpAny _ _ (Builtin.SmallTypes.nextOf (.ref j2) >>= _) _ _ _
  have i2' := ((i2.extBut s1.extBut D.i2z).extBut s2.extBut D.i12.symm).extBut s3.extBut D.TOi2.symm
  have l2' := ((l2.extBut s1.extBut D.l2z).extBut s2.extBut D.l2i1).extBut s3.extBut D.l2TO
  refine wpAny_bind (wpAny_nextOf_list_item i2' l2' ey fun g4 i2'' s4 => wpAny_pure ?_)
  have zO4 : IsPair g4 TO x b := s4.extBut _ _ D.TOi2 zO3
  refine wpAny_bind (wpAny_seqItems zO4 rfl (wpAny_bind (wpAny_updateSeq_pair zO4 fun g5 zO5 s5 => ?_)))
  replace zO5 : IsPair g5 TO x y := zO5
  refine wpAny_bind (wpAny_letGo (wpAny_pure (wpAny_pure (wpAny_bind (wpAny_seqItems zO5 rfl (wpAny_bind (wpAny_newTuple ?_)))))))
  have sz : g5.objs.size = s.heap.objs.size := by rw [s5.1, s4.1, s3.1, s2.1, s1.1]
  have zz5 : IsZip g5 z TI TO .ellipsis := s5.extBut _ _ D.TOz.symm (s4.extBut _ _ D.i2z.symm (s3.extBut _ _ D.TOz.symm (s2.extBut _ _ D.i1z.symm zz1)))
  have up5 : ∀ c o, c ≠ z -> c ≠ TO -> c ≠ j1 -> c ≠ j2 -> s.heap.get? c = some o -> g5.get? c = some o := fun c o n1 n2 n3 n4 q' =>
    s5.extBut _ _ n2 (s4.extBut _ _ n4 (s3.extBut _ _ n2 (s2.extBut _ _ n3 (s1.extBut _ _ n1 q'))))
  have j15 : g5.IsTupleIter j1 t1 (k + 1) := ((i1'.extBut s3.extBut D.TOi1.symm).extBut s4.extBut D.i12).extBut s5.extBut D.TOi1.symm
  have j25 : g5.IsListIter j2 t2 (k + 1) := i2''.extBut s5.extBut D.TOi2.symm
  have zlt : z < g5.objs.size := Heap.lt_size zz5
  show wpAny _ _ (Builtin.SmallTypes.ownedTupleHandOut (.ref z) (.ref g5.objs.size) >>= _) _ _ _
  refine wpAny_bind ?_
  unfold Builtin.SmallTypes.ownedTupleHandOut
  have zz6 : IsZip (g5.push { cls := .type "tuple", data := .seq #[x, y] }) z TI TO .ellipsis := Heap.get?_push_of_some _ zz5
  refine wpAny_bind (wpAny_setField_rec zz6 (by simp) fun g7 zz7 s7 => ?_)
  replace zz7 : IsZip g7 z TI TO (rawInt g5.objs.size) := zz7
  refine wpAny_setField_rec zz7 (by simp) fun g8 zz8 s8 => ?_
  replace zz8 : IsZip g8 z TI TO (rawInt g5.objs.size) := zz8
  have up8 : ∀ c o, c ≠ z -> g5.get? c = some o -> g8.get? c = some o := fun c o n1 q' => s8.extBut _ _ n1 (s7.extBut _ _ n1 (Heap.get?_push_of_some _ q'))
  have new8 : IsPair g8 g5.objs.size x y := s8.extBut _ _ (Nat.ne_of_gt zlt) (s7.extBut _ _ (Nat.ne_of_gt zlt) (Heap.get?_push_size _ rfl))
  rw [sz] at zz8 new8
  refine wpAny_pure ⟨_, rfl, ?_⟩
  show Q (.ref g5.objs.size) _
  rw [sz]
  refine q g8 zz8 (up8 _ _ D.TOz zO5) ?_ ?_ new8 fun c o n1 n2 n3 n4 q' => up8 c o n1 (up5 c o n1 n2 n3 n4 q')
  · obtain ⟨o, e, r⟩ := j15
    exact ⟨o, up8 _ _ D.i1z e, r⟩
  · obtain ⟨o, e, r⟩ := j25
    exact ⟨o, up8 _ _ D.i2z e, r⟩
theorem zip_stop {z TI TO j1 j2 t1 t2 : Addr} {k : Nat} {xs ys : Array Value} {a b : Value} {Q : Fin -> Shared -> Prop} (hd : A.handled = none) (D : ZipApart z TI TO j1 j2 t1 t2)
    (zz : IsZip s.heap z TI TO .none) (zI : IsPair s.heap TI (.ref j1) (.ref j2)) (zO : IsPair s.heap TO a b)
    (i1 : s.heap.IsTupleIter j1 t1 k) (i2 : s.heap.IsListIter j2 t2 k) (l1 : s.heap.IsTuple t1 xs) (l2 : s.heap.IsList t2 ys) (ee : xs[k]? = none ∨ ys[k]? = none)
    (q : ∀ g e, (∀ c o, c ≠ z -> c ≠ TO -> c ≠ j1 -> c ≠ j2 -> s.heap.get? c = some o -> g.get? c = some o) -> (∃ o, g.get? e = some o /\ o.cls = .type "StopIteration") -> E (.ref e) { s with heap := g }) :
    wpAny (model prog w) A (Builtin.«zip.__next__» ⟨[.ref z], []⟩) Q E s := by
  show wpAny _ _ (field (.ref z) 2 >>= _) _ _ _
  refine wpAny_bind (wpAny_field zz rfl (x := .bool false) rfl ?_)
  show wpAny _ _ (field (.ref z) 3 >>= _) _ _ _
  refine wpAny_bind (wpAny_field zz rfl (x := .ref TI) rfl (wpAny_bind (wpAny_seqItems zI rfl ?_)))
  show wpAny _ _ (Builtin.SmallTypes.ownedTupleIsFree (.ref z) >>= _) _ _ _
  refine wpAny_bind ?_
  unfold Builtin.SmallTypes.ownedTupleIsFree
  refine wpAny_bind (wpAny_field zz rfl (x := .none) rfl (wpAny_pure ?_))
  simp only [if_true]
  refine wpAny_bind (wpAny_rule (wpAny_bind (wpAny_field zz rfl (x := .ref TO) rfl (wpAny_bind (wpAny_setField_rec zz (by simp) fun g1 zz1 s1 => ?_)))))
  replace zz1 : IsZip g1 z TI TO .ellipsis := zz1
  refine wpAny_bind ?_
  simp only [List.zipIdx_cons, List.zipIdx_nil, List.forIn_cons, List.forIn_nil]
  refine wpAny_bind (wpAny_bind (wpAny_onRaise ?_))
  show wpAny _ _ (Builtin.SmallTypes.nextOf (.ref j1) >>= _) _ _ _
  cases ex : xs[k]? with
  | none =>
    refine wpAny_bind (pull_end hd (i1.extBut s1.extBut D.i1z) (l1.extBut s1.extBut D.l1z) ex fun g2 e s2 ⟨oe, goe, coe⟩ => ?_)
    have zz2 : IsZip g2 z TI TO .ellipsis := s2 _ _ D.i1z.symm zz1
    have nez : e ≠ z := fun y => by
      subst y
      rw [zz2] at goe
      cases goe
      simp at coe
    exact wpAny_setField_rec zz2 (by simp) fun g3 _ s3 => q g3 e (fun c o n1 _ n3 _ y => s3.extBut _ _ n1 (s2 _ _ n3 (s1.extBut _ _ n1 y))) ⟨oe, s3.extBut _ _ nez goe, coe⟩
  | some x =>
    have ey : ys[k]? = none := ee.resolve_left (by rw [ex]; exact fun y => nomatch y)
    refine wpAny_bind (pull (i1.extBut s1.extBut D.i1z) (l1.extBut s1.extBut D.l1z) ex fun g2 i1' s2 => wpAny_pure ?_)
    have zO2 : IsPair g2 TO a b := s2.extBut _ _ D.TOi1 (s1.extBut _ _ D.TOz zO)
    refine wpAny_bind (wpAny_seqItems zO2 rfl (wpAny_bind (wpAny_updateSeq_pair zO2 fun g3 zO3 s3 => ?_)))
    refine wpAny_bind (wpAny_letGo (wpAny_pure (wpAny_bind (wpAny_bind (wpAny_onRaise ?_)))))
    show wpAny _ _ (Builtin.SmallTypes.nextOf (.ref j2) >>= _) _ _ _
    have i2' := ((i2.extBut s1.extBut D.i2z).extBut s2.extBut D.i12.symm).extBut s3.extBut D.TOi2.symm
    have l2' := ((l2.extBut s1.extBut D.l2z).extBut s2.extBut D.l2i1).extBut s3.extBut D.l2TO
    refine wpAny_bind (wpAny_nextOf_list_end hd i2' l2' ey fun g4 e s4 ⟨oe, goe, coe⟩ => ?_)
    have zz4 : IsZip g4 z TI TO .ellipsis := s4 _ _ D.i2z.symm (s3.extBut _ _ D.TOz.symm (s2.extBut _ _ D.i1z.symm zz1))
    have nez : e ≠ z := fun y => by
      subst y
      rw [zz4] at goe
      cases goe
      simp at coe
    exact wpAny_setField_rec zz4 (by simp) fun g5 _ s5 => q g5 e (fun c o n1 n2 n3 n4 y => s5.extBut _ _ n1 (s4 _ _ n4 (s3.extBut _ _ n2 (s2.extBut _ _ n3 (s1.extBut _ _ n1 y))))) ⟨oe, s5.extBut _ _ nez goe, coe⟩
theorem next_item {z TI TO j1 j2 t1 t2 : Addr} {k : Nat} {xs ys : Array Value} {x y a b : Value} {Q : Option Value -> Shared -> Prop} (D : ZipApart z TI TO j1 j2 t1 t2)
    (zz : IsZip s.heap z TI TO .none) (zI : IsPair s.heap TI (.ref j1) (.ref j2)) (zO : IsPair s.heap TO a b)
    (i1 : s.heap.IsTupleIter j1 t1 k) (i2 : s.heap.IsListIter j2 t2 k) (l1 : s.heap.IsTuple t1 xs) (l2 : s.heap.IsList t2 ys) (ex : xs[k]? = some x) (ey : ys[k]? = some y)
    (q : ∀ g, IsZip g z TI TO (rawInt s.heap.objs.size) -> IsPair g TO x y -> g.IsTupleIter j1 t1 (k + 1) -> g.IsListIter j2 t2 (k + 1) -> IsPair g s.heap.objs.size x y ->
      (∀ c o, c ≠ z -> c ≠ TO -> c ≠ j1 -> c ≠ j2 -> s.heap.get? c = some o -> g.get? c = some o) -> Q (some (.ref s.heap.objs.size)) { s with heap := g }) : wpAny (model prog w) A (pyNext (.ref z)) Q E s := by
  have ty : s.TypeIs (.ref z) "zip" := ⟨_, zz, rfl⟩
  unfold pyNext
  refine wpAny_bind (wpAny_attempt (wpAny_callSpecial?_slot (name := Str.ofString "__next__") ty F.slot_zip_next (wpAny_call_entry F.slot_zip_next ty F.entry_zip_next ?_ (F.args_zip_next_1 _))))
  exact zip_item D zz zI zO i1 i2 l1 l2 ex ey fun g b1 b2 b3 b4 b5 b6 => wpAny_pure (q g b1 b2 b3 b4 b5 b6)
theorem next_stop {z TI TO j1 j2 t1 t2 : Addr} {k : Nat} {xs ys : Array Value} {a b : Value} {Q : Option Value -> Shared -> Prop} (hd : A.handled = none) (D : ZipApart z TI TO j1 j2 t1 t2)
    (zz : IsZip s.heap z TI TO .none) (zI : IsPair s.heap TI (.ref j1) (.ref j2)) (zO : IsPair s.heap TO a b)
    (i1 : s.heap.IsTupleIter j1 t1 k) (i2 : s.heap.IsListIter j2 t2 k) (l1 : s.heap.IsTuple t1 xs) (l2 : s.heap.IsList t2 ys) (ee : xs[k]? = none ∨ ys[k]? = none)
    (q : ∀ g, (∀ c o, c ≠ z -> c ≠ TO -> c ≠ j1 -> c ≠ j2 -> s.heap.get? c = some o -> g.get? c = some o) -> Q none { s with heap := g }) : wpAny (model prog w) A (pyNext (.ref z)) Q E s := by
  have ty : s.TypeIs (.ref z) "zip" := ⟨_, zz, rfl⟩
  unfold pyNext
  refine wpAny_bind (wpAny_attempt (wpAny_callSpecial?_slot (name := Str.ofString "__next__") ty F.slot_zip_next (wpAny_call_entry F.slot_zip_next ty F.entry_zip_next ?_ (F.args_zip_next_1 _))))
  refine zip_stop hd D zz zI zO i1 i2 l1 l2 ee fun g e up ⟨oe, goe, coe⟩ => ?_
  exact wpAny_bind (wpAny_isInstance (T := "StopIteration") (b := true) ⟨oe, goe, coe⟩ isSubtype_stop (wpAny_pure (q _ up)))
end
abbrev mk1 (h : Heap) (t1 : Addr) : Heap := h.push { cls := .type "tuple_iterator", data := .fields #[.ref t1, .int 0 0] }
abbrev mk2 (h : Heap) (t1 t2 : Addr) : Heap := (mk1 h t1).push { cls := .type "list_iterator", data := .fields #[.ref t2, .int 0 0] }
abbrev mk3 (h : Heap) (t1 t2 : Addr) : Heap := (mk2 h t1 t2).push { cls := .type "tuple", data := .seq #[.ref h.objs.size, .ref (mk1 h t1).objs.size] }
abbrev mk4 (h : Heap) (t1 t2 : Addr) : Heap := (mk3 h t1 t2).push { cls := .type "tuple", data := .seq #[.none, .none] }
abbrev mk5 (h : Heap) (t1 t2 : Addr) : Heap := (mk4 h t1 t2).push { cls := .type "zip", data := .fields #[.none, .bool false, .bool false, .ref (mk2 h t1 t2).objs.size, .ref (mk3 h t1 t2).objs.size] }
theorem meets_new (t1 t2 : Addr) (xs ys : Array Value) : Meets (Builtin.«zip.__new__» ⟨[.type "zip", .ref t1, .ref t2], []⟩) (fun _ R s => s.heap.IsTuple t1 xs /\ s.heap.IsList t2 ys /\ R (.ok (.ret (.ref (mk4 s.heap t1 t2).objs.size))) { s with heap := mk5 s.heap t1 t2 }) :=
  .of_wp fun prog w A R s h => by
    obtain ⟨hh, gg, dd, tt, oo⟩ := s
    obtain ⟨a1, a2, h⟩ := h
    have sub := sub_zip
    have b1 : Heap.IsTuple (Shared.heap ⟨hh, gg, dd, tt, oo⟩) t1 xs := a1
    have b2 : Heap.IsList (Shared.heap ⟨mk1 hh t1, gg, dd, tt, oo⟩) t2 ys := Heap.IsList.push a2 _
    wp_walk using wpAny_pyIter_tuple b1, wpAny_pyIter_list b2
    exact ⟨_, rfl, h⟩
section
variable {prog : Program} {w : World} {A : Around} {E : Value -> Shared -> Prop} {s : Shared}
theorem make {t1 t2 : Addr} {xs ys : Array Value} {Q : Value -> Shared -> Prop} (a1 : s.heap.IsTuple t1 xs) (a2 : s.heap.IsList t2 ys)
    (q : ∀ g, IsZip g (s.heap.objs.size + 4) (s.heap.objs.size + 2) (s.heap.objs.size + 3) .none -> IsPair g (s.heap.objs.size + 2) (.ref s.heap.objs.size) (.ref (s.heap.objs.size + 1)) -> IsPair g (s.heap.objs.size + 3) .none .none ->
      g.IsTupleIter s.heap.objs.size t1 0 -> g.IsListIter (s.heap.objs.size + 1) t2 0 -> (∀ c o, s.heap.get? c = some o -> g.get? c = some o) -> Q (.ref (s.heap.objs.size + 4)) { s with heap := g }) :
    wpAny (model prog w) A (call (.type "zip") [.ref t1, .ref t2]) Q E s := by
  refine callType_new F.called_zip (by decide) (F.typeCall_zip_2 _ _) (F.newCall_zip_2 _ _) (fun obj => F.args_object_init_3 obj _ _) F.entry_zip_new (meets_new t1 t2 xs ys) ⟨a1, a2, ?_⟩
  have n1 : (mk1 s.heap t1).objs.size = s.heap.objs.size + 1 := Heap.size_push ..
  have n2 : (mk2 s.heap t1 t2).objs.size = s.heap.objs.size + 2 := by rw [Heap.size_push, n1]
  have n3 : (mk3 s.heap t1 t2).objs.size = s.heap.objs.size + 3 := by rw [Heap.size_push, n2]
  have n4 : (mk4 s.heap t1 t2).objs.size = s.heap.objs.size + 4 := by rw [Heap.size_push, n3]
  have p5 : (mk5 s.heap t1 t2).get? (mk4 s.heap t1 t2).objs.size = some _ := Heap.get?_push_size _ rfl
  have p4 : (mk5 s.heap t1 t2).get? (mk3 s.heap t1 t2).objs.size = some _ := Heap.get?_push_of_some _ (Heap.get?_push_size _ rfl)
  have p3 : (mk5 s.heap t1 t2).get? (mk2 s.heap t1 t2).objs.size = some _ := Heap.get?_push_of_some _ (Heap.get?_push_of_some _ (Heap.get?_push_size _ rfl))
  have p2 : (mk5 s.heap t1 t2).get? (mk1 s.heap t1).objs.size = some _ := Heap.get?_push_of_some _ (Heap.get?_push_of_some _ (Heap.get?_push_of_some _ (Heap.get?_push_size _ rfl)))
  have p1 : (mk5 s.heap t1 t2).get? s.heap.objs.size = some _ := Heap.get?_push_of_some _ (Heap.get?_push_of_some _ (Heap.get?_push_of_some _ (Heap.get?_push_of_some _ (Heap.get?_push_size _ rfl))))
  show _ /\ _
  rw [n2, n3, n4] at p5
  rw [n1, n2] at p3
  rw [n3] at p4
  rw [n1] at p2
  rw [n4]
  exact ⟨⟨_, p5, rfl⟩, q _ p5 p3 p4 ⟨_, p1, rfl, rfl⟩ ⟨_, p2, rfl, rfl⟩ fun c o y => Heap.get?_push_of_some _ (Heap.get?_push_of_some _ (Heap.get?_push_of_some _ (Heap.get?_push_of_some _ (Heap.get?_push_of_some _ y))))⟩
end
end Zm
namespace L2
open PySem PySem.Spec PyProof.Rows
def Itm (K : PySem.W.Frag) (a b : Addr) : It :=
  ⟨fun i H => ∃ xs ys x y, SqT K H a xs /\ SqL K H b ys /\ xs[i]? = some x /\ ys[i]? = some y,
   fun i H v H' => ∃ p, H p = none /\ v = .ref p /\ ∃ x y, H' = upd H p (.tup [x, y]) /\ ∀ xs ys, SqT K H a xs -> SqL K H b ys -> xs[i]? = some x /\ ys[i]? = some y,
   fun i H => ∃ xs ys, SqT K H a xs /\ SqL K H b ys /\ (xs.length <= i ∨ ys.length <= i)⟩
theorem turn_zipM {P : Program} {w : World} {K : PySem.W.Frag} {tg : Expr} (htg : tupleTg tg = true) {z TI TO j1 j2 a b : Addr} (D : ZipApart z TI TO j1 j2 a b) :
    Turn P w K tg (Itm K a b) [z, TO, j1, j2, TI] z (fun i h => IsZip h z TI TO .none /\ IsPair h TI (.ref j1) (.ref j2) /\ (∃ u v, IsPair h TO u v) /\ h.IsTupleIter j1 a i /\ h.IsListIter j2 b i) where
  mem := List.mem_cons_self
  obj := fun i h st c hc => by
    obtain ⟨h1, h2, ⟨u, v, h3⟩, ⟨o4, h4, _, d4⟩, ⟨o5, h5, _, d5⟩⟩ := st
    have nof : ∀ {o : Obj} {vs : Array Value}, o.data = .fields vs -> ∀ v, o.data ≠ .cell v := fun e v q => by rw [e] at q; cases q
    have nos : ∀ {o : Obj} {vs : Array Value} {n : Nat}, o.data = .seq vs n -> ∀ v, o.data ≠ .cell v := fun e v q => by rw [e] at q; cases q
    simp only [List.mem_cons, List.not_mem_nil, or_false] at hc
    rcases hc with rfl | rfl | rfl | rfl | rfl
    · exact ⟨_, h1, nof rfl⟩
    · exact ⟨_, h3, nos rfl⟩
    · exact ⟨_, h4, nof d4⟩
    · exact ⟨_, h5, nof d5⟩
    · exact ⟨_, h2, nos rfl⟩
  keep := fun i h h' st k => by
    obtain ⟨h1, h2, ⟨u, v, h3⟩, ⟨o4, h4, r4⟩, ⟨o5, h5, r5⟩⟩ := st
    exact ⟨k _ (by simp) _ h1, k _ (by simp) _ h2, ⟨u, v, k _ (by simp) _ h3⟩, ⟨o4, k _ (by simp) _ h4, r4⟩, ⟨o5, k _ (by simp) _ h5, r5⟩⟩
  item := by
    intro X hP hw hK hc i pins s σ H E I hf st hg
    subst hP hw hK
    obtain ⟨h1, h2, ⟨u, v, h3⟩, h4, h5⟩ := st
    obtain ⟨xs, ys, x, y, qa, qb, hx, hy⟩ := hg
    obtain ⟨its, rv, pa, _⟩ := I.tuple qa
    obtain ⟨jts, rw', pb', _⟩ := I.list qb
    have pb := pb'.isList
    obtain ⟨ux, eux, rux⟩ := rv.get hx
    obtain ⟨uy, euy, ruy⟩ := rw'.get hy
    refine Zm.next_item D h1 h2 h3 h4 h5 (show s.heap.IsTuple a its.toArray from pa) (show s.heap.IsList b jts.toArray from pb) (x := ux) (y := uy) (by simpa using eux) (by simpa using euy) fun g b1 b2 b3 b4 b5 b6 => ?_
    refine ⟨_, rfl, ?_⟩
    have zlt : z < s.heap.objs.size := Heap.lt_size h1
    cases tg with
    | Tuple es kk pp =>
      refine wpAny_letOwnedTupleGo_zip b1 fun g' c1 sb => ?_
      have new : IsPair g' s.heap.objs.size ux uy := sb.extBut _ _ (Nat.ne_of_gt zlt) b5
      have I1 : Inv X pins σ (upd H s.heap.objs.size (.tup [x, y])) { s with heap := g' } := by
        refine I.turnedNew (t' := s.toks) (L := [z, TO, j1, j2, TI]) (fun c o hcn e => ?_) hf (Nat.le_refl _) ⟨by show 2 <= sizeLine; decide, [ux, uy], .cons rux (.cons ruy .nil), ⟨_, new, rfl, ⟨0, rfl⟩, rfl⟩⟩
        simp only [List.mem_cons, List.not_mem_nil, or_false, not_or] at hcn
        exact sb.extBut c o hcn.1 (b6 c o hcn.1 hcn.2.1 hcn.2.2.1 hcn.2.2.2.1 e)
      have h2' : IsPair g' TI (.ref j1) (.ref j2) := sb.extBut _ _ D.TIz (b6 _ _ D.TIz D.TITO D.TIi1 D.TIi2 h2)
      refine ⟨.ref s.heap.objs.size, _, I1, rfl, ⟨_, I.fresh, rfl, x, y, rfl, fun xs' ys' q1 q2 => ⟨by rw [I.tuple_inj q1 qa]; exact hx, by rw [I.list_inj q2 qb]; exact hy⟩⟩, ⟨c1, h2', ⟨_, _, sb.extBut _ _ D.TOz b2⟩, b3.extBut sb.extBut D.i1z, b4.extBut sb.extBut D.i2z⟩, fun c hcm => ?_⟩
      obtain ⟨o, eo, _⟩ : ∃ o, s.heap.get? c = some o /\ True := by
        simp only [List.mem_cons, List.not_mem_nil, or_false] at hcm
        rcases hcm with rfl | rfl | rfl | rfl | rfl
        · exact ⟨_, h1, trivial⟩
        · exact ⟨_, h3, trivial⟩
        · obtain ⟨o4, g4, _⟩ := h4
          exact ⟨_, g4, trivial⟩
        · obtain ⟨o5, g5, _⟩ := h5
          exact ⟨_, g5, trivial⟩
        · exact ⟨_, h2, trivial⟩
      rw [upd_ne (Nat.ne_of_lt (Heap.lt_size eo))]
      exact (hf c hcm).1
    | _ => exact absurd (show false = true from htg) Bool.false_ne_true
  done := by
    intro X hP hw hK hc i pins s σ H E I hf st hg
    subst hP hw hK
    obtain ⟨h1, h2, ⟨u, v, h3⟩, h4, h5⟩ := st
    obtain ⟨xs, ys, qa, qb, hl⟩ := hg
    obtain ⟨its, rv, pa, _⟩ := I.tuple qa
    obtain ⟨jts, rw', pb', _⟩ := I.list qb
    have pb := pb'.isList
    have e1 := rv.length
    have e2 := rw'.length
    refine Zm.next_stop (I.ok.hd hc) D h1 h2 h3 h4 h5 (show s.heap.IsTuple a its.toArray from pa) (show s.heap.IsList b jts.toArray from pb) ?_ fun g up => ⟨rfl, ?_⟩
    · rcases hl with hl | hl
      · exact .inl (by simp; omega)
      · exact .inr (by simp; omega)
    · refine I.turnedL (t' := s.toks) (L := [z, TO, j1, j2, TI]) (fun c o hcn e => ?_) hf
      simp only [List.mem_cons, List.not_mem_nil, or_false, not_or] at hcn
      exact up c o hcn.1 hcn.2.1 hcn.2.2.1 hcn.2.2.2.1 e
  self := fun _ _ _ _ _ st h => wpAny_pyIter_zip st.1 h
section
variable {X : Cx} {tg : Expr}
def iZipM (K : PySem.W.Frag) (ta : TA) : TI := fun σ H R => ta σ H fun vs H1 => ∃ a b, vs = [.ref a, .ref b] /\ (∃ xs, SqT K H1 a xs) /\ (∃ ys, SqL K H1 b ys) /\ R (Itm K a b) H1
theorem pi_zipM {e1 e2 : Expr} {ta : TA} {p pos : Pos} (htg : tupleTg tg = true) (hg : Gl X "zip") (hm : X.mg "zip" = none) (ha : PA X [e1, e2] ta) (hs : starEach [e1, e2] X.env = [(false, eval e1 X.env), (false, eval e2 X.env)] := by rfl) (hs2 : starEach [e2] X.env = [(false, eval e2 X.env)] := by rfl)
    (hb : bootBuiltins "zip" = some (.type "zip") := by decide +kernel) : PI X tg (.Call (.Name "zip" p) [e1, e2] [] pos) (iZipM X.K ta) := by
  intro pins s σ H R I h
  refine Call_ (ld_blt I hg hm hb (PyProof.Rows.callWith_type1 (thn (ha pos pins s σ H _ I h) fun us s1 ⟨vs, H1, I1, r1, q1⟩ => ?_) (by rw [hs, hs2]) (by rw [hs2]; rfl)))
  obtain ⟨a, b, e, ⟨xs, qa⟩, ⟨ys, qb⟩, q⟩ := q1
  subst e
  obtain ⟨u1, u2, rfl, ra, rb⟩ := vals2 r1
  cases ra
  cases rb
  obtain ⟨its, rv, pa, _⟩ := I1.tuple qa
  obtain ⟨jts, rw', pb', _⟩ := I1.list qb
  have pb := pb'.isList
  have la : a < s1.heap.objs.size := by obtain ⟨o, e, _⟩ := pa; exact Heap.lt_size e
  have lb : b < s1.heap.objs.size := by obtain ⟨o, e, _⟩ := pb; exact Heap.lt_size e
  refine Zm.make (show s1.heap.IsTuple a its.toArray from pa) (show s1.heap.IsList b jts.toArray from pb) fun g z1 z2 z3 z4 z5 up => ?_
  refine wpAny_pyIter_zip z1 ?_
  have I2 : Inv X pins σ H1 { s1 with heap := g } := I1.kept (t' := s1.toks) up
  refine ⟨_, [s1.heap.objs.size + 4, s1.heap.objs.size + 3, s1.heap.objs.size, s1.heap.objs.size + 1, s1.heap.objs.size + 2], _, _, H1, rfl, I2, turn_zipM htg (apart_new la lb), ⟨z1, z2, ⟨_, _, z3⟩, z4, z5⟩, fun c hc => ?_, q⟩
  have big : s1.heap.objs.size <= c := by
    simp only [List.mem_cons, List.not_mem_nil, or_false] at hc
    rcases hc with rfl | rfl | rfl | rfl | rfl
    · exact Nat.le_add_right _ _
    · exact Nat.le_add_right _ _
    · exact Nat.le_refl _
    · exact Nat.le_add_right _ _
    · exact Nat.le_add_right _ _
  exact I1.fpOk big (I1.hok.fresh big)
end
theorem qi_zipM {X : Cx} {tg : Expr} {e1 e2 : Expr} {ta : TA} {p pos : Pos} (htg : tupleTg tg = true) (hg : Gl X "zip") (hm : X.mg "zip" = none) (ha : QA X [e1, e2] ta) (hs : starEach [e1, e2] X.env = [(false, eval e1 X.env), (false, eval e2 X.env)] := by rfl) (hs2 : starEach [e2] X.env = [(false, eval e2 X.env)] := by rfl)
    (hb : bootBuiltins "zip" = some (.type "zip") := by decide +kernel) : QI X tg (.Call (.Name "zip" p) [e1, e2] [] pos) (iZipM X.K ta) := ⟨pi_zipM htg hg hm ha.o hs hs2 hb⟩
end L2
namespace L2
open PySem PySem.Spec PyProof.Rows W2
end L2
namespace L2
open PySem PySem.Spec PyProof.Rows
end L2
namespace Mth
end Mth
namespace Mth
end Mth
namespace W2
open PySem L2 Mth
theorem comp_zipL_ints {K : PySem.W.Frag} {a b D : Addr} {js : List (Option Nat)} {te : TE} {σ : St} {H1 : Hp} {Q : VK} {xs ys : List Int} {σ0 : St} {f : Int -> Int -> Int} (hn : min xs.length ys.length <= sizeLine) (hp : ∃ u v, pick js σ = u :: v :: σ0) (hD : H1 D = none)
    (ha : H1 a = some (.lst (xs.map V.int))) (hb : H1 b = some (.lst (ys.map V.int)))
    (hs : ∀ (x y : Int) (H' : Hp) (R : VK), x ∈ xs -> y ∈ ys -> R (.int (f x y)) H' -> te (some (.int x) :: some (.int y) :: σ0) H' R)
    (q : ∀ H', Same H1 H' -> H' D = some (.lst ((List.zipWith f xs ys).map V.int)) -> Q (.ref D) H') : CompW (Itzl a b) D js (gTup K 2 (gCons (gName 0) (gCons (gName 1) gNil))) tNoTest te σ H1 Q := by
  obtain ⟨u0, v0, hp⟩ := hp
  refine comp_zipL (a := a) (b := b) (xs := xs.map V.int) (ys := ys.map V.int) (by rw [List.length_map, List.length_map]; exact hn) (fun i σ' H' zs => (∃ u v : Option V, σ' = u :: v :: σ0) /\ Same H1 H' /\ zs = ((List.zipWith f xs ys).take i).map V.int) ⟨⟨u0, v0, hp⟩, Same.new hD, rfl⟩ (fun i σ' H' zs _ ⟨_, s', _⟩ => ⟨s' _ _ ha, s' _ _ hb⟩) ?_ ?_
  · rintro i x y p σ' H' zs R hx hy hp hD' hzl ⟨⟨u, v, rfl⟩, s', rfl⟩ kk
    obtain ⟨x, rfl, hx'⟩ := map_int_get hx
    obtain ⟨y, rfl, hy'⟩ := map_int_get hy
    refine ⟨p, _, rfl, SqT.of upd_same, rfl, _, _, rfl, _, _, rfl, rfl, ?_⟩
    refine hs x y _ _ (List.mem_of_getElem? hx') (List.mem_of_getElem? hy') (kk _ _ _ ?_ ⟨⟨_, _, rfl⟩, ?_, ?_⟩)
    · rw [upd_ne (ne_of_none hD' hp)]; exact hD'
    · intro c o e
      rw [upd_ne (ne_of_none e hD), upd_ne (ne_of_none (s' c o e) hp)]
      exact s' c o e
    · rw [zipWith_snoc hx' hy', List.map_append]
      rfl
  · rintro σ' H' zs hD' hzl ⟨_, s', rfl⟩
    refine q H' s' ?_
    rw [hD', List.length_map, List.length_map, List.take_of_length_le (by rw [List.length_zipWith]; exact Nat.le_refl _)]
def But2 (a l : Addr) (H H' : Hp) : Prop := ∀ c o, c ≠ a -> c ≠ l -> H c = some o -> H' c = some o
end W2
namespace L2
open PySem PySem.Spec PyProof.Rows
theorem ps_setC {X : Cx} {elt tg iter : Expr} {cs : List Expr} {scope : Scope} {cpos pos pos' : Pos} {cl : List (Str × Addr)} {N : List Str} {js : List (Option Nat)} {wi : TI} {g : TG} {tc : TT} {te : TE} {iv : Nat} {x0 : Str}
    (hN0 : X.N.Nodup) (hi0 : X.N[iv]? = some x0) (hx0 : Loc X.env.scope x0)
    (C : CompOk X scope cl N js) (hc : X.calm = true) (hi : PI X tg iter wi)
    (hg : ∀ fp pins s H, PG (compCx X scope cl N fp pins s H fun _ _ => False) tg g)
    (ht : ∀ fp pins s H, PTs (compCx X scope cl N fp pins s H fun _ _ => False) cs tc)
    (he : ∀ fp pins s H, PE (compCx X scope cl N fp pins s H fun _ _ => False) elt te)
    (hsw : swapsWith (.ListComp elt [⟨tg, iter, cs, 0⟩] scope cpos) (some (.Name x0 pos')) pos.line X.env = pure true)
    (hs : ∀ x, foldedSetIterable iter X.env x = pure x := by intro _; rfl) (hf0 : X.fn x0 = true ∨ X.env.scope.names.lookup x0 = some .local := by first | exact .inl rfl | exact .inr rfl | assumption) : PS X (.Assign [.Name x0 pos'] (.ListComp elt [⟨tg, iter, cs, 0⟩] scope cpos) pos) (tAsg (tComp js wi g tc te) (gName iv)) := by
  intro pins s σ H D0 I h
  rw [exec_Assign_Name_used _ _ _ _ hsw]
  refine wpAny_bind (wpAny_standAt (wpAny_bind ?_))
  show wpAny _ X.A (do let _ ← comprehension (.ListComp elt [⟨tg, iter, cs, 0⟩] scope cpos) scope X.env _ (newList []) false (eval iter X.env) (some (assign (.Name x0 pos') X.env))) _ _ s
  refine wpAny_bind (wpAny_mono (wpAny_comprehension_free (use := some (assign (.Name x0 pos') X.env)) (Q := fun _ s' => SP X pins D0 .next s') rfl hs C.clos C.kind C.names (thn (hi pins s σ H _ I h) fun xv s1 h1 => thn h1 fun itv s2 h2 => ?_)) (fun _ s' hq => wpAny_pure (wpAny_pure hq)) fun _ _ e => e)
  obtain ⟨it, fp, tn, J, H2, e, I2, T, st2, f2, h2⟩ := h2
  subst e
  obtain ⟨W, ⟨m0, w0⟩, turn⟩ := h2 s2.heap.objs.size I2.fresh
  refine wpAny_newObj_type (wpAny_newFunctionEnv C.nocell (by intro y hy; simp at hy) (fun h4 ns4 sb4 => ?_) C.kind)
  have I3 : Inv X pins σ (upd H2 s2.heap.objs.size (.lst [])) { s2 with heap := s2.heap.push { cls := .type "list", data := .seq ([] : List Value).toArray } } := I2.lnew (t' := s2.toks) (its := []) .nil (Nat.zero_le _)
  dsimp only at ns4 sb4 ⊢
  generalize e3 : ({ s2 with heap := s2.heap.push { cls := .type "list", data := .seq ([] : List Value).toArray } } : Shared) = s3 at I3
  have e3h : s2.heap.push { cls := .type "list", data := .seq ([] : List Value).toArray } = s3.heap := by rw [← e3]
  have e3g : s2.gens = s3.gens := by rw [← e3]
  have e3o : s2.os = s3.os := by rw [← e3]
  rw [e3h] at ns4 sb4 ⊢
  generalize eH : upd H2 s2.heap.objs.size (.lst []) = H3 at I3 w0
  have hD : s2.heap.objs.size < s3.heap.objs.size := by rw [← e3h, Heap.size_push]; exact Nat.lt_succ_self _
  have up3 : ∀ b o, s2.heap.get? b = some o -> s3.heap.get? b = some o := fun b o q => by rw [← e3h]; exact Heap.get?_push_of_some _ q
  have up4 : ∀ b o, s3.heap.get? b = some o -> h4.get? b = some o := fun b o q => sb4.extBut b o (Nat.ne_of_lt (Heap.lt_size q)) (Heap.get?_push_of_some _ q)
  have fpo : ∀ b ∈ fp, b < s3.heap.objs.size := fun b hb => by
    obtain ⟨o, eo, _⟩ := T.obj 0 _ st2 b hb
    exact Heap.lt_size (up3 b o eo)
  have fst : ∀ b ∈ fp, b ∉ frs X.stack := fun b hb z => by
    rcases List.mem_cons.mp (I3.stkSub b z) with q | q
    · exact (f2 b hb).2.1 q
    · exact (f2 b hb).2.2.1 q
  have okY : (compCx X scope cl N fp pins s3 H3 fun _ _ => False).Ok := by
    refine ⟨I.ok.mod, C.kind, I.ok.glob, I.ok.blt, Nat.le_refl _, fun x y c q1 q2 => I.ok.inj x y c (C.sub _ _ q1) (C.sub _ _ q2), C.has, fun x c z => absurd z Bool.false_ne_true, I.ok.hd, I.ok.frames, .inl rfl, fun b hb => ⟨Nat.ne_of_lt (fpo b hb), fun x c q => (f2 b hb).2.2.2.2.1 x c (C.sub _ _ q)⟩,
      I3.bs, Nat.le_trans I.ok.bsz I3.sz, fun b o q hb => ?_, fst, I3.stack, I3.stkFree⟩
    rcases (f2 b hb).2.2.2.1 with z | z
    · exact I.ok.noex b o q z
    · exact absurd (Nat.lt_of_lt_of_le (Heap.lt_size q) (Nat.le_trans I.ok.bsz z)) (Nat.lt_irrefl _)
  have I4 : Inv (compCx X scope cl N fp pins s3 H3 fun _ _ => False) [] (pick js σ) H3 { s3 with heap := h4, toks := s3.toks + ([] : List (Str × Value)).length } := by
    refine ⟨okY, rfl, I3.bare, Un.kept up4, ⟨_, ns4, fun i x v q1 q2 q3 => ?_⟩, fun x c q => ?_, I3.hok.fresh (Nat.le_refl _), fun x c q => I3.freeC x c (C.sub _ _ q), fun p hp => ?_, I3.hok.kept up4, ?_⟩
    · obtain ⟨j, k1, k2⟩ := pick_get q2
      obtain ⟨z1, z2, z3⟩ := C.seen i j x q1 k1
      obtain ⟨m, hn, hl⟩ := I3.loc
      obtain ⟨u, ru, lk⟩ := hl j x v z1 k2 (.inr (.inl z2))
      refine ⟨u, ru, .inr ⟨z3, ?_⟩⟩
      rcases lk with ⟨k, _⟩ | ⟨_, c, ec, oc, hoc, hdc⟩
      · have k' : X.env.scope.names.lookup x = some .local := k
        rw [z2] at k'; cases k'
      · obtain ⟨c', ec'⟩ := C.has x z3
        have := C.sub _ _ ec'
        rw [ec] at this
        cases this
        exact ⟨c, ec', oc, up4 _ _ hoc, hdc⟩
    · obtain ⟨v, oc, hoc, hdc⟩ := I3.cell x c (C.sub _ _ q)
      exact ⟨v, oc, up4 _ _ hoc, hdc⟩
    · have hp' : p ∈ X.pn ++ pins := by simpa using hp
      obtain ⟨q1, q2, q3, q4, q5⟩ := I3.pin p hp'
      refine ⟨up4 _ _ q1, q2, Nat.ne_of_lt (Heap.lt_size q1), fun z => ?_, q5⟩
      rcases List.mem_cons.mp (I3.stkSub _ z) with q | q
      · exact q3 q
      · exact q4 q
    · show (pick js σ).length = N.length
      unfold pick
      rw [List.length_map, C.len]
  have stat : ∀ {H' : Hp}, (∀ b ∈ fp, H' b = none) -> ∀ b ∈ fp, FpOk (compCx X scope cl N fp pins s3 H3 fun _ _ => False) [] H' b := fun hn b hb =>
    ⟨hn b hb, Nat.ne_of_lt (fpo b hb), fst b hb, .inl hb, fun x c q => (f2 b hb).2.2.2.2.1 x c (C.sub _ _ q), fun p hp => (f2 b hb).2.2.2.2.2 p (by simpa using hp)⟩
  have st4 : tn 0 h4 := T.keep 0 _ _ st2 fun b hb o q => up4 b o (up3 b o q)
  have nx : ∀ e s', (compCx X scope cl N fp pins s3 H3 fun _ _ => False).xe e s' -> False := fun _ _ z => z
  have loop : codeAny (model X.prog X.w) X.A (.compLoop (.ListComp elt [⟨tg, iter, cs, 0⟩] scope cpos) 0 (.ref it) (.ref s2.heap.objs.size) (compEnvC scope cl s3.heap.objs.size X.env))
      (compPost (model X.prog X.w) X.A X.xe (some (assign (.Name x0 pos') X.env)) (fun _ s' => SP X pins D0 .next s') (.ref s2.heap.objs.size) s3.heap.objs.size) { s3 with heap := h4, toks := s3.toks + ([] : List (Str × Value)).length } := by
    refine loop_go (fun n s' => ∃ i σ' H' ys, Inv (compCx X scope cl N fp pins s3 H3 fun _ _ => False) [] σ' H' s' /\ tn i s'.heap /\ (∀ b ∈ fp, H' b = none) /\ W i n σ' H' ys) ?_ m0 ⟨0, _, H3, [], I4, st4, fun b hb => ?_, w0⟩
    · rintro n s5 ⟨i, σ5, H5, ys, I5, st5, fr5, w5⟩
      obtain ⟨hD5, way⟩ := turn i n σ5 H5 ys w5
      rcases way with ⟨stop, qn⟩ | ⟨go, hz, NN, hN, step⟩
      · refine noEx nx (thn (T.done (compCx X scope cl N fp pins s3 H3 fun _ _ => False) rfl rfl rfl hc i [] s5 σ5 H5 _ I5 (stat fr5) st5 stop) fun r s6 ⟨hr, I6⟩ => ?_)
        subst hr
        obtain ⟨m, hn, _⟩ := I6.loc
        have fC : FpOk X pins H5 s3.heap.objs.size := I3.fpOk (Nat.le_refl _) I6.free
        have I7 : Inv X pins σ H5 s6 := ?_
        · refine wpAny_assign_Name (store_ok2 (v := .ref s2.heap.objs.size) I7 hN0 hi0 hx0 rfl (fun s8 I8 hsb => ?_) hf0)
          obtain ⟨a8, sb8, h8⟩ := hsb
          obtain ⟨f0, f1, f2', f3, f4, f5⟩ := fC
          have nC : s3.heap.objs.size ≠ a8 := by
            rcases h8 with z | z
            · rw [z]; exact f1
            · exact (f4 _ _ z).symm
          refine ⟨m, hn.sameBut sb8 nC, fun h' sb => ⟨_, H5, ?_, qn⟩⟩
          exact I8.turned (t' := s8.toks) (fun b o hb e => (sb.2 b hb).trans e) f0 f1 f3 f4 f5
        have low : ∀ b o, s3.heap.get? b = some o -> b ≠ s3.heap.objs.size := fun b o q => Nat.ne_of_lt (Heap.lt_size q)
        have same : ∀ b, b ≠ s3.heap.objs.size -> s6.heap.get? b = s6.heap.get? b := fun b hb => rfl
        have B := I6.base
        refine I3.call' (s' := s6) (H' := H5) (ch := fp) I6.os ⟨fun b o q n0 h1 h2 => ?_, fun b o q n0 h1 h2 => ?_, B.free, fun b o q h2 => ?_, B.tups, B.frzs, B.tbls⟩ (fun a o q => ?_) I6.bare (fun b hb => ⟨(f2 b hb).2.2.2.1, (f2 b hb).2.1, (f2 b hb).2.2.2.2.1, (f2 b hb).2.2.2.2.2⟩)
        · exact (same b (low b o q)).trans (B.keep b o q n0 h1 h2)
        · obtain ⟨sl, z⟩ := B.slot b o q n0 h1 h2
          exact ⟨sl, (same b (low b o q)).trans z⟩
        · obtain ⟨o', z⟩ := B.there b o q h2
          exact ⟨o', (same b (low b o q)).trans z⟩
        · have nC : ∀ c u, H5 c = some u -> c ≠ s3.heap.objs.size := fun c u z y => by
            have := I6.free
            rw [y] at z
            rw [show H5 s3.heap.objs.size = none from this] at z
            cases z
          refine (I6.hok a o q).stay (fun c u hc' z => (same c ?_).trans z) (fun _ z => z) fun _ _ z => z
          rcases hc' with z' | z'
          · rw [z']; exact nC a o q
          · exact nC c _ z'
      · refine noEx nx (thn (T.item (compCx X scope cl N fp pins s3 H3 fun _ _ => False) rfl rfl rfl hc i [] s5 σ5 H5 _ I5 (stat fr5) st5 go) fun r s6 ⟨u, hr, h6⟩ => ?_)
        subst hr
        refine noEx nx (thn h6 fun _ s7 ⟨x, H7, I7, r7, y7, st7, fr7⟩ => ?_)
        have I7' := I7.pinned (stat fr7) (T.obj _ _ st7)
        refine noEx nx (thn (hg fp pins s3 H3 _ s7 σ5 H7 x u _ I7' r7 (step x H7 y7)) fun _ s8 ⟨σ8, H8, I8, q8⟩ => ?_)
        refine noEx nx (thn (ht fp pins s3 H3 _ s8 σ8 H8 _ I8 q8) fun k s9 ⟨H9, I9, q9⟩ => ?_)
        have fin : ∀ {s' : Shared} {σ' : St} {H' : Hp} {ys' : List V}, Inv (compCx X scope cl N fp pins s3 H3 fun _ _ => False) ([] ++ pinsAt fp s7.heap) σ' H' s' -> NN σ' H' ys' ->
            ∃ m', m' < n /\ ∃ i σ' H' ys, Inv (compCx X scope cl N fp pins s3 H3 fun _ _ => False) [] σ' H' s' /\ tn i s'.heap /\ (∀ b ∈ fp, H' b = none) /\ W i m' σ' H' ys := fun {s' σ' H' ys'} Iv nv => by
          obtain ⟨m', hm, wv⟩ := hN σ' H' ys' nv
          refine ⟨m', hm, i + 1, σ', H', ys', Iv.unpinned, T.keep _ _ _ st7 fun b hb o q => (Iv.pin (b, o) (List.mem_append_right _ (List.mem_append_right _ (mem_pinsAt hb q)))).1, fun b hb => ?_, wv⟩
          obtain ⟨o, q, _⟩ := T.obj _ _ st7 b hb
          exact (Iv.pin (b, o) (List.mem_append_right _ (List.mem_append_right _ (mem_pinsAt hb q)))).2.1
        cases k with
        | false =>
          rw [if_neg Bool.false_ne_true] at q9 ⊢
          exact fin I9 q9.2
        | true =>
          rw [if_pos rfl] at q9 ⊢
          refine noEx nx (thn (he fp pins s3 H3 _ s9 σ8 H9 _ I9 q9) fun y sA ⟨yv, HA, IA, rA, hDA, qA⟩ => ?_)
          refine noEx nx (thn (mt_append _ sA σ8 HA (.ref s2.heap.objs.size) [yv] _ [y] (fun _ HB => NN σ8 HB (ys ++ [yv])) IA rfl (.cons rA .nil) ⟨_, ys, yv, rfl, rfl, hDA, hz, qA⟩) fun _ sB ⟨_, HB, IB, _, qB⟩ => ?_)
          exact fin IB qB
    · rw [← eH, upd_ne]
      · exact (f2 b hb).1
      · obtain ⟨o, eo, _⟩ := T.obj 0 _ st2 b hb
        exact Nat.ne_of_lt (Heap.lt_size eo)
  have goal : codeAny (model X.prog X.w) X.A (.compStart (.ListComp elt [⟨tg, iter, cs, 0⟩] scope cpos) 0 (.ref it) (.ref s2.heap.objs.size) (compEnvC scope cl s3.heap.objs.size X.env))
      (compPost (model X.prog X.w) X.A X.xe (some (assign (.Name x0 pos') X.env)) (fun _ s' => SP X pins D0 .next s') (.ref s2.heap.objs.size) s3.heap.objs.size) { s3 with heap := h4, toks := s3.toks + ([] : List (Str × Value)).length } :=
    codeAny_compStart_list loop (T.self _ 0 _ _ _ st4 loop)
  subst e3
  exact goal
theorem qs_setC {X : Cx} {elt tg iter : Expr} {cs : List Expr} {scope : Scope} {cpos pos pos' : Pos} {cl : List (Str × Addr)} {N : List Str} {js : List (Option Nat)} {wi : TI} {g : TG} {tc : TT} {te : TE} {i : Nat} {x0 : Str}
    (hN0 : X.N.Nodup) (hi0 : X.N[i]? = some x0) (hx0 : Loc X.env.scope x0)
    (C : CompOk X scope cl N js) (hc : X.calm = true) (hi : QI X tg iter wi)
    (hg : ∀ fp pins s H, QG (compCx X scope cl N fp pins s H fun _ _ => False) tg g)
    (ht : ∀ fp pins s H, QTs (compCx X scope cl N fp pins s H fun _ _ => False) cs tc)
    (he : ∀ fp pins s H, QE (compCx X scope cl N fp pins s H fun _ _ => False) elt te)
    (hsw : swapsWith (.ListComp elt [⟨tg, iter, cs, 0⟩] scope cpos) (some (.Name x0 pos')) pos.line X.env = pure true := by rfl)
    (hs : ∀ x, foldedSetIterable iter X.env x = pure x := by intro _; rfl) (hf0 : X.fn x0 = true ∨ X.env.scope.names.lookup x0 = some .local := by first | exact .inl rfl | exact .inr rfl | assumption) : QS X (.Assign [.Name x0 pos'] (.ListComp elt [⟨tg, iter, cs, 0⟩] scope cpos) pos) (tAsg (tComp js wi g tc te) (gName i)) :=
  ⟨ps_setC hN0 hi0 hx0 C hc hi.o (fun a b c d => (hg a b c d).o) (fun a b c d => (ht a b c d).o) (fun a b c d => (he a b c d).o) hsw hs hf0⟩
end L2
namespace Z3
open PySem PyProof.Rows Zt
end Z3
namespace L2
open PySem PySem.Spec PyProof.Rows Z3
end L2
namespace MinD
open PySem PyProof.Rows
end MinD
namespace L2
open PySem PySem.Spec PyProof.Rows
end L2
namespace W2
open PySem L2 Mth
theorem comp_list_if {K : PySem.W.Frag} {a D : Addr} {js : List (Option Nat)} {tc : TT} {te : TE} {σ : St} {H1 : Hp} {Q : VK} {xs : List V} {σ0 : St} {t : V -> Bool} (hn : xs.length <= sizeLine) (hp : ∃ u, pick js σ = u :: σ0) (hD : H1 D = none)
    (ha : H1 a = some (.lst xs))
    (ht : ∀ (x : V) (H' : Hp) (R : Bool -> Hp -> Prop), Same H1 H' -> x ∈ xs -> R (t x) H' -> tc (some x :: σ0) H' R)
    (hs : ∀ (x : V) (H' : Hp) (R : VK), Same H1 H' -> x ∈ xs -> t x = true -> R x H' -> te (some x :: σ0) H' R)
    (q : ∀ H', Same H1 H' -> H' D = some (.lst (xs.filter t)) -> Q (.ref D) H') : CompW (Itl K a) D js (gName 0) tc te σ H1 Q := by
  obtain ⟨u0, hp⟩ := hp
  refine comp_gen (n := xs.length) hn (fun i σ' H' zs => (∃ u : Option V, σ' = u :: σ0) /\ Same H1 H' /\ H' D = some (.lst zs) /\ zs.length <= i /\ zs = (xs.take i).filter t) ⟨⟨u0, hp⟩, Same.new hD, upd_same, Nat.le_refl _, rfl⟩ (fun i σ' H' zs _ ⟨_, _, h3, h4, _⟩ => ⟨h3, h4⟩) (fun i σ' H' zs hi ⟨_, s', _⟩ => ⟨_, xs[i], SqL.of (s' _ _ ha), List.getElem?_eq_getElem hi⟩) (fun σ' H' zs ⟨_, s', h3, _, e⟩ => ⟨⟨_, SqL.of (s' _ _ ha), Nat.le_refl _⟩, ?_⟩) ?_
  · refine q H' s' ?_
    rw [h3, e, List.take_length]
  · rintro i σ' H' zs x H2 hi ⟨⟨u, rfl⟩, s', h3, h4, e⟩ ⟨rfl, hx⟩
    have hx' := hx _ (SqL.of (s' _ _ ha))
    have hsn : (xs.take (i + 1)).filter t = (xs.take i).filter t ++ (if t x = true then [x] else []) := by
      rw [List.take_add_one, hx']
      simp only [Option.toList_some, List.filter_append]
      congr 1
      by_cases z : t x = true
      · simp [z]
      · simp [z]
    refine ht x _ _ s' (List.mem_of_getElem? hx') ?_
    cases hb' : t x with
    | true =>
      refine hs x _ _ s' (List.mem_of_getElem? hx') hb' ⟨h3, ⟨_, rfl⟩, ?_, upd_same, ?_, ?_⟩
      · intro c o e'
        rw [upd_ne (ne_of_none e' hD)]
        exact s' c o e'
      · rw [List.length_append]; show zs.length + 1 <= i + 1; omega
      · rw [hsn, e]
        simp [hb']
    | false =>
      refine ⟨h3, ⟨_, rfl⟩, s', h3, by omega, ?_⟩
      rw [hsn, e]
      simp [hb']
end W2
namespace Mth
theorem cnt_40 {p n : Nat} (hp : 2 <= p) (hn : 1 <= n) (hb : n <= 1000000000000) : cnt p n < 40 := by
  have e := cnt_spec hp n hn
  have h1 : p ^ cnt p n <= n := by
    have hs := strip_pos hp n hn
    calc p ^ cnt p n <= p ^ cnt p n * strip p n := Nat.le_mul_of_pos_right _ hs
      _ = n := e.symm
  have h2 : 2 ^ cnt p n <= p ^ cnt p n := Nat.pow_le_pow_left hp _
  have h3 : 2 ^ cnt p n < 2 ^ 40 := by
    have : (1000000000000 : Nat) < 2 ^ 40 := by decide
    omega
  exact (Nat.pow_lt_pow_iff_right (by decide)).mp h3
theorem chg_40 {i j : Nat} (hi : 1 <= i) (hj : 1 <= j) (bi : i <= 1000000000000) (bj : j <= 1000000000000) {x : Int} (h : x ∈ chg i j) : -40 < x /\ x < 40 := by
  obtain ⟨k, hk⟩ := List.getElem?_of_mem h
  unfold chg at hk
  rw [List.getElem?_zipWith_eq_some] at hk
  obtain ⟨a, b, ha, hb, rfl⟩ := hk
  have hm := List.mem_of_getElem? ha
  have hm' := List.mem_of_getElem? hb
  unfold powsOf at hm hm'
  obtain ⟨p, hp, rfl⟩ := List.mem_map.mp hm
  obtain ⟨p', hp', rfl⟩ := List.mem_map.mp hm'
  have := cnt_40 (two_le p hp) hi bi
  have := cnt_40 (two_le p' hp') hj bj
  omega
end Mth
namespace L2
open PySem PySem.Spec PyProof.Rows
section
variable {X : Cx} {CX : CXT} {k : Nat} {f : Addr} {fd : FuncData} {ps : List Str} {sp : Sp} {E : XK} {x : Str} {p pos : Pos} {e : Expr} {es : List Expr} {t : TA} {i : Nat}
theorem op_neT (hu : X.A.units + 1 < cLine) : OpR X (compareOp .NotEq) (fun x y H Q => ∃ (a b : Addr) (ns ms : List Int), x = .ref a /\ y = .ref b /\ H a = some (.tup (ns.map V.int)) /\ H b = some (.tup (ms.map V.int)) /\ Q (.bl (!decide (ns = ms))) H) := by
  intro pins s σ H x y v u Q I rx ry h
  obtain ⟨a, b, ns, ms, rfl, rfl, ha, hb, q⟩ := h
  cases rx
  cases ry
  obtain ⟨its, r1, p1, _⟩ := I.tuple (SqT.of ha)
  obtain ⟨its2, r2, p2, _⟩ := I.tuple (SqT.of hb)
  have hi := intsAre_of r1
  have hj := intsAre_of r2
  have e1 := hi.length
  have e2 := hj.length
  have := SeqAt.RcNeAt.tuples (A := X.A) (s := s) (e := fun j => ns.getD j 0 == ms.getD j 0) p1 p2 (Nat.lt_of_succ_lt hu) fun j h1 h2 => by
    obtain ⟨t, et⟩ := hi.int_at j its.toArray[j] (by simp)
    obtain ⟨t', et'⟩ := hj.int_at j its2.toArray[j] (by simp)
    rw [et, et']
    exact SeqAt.EqAt.int_int _ _ _ _
  rw [List.size_toArray, List.size_toArray, e1, e2, all_range_eq] at this
  exact this X.prog X.w _ _ ⟨.bl _, H, I, rfl, q⟩
end
end L2
namespace L2
open PySem
end L2
namespace L2
open PySem
theorem ix_listN {X : Cx} {K : PySem.W.Frag} (hK : X.K = K) : IxR X (rIxL K) := by
  subst hK
  exact ix_list
end L2
namespace Mth
end Mth
namespace Mth
theorem termB_prod7 {es : List Nat} (h : es.sum <= 7) : termB (prod es : Nat) = true := by
  unfold termB
  have h1 := prod_pos es
  have h2 := prod_le es
  have h3 : 29 ^ es.sum <= 29 ^ 7 := Nat.pow_le_pow_right (by decide) h
  have h4 : (29 : Nat) ^ 7 = 17249876309 := by decide
  rw [Bool.and_eq_true, Bool.and_eq_true, decide_eq_true_iff, decide_eq_true_iff, decide_eq_true_iff]
  refine ⟨⟨by omega, by omega⟩, ?_⟩
  rw [Int.toNat_natCast]
  exact stripAll_prod es
theorem fracB_prod7 {es fs : List Nat} (h1 : es.sum <= 7) (h2 : fs.sum <= 7) (h : ∀ k, es.getD k 0 = 0 ∨ fs.getD k 0 = 0) : fracB (prod es : Nat) (prod fs : Nat) = true := by
  unfold fracB
  rw [termB_prod7 h1, termB_prod7 h2, Int.toNat_natCast, Int.toNat_natCast, noShare_prod h]
  rfl
end Mth
namespace L2
open PySem PySem.Spec PyProof.Rows
end L2
namespace Itm
open PySem PyProof.Rows
end Itm
namespace L2
open PySem PySem.Spec PyProof.Rows
end L2
namespace Rev
open PySem PyProof.Rows
end Rev
namespace L2
open PySem PySem.Spec PyProof.Rows
end L2
namespace MinT
open PySem PyProof.Rows
open PySem.SeqAt
open PySem.AutoSeq1 (wpAny_loadPart')
open PySem.MeetsSeq PySem.MeetsSeq2 PySem.MeetsSeq3
end MinT
namespace MinT
end MinT
namespace L2
open PySem PySem.Spec PyProof.Rows
end L2
namespace Mth
end Mth
namespace L2
open PySem PySem.Spec PyProof.Rows
theorem comp_genW {J : It} {n : Nat} {D : Addr} {js : List (Option Nat)} {g : TG} {tc : TT} {te : TE} {σ : St} {H1 : Hp} {Q : VK} (hn : n <= sizeLine) (Pv : Nat -> St -> Hp -> List V -> Prop) (h0 : Pv 0 (pick js σ) (upd H1 D (.lst [])) [])
    (hp : ∀ i σ' H' ys, i <= n -> Pv i σ' H' ys -> H' D = some (.lst ys) /\ ys.length <= i) (hgo : ∀ i σ' H' ys, i < n -> Pv i σ' H' ys -> J.go i H') (hst : ∀ σ' H' ys, Pv n σ' H' ys -> J.stop n H' /\ Q (.ref D) H')
    (hs : ∀ i σ' H' ys x H2, i < n -> Pv i σ' H' ys -> J.yld i H' x H2 -> g x σ' H2 fun σ2 H3 => tc σ2 H3 fun k H5 =>
      if k = true then te σ2 H5 fun y H4 => H4 D = some (.lst ys) /\ Pv (i + 1) σ2 (upd H4 D (.lst (ys ++ [y]))) (ys ++ [y]) else H5 D = some (.lst ys) /\ Pv (i + 1) σ2 H5 ys) : CompW J D js g tc te σ H1 Q := comp_gen hn Pv h0 hp hgo hst hs
end L2
namespace L2
open PySem PySem.Spec PyProof.Rows
end L2
namespace Mth
end Mth
namespace L2
open PySem PySem.Spec PyProof.Rows
theorem ix_tupN {X : Cx} {K : PySem.W.Frag} (hK : X.K = K) : IxR X (rIxT K) := by
  subst hK
  exact ix_tup
end L2
namespace L2
open PySem PySem.Spec PyProof.Rows
section
variable {X : Cx}
theorem any_range (bs : List Bool) : ((List.range bs.length).any fun i => bs.getD i true) = bs.any id := by
  rw [Bool.eq_iff_iff, List.any_eq_true, List.any_eq_true]
  constructor
  · rintro ⟨i, hi, h⟩
    have hi' := List.mem_range.mp hi
    rw [List.getD_eq_getElem?_getD, List.getElem?_eq_getElem hi'] at h
    exact ⟨_, List.getElem_mem hi', h⟩
  · rintro ⟨b, hb, h⟩
    obtain ⟨i, hi, rfl⟩ := List.getElem_of_mem hb
    refine ⟨i, List.mem_range.mpr hi, ?_⟩
    rw [List.getD_eq_getElem?_getD, List.getElem?_eq_getElem hi]
    exact h
theorem b_any : bootBuiltins "any" = some (.builtin "any") := by decide +kernel
theorem call_any (hc : X.calm = true) : CallR X (.builtin "any") (fun xs H Q => ∃ (p : Addr) (bs : List Bool), xs = [.ref p] /\ SqL X.K H p (bs.map V.bl) /\ Q (.bl (bs.any id)) H) := by
  intro pins s σ H xs us Q I r h
  obtain ⟨p, bs, rfl, hq, q⟩ := h
  obtain ⟨u, rfl, ru⟩ := vals1 r
  cases ru
  obtain ⟨its, rv, pl, hz⟩ := I.list hq
  have ei := vals_bl rv
  subst ei
  have hp : p < s.heap.objs.size := by obtain ⟨_, _, e, _⟩ := pl; exact Heap.lt_size e
  have hd : X.A.in1.handled = none := I.ok.hd hc
  refine call_any_walk (wpAny_pyIter_list pl.isList ?_)
  refine ⟨s.heap.objs.size, _, _, _, _, _, (fun i => bs.getD i true), rfl, Walks.list hd s.heap.objs.size p (Nat.ne_of_lt hp) (bs.map Value.bool).toArray, ⟨⟨_, Heap.get?_push_size _ rfl, rfl, rfl⟩, pl.isList.push _⟩, ?_, ?_⟩
  · intro i v s' Q' E' hv hQ
    have hv' : (bs.map Value.bool)[i]? = some v := by simpa using hv
    rw [List.getElem?_map] at hv'
    cases e : bs[i]? with
    | none => rw [e] at hv'; cases hv'
    | some b =>
      rw [e] at hv'
      cases hv'
      have hQ' : Q' (bs.getD i true) s' := hQ
      rw [List.getD_eq_getElem?_getD, e] at hQ'
      exact wpAny_truthy_bool hQ'
  · intro h' tk hk
    refine ⟨.bl (bs.any id), H, I.kept fun b o e => hk b o ?_ (Heap.get?_push_of_some _ e), ?_, q⟩
    · intro z
      rw [List.mem_singleton.mp z] at e
      exact absurd (Heap.lt_size e) (Nat.lt_irrefl _)
    · show Value.bool _ = Value.bool _
      rw [← any_range bs]
      simp
end
theorem for_zipL {a b : Addr} {xs ys : List V} {g : TG} {tb : TS} {D : Ends} {σ : St} {H : Hp} (Pv : Nat -> St -> Hp -> Prop) (h0 : Pv 0 σ H) (hl : ∀ i σ H, i <= min xs.length ys.length -> Pv i σ H -> H a = some (.lst xs) /\ H b = some (.lst ys))
    (hs : ∀ i x y p σ H, xs[i]? = some x -> ys[i]? = some y -> H p = none -> Pv i σ H -> g (.ref p) σ (upd H p (.tup [x, y])) fun σ2 H2 => tb { D with nx := Pv (i + 1), ct := Pv (i + 1), bk := D.nx } σ2 H2) (hd : ∀ σ H, Pv (min xs.length ys.length) σ H -> D.nx σ H) :
    ∃ W : Nat -> Nat -> St -> Hp -> Prop, (∃ m, W 0 m σ H) /\ ∀ i m σ H, W i m σ H ->
      ((Itzl a b).stop i H /\ D.nx σ H) ∨ ((Itzl a b).go i H /\ ∃ N : St -> Hp -> Prop, (∀ σ' H', N σ' H' -> ∃ m', m' < m /\ W (i + 1) m' σ' H') /\ ∀ x H', (Itzl a b).yld i H x H' -> g x σ H' fun σ2 H2 => tb { D with nx := N, ct := N, bk := D.nx } σ2 H2) := by
  refine ⟨fun i m σ H => m = min xs.length ys.length - i /\ i <= min xs.length ys.length /\ Pv i σ H, ⟨_, rfl, Nat.zero_le _, h0⟩, ?_⟩
  rintro i m σ H ⟨rfl, hi, p⟩
  obtain ⟨qa, qb⟩ := hl i σ H hi p
  by_cases hlt : i < min xs.length ys.length
  · have h1 : i < xs.length := by omega
    have h2 : i < ys.length := by omega
    refine .inr ⟨⟨xs, ys, xs[i], ys[i], qa, qb, by simp [h1], by simp [h2]⟩, Pv (i + 1), fun σ' H' p' => ⟨min xs.length ys.length - (i + 1), by omega, rfl, hlt, p'⟩, fun v H' yv => ?_⟩
    obtain ⟨q, hq, rfl, x, y, rfl, hxy⟩ := yv
    obtain ⟨ex, ey⟩ := hxy xs ys qa qb
    exact hs i x y q σ H ex ey hq p
  · have e : i = min xs.length ys.length := by omega
    exact .inl ⟨⟨xs, ys, qa, qb, by omega⟩, hd σ H (e ▸ p)⟩
theorem comp_zipM {K : PySem.W.Frag} {a b D : Addr} {js : List (Option Nat)} {g : TG} {te : TE} {σ : St} {H1 : Hp} {Q : VK} {xs ys : List V} (hn : min xs.length ys.length <= sizeLine) (Pv : Nat -> St -> Hp -> List V -> Prop) (h0 : Pv 0 (pick js σ) (upd H1 D (.lst [])) [])
    (hl : ∀ i σ' H' zs, H' D = some (.lst zs) -> Pv i σ' H' zs -> SqT K H' a xs /\ SqL K H' b ys)
    (hs : ∀ i x y p σ' H' zs (R : St -> V -> Hp -> Prop), xs[i]? = some x -> ys[i]? = some y -> H' p = none -> H' D = some (.lst zs) -> zs.length = i -> Pv i σ' H' zs -> (∀ σ2 z H4, H4 D = some (.lst zs) -> Pv (i + 1) σ2 (upd H4 D (.lst (zs ++ [z]))) (zs ++ [z]) -> R σ2 z H4) ->
      g (.ref p) σ' (upd H' p (.tup [x, y])) fun σ2 H3 => te σ2 H3 fun z H4 => R σ2 z H4)
    (hst : ∀ σ' H' zs, H' D = some (.lst zs) -> zs.length = min xs.length ys.length -> Pv (min xs.length ys.length) σ' H' zs -> Q (.ref D) H') : CompW (Itm K a b) D js g tNoTest te σ H1 Q := by
  refine comp_plain hn Pv h0 (fun i σ' H' zs hi hD p => ?_) (fun σ' H' zs hD b' c => ⟨?_, hst σ' H' zs hD b' c⟩) fun i σ' H' zs x H2 R hi hD hz p hx k => ?_
  · obtain ⟨qa, qb⟩ := hl i σ' H' zs hD p
    have h1 : i < xs.length := by omega
    have h2 : i < ys.length := by omega
    exact ⟨xs, ys, xs[i], ys[i], qa, qb, by simp [h1], by simp [h2]⟩
  · obtain ⟨qa, qb⟩ := hl _ σ' H' zs hD c
    exact ⟨xs, ys, qa, qb, by omega⟩
  · obtain ⟨qa, qb⟩ := hl i σ' H' zs hD p
    obtain ⟨q, hq, rfl, x', y', rfl, hxy⟩ := hx
    obtain ⟨ex, ey⟩ := hxy xs ys qa qb
    exact hs i x' y' q σ' H' zs R ex ey hq hD hz p k
end L2
namespace L2
open PySem PySem.Spec PySem.SeqAt PyProof.Rows
section
variable {X : Cx}
theorem call_maxL (hc : X.calm = true) : CallR X (.builtin "max") (fun xs H Q => ∃ (p : Addr) (ns : List Int), xs = [.ref p] /\ SqL X.K H p (ns.map V.int) /\ ns ≠ [] /\ ∀ M, M ∈ ns -> (∀ a, a ∈ ns -> a <= M) -> Q (.int M) H) := by
  intro pins s σ H xs us Q I r h
  obtain ⟨p, ns, rfl, hq, hne, q⟩ := h
  obtain ⟨u, rfl, rx⟩ := vals1 r
  cases rx
  obtain ⟨its, r', pl, hz⟩ := I.list hq
  have hl := pl.isList
  have hi := intsAre_of r'
  obtain ⟨xs, e⟩ := hi.allInts.items
  have hns : ns = xs.toList.map (·.1) := by rw [← hi.numsOf, ← nums_intItems, ← e]
  have hsz : 0 < xs.size := by
    have h3 : 0 < ns.length := by cases ns with | nil => exact absurd rfl hne | cons => simp
    rw [hns, List.length_map, Array.length_toList] at h3; exact h3
  rw [e] at hl
  refine max_intList (I.ok.hd hc) hl hsz fun v h' tk hv hk => ?_
  obtain ⟨t, rfl⟩ := intItems_at hv
  obtain ⟨h1, h2⟩ := argBest_gt (numAt xs) (xs.size - 1)
  refine ⟨.int _, H, I.kept hk, ⟨_, rfl⟩, q _ ?_ fun a ha => ?_⟩
  · rw [hns, numAt_eq]; exact getD_mem (by rw [List.length_map, Array.length_toList]; omega)
  · rw [hns] at ha
    obtain ⟨j, hj, rfl⟩ := mem_getD ha
    rw [List.length_map, Array.length_toList] at hj
    rw [← numAt_eq]; exact h2 j (by omega)
def isIntOf (k : Int) : Value -> Bool
  | .int i _ => i == k
  | _ => false
def rIndexI : V -> List V -> Hp -> VK -> Prop := fun x vs H Q => ∃ (l : Addr) (ns : List Int) (k : Int), x = .ref l /\ vs = [.int k] /\ H l = some (.lst (ns.map V.int)) /\ k ∈ ns /\ ns.length <= 1000 /\ ∀ j : Nat, ns[j]? = some k -> Q (.int (j : Nat)) H
theorem first_at {ns : List Int} {k : Int} (h : k ∈ ns) : ∃ j : Nat, ns[j]? = some k /\ ∀ m : Nat, m < j -> ns[m]? ≠ some k := by
  induction ns with
  | nil => cases h
  | cons x r ih =>
    by_cases e : x = k
    · exact ⟨0, by rw [e]; rfl, fun m hm => absurd hm (Nat.not_lt_zero _)⟩
    · rcases List.mem_cons.mp h with z | z
      · exact absurd z.symm e
      · obtain ⟨j, h1, h2⟩ := ih z
        refine ⟨j + 1, h1, fun m hm => ?_⟩
        cases m with
        | zero => intro z; exact e (Option.some.inj z)
        | succ m => exact h2 m (by omega)
theorem mt_indexI : MtM X "list.index" rIndexI := by
  intro pins s σ H x vs v us Q I rx rv h
  obtain ⟨l, ns, k, rfl, rfl, hH, hk, hz, q⟩ := h
  cases rx
  obtain ⟨u, rfl, ru⟩ := rv.one
  obtain ⟨t, rfl⟩ := ru
  obtain ⟨z, its, n, r, hl, e⟩ := I.lstM hH
  obtain ⟨j, hj, hb⟩ := first_at hk
  have hlen := r.length
  rw [List.length_map] at hlen
  have hjl : j < ns.length := (List.getElem?_eq_some_iff.mp hj).1
  have at_ : ∀ m : Nat, (hm : m < its.length) -> ∃ i t', its[m] = .int i t' /\ ns[m]? = some i := by
    intro m hm
    have hmn : m < ns.length := by omega
    obtain ⟨u, hu, ru⟩ := r.get (i := m) (x := .int ns[m]) (by rw [List.getElem?_map, List.getElem?_eq_getElem hmn]; rfl)
    obtain ⟨t', rfl⟩ := ru
    refine ⟨ns[m], t', ?_, List.getElem?_eq_getElem hmn⟩
    rw [List.getElem?_eq_getElem hm] at hu
    exact Option.some.inj hu
  refine call_meets PySem.F.slot_list_index ⟨_, e, rfl⟩ PySem.F.entry_list_index (PySem.F.args_list_index_2 _ _)
    (list_indexAt l _ n none #[] (.int k t) (isIntOf k) j (by simp; omega) (by omega) ?_ ?_) ⟨e, fun y hy => ?_, ⟨.int (j : Nat), H, I.tok _, ⟨s.toks, rfl⟩, q j hj⟩⟩
  · obtain ⟨i, t', h1, h2⟩ := at_ j (by omega)
    rw [hj] at h2
    cases h2
    show isIntOf k its.toArray[j] = true
    rw [show its.toArray[j]'(by simp; omega) = its[j]'(by omega) by simp, h1]
    simp [isIntOf]
  · intro m hm hlt
    obtain ⟨i, t', h1, h2⟩ := at_ m (by simpa using hm)
    rw [show its.toArray[m] = its[m]'(by simpa using hm) by simp, h1]
    have := hb m hlt
    show (i == k) = false
    rw [beq_eq_false_iff_ne]
    intro z
    rw [h2, z] at this
    exact this rfl
  · have hy' : y ∈ its := by simpa using hy
    obtain ⟨m, hm, rfl⟩ := List.getElem_of_mem hy'
    obtain ⟨i, t', h1, _⟩ := at_ m hm
    rw [h1]
    exact EqAt.int_int i t' k t
end
end L2
namespace Mth
end Mth
namespace L2
open PySem PySem.Spec PyProof.Rows
end L2
namespace Mth
end Mth
namespace L2
open PySem PySem.Spec PyProof.Rows
end L2
namespace Mth
end Mth
namespace L2
open PySem PySem.Spec PyProof.Rows
namespace HT
end HT
end L2
namespace L2
open PySem PySem.Spec PyProof.Rows
end L2
namespace L2
open PySem PySem.Spec PyProof.Rows
section
variable {X : Cx}
theorem op_neNil (hu : X.A.units + 1 < cLine) : OpR X (compareOp .NotEq) (fun x y H Q => ∃ (a b : Addr) (xs : List V), x = .ref a /\ y = .ref b /\ H a = some (.lst xs) /\ H b = some (.lst []) /\ Q (.bl (!decide (xs.length = 0))) H) := by
  intro pins s σ H x y v u Q I rx ry h
  obtain ⟨a, b, xs, rfl, rfl, ha, hb, q⟩ := h
  cases rx
  cases ry
  obtain ⟨_, its, n1, rv, e1, pa⟩ := I.lstM ha
  obtain ⟨_, jts, n2, rw', e2, pb⟩ := I.lstM hb
  have hj : jts = [] := by
    cases rw'
    rfl
  subst hj
  have la : s.heap.IsList a its.toArray := ⟨_, pa, rfl, n1, rfl⟩
  have lb : s.heap.IsList b (#[] : Array Value) := ⟨_, pb, rfl, n2, rfl⟩
  have hl := rv.length
  by_cases h0 : xs.length = 0
  · have hsz : its.toArray.size = (#[] : Array Value).size := by
      rw [List.size_toArray, ← hl, h0]
      rfl
    have := SeqAt.RcNeAt.lists (A := X.A) (s := s) (e := fun _ => true) la lb hsz (Nat.lt_of_succ_lt hu) (fun j h1 h2 => absurd h2 (Nat.not_lt_zero _))
    rw [decide_eq_true h0] at q
    rw [show (!((List.range its.toArray.size).all fun _ => true)) = false by rw [hsz]; rfl] at this
    exact this X.prog X.w _ _ ⟨.bl false, H, I, rfl, q⟩
  · have := SeqAt.RcNeAt.lists_lengths (A := X.A) (s := s) la lb (by rw [List.size_toArray, ← hl]; show (xs.length != 0) = true; exact bne_iff_ne.mpr h0) (Nat.lt_of_succ_lt hu)
    rw [decide_eq_false h0] at q
    exact this X.prog X.w _ _ ⟨.bl true, H, I, rfl, q⟩
end
end L2
namespace Enk
open PySem PyProof.Rows
end Enk
namespace L2
open PySem PySem.Spec PyProof.Rows
end L2
namespace Rvl
open PySem PyProof.Rows
end Rvl
namespace L2
open PySem PySem.Spec PyProof.Rows
end L2
namespace Enk
open PySem PyProof.Rows
end Enk
namespace L2
open PySem PySem.Spec PyProof.Rows
end L2
namespace Enk
open PySem PyProof.Rows
end Enk
namespace L2
open PySem PySem.Spec PyProof.Rows
end L2
namespace Mth
def dotI (r p : List Int) : Int := (List.zipWith (fun a b : Int => a * b) r p).sum
theorem dotI_nil (p : List Int) : dotI [] p = 0 := rfl
theorem dotI_cons (a b : Int) (r p : List Int) : dotI (a :: r) (b :: p) = a * b + dotI r p := by
  show (a * b :: List.zipWith _ r p).sum = _
  rw [List.sum_cons]
  rfl
def lay2 (u t : Int) (r o : List Int) : List Int := List.zipWith (fun a b : Int => u * a - t * b) r o
theorem dotI_lay2 (u t : Int) : ∀ (r o p : List Int), r.length = o.length -> dotI (lay2 u t r o) p = u * dotI r p - t * dotI o p
  | [], [], p, _ => by
    show dotI [] p = _
    rw [dotI_nil, Int.mul_zero, Int.mul_zero]
    rfl
  | a :: r, b :: o, [], _ => by
    show (0 : Int) = u * 0 - t * 0
    omega
  | a :: r, b :: o, q :: p, h => by
    have ih := dotI_lay2 u t r o p (by simpa using h)
    show dotI ((u * a - t * b) :: lay2 u t r o) (q :: p) = _
    rw [dotI_cons, dotI_cons, dotI_cons, ih, Int.mul_add, Int.mul_add, Int.sub_mul, Int.mul_assoc, Int.mul_assoc]
    omega
theorem dotI_scale (d : Int) : ∀ (r p : List Int), dotI (r.map fun x => d * x) p = d * dotI r p
  | [], p => by rw [List.map_nil, dotI_nil, Int.mul_zero]
  | a :: r, [] => by
    show (0 : Int) = d * 0
    omega
  | a :: r, q :: p => by
    rw [List.map_cons, dotI_cons, dotI_cons, dotI_scale d r p, Int.mul_add, Int.mul_assoc]
def gcdL (ns : List Int) : Nat := ns.foldl (fun g n => Nat.gcd g n.natAbs) 0
theorem gcdF_dvd : ∀ (ns : List Int) (g : Nat), (ns.foldl (fun g n => Nat.gcd g n.natAbs) g ∣ g) /\ ∀ n ∈ ns, ((ns.foldl (fun g n => Nat.gcd g n.natAbs) g : Nat) : Int) ∣ n
  | [], g => ⟨Nat.dvd_refl g, fun n h => by cases h⟩
  | a :: ns, g => by
    obtain ⟨h1, h2⟩ := gcdF_dvd ns (Nat.gcd g a.natAbs)
    refine ⟨Nat.dvd_trans h1 (Nat.gcd_dvd_left _ _), fun n hn => ?_⟩
    rcases List.mem_cons.mp hn with z | z
    · rw [z]
      exact Int.dvd_natAbs.mp (Int.natCast_dvd_natCast.mpr (Nat.dvd_trans h1 (Nat.gcd_dvd_right _ _)))
    · exact h2 n z
theorem gcdL_dvd {ns : List Int} {n : Int} (h : n ∈ ns) : ((gcdL ns : Nat) : Int) ∣ n := (gcdF_dvd ns 0).2 n h
theorem gcdL_pos {ns : List Int} {n : Int} (h : n ∈ ns) (h0 : n ≠ 0) : 0 < gcdL ns := by
  rcases Nat.eq_zero_or_pos (gcdL ns) with z | z
  · have := gcdL_dvd h
    rw [z] at this
    exact absurd (Int.zero_dvd.mp this) h0
  · exact z
def sgnL (ns : List Int) : Int := match ns.filter (fun n => decide (n ≠ 0)) with
  | [] => 1
  | n :: _ => if n < 0 then -1 else 1
theorem sgnL_is (ns : List Int) : sgnL ns = 1 ∨ sgnL ns = -1 := by
  unfold sgnL
  split
  · exact .inl rfl
  · split
    · exact .inr rfl
    · exact .inl rfl
def lowI (ns : List Int) : List Int := ns.map fun n => n / (sgnL ns * (gcdL ns : Int))
theorem lowI_len (ns : List Int) : (lowI ns).length = ns.length := List.length_map _
theorem low_back {ns : List Int} (h : ∃ n ∈ ns, n ≠ 0) : ns = (lowI ns).map fun x => (sgnL ns * (gcdL ns : Int)) * x := by
  obtain ⟨n, hn, h0⟩ := h
  have hp := gcdL_pos hn h0
  unfold lowI
  rw [List.map_map]
  have : ∀ m ∈ ns, ((fun x => (sgnL ns * (gcdL ns : Int)) * x) ∘ fun n => n / (sgnL ns * (gcdL ns : Int))) m = m := fun m hm => by
    show (sgnL ns * (gcdL ns : Int)) * (m / (sgnL ns * (gcdL ns : Int))) = m
    refine Int.mul_ediv_cancel' ?_
    rcases sgnL_is ns with z | z
    · rw [z, Int.one_mul]; exact gcdL_dvd hm
    · rw [z, Int.neg_mul, Int.one_mul]; exact Int.neg_dvd.mpr (gcdL_dvd hm)
  rw [List.map_congr_left this, List.map_id']
theorem low_fac {ns : List Int} (h : ∃ n ∈ ns, n ≠ 0) : sgnL ns * (gcdL ns : Int) ≠ 0 := by
  obtain ⟨n, hn, h0⟩ := h
  have hp := gcdL_pos hn h0
  rcases sgnL_is ns with z | z <;> rw [z] <;> omega
theorem low_dot {ns p : List Int} (h : ∃ n ∈ ns, n ≠ 0) (hd : dotI ns p = 0) : dotI (lowI ns) p = 0 := by
  have e := low_back h
  rw [e, dotI_scale] at hd
  rcases Int.mul_eq_zero.mp hd with z | z
  · exact absurd z (low_fac h)
  · exact z
theorem low_get {ns : List Int} (x : Nat) : (lowI ns).getD x 0 = ns.getD x 0 / (sgnL ns * (gcdL ns : Int)) := by
  unfold lowI
  rw [List.getD_eq_getElem?_getD, List.getElem?_map, List.getD_eq_getElem?_getD]
  cases ns[x]? with
  | none => exact (Int.zero_ediv _).symm
  | some a => rfl
theorem low_zero {ns : List Int} (h : ∃ n ∈ ns, n ≠ 0) (x : Nat) : (lowI ns).getD x 0 = 0 ↔ ns.getD x 0 = 0 := by
  rw [low_get]
  constructor
  · intro z
    have hd : sgnL ns * (gcdL ns : Int) ∣ ns.getD x 0 := by
      rw [List.getD_eq_getElem?_getD]
      cases hx : ns[x]? with
      | none => exact Int.dvd_zero _
      | some a =>
        have hm := gcdL_dvd (List.mem_of_getElem? hx)
        rcases sgnL_is ns with w | w
        · rw [w, Int.one_mul]; exact hm
        · rw [w, Int.neg_mul, Int.one_mul]; exact Int.neg_dvd.mpr hm
    have := Int.mul_ediv_cancel' hd
    rw [z, Int.mul_zero] at this
    exact this.symm
  · intro z
    rw [z, Int.zero_ediv]
def LdA (r : List Int) (l : Nat) : Prop := r.getD l 0 ≠ 0 /\ ∀ x, x < l -> r.getD x 0 = 0
def LdR (r s : List Int) : Prop := ∃ l, LdA r l /\ ∀ x, x <= l -> s.getD x 0 = 0
theorem LdA.mem {r : List Int} {l : Nat} (h : LdA r l) : ∃ n ∈ r, n ≠ 0 := by
  have h1 := h.1
  rw [List.getD_eq_getElem?_getD] at h1
  cases hx : r[l]? with
  | none => rw [hx] at h1; exact absurd rfl h1
  | some a => rw [hx] at h1; exact ⟨a, List.mem_of_getElem? hx, h1⟩
theorem LdA.low {r : List Int} {l : Nat} (h : LdA r l) : LdA (lowI r) l := ⟨fun z => h.1 ((low_zero h.mem l).mp z), fun x hx => (low_zero h.mem x).mpr (h.2 x hx)⟩
theorem lay2_get {u t : Int} {r o : List Int} (h : r.length = o.length) (x : Nat) : (lay2 u t r o).getD x 0 = u * r.getD x 0 - t * o.getD x 0 := by
  unfold lay2
  rw [List.getD_eq_getElem?_getD, List.getD_eq_getElem?_getD, List.getD_eq_getElem?_getD]
  rcases Nat.lt_or_ge x r.length with z | z
  · have e : (List.zipWith (fun a b : Int => u * a - t * b) r o)[x]? = some (u * r[x] - t * o[x]'(by omega)) := by
      rw [List.getElem?_zipWith_eq_some]
      exact ⟨_, _, List.getElem?_eq_getElem z, List.getElem?_eq_getElem (by omega), rfl⟩
    rw [e, List.getElem?_eq_getElem z, List.getElem?_eq_getElem (by omega)]
    rfl
  · rw [List.getElem?_eq_none (by rw [List.length_zipWith]; omega), List.getElem?_eq_none z, List.getElem?_eq_none (by omega)]
    show (0 : Int) = u * 0 - t * 0
    omega
def BdI (b : Nat) (r : List Int) : Prop := ∀ n ∈ r, n.natAbs <= 2 ^ b
theorem BdI.low {b : Nat} {r : List Int} (h : BdI b r) (hz : ∃ n ∈ r, n ≠ 0) : BdI b (lowI r) := fun n hn => by
  unfold lowI at hn
  obtain ⟨m, hm, rfl⟩ := List.mem_map.mp hn
  have h1 := h m hm
  have h2 := low_fac hz
  have h3 : (m / (sgnL r * (gcdL r : Int))).natAbs <= m.natAbs := Int.natAbs_ediv_le_natAbs _ _
  omega
theorem dotI_le {b c : Nat} : ∀ {r p : List Int}, BdI b r -> BdI c p -> (dotI r p).natAbs <= r.length * 2 ^ (b + c)
  | [], p, _, _ => by rw [dotI_nil]; exact Nat.zero_le _
  | a :: r, [], _, _ => by
    show (0 : Int).natAbs <= _
    exact Nat.zero_le _
  | a :: r, q :: p, h1, h2 => by
    have ih := dotI_le (r := r) (p := p) (fun n hn => h1 n (List.mem_cons_of_mem _ hn)) (fun n hn => h2 n (List.mem_cons_of_mem _ hn))
    have ha := h1 a List.mem_cons_self
    have hq := h2 q List.mem_cons_self
    rw [dotI_cons, List.length_cons, Nat.add_mul, Nat.one_mul]
    have h3 : (a * q).natAbs <= 2 ^ (b + c) := by
      rw [Int.natAbs_mul, Nat.pow_add]
      exact Nat.mul_le_mul ha hq
    have h4 := Int.natAbs_add_le (a * q) (dotI r p)
    omega
theorem lay2_bd {b d : Nat} {u t : Int} {r o : List Int} (hu : u.natAbs <= 2 ^ d) (ht : t.natAbs <= 2 ^ d) (hr : BdI b r) (ho : BdI b o) : BdI (b + d + 1) (lay2 u t r o) := fun n hn => by
  unfold lay2 at hn
  obtain ⟨i, hi⟩ := List.getElem?_of_mem hn
  rw [List.getElem?_zipWith_eq_some] at hi
  obtain ⟨x, y, hx, hy, rfl⟩ := hi
  have h1 := hr x (List.mem_of_getElem? hx)
  have h2 := ho y (List.mem_of_getElem? hy)
  have h3 : (u * x).natAbs <= 2 ^ (b + d) := by
    rw [Int.natAbs_mul, Nat.pow_add, Nat.mul_comm]
    exact Nat.mul_le_mul h1 hu
  have h4 : (t * y).natAbs <= 2 ^ (b + d) := by
    rw [Int.natAbs_mul, Nat.pow_add, Nat.mul_comm]
    exact Nat.mul_le_mul h2 ht
  have h5 := Int.natAbs_sub_le (u * x) (t * y)
  rw [Nat.pow_succ]
  omega
structure BaseR (b : Nat) (cs rows : List (List Int)) : Prop where
  l10 : ∀ r ∈ rows, r.length = 10
  bd : ∀ r ∈ rows, BdI b r
  nz : ∀ r ∈ rows, ∃ l, LdA r l
  pw : rows.Pairwise LdR
  kept : ∀ r ∈ rows, ∀ c ∈ cs, dotI r c = 0
theorem BaseR.more {b b' : Nat} {cs rows : List (List Int)} (h : BaseR b cs rows) (hb : b <= b') : BaseR b' cs rows := ⟨h.l10, fun r hr n hn => Nat.le_trans (h.bd r hr n hn) (Nat.pow_le_pow_right (by decide) hb), h.nz, h.pw, h.kept⟩
def evI (c o r : List Int) : List Int := lowI (lay2 (dotI o c) (dotI r c) r o)
def AheadR (c o : List Int) (r : List Int) : Prop := LdR r o ∨ dotI r c = 0
theorem lead_ev {c o r : List Int} (hl : r.length = o.length) (ho : dotI o c ≠ 0) (h : AheadR c o r) {l : Nat} (hr : LdA r l) : LdA (lay2 (dotI o c) (dotI r c) r o) l := by
  have key : ∀ x, x <= l -> (lay2 (dotI o c) (dotI r c) r o).getD x 0 = dotI o c * r.getD x 0 := fun x hx => by
    rw [lay2_get hl]
    rcases h with ⟨l', hl', hz⟩ | z
    · have e : l' = l := by
        rcases Nat.lt_trichotomy l' l with y | y | y
        · exact absurd (hr.2 l' y) hl'.1
        · exact y
        · exact absurd (hl'.2 l y) hr.1
      rw [hz x (by omega), Int.mul_zero, Int.sub_zero]
    · rw [z, Int.zero_mul, Int.sub_zero]
  refine ⟨?_, fun x hx => ?_⟩
  · rw [key l (Nat.le_refl l)]
    exact Int.mul_ne_zero ho hr.1
  · rw [key x (by omega), hr.2 x hx, Int.mul_zero]
theorem BaseR.step {b : Nat} {cs rows : List (List Int)} {c o : List Int} (h : BaseR b cs rows) (hc : BdI 6 c) (ho : o ∈ rows) (hoc : dotI o c ≠ 0) (ha : ∀ r ∈ rows, r ≠ o -> AheadR c o r) : BaseR (b + (b + 10) + 1) (cs ++ [c]) ((rows.filter fun r => decide (r ≠ o)).map (evI c o)) := by
  have lo := h.l10 o ho
  have inf : ∀ r ∈ rows.filter (fun r => decide (r ≠ o)), r ∈ rows /\ r ≠ o := fun r hr => by
    obtain ⟨h1, h2⟩ := List.mem_filter.mp hr
    exact ⟨h1, of_decide_eq_true h2⟩
  have dl : ∀ r ∈ rows, (dotI r c).natAbs <= 2 ^ (b + 10) := fun r hr => by
    have := dotI_le (h.bd r hr) hc
    rw [h.l10 r hr] at this
    have e : 2 ^ (b + 10) = 2 ^ (b + 6) * 16 := by rw [show b + 10 = b + 6 + 4 by omega, Nat.pow_add]
    have := Nat.two_pow_pos (b + 6)
    omega
  have lead : ∀ r ∈ rows, r ≠ o -> ∀ l, LdA r l -> LdA (lay2 (dotI o c) (dotI r c) r o) l := fun r hr hn l hl => lead_ev (by rw [h.l10 r hr, lo]) hoc (ha r hr hn) hl
  refine ⟨?_, ?_, ?_, ?_, ?_⟩
  · intro r' hr'
    obtain ⟨r, hr, rfl⟩ := List.mem_map.mp hr'
    obtain ⟨h1, h2⟩ := inf r hr
    unfold evI lay2
    rw [lowI_len, List.length_zipWith, h.l10 r h1, lo]
    rfl
  · intro r' hr'
    obtain ⟨r, hr, rfl⟩ := List.mem_map.mp hr'
    obtain ⟨h1, h2⟩ := inf r hr
    obtain ⟨l, hl⟩ := h.nz r h1
    exact (lay2_bd (dl o ho) (dl r h1) (h.bd r h1) (h.bd o ho)).low (lead r h1 h2 l hl).mem
  · intro r' hr'
    obtain ⟨r, hr, rfl⟩ := List.mem_map.mp hr'
    obtain ⟨h1, h2⟩ := inf r hr
    obtain ⟨l, hl⟩ := h.nz r h1
    exact ⟨l, (lead r h1 h2 l hl).low⟩
  · rw [List.pairwise_map]
    refine List.Pairwise.imp_of_mem ?_ (h.pw.filter _)
    intro r s hr hs hrs
    obtain ⟨h1, h2⟩ := inf r hr
    obtain ⟨h3, h4⟩ := inf s hs
    obtain ⟨l, hl, hz⟩ := hrs
    obtain ⟨l2, hl2⟩ := h.nz s h3
    have e2 : l < l2 := by
      rcases Nat.lt_or_ge l l2 with y | y
      · exact y
      · exact absurd (hz l2 y) hl2.1
    have L1 := (lead r h1 h2 l hl).low
    have L2 := (lead s h3 h4 l2 hl2).low
    exact ⟨l, L1, fun x hx => L2.2 x (by omega)⟩
  · intro r' hr' c' hc'
    obtain ⟨r, hr, rfl⟩ := List.mem_map.mp hr'
    obtain ⟨h1, h2⟩ := inf r hr
    obtain ⟨l, hl⟩ := h.nz r h1
    refine low_dot (lead r h1 h2 l hl).mem ?_
    rw [dotI_lay2 _ _ _ _ _ (by rw [h.l10 r h1, lo])]
    rcases List.mem_append.mp hc' with z | z
    · rw [h.kept r h1 c' z, h.kept o ho c' z, Int.mul_zero, Int.mul_zero]
      rfl
    · rw [List.mem_singleton.mp z, Int.mul_comm (dotI o c), Int.sub_self]
theorem BaseR.stay {b : Nat} {cs rows : List (List Int)} {c : List Int} (h : BaseR b cs rows) (hk : ∀ r ∈ rows, dotI r c = 0) : BaseR b (cs ++ [c]) rows := ⟨h.l10, h.bd, h.nz, h.pw, fun r hr c' hc' => by
  rcases List.mem_append.mp hc' with z | z
  · exact h.kept r hr c' z
  · rw [List.mem_singleton.mp z]; exact hk r hr⟩
def unitI (k : Nat) : List Int := (List.range 10).map fun j => if j = k then 1 else 0
theorem BaseR.start : BaseR 0 [] ((List.range 10).map unitI) := by
  refine ⟨?_, ?_, ?_, ?_, fun r _ c hc => by cases hc⟩
  · decide
  · have : ∀ r ∈ (List.range 10).map unitI, ∀ n ∈ r, n.natAbs <= 2 ^ 0 := by decide
    exact this
  · intro r hr
    obtain ⟨k, hk, rfl⟩ := List.mem_map.mp hr
    have hk : k < 10 := List.mem_range.mp hk
    have : ∀ k, k < 10 -> (unitI k).getD k 0 ≠ 0 /\ ∀ x, x < k -> (unitI k).getD x 0 = 0 := by decide
    exact ⟨k, this k hk⟩
  · rw [List.pairwise_map]
    refine List.Pairwise.imp_of_mem ?_ (List.pairwise_lt_range (n := 10))
    intro j k hj hk hjk
    have hj : j < 10 := List.mem_range.mp hj
    have hk : k < 10 := List.mem_range.mp hk
    have h1 : ∀ k, k < 10 -> (unitI k).getD k 0 ≠ 0 /\ ∀ x, x < k -> (unitI k).getD x 0 = 0 := by decide
    exact ⟨j, h1 j hj, fun x hx => (h1 k hk).2 x (by omega)⟩
def unkP (c : List Int) (rows : List (List Int)) : List Nat := (List.range rows.length).filter fun i => decide (dotI (rows.getD i []) c ≠ 0)
def keptF (c : List Int) (rows : List (List Int)) : List (List Int) := match (unkP c rows).getLast? with
  | none => rows
  | some L => (rows.filter fun r => decide (r ≠ rows.getD L [])).map (evI c (rows.getD L []))
theorem unk_mem {c : List Int} {rows : List (List Int)} {i : Nat} : i ∈ unkP c rows ↔ i < rows.length /\ dotI (rows.getD i []) c ≠ 0 := by
  unfold unkP
  rw [List.mem_filter, List.mem_range, decide_eq_true_iff]
theorem unk_none {c : List Int} {rows : List (List Int)} (h : (unkP c rows).getLast? = none) : ∀ r ∈ rows, dotI r c = 0 := fun r hr => by
  obtain ⟨i, hi⟩ := List.getElem?_of_mem hr
  have hl := (List.getElem?_eq_some_iff.mp hi).1
  have he : unkP c rows = [] := List.getLast?_eq_none_iff.mp h
  rcases Classical.em (dotI r c = 0) with z | z
  · exact z
  · have : i ∈ unkP c rows := unk_mem.mpr ⟨hl, by rw [List.getD_eq_getElem?_getD, hi]; exact z⟩
    rw [he] at this
    cases this
theorem unk_last {c : List Int} {rows : List (List Int)} {L : Nat} (h : (unkP c rows).getLast? = some L) : L < rows.length /\ dotI (rows.getD L []) c ≠ 0 /\ ∀ i, i < rows.length -> L < i -> dotI (rows.getD i []) c = 0 := by
  obtain ⟨ys, hy⟩ := List.getLast?_eq_some_iff.mp h
  have hm : L ∈ unkP c rows := by rw [hy]; exact List.mem_append_right _ List.mem_cons_self
  obtain ⟨h1, h2⟩ := unk_mem.mp hm
  refine ⟨h1, h2, fun i hi hL => ?_⟩
  rcases Classical.em (dotI (rows.getD i []) c = 0) with z | z
  · exact z
  · have hi' : i ∈ unkP c rows := unk_mem.mpr ⟨hi, z⟩
    have hp : (unkP c rows).Pairwise (· < ·) := (List.pairwise_lt_range (n := rows.length)).filter _
    rw [hy] at hi' hp
    rcases List.mem_append.mp hi' with w | w
    · have := (List.pairwise_append.mp hp).2.2 i w L List.mem_cons_self
      omega
    · rw [List.mem_singleton.mp w] at hL
      omega
theorem kept_ahead {b : Nat} {cs rows : List (List Int)} {c : List Int} (h : BaseR b cs rows) {L : Nat} (hL : (unkP c rows).getLast? = some L) : ∀ r ∈ rows, r ≠ rows.getD L [] -> AheadR c (rows.getD L []) r := fun r hr hn => by
  obtain ⟨h1, h2, h3⟩ := unk_last hL
  have hg : rows.getD L [] = rows[L] := by rw [List.getD_eq_getElem?_getD, List.getElem?_eq_getElem h1]; rfl
  obtain ⟨i, hi⟩ := List.getElem?_of_mem hr
  have hil := (List.getElem?_eq_some_iff.mp hi).1
  have hri : rows[i] = r := (List.getElem?_eq_some_iff.mp hi).2
  rcases Nat.lt_trichotomy i L with z | z | z
  · refine .inl ?_
    rw [hg, ← hri]
    exact List.pairwise_iff_getElem.mp h.pw i L hil h1 z
  · subst z
    exact absurd (by rw [hg, hri]) hn
  · refine .inr ?_
    have := h3 i hil z
    rw [List.getD_eq_getElem?_getD, hi] at this
    exact this
theorem dot_bd {b : Nat} {cs rows : List (List Int)} {c : List Int} (h : BaseR b cs rows) (hc : BdI 6 c) {r : List Int} (hr : r ∈ rows) : (dotI r c).natAbs <= 2 ^ (b + 10) := by
  have := dotI_le (h.bd r hr) hc
  rw [h.l10 r hr] at this
  have e : 2 ^ (b + 10) = 2 ^ (b + 6) * 16 := by rw [show b + 10 = b + 6 + 4 by omega, Nat.pow_add]
  have := Nat.two_pow_pos (b + 6)
  omega
theorem keptF_ok {b : Nat} {cs rows : List (List Int)} {c : List Int} (h : BaseR b cs rows) (hc : BdI 6 c) : BaseR (2 * b + 11) (cs ++ [c]) (keptF c rows) := by
  unfold keptF
  cases hL : (unkP c rows).getLast? with
  | none => exact (h.stay (unk_none hL)).more (by omega)
  | some L =>
    obtain ⟨h1, h2, h3⟩ := unk_last hL
    have hg : rows.getD L [] = rows[L] := by rw [List.getD_eq_getElem?_getD, List.getElem?_eq_getElem h1]; rfl
    have := h.step hc (o := rows.getD L []) (by rw [hg]; exact List.getElem_mem h1) h2 fun r hr hn => by
      obtain ⟨i, hi⟩ := List.getElem?_of_mem hr
      have hil := (List.getElem?_eq_some_iff.mp hi).1
      have hri : rows[i] = r := (List.getElem?_eq_some_iff.mp hi).2
      rcases Nat.lt_trichotomy i L with z | z | z
      · refine .inl ?_
        rw [hg, ← hri]
        exact List.pairwise_iff_getElem.mp h.pw i L hil h1 z
      · subst z
        exact absurd (by rw [hg, hri]) hn
      · refine .inr ?_
        have := h3 i hil z
        rw [List.getD_eq_getElem?_getD, hi] at this
        exact this
    exact this.more (by omega)
def units : List (List Int) := (List.range 10).map unitI
def baseF (cs : List (List Int)) : List (List Int) := cs.foldl (fun rows c => keptF c rows) units
def bB : Nat -> Nat
  | 0 => 0
  | n + 1 => 2 * bB n + 11
theorem baseF_step {cs : List (List Int)} {n : Nat} {c : List Int} (h : cs[n]? = some c) : baseF (cs.take (n + 1)) = keptF c (baseF (cs.take n)) := by
  unfold baseF
  rw [List.take_add_one, h, List.foldl_append]
  rfl
end Mth
namespace L2
open PySem PySem.Spec PyProof.Rows
section
variable {X : Cx}
def CDivL (i j : Int) : Prop := j ≠ 0 /\ ∃ m : Nat, j.natAbs <= 2 ^ m /\ m <= 8000
theorem op_fdivL : OpR X (binaryOp .FloorDiv) (rI CDivL fun i j => .int (i.fdiv j)) := opI fun i j _ _ _ _ _ ⟨h0, m, h1, h2⟩ q => by
  refine floordiv_int h0 q (.inl (PyProof.noPylong_of_log2 ?_))
  have h3 : j.natAbs ≠ 0 := by omega
  have h4 : j.natAbs < 2 ^ (m + 1) := by rw [Nat.pow_succ]; have := Nat.two_pow_pos m; omega
  have h5 : j.natAbs.log2 < m + 1 := (Nat.log2_lt h3).mpr h4
  omega
end
end L2
namespace W2
open PySem L2 Mth
theorem comp_enum_if {K : PySem.W.Frag} {a D : Addr} {js : List (Option Nat)} {tc : TT} {te : TE} {σ : St} {H1 : Hp} {Q : VK} {xs : List V} {σ0 : St} {t : Nat -> Bool} {f : Nat -> V} (hn : xs.length <= sizeLine) (hp : ∃ u v, pick js σ = u :: v :: σ0) (hD : H1 D = none)
    (ha : H1 a = some (.lst xs))
    (ht : ∀ (i : Nat) (x : V) (H' : Hp) (R : Bool -> Hp -> Prop), Same H1 H' -> xs[i]? = some x -> R (t i) H' -> tc (some (.int (i : Int)) :: some x :: σ0) H' R)
    (hs : ∀ (i : Nat) (x : V) (H' : Hp) (R : VK), Same H1 H' -> xs[i]? = some x -> t i = true -> R (f i) H' -> te (some (.int (i : Int)) :: some x :: σ0) H' R)
    (q : ∀ H', Same H1 H' -> H' D = some (.lst (((List.range xs.length).filter t).map f)) -> Q (.ref D) H') : CompW (Ite a) D js (gTup K 2 (gCons (gName 0) (gCons (gName 1) gNil))) tc te σ H1 Q := by
  obtain ⟨u0, v0, hp⟩ := hp
  refine comp_genW (n := xs.length) hn (fun i σ' H' zs => (∃ u v : Option V, σ' = u :: v :: σ0) /\ Same H1 H' /\ H' D = some (.lst zs) /\ zs.length <= i /\ zs = ((List.range i).filter t).map f) ⟨⟨u0, v0, hp⟩, Same.new hD, upd_same, Nat.le_refl _, rfl⟩ (fun i σ' H' zs _ ⟨_, _, h3, h4, _⟩ => ⟨h3, h4⟩) (fun i σ' H' zs hi ⟨_, s', _⟩ => ⟨_, xs[i], s' _ _ ha, List.getElem?_eq_getElem hi⟩) (fun σ' H' zs ⟨_, s', h3, _, e⟩ => ⟨⟨_, s' _ _ ha, Nat.le_refl _⟩, ?_⟩) ?_
  · refine q H' s' ?_
    rw [h3, e]
  · rintro i σ' H' zs v H2 hi ⟨⟨u, v, rfl⟩, s', h3, h4, e⟩ ⟨p, hp', rfl, x, rfl, hx⟩
    have hx' := hx _ (s' _ _ ha)
    refine ⟨p, _, rfl, SqT.of upd_same, rfl, _, _, rfl, _, _, rfl, rfl, ?_⟩
    have hD2 : (upd H' p (.tup [.int (i : Int), x])) D = some (.lst zs) := by rw [upd_ne (ne_of_none h3 hp')]; exact h3
    have s2 : Same H1 (upd H' p (.tup [.int (i : Int), x])) := Same.more s' hp'
    have hsn : (List.range (i + 1)).filter t = (List.range i).filter t ++ (if t i = true then [i] else []) := by
      rw [List.range_succ, List.filter_append]
      congr 1
      by_cases z : t i = true
      · simp [z]
      · simp [z]
    refine ht i x _ _ s2 hx' ?_
    cases hb' : t i with
    | true =>
      refine hs i x _ _ s2 hx' hb' ⟨hD2, ⟨_, _, rfl⟩, ?_, upd_same, ?_, ?_⟩
      · intro c o e'
        rw [upd_ne (ne_of_none e' hD)]
        exact s2 c o e'
      · rw [List.length_append]; show zs.length + 1 <= i + 1; omega
      · rw [hsn, e]
        simp [hb']
    | false =>
      refine ⟨hD2, ⟨_, _, rfl⟩, s2, hD2, by omega, ?_⟩
      rw [hsn, e]
      simp [hb']
theorem comp_zipL_if {K : PySem.W.Frag} {a b D : Addr} {js : List (Option Nat)} {tc : TT} {te : TE} {σ : St} {H1 : Hp} {Q : VK} {xs ys : List V} {σ0 : St} (hxy : xs.length = ys.length) (hn : xs.length <= sizeLine) (hp : ∃ u v, pick js σ = u :: v :: σ0) (hD : H1 D = none)
    (ha : H1 a = some (.lst xs)) (hb : H1 b = some (.lst ys)) (t : Nat -> Bool) (Rv : Nat -> Hp -> List V -> Prop) (h0 : Rv 0 (upd H1 D (.lst [])) [])
    (hk : ∀ i H' H2 zs, Rv i H' zs -> (∀ c o, c ≠ D -> H' c = some o -> H2 c = some o) -> Rv i H2 zs)
    (ht : ∀ (i : Nat) (x y : V) (H' : Hp) (R : Bool -> Hp -> Prop), Same H1 H' -> xs[i]? = some x -> ys[i]? = some y -> R (t i) H' -> tc (some x :: some y :: σ0) H' R)
    (hf : ∀ (i : Nat) (x y : V) (H' : Hp) (zs : List V), Same H1 H' -> xs[i]? = some x -> ys[i]? = some y -> t i = false -> Rv i H' zs -> Rv (i + 1) H' zs)
    (hs : ∀ (i : Nat) (x y : V) (H' : Hp) (zs : List V) (R : VK), Same H1 H' -> xs[i]? = some x -> ys[i]? = some y -> t i = true -> H' D = some (.lst zs) -> Rv i H' zs -> (∀ z H4, Same H' H4 -> Rv (i + 1) H4 (zs ++ [z]) -> R z H4) -> te (some x :: some y :: σ0) H' R)
    (q : ∀ H' zs, Same H1 H' -> H' D = some (.lst zs) -> Rv xs.length H' zs -> Q (.ref D) H') : CompW (Itzl a b) D js (gTup K 2 (gCons (gName 0) (gCons (gName 1) gNil))) tc te σ H1 Q := by
  obtain ⟨u0, v0, hp⟩ := hp
  refine comp_genW (n := xs.length) hn (fun i σ' H' zs => (∃ u v : Option V, σ' = u :: v :: σ0) /\ Same H1 H' /\ H' D = some (.lst zs) /\ zs.length <= i /\ Rv i H' zs) ⟨⟨u0, v0, hp⟩, Same.new hD, upd_same, Nat.le_refl _, h0⟩ (fun i σ' H' zs _ ⟨_, _, h3, h4, _⟩ => ⟨h3, h4⟩) (fun i σ' H' zs hi ⟨_, s', _⟩ => ⟨_, _, xs[i], ys[i]'(by omega), s' _ _ ha, s' _ _ hb, List.getElem?_eq_getElem hi, List.getElem?_eq_getElem (by omega)⟩) (fun σ' H' zs ⟨_, s', h3, _, e⟩ => ⟨⟨_, _, s' _ _ ha, s' _ _ hb, .inl (Nat.le_refl _)⟩, q H' zs s' h3 e⟩) ?_
  rintro i σ' H' zs v H2 hi ⟨⟨u, v, rfl⟩, s', h3, h4, e⟩ ⟨p, hp', rfl, x, y, rfl, hx⟩
  obtain ⟨hx1, hx2⟩ := hx _ _ (s' _ _ ha) (s' _ _ hb)
  refine ⟨p, _, rfl, SqT.of upd_same, rfl, _, _, rfl, _, _, rfl, rfl, ?_⟩
  have hD2 : (upd H' p (.tup [x, y])) D = some (.lst zs) := by rw [upd_ne (ne_of_none h3 hp')]; exact h3
  have s2 : Same H1 (upd H' p (.tup [x, y])) := Same.more s' hp'
  have e2 : Rv i (upd H' p (.tup [x, y])) zs := hk i _ _ zs e fun c o _ h => Same.new hp' _ _ h
  refine ht i x y _ _ s2 hx1 hx2 ?_
  cases hb' : t i with
  | true =>
    refine hs i x y _ zs _ s2 hx1 hx2 hb' hD2 e2 fun z H4 s4 e4 => ⟨s4 _ _ hD2, ⟨_, _, rfl⟩, ?_, upd_same, ?_, ?_⟩
    · intro c o e'
      rw [upd_ne (ne_of_none e' hD)]
      exact s4 _ _ (s2 c o e')
    · rw [List.length_append]; show zs.length + 1 <= i + 1; omega
    · exact hk _ _ _ _ e4 fun c o n h => by rw [upd_ne n]; exact h
  | false => exact ⟨hD2, ⟨_, _, rfl⟩, s2, hD2, by omega, hf i x y _ zs s2 hx1 hx2 hb' e2⟩
end W2
namespace L2
open PySem PySem.Spec PyProof.Rows
section
variable {X : Cx}
theorem op_neLI (hu : X.A.units + 1 < cLine) : OpR X (compareOp .NotEq) (fun x y H Q => ∃ (a b : Addr) (ns : List Int), x = .ref a /\ y = .ref b /\ H a = some (.lst (ns.map V.int)) /\ H b = some (.lst (ns.map V.int)) /\ Q (.bl false) H) := by
  intro pins s σ H x y v u Q I rx ry h
  obtain ⟨a, b, ns, rfl, rfl, ha, hb, q⟩ := h
  cases rx
  cases ry
  obtain ⟨_, its, n1, rv, e1, pa⟩ := I.lstM ha
  obtain ⟨_, jts, n2, rw', e2, pb⟩ := I.lstM hb
  have la : s.heap.IsList a its.toArray := ⟨_, pa, rfl, n1, rfl⟩
  have lb : s.heap.IsList b jts.toArray := ⟨_, pb, rfl, n2, rfl⟩
  have l1 := rv.length
  have l2 := rw'.length
  have hsz : its.toArray.size = jts.toArray.size := by rw [List.size_toArray, List.size_toArray, ← l1, ← l2]
  have := SeqAt.RcNeAt.lists (A := X.A) (s := s) (e := fun _ => true) la lb hsz (Nat.lt_of_succ_lt hu) fun j h1 h2 => ?_
  · rw [show (!((List.range its.toArray.size).all fun _ => true)) = false by
      rw [Bool.not_eq_false']
      rw [List.all_eq_true]
      intro _ _
      rfl] at this
    exact this X.prog X.w _ _ ⟨.bl false, H, I, rfl, q⟩
  · have hj : j < (ns.map V.int).length := by rw [l1]; simpa using h1
    have hj' : j < ns.length := by rw [List.length_map] at hj; exact hj
    obtain ⟨u1, g1, r1⟩ := rv.get (List.getElem?_eq_getElem hj)
    obtain ⟨u2, g2, r2⟩ := rw'.get (List.getElem?_eq_getElem hj)
    rw [List.getElem_map] at r1 r2
    obtain ⟨t1, rfl⟩ := r1
    obtain ⟨t2, rfl⟩ := r2
    have k1 : its.toArray[j] = Value.int ns[j] t1 := by
      rw [List.getElem?_eq_getElem (by rw [← l1]; exact hj)] at g1
      simpa using Option.some.inj g1
    have k2 : jts.toArray[j] = Value.int ns[j] t2 := by
      rw [List.getElem?_eq_getElem (by rw [← l2]; exact hj)] at g2
      simpa using Option.some.inj g2
    rw [k1, k2]
    have := SeqAt.EqAt.int_int (A := X.A.in1) (s := s) ns[j] t1 ns[j] t2
    rw [beq_self_eq_true] at this
    exact this
end
end L2
namespace Mth
theorem filter_lt {rows : List (List Int)} {o : List Int} (h : o ∈ rows) : (rows.filter fun r => decide (r ≠ o)).length + 1 <= rows.length := by
  have h1 : (rows.filter fun r => decide (r ≠ o)).length < rows.length := by
    rw [List.length_filter_lt_length_iff_exists]
    exact ⟨o, h, by simp⟩
  omega
theorem BaseR.empty (b : Nat) (cs : List (List Int)) : BaseR b cs [] := ⟨fun r h => (by cases h), fun r h => (by cases h), fun r h => (by cases h), .nil, fun r h => (by cases h)⟩
theorem bB_9 : ∀ n, n <= 9 -> bB n <= 5621 := by decide
theorem bB_8 : ∀ n, n <= 8 -> bB n <= 2805 := by decide
theorem keptG {j : Nat} {cs rows : List (List Int)} {c : List Int} (hj : j <= 9) (hl : rows.length + j <= 10) (h : BaseR (bB j) cs rows) (hc : BdI 6 c) : ∃ j', j' <= 9 /\ (keptF c rows).length + j' <= 10 /\ BaseR (bB j') (cs ++ [c]) (keptF c rows) := by
  have hk := keptF_ok h hc
  unfold keptF at hk ⊢
  cases hL : (unkP c rows).getLast? with
  | none =>
    refine ⟨j, hj, hl, h.stay (unk_none hL)⟩
  | some L =>
    rw [hL] at hk
    obtain ⟨h1, h2, h3⟩ := unk_last hL
    have hm : rows.getD L [] ∈ rows := by
      rw [List.getD_eq_getElem?_getD, List.getElem?_eq_getElem h1]
      exact List.getElem_mem h1
    have hlt := filter_lt hm
    by_cases z : j = 9
    · have he : (rows.filter fun r => decide (r ≠ rows.getD L [])) = [] := List.length_eq_zero_iff.mp (by omega)
      show ∃ j', j' <= 9 /\ ((rows.filter fun r => decide (r ≠ rows.getD L [])).map (evI c (rows.getD L []))).length + j' <= 10 /\ BaseR (bB j') (cs ++ [c]) ((rows.filter fun r => decide (r ≠ rows.getD L [])).map (evI c (rows.getD L [])))
      rw [he]
      exact ⟨9, by omega, (by show 0 + 9 <= 10; decide), BaseR.empty _ _⟩
    · refine ⟨j + 1, by omega, ?_, hk⟩
      rw [List.length_map]
      omega
theorem baseG {cs : List (List Int)} (hc : ∀ c ∈ cs, BdI 6 c) : ∀ n, n <= cs.length -> ∃ j, j <= 9 /\ (baseF (cs.take n)).length + j <= 10 /\ BaseR (bB j) (cs.take n) (baseF (cs.take n))
  | 0, _ => ⟨0, by omega, by
      show ((List.range 10).map unitI).length + 0 <= 10
      rw [List.length_map, List.length_range]
      exact Nat.le_refl _, BaseR.start⟩
  | n + 1, hn => by
    obtain ⟨j, h1, h2, h3⟩ := baseG hc n (by omega)
    obtain ⟨c, hcn⟩ : ∃ c, cs[n]? = some c := ⟨_, List.getElem?_eq_getElem (by omega)⟩
    rw [baseF_step hcn, List.take_add_one, hcn]
    exact keptG h1 h2 h3 (hc c (List.mem_of_getElem? hcn))
end Mth
namespace L2
open PySem PySem.Spec PyProof.Rows
section
variable {X : Cx}
def CMulX (i j : Int) : Prop := ∃ m n : Nat, i.natAbs <= 2 ^ m /\ j.natAbs <= 2 ^ n /\ m <= 20000 /\ n <= 20000
theorem bits_leX {i : Int} {m : Nat} (h : i.natAbs <= 2 ^ m) (hm : m <= 20000) : Builtin.Int.intBits i <= 2 ^ 20 := by
  unfold Builtin.Int.intBits
  split
  · exact Nat.zero_le _
  · next hz =>
    have h0 : i.natAbs ≠ 0 := fun z => hz (by simpa using z)
    have h1 : i.natAbs < 2 ^ (m + 1) := by rw [Nat.pow_succ]; have := Nat.two_pow_pos m; omega
    have h2 : i.natAbs.log2 < m + 1 := (Nat.log2_lt h0).mpr h1
    have h3 : (2 : Nat) ^ 20 = 1048576 := by decide
    omega
theorem op_mulX : OpR X (binaryOp .Mult) (rI CMulX fun i j => .int (i * j)) := opI fun _ _ _ _ _ _ _ ⟨m, n, h1, h2, h3, h4⟩ q => mul_int q (IntMulOk.of_bits (bits_leX h1 h3) (bits_leX h2 h4))
end
end L2
namespace PySem
end PySem
namespace PySem
end PySem
namespace L2
open PySem PySem.Spec PyProof.Rows W2
end L2
namespace Mth
end Mth
namespace Srt
open PySem PySem.W PyProof.Rows L2
end Srt
namespace W2
open PySem PySem.W L2 Srt
end W2
namespace W2
end W2
namespace L2
open PySem PySem.Spec PyProof.Rows
end L2
namespace Mth
theorem LdA.uniq {r : List Int} {l l' : Nat} (h : LdA r l) (h' : LdA r l') : l = l' := by
  rcases Nat.lt_trichotomy l l' with y | y | y
  · exact absurd (h'.2 l y) h.1
  · exact y
  · exact absurd (h.2 l' y) h'.1
theorem filter_lead : ∀ {ns : List Int} {l : Nat}, LdA ns l -> ∃ rest, ns.filter (fun n => decide (n ≠ 0)) = ns.getD l 0 :: rest
  | [], l, h => absurd rfl h.1
  | a :: ns, 0, h => by
    have h1 : a ≠ 0 := h.1
    refine ⟨ns.filter fun n => decide (n ≠ 0), ?_⟩
    rw [List.filter_cons, decide_eq_true h1]
    rfl
  | a :: ns, l + 1, h => by
    have h0 : a = 0 := h.2 0 (by omega)
    have h2 : LdA ns l := ⟨h.1, fun x hx => h.2 (x + 1) (by omega)⟩
    obtain ⟨rest, hr⟩ := filter_lead h2
    refine ⟨rest, ?_⟩
    rw [List.filter_cons, h0, decide_eq_false (fun z => z rfl)]
    exact hr
theorem sgn_lead {ns : List Int} {l : Nat} (h : LdA ns l) : sgnL ns = if ns.getD l 0 < 0 then -1 else 1 := by
  obtain ⟨rest, hr⟩ := filter_lead h
  unfold sgnL
  rw [hr]
theorem getD_mem {ns : List Int} {l : Nat} (h : ns.getD l 0 ≠ 0) : ns.getD l 0 ∈ ns := by
  rw [List.getD_eq_getElem?_getD] at h ⊢
  cases hx : ns[l]? with
  | none => rw [hx] at h; exact absurd rfl h
  | some a => exact List.mem_of_getElem? hx
theorem low_pos {ns : List Int} {l : Nat} (h : LdA ns l) : 0 < (lowI ns).getD l 0 := by
  have hm := getD_mem h.1
  have hg := gcdL_pos hm h.1
  obtain ⟨q, hq⟩ := gcdL_dvd hm
  rw [low_get, sgn_lead h]
  have h1 := h.1
  by_cases z : ns.getD l 0 < 0
  · rw [if_pos z, hq, Int.neg_mul, Int.one_mul, Int.ediv_neg, Int.mul_ediv_cancel_left _ (by omega)]
    rw [hq] at z
    have : q < 0 := by
      rcases Int.lt_trichotomy q 0 with y | y | y
      · exact y
      · rw [y, Int.mul_zero] at z; omega
      · have := Int.mul_pos (show (0 : Int) < (gcdL ns : Int) by omega) y
        omega
    omega
  · rw [if_neg z, Int.one_mul, hq, Int.mul_ediv_cancel_left _ (by omega)]
    rw [hq] at z h1
    rcases Int.lt_trichotomy q 0 with y | y | y
    · have := Int.mul_neg_of_pos_of_neg (show (0 : Int) < (gcdL ns : Int) by omega) y
      omega
    · rw [y, Int.mul_zero] at h1; exact absurd rfl h1
    · exact y
theorem gcdF_scale (d : Int) : ∀ (ns : List Int) (g : Nat), (ns.map fun x => d * x).foldl (fun g n => Nat.gcd g n.natAbs) (d.natAbs * g) = d.natAbs * ns.foldl (fun g n => Nat.gcd g n.natAbs) g
  | [], g => rfl
  | a :: ns, g => by
    show (ns.map fun x => d * x).foldl _ (Nat.gcd (d.natAbs * g) (d * a).natAbs) = d.natAbs * ns.foldl _ (Nat.gcd g a.natAbs)
    rw [Int.natAbs_mul, Nat.gcd_mul_left]
    exact gcdF_scale d ns _
theorem low_gcd {ns : List Int} (h : ∃ n ∈ ns, n ≠ 0) : gcdL (lowI ns) = 1 := by
  have hb := low_back h
  obtain ⟨n, hn, h0⟩ := h
  have hp := gcdL_pos hn h0
  have hs := gcdF_scale (sgnL ns * (gcdL ns : Int)) (lowI ns) 0
  rw [← hb, Nat.mul_zero] at hs
  have e : (sgnL ns * (gcdL ns : Int)).natAbs = gcdL ns := by
    rw [Int.natAbs_mul, Int.natAbs_natCast]
    rcases sgnL_is ns with z | z <;> rw [z] <;> simp
  rw [e] at hs
  have h1 : gcdL ns * 1 = gcdL ns * gcdL (lowI ns) := by rw [Nat.mul_one]; exact hs
  exact (Nat.eq_of_mul_eq_mul_left hp h1).symm
structure BaseX (cs rows : List (List Int)) : Prop where
  z0 : ∀ r ∈ rows, ∀ s ∈ rows, r ≠ s -> ∀ l, LdA s l -> r.getD l 0 = 0
  pos : ∀ r ∈ rows, ∀ l, LdA r l -> 0 < r.getD l 0
  one : ∀ r ∈ rows, gcdL r = 1
  all : ∀ x : List Int, x.length = 10 -> (∀ c ∈ cs, dotI x c = 0) -> (∀ r ∈ rows, ∀ l, LdA r l -> x.getD l 0 = 0) -> ∀ k, x.getD k 0 = 0
theorem dotI_zero : ∀ (x c : List Int), (∀ k, x.getD k 0 = 0) -> dotI x c = 0
  | [], c, _ => rfl
  | a :: x, [], _ => rfl
  | a :: x, b :: c, h => by
    have h0 : a = 0 := h 0
    rw [dotI_cons, h0, Int.zero_mul, Int.zero_add]
    exact dotI_zero x c fun k => h (k + 1)
theorem BaseX.stay {cs rows : List (List Int)} {c : List Int} (h : BaseX cs rows) : BaseX (cs ++ [c]) rows := ⟨h.z0, h.pos, h.one, fun x hx hc hl => h.all x hx (fun c' hc' => hc c' (List.mem_append_left _ hc')) hl⟩
theorem BaseX.step {b : Nat} {cs rows : List (List Int)} {c o : List Int} (hB : BaseR b cs rows) (h : BaseX cs rows) (ho : o ∈ rows) (hoc : dotI o c ≠ 0) (ha : ∀ r ∈ rows, r ≠ o -> AheadR c o r) : BaseX (cs ++ [c]) ((rows.filter fun r => decide (r ≠ o)).map (evI c o)) := by
  have lo := hB.l10 o ho
  have inf : ∀ r ∈ rows.filter (fun r => decide (r ≠ o)), r ∈ rows /\ r ≠ o := fun r hr => by
    obtain ⟨h1, h2⟩ := List.mem_filter.mp hr
    exact ⟨h1, of_decide_eq_true h2⟩
  have lead : ∀ r ∈ rows, r ≠ o -> ∀ l, LdA r l -> LdA (lay2 (dotI o c) (dotI r c) r o) l := fun r hr hn l hl => lead_ev (by rw [hB.l10 r hr, lo]) hoc (ha r hr hn) hl
  have back : ∀ r ∈ rows, r ≠ o -> ∀ l, LdA (evI c o r) l -> LdA r l := fun r hr hn l hl => by
    obtain ⟨l0, hl0⟩ := hB.nz r hr
    have := (lead r hr hn l0 hl0).low
    rw [hl.uniq this]
    exact hl0
  refine ⟨?_, ?_, ?_, ?_⟩
  · intro r' hr' s' hs' hne l hl
    obtain ⟨r, hr, rfl⟩ := List.mem_map.mp hr'
    obtain ⟨s, hs, rfl⟩ := List.mem_map.mp hs'
    obtain ⟨r1, r2⟩ := inf r hr
    obtain ⟨s1, s2⟩ := inf s hs
    have hsl := back s s1 s2 l hl
    have hrs : r ≠ s := fun z => hne (by rw [z])
    obtain ⟨l0, hl0⟩ := hB.nz r r1
    show (lowI (lay2 (dotI o c) (dotI r c) r o)).getD l 0 = 0
    rw [low_zero (lead r r1 r2 l0 hl0).mem, lay2_get (by rw [hB.l10 r r1, lo]), h.z0 r r1 s s1 hrs l hsl, h.z0 o ho s s1 (fun z => s2 z.symm) l hsl, Int.mul_zero, Int.mul_zero]
    rfl
  · intro r' hr' l hl
    obtain ⟨r, hr, rfl⟩ := List.mem_map.mp hr'
    obtain ⟨r1, r2⟩ := inf r hr
    exact low_pos (lead r r1 r2 l (back r r1 r2 l hl))
  · intro r' hr'
    obtain ⟨r, hr, rfl⟩ := List.mem_map.mp hr'
    obtain ⟨r1, r2⟩ := inf r hr
    obtain ⟨l0, hl0⟩ := hB.nz r r1
    exact low_gcd (lead r r1 r2 l0 hl0).mem
  · intro x hx hc hl
    obtain ⟨lo', hlo⟩ := hB.nz o ho
    have hz : ∀ k, (lay2 (o.getD lo' 0) (x.getD lo' 0) x o).getD k 0 = 0 := by
      refine h.all _ ?_ (fun c' hc' => ?_) (fun r hr l hrl => ?_)
      · unfold lay2
        rw [List.length_zipWith, hx, lo]
        rfl
      · rw [dotI_lay2 _ _ _ _ _ (by rw [hx, lo]), hc c' (List.mem_append_left _ hc'), hB.kept o ho c' hc', Int.mul_zero, Int.mul_zero]
        rfl
      · rw [lay2_get (by rw [hx, lo])]
        by_cases z : r = o
        · subst z
          rw [hrl.uniq hlo]
          rw [Int.mul_comm, Int.sub_self]
        · have hl' : LdA (evI c o r) l := (lead r hr z l hrl).low
          rw [hl _ (List.mem_map.mpr ⟨r, List.mem_filter.mpr ⟨hr, decide_eq_true z⟩, rfl⟩) l hl', h.z0 o ho r hr (fun y => z y.symm) l hrl, Int.mul_zero, Int.mul_zero]
          rfl
    have hd := dotI_zero _ c hz
    rw [dotI_lay2 _ _ _ _ _ (by rw [hx, lo]), hc c (List.mem_append_right _ List.mem_cons_self), Int.mul_zero, Int.zero_sub] at hd
    have hx0 : x.getD lo' 0 = 0 := by
      rcases Int.mul_eq_zero.mp (show x.getD lo' 0 * dotI o c = 0 by omega) with y | y
      · exact y
      · exact absurd y hoc
    intro k
    have := hz k
    rw [lay2_get (by rw [hx, lo]), hx0, Int.zero_mul, Int.sub_zero] at this
    rcases Int.mul_eq_zero.mp this with y | y
    · exact absurd y hlo.1
    · exact y
theorem BaseX.start : BaseX [] units := by
  have hu : ∀ k, k < 10 -> LdA (unitI k) k := by
    have : ∀ k, k < 10 -> (unitI k).getD k 0 ≠ 0 /\ ∀ x, x < k -> (unitI k).getD x 0 = 0 := by decide
    exact this
  have hm : ∀ r ∈ units, ∃ k, k < 10 /\ r = unitI k := fun r hr => by
    obtain ⟨k, hk, rfl⟩ := List.mem_map.mp hr
    exact ⟨k, List.mem_range.mp hk, rfl⟩
  refine ⟨?_, ?_, ?_, ?_⟩
  · intro r hr s hs hne l hl
    obtain ⟨k, hk, rfl⟩ := hm r hr
    obtain ⟨j, hj, rfl⟩ := hm s hs
    rw [hl.uniq (hu j hj)]
    have h1 : ∀ k, k < 10 -> ∀ j, j < 10 -> k ≠ j -> (unitI k).getD j 0 = 0 := by decide
    exact h1 k hk j hj fun z => hne (by rw [z])
  · intro r hr l hl
    obtain ⟨k, hk, rfl⟩ := hm r hr
    rw [hl.uniq (hu k hk)]
    have h1 : ∀ k, k < 10 -> 0 < (unitI k).getD k 0 := by decide
    exact h1 k hk
  · intro r hr
    obtain ⟨k, hk, rfl⟩ := hm r hr
    have h1 : ∀ k, k < 10 -> gcdL (unitI k) = 1 := by decide
    exact h1 k hk
  · intro x hx _ hl k
    by_cases hk : k < 10
    · exact hl (unitI k) (List.mem_map.mpr ⟨k, List.mem_range.mpr hk, rfl⟩) k (hu k hk)
    · rw [List.getD_eq_getElem?_getD, List.getElem?_eq_none (by omega)]
      rfl
theorem keptX {b : Nat} {cs rows : List (List Int)} {c : List Int} (hB : BaseR b cs rows) (h : BaseX cs rows) : BaseX (cs ++ [c]) (keptF c rows) := by
  unfold keptF
  cases hL : (unkP c rows).getLast? with
  | none => exact h.stay
  | some L =>
    obtain ⟨h1, h2, h3⟩ := unk_last hL
    have hg : rows.getD L [] = rows[L] := by rw [List.getD_eq_getElem?_getD, List.getElem?_eq_getElem h1]; rfl
    exact BaseX.step hB h (by rw [hg]; exact List.getElem_mem h1) h2 (kept_ahead hB hL)
theorem baseX {cs : List (List Int)} (hc : ∀ c ∈ cs, BdI 6 c) : ∀ n, n <= cs.length -> BaseX (cs.take n) (baseF (cs.take n))
  | 0, _ => BaseX.start
  | n + 1, hn => by
    obtain ⟨j, _, _, hB⟩ := baseG hc n (by omega)
    have ih := baseX hc n (by omega)
    obtain ⟨c, hcn⟩ : ∃ c, cs[n]? = some c := ⟨_, List.getElem?_eq_getElem (by omega)⟩
    rw [baseF_step hcn, List.take_add_one, hcn]
    exact keptX hB ih
end Mth
namespace Mth
theorem dotI_comm : ∀ (a b : List Int), dotI a b = dotI b a
  | [], [] => rfl
  | [], b :: bs => rfl
  | a :: as, [] => rfl
  | a :: as, b :: bs => by rw [dotI_cons, dotI_cons, dotI_comm as bs, Int.mul_comm]
theorem dotI_rep : ∀ (n : Nat) (e : List Int), dotI e (List.replicate n 0) = 0
  | 0, e => by cases e <;> rfl
  | n + 1, [] => rfl
  | n + 1, a :: e => by rw [List.replicate_succ, dotI_cons, dotI_rep n e, Int.mul_zero]; rfl
theorem solve : ∀ (n : Nat) (E : List (List Int)), (∀ e ∈ E, e.length = n) -> E.length < n -> ∃ x : List Int, x.length = n /\ (∃ v ∈ x, v ≠ 0) /\ ∀ e ∈ E, dotI e x = 0
  | 0, E, _, h => absurd h (Nat.not_lt_zero _)
  | n + 1, E, hE, h => by
    rcases Classical.em (∃ e0 ∈ E, e0.getD 0 0 ≠ 0) with ⟨e0, h0, hc⟩ | hno
    · obtain ⟨E1, E2, rfl⟩ := List.append_of_mem h0
      have l0 := hE e0 h0
      match e0, l0, hc, h0 with
      | c :: t0, l0, hc, h0 =>
      have hc' : c ≠ 0 := hc
      have lt0 : t0.length = n := by simpa using l0
      have tl : ∀ e ∈ E1 ++ E2, e ∈ E1 ++ (c :: t0) :: E2 := fun e he => by
        rcases List.mem_append.mp he with z | z
        · exact List.mem_append_left _ z
        · exact List.mem_append_right _ (List.mem_cons_of_mem _ z)
      obtain ⟨y, y1, ⟨v, hv, hv0⟩, y3⟩ := solve n ((E1 ++ E2).map fun e => lay2 c (e.getD 0 0) e.tail t0) (fun e' he' => by
        obtain ⟨e, he, rfl⟩ := List.mem_map.mp he'
        have := hE e (tl e he)
        unfold lay2
        rw [List.length_zipWith, List.length_tail, lt0]
        omega) (by
        rw [List.length_map, List.length_append]
        rw [List.length_append, List.length_cons] at h
        omega)
      refine ⟨-(dotI t0 y) :: y.map fun v => c * v, by rw [List.length_cons, List.length_map, y1], ⟨c * v, List.mem_cons_of_mem _ (List.mem_map.mpr ⟨v, hv, rfl⟩), Int.mul_ne_zero hc' hv0⟩, fun e he => ?_⟩
      have sc : ∀ t : List Int, dotI t (y.map fun v => c * v) = c * dotI t y := fun t => by rw [dotI_comm, dotI_scale, dotI_comm]
      by_cases z : e ∈ E1 ++ E2
      · have hl := hE e he
        match e, hl, z with
        | b :: t, hl, z =>
        have lt : t.length = n := by simpa using hl
        have := y3 _ (List.mem_map.mpr ⟨b :: t, z, rfl⟩)
        have h2 : dotI (lay2 c b t t0) y = 0 := this
        rw [dotI_lay2 _ _ _ _ _ (by rw [lt, lt0])] at h2
        rw [dotI_cons, sc, Int.mul_neg]
        omega
      · have e1 : e = c :: t0 := by
          rcases List.mem_append.mp he with w | w
          · exact absurd (List.mem_append_left _ w) z
          · rcases List.mem_cons.mp w with w | w
            · exact w
            · exact absurd (List.mem_append_right _ w) z
        rw [e1, dotI_cons, sc, Int.mul_neg]
        omega
    · refine ⟨1 :: List.replicate n 0, by rw [List.length_cons, List.length_replicate], ⟨1, List.mem_cons_self, by decide⟩, fun e he => ?_⟩
      have hl := hE e he
      match e, hl, he with
      | b :: t, hl, he =>
      have hb : b = 0 := by
        rcases Classical.em (b = 0) with z | z
        · exact z
        · exact absurd ⟨b :: t, he, z⟩ hno
      rw [dotI_cons, dotI_rep, hb, Int.zero_mul]
      rfl
theorem dot_self : ∀ (x : List Int), dotI x x = 0 -> ∀ v ∈ x, v = 0
  | [], _, v, hv => by cases hv
  | a :: x, h, v, hv => by
    rw [dotI_cons] at h
    have sq : ∀ y : List Int, 0 <= dotI y y := fun y => by
      induction y with
      | nil => exact Int.le_refl 0
      | cons b y ih =>
        rw [dotI_cons]
        have : 0 <= b * b := by
          rcases Int.le_total 0 b with z | z
          · exact Int.mul_nonneg z z
          · have := Int.mul_nonneg (show 0 <= -b by omega) (show 0 <= -b by omega)
            rw [Int.neg_mul_neg] at this
            exact this
        omega
    have h1 := sq x
    have h2 : 0 <= a * a := by have := sq [a]; rw [dotI_cons, dotI_nil] at this; omega
    have ha : a * a = 0 := by omega
    rcases List.mem_cons.mp hv with z | z
    · rw [z]
      rcases Int.mul_eq_zero.mp ha with w | w <;> exact w
    · exact dot_self x (by omega) v z
end Mth
namespace W2
open PySem L2 Mth
theorem range_filter_snoc {t : Nat -> Bool} (i : Nat) : (List.range (i + 1)).filter t = (List.range i).filter t ++ (if t i = true then [i] else []) := by
  rw [List.range_succ, List.filter_append]
  congr 1
  by_cases z : t i = true
  · simp [z]
  · simp [z]
theorem comp_range_ifG {D : Addr} {js : List (Option Nat)} {tc : TT} {te : TE} {σ : St} {H1 : Hp} {Q : VK} {lo : Int} {n : Nat} {σ0 : St} {t : Nat -> Bool} {f : Nat -> V} (hn : n <= sizeLine) (hp : ∃ u, pick js σ = u :: σ0) (hD : H1 D = none)
    (ht : ∀ (i : Nat) (H' : Hp) (R : Bool -> Hp -> Prop), Same H1 H' -> i < n -> (∀ H2, Same H' H2 -> R (t i) H2) -> tc (some (.int (lo + i)) :: σ0) H' R)
    (hs : ∀ (i : Nat) (H' : Hp) (R : VK), Same H1 H' -> i < n -> t i = true -> (∀ H2, Same H' H2 -> R (f i) H2) -> te (some (.int (lo + i)) :: σ0) H' R)
    (q : ∀ H', Same H1 H' -> H' D = some (.lst (((List.range n).filter t).map f)) -> Q (.ref D) H') : CompW (Itr lo n) D js (gName 0) tc te σ H1 Q := by
  obtain ⟨u0, hp⟩ := hp
  refine comp_genW (n := n) hn (fun i σ' H' zs => (∃ u : Option V, σ' = u :: σ0) /\ Same H1 H' /\ H' D = some (.lst zs) /\ zs.length <= i /\ zs = ((List.range i).filter t).map f) ⟨⟨u0, hp⟩, Same.new hD, upd_same, Nat.le_refl _, rfl⟩ (fun i σ' H' zs _ ⟨_, _, h3, h4, _⟩ => ⟨h3, h4⟩) (fun i σ' H' zs hi _ => hi) (fun σ' H' zs ⟨_, s', h3, _, e⟩ => ⟨Nat.le_refl _, ?_⟩) ?_
  · refine q H' s' ?_
    rw [h3, e]
  · rintro i σ' H' zs v H2 hi ⟨⟨u, rfl⟩, s', h3, h4, e⟩ ⟨rfl, rfl⟩
    refine ht i _ _ s' hi fun H3 s3 => ?_
    cases hb' : t i with
    | true =>
      refine hs i _ _ (s'.trans s3) hi hb' fun H4 s4 => ⟨s4 _ _ (s3 _ _ h3), ⟨_, rfl⟩, ?_, upd_same, ?_, ?_⟩
      · intro c o e'
        rw [upd_ne (ne_of_none e' hD)]
        exact s4 _ _ (s3 _ _ (s' c o e'))
      · rw [List.length_append]; show zs.length + 1 <= i + 1; omega
      · rw [range_filter_snoc, e]
        simp [hb']
    | false =>
      refine ⟨s3 _ _ h3, ⟨_, rfl⟩, s'.trans s3, s3 _ _ h3, by omega, ?_⟩
      rw [range_filter_snoc, e]
      simp [hb']
end W2
namespace L2
open PySem PySem.Spec PyProof.Rows
end L2
namespace L2
open PySem
end L2
namespace Mth
open W2
end Mth
namespace L2
open PySem PySem.Spec PyProof.Rows
end L2
namespace W2
open PySem L2 Mth
end W2
namespace Mth
open W2
end Mth
namespace L2
open PySem PySem.Spec PyProof.Rows
end L2
namespace Mth
open W2
end Mth
namespace Srt
open PySem PySem.W PyProof.Rows
end Srt
namespace L2
open PySem PySem.Spec PyProof.Rows
end L2
namespace Xn
open PySem PyProof.Rows
end Xn
namespace L2
open PySem PySem.Spec PyProof.Rows Xn
end L2
namespace Tpi
open PySem PyProof.Rows
end Tpi
namespace L2
open PySem PySem.Spec PyProof.Rows
end L2
namespace L2
open PySem PySem.Spec PyProof.Rows
section
variable {X : Cx}
variable {o e : Expr} {es : List Expr} {to : TE} {t : TA} {name : Str} {apos cpos : Pos} {id : String} {r : V -> List V -> Hp -> VK -> Prop}
theorem op_eqLd (hu : X.A.units + 1 < cLine) : OpR X (compareOp .Eq) (fun x y H Q => ∃ (a b : Addr) (ns ms : List Int), x = .ref a /\ y = .ref b /\ ns.length = ms.length /\ H a = some (.lst (ns.map V.int)) /\ H b = some (.lst (ms.map V.int)) /\ Q (.bl (decide (ns = ms))) H) := by
  intro pins s σ H x y v u Q I rx ry h
  obtain ⟨a, b, ns, ms, rfl, rfl, hl, ha, hb, q⟩ := h
  cases rx
  cases ry
  obtain ⟨_, its, n1, rv, e1, pa⟩ := I.lstM ha
  obtain ⟨_, jts, n2, rw', e2, pb⟩ := I.lstM hb
  have hi := intsAre_of rv
  have hj := intsAre_of rw'
  have l1 := hi.length
  have l2 := hj.length
  have hsz : its.toArray.size = jts.toArray.size := by rw [List.size_toArray, List.size_toArray, l1, l2, hl]
  refine SeqAt.eq_listAt (e := fun j => ns.getD j 0 == ms.getD j 0) (show s.heap.IsList a its.toArray from ⟨_, pa, rfl, n1, rfl⟩) (show s.heap.IsList b jts.toArray from ⟨_, pb, rfl, n2, rfl⟩) hsz (Nat.lt_of_succ_lt hu) (fun j h1 h2 => ?_) ⟨.bl _, H, I, rfl, ?_⟩
  · obtain ⟨t, et⟩ := hi.int_at j its.toArray[j] (by simp)
    obtain ⟨t', et'⟩ := hj.int_at j jts.toArray[j] (by simp)
    rw [et, et']
    exact SeqAt.EqAt.int_int _ _ _ _
  · have := all_range_eq ns ms
    rw [← hl, Nat.min_self, beq_self_eq_true, Bool.and_true] at this
    rw [List.size_toArray, l1, this]
    exact q
end
end L2
namespace Mth
open W2
theorem sorted_uniq : ∀ {A B : List Int}, A.Perm B -> A.Pairwise (· <= ·) -> B.Pairwise (· <= ·) -> A = B
  | [], B, h, _, _ => by rw [List.nil_perm.mp h]
  | a :: A, [], h, _, _ => by cases h.length_eq
  | a :: A, b :: B, h, hA, hB => by
    obtain ⟨a1, a2⟩ := List.pairwise_cons.mp hA
    obtain ⟨b1, b2⟩ := List.pairwise_cons.mp hB
    have h1 : a ∈ b :: B := h.mem_iff.mp List.mem_cons_self
    have h2 : b ∈ a :: A := h.mem_iff.mpr List.mem_cons_self
    have e : a = b := by
      rcases List.mem_cons.mp h1 with z | z
      · exact z
      · rcases List.mem_cons.mp h2 with y | y
        · exact y.symm
        · have := a1 b y
          have := b1 a z
          omega
    subst e
    rw [sorted_uniq (List.Perm.cons_inv h) a2 b2]
end Mth
namespace L2
open PySem PySem.Spec PyProof.Rows
end L2
namespace W2
open PySem L2 Mth
end W2
namespace L2
open PySem PySem.Spec PyProof.Rows W2
end L2
namespace Srt
open PySem PySem.W PyProof.Rows L2
end Srt
namespace W2
open PySem PySem.W L2 Srt
end W2
namespace Mth
open W2
end Mth
namespace L2
open PySem PySem.Spec PyProof.Rows
end L2
namespace W2
open PySem L2 Mth
theorem comp_listG {K : PySem.W.Frag} {a D : Addr} {js : List (Option Nat)} {te : TE} {σ : St} {H1 : Hp} {Q : VK} {xs : List V} {σ0 : St} (hn : xs.length <= sizeLine) (hp : ∃ u, pick js σ = u :: σ0) (hD : H1 D = none)
    (ha : H1 a = some (.lst xs)) (Rv : Nat -> Hp -> List V -> Prop) (h0 : Rv 0 (upd H1 D (.lst [])) [])
    (hk : ∀ i H' H2 zs ys, H' D = some (.lst ys) -> Rv i H' zs -> But D H' H2 -> Rv i H2 zs)
    (hs : ∀ (i : Nat) (x : V) (H' : Hp) (zs : List V) (R : VK), Same H1 H' -> xs[i]? = some x -> H' D = some (.lst zs) -> zs.length = i -> Rv i H' zs -> (∀ z H4, Same H' H4 -> Rv (i + 1) H4 (zs ++ [z]) -> R z H4) -> te (some x :: σ0) H' R)
    (q : ∀ H' zs, Same H1 H' -> H' D = some (.lst zs) -> zs.length = xs.length -> Rv xs.length H' zs -> Q (.ref D) H') : CompW (Itl K a) D js (gName 0) tNoTest te σ H1 Q := by
  obtain ⟨u0, hp⟩ := hp
  refine comp_genW (n := xs.length) hn (fun i σ' H' zs => (∃ u : Option V, σ' = u :: σ0) /\ Same H1 H' /\ H' D = some (.lst zs) /\ zs.length = i /\ Rv i H' zs) ⟨⟨u0, hp⟩, Same.new hD, upd_same, rfl, h0⟩ (fun i σ' H' zs _ ⟨_, _, h3, h4, _⟩ => ⟨h3, Nat.le_of_eq h4⟩) (fun i σ' H' zs hi ⟨_, s', _⟩ => ⟨_, xs[i], SqL.of (s' _ _ ha), List.getElem?_eq_getElem hi⟩) (fun σ' H' zs ⟨_, s', h3, h4, e⟩ => ⟨⟨_, SqL.of (s' _ _ ha), Nat.le_refl _⟩, q H' zs s' h3 h4 e⟩) ?_
  rintro i σ' H' zs x H2 hi ⟨⟨u, rfl⟩, s', h3, h4, e⟩ ⟨rfl, hx⟩
  have hx' := hx _ (SqL.of (s' _ _ ha))
  refine hs i x _ zs _ s' hx' h3 h4 e fun z H4 s4 r4 => ⟨s4 _ _ h3, ⟨_, rfl⟩, ?_, upd_same, by rw [List.length_append, h4]; rfl, hk _ _ _ _ _ (s4 _ _ h3) r4 But.upd⟩
  intro c o e'
  rw [upd_ne (ne_of_none e' hD)]
  exact s4 _ _ (s' c o e')
end W2
namespace Mth
open W2
end Mth
namespace Hnd
open PySem PySem.Spec PyProof.Rows
end Hnd
namespace Mth
open PySem PySem.NumText
end Mth
namespace Rvl
open PySem PyProof.Rows
end Rvl
namespace L2
open PySem PySem.Spec PyProof.Rows W2
end L2
namespace W2
open PySem L2 Mth
end W2
namespace L2
open PySem PySem.Spec PyProof.Rows W2
end L2
namespace Mth
open PySem PySem.NumText
instance (x : List Nat) : Decidable (AllDigits x) := by unfold AllDigits; infer_instance
end Mth
namespace Mth
open PySem PySem.NumText
end Mth
namespace Mth
open PySem PySem.NumText
end Mth
namespace Mth
open W2
end Mth
namespace Mth
open W2
end Mth
namespace Mth
def lin : List Int -> List (List Int) -> List Int
  | a :: y, r :: rows => lay2 a (-1) r (lin y rows)
  | _, _ => List.replicate 10 0
theorem getD_rep (n k : Nat) : (List.replicate n (0 : Int)).getD k 0 = 0 := by
  rw [List.getD_eq_getElem?_getD, List.getElem?_replicate]
  split <;> rfl
theorem getD_far {x : List Int} {k : Nat} (h : x.length <= k) : x.getD k 0 = 0 := by
  rw [List.getD_eq_getElem?_getD, List.getElem?_eq_none h]
  rfl
theorem lay2_len {u t : Int} {r o : List Int} (h : r.length = o.length) : (lay2 u t r o).length = r.length := by
  unfold lay2
  rw [List.length_zipWith]
  omega
theorem lin_len : ∀ (y : List Int) (rows : List (List Int)), (∀ r ∈ rows, r.length = 10) -> (lin y rows).length = 10
  | [], _, _ => List.length_replicate
  | a :: y, [], _ => List.length_replicate
  | a :: y, r :: rows, h => by
    have h1 := h r List.mem_cons_self
    have h2 := lin_len y rows fun s hs => h s (List.mem_cons_of_mem _ hs)
    show (lay2 a (-1) r (lin y rows)).length = 10
    rw [lay2_len (by rw [h1, h2]), h1]
theorem lin_get (k : Nat) : ∀ (y : List Int) (rows : List (List Int)), (∀ r ∈ rows, r.length = 10) -> (lin y rows).getD k 0 = dotI y (rows.map fun r => r.getD k 0)
  | [], rows, _ => getD_rep 10 k
  | a :: y, [], _ => getD_rep 10 k
  | a :: y, r :: rows, h => by
    have h1 := h r List.mem_cons_self
    have h3 : ∀ s ∈ rows, s.length = 10 := fun s hs => h s (List.mem_cons_of_mem _ hs)
    have h2 := lin_len y rows h3
    show (lay2 a (-1) r (lin y rows)).getD k 0 = _
    rw [lay2_get (by rw [h1, h2]), lin_get k y rows h3, List.map_cons, dotI_cons]
    omega
theorem dot_lin (p : List Int) : ∀ (y : List Int) (rows : List (List Int)), (∀ r ∈ rows, r.length = 10) -> dotI (lin y rows) p = dotI y (rows.map fun r => dotI r p)
  | [], rows, _ => by
    rw [dotI_nil]
    exact dotI_zero _ _ fun k => getD_rep 10 k
  | a :: y, [], _ => dotI_zero _ _ fun k => getD_rep 10 k
  | a :: y, r :: rows, h => by
    have h1 := h r List.mem_cons_self
    have h3 : ∀ s ∈ rows, s.length = 10 := fun s hs => h s (List.mem_cons_of_mem _ hs)
    have h2 := lin_len y rows h3
    show dotI (lay2 a (-1) r (lin y rows)) p = _
    rw [dotI_lay2 _ _ _ _ _ (by rw [h1, h2]), dot_lin p y rows h3, List.map_cons, dotI_cons]
    omega
theorem dot_one : ∀ (y l : List Int) (i : Nat), (∀ j, j ≠ i -> l.getD j 0 = 0) -> dotI y l = y.getD i 0 * l.getD i 0
  | [], l, i, _ => by
    rw [dotI_nil, getD_far (Nat.zero_le _), Int.zero_mul]
  | a :: y, [], i, _ => by
    rw [getD_far (x := []) (Nat.zero_le _), Int.mul_zero]
    rfl
  | a :: y, b :: l, 0, h => by
    rw [dotI_cons, dotI_comm, dotI_zero l y fun k => h (k + 1) (by omega), Int.add_zero]
    rfl
  | a :: y, b :: l, i + 1, h => by
    have h0 : b = 0 := h 0 (by omega)
    rw [dotI_cons, h0, Int.mul_zero, Int.zero_add, dot_one y l i fun j hj => h (j + 1) (by omega)]
    rfl
def Piv (rows : List (List Int)) (P : Nat -> Nat) : Prop := ∀ (i : Nat) r, rows[i]? = some r -> r.getD (P i) 0 ≠ 0 /\ ∀ (j : Nat) s, rows[j]? = some s -> j ≠ i -> s.getD (P i) 0 = 0
theorem lin_piv {rows : List (List Int)} {P : Nat -> Nat} (hP : Piv rows P) (h10 : ∀ r ∈ rows, r.length = 10) {y : List Int} (hz : ∀ k, (lin y rows).getD k 0 = 0) : ∀ i, i < rows.length -> y.getD i 0 = 0 := fun i hi => by
  obtain ⟨h1, h2⟩ := hP i _ (List.getElem?_eq_getElem hi)
  have h := hz (P i)
  have g : ∀ j, (rows.map fun r => r.getD (P i) 0).getD j 0 = ((rows[j]?).map fun r => r.getD (P i) 0).getD 0 := fun j => by
    rw [List.getD_eq_getElem?_getD, List.getElem?_map]
  rw [lin_get _ _ _ h10, dot_one y _ i fun j hj => ?_, g i, List.getElem?_eq_getElem hi] at h
  · rcases Int.mul_eq_zero.mp h with z | z
    · exact z
    · exact absurd z h1
  · rw [g j]
    cases hs : rows[j]? with
    | none => rfl
    | some s => exact h2 j s hs hj
theorem unit_dot {l : Nat} {x : List Int} (hx : x.length = 10) (h : dotI (unitI l) x = 0) : x.getD l 0 = 0 := by
  by_cases hl : l < 10
  · have g : ∀ j, (unitI l).getD j 0 = if j < 10 then (if j = l then 1 else 0) else 0 := fun j => by
      unfold unitI
      rw [List.getD_eq_getElem?_getD, List.getElem?_map]
      by_cases hj : j < 10
      · rw [List.getElem?_range hj, if_pos hj]
        rfl
      · rw [List.getElem?_eq_none (by rw [List.length_range]; omega), if_neg hj]
        rfl
    rw [dotI_comm, dot_one x _ l fun j hj => ?_, g l, if_pos hl, if_pos rfl, Int.mul_one] at h
    · exact h
    · rw [g j]
      (repeat' split) <;> omega
  · exact getD_far (by omega)
theorem unit_len (l : Nat) : (unitI l).length = 10 := by
  unfold unitI
  rw [List.length_map, List.length_range]
theorem dotI_app : ∀ (a b c d : List Int), a.length = c.length -> dotI (a ++ b) (c ++ d) = dotI a c + dotI b d
  | [], b, [], d, _ => by rw [dotI_nil, Int.zero_add]; rfl
  | x :: a, b, y :: c, d, h => by
    rw [List.cons_append, List.cons_append, dotI_cons, dotI_cons, dotI_app a b c d (by simpa using h)]
    omega
theorem dot_all_zero {y l : List Int} (h : ∀ v ∈ l, v = 0) : dotI y l = 0 := by
  rw [dotI_comm]
  refine dotI_zero _ _ fun k => ?_
  rw [List.getD_eq_getElem?_getD]
  cases hk : l[k]? with
  | none => rfl
  | some v => exact h v (List.mem_of_getElem? hk)
theorem all_getD {l : List Int} (h : ∀ v ∈ l, v = 0) (k : Nat) : l.getD k 0 = 0 := by
  rw [List.getD_eq_getElem?_getD]
  cases hk : l[k]? with
  | none => rfl
  | some v => exact h v (List.mem_of_getElem? hk)
theorem count10 {F B : List (List Int)} {P L : Nat -> Nat} (hF : ∀ r ∈ F, r.length = 10) (hB : ∀ r ∈ B, r.length = 10) (pF : Piv F P) (pB : Piv B L) (orth : ∀ f ∈ F, ∀ b ∈ B, dotI f b = 0)
    (all : ∀ x : List Int, x.length = 10 -> (∀ f ∈ F, dotI f x = 0) -> (∀ i, i < B.length -> x.getD (L i) 0 = 0) -> ∀ k, x.getD k 0 = 0) : F.length + B.length = 10 := by
  rcases Nat.lt_trichotomy (F.length + B.length) 10 with h | h | h
  · exfalso
    obtain ⟨x, x1, ⟨v, hv, hv0⟩, x3⟩ := solve 10 (F ++ (List.range B.length).map fun i => unitI (L i)) (fun e he => by
      rcases List.mem_append.mp he with z | z
      · exact hF e z
      · obtain ⟨i, _, rfl⟩ := List.mem_map.mp z
        exact unit_len _) (by rw [List.length_append, List.length_map, List.length_range]; exact h)
    have hz := all x x1 (fun f hf => x3 f (List.mem_append_left _ hf)) fun i hi => unit_dot x1 (x3 _ (List.mem_append_right _ (List.mem_map.mpr ⟨i, List.mem_range.mpr hi, rfl⟩)))
    obtain ⟨k, hk⟩ := List.getElem?_of_mem hv
    have := hz k
    rw [List.getD_eq_getElem?_getD, hk] at this
    exact hv0 this
  · exact h
  · exfalso
    obtain ⟨y, y1, ⟨v, hv, hv0⟩, y3⟩ := solve (F.length + B.length) ((List.range 10).map fun k => (F ++ B).map fun r => r.getD k 0) (fun e he => by
      obtain ⟨k, _, rfl⟩ := List.mem_map.mp he
      rw [List.length_map, List.length_append]) (by rw [List.length_map, List.length_range]; exact h)
    have hFB : ∀ r ∈ F ++ B, r.length = 10 := fun r hr => by
      rcases List.mem_append.mp hr with z | z
      · exact hF r z
      · exact hB r z
    have ya : y = y.take F.length ++ y.drop F.length := (List.take_append_drop _ _).symm
    have la : (y.take F.length).length = F.length := by rw [List.length_take]; omega
    generalize ea : y.take F.length = a at ya la
    generalize eb : y.drop F.length = b at ya
    have hsum : ∀ k, (lin a F).getD k 0 + (lin b B).getD k 0 = 0 := fun k => by
      by_cases hk : k < 10
      · have := y3 _ (List.mem_map.mpr ⟨k, List.mem_range.mpr hk, rfl⟩)
        rw [dotI_comm, ya, List.map_append, dotI_app _ _ _ _ (by rw [la, List.length_map])] at this
        rw [lin_get _ _ _ hF, lin_get _ _ _ hB]
        exact this
      · rw [getD_far (by rw [lin_len _ _ hF]; omega), getD_far (by rw [lin_len _ _ hB]; omega)]
        rfl
    have hor : dotI (lin a F) (lin b B) = 0 := by
      rw [dot_lin _ _ _ hF]
      refine dot_all_zero fun v hv => ?_
      obtain ⟨f, hf, rfl⟩ := List.mem_map.mp hv
      rw [dotI_comm, dot_lin _ _ _ hB]
      refine dot_all_zero fun v hv => ?_
      obtain ⟨r, hr, rfl⟩ := List.mem_map.mp hv
      rw [dotI_comm]
      exact orth f hf r hr
    have hneg : lin b B = (lin a F).map fun x => (-1) * x := by
      refine List.ext_getElem? fun k => ?_
      rw [List.getElem?_map]
      by_cases hk : k < 10
      · have := hsum k
        have l1 : k < (lin a F).length := by rw [lin_len _ _ hF]; exact hk
        have l2 : k < (lin b B).length := by rw [lin_len _ _ hB]; exact hk
        rw [List.getD_eq_getElem?_getD, List.getD_eq_getElem?_getD, List.getElem?_eq_getElem l1, List.getElem?_eq_getElem l2] at this
        rw [List.getElem?_eq_getElem l1, List.getElem?_eq_getElem l2]
        have h' : (lin a F)[k] + (lin b B)[k] = 0 := this
        show some (lin b B)[k] = some ((-1) * (lin a F)[k])
        congr 1
        omega
      · rw [List.getElem?_eq_none (by rw [lin_len _ _ hB]; omega), List.getElem?_eq_none (by rw [lin_len _ _ hF]; omega)]
        rfl
    have hself : dotI (lin a F) (lin a F) = 0 := by
      rw [hneg, dotI_comm, dotI_scale] at hor
      omega
    have za := all_getD (dot_self _ hself)
    have zb : ∀ k, (lin b B).getD k 0 = 0 := fun k => by have := hsum k; rw [za k] at this; omega
    have pa := lin_piv pF hF za
    have pb := lin_piv pB hB zb
    obtain ⟨k, hk⟩ := List.getElem?_of_mem hv
    have hkl : k < F.length + B.length := by rw [← y1]; exact (List.getElem?_eq_some_iff.mp hk).1
    rw [ya] at hk
    by_cases hkF : k < F.length
    · rw [List.getElem?_append_left (by rw [la]; exact hkF)] at hk
      have := pa k hkF
      rw [List.getD_eq_getElem?_getD, hk] at this
      exact hv0 this
    · rw [List.getElem?_append_right (by rw [la]; omega), la] at hk
      have := pb (k - F.length) (by omega)
      rw [List.getD_eq_getElem?_getD, hk] at this
      exact hv0 this
end Mth
namespace Mth
theorem zero_or_not (r : List Int) : (∃ n ∈ r, n ≠ 0) ∨ ∀ n ∈ r, n = 0 := by
  rcases Classical.em (∃ n ∈ r, n ≠ 0) with h | h
  · exact .inl h
  · exact .inr fun n hn => Classical.byContradiction fun z => h ⟨n, hn, z⟩
theorem low_none {r : List Int} (h : ∀ n ∈ r, n = 0) : lowI r = r := by
  unfold lowI
  conv => rhs; rw [← List.map_id r]
  refine List.map_congr_left fun n hn => ?_
  rw [h n hn, Int.zero_ediv]
  rfl
theorem low_iff (r x : List Int) : dotI (lowI r) x = 0 ↔ dotI r x = 0 := by
  rcases zero_or_not r with h | h
  · constructor
    · intro z
      rw [low_back h, dotI_scale, z, Int.mul_zero]
    · exact low_dot h
  · rw [low_none h]
theorem low_zero' (r : List Int) (k : Nat) : (lowI r).getD k 0 = 0 ↔ r.getD k 0 = 0 := by
  rcases zero_or_not r with h | h
  · exact low_zero h k
  · rw [low_none h]
theorem BdI.low' {b : Nat} {r : List Int} (h : BdI b r) : BdI b (lowI r) := by
  rcases zero_or_not r with z | z
  · exact h.low z
  · rw [low_none z]; exact h
theorem BdI.at {b : Nat} {r : List Int} (h : BdI b r) (k : Nat) : (r.getD k 0).natAbs <= 2 ^ b := by
  rcases Classical.em (r.getD k 0 = 0) with z | z
  · rw [z]; exact Nat.zero_le _
  · exact h _ (getD_mem z)
theorem BdI.up {b b' : Nat} {r : List Int} (h : BdI b r) (hb : b <= b') : BdI b' r := fun n hn => Nat.le_trans (h n hn) (Nat.pow_le_pow_right (by decide) hb)
def clr1 (lead : List Int) (p : Nat) (r : List Int) : List Int := lowI (lay2 (lead.getD p 0) (r.getD p 0) r lead)
def pivs (left : List (List Int)) (p : Nat) : List Nat := (List.range left.length).filter fun k => decide ((left.getD k []).getD p 0 ≠ 0)
def redP (p : Nat) (s : List (List Int) × List (List Int)) : List (List Int) × List (List Int) :=
  match pivs s.1 p with
  | [] => s
  | k :: _ => ((s.1.eraseIdx k).map (clr1 (s.1.getD k []) p), s.2.map (clr1 (s.1.getD k []) p) ++ [s.1.getD k []])
def bC : Nat -> Nat
  | 0 => 6
  | n + 1 => 2 * bC n + 1
theorem bC_le : ∀ n, n <= 8 -> bC n <= 1791 := by decide
structure Clr (cs left found : List (List Int)) (p : Nat) : Prop where
  l10 : ∀ r, r ∈ left ∨ r ∈ found -> r.length = 10
  bd : ∀ r, r ∈ left ∨ r ∈ found -> BdI (bC found.length) r
  sp : ∀ x, (∀ r, r ∈ left ∨ r ∈ found -> dotI r x = 0) ↔ ∀ c ∈ cs, dotI c x = 0
  z : ∀ r ∈ left, ∀ j, j < p -> r.getD j 0 = 0
  pv : ∃ P, Piv found P /\ ∀ i, i < found.length -> P i < p
  len : left.length + found.length = cs.length
theorem Clr.start {cs : List (List Int)} (h : ∀ c ∈ cs, c.length = 10) (hb : ∀ c ∈ cs, BdI 6 c) : Clr cs (cs.map lowI) [] 0 := by
  have hm : ∀ r, r ∈ cs.map lowI ∨ r ∈ ([] : List (List Int)) -> ∃ c ∈ cs, lowI c = r := fun r hr => by
    rcases hr with z | z
    · exact List.mem_map.mp z
    · cases z
  refine ⟨fun r hr => ?_, fun r hr => ?_, fun x => ⟨fun g c hc => ?_, fun g r hr => ?_⟩, fun r _ j hj => by omega, ⟨fun _ => 0, (fun i r hr => by cases hr), (fun i hi => by cases hi)⟩, by rw [List.length_map]; rfl⟩
  · obtain ⟨c, hc, rfl⟩ := hm r hr
    rw [lowI_len]; exact h c hc
  · obtain ⟨c, hc, rfl⟩ := hm r hr
    exact (hb c hc).low'
  · exact (low_iff c x).mp (g _ (.inl (List.mem_map.mpr ⟨c, hc, rfl⟩)))
  · obtain ⟨c, hc, rfl⟩ := hm r hr
    exact (low_iff c x).mpr (g c hc)
theorem erase_mem {l : List (List Int)} {k : Nat} {a : List Int} (h : l[k]? = some a) (r : List Int) : r ∈ l ↔ r = a ∨ r ∈ l.eraseIdx k := by
  obtain ⟨hk, rfl⟩ := List.getElem?_eq_some_iff.mp h
  have e : l = l.take k ++ l[k] :: l.drop (k + 1) := by
    rw [← List.drop_eq_getElem_cons hk, List.take_append_drop]
  rw [List.eraseIdx_eq_take_drop_succ, List.mem_append]
  conv => lhs; rw [e]
  rw [List.mem_append, List.mem_cons]
  constructor
  · rintro (z | z | z)
    · exact .inr (.inl z)
    · exact .inl z
    · exact .inr (.inr z)
  · rintro (z | z | z)
    · exact .inr (.inl z)
    · exact .inl z
    · exact .inr (.inr z)
theorem clr1_get {lead r : List Int} {p : Nat} (hl : r.length = lead.length) (k : Nat) : (clr1 lead p r).getD k 0 = 0 ↔ lead.getD p 0 * r.getD k 0 - r.getD p 0 * lead.getD k 0 = 0 := by
  unfold clr1
  rw [low_zero', lay2_get hl]
theorem Clr.step {cs left found : List (List Int)} {p : Nat} (h : Clr cs left found p) : Clr cs (redP p (left, found)).1 (redP p (left, found)).2 (p + 1) := by
  unfold redP
  cases hp : pivs left p with
  | nil =>
    simp only [hp]
    refine ⟨h.l10, h.bd, h.sp, fun r hr j hj => ?_, ?_, h.len⟩
    · rcases Nat.lt_or_ge j p with y | y
      · exact h.z r hr j y
      · have e : j = p := by omega
        subst e
        refine Classical.byContradiction fun z => ?_
        obtain ⟨k, hk⟩ := List.getElem?_of_mem hr
        have hkl := (List.getElem?_eq_some_iff.mp hk).1
        have : k ∈ pivs left j := List.mem_filter.mpr ⟨List.mem_range.mpr hkl, decide_eq_true (by rw [show left.getD k [] = r by rw [List.getD_eq_getElem?_getD, hk]; rfl]; exact z)⟩
        rw [hp] at this
        cases this
    · obtain ⟨P, p1, p2⟩ := h.pv
      exact ⟨P, p1, fun i hi => Nat.lt_succ_of_lt (p2 i hi)⟩
  | cons k ks =>
    simp only [hp]
    have hk : k ∈ pivs left p := by rw [hp]; exact List.mem_cons_self
    obtain ⟨hk1, hk2⟩ := List.mem_filter.mp hk
    have hkl := List.mem_range.mp hk1
    have hu := of_decide_eq_true hk2
    have hla : left[k]? = some (left.getD k []) := by rw [List.getD_eq_getElem?_getD, List.getElem?_eq_getElem hkl]; rfl
    generalize left.getD k [] = a at hla hu
    have hm := erase_mem hla
    generalize hrest : left.eraseIdx k = rest at hm
    have ha : a ∈ left := (hm a).mpr (.inl rfl)
    have hr : ∀ r ∈ rest, r ∈ left := fun r z => (hm r).mpr (.inr z)
    have a10 := h.l10 a (.inl ha)
    have l2 : ∀ r, r ∈ rest ∨ r ∈ found -> r.length = a.length := fun r z => by
      rw [a10]
      rcases z with z | z
      · exact h.l10 r (.inl (hr r z))
      · exact h.l10 r (.inr z)
    have hN : ∀ s, s ∈ rest.map (clr1 a p) ∨ s ∈ found.map (clr1 a p) ++ [a] -> s = a ∨ ∃ r, (r ∈ rest ∨ r ∈ found) /\ s = clr1 a p r := fun s z => by
      rcases z with z | z
      · obtain ⟨r, h1, rfl⟩ := List.mem_map.mp z
        exact .inr ⟨r, .inl h1, rfl⟩
      · rcases List.mem_append.mp z with z | z
        · obtain ⟨r, h1, rfl⟩ := List.mem_map.mp z
          exact .inr ⟨r, .inr h1, rfl⟩
        · exact .inl (List.mem_singleton.mp z)
    have hO : ∀ r, r ∈ rest ∨ r ∈ found -> r ∈ left ∨ r ∈ found := fun r z => by
      rcases z with z | z
      · exact .inl (hr r z)
      · exact .inr z
    have hln : (found.map (clr1 a p) ++ [a]).length = found.length + 1 := by rw [List.length_append, List.length_map]; rfl
    have hba := h.bd a (.inl ha)
    refine ⟨fun s hs => ?_, fun s hs => ?_, fun x => ?_, fun s hs j hj => ?_, ?_, ?_⟩
    · rcases hN s hs with rfl | ⟨r, h1, rfl⟩
      · exact a10
      · show (lowI _).length = 10
        rw [lowI_len, lay2_len (l2 r h1), l2 r h1, a10]
    · rw [hln]
      show BdI (2 * bC found.length + 1) s
      rcases hN s hs with rfl | ⟨r, h1, rfl⟩
      · exact hba.up (by omega)
      · have hbr := h.bd r (hO r h1)
        have := (lay2_bd (u := a.getD p 0) (t := r.getD p 0) (hba.at p) (hbr.at p) hbr hba).low'
        exact this.up (by omega)
    · rw [← h.sp x]
      constructor
      · intro g r hr'
        have ga : dotI a x = 0 := g a (.inr (List.mem_append_right _ (List.mem_singleton.mpr rfl)))
        have key : ∀ r, r ∈ rest ∨ r ∈ found -> dotI (clr1 a p r) x = 0 -> dotI r x = 0 := fun r h1 z => by
          have z' := (low_iff _ _).mp z
          rw [dotI_lay2 _ _ _ _ _ (l2 r h1), ga, Int.mul_zero, Int.sub_zero] at z'
          rcases Int.mul_eq_zero.mp z' with w | w
          · exact absurd w hu
          · exact w
        rcases hr' with z | z
        · rcases (hm r).mp z with rfl | z
          · exact ga
          · exact key r (.inl z) (g _ (.inl (List.mem_map.mpr ⟨r, z, rfl⟩)))
        · exact key r (.inr z) (g _ (.inr (List.mem_append_left _ (List.mem_map.mpr ⟨r, z, rfl⟩))))
      · intro g s hs
        rcases hN s hs with rfl | ⟨r, h1, rfl⟩
        · exact g _ (.inl ha)
        · refine (low_iff _ _).mpr ?_
          rw [dotI_lay2 _ _ _ _ _ (l2 r h1), g a (.inl ha), g r (hO r h1)]
          omega
    · obtain ⟨r, h1, rfl⟩ := List.mem_map.mp hs
      rw [clr1_get (l2 r (.inl h1))]
      rcases Nat.lt_or_ge j p with y | y
      · rw [h.z r (hr r h1) j y, h.z a ha j y]
        omega
      · have e : j = p := by omega
        subst e
        rw [Int.mul_comm]
        omega
    · obtain ⟨P, p1, p2⟩ := h.pv
      have za : ∀ i, i < found.length -> a.getD (P i) 0 = 0 := fun i hi => h.z a ha _ (p2 i hi)
      have gl : ∀ (i : Nat) s, (found.map (clr1 a p) ++ [a])[i]? = some s -> (i < found.length /\ ∃ r, found[i]? = some r /\ s = clr1 a p r) ∨ (i = found.length /\ s = a) := fun i s hs => by
        by_cases hi : i < found.length
        · rw [List.getElem?_append_left (by rw [List.length_map]; exact hi), List.getElem?_map, List.getElem?_eq_getElem hi] at hs
          exact .inl ⟨hi, _, List.getElem?_eq_getElem hi, (Option.some.inj hs).symm⟩
        · have hl := (List.getElem?_eq_some_iff.mp hs).1
          rw [hln] at hl
          have e : i = found.length := by omega
          subst e
          rw [List.getElem?_append_right (by rw [List.length_map]; exact Nat.le_refl _), List.length_map, Nat.sub_self] at hs
          exact .inr ⟨rfl, (Option.some.inj hs).symm⟩
      have hf : ∀ (i : Nat) r, found[i]? = some r -> r ∈ rest ∨ r ∈ found := fun i r z => .inr (List.mem_of_getElem? z)
      refine ⟨fun i => if i < found.length then P i else p, fun i s hs => ?_, fun i hi => ?_⟩
      · rcases gl i s hs with ⟨hi, r, hri, rfl⟩ | ⟨rfl, rfl⟩
        · simp only [if_pos hi]
          obtain ⟨q1, q2⟩ := p1 i r hri
          refine ⟨fun z => ?_, fun j t ht hj => ?_⟩
          · rw [clr1_get (l2 r (hf i r hri)), za i hi, Int.mul_zero, Int.sub_zero] at z
            rcases Int.mul_eq_zero.mp z with w | w
            · exact hu w
            · exact q1 w
          · rcases gl j t ht with ⟨_, r', hr', rfl⟩ | ⟨_, rfl⟩
            · rw [clr1_get (l2 r' (hf j r' hr')), za i hi, q2 j r' hr' hj]
              omega
            · exact za i hi
        · simp only [if_neg (Nat.lt_irrefl _)]
          refine ⟨hu, fun j t ht hj => ?_⟩
          rcases gl j t ht with ⟨_, r', hr', rfl⟩ | ⟨z, _⟩
          · rw [clr1_get (l2 r' (hf j r' hr')), Int.mul_comm]
            omega
          · exact absurd z hj
      · show (if i < found.length then P i else p) < p + 1
        split
        · rename_i y; exact Nat.lt_succ_of_lt (p2 i y)
        · omega
    · have e : left.length = rest.length + 1 := by
        rw [← hrest, List.length_eraseIdx_of_lt hkl]
        omega
      rw [List.length_map, hln, ← h.len, e]
      omega
def redN (cs : List (List Int)) (n : Nat) : List (List Int) × List (List Int) := (List.range n).foldl (fun s p => redP p s) (cs.map lowI, [])
theorem redN_succ (cs : List (List Int)) (n : Nat) : redN cs (n + 1) = redP n (redN cs n) := by
  unfold redN
  rw [List.range_succ, List.foldl_append]
  rfl
theorem redN_clr {cs : List (List Int)} (h : ∀ c ∈ cs, c.length = 10) (hb : ∀ c ∈ cs, BdI 6 c) : ∀ n, Clr cs (redN cs n).1 (redN cs n).2 n
  | 0 => Clr.start h hb
  | n + 1 => by
    rw [redN_succ]
    exact (redN_clr h hb n).step
theorem pair_ne {rows : List (List Int)} (pw : rows.Pairwise LdR) {i j : Nat} {r s : List Int} (hi : rows[i]? = some r) (hj : rows[j]? = some s) (ne : j ≠ i) : s ≠ r := by
  have key : ∀ {i j : Nat} {r s : List Int}, rows[i]? = some r -> rows[j]? = some s -> i < j -> s ≠ r := fun {i j r s} hi hj lt e => by
    obtain ⟨h1, h1'⟩ := List.getElem?_eq_some_iff.mp hi
    obtain ⟨h2, h2'⟩ := List.getElem?_eq_some_iff.mp hj
    have := List.pairwise_iff_getElem.mp pw i j h1 h2 lt
    rw [h1', h2', e] at this
    obtain ⟨l, hl, hz⟩ := this
    exact hl.1 (hz l (Nat.le_refl _))
  rcases Nat.lt_or_gt_of_ne ne with y | y
  · exact fun e => key hj hi y e.symm
  · exact key hi hj y
theorem base_count {cs : List (List Int)} (h : ∀ c ∈ cs, c.length = 10) (hb : ∀ c ∈ cs, BdI 6 c) : (redN cs 10).2.length + (baseF cs).length = 10 := by
  have C := redN_clr h hb 10
  obtain ⟨P, p1, p2⟩ := C.pv
  obtain ⟨j, _, _, BR⟩ := baseG hb cs.length (Nat.le_refl _)
  have BX := baseX hb cs.length (Nat.le_refl _)
  rw [List.take_length] at BR BX
  have hz : ∀ r ∈ (redN cs 10).1, ∀ k, r.getD k 0 = 0 := fun r hr k => by
    by_cases hk : k < 10
    · exact C.z r hr k hk
    · exact getD_far (by rw [C.l10 r (.inl hr)]; omega)
  have hL : ∀ i, ∃ l, i < (baseF cs).length -> LdA ((baseF cs).getD i []) l := fun i => by
    by_cases hi : i < (baseF cs).length
    · have : (baseF cs).getD i [] ∈ baseF cs := by rw [List.getD_eq_getElem?_getD, List.getElem?_eq_getElem hi]; exact List.getElem_mem hi
      obtain ⟨l, hl⟩ := BR.nz _ this
      exact ⟨l, fun _ => hl⟩
    · exact ⟨0, fun z => absurd z hi⟩
  have hL' : ∃ L : Nat -> Nat, ∀ i, i < (baseF cs).length -> LdA ((baseF cs).getD i []) (L i) := ⟨fun i => Classical.choose (hL i), fun i => Classical.choose_spec (hL i)⟩
  obtain ⟨L, hL⟩ := hL'
  have at_ : ∀ (i : Nat) r, (baseF cs)[i]? = some r -> i < (baseF cs).length /\ (baseF cs).getD i [] = r := fun i r hr => ⟨(List.getElem?_eq_some_iff.mp hr).1, by rw [List.getD_eq_getElem?_getD, hr]; rfl⟩
  refine count10 (P := P) (L := L) (fun r hr => C.l10 r (.inr hr)) BR.l10 p1 (fun i r hr => ?_) (fun f hf b hb' => ?_) (fun x hx hf hl => ?_)
  · obtain ⟨hi, e⟩ := at_ i r hr
    have hl := hL i hi
    rw [e] at hl
    refine ⟨hl.1, fun k s hs hk => ?_⟩
    exact BX.z0 s (List.mem_of_getElem? hs) r (List.mem_of_getElem? hr) (pair_ne BR.pw hr hs hk) _ hl
  · have := (C.sp b).mpr fun c hc => by rw [dotI_comm]; exact BR.kept b hb' c hc
    exact this f (.inr hf)
  · refine BX.all x hx (fun c hc => ?_) (fun r hr l hl' => ?_)
    · rw [dotI_comm]
      refine (C.sp x).mp (fun r hr => ?_) c hc
      rcases hr with z | z
      · exact dotI_zero _ _ (hz r z)
      · exact hf r z
    · obtain ⟨i, hi⟩ := List.getElem?_of_mem hr
      obtain ⟨hi', e⟩ := at_ i r hi
      have h1 := hL i hi'
      rw [e] at h1
      rw [hl'.uniq h1]
      exact hl i hi'
end Mth
namespace Mth
end Mth
namespace Mth
end Mth
namespace Mth
end Mth
namespace Mth
end Mth
namespace Mth
end Mth
namespace Mth
end Mth
namespace Mth
end Mth
namespace Mth
end Mth
namespace L2
open PySem PySem.Spec PyProof.Rows
end L2
namespace L2
open PySem PySem.Spec PyProof.Rows W2
end L2
namespace W2
open PySem L2
end W2
namespace L2
open PySem
end L2
namespace L2
open PySem PySem.Spec PyProof.Rows W2
end L2
namespace Zn
open PySem PyProof.Rows Zt
section
variable {prog : Program} {w : World} {A : Around} {E : Value -> Shared -> Prop} {s : Shared}
theorem zip_item {z TI TO j1 j2 t1 t2 : Addr} {k : Nat} {xs ys : Array Value} {x y a b : Value} {Q : Value -> Shared -> Prop} (D : ZipApart z TI TO j1 j2 t1 t2)
    (zz : IsZip s.heap z TI TO .none) (zI : IsPair s.heap TI (.ref j1) (.ref j2)) (zO : IsPair s.heap TO a b)
    (i1 : s.heap.IsListIter j1 t1 k) (i2 : s.heap.IsTupleIter j2 t2 k) (l1 : s.heap.IsList t1 xs) (l2 : s.heap.IsTuple t2 ys) (ex : xs[k]? = some x) (ey : ys[k]? = some y)
    (q : ∀ g, IsZip g z TI TO (rawInt s.heap.objs.size) -> IsPair g TO x y -> g.IsListIter j1 t1 (k + 1) -> g.IsTupleIter j2 t2 (k + 1) -> IsPair g s.heap.objs.size x y ->
      (∀ c o, c ≠ z -> c ≠ TO -> c ≠ j1 -> c ≠ j2 -> s.heap.get? c = some o -> g.get? c = some o) -> Q (.ref s.heap.objs.size) { s with heap := g }) :
    wpAny (model prog w) A (Builtin.«zip.__next__» ⟨[.ref z], []⟩) (fun fin s' => ∃ v, fin = .done (.ret v) /\ Q v s') E s := by
  show wpAny _ _ (field (.ref z) 2 >>= _) _ _ _
  refine wpAny_bind (wpAny_field zz rfl (x := .bool false) rfl ?_)
  show wpAny _ _ (field (.ref z) 3 >>= _) _ _ _
  refine wpAny_bind (wpAny_field zz rfl (x := .ref TI) rfl (wpAny_bind (wpAny_seqItems zI rfl ?_)))
  show wpAny _ _ (Builtin.SmallTypes.ownedTupleIsFree (.ref z) >>= _) _ _ _
  refine wpAny_bind ?_
  unfold Builtin.SmallTypes.ownedTupleIsFree
  refine wpAny_bind (wpAny_field zz rfl (x := .none) rfl (wpAny_pure ?_))
  simp only [if_true]
  refine wpAny_bind (wpAny_rule (wpAny_bind (wpAny_field zz rfl (x := .ref TO) rfl (wpAny_bind (wpAny_setField_rec zz (by simp) fun g1 zz1 s1 => ?_)))))
  replace zz1 : IsZip g1 z TI TO .ellipsis := zz1
  refine wpAny_bind ?_
  simp only [List.zipIdx_cons, List.zipIdx_nil, List.forIn_cons, List.forIn_nil]
  refine wpAny_bind (wpAny_bind (wpAny_onRaise ?_))
  show wpAny _ _ (Builtin.SmallTypes.nextOf (.ref j1) >>= _) _ _ _
  refine wpAny_bind (wpAny_nextOf_list_item (i1.extBut s1.extBut D.i1z) (l1.extBut s1.extBut D.l1z) ex fun g2 i1' s2 => wpAny_pure ?_)
  have zO2 : IsPair g2 TO a b := s2.extBut _ _ D.TOi1 (s1.extBut _ _ D.TOz zO)
  refine wpAny_bind (wpAny_seqItems zO2 rfl (wpAny_bind (wpAny_updateSeq_pair zO2 fun g3 zO3 s3 => ?_)))
  replace zO3 : IsPair g3 TO x b := zO3
  refine wpAny_bind (wpAny_letGo (wpAny_pure (wpAny_bind (wpAny_bind (wpAny_onRaise ?_)))))
  show wpAny _ _ (Builtin.SmallTypes.nextOf (.ref j2) >>= _) _ _ _
  have i2' := ((i2.extBut s1.extBut D.i2z).extBut s2.extBut D.i12.symm).extBut s3.extBut D.TOi2.symm
  have l2' := ((l2.extBut s1.extBut D.l2z).extBut s2.extBut D.l2i1).extBut s3.extBut D.l2TO
  refine wpAny_bind (pull i2' l2' ey fun g4 i2'' s4 => wpAny_pure ?_)
  have zO4 : IsPair g4 TO x b := s4.extBut _ _ D.TOi2 zO3
  refine wpAny_bind (wpAny_seqItems zO4 rfl (wpAny_bind (wpAny_updateSeq_pair zO4 fun g5 zO5 s5 => ?_)))
  replace zO5 : IsPair g5 TO x y := zO5
  refine wpAny_bind (wpAny_letGo (wpAny_pure (wpAny_pure (wpAny_bind (wpAny_seqItems zO5 rfl (wpAny_bind (wpAny_newTuple ?_)))))))
  have sz : g5.objs.size = s.heap.objs.size := by rw [s5.1, s4.1, s3.1, s2.1, s1.1]
  have zz5 : IsZip g5 z TI TO .ellipsis := s5.extBut _ _ D.TOz.symm (s4.extBut _ _ D.i2z.symm (s3.extBut _ _ D.TOz.symm (s2.extBut _ _ D.i1z.symm zz1)))
  have up5 : ∀ c o, c ≠ z -> c ≠ TO -> c ≠ j1 -> c ≠ j2 -> s.heap.get? c = some o -> g5.get? c = some o := fun c o n1 n2 n3 n4 q' =>
    s5.extBut _ _ n2 (s4.extBut _ _ n4 (s3.extBut _ _ n2 (s2.extBut _ _ n3 (s1.extBut _ _ n1 q'))))
  have j15 : g5.IsListIter j1 t1 (k + 1) := ((i1'.extBut s3.extBut D.TOi1.symm).extBut s4.extBut D.i12).extBut s5.extBut D.TOi1.symm
  have j25 : g5.IsTupleIter j2 t2 (k + 1) := i2''.extBut s5.extBut D.TOi2.symm
  have zlt : z < g5.objs.size := Heap.lt_size zz5
  show wpAny _ _ (Builtin.SmallTypes.ownedTupleHandOut (.ref z) (.ref g5.objs.size) >>= _) _ _ _
  refine wpAny_bind ?_
  unfold Builtin.SmallTypes.ownedTupleHandOut
  have zz6 : IsZip (g5.push { cls := .type "tuple", data := .seq #[x, y] }) z TI TO .ellipsis := Heap.get?_push_of_some _ zz5
  refine wpAny_bind (wpAny_setField_rec zz6 (by simp) fun g7 zz7 s7 => ?_)
  replace zz7 : IsZip g7 z TI TO (rawInt g5.objs.size) := zz7
  refine wpAny_setField_rec zz7 (by simp) fun g8 zz8 s8 => ?_
  replace zz8 : IsZip g8 z TI TO (rawInt g5.objs.size) := zz8
  have up8 : ∀ c o, c ≠ z -> g5.get? c = some o -> g8.get? c = some o := fun c o n1 q' => s8.extBut _ _ n1 (s7.extBut _ _ n1 (Heap.get?_push_of_some _ q'))
  have new8 : IsPair g8 g5.objs.size x y := s8.extBut _ _ (Nat.ne_of_gt zlt) (s7.extBut _ _ (Nat.ne_of_gt zlt) (Heap.get?_push_size _ rfl))
  rw [sz] at zz8 new8
  refine wpAny_pure ⟨_, rfl, ?_⟩
  show Q (.ref g5.objs.size) _
  rw [sz]
  refine q g8 zz8 (up8 _ _ D.TOz zO5) ?_ ?_ new8 fun c o n1 n2 n3 n4 q' => up8 c o n1 (up5 c o n1 n2 n3 n4 q')
  · obtain ⟨o, e, r⟩ := j15
    exact ⟨o, up8 _ _ D.i1z e, r⟩
  · obtain ⟨o, e, r⟩ := j25
    exact ⟨o, up8 _ _ D.i2z e, r⟩
theorem zip_stop {z TI TO j1 j2 t1 t2 : Addr} {k : Nat} {xs ys : Array Value} {a b : Value} {Q : Fin -> Shared -> Prop} (hd : A.handled = none) (D : ZipApart z TI TO j1 j2 t1 t2)
    (zz : IsZip s.heap z TI TO .none) (zI : IsPair s.heap TI (.ref j1) (.ref j2)) (zO : IsPair s.heap TO a b)
    (i1 : s.heap.IsListIter j1 t1 k) (i2 : s.heap.IsTupleIter j2 t2 k) (l1 : s.heap.IsList t1 xs) (l2 : s.heap.IsTuple t2 ys) (ee : xs[k]? = none ∨ ys[k]? = none)
    (q : ∀ g e, (∀ c o, c ≠ z -> c ≠ TO -> c ≠ j1 -> c ≠ j2 -> s.heap.get? c = some o -> g.get? c = some o) -> (∃ o, g.get? e = some o /\ o.cls = .type "StopIteration") -> E (.ref e) { s with heap := g }) :
    wpAny (model prog w) A (Builtin.«zip.__next__» ⟨[.ref z], []⟩) Q E s := by
  show wpAny _ _ (field (.ref z) 2 >>= _) _ _ _
  refine wpAny_bind (wpAny_field zz rfl (x := .bool false) rfl ?_)
  show wpAny _ _ (field (.ref z) 3 >>= _) _ _ _
  refine wpAny_bind (wpAny_field zz rfl (x := .ref TI) rfl (wpAny_bind (wpAny_seqItems zI rfl ?_)))
  show wpAny _ _ (Builtin.SmallTypes.ownedTupleIsFree (.ref z) >>= _) _ _ _
  refine wpAny_bind ?_
  unfold Builtin.SmallTypes.ownedTupleIsFree
  refine wpAny_bind (wpAny_field zz rfl (x := .none) rfl (wpAny_pure ?_))
  simp only [if_true]
  refine wpAny_bind (wpAny_rule (wpAny_bind (wpAny_field zz rfl (x := .ref TO) rfl (wpAny_bind (wpAny_setField_rec zz (by simp) fun g1 zz1 s1 => ?_)))))
  replace zz1 : IsZip g1 z TI TO .ellipsis := zz1
  refine wpAny_bind ?_
  simp only [List.zipIdx_cons, List.zipIdx_nil, List.forIn_cons, List.forIn_nil]
  refine wpAny_bind (wpAny_bind (wpAny_onRaise ?_))
  show wpAny _ _ (Builtin.SmallTypes.nextOf (.ref j1) >>= _) _ _ _
  cases ex : xs[k]? with
  | none =>
    refine wpAny_bind (wpAny_nextOf_list_end hd (i1.extBut s1.extBut D.i1z) (l1.extBut s1.extBut D.l1z) ex fun g2 e s2 ⟨oe, goe, coe⟩ => ?_)
    have zz2 : IsZip g2 z TI TO .ellipsis := s2 _ _ D.i1z.symm zz1
    have nez : e ≠ z := fun y => by
      subst y
      rw [zz2] at goe
      cases goe
      simp at coe
    exact wpAny_setField_rec zz2 (by simp) fun g3 _ s3 => q g3 e (fun c o n1 _ n3 _ y => s3.extBut _ _ n1 (s2 _ _ n3 (s1.extBut _ _ n1 y))) ⟨oe, s3.extBut _ _ nez goe, coe⟩
  | some x =>
    have ey : ys[k]? = none := ee.resolve_left (by rw [ex]; exact fun y => nomatch y)
    refine wpAny_bind (wpAny_nextOf_list_item (i1.extBut s1.extBut D.i1z) (l1.extBut s1.extBut D.l1z) ex fun g2 i1' s2 => wpAny_pure ?_)
    have zO2 : IsPair g2 TO a b := s2.extBut _ _ D.TOi1 (s1.extBut _ _ D.TOz zO)
    refine wpAny_bind (wpAny_seqItems zO2 rfl (wpAny_bind (wpAny_updateSeq_pair zO2 fun g3 zO3 s3 => ?_)))
    refine wpAny_bind (wpAny_letGo (wpAny_pure (wpAny_bind (wpAny_bind (wpAny_onRaise ?_)))))
    show wpAny _ _ (Builtin.SmallTypes.nextOf (.ref j2) >>= _) _ _ _
    have i2' := ((i2.extBut s1.extBut D.i2z).extBut s2.extBut D.i12.symm).extBut s3.extBut D.TOi2.symm
    have l2' := ((l2.extBut s1.extBut D.l2z).extBut s2.extBut D.l2i1).extBut s3.extBut D.l2TO
    refine wpAny_bind (pull_end hd i2' l2' ey fun g4 e s4 ⟨oe, goe, coe⟩ => ?_)
    have zz4 : IsZip g4 z TI TO .ellipsis := s4 _ _ D.i2z.symm (s3.extBut _ _ D.TOz.symm (s2.extBut _ _ D.i1z.symm zz1))
    have nez : e ≠ z := fun y => by
      subst y
      rw [zz4] at goe
      cases goe
      simp at coe
    exact wpAny_setField_rec zz4 (by simp) fun g5 _ s5 => q g5 e (fun c o n1 n2 n3 n4 y => s5.extBut _ _ n1 (s4 _ _ n4 (s3.extBut _ _ n2 (s2.extBut _ _ n3 (s1.extBut _ _ n1 y))))) ⟨oe, s5.extBut _ _ nez goe, coe⟩
theorem next_item {z TI TO j1 j2 t1 t2 : Addr} {k : Nat} {xs ys : Array Value} {x y a b : Value} {Q : Option Value -> Shared -> Prop} (D : ZipApart z TI TO j1 j2 t1 t2)
    (zz : IsZip s.heap z TI TO .none) (zI : IsPair s.heap TI (.ref j1) (.ref j2)) (zO : IsPair s.heap TO a b)
    (i1 : s.heap.IsListIter j1 t1 k) (i2 : s.heap.IsTupleIter j2 t2 k) (l1 : s.heap.IsList t1 xs) (l2 : s.heap.IsTuple t2 ys) (ex : xs[k]? = some x) (ey : ys[k]? = some y)
    (q : ∀ g, IsZip g z TI TO (rawInt s.heap.objs.size) -> IsPair g TO x y -> g.IsListIter j1 t1 (k + 1) -> g.IsTupleIter j2 t2 (k + 1) -> IsPair g s.heap.objs.size x y ->
      (∀ c o, c ≠ z -> c ≠ TO -> c ≠ j1 -> c ≠ j2 -> s.heap.get? c = some o -> g.get? c = some o) -> Q (some (.ref s.heap.objs.size)) { s with heap := g }) : wpAny (model prog w) A (pyNext (.ref z)) Q E s := by
  have ty : s.TypeIs (.ref z) "zip" := ⟨_, zz, rfl⟩
  unfold pyNext
  refine wpAny_bind (wpAny_attempt (wpAny_callSpecial?_slot (name := Str.ofString "__next__") ty F.slot_zip_next (wpAny_call_entry F.slot_zip_next ty F.entry_zip_next ?_ (F.args_zip_next_1 _))))
  exact zip_item D zz zI zO i1 i2 l1 l2 ex ey fun g b1 b2 b3 b4 b5 b6 => wpAny_pure (q g b1 b2 b3 b4 b5 b6)
theorem next_stop {z TI TO j1 j2 t1 t2 : Addr} {k : Nat} {xs ys : Array Value} {a b : Value} {Q : Option Value -> Shared -> Prop} (hd : A.handled = none) (D : ZipApart z TI TO j1 j2 t1 t2)
    (zz : IsZip s.heap z TI TO .none) (zI : IsPair s.heap TI (.ref j1) (.ref j2)) (zO : IsPair s.heap TO a b)
    (i1 : s.heap.IsListIter j1 t1 k) (i2 : s.heap.IsTupleIter j2 t2 k) (l1 : s.heap.IsList t1 xs) (l2 : s.heap.IsTuple t2 ys) (ee : xs[k]? = none ∨ ys[k]? = none)
    (q : ∀ g, (∀ c o, c ≠ z -> c ≠ TO -> c ≠ j1 -> c ≠ j2 -> s.heap.get? c = some o -> g.get? c = some o) -> Q none { s with heap := g }) : wpAny (model prog w) A (pyNext (.ref z)) Q E s := by
  have ty : s.TypeIs (.ref z) "zip" := ⟨_, zz, rfl⟩
  unfold pyNext
  refine wpAny_bind (wpAny_attempt (wpAny_callSpecial?_slot (name := Str.ofString "__next__") ty F.slot_zip_next (wpAny_call_entry F.slot_zip_next ty F.entry_zip_next ?_ (F.args_zip_next_1 _))))
  refine zip_stop hd D zz zI zO i1 i2 l1 l2 ee fun g e up ⟨oe, goe, coe⟩ => ?_
  exact wpAny_bind (wpAny_isInstance (T := "StopIteration") (b := true) ⟨oe, goe, coe⟩ isSubtype_stop (wpAny_pure (q _ up)))
end
abbrev mk1 (h : Heap) (t1 : Addr) : Heap := h.push { cls := .type "list_iterator", data := .fields #[.ref t1, .int 0 0] }
abbrev mk2 (h : Heap) (t1 t2 : Addr) : Heap := (mk1 h t1).push { cls := .type "tuple_iterator", data := .fields #[.ref t2, .int 0 0] }
abbrev mk3 (h : Heap) (t1 t2 : Addr) : Heap := (mk2 h t1 t2).push { cls := .type "tuple", data := .seq #[.ref h.objs.size, .ref (mk1 h t1).objs.size] }
abbrev mk4 (h : Heap) (t1 t2 : Addr) : Heap := (mk3 h t1 t2).push { cls := .type "tuple", data := .seq #[.none, .none] }
abbrev mk5 (h : Heap) (t1 t2 : Addr) : Heap := (mk4 h t1 t2).push { cls := .type "zip", data := .fields #[.none, .bool false, .bool false, .ref (mk2 h t1 t2).objs.size, .ref (mk3 h t1 t2).objs.size] }
theorem meets_new (t1 t2 : Addr) (xs ys : Array Value) : Meets (Builtin.«zip.__new__» ⟨[.type "zip", .ref t1, .ref t2], []⟩) (fun _ R s => s.heap.IsList t1 xs /\ s.heap.IsTuple t2 ys /\ R (.ok (.ret (.ref (mk4 s.heap t1 t2).objs.size))) { s with heap := mk5 s.heap t1 t2 }) :=
  .of_wp fun prog w A R s h => by
    obtain ⟨hh, gg, dd, tt, oo⟩ := s
    obtain ⟨a1, a2, h⟩ := h
    have sub := sub_zip
    have b1 : Heap.IsList (Shared.heap ⟨hh, gg, dd, tt, oo⟩) t1 xs := a1
    have b2 : Heap.IsTuple (Shared.heap ⟨mk1 hh t1, gg, dd, tt, oo⟩) t2 ys := Heap.IsTuple.push a2 _
    wp_walk using wpAny_pyIter_list b1, wpAny_pyIter_tuple b2
    exact ⟨_, rfl, h⟩
section
variable {prog : Program} {w : World} {A : Around} {E : Value -> Shared -> Prop} {s : Shared}
theorem make {t1 t2 : Addr} {xs ys : Array Value} {Q : Value -> Shared -> Prop} (a1 : s.heap.IsList t1 xs) (a2 : s.heap.IsTuple t2 ys)
    (q : ∀ g, IsZip g (s.heap.objs.size + 4) (s.heap.objs.size + 2) (s.heap.objs.size + 3) .none -> IsPair g (s.heap.objs.size + 2) (.ref s.heap.objs.size) (.ref (s.heap.objs.size + 1)) -> IsPair g (s.heap.objs.size + 3) .none .none ->
      g.IsListIter s.heap.objs.size t1 0 -> g.IsTupleIter (s.heap.objs.size + 1) t2 0 -> (∀ c o, s.heap.get? c = some o -> g.get? c = some o) -> Q (.ref (s.heap.objs.size + 4)) { s with heap := g }) :
    wpAny (model prog w) A (call (.type "zip") [.ref t1, .ref t2]) Q E s := by
  refine callType_new F.called_zip (by decide) (F.typeCall_zip_2 _ _) (F.newCall_zip_2 _ _) (fun obj => F.args_object_init_3 obj _ _) F.entry_zip_new (meets_new t1 t2 xs ys) ⟨a1, a2, ?_⟩
  have n1 : (mk1 s.heap t1).objs.size = s.heap.objs.size + 1 := Heap.size_push ..
  have n2 : (mk2 s.heap t1 t2).objs.size = s.heap.objs.size + 2 := by rw [Heap.size_push, n1]
  have n3 : (mk3 s.heap t1 t2).objs.size = s.heap.objs.size + 3 := by rw [Heap.size_push, n2]
  have n4 : (mk4 s.heap t1 t2).objs.size = s.heap.objs.size + 4 := by rw [Heap.size_push, n3]
  have p5 : (mk5 s.heap t1 t2).get? (mk4 s.heap t1 t2).objs.size = some _ := Heap.get?_push_size _ rfl
  have p4 : (mk5 s.heap t1 t2).get? (mk3 s.heap t1 t2).objs.size = some _ := Heap.get?_push_of_some _ (Heap.get?_push_size _ rfl)
  have p3 : (mk5 s.heap t1 t2).get? (mk2 s.heap t1 t2).objs.size = some _ := Heap.get?_push_of_some _ (Heap.get?_push_of_some _ (Heap.get?_push_size _ rfl))
  have p2 : (mk5 s.heap t1 t2).get? (mk1 s.heap t1).objs.size = some _ := Heap.get?_push_of_some _ (Heap.get?_push_of_some _ (Heap.get?_push_of_some _ (Heap.get?_push_size _ rfl)))
  have p1 : (mk5 s.heap t1 t2).get? s.heap.objs.size = some _ := Heap.get?_push_of_some _ (Heap.get?_push_of_some _ (Heap.get?_push_of_some _ (Heap.get?_push_of_some _ (Heap.get?_push_size _ rfl))))
  show _ /\ _
  rw [n2, n3, n4] at p5
  rw [n1, n2] at p3
  rw [n3] at p4
  rw [n1] at p2
  rw [n4]
  exact ⟨⟨_, p5, rfl⟩, q _ p5 p3 p4 ⟨_, p1, rfl, rfl⟩ ⟨_, p2, rfl, rfl⟩ fun c o y => Heap.get?_push_of_some _ (Heap.get?_push_of_some _ (Heap.get?_push_of_some _ (Heap.get?_push_of_some _ (Heap.get?_push_of_some _ y))))⟩
end
end Zn
namespace L2
open PySem PySem.Spec PyProof.Rows
def Itn (K : PySem.W.Frag) (a b : Addr) : It :=
  ⟨fun i H => ∃ xs ys x y, SqL K H a xs /\ SqT K H b ys /\ xs[i]? = some x /\ ys[i]? = some y,
   fun i H v H' => ∃ p, H p = none /\ v = .ref p /\ ∃ x y, H' = upd H p (.tup [x, y]) /\ ∀ xs ys, SqL K H a xs -> SqT K H b ys -> xs[i]? = some x /\ ys[i]? = some y,
   fun i H => ∃ xs ys, SqL K H a xs /\ SqT K H b ys /\ (xs.length <= i ∨ ys.length <= i)⟩
theorem turn_zipN {P : Program} {w : World} {K : PySem.W.Frag} {tg : Expr} (htg : tupleTg tg = true) {z TI TO j1 j2 a b : Addr} (D : ZipApart z TI TO j1 j2 a b) :
    Turn P w K tg (Itn K a b) [z, TO, j1, j2, TI] z (fun i h => IsZip h z TI TO .none /\ IsPair h TI (.ref j1) (.ref j2) /\ (∃ u v, IsPair h TO u v) /\ h.IsListIter j1 a i /\ h.IsTupleIter j2 b i) where
  mem := List.mem_cons_self
  obj := fun i h st c hc => by
    obtain ⟨h1, h2, ⟨u, v, h3⟩, ⟨o4, h4, _, d4⟩, ⟨o5, h5, _, d5⟩⟩ := st
    have nof : ∀ {o : Obj} {vs : Array Value}, o.data = .fields vs -> ∀ v, o.data ≠ .cell v := fun e v q => by rw [e] at q; cases q
    have nos : ∀ {o : Obj} {vs : Array Value} {n : Nat}, o.data = .seq vs n -> ∀ v, o.data ≠ .cell v := fun e v q => by rw [e] at q; cases q
    simp only [List.mem_cons, List.not_mem_nil, or_false] at hc
    rcases hc with rfl | rfl | rfl | rfl | rfl
    · exact ⟨_, h1, nof rfl⟩
    · exact ⟨_, h3, nos rfl⟩
    · exact ⟨_, h4, nof d4⟩
    · exact ⟨_, h5, nof d5⟩
    · exact ⟨_, h2, nos rfl⟩
  keep := fun i h h' st k => by
    obtain ⟨h1, h2, ⟨u, v, h3⟩, ⟨o4, h4, r4⟩, ⟨o5, h5, r5⟩⟩ := st
    exact ⟨k _ (by simp) _ h1, k _ (by simp) _ h2, ⟨u, v, k _ (by simp) _ h3⟩, ⟨o4, k _ (by simp) _ h4, r4⟩, ⟨o5, k _ (by simp) _ h5, r5⟩⟩
  item := by
    intro X hP hw hK hc i pins s σ H E I hf st hg
    subst hP hw hK
    obtain ⟨h1, h2, ⟨u, v, h3⟩, h4, h5⟩ := st
    obtain ⟨xs, ys, x, y, qa, qb, hx, hy⟩ := hg
    obtain ⟨its, rv, pa', _⟩ := I.list qa
    obtain ⟨jts, rw', pb, _⟩ := I.tuple qb
    have pa := pa'.isList
    obtain ⟨ux, eux, rux⟩ := rv.get hx
    obtain ⟨uy, euy, ruy⟩ := rw'.get hy
    refine Zn.next_item D h1 h2 h3 h4 h5 (show s.heap.IsList a its.toArray from pa) (show s.heap.IsTuple b jts.toArray from pb) (x := ux) (y := uy) (by simpa using eux) (by simpa using euy) fun g b1 b2 b3 b4 b5 b6 => ?_
    refine ⟨_, rfl, ?_⟩
    have zlt : z < s.heap.objs.size := Heap.lt_size h1
    cases tg with
    | Tuple es kk pp =>
      refine wpAny_letOwnedTupleGo_zip b1 fun g' c1 sb => ?_
      have new : IsPair g' s.heap.objs.size ux uy := sb.extBut _ _ (Nat.ne_of_gt zlt) b5
      have I1 : Inv X pins σ (upd H s.heap.objs.size (.tup [x, y])) { s with heap := g' } := by
        refine I.turnedNew (t' := s.toks) (L := [z, TO, j1, j2, TI]) (fun c o hcn e => ?_) hf (Nat.le_refl _) ⟨by show 2 <= sizeLine; decide, [ux, uy], .cons rux (.cons ruy .nil), ⟨_, new, rfl, ⟨0, rfl⟩, rfl⟩⟩
        simp only [List.mem_cons, List.not_mem_nil, or_false, not_or] at hcn
        exact sb.extBut c o hcn.1 (b6 c o hcn.1 hcn.2.1 hcn.2.2.1 hcn.2.2.2.1 e)
      have h2' : IsPair g' TI (.ref j1) (.ref j2) := sb.extBut _ _ D.TIz (b6 _ _ D.TIz D.TITO D.TIi1 D.TIi2 h2)
      refine ⟨.ref s.heap.objs.size, _, I1, rfl, ⟨_, I.fresh, rfl, x, y, rfl, fun xs' ys' q1 q2 => ⟨by rw [I.list_inj q1 qa]; exact hx, by rw [I.tuple_inj q2 qb]; exact hy⟩⟩, ⟨c1, h2', ⟨_, _, sb.extBut _ _ D.TOz b2⟩, b3.extBut sb.extBut D.i1z, b4.extBut sb.extBut D.i2z⟩, fun c hcm => ?_⟩
      obtain ⟨o, eo, _⟩ : ∃ o, s.heap.get? c = some o /\ True := by
        simp only [List.mem_cons, List.not_mem_nil, or_false] at hcm
        rcases hcm with rfl | rfl | rfl | rfl | rfl
        · exact ⟨_, h1, trivial⟩
        · exact ⟨_, h3, trivial⟩
        · obtain ⟨o4, g4, _⟩ := h4
          exact ⟨_, g4, trivial⟩
        · obtain ⟨o5, g5, _⟩ := h5
          exact ⟨_, g5, trivial⟩
        · exact ⟨_, h2, trivial⟩
      rw [upd_ne (Nat.ne_of_lt (Heap.lt_size eo))]
      exact (hf c hcm).1
    | _ => exact absurd (show false = true from htg) Bool.false_ne_true
  done := by
    intro X hP hw hK hc i pins s σ H E I hf st hg
    subst hP hw hK
    obtain ⟨h1, h2, ⟨u, v, h3⟩, h4, h5⟩ := st
    obtain ⟨xs, ys, qa, qb, hl⟩ := hg
    obtain ⟨its, rv, pa', _⟩ := I.list qa
    obtain ⟨jts, rw', pb, _⟩ := I.tuple qb
    have pa := pa'.isList
    have e1 := rv.length
    have e2 := rw'.length
    refine Zn.next_stop (I.ok.hd hc) D h1 h2 h3 h4 h5 (show s.heap.IsList a its.toArray from pa) (show s.heap.IsTuple b jts.toArray from pb) ?_ fun g up => ⟨rfl, ?_⟩
    · rcases hl with hl | hl
      · exact .inl (by simp; omega)
      · exact .inr (by simp; omega)
    · refine I.turnedL (t' := s.toks) (L := [z, TO, j1, j2, TI]) (fun c o hcn e => ?_) hf
      simp only [List.mem_cons, List.not_mem_nil, or_false, not_or] at hcn
      exact up c o hcn.1 hcn.2.1 hcn.2.2.1 hcn.2.2.2.1 e
  self := fun _ _ _ _ _ st h => wpAny_pyIter_zip st.1 h
section
variable {X : Cx} {tg : Expr}
def iZipN (K : PySem.W.Frag) (ta : TA) : TI := fun σ H R => ta σ H fun vs H1 => ∃ a b, vs = [.ref a, .ref b] /\ (∃ xs, SqL K H1 a xs) /\ (∃ ys, SqT K H1 b ys) /\ R (Itn K a b) H1
theorem pi_zipN {e1 e2 : Expr} {ta : TA} {p pos : Pos} (htg : tupleTg tg = true) (hg : Gl X "zip") (hm : X.mg "zip" = none) (ha : PA X [e1, e2] ta) (hs : starEach [e1, e2] X.env = [(false, eval e1 X.env), (false, eval e2 X.env)] := by rfl) (hs2 : starEach [e2] X.env = [(false, eval e2 X.env)] := by rfl)
    (hb : bootBuiltins "zip" = some (.type "zip") := by decide +kernel) : PI X tg (.Call (.Name "zip" p) [e1, e2] [] pos) (iZipN X.K ta) := by
  intro pins s σ H R I h
  refine Call_ (ld_blt I hg hm hb (PyProof.Rows.callWith_type1 (thn (ha pos pins s σ H _ I h) fun us s1 ⟨vs, H1, I1, r1, q1⟩ => ?_) (by rw [hs, hs2]) (by rw [hs2]; rfl)))
  obtain ⟨a, b, e, ⟨xs, qa⟩, ⟨ys, qb⟩, q⟩ := q1
  subst e
  obtain ⟨u1, u2, rfl, ra, rb⟩ := vals2 r1
  cases ra
  cases rb
  obtain ⟨its, rv, pa', _⟩ := I1.list qa
  obtain ⟨jts, rw', pb, _⟩ := I1.tuple qb
  have pa := pa'.isList
  have la : a < s1.heap.objs.size := by obtain ⟨o, e, _⟩ := pa; exact Heap.lt_size e
  have lb : b < s1.heap.objs.size := by obtain ⟨o, e, _⟩ := pb; exact Heap.lt_size e
  refine Zn.make (show s1.heap.IsList a its.toArray from pa) (show s1.heap.IsTuple b jts.toArray from pb) fun g z1 z2 z3 z4 z5 up => ?_
  refine wpAny_pyIter_zip z1 ?_
  have I2 : Inv X pins σ H1 { s1 with heap := g } := I1.kept (t' := s1.toks) up
  refine ⟨_, [s1.heap.objs.size + 4, s1.heap.objs.size + 3, s1.heap.objs.size, s1.heap.objs.size + 1, s1.heap.objs.size + 2], _, _, H1, rfl, I2, turn_zipN htg (apart_new la lb), ⟨z1, z2, ⟨_, _, z3⟩, z4, z5⟩, fun c hc => ?_, q⟩
  have big : s1.heap.objs.size <= c := by
    simp only [List.mem_cons, List.not_mem_nil, or_false] at hc
    rcases hc with rfl | rfl | rfl | rfl | rfl
    · exact Nat.le_add_right _ _
    · exact Nat.le_add_right _ _
    · exact Nat.le_refl _
    · exact Nat.le_add_right _ _
    · exact Nat.le_add_right _ _
  exact I1.fpOk big (I1.hok.fresh big)
end
theorem qi_zipN {X : Cx} {tg : Expr} {e1 e2 : Expr} {ta : TA} {p pos : Pos} (htg : tupleTg tg = true) (hg : Gl X "zip") (hm : X.mg "zip" = none) (ha : QA X [e1, e2] ta) (hs : starEach [e1, e2] X.env = [(false, eval e1 X.env), (false, eval e2 X.env)] := by rfl) (hs2 : starEach [e2] X.env = [(false, eval e2 X.env)] := by rfl)
    (hb : bootBuiltins "zip" = some (.type "zip") := by decide +kernel) : QI X tg (.Call (.Name "zip" p) [e1, e2] [] pos) (iZipN X.K ta) := ⟨pi_zipN htg hg hm ha.o hs hs2 hb⟩
theorem comp_zipN {K : PySem.W.Frag} {a b D : Addr} {js : List (Option Nat)} {g : TG} {te : TE} {σ : St} {H1 : Hp} {Q : VK} {xs ys : List V} (hn : min xs.length ys.length <= sizeLine) (Pv : Nat -> St -> Hp -> List V -> Prop) (h0 : Pv 0 (pick js σ) (upd H1 D (.lst [])) [])
    (hl : ∀ i σ' H' zs, H' D = some (.lst zs) -> Pv i σ' H' zs -> SqL K H' a xs /\ SqT K H' b ys)
    (hs : ∀ i x y p σ' H' zs (R : St -> V -> Hp -> Prop), xs[i]? = some x -> ys[i]? = some y -> H' p = none -> H' D = some (.lst zs) -> zs.length = i -> Pv i σ' H' zs -> (∀ σ2 z H4, H4 D = some (.lst zs) -> Pv (i + 1) σ2 (upd H4 D (.lst (zs ++ [z]))) (zs ++ [z]) -> R σ2 z H4) ->
      g (.ref p) σ' (upd H' p (.tup [x, y])) fun σ2 H3 => te σ2 H3 fun z H4 => R σ2 z H4)
    (hst : ∀ σ' H' zs, H' D = some (.lst zs) -> zs.length = min xs.length ys.length -> Pv (min xs.length ys.length) σ' H' zs -> Q (.ref D) H') : CompW (Itn K a b) D js g tNoTest te σ H1 Q := by
  refine comp_plain hn Pv h0 (fun i σ' H' zs hi hD p => ?_) (fun σ' H' zs hD b' c => ⟨?_, hst σ' H' zs hD b' c⟩) fun i σ' H' zs x H2 R hi hD hz p hx k => ?_
  · obtain ⟨qa, qb⟩ := hl i σ' H' zs hD p
    have h1 : i < xs.length := by omega
    have h2 : i < ys.length := by omega
    exact ⟨xs, ys, xs[i], ys[i], qa, qb, by simp [h1], by simp [h2]⟩
  · obtain ⟨qa, qb⟩ := hl _ σ' H' zs hD c
    exact ⟨xs, ys, qa, qb, by omega⟩
  · obtain ⟨qa, qb⟩ := hl i σ' H' zs hD p
    obtain ⟨q, hq, rfl, x', y', rfl, hxy⟩ := hx
    obtain ⟨ex, ey⟩ := hxy xs ys qa qb
    exact hs i x' y' q σ' H' zs R ex ey hq hD hz p k
end L2
namespace L2
open PySem PySem.Spec PyProof.Rows
end L2
namespace Tp
open PySem PyProof.Rows
open AutoSeq1 (wpAny_loadPart')
end Tp
namespace W2
open L2 PySem PySem.Spec PyProof.Rows
end W2
namespace Mth
end Mth
namespace W2
open PySem L2
end W2
namespace Mth
open W2
end Mth
namespace Mth
open W2
end Mth
namespace Sts
open PySem PyProof.Rows
def zz (e : Int × Value) : Int × Value := (e.1, .none)
theorem ins_map (xs : Array (Int × Value)) (p : Nat) (x : Int × Value) : (SetTable.insertAt xs p x).map zz = SetTable.insertAt (xs.map zz) p (zz x) := by
  unfold SetTable.insertAt
  simp [Array.map_append, Array.map_push, Array.map_extract]
theorem lay_map (t : SetTable) (es : Array (Int × Value)) (h : Int) (x : Value) : layNew t (es.map zz) h .none = ((layNew t es h x).1.map zz, (layNew t es h x).2) := by
  unfold layNew
  cases t.freeSlot h with
  | none => simp [zz]
  | some q =>
    obtain ⟨sl, wd⟩ := q
    have e1 := ins_map es (t.put sl).2 (h, x)
    have e2 : (SetTable.insertAt (es.map zz) (t.put sl).2 (h, .none)).size = (SetTable.insertAt es (t.put sl).2 (h, x)).size := by
      rw [show ((h, .none) : Int × Value) = zz (h, x) from rfl, ← e1, Array.size_map]
    simp only [e2]
    rw [e1]
    rfl
theorem relay_map (t : SetTable) (es : Array (Int × Value)) (n : Nat) : relayAll t (es.map zz) n = ((relayAll t es n).1.map zz, (relayAll t es n).2) := by
  unfold relayAll
  have e0 : (es.map zz).map (·.1) = es.map (·.1) := by
    rw [Array.map_map]
    rfl
  rw [e0]
  cases t.relaid (es.map (·.1)) n with
  | none => simp
  | some q =>
    obtain ⟨t', order⟩ := q
    have e1 : order.filterMap (fun i => (es.map zz)[i]?) = (order.filterMap (fun i => es[i]?)).map zz := by
      rw [Array.map_filterMap]
      congr 1
      funext i
      rw [Array.getElem?_map]
    simp only [e1, Array.size_map]
    split <;> rfl
def stp1 (p : Array (Int × Value) × SetTable) (h : Int) : Array (Int × Value) × SetTable :=
  if (!(layNew p.2 p.1 h .none).2.2.1 && (layNew p.2 p.1 h .none).2.1.tooFull) = true then
    ((relayAll (layNew p.2 p.1 h .none).2.1 (layNew p.2 p.1 h .none).1 (SetTable.grown (layNew p.2 p.1 h .none).1.size)).1, (relayAll (layNew p.2 p.1 h .none).2.1 (layNew p.2 p.1 h .none).1 (SetTable.grown (layNew p.2 p.1 h .none).1.size)).2.1)
  else ((layNew p.2 p.1 h .none).1, (layNew p.2 p.1 h .none).2.1)
def runT (led : Bool) (hs : List Int) : Array (Int × Value) × SetTable := hs.foldl stp1 (#[], SetTable.fresh 0 0 led)
def slotAt (pl : Array Nat) : Nat -> Nat
  | 0 => 0
  | m + 1 => pl.getD m 0 + 1
def okT (led : Bool) (n : Nat) (p : Array (Int × Value) × SetTable) : Bool :=
  p.1.size == n && p.2.plain && (p.2.led == led) && p.2.place.size == n && (List.range (n + 1)).all fun m => SetTable.below p.2.place (slotAt p.2.place m) == m
def subs : Nat -> Nat -> List (List Int)
  | _, 0 => [[]]
  | k, n + 1 => subs (k + 1) n ++ (subs (k + 1) n).map fun l => (k : Int) :: l
def chk (p : List Int) : Bool := (subs 5 5).all fun q => okT true (p ++ q).length (runT true (p ++ q))
theorem all_chk : ∀ q ∈ subs 2 3, ∀ r ∈ subs 0 2, chk (r ++ q) = true := by decide +kernel
theorem mem_subs : ∀ (n k : Nat) (l : List Int), l.Pairwise (· < ·) -> (∀ x ∈ l, (k : Int) <= x /\ x < (k : Int) + (n : Int)) -> l ∈ subs k n
  | 0, k, l, _, h => by
    cases l with
    | nil => exact List.mem_singleton.mpr rfl
    | cons a l => have := h a (List.mem_cons_self ..); omega
  | n + 1, k, l, hp, h => by
    show l ∈ subs (k + 1) n ++ (subs (k + 1) n).map fun l => (k : Int) :: l
    cases l with
    | nil => exact List.mem_append_left _ (mem_subs n (k + 1) [] .nil fun x hx => by cases hx)
    | cons a l =>
      have hp' := List.pairwise_cons.mp hp
      have ha := h a (List.mem_cons_self ..)
      by_cases e : a = (k : Int)
      · refine List.mem_append_right _ (List.mem_map.mpr ⟨l, mem_subs n (k + 1) l hp'.2 fun x hx => ?_, by rw [e]⟩)
        have h1 := hp'.1 x hx
        have h2 := (h x (List.mem_cons_of_mem _ hx)).2
        omega
      · refine List.mem_append_left _ (mem_subs n (k + 1) (a :: l) hp fun x hx => ?_)
        have h2 := (h x hx).2
        rcases List.mem_cons.mp hx with rfl | hx
        · omega
        · have h1 := hp'.1 x hx
          omega
theorem split_at (c : Int) : ∀ l : List Int, l.Pairwise (· < ·) -> l = (l.filter fun x => decide (x < c)) ++ l.filter fun x => !decide (x < c)
  | [], _ => rfl
  | a :: l, h => by
    have h' := List.pairwise_cons.mp h
    have ih := split_at c l h'.2
    by_cases ha : a < c
    · rw [List.filter_cons_of_pos (by rw [decide_eq_true ha]), List.filter_cons_of_neg (by rw [decide_eq_true ha]; decide), List.cons_append, ← ih]
    · have e1 : l.filter (fun x => decide (x < c)) = [] := List.filter_eq_nil_iff.mpr fun x hx => by
        have := h'.1 x hx
        rw [decide_eq_false (by omega)]
        decide
      rw [List.filter_cons_of_neg (by rw [decide_eq_false ha]; decide), List.filter_cons_of_pos (by rw [decide_eq_false ha]; rfl), e1, List.nil_append]
      rw [e1, List.nil_append] at ih
      rw [← ih]
theorem run_ok {l : List Int} (hp : l.Pairwise (· < ·)) (h : ∀ x ∈ l, 0 <= x /\ x < 10) : okT true l.length (runT true l) = true := by
  have e1 := split_at 5 l hp
  have hp1 : (l.filter fun x => decide (x < 5)).Pairwise (· < ·) := List.Pairwise.filter _ hp
  have e2 := split_at 2 _ hp1
  have m1 : (l.filter fun x => !decide (x < 5)) ∈ subs 5 5 := mem_subs 5 5 _ (List.Pairwise.filter _ hp) fun x hx => by
    obtain ⟨h1, h2⟩ := List.mem_filter.mp hx
    have h3 := h x h1
    have h4 : ¬ x < 5 := fun z => by rw [decide_eq_true z] at h2; cases h2
    omega
  have m2 : ((l.filter fun x => decide (x < 5)).filter fun x => !decide (x < 2)) ∈ subs 2 3 := mem_subs 3 2 _ (List.Pairwise.filter _ hp1) fun x hx => by
    obtain ⟨h1, h2⟩ := List.mem_filter.mp hx
    obtain ⟨h3, h4⟩ := List.mem_filter.mp h1
    have h5 : ¬ x < 2 := fun z => by rw [decide_eq_true z] at h2; cases h2
    have h6 := of_decide_eq_true h4
    omega
  have m3 : ((l.filter fun x => decide (x < 5)).filter fun x => decide (x < 2)) ∈ subs 0 2 := mem_subs 2 0 _ (List.Pairwise.filter _ hp1) fun x hx => by
    obtain ⟨h1, h2⟩ := List.mem_filter.mp hx
    obtain ⟨h3, _⟩ := List.mem_filter.mp h1
    have h4 := h x h3
    have h5 := of_decide_eq_true h2
    omega
  have hc := List.all_eq_true.mp (all_chk _ m2 _ m3) _ m1
  rw [← e2, ← e1] at hc
  exact hc
end Sts
namespace Sts
open PySem PyProof.Rows
section
variable {prog : Program} {w : World} {A : Around} {E : Value -> Shared -> Prop} {s : Shared}
theorem way (b : Bool) {z : Shared} {R : Unit -> Shared -> Prop} (r : R () z) : wpAny (model prog w) A (match b with | true => rule "set.scan.the-table-gave-way" | false => pure ()) R E z := by
  cases b with
  | true => exact wpAny_rule r
  | false => exact wpAny_pure r
theorem put_at {z : Shared} {a : Addr} {o : Obj} {es es' : Array (Int × Value)} {ep : Nat} {t t' : SetTable} (g1 : z.heap.get? a = some o) (g3 : o.data = .set es ep t) :
    (z.heap.update a (Obj.putSet es' t')).get? a = some { o with data := .set es' (ep + 1) t' } := by
  have u := Heap.get?_update_self (Obj.putSet es' t') g1 (by rw [putSet_of es' t' g3]; rfl)
  rw [putSet_of es' t' g3] at u
  exact u
theorem add_x {a : Addr} {o : Obj} {es : Array (Int × Value)} {ep : Nat} {t : SetTable} {k : Int} {tk : Tok} {Q : Bool -> Shared -> Prop}
    (g1 : s.heap.get? a = some o) (g3 : o.data = .set es ep t) (g4 : ElemsOf (intKind prog w) es.toList) (g5 : es.size + 1 < scanBound) (g6 : t.fits es.size = true) (g7 : ∀ e ∈ es.toList, (intKind prog w).is k e.2 = false)
    (h : ∀ h' es' ep' t', Heap.SameBut a s.heap h' -> h'.get? a = some { o with data := .set es' ep' t' } -> es'.toList.Perm (es.toList ++ [(hashInt k, .int k tk)]) -> t'.fits es'.size = true -> (es'.map zz, t') = stp1 (es.map zz, t) (hashInt k) -> Q true { s with heap := h' }) :
    wpAny (model prog w) A (setAddHashed a (.int k tk) (hashInt k)) Q E s := by
  have sc : (Value.int k tk).scannable = true := rfl
  have ik : (intKind prog w).is k (.int k tk) = true := intKind_is _ _ _ _
  unfold setAddHashed setAddHashedIn; refine wpAny_holding (wpAny_bind (wpAny_setState_of g1 g3 g6 ?_))
  dsimp only
  rw [byScan_of sc (by omega) g4]
  simp only [↓reduceIte]
  unfold setAddByScan
  refine wpAny_bind (wpAny_bind (wpAny_rule (wpAny_bind (wpAny_setScan_of ik g1 g3 g6 g4 ?_))))
  have no : List.findIdx? (fun e => (intKind prog w).is k e.2) es.toList = none := List.findIdx?_eq_none_iff.mpr g7
  rw [no]
  dsimp only
  have pm := layNew_perm t es (hashInt k) (.int k tk)
  have ft := layNew_fits t es (hashInt k) (.int k tk)
  have lm := lay_map t es (hashInt k) (.int k tk)
  have st : stp1 (es.map zz, t) (hashInt k) = if (!(layNew t es (hashInt k) (.int k tk)).2.2.1 && (layNew t es (hashInt k) (.int k tk)).2.1.tooFull) = true then
      (((relayAll (layNew t es (hashInt k) (.int k tk)).2.1 (layNew t es (hashInt k) (.int k tk)).1 (SetTable.grown (layNew t es (hashInt k) (.int k tk)).1.size)).1).map zz, (relayAll (layNew t es (hashInt k) (.int k tk)).2.1 (layNew t es (hashInt k) (.int k tk)).1 (SetTable.grown (layNew t es (hashInt k) (.int k tk)).1.size)).2.1)
      else ((layNew t es (hashInt k) (.int k tk)).1.map zz, (layNew t es (hashInt k) (.int k tk)).2.1) := by
    unfold stp1
    simp only [lm, relay_map, Array.size_map]
  generalize layNew t es (hashInt k) (.int k tk) = L at pm ft st ⊢
  obtain ⟨es1, t1, wd, gv⟩ := L
  dsimp only at pm ft st ⊢
  rw [Array.toList_push] at pm
  have z1 : es1.size = es.size + 1 := by
    have := pm.length_eq
    rw [List.length_append, Array.length_toList, Array.length_toList] at this
    exact this
  have zb : es1.size <= sizeLine := fits_of_scanBound (by omega)
  have tail : ∀ {R : Option Bool -> Shared -> Prop}, (∀ h' es' ep' t', Heap.SameBut a s.heap h' -> h'.get? a = some { o with data := .set es' ep' t' } -> es'.toList.Perm (es.toList ++ [(hashInt k, .int k tk)]) -> t'.fits es'.size = true -> (es'.map zz, t') = stp1 (es.map zz, t) (hashInt k) -> R (some true) { s with heap := h' }) ->
      wpAny (model prog w) A (do
        storeSet a es1 t1
        if (!wd && t1.tooFull) = true then do
            (match (relayAll t1 es1 (SetTable.grown es1.size)).2.2 with | true => rule "set.scan.the-table-gave-way" | false => pure ())
            storeSet a (relayAll t1 es1 (SetTable.grown es1.size)).1 (relayAll t1 es1 (SetTable.grown es1.size)).2.1
            pure (some true)
          else pure (some true)) R E s := fun {R} r => by
    refine wpAny_bind (wpAny_storeSet_of g1 g3 ?_ zb)
    have at1 := put_at (es' := es1) (t' := t1) g1 g3
    have sb1 := Heap.SameBut.update s.heap a (Obj.putSet es1 t1)
    by_cases c : (!wd && t1.tooFull) = true
    · rw [if_pos c]
      rw [if_pos c] at st
      have pr := relayAll_perm t1 es1 (SetTable.grown es1.size)
      have fr := relayAll_fits t1 es1 (SetTable.grown es1.size)
      generalize relayAll t1 es1 (SetTable.grown es1.size) = L2 at pr fr st ⊢
      obtain ⟨es2, t2, gv2⟩ := L2
      dsimp only at pr fr st ⊢
      have z2 : es2.size = es1.size := by
        have := pr.length_eq
        rw [Array.length_toList, Array.length_toList] at this
        exact this
      refine wpAny_bind (way gv2 (wpAny_bind (wpAny_storeSet_of at1 rfl ?_ (by omega))))
      exact wpAny_pure (r _ es2 _ t2 (sb1.trans (Heap.SameBut.update _ a _)) (put_at (z := { s with heap := s.heap.update a (Obj.putSet es1 t1) }) (o := { o with data := .set es1 (ep + 1) t1 }) at1 rfl) (pr.trans pm) fr st.symm)
    · rw [if_neg c]
      rw [if_neg c] at st
      exact wpAny_pure (r _ es1 _ t1 sb1 at1 pm ft st.symm)
  refine wpAny_bind (way gv ?_)
  split
  · refine wpAny_bind ?_
    rw [hashByValue_scannable 8 sc]
    refine wpAny_pure ?_
    exact tail fun h' es' ep' t' a1 a2 a3 a4 a5 => wpAny_pure (h h' es' ep' t' a1 a2 a3 a4 a5)
  · refine wpAny_bind (wpAny_pure ?_)
    exact tail fun h' es' ep' t' a1 a2 a3 a4 a5 => wpAny_pure (h h' es' ep' t' a1 a2 a3 a4 a5)
end
end Sts
namespace Sts
open PySem PyProof.Rows
def intV : Value -> Int
  | .int i _ => i
  | _ => 0
def Lies (prog : Program) (w : World) (h : Heap) (a : Addr) (led : Bool) (ns : List Int) : Prop :=
  ∃ o es ep t, h.get? a = some o /\ o.ExactSet /\ o.data = .set es ep t /\ ElemsOf (intKind prog w) es.toList /\ t.fits es.size = true /\ (es.toList.map fun e => intV e.2).Perm ns /\ (es.map zz, t) = runT led (ns.map hashInt)
theorem Lies.at {prog : Program} {w : World} {h h' : Heap} {a : Addr} {led : Bool} {ns : List Int} (l : Lies prog w h a led ns) (e : ∀ o, h.get? a = some o -> h'.get? a = some o) : Lies prog w h' a led ns := by
  obtain ⟨o, es, ep, t, h1, h2⟩ := l
  exact ⟨o, es, ep, t, e _ h1, h2⟩
section
variable {prog : Program} {w : World} {A : Around} {R : Result -> Shared -> Prop} {I : Addr} {fp wr : List Addr} {n : Nat} {P : Nat -> Value -> Prop} {St : Nat -> Heap -> Prop} {led : Bool}
theorem grow {E : Value -> Shared -> Prop} {s : Shared} {S : Addr} {ns : List Int} {k : Int} {tk : Tok} {Q : Bool -> Shared -> Prop} (l : Lies prog w s.heap S led ns) (hk : k ∉ ns) (hb : ns.length + 1 < scanBound)
    (q : ∀ h', Heap.SameBut S s.heap h' -> Lies prog w h' S led (ns ++ [k]) -> Q true { s with heap := h' }) : wpAny (model prog w) A (setAddHashed S (.int k tk) (hashInt k)) Q E s := by
  obtain ⟨o, es, ep, t, g1, g2, g3, g4, g6, gp, gr⟩ := l
  have hz : es.size = ns.length := by
    have := gp.length_eq
    rw [List.length_map, Array.length_toList] at this
    exact this
  refine add_x g1 g3 g4 (by omega) g6 (fun e he => ?_) fun h' es' ep' t' b1 b2 b3 b4 b5 => q h' b1 ⟨_, es', ep', t', b2, g2, rfl, ?_, b4, ?_, ?_⟩
  · obtain ⟨⟨j, hj, _⟩, _⟩ := g4 e he
    obtain ⟨tj, ej⟩ := Value.isInt_shape hj
    have hm : j ∈ ns := gp.mem_iff.mp (List.mem_map.mpr ⟨e, he, by rw [ej]; rfl⟩)
    cases hz : (intKind prog w).is k e.2 with
    | false => rfl
    | true =>
      have := (intKind prog w).inj e.2 k j hz hj
      rw [this] at hk
      exact absurd hm hk
  · exact (g4.push (intKind_is _ _ _ _) rfl).perm b3
  · refine (b3.map _).trans ?_
    rw [List.map_append]
    exact gp.append_right _
  · rw [b5, gr, List.map_append]
    unfold runT
    rw [List.foldl_append]
    rfl
theorem loop_x (W : Walks prog w A.in1 I fp wr n P St) (S : Addr) (hSf : S ∉ fp) (ns : List Int) (hn : ns.length = n) (hval : ∀ i v, P i v -> ∃ t, v = .int (ns.getD i 0) t) (hd : ns.Nodup) (hb : n + 1 < scanBound) :
    ∀ (k i : Nat) (s : Shared), n - i = k -> i <= n -> St i s.heap -> Lies prog w s.heap S led (ns.take i) ->
      (∀ h' tk', (∀ b o, b ≠ S -> b ∉ wr -> s.heap.get? b = some o -> h'.get? b = some o) -> Lies prog w h' S led ns -> R (.ok (.ret .none)) { s with heap := h', toks := tk' }) ->
      (codeAny (model prog w) A (.builtin "set.update.loop" ⟨[.ref S, .ref I], []⟩) R s) := by
  have hSw : S ∉ wr := fun z => hSf (W.sub _ z)
  intro k
  induction k with
  | zero =>
    intro i s hk hi st l r
    have e : i = n := by omega
    subst e
    refine codeAny_builtin F.entry_set_update_loop ?_; rw [Around.under_plainId F.plain_set_update_loop _]; show wpAny _ A.in1 (pyNext (.ref I) >>= _) _ _ s
    refine wpAny_bind (W.done s _ _ st fun h' tk' kp => wpAny_pure (r h' tk' (fun b o _ nw e => kp b o nw e) ?_))
    rw [List.take_of_length_le (by omega)] at l
    exact l.at fun o e => kp S o hSw e
  | succ k ih =>
    intro i s hk hi st l r
    refine codeAny_builtin F.entry_set_update_loop ?_; rw [Around.under_plainId F.plain_set_update_loop _]; show wpAny _ A.in1 (pyNext (.ref I) >>= _) _ _ s
    refine wpAny_bind (W.item i s _ _ (by omega) st fun v h1 t1 hP st1 kp => ?_)
    obtain ⟨tv, rfl⟩ := hval i v hP
    have l1 : Lies prog w h1 S led (ns.take i) := l.at fun o e => kp S o hSw e
    have hlt : i < ns.length := by omega
    have hg : ns.getD i 0 = ns[i] := by rw [List.getD_eq_getElem?_getD, List.getElem?_eq_getElem hlt]; rfl
    have et : ns.take (i + 1) = ns.take i ++ [ns.getD i 0] := by rw [List.take_add_one, List.getElem?_eq_getElem hlt, hg]; rfl
    have hnm : ns.getD i 0 ∉ ns.take i := fun z => by
      have hd' : (ns.take (i + 1)).Nodup := hd.sublist (List.take_sublist _ _)
      rw [et] at hd'
      exact (List.nodup_append.mp hd').2.2 _ z _ (List.mem_singleton.mpr rfl) rfl
    show wpAny _ A.in1 (holding [Value.int (ns.getD i 0) tv] (setAdd S (.int (ns.getD i 0) tv)) >>= _) _ _ _
    refine wpAny_bind (wpAny_holding ?_); unfold setAdd
    refine wpAny_holding (wpAny_bind ((intKind prog w).pyHash (k := ns.getD i 0) (intKind_is _ _ _ _) ?_))
    refine grow (s := { s with heap := h1, toks := t1 + 1 }) l1 hnm (by rw [List.length_take]; omega) fun h2 sb l2 => ?_
    rw [← et] at l2
    refine wpAny_pure ⟨plainId_quiet F.plain_set_update_loop _, ih (i + 1) _ (by omega) (by omega) (W.frame _ h1 h2 st1 fun b hb o e => ?_) l2 fun h' tk' kp2 l3 => ?_⟩
    · rw [sb.2 b fun z : b = S => hSf (z ▸ hb)]; exact e
    · exact r h' tk' (fun b o n1 n2 e => kp2 b o n1 n2 (by rw [sb.2 b n1]; exact kp b o n2 e)) l3
end
end Sts
namespace Sts
open PySem PyProof.Rows
section
variable {prog : Program} {w : World} {A : Around} {E : Value -> Shared -> Prop} {s : Shared}
def ledW (w : World) : Bool := !(w.params.followText "set-order")
def newS (w : World) : Obj := { cls := .type "set", dict := none, data := .set #[] 0 (.fresh 0 0 (ledW w)) }
theorem code_new (a : Value) {K : Value -> Shared -> Prop} (k : K (.ref s.heap.objs.size) { s with heap := s.heap.push (newS w) }) :
    codeAny (model prog w) A (.call (.builtin "set.__new__") ⟨[.type "set", a], []⟩) (wants K E) s := by
  refine codeAny_of_tree (show wpAny _ A.in1 (do checkBuiltinCall "set.__new__" ⟨[.type "set", a], []⟩; again (.builtin "set.__new__" ⟨[.type "set", a], []⟩)) _ _ s from ?_)
  refine wpAny_bind (wpAny_of_eq (F.newCall_set_1 a) (wpAny_pure ⟨plainId_quiet F.plain_set_new _, codeAny_builtin F.entry_set_new (?_ : wpAny _ _ _ _ _ _)⟩))
  rw [Around.under_plainId F.plain_set_new _]; unfold Builtin.«set.__new__» Builtin.Frozenset.newClass
  have sub := sub_set_self
  obtain ⟨hp, g, d, tk, os⟩ := s
  dsimp only; wp_walk
  refine wpAny_askSetting (wpAny_pure ?_); dsimp only; simp only [newObj]
  refine wpAny_bind (wpAny_alloc (wpAny_pure (wpAny_pure ?_)))
  exact k
theorem call_setX {l : Addr} {vs : List Value} {ns : List Int} {Q : Value -> Shared -> Prop} (hh : A.handled = none) (hl : s.heap.IsList l vs.toArray) (hi : IntsAre vs ns) (hd : ns.Nodup) (hb : vs.length + 1 < scanBound)
    (k : ∀ (h' : Heap) (tk : Nat), Lies prog w h' s.heap.objs.size (ledW w) ns -> (∀ b o, b < s.heap.objs.size -> s.heap.get? b = some o -> h'.get? b = some o) -> Q (.ref s.heap.objs.size) { s with heap := h', toks := tk }) :
    (wpAny (model prog w) A (call (.type "set") [.ref l]) Q E s) := by
  obtain ⟨c, tl, hmro⟩ := F.called_set.mro; have hmade := F.called_set.made; have hsub := F.called_set.sub
  refine wpAny_call (codeAny_of_tree (show wpAny _ _ (callAny (.type "set") _) _ _ _ from wpAny_pure ⟨Code.quiet_builtin _ (by decide +kernel), codeAny_builtin F.entry_type_call (?_ : wpAny _ _ _ _ _ _)⟩))
  rw [Around.under_plain (weight_type_call_type "set" [.ref l] []) rfl]; have h1 := F.called_set.notType; have h2 := F.called_set.canCreate; have hct := F.typeCall_set_1 (.ref l)
  repeat (any_goals (first | wp_step | assumption))
  refine codeAny_mono (code_new (.ref l) (E := E) (K := fun obj z => obj = .ref s.heap.objs.size /\ z = { s with heap := s.heap.push (newS w) }) ⟨rfl, rfl⟩) fun r z hr => ?_
  cases r with
  | error e => exact hr
  | ok fl =>
    cases fl with
    | ret obj =>
      obtain ⟨rfl, rfl⟩ := hr
      have hS : (s.heap.push (newS w)).get? s.heap.objs.size = some (newS w) := Heap.get?_push_size _ rfl
      have hT : Shared.TypeIs { s with heap := s.heap.push (newS w) } (.ref s.heap.objs.size) "set" := ⟨_, hS, rfl⟩
      have hli := F.called_set.init.lookup; have hbi := F.called_set.init.bind (.ref s.heap.objs.size)
      repeat (any_goals (first | wp_step | assumption))
      refine codeAny_mono (codeAny_call_builtin (R := wants (fun r z2 => r = .none /\ ∃ h' tk, z2 = { s with heap := h', toks := tk } /\ Lies prog w h' s.heap.objs.size (ledW w) ns /\ (∀ b o, b < s.heap.objs.size -> s.heap.get? b = some o -> h'.get? b = some o)) E) F.called_set.init.plain F.entry_set_init (check_set_init_1 hT ?_)) fun r2 z2 hr2 => ?_
      · obtain ⟨⟨ocls, odict, odata, oslots⟩, hol, hcl, nl, hdl⟩ := id hl
        simp only at hcl hdl; subst hcl; subst hdl
        have hol' := Heap.get?_push_of_some (newS w) hol
        have hsls := F.sub_list_set; have hslf := F.sub_list_frozenset; have hne : (Value.type "list" == Value.type "dict") = false := by decide
        have hl1 : (s.heap.push (newS w)).IsList l vs.toArray := ⟨_, hol', rfl, nl, rfl⟩
        unfold Builtin.«set.__init__» noKeywords Builtin.Frozenset.updateFrom; generalize hPI : pyIter = PI
        unfold newS at hS hT hol' hl1 ⊢
        wp_walk
        subst hPI
        refine wpAny_pyIter_list hl1 (wpAny_bind (wpAny_runValue ?_))
        have hlS : l < s.heap.objs.size := (Heap.lt_size hol)
        have nI : l ≠ (s.heap.push (newS w)).objs.size := by rw [Heap.size_push]; exact fun z => Nat.ne_of_lt (Nat.lt_succ_of_lt hlS) z
        have nS : s.heap.objs.size ∉ [(s.heap.push (newS w)).objs.size, l] := by
          rw [Heap.size_push]; simp only [List.mem_cons, List.not_mem_nil, or_false, not_or]; exact ⟨fun z => Nat.ne_of_lt (Nat.lt_succ_self _) z, fun z => Nat.ne_of_gt hlS z⟩
        have hv : ∀ (i : Nat) (v : Value), vs.toArray[i]? = some v -> ∃ t, v = .int (ns.getD i 0) t := fun i v e => IntsAre.int_at hi i v (by simpa using e)
        have hlen : ns.length = vs.toArray.size := by rw [List.size_toArray, hi.length]
        refine loop_x (led := ledW w) (Walks.list (A := A.in1.in1.in1) hh _ l nI vs.toArray) s.heap.objs.size nS ns hlen hv hd (by rw [List.size_toArray]; exact hb) (vs.toArray.size - 0) 0 _ rfl (Nat.zero_le _) ⟨⟨_, Heap.get?_push_size _ rfl, rfl, rfl⟩, hl1.push _⟩ ?_ fun h' tk kp l2 => ?_
        · exact ⟨_, #[], 0, _, Heap.get?_push_of_some _ hS, ⟨rfl, rfl, rfl⟩, rfl, fun e he => by simp at he, rfl, List.Perm.refl _, by simp [runT]⟩
        · refine wpAny_pure (show wpAny _ _ (ret Value.none) _ _ _ from wpAny_pure ⟨rfl, h', tk, rfl, l2, fun b o hb2 e => kp b o (fun z => Nat.ne_of_lt hb2 z) (fun z => ?_) (Heap.get?_push_of_some _ (Heap.get?_push_of_some _ e))⟩)
          have : b = (s.heap.push (newS w)).objs.size := List.mem_singleton.mp z
          rw [Heap.size_push] at this; rw [this] at hb2; exact Nat.not_lt.mpr (Nat.le_succ _) hb2
      · cases r2 with
        | error e => exact hr2
        | ok fl2 =>
          cases fl2 with
          | ret r =>
            obtain ⟨rfl, h', tk, rfl, l2, kp⟩ := hr2
            repeat (any_goals (first | wp_step | assumption))
            exact k _ _ l2 kp
          | _ => exact hr2.elim
    | _ => exact hr.elim
end
end Sts
namespace Sts
open PySem PyProof.Rows
theorem slot_next : Slot "set_iterator" "__next__" "set_iterator.__next__" := .of (owner := "set_iterator") (n := "__next__") (by rw [typeLookup_type, builtinLookup_eq_fast]; kernel_rfl) (by decide +kernel) (by decide +kernel) (by decide +kernel) (by first | exact .inl (by decide +kernel) | exact .inr (by decide +kernel)) (by rw [isSubtype_type]; kernel_rfl)
theorem entry_next : entryFor table "set_iterator.__next__" = some Builtin.«set_iterator.__next__» := entryFor_of_tree (by kernel_rfl)
theorem entry_iter : entryFor table "set.__iter__" = some Builtin.«frozenset.__iter__» := entryFor_alias (id' := "frozenset.__iter__") (by kernel_rfl) rfl (by decide +kernel) (by kernel_rfl)
theorem args_next (a : Value) : argsOk "set_iterator.__next__" ⟨[a], []⟩ := by
  unfold argsOk
  kernel_rfl
def ordW (w : World) (S : Addr) (ep : Nat) (es : Array (Int × Value)) : Array (Int × Value) := if w.params.followText "set-order" = true then pickOrder (w.params.setOrder S ep) es else es
theorem pick_go {α : Type} (next : Nat -> Nat) : ∀ (f k : Nat) (l : List α) (out : Array α), l.length = f -> (pickOrder.go next f k l out).toList.Perm (out.toList ++ l)
  | 0, k, l, out, h => by
    rw [List.eq_nil_of_length_eq_zero h, List.append_nil]
    exact List.Perm.refl _
  | f + 1, k, l, out, h => by
    have hp : next k % l.length < l.length := Nat.mod_lt _ (by omega)
    unfold pickOrder.go
    rw [List.getElem?_eq_getElem hp]
    refine (pick_go next f (k + 1) _ _ (by rw [List.length_eraseIdx_of_lt hp]; omega)).trans ?_
    rw [Array.toList_push, List.append_assoc]
    refine List.Perm.append_left _ ?_
    rw [List.eraseIdx_eq_take_drop_succ]
    refine (List.perm_middle (l₁ := l.take (next k % l.length)) (l₂ := l.drop (next k % l.length + 1))).symm.trans ?_
    rw [← List.drop_eq_getElem_cons hp, List.take_append_drop]
theorem ord_perm (w : World) (S : Addr) (ep : Nat) (es : Array (Int × Value)) : (ordW w S ep es).toList.Perm es.toList := by
  unfold ordW
  split
  · exact (pick_go _ es.size 0 es.toList #[] (by simp)).trans (by simp)
  · exact List.Perm.refl _
section
variable {prog : Program} {w : World} {A : Around} {E : Value -> Shared -> Prop} {s : Shared}
def Well (w : World) (es : Array (Int × Value)) (t : SetTable) : Prop := w.params.followText "set-order" = false -> t.plain = true /\ t.led = true /\ t.place.size = es.size /\ ∀ m, m <= es.size -> SetTable.below t.place (slotAt t.place m) = m
def slotW (w : World) (t : SetTable) (m : Nat) : Nat := if w.params.followText "set-order" = true then 0 else slotAt t.place m
theorem byText {R : Bool -> Shared -> Prop} (r : R (w.params.followText "set-order") s) : wpAny (model prog w) A setsByText R E s := by
  unfold setsByText
  exact wpAny_bind (wpAny_askSetting (wpAny_pure r))
theorem next_x {S : Addr} {o : Obj} {es : Array (Int × Value)} {ep i : Nat} {t : SetTable} {R : Option (Value × Nat) -> Shared -> Prop} (g1 : s.heap.get? S = some o) (g3 : o.data = .set es ep t) (g6 : t.fits es.size = true) (gw : Well w es t) (hi : i <= es.size)
    (r : R (((ordW w S ep es)[i]?).map fun e => (e.2, slotW w t (i + 1))) s) : wpAny (model prog w) A (setNext S (slotW w t i) i ep) R E s := by
  unfold setNext
  refine wpAny_bind (wpAny_setState_of g1 g3 g6 (wpAny_bind (byText ?_)))
  unfold ordW at r
  cases ht : w.params.followText "set-order" with
  | true =>
    rw [ht, if_pos rfl] at r
    dsimp only
    rw [if_pos rfl]
    rw [if_neg (by simp)]
    refine wpAny_bind ?_
    unfold setWalk
    refine wpAny_bind (wpAny_setState_of g1 g3 g6 (wpAny_bind (byText ?_)))
    rw [ht]
    rw [if_pos rfl]
    refine wpAny_bind (wpAny_askSetting (wpAny_pure (wpAny_pure ?_)))
    unfold slotW at r ⊢
    rw [ht, if_pos rfl] at r ⊢
    exact r
  | false =>
    rw [ht, if_neg Bool.false_ne_true] at r
    obtain ⟨w1, w2, w3, w4⟩ := gw ht
    dsimp only
    rw [if_neg Bool.false_ne_true]
    split
    · next hz =>
      have hz' : (!t.plain && decide (es.size > 1)) = true := hz
      rw [w1] at hz'
      cases hz'
    · refine wpAny_bind (show wpAny _ _ (if (!t.led && !es.isEmpty) = true then unsupported "set:maker-not-led" else pure ()) _ _ s from ?_)
      rw [if_neg (by rw [w2]; simp)]
      refine wpAny_pure (wpAny_pure ?_)
      have eS : ∀ m, slotW w t m = slotAt t.place m := fun m => by unfold slotW; rw [ht, if_neg Bool.false_ne_true]
      rw [eS, w4 i hi]
      rw [eS] at r
      by_cases hlt : i < es.size
      · have e1 : es[i]? = some es[i] := Array.getElem?_eq_getElem hlt
        have e2 : t.place[i]? = some (t.place[i]'(by omega)) := Array.getElem?_eq_getElem (by omega)
        have e3 : slotAt t.place (i + 1) = t.place[i]'(by omega) + 1 := by
          show t.place.getD i 0 + 1 = _
          rw [Array.getD_eq_getD_getElem?, e2]
          rfl
        rw [e1, e2]
        rw [e1, e3] at r
        exact r
      · rw [Array.getElem?_eq_none (by omega)]
        rw [Array.getElem?_eq_none (by omega)] at r
        exact r
def IsSI (h : Heap) (I S : Addr) (slot i n ep : Nat) : Prop := h.get? I = some { cls := .type "set_iterator", data := .fields #[.int (slot : Int) 0, .int (i : Int) 0, .ref S, .int (n : Int) 0, .int (ep : Int) 0] }
theorem iter_x {S : Addr} {o : Obj} {es : Array (Int × Value)} {ep : Nat} {t : SetTable} {Q : Value -> Shared -> Prop} (g1 : s.heap.get? S = some o) (g2 : o.ExactSet) (g3 : o.data = .set es ep t) (g6 : t.fits es.size = true) (gw : Well w es t)
    (q : Q (.ref s.heap.objs.size) { s with heap := s.heap.push { cls := .type "set_iterator", data := .fields #[.int ((slotW w t 0 : Nat) : Int) 0, .int 0 0, .ref S, .int (es.size : Int) 0, .int (ep : Int) 0] } }) : wpAny (model prog w) A (pyIter (.ref S)) Q E s := by
  have ty : s.TypeIs (.ref S) "set" := ⟨_, g1, g2.1⟩
  refine wpAny_pyIter_slot ty F.slot_set_iter (wpAny_call_entry F.slot_set_iter ty entry_iter ?_ (F.args_set_iter_1 _))
  unfold Builtin.«frozenset.__iter__»
  refine wpAny_bind (wpAny_of_eq (a := S) (by rfl) (wpAny_bind ?_))
  unfold Builtin.Frozenset.sizeOf
  refine wpAny_bind (wpAny_setEntries_of g1 g3 g6 (wpAny_pure (wpAny_bind ?_)))
  unfold setDrawn
  refine wpAny_bind (wpAny_setState_of g1 g3 g6 (wpAny_bind (byText (wpAny_pure ?_))))
  have fin : wpAny (model prog w) A.in1 (do
      let first ← pure (rawInt 0)
      let e ← setEpoch S
      let v ← newFields "set_iterator" [first, rawInt 0, Value.ref S, rawInt (es.size : Int), rawInt (e : Int)]
      ret v) (fun fin s' => ∃ v, fin = Fin.done (Flow.ret v) /\ ∃ T' r, s'.TypeIs v T' /\ typeLookup (Value.type T') (Str.ofString "__next__") = pure (some r) /\ Q v s') E s := by
    refine wpAny_bind (wpAny_pure (wpAny_bind (wpAny_setEpoch_of g1 g3 g6 (wpAny_bind (wpAny_newObj_type (wpAny_pure ⟨_, rfl, "set_iterator", _, ⟨_, Heap.get?_push_size _ rfl, rfl⟩, slot_next.lookup, ?_⟩))))))
    have e0 : slotW w t 0 = 0 := by unfold slotW; split <;> rfl
    rw [e0] at q
    exact q
  cases ht : w.params.followText "set-order" with
  | true => exact fin
  | false =>
    obtain ⟨w1, _⟩ := gw ht
    dsimp only
    split
    · next hz =>
      have hz' : (!false && (!t.plain && decide (es.size > 1))) = true := hz
      rw [w1] at hz'
      cases hz'
    · exact fin
theorem step_x {I S : Addr} {o : Obj} {es : Array (Int × Value)} {ep i : Nat} {t : SetTable} {e : Int × Value} {Q : Option Value -> Shared -> Prop} (zi : IsSI s.heap I S (slotW w t i) i es.size ep) (nIS : I ≠ S) (g1 : s.heap.get? S = some o) (g3 : o.data = .set es ep t) (g6 : t.fits es.size = true) (gw : Well w es t) (hi : i < es.size) (he : (ordW w S ep es)[i]? = some e)
    (q : ∀ g, IsSI g I S (slotW w t (i + 1)) (i + 1) es.size ep -> (∀ b ob, b ≠ I -> s.heap.get? b = some ob -> g.get? b = some ob) -> Q (some e.2) { s with heap := g }) : wpAny (model prog w) A (pyNext (.ref I)) Q E s := by
  have ty : s.TypeIs (.ref I) "set_iterator" := ⟨_, zi, rfl⟩
  unfold pyNext
  refine wpAny_bind (wpAny_attempt (wpAny_callSpecial?_slot (name := Str.ofString "__next__") ty slot_next (wpAny_call_entry slot_next ty entry_next ?_ (args_next _))))
  unfold Builtin.«set_iterator.__next__»
  refine wpAny_bind (wpAny_pure (wpAny_bind (wpAny_fieldsOf zi rfl ?_)))
  refine wpAny_bind (wpAny_setEntries_of g1 g3 g6 ?_)
  show wpAny _ _ (if ((es.size : Int) != (es.size : Int)) = true then _ else (setNext S ((slotW w t i : Nat) : Int).toNat ((i : Nat) : Int).toNat ((ep : Nat) : Int).toNat >>= _)) _ _ s
  rw [if_neg (by simp), Int.toNat_natCast, Int.toNat_natCast, Int.toNat_natCast]
  refine wpAny_bind (next_x g1 g3 g6 gw (Nat.le_of_lt hi) ?_)
  rw [he]
  show wpAny _ _ (setField (.ref I) 0 (rawInt ((slotW w t (i + 1) : Nat) : Int)) >>= _) _ _ s
  refine wpAny_bind (wpAny_setField_rec zi (by simp) fun h1 a1 b1 => ?_)
  show wpAny _ _ (setField (.ref I) 1 (rawInt ((i : Int) + 1)) >>= _) _ _ _
  refine wpAny_bind (wpAny_setField_rec a1 (by simp) fun h2 a2 b2 => wpAny_pure ⟨_, rfl, wpAny_pure (q h2 ?_ fun b ob nb y => b2.extBut b ob nb (b1.extBut b ob nb y))⟩)
  unfold IsSI
  rw [show ((i + 1 : Nat) : Int) = (i : Int) + 1 by omega]
  simpa [rawInt] using a2
theorem stop_x {I S : Addr} {o : Obj} {es : Array (Int × Value)} {ep : Nat} {t : SetTable} {Q : Option Value -> Shared -> Prop} (hh : A.handled = none) (zi : IsSI s.heap I S (slotW w t es.size) es.size es.size ep) (g1 : s.heap.get? S = some o) (g3 : o.data = .set es ep t) (g6 : t.fits es.size = true) (gw : Well w es t)
    (q : ∀ g, Heap.ExtBut I s.heap g -> Q none { s with heap := g }) : wpAny (model prog w) A (pyNext (.ref I)) Q E s := by
  have ty : s.TypeIs (.ref I) "set_iterator" := ⟨_, zi, rfl⟩
  unfold pyNext
  refine wpAny_bind (wpAny_attempt (wpAny_callSpecial?_slot (name := Str.ofString "__next__") ty slot_next (wpAny_call_entry slot_next ty entry_next ?_ (args_next _))))
  unfold Builtin.«set_iterator.__next__»
  refine wpAny_bind (wpAny_pure (wpAny_bind (wpAny_fieldsOf zi rfl (wpAny_bind (wpAny_setEntries_of g1 g3 g6 ?_)))))
  show wpAny _ _ (if ((es.size : Int) != (es.size : Int)) = true then _ else (setNext S ((slotW w t es.size : Nat) : Int).toNat ((es.size : Nat) : Int).toNat ((ep : Nat) : Int).toNat >>= _)) _ _ s
  rw [if_neg (by simp), Int.toNat_natCast, Int.toNat_natCast, Int.toNat_natCast]
  refine wpAny_bind (next_x g1 g3 g6 gw (Nat.le_refl _) ?_)
  have hz : (ordW w S ep es).size = es.size := by
    have := (ord_perm w S ep es).length_eq
    rw [Array.length_toList, Array.length_toList] at this
    exact this
  rw [Array.getElem?_eq_none (by omega)]
  show wpAny _ _ (setField (.ref I) 2 .none >>= _) _ _ s
  refine wpAny_bind (wpAny_setField zi rfl (by simp) (show wpAny _ _ (newExc (.type "StopIteration") [] >>= _) _ _ _ from wpAny_bind ?_))
  simp only [newExc, newTuple]
  refine wpAny_bind (wpAny_newObj_type (wpAny_bind (m := firstArgMember _ _) (wpAny_of_eq (a := Value.none) (by first | rfl | (simp only [firstArgMember]; rfl)) (wpAny_newObj_type ?_ (by size_fits)))) (by size_fits))
  simp only [raiseNew]
  refine wpAny_bind (wpAny_handled ?_); (first | rw [show A.in1.handled = none from hh] | rw [hh]); refine wpAny_bind (wpAny_pure (wpAny_throw ?_))
  exact wpAny_bind (wpAny_isInstance (T := "StopIteration") (b := true) ⟨_, Heap.get?_push_size _ rfl, rfl⟩ isSubtype_stop (wpAny_pure (q _ (((Heap.SameBut.update ..).extBut.push _).push _))))
end
end Sts
namespace Sts
open PySem PySem.W PyProof.Rows
theorem slot_iter2 : Slot "set_iterator" "__iter__" "set_iterator.__iter__" := .of (owner := "set_iterator") (n := "__iter__") (by rw [typeLookup_type, builtinLookup_eq_fast]; kernel_rfl) (by decide +kernel) (by decide +kernel) (by decide +kernel) (by first | exact .inl (by decide +kernel) | exact .inr (by decide +kernel)) (by rw [isSubtype_type]; kernel_rfl)
theorem entry_iter2 : entryFor table "set_iterator.__iter__" = some Builtin.«dict_keyiterator.__iter__» := entryFor_alias (id' := "dict_keyiterator.__iter__") (by kernel_rfl) rfl (by decide +kernel) (by kernel_rfl)
theorem args_iter2 (a : Value) : argsOk "set_iterator.__iter__" ⟨[a], []⟩ := by
  unfold argsOk
  kernel_rfl
theorem set_len : typeLookup (.type "set") "__len__" = pure (some (.builtin "set.__len__")) := by rw [typeLookup_type, builtinLookup_eq_fast]; kernel_rfl
section
variable {prog : Program} {w : World} {A : Around} {E : Value -> Shared -> Prop} {s : Shared}
theorem walks_x (hh : A.handled = none) {I S : Addr} {o : Obj} {es : Array (Int × Value)} {ep : Nat} {t : SetTable} (nIS : I ≠ S) (g3 : o.data = .set es ep t) (g6 : t.fits es.size = true) (gw : Well w es t) :
    Walks prog w A I [I, S] [I] es.size (fun i v => ((ordW w S ep es).map (·.2))[i]? = some v) (fun i h => IsSI h I S (slotW w t i) i es.size ep /\ h.get? S = some o) where
  sub := fun b hb => by rw [List.mem_singleton.mp hb]; exact List.mem_cons_self
  frame := fun i h h' st k => ⟨k I (by simp) _ st.1, k S (by simp) _ st.2⟩
  item := fun i z Q E hi st q => by
    have hz : (ordW w S ep es).size = es.size := by
      have := (ord_perm w S ep es).length_eq
      rw [Array.length_toList, Array.length_toList] at this
      exact this
    have he : (ordW w S ep es)[i]? = some ((ordW w S ep es)[i]'(by omega)) := Array.getElem?_eq_getElem (by omega)
    refine step_x st.1 nIS st.2 g3 g6 gw hi he fun g a k => q _ g z.toks (by rw [Array.getElem?_map, he]; rfl) ⟨a, k S _ (Ne.symm nIS) st.2⟩ fun b ob nb y => k b ob (fun e => nb (by rw [e]; exact List.mem_singleton.mpr rfl)) y
  done := fun z Q E st q => stop_x hh st.1 st.2 g3 g6 gw fun g x => q g z.toks fun b ob nb y => x b ob (fun e => nb (by rw [e]; exact List.mem_singleton.mpr rfl)) y
  self := fun i z Q E st q => by
    have ty : z.TypeIs (.ref I) "set_iterator" := ⟨_, st.1, rfl⟩
    refine wpAny_pyIter_slot ty slot_iter2 (wpAny_call_entry slot_iter2 ty entry_iter2 (show wpAny _ _ (ret (.ref I)) _ _ z from wpAny_pure ⟨_, rfl, "set_iterator", _, ty, slot_next.lookup, q⟩) (args_iter2 _))
theorem takes_set {S : Addr} {o : Obj} {es : Array (Int × Value)} {ep : Nat} {t : SetTable} {R : List Value -> Shared -> Prop} (hh : A.handled = none) (g1 : s.heap.get? S = some o) (g2 : o.ExactSet) (g3 : o.data = .set es ep t) (g6 : t.fits es.size = true) (gw : Well w es t) (hn : es.size <= sizeLine)
    (k : ∀ (h' : Heap) (tk : Nat) (vs : List Value), vs.Perm (es.toList.map (·.2)) -> (∀ b ob, s.heap.get? b = some ob -> h'.get? b = some ob) -> s.heap.objs.size < h'.objs.size -> R vs { s with heap := h', toks := tk }) : wpAny (model prog w) A (collect (.ref S)) R E s := by
  have sl : S < s.heap.objs.size := Heap.lt_size g1
  have up : (s.heap.push (seqObj "list" #[] 0)).get? S = some o := Heap.get?_push_of_some _ g1
  have mine : (s.heap.push (seqObj "list" #[] 0)).get? s.heap.objs.size = some (seqObj "list" #[] 0) := Heap.get?_push_size _ rfl
  unfold collect
  refine wpAny_bind (wpAny_runValue (codeAny_builtin entry_proto_collect' (show wpAny _ _ (do again (.builtin "list.__iadd__" ⟨[← newList [], .ref S], []⟩)) _ _ s from ?_)))
  refine wpAny_bind (wpAny_newList (wpAny_pure ⟨Code.quiet_builtin _ (by decide +kernel), codeAny_builtin entry_list_iadd' (show wpAny _ _ (Builtin.List.listExtendWith (.ref s.heap.objs.size) (.ref S) (.ref s.heap.objs.size)) _ _ { s with heap := s.heap.push (seqObj "list" #[] 0) } from ?_)⟩))
  unfold Builtin.List.listExtendWith; have ty : Shared.TypeIs { s with heap := s.heap.push (seqObj "list" #[] 0) } (.ref S) "set" := ⟨_, up, g2.1⟩
  refine wpAny_bind (wpAny_typeOf ty ?_)
  have n1 : Builtin.List.listSameRef (.ref s.heap.objs.size) (.ref S) = false := by simp [Builtin.List.listSameRef]; exact Nat.ne_of_gt sl
  rw [if_neg (by rw [n1]; decide)]
  refine wpAny_bind (iter_x (s := { s with heap := s.heap.push (seqObj "list" #[] 0) }) up g2 g3 g6 gw ?_)
  have n2 : (s.heap.push (seqObj "list" #[] 0)).objs.size = s.heap.objs.size + 1 := Heap.size_push _ _
  dsimp only
  generalize hG : (s.heap.push (seqObj "list" #[] 0)).push { cls := .type "set_iterator", data := .fields #[.int ((slotW w t 0 : Nat) : Int) 0, .int 0 0, .ref S, .int (es.size : Int) 0, .int (ep : Int) 0] } = G
  have zi : IsSI G (s.heap.objs.size + 1) S (slotW w t 0) 0 es.size ep := by
    unfold IsSI
    rw [← hG, ← n2]
    exact Heap.get?_push_size _ rfl
  have upG : G.get? S = some o := by rw [← hG]; exact Heap.get?_push_of_some _ up
  have mineG : G.get? s.heap.objs.size = some (seqObj "list" #[] 0) := by rw [← hG]; exact Heap.get?_push_of_some _ mine
  have oldG : ∀ b ob, s.heap.get? b = some ob -> G.get? b = some ob := fun b ob e => by rw [← hG]; exact Heap.get?_push_of_some _ (Heap.get?_push_of_some _ e)
  rw [n2]
  have tyG : Shared.TypeIs { s with heap := G } (.ref S) "set" := ⟨_, upG, g2.1⟩
  refine wpAny_bind (wpAny_holding ?_); unfold Builtin.List.listLengthHint
  refine wpAny_bind (wpAny_specialOf tyG set_len ?_)
  wp_delta
  refine wpAny_bind (wpAny_isInstance (T := "set") (v := .ref S) (b := true) tyG (by rw [isSubtype_type]; kernel_rfl) (show wpAny _ _ (typeOf (Value.ref S) >>= _) _ _ _ from wpAny_bind (wpAny_typeOf tyG (wpAny_pure ?_))))
  show wpAny _ _ (rule "list.extend.makes-room" >>= fun _ => Builtin.List.listTouch (.ref s.heap.objs.size) >>= fun _ => again (.builtin "list.extend.loop" ⟨[.ref s.heap.objs.size, .ref (s.heap.objs.size + 1), .ref s.heap.objs.size], []⟩)) _ _ _
  refine wpAny_bind (wpAny_rule (wpAny_bind (show wpAny _ _ (updateSeq s.heap.objs.size (·.push .none) >>= fun _ => updateSeq s.heap.objs.size (·.pop)) _ _ _ from wpAny_bind (wpAny_updateSeq mineG rfl ?_))))
  have m2 := Heap.get?_update_self (Obj.mapSeq (·.push Value.none)) mineG rfl
  refine wpAny_updateSeq m2 rfl ?_
  have m3 := Heap.get?_update_self (Obj.mapSeq (·.pop)) m2 rfl
  generalize hG3 : (G.update s.heap.objs.size (Obj.mapSeq (·.push Value.none))).update s.heap.objs.size (Obj.mapSeq (·.pop)) = G3 at m3 ⊢
  have oth : ∀ b ob, b ≠ s.heap.objs.size -> G.get? b = some ob -> G3.get? b = some ob := fun b ob nb e => by rw [← hG3]; exact (Heap.get?_update_other _ _ (Ne.symm nb)).trans ((Heap.get?_update_other _ _ (Ne.symm nb)).trans e)
  have nS : s.heap.objs.size ∉ [s.heap.objs.size + 1, S] := fun z => by
    rcases List.mem_cons.mp z with y | y
    · exact absurd y (Nat.ne_of_lt (Nat.lt_succ_self _))
    · exact absurd (List.mem_singleton.mp y) (Nat.ne_of_gt sl)
  have nIS : s.heap.objs.size + 1 ≠ S := fun z => Nat.ne_of_gt (Nat.lt_succ_of_lt sl) z
  refine wpAny_pure ⟨plainId_quiet F.plain_extend_loop _, codeAny_extend_loopS (walks_x (A := A.in1) (S := S) (o := o) hh nIS g3 g6 gw).toS hn _ nS _ es.size 0 _ _ _ rfl (Nat.zero_le _) ⟨oth _ _ (Nat.ne_of_gt (Nat.lt_succ_self _)) zi, oth _ _ (Nat.ne_of_lt sl) upG⟩ m3 (ItemsOf.nil _) fun z acc c hm ha hacc => ?_⟩
  refine (show wpAny _ _ (load s.heap.objs.size >>= _) _ _ z from wpAny_bind (wpAny_load ha (wpAny_pure ?_)))
  have hz : (ordW w S ep es).size = es.size := by
    have := (ord_perm w S ep es).length_eq
    rw [Array.length_toList, Array.length_toList] at this
    exact this
  have e : acc = (ordW w S ep es).map (·.2) := by
    apply Array.ext_getElem?
    intro j
    cases hj : acc[j]? with
    | some v => exact (hacc.2 j v hj).symm
    | none =>
      have : acc.size <= j := Array.getElem?_eq_none_iff.mp hj
      rw [Array.getElem?_eq_none (by rw [Array.size_map, hz, ← hacc.1]; exact this)]
  obtain ⟨h', g', d', tk', os'⟩ := z
  have eg : g' = s.gens := (hm.gens); have ed : d' = s.drawn := (hm.drawn)
  have eo : os' = s.os := hm.os
  subst eg ed eo
  refine k h' tk' acc.toList ?_ (fun b ob y => hm.heap b ob (fun hb => ?_) (oth b ob (Nat.ne_of_lt (Heap.lt_size y)) (oldG b ob y))) (Heap.lt_size ha)
  · rw [e, Array.toList_map]
    exact (ord_perm w S ep es).map _
  · have lt := Heap.lt_size y
    rcases List.mem_cons.mp hb with z | z
    · exact absurd z (Nat.ne_of_lt lt)
    · exact absurd (List.mem_singleton.mp z) (Nat.ne_of_lt (Nat.lt_succ_of_lt lt))
theorem sortedSet {S : Addr} {ns : List Int} {R : Value -> Shared -> Prop} (hh : A.handled = none) (l : Lies prog w s.heap S (ledW w) ns) (hr : ns.Pairwise (· < ·)) (hb : ∀ x ∈ ns, 0 <= x /\ x < 10)
    (k : ∀ (h' : Heap) (tk : Nat) (p : Addr) (out : Array Value) (e : Nat), (∀ b ob, s.heap.get? b = some ob -> h'.get? b = some ob) -> s.heap.objs.size <= p -> IntsAre out.toList ns -> h'.get? p = some (seqObj "list" out e) -> R (.ref p) { s with heap := h', toks := tk }) : wpAny (model prog w) A (call (.builtin "sorted") [.ref S]) R E s := by
  obtain ⟨o, es, ep, t, g1, g2, g3, g4, g6, gp, gr⟩ := l
  have hlen : es.size = ns.length := by
    have := gp.length_eq
    rw [List.length_map, Array.length_toList] at this
    exact this
  have hl10 : ns.length <= 10 := by
    have : ∀ (l : List Int) (a : Int), l.Pairwise (· < ·) -> (∀ x ∈ l, a <= x /\ x < 10) -> a <= 10 -> (l.length : Int) <= 10 - a := fun l => by
      induction l with
      | nil => intro a _ _ h; show ((0 : Nat) : Int) <= 10 - a; omega
      | cons y l ih =>
        intro a hp h ha
        have hp' := List.pairwise_cons.mp hp
        have hy := h y (List.mem_cons_self ..)
        have := ih (y + 1) hp'.2 (fun x hx => by have h1 := hp'.1 x hx; have h2 := (h x (List.mem_cons_of_mem _ hx)).2; omega) (by omega)
        rw [List.length_cons]
        omega
    have := this ns 0 hr hb (by decide)
    omega
  have hash : ns.map hashInt = ns := by
    conv => rhs; rw [← List.map_id ns]
    refine List.map_congr_left fun x hx => ?_
    have h1 := hb x hx
    obtain ⟨m, rfl⟩ := Int.eq_ofNat_of_zero_le h1.1
    have hm : m < 10 := by omega
    match m, hm with
    | 0, _ => rfl
    | 1, _ => rfl
    | 2, _ => rfl
    | 3, _ => rfl
    | 4, _ => rfl
    | 5, _ => rfl
    | 6, _ => rfl
    | 7, _ => rfl
    | 8, _ => rfl
    | 9, _ => rfl
  have gw : Well w es t := fun ht => by
    have hok := run_ok hr hb
    have el : ledW w = true := by unfold ledW; rw [ht]; rfl
    rw [hash, el] at gr
    rw [← gr] at hok
    unfold okT at hok
    simp only [Bool.and_eq_true, beq_iff_eq] at hok
    obtain ⟨⟨⟨⟨_, h2⟩, h3⟩, h4⟩, h5⟩ := hok
    refine ⟨h2, h3, by omega, fun m hm => ?_⟩
    have := List.all_eq_true.mp h5 m (List.mem_range.mpr (by omega))
    exact beq_iff_eq.mp this
  refine Calls.call_function_entry kind_sorted plain_sorted entry_sorted (args_sorted1 _) (show wpAny _ _ (Builtin.«sorted» _) _ _ s from ?_)
  unfold Builtin.«sorted»
  refine wpAny_bind (m := checkCount "sorted" 1 1 _) (wpAny_pure (wpAny_bind (takes_set hh g1 g2 g3 g6 gw (by rw [hlen, sizeLine_eq]; omega) fun h1 t1 vs pv k1 lt1 => wpAny_bind (wpAny_newList ?_ (by rw [pv.length_eq, List.length_map, Array.length_toList, hlen, sizeLine_eq]; omega)))))
  have hv : ∃ ms, IntsAre vs ms /\ ms.Perm ns := by
    have key : ∀ us : List Value, (∀ u ∈ us, ∃ i tt, u = Value.int i tt) -> IntsAre us (us.map intV) := fun us => by
      induction us with
      | nil => intro _; exact .nil
      | cons u us ih =>
        intro h
        obtain ⟨i, tt, rfl⟩ := h u (List.mem_cons_self ..)
        exact .cons i tt (ih fun x hx => h x (List.mem_cons_of_mem _ hx))
    refine ⟨vs.map intV, key vs fun u hu => ?_, (pv.map intV).trans (by rw [List.map_map]; exact gp)⟩
    obtain ⟨e, he, rfl⟩ := List.mem_map.mp (pv.mem_iff.mp hu)
    obtain ⟨⟨j, hj, _⟩, _⟩ := g4 e he
    obtain ⟨tj, ej⟩ := Value.isInt_shape hj
    exact ⟨j, tj, ej⟩
  obtain ⟨ms, hi, hpm⟩ := hv
  have few : vs.length < 64 := by rw [hi.length, hpm.length_eq]; omega
  have at1 : (h1.push (seqObj "list" vs.toArray 0)).get? h1.objs.size = some (seqObj "list" vs.toArray 0) := Heap.get?_push_size _ rfl
  refine wpAny_bind (wpAny_holding (wpAny_call_entry slot_list_sort ⟨_, at1, rfl⟩ entry_list_sort (list_sort_tree at1 hi few fun out ms' a b c => ⟨_, rfl, wpAny_pure ⟨_, rfl, ?_⟩⟩) (args_list_sort _)))
  have em : ms' = ns := Mth.sorted_uniq (b.trans hpm) c (hr.imp fun h => Int.le_of_lt h)
  subst em
  obtain ⟨e, he⟩ := sortedHeap_at (out := out) at1
  exact k _ t1 h1.objs.size out e (fun b' ob y => (sortedHeap_old (Nat.ne_of_lt (Heap.lt_size (k1 b' ob y))) (by rw [Heap.size_push]; exact Nat.lt_succ_of_lt (Heap.lt_size (k1 b' ob y)))).trans (Heap.get?_push_of_some _ (k1 b' ob y))) (Nat.le_of_lt lt1) a he
end
end Sts
namespace L2
open PySem PySem.Spec PyProof.Rows
section
variable {X : Cx}
def tSrtSet (ta : TA) : TE := fun σ H Q => ta σ H fun vs H1 => ∃ (a : Addr) (ns : List Int), vs = [.ref a] /\ H1 a = some (.lst (ns.map V.int)) /\ ns.Pairwise (· < ·) /\ (∀ x ∈ ns, 0 <= x /\ x < 10) /\ NewA (.lst (ns.map V.int)) H1 Q
theorem few_of {ns : List Int} (hp : ns.Pairwise (· < ·)) (h : ∀ x ∈ ns, 0 <= x /\ x < 10) : ns.length <= 10 := by
  have key : ∀ (l : List Int) (a : Int), l.Pairwise (· < ·) -> (∀ x ∈ l, a <= x /\ x < 10) -> a <= 10 -> (l.length : Int) <= 10 - a := fun l => by
    induction l with
    | nil => intro a _ _ h; show ((0 : Nat) : Int) <= 10 - a; omega
    | cons y l ih =>
      intro a hp h ha
      have hp' := List.pairwise_cons.mp hp
      have hy := h y (List.mem_cons_self ..)
      have := ih (y + 1) hp'.2 (fun x hx => by have h1 := hp'.1 x hx; have h2 := (h x (List.mem_cons_of_mem _ hx)).2; omega) (by omega)
      rw [List.length_cons]
      omega
  have := key ns 0 hp h (by decide)
  omega
theorem qe_sortedSet {a : Expr} {ta : TA} {p p' pos pos' : Pos} (hc : X.calm = true) (hg : Gl X "set") (hm : X.mg "set" = none) (hg' : Gl X "sorted") (hm' : X.mg "sorted" = none) (ha : QA X [a] ta) (hs : starEach [a] X.env = [(false, eval a X.env)] := by rfl)
    (hb : bootBuiltins "set" = some (.type "set") := by decide +kernel) (hb' : bootBuiltins "sorted" = some (.builtin "sorted") := by decide +kernel) : QE X (.Call (.Name "sorted" p') [.Call (.Name "set" p) [a] [] pos] [] pos') (tSrtSet ta) := ⟨by
  intro pins s σ H R I h
  refine Call_ (ld_blt I hg' hm' hb' (PyProof.Rows.callWith_builtin1 (Calls.spliced_cons ?_) rfl rfl))
  refine Call_ (ld_blt I hg hm hb (PyProof.Rows.callWith_type1 (thn (ha.o pos pins s σ H _ I h) fun us s1 ⟨vs, H1, I1, r1, q1⟩ => ?_) (by rw [hs]; rfl) rfl))
  obtain ⟨l, ns, e, hl, hp, hr, q⟩ := q1
  subst e
  obtain ⟨u, rfl, rx⟩ := vals1 r1
  cases rx
  have h10 := few_of hp hr
  obtain ⟨its, r2, pl, hz⟩ := I1.list (SqL.of hl)
  have hi := intsAre_of r2
  have hlen := hi.length
  refine Sts.call_setX (I1.ok.hd hc) pl.isList hi (hp.imp fun {a b} h e => by omega) (by show its.length + 1 < 4096; omega) fun h2 tk2 lies kp => ?_
  refine Calls.spliced_nil ?_
  refine Sts.sortedSet (I1.ok.hd hc) lies hp hr fun h3 tk3 pa out e k3 ge ho at3 => ?_
  have old : ∀ b o, s1.heap.get? b = some o -> h3.get? b = some o := fun b o y => k3 b o (kp b o (Heap.lt_size y) y)
  obtain ⟨o, _, _, _, ho2, _⟩ := lies
  have ge1 : s1.heap.objs.size <= pa := Nat.le_trans (Nat.le_of_lt (Heap.lt_size ho2)) ge
  refine ⟨.ref pa, _, I1.laid (a := pa) (t' := tk3) old ge1 (show ObjOk X.prog X.w _ _ _ (.lst (ns.map V.int)) from ⟨?_, out.toList, e, vals_ints ho, ?_⟩), rfl, q.at _ (I1.hok.fresh ge1)⟩
  · rw [List.length_map, sizeLine_eq]; omega
  · exact at3⟩
end
end L2
namespace W2
open PySem L2 Mth
def top (i : Nat) : Stmt := PySem.Challenge.pw_wholefract_k45_whole_base_is_all.main.body.getD i (.Pass ⟨0, 0, 0, 0⟩)
abbrev s_is_whole : Stmt := top 5
abbrev s_powers_of : Stmt := top 6
abbrev s_how_often : Stmt := top 7
abbrev s_without_primes : Stmt := top 8
abbrev s_changes_of : Stmt := top 10
abbrev s_fraction_changes : Stmt := top 11
abbrev s_is_kept : Stmt := top 13
abbrev s_is_row : Stmt := top 14
abbrev s_sum_by : Stmt := top 15
abbrev s_base : Stmt := top 16
abbrev s_unit_row : Stmt := top 17
abbrev s_kept_of : Stmt := top 18
abbrev s_evened : Stmt := top 19
abbrev s_lowest : Stmt := top 20
abbrev s_common_divisor : Stmt := top 21
abbrev s_l_cell_at : Stmt := top 23
abbrev s_l_pot : Stmt := top 24
abbrev s_l_take : Stmt := top 25
abbrev s_l_whole : Stmt := top 26
abbrev s_l_primes : Stmt := top 27
abbrev s_l_number : Stmt := top 28
abbrev s_l_parts : Stmt := top 29
abbrev s_l_adds : Stmt := top 30
abbrev s_l_fraction : Stmt := top 31
abbrev s_l_some : Stmt := top 32
abbrev s_l_any_program : Stmt := top 33
abbrev s_l_sinking : Stmt := top 34
abbrev s_l_ringing : Stmt := top 35
abbrev s_l_program : Stmt := top 36
abbrev s_l_dot : Stmt := top 37
abbrev s_l_shared : Stmt := top 38
abbrev s_l_plain : Stmt := top 39
abbrev s_l_reduced : Stmt := top 40
abbrev s_l_lead : Stmt := top 41
abbrev s_l_is_row : Stmt := top 42
abbrev s_l_left : Stmt := top 43
abbrev s_law : Stmt := top 44
theorem sc_is_whole : FnScope ["thing"] ["thing"] (defScope s_is_whole) := ⟨rfl, rfl, rfl, by decide +kernel, rfl, by decide +kernel, by decide +kernel⟩
theorem sc_powers_of : FnScope ["number"] ["number"] (defScope s_powers_of) := ⟨rfl, rfl, rfl, by decide +kernel, rfl, by decide +kernel, by decide +kernel⟩
theorem sc_how_often : FnScope ["prime", "number", "times", "rest"] ["prime", "number"] (defScope s_how_often) := ⟨rfl, rfl, rfl, by decide +kernel, rfl, by decide +kernel, by decide +kernel⟩
theorem sc_without_primes : FnScope ["number", "rest", "prime"] ["number"] (defScope s_without_primes) := ⟨rfl, rfl, rfl, by decide +kernel, rfl, by decide +kernel, by decide +kernel⟩
theorem sc_changes_of : FnScope ["program"] ["program"] (defScope s_changes_of) := ⟨rfl, rfl, rfl, by decide +kernel, rfl, by decide +kernel, by decide +kernel⟩
theorem sc_fraction_changes : FnScope ["fraction", "tops", "bottoms"] ["fraction"] (defScope s_fraction_changes) := ⟨rfl, rfl, rfl, by decide +kernel, rfl, by decide +kernel, by decide +kernel⟩
theorem sc_is_kept : FnScope ["program", "thing"] ["program", "thing"] (defScope s_is_kept) := ⟨rfl, rfl, rfl, by decide +kernel, rfl, by decide +kernel, by decide +kernel⟩
theorem sc_is_row : FnScope ["thing"] ["thing"] (defScope s_is_row) := ⟨rfl, rfl, rfl, by decide +kernel, rfl, by decide +kernel, by decide +kernel⟩
theorem sc_sum_by : FnScope ["row", "powers"] ["row", "powers"] (defScope s_sum_by) := ⟨rfl, rfl, rfl, by decide +kernel, rfl, by decide +kernel, by decide +kernel⟩
theorem sc_base : FnScope ["program", "rows", "changes"] ["program"] (defScope s_base) := ⟨rfl, rfl, rfl, by decide +kernel, rfl, by decide +kernel, by decide +kernel⟩
theorem sc_unit_row : FnScope ["prime"] ["prime"] (defScope s_unit_row) := ⟨rfl, rfl, rfl, by decide +kernel, rfl, by decide +kernel, by decide +kernel⟩
theorem sc_kept_of : FnScope ["rows", "changes", "sums", "unkept", "last"] ["rows", "changes"] (defScope s_kept_of) := ⟨rfl, rfl, rfl, by decide +kernel, rfl, by decide +kernel, by decide +kernel⟩
theorem sc_evened : FnScope ["row", "total", "other", "other_total"] ["row", "total", "other", "other_total"] (defScope s_evened) := ⟨rfl, rfl, rfl, by decide +kernel, rfl, by decide +kernel, by decide +kernel⟩
theorem sc_lowest : FnScope ["numbers", "shared", "number"] ["numbers"] (defScope s_lowest) := ⟨rfl, rfl, rfl, by decide +kernel, rfl, by decide +kernel, by decide +kernel⟩
theorem sc_common_divisor : FnScope ["one", "other", "rest"] ["one", "other"] (defScope s_common_divisor) := ⟨rfl, rfl, rfl, by decide +kernel, rfl, by decide +kernel, by decide +kernel⟩
theorem sc_l_cell_at : FnScope ["script", "k"] ["script", "k"] (defScope s_l_cell_at) := ⟨rfl, rfl, rfl, by decide +kernel, rfl, by decide +kernel, by decide +kernel⟩
theorem sc_l_pot : FnScope ["cell", "number", "j", "more"] ["cell"] (defScope s_l_pot) := ⟨rfl, rfl, rfl, by decide +kernel, rfl, by decide +kernel, by decide +kernel⟩
theorem sc_l_take : FnScope ["pot", "far", "found"] ["pot", "far"] (defScope s_l_take) := ⟨rfl, rfl, rfl, by decide +kernel, rfl, by decide +kernel, by decide +kernel⟩
theorem sc_l_whole : FnScope ["found"] ["found"] (defScope s_l_whole) := ⟨rfl, rfl, rfl, by decide +kernel, rfl, by decide +kernel, by decide +kernel⟩
theorem sc_l_primes : FnScope [] [] (defScope s_l_primes) := ⟨rfl, rfl, rfl, by decide +kernel, rfl, by decide +kernel, by decide +kernel⟩
theorem sc_l_number : FnScope ["powers", "found", "prime", "often", "turn"] ["powers"] (defScope s_l_number) := ⟨rfl, rfl, rfl, by decide +kernel, rfl, by decide +kernel, by decide +kernel⟩
theorem sc_l_parts : FnScope ["number", "found", "prime", "often"] ["number"] (defScope s_l_parts) := ⟨rfl, rfl, rfl, by decide +kernel, rfl, by decide +kernel, by decide +kernel⟩
theorem sc_l_adds : FnScope ["program", "found", "top", "bottom"] ["program"] (defScope s_l_adds) := ⟨rfl, rfl, rfl, by decide +kernel, rfl, by decide +kernel, by decide +kernel⟩
theorem sc_l_fraction : FnScope ["top", "bottom", "early"] ["top", "bottom"] (defScope s_l_fraction) := ⟨rfl, rfl, rfl, by decide +kernel, rfl, by decide +kernel, by decide +kernel⟩
theorem sc_l_some : FnScope ["pot", "wide", "most", "found", "turn", "place"] ["pot", "wide", "most"] (defScope s_l_some) := ⟨rfl, rfl, rfl, by decide +kernel, rfl, by decide +kernel, by decide +kernel⟩
theorem sc_l_any_program : FnScope ["pot", "most", "wide", "found", "k", "top"] ["pot", "most"] (defScope s_l_any_program) := ⟨rfl, rfl, rfl, by decide +kernel, rfl, by decide +kernel, by decide +kernel⟩
theorem sc_l_sinking : FnScope ["pot", "most", "wide", "weights", "found", "k", "top", "bottom", "loses", "heavy"] ["pot", "most"] (defScope s_l_sinking) := ⟨rfl, rfl, rfl, by decide +kernel, rfl, by decide +kernel, by decide +kernel⟩
theorem sc_l_ringing : FnScope ["pot", "size", "found", "k", "top", "bottom"] ["pot"] (defScope s_l_ringing) := ⟨rfl, rfl, rfl, by decide +kernel, rfl, by decide +kernel, by decide +kernel⟩
theorem sc_l_program : FnScope ["pot", "most", "way"] ["pot", "most"] (defScope s_l_program) := ⟨rfl, rfl, rfl, by decide +kernel, rfl, by decide +kernel, by decide +kernel⟩
theorem sc_l_dot : FnScope ["row", "other"] ["row", "other"] (defScope s_l_dot) := ⟨rfl, rfl, rfl, by decide +kernel, rfl, by decide +kernel, by decide +kernel⟩
theorem sc_l_shared : FnScope ["row", "found", "one", "other"] ["row"] (defScope s_l_shared) := ⟨rfl, rfl, rfl, by decide +kernel, rfl, by decide +kernel, by decide +kernel⟩
theorem sc_l_plain : FnScope ["row", "by", "lead"] ["row"] (defScope s_l_plain) := ⟨rfl, rfl, rfl, by decide +kernel, rfl, by decide +kernel, by decide +kernel⟩
theorem sc_l_reduced : FnScope ["rows", "left", "found", "place", "some", "lead", "rest", "k", "far"] ["rows"] (defScope s_l_reduced) := ⟨rfl, rfl, rfl, by decide +kernel, rfl, by decide +kernel, by decide +kernel⟩
theorem sc_l_lead : FnScope ["row"] ["row"] (defScope s_l_lead) := ⟨rfl, rfl, rfl, by decide +kernel, rfl, by decide +kernel, by decide +kernel⟩
theorem sc_l_is_row : FnScope ["thing", "many"] ["thing", "many"] (defScope s_l_is_row) := ⟨rfl, rfl, rfl, by decide +kernel, rfl, by decide +kernel, by decide +kernel⟩
theorem sc_l_left : FnScope ["row", "rows", "one", "place", "far"] ["row", "rows"] (defScope s_l_left) := ⟨rfl, rfl, rfl, by decide +kernel, rfl, by decide +kernel, by decide +kernel⟩
theorem sc_law : FnScope ["script", "program", "rows", "adds", "leads", "row", "k", "pot", "some", "by", "place", "kept"] ["script"] (defScope s_law) := ⟨rfl, rfl, rfl, by decide +kernel, rfl, by decide +kernel, by decide +kernel⟩
structure Tx (K : PySem.W.Frag) (mg : Str -> Option Value) where
  f_is_whole : Addr
  fd_is_whole : FuncData
  D_is_whole : Df K mg "is_whole" s_is_whole ["thing"] f_is_whole fd_is_whole
  f_powers_of : Addr
  fd_powers_of : FuncData
  D_powers_of : Df K mg "powers_of" s_powers_of ["number"] f_powers_of fd_powers_of
  f_how_often : Addr
  fd_how_often : FuncData
  D_how_often : Df K mg "how_often" s_how_often ["prime", "number"] f_how_often fd_how_often
  f_without_primes : Addr
  fd_without_primes : FuncData
  D_without_primes : Df K mg "without_primes" s_without_primes ["number"] f_without_primes fd_without_primes
  f_changes_of : Addr
  fd_changes_of : FuncData
  D_changes_of : Df K mg "changes_of" s_changes_of ["program"] f_changes_of fd_changes_of
  f_fraction_changes : Addr
  fd_fraction_changes : FuncData
  D_fraction_changes : Df K mg "fraction_changes" s_fraction_changes ["fraction"] f_fraction_changes fd_fraction_changes
  f_is_kept : Addr
  fd_is_kept : FuncData
  D_is_kept : Df K mg "is_kept" s_is_kept ["program", "thing"] f_is_kept fd_is_kept
  f_is_row : Addr
  fd_is_row : FuncData
  D_is_row : Df K mg "is_row" s_is_row ["thing"] f_is_row fd_is_row
  f_sum_by : Addr
  fd_sum_by : FuncData
  D_sum_by : Df K mg "sum_by" s_sum_by ["row", "powers"] f_sum_by fd_sum_by
  f_base : Addr
  fd_base : FuncData
  D_base : Df K mg "base" s_base ["program"] f_base fd_base
  f_unit_row : Addr
  fd_unit_row : FuncData
  D_unit_row : Df K mg "unit_row" s_unit_row ["prime"] f_unit_row fd_unit_row
  f_kept_of : Addr
  fd_kept_of : FuncData
  D_kept_of : Df K mg "kept_of" s_kept_of ["rows", "changes"] f_kept_of fd_kept_of
  f_evened : Addr
  fd_evened : FuncData
  D_evened : Df K mg "evened" s_evened ["row", "total", "other", "other_total"] f_evened fd_evened
  f_lowest : Addr
  fd_lowest : FuncData
  D_lowest : Df K mg "lowest" s_lowest ["numbers"] f_lowest fd_lowest
  f_common_divisor : Addr
  fd_common_divisor : FuncData
  D_common_divisor : Df K mg "common_divisor" s_common_divisor ["one", "other"] f_common_divisor fd_common_divisor
  f_l_cell_at : Addr
  fd_l_cell_at : FuncData
  D_l_cell_at : Df K mg "_law_cell_at" s_l_cell_at ["script", "k"] f_l_cell_at fd_l_cell_at
  f_l_pot : Addr
  fd_l_pot : FuncData
  D_l_pot : Df K mg "_law_pot" s_l_pot ["cell"] f_l_pot fd_l_pot
  f_l_take : Addr
  fd_l_take : FuncData
  D_l_take : Df K mg "_law_take" s_l_take ["pot", "far"] f_l_take fd_l_take
  f_l_whole : Addr
  fd_l_whole : FuncData
  D_l_whole : Df K mg "_law_whole" s_l_whole ["found"] f_l_whole fd_l_whole
  f_l_primes : Addr
  fd_l_primes : FuncData
  D_l_primes : Df K mg "_law_primes" s_l_primes [] f_l_primes fd_l_primes
  f_l_number : Addr
  fd_l_number : FuncData
  D_l_number : Df K mg "_law_number" s_l_number ["powers"] f_l_number fd_l_number
  f_l_parts : Addr
  fd_l_parts : FuncData
  D_l_parts : Df K mg "_law_parts" s_l_parts ["number"] f_l_parts fd_l_parts
  f_l_adds : Addr
  fd_l_adds : FuncData
  D_l_adds : Df K mg "_law_adds" s_l_adds ["program"] f_l_adds fd_l_adds
  f_l_fraction : Addr
  fd_l_fraction : FuncData
  D_l_fraction : Df K mg "_law_fraction" s_l_fraction ["top", "bottom"] f_l_fraction fd_l_fraction
  f_l_some : Addr
  fd_l_some : FuncData
  D_l_some : Df K mg "_law_some" s_l_some ["pot", "wide", "most"] f_l_some fd_l_some
  f_l_any_program : Addr
  fd_l_any_program : FuncData
  D_l_any_program : Df K mg "_law_any_program" s_l_any_program ["pot", "most"] f_l_any_program fd_l_any_program
  f_l_sinking : Addr
  fd_l_sinking : FuncData
  D_l_sinking : Df K mg "_law_sinking" s_l_sinking ["pot", "most"] f_l_sinking fd_l_sinking
  f_l_ringing : Addr
  fd_l_ringing : FuncData
  D_l_ringing : Df K mg "_law_ringing" s_l_ringing ["pot"] f_l_ringing fd_l_ringing
  f_l_program : Addr
  fd_l_program : FuncData
  D_l_program : Df K mg "_law_program" s_l_program ["pot", "most"] f_l_program fd_l_program
  f_l_dot : Addr
  fd_l_dot : FuncData
  D_l_dot : Df K mg "_law_dot" s_l_dot ["row", "other"] f_l_dot fd_l_dot
  f_l_shared : Addr
  fd_l_shared : FuncData
  D_l_shared : Df K mg "_law_shared" s_l_shared ["row"] f_l_shared fd_l_shared
  f_l_plain : Addr
  fd_l_plain : FuncData
  D_l_plain : Df K mg "_law_plain" s_l_plain ["row"] f_l_plain fd_l_plain
  f_l_reduced : Addr
  fd_l_reduced : FuncData
  D_l_reduced : Df K mg "_law_reduced" s_l_reduced ["rows"] f_l_reduced fd_l_reduced
  f_l_lead : Addr
  fd_l_lead : FuncData
  D_l_lead : Df K mg "_law_lead" s_l_lead ["row"] f_l_lead fd_l_lead
  f_l_is_row : Addr
  fd_l_is_row : FuncData
  D_l_is_row : Df K mg "_law_is_row" s_l_is_row ["thing", "many"] f_l_is_row fd_l_is_row
  f_l_left : Addr
  fd_l_left : FuncData
  D_l_left : Df K mg "_law_left" s_l_left ["row", "rows"] f_l_left fd_l_left
  c_FractError : Addr
  k_FractError : mg "FractError" = some (.ref c_FractError)
  c_NoNumber : Addr
  k_NoNumber : mg "NoNumber" = some (.ref c_NoNumber)
  m_len : mg "len" = none
  m_isinstance : mg "isinstance" = none
  m_int : mg "int" = none
  m_bool : mg "bool" = none
  m_tuple : mg "tuple" = none
  m_range : mg "range" = none
  m_max : mg "max" = none
  m_all : mg "all" = none
  m_zip : mg "zip" = none
  m_any : mg "any" = none
  m_sum : mg "sum" = none
  m_sorted : mg "sorted" = none
  m_enumerate : mg "enumerate" = none
  m_abs : mg "abs" = none
  m_ValueError : mg "ValueError" = none
  m_set : mg "set" = none
  a_PRIMES : Addr
  g_PRIMES : mg "PRIMES" = some (.ref a_PRIMES)
  t_PRIMES : ∀ H, SqT K H a_PRIMES [.int 2, .int 3, .int 5, .int 7, .int 11, .int 13, .int 17, .int 19, .int 23, .int 29]
section
variable {P : Program} {w : World} {K : PySem.W.Frag} {mg : Str -> Option Value} {base : Heap}
def sp_l_take : Sp := fun vs H Q _ => ∃ (a : Addr) (n far : Int), vs = [.ref a, .int far] /\ H a = some (.lst [.int n]) /\ 0 < far /\ far < 1073741824 /\ Q (.int (n % far)) (upd H a (.lst [.int (n / far)]))
theorem ok_l_take (T : Tx K mg) : FnOk P w K mg base CX0 1 T.f_l_take T.fd_l_take ["pot", "far"] sp_l_take := by
  refine T.D_l_take.fn.okQ sc_l_take (fun vs H Q E h => ?_) (fun cdv A outer s H vs Q E hr h => ?_)
  · obtain ⟨a, n, far, rfl, _⟩ := h
    rfl
  · obtain ⟨a, n, far, rfl, ha, h0, h1, q⟩ := h
    refine ⟨_, (qss_cons (qs_set (i := 2) sc_l_take.nd rfl (Or.inl rfl) (qe_op op_mod (qe_ix ix_list (qv 0) qe_int (fun _ _ => rfl)) (qv 1)))
      (qss_cons (qs_asg (qe_op op_fdiv (qe_ix ix_list (qv 0) qe_int (fun _ _ => rfl)) (qv 1)) (qg_sub (qv 0) qe_int set_list))
      (qss_one (qs_ret (qv 2))))), ?_⟩
    refine ⟨_, rfl, a, _, _, _, rfl, rfl, SqL.of ha, rfl, _, rfl, _, _, rfl, rfl, h0, ?_⟩
    refine ⟨_, rfl, a, _, _, _, rfl, rfl, SqL.of ha, rfl, _, rfl, _, _, rfl, rfl, ⟨h0, h1⟩, _, rfl, a, _, _, 0, rfl, rfl, ha, rfl, ?_⟩
    exact ⟨_, rfl, q⟩
def sp_l_cell_at (K : PySem.W.Frag) : Sp := fun vs H Q _ => ∃ (a : Addr) (ns : List Int) (k : Int), vs = [.ref a, .int k] /\ SqL K H a (ns.map V.int) /\ 0 <= k /\ ∀ c : Int, Q (.int c) H
theorem ok_l_cell_at (T : Tx K mg) : FnOk P w K mg base CX0 1 T.f_l_cell_at T.fd_l_cell_at ["script", "k"] (sp_l_cell_at K) := by
  refine T.D_l_cell_at.fn.okQ sc_l_cell_at (fun vs H Q E h => ?_) (fun cdv A outer s H vs Q E hr h => ?_)
  · obtain ⟨a, ns, k, rfl, _⟩ := h
    rfl
  · obtain ⟨a, ns, k, rfl, hS, h0, q⟩ := h
    refine ⟨_, (qss_cons (qs_if (qt_cmpR op_lt (qv 1) (qe_callB call_len_seq (by rfl) T.m_len b_len (qa_c (qv 0) qa_nil)) (nomark _))
        (qss_one (qs_ret (qe_ix ix_list (qv 0) (qv 1) (fun _ _ => rfl))))
        qss_nil)
      (qss_one (qs_ret qe_int))), ?_⟩
    refine ⟨_, rfl, _, rfl, a, _, rfl, .inl hS, _, _, rfl, rfl, _, rfl, ?_⟩
    refine ite2 (fun hlt => ?_) (fun _ => q 0)
    have hlt' : k < ((ns.map V.int).length : Int) := by simpa using hlt
    rw [List.length_map] at hlt'
    have hk : k.toNat < ns.length := by omega
    have e : (ns.map V.int)[k.toNat]? = some (V.int ns[k.toNat]) := by rw [List.getElem?_map, List.getElem?_eq_getElem hk]; rfl
    exact ⟨_, rfl, _, rfl, a, _, _, _, rfl, rfl, hS, atI_of h0 e, q _⟩
def sp_l_pot : Sp := fun vs H Q _ => ∃ c : Int, vs = [.int c] /\ ∀ (n : Int) (p : Addr), H p = none -> Q (.ref p) (upd H p (.lst [.int n]))
theorem ok_l_pot (T : Tx K mg) : FnOk P w K mg base CX0 1 T.f_l_pot T.fd_l_pot ["cell"] sp_l_pot := by
  refine T.D_l_pot.fn.okQ sc_l_pot (fun vs H Q E h => ?_) (fun cdv A outer s H vs Q E hr h => ?_)
  · obtain ⟨c, rfl, _⟩ := h
    rfl
  · obtain ⟨c, rfl, q⟩ := h
    refine ⟨_, (qss_cons (qs_if (qt_cmpR op_ge (qv 0) (qe_op op_pow qe_int qe_int) (nomark _))
        (qss_one (qs_ret (qe_lst (qa_c (qe_op op_sub (qv 0) (qe_op op_pow qe_int qe_int)) qa_nil))))
        qss_nil)
      (qss_cons (qs_set (i := 1) sc_l_pot.nd rfl (Or.inl rfl) qe_int)
      (qss_cons (qs_for PassesOwn.never rfl (qi_range1 rfl T.m_range (qa_c qe_int qa_nil)) (qg_name (i := 2) sc_l_pot.nd rfl (Or.inl rfl))
        (qss_cons (qs_set (i := 3) sc_l_pot.nd rfl (Or.inl rfl) (qe_op op_mod (qe_op op_mul (qe_op op_add (qe_op op_add (qe_op op_mod (qv 0) qe_int) (qe_op op_mul qe_int (qv 2))) qe_int) qe_int) qe_int))
      (qss_cons (qs_set (i := 3) sc_l_pot.nd rfl (Or.inl rfl) (qe_op op_mod (qe_op op_add (qe_op op_add (qe_op op_mul (qv 3) (qv 3)) (qe_op op_mul qe_int (qv 2))) qe_int) qe_int))
      (qss_one (qs_set (i := 1) sc_l_pot.nd rfl (Or.inl rfl) (qe_op op_add (qe_op op_mul (qv 1) qe_int) (qv 3)))))))
      (qss_one (qs_ret (qe_lst (qa_c (qv 1) qa_nil))))))), ?_⟩
    refine ⟨_, rfl, _, _, rfl, rfl, ⟨by decide, by decide, by decide⟩, _, _, rfl, rfl, _, rfl, ?_⟩
    refine ite2 (fun _ => ?_) (fun _ => ?_)
    · refine ⟨_, rfl, _, _, rfl, rfl, ⟨by decide, by decide, by decide⟩, _, _, rfl, rfl, (by show 1 <= sizeLine; decide), fun p hp => ?_⟩
      exact q _ p hp
    · refine ⟨64, rfl, by decide, by decide, for_range (n := 64) (fun i σ H2 => ∃ (n : Int) (u v : Option V), σ = [some (.int c), some (.int n), u, v] /\ H2 = H) ⟨0, none, none, rfl, rfl⟩ ?_ ?_⟩
      · rintro i σ H2 hi ⟨n, u, v, rfl, rfl⟩
        refine ⟨_, rfl, _, _, rfl, rfl, (by show (0 : Int) < 2147483629; decide), _, rfl, _, _, rfl, rfl, .inl ⟨by decide, by decide⟩, _, _, rfl, rfl, _, _, rfl, rfl, _, _, rfl, rfl, .inr ⟨by decide, by decide⟩, _, _, rfl, rfl, (by show (0 : Int) < 2147483647; decide), ?_⟩
        refine ⟨_, rfl, _, rfl, _, _, rfl, rfl, .inl ?_, _, rfl, _, _, rfl, rfl, .inl ⟨by decide, by decide⟩, _, _, rfl, rfl, _, _, rfl, rfl, _, _, rfl, rfl, (by show (0 : Int) < 2147483587; decide), ?_⟩
        · have h1 := Int.emod_nonneg ((c % 2147483629 + 7919 * (0 + (i : Int)) + 1) * 48271) (show (2147483647 : Int) ≠ 0 by decide)
          have h2 := Int.emod_lt_of_pos ((c % 2147483629 + 7919 * (0 + (i : Int)) + 1) * 48271) (show (0 : Int) < 2147483647 by decide)
          exact ⟨by omega, by omega⟩
        refine ⟨_, rfl, _, _, rfl, rfl, .inr ⟨by decide, by decide⟩, _, rfl, _, _, rfl, rfl, ?_⟩
        exact ⟨_, _, _, rfl, rfl⟩
      · rintro σ H2 ⟨n, u, v, rfl, rfl⟩
        exact ⟨_, rfl, (by show 1 <= sizeLine; decide), fun p hp => q n p hp⟩
def sp_l_takeA : Sp := fun vs H Q _ => ∃ (a : Addr) (n far : Int), vs = [.ref a, .int far] /\ H a = some (.lst [.int n]) /\ 0 < far /\ far < 1073741824 /\
  ∀ (r n' : Int) (H' : Hp), 0 <= r -> r < far -> But a H H' -> H' a = some (.lst [.int n']) -> Q (.int r) H'
theorem ok_l_takeA (T : Tx K mg) : FnOk P w K mg base CX0 1 T.f_l_take T.fd_l_take ["pot", "far"] sp_l_takeA :=
  (ok_l_take T).imp fun vs H Q E ⟨a, n, far, e, ha, h0, h1, q⟩ => ⟨a, n, far, e, ha, h0, h1, q _ (n / far) _ (Int.emod_nonneg n (by omega)) (Int.emod_lt_of_pos n h0) But.upd upd_same⟩
def primesV : List V := [.int 2, .int 3, .int 5, .int 7, .int 11, .int 13, .int 17, .int 19, .int 23, .int 29]
theorem primesV_get {i : Nat} {x : V} (h : primesV[i]? = some x) : ∃ p : Nat, x = .int (p : Int) /\ primes[i]? = some p /\ p < 30 := by
  match i, h with
  | 0, h => cases h; exact ⟨2, rfl, rfl, by decide⟩
  | 1, h => cases h; exact ⟨3, rfl, rfl, by decide⟩
  | 2, h => cases h; exact ⟨5, rfl, rfl, by decide⟩
  | 3, h => cases h; exact ⟨7, rfl, rfl, by decide⟩
  | 4, h => cases h; exact ⟨11, rfl, rfl, by decide⟩
  | 5, h => cases h; exact ⟨13, rfl, rfl, by decide⟩
  | 6, h => cases h; exact ⟨17, rfl, rfl, by decide⟩
  | 7, h => cases h; exact ⟨19, rfl, rfl, by decide⟩
  | 8, h => cases h; exact ⟨23, rfl, rfl, by decide⟩
  | 9, h => cases h; exact ⟨29, rfl, rfl, by decide⟩
  | (k + 10), h => cases h
def sp_l_primesL : Sp := fun vs H Q _ => vs = [] /\ ∀ p H', H p = none -> Same H H' -> H' p = some (.lst primesV) -> Q (.ref p) H'
theorem ok_l_primes (T : Tx K mg) : FnOk P w K mg base CX0 1 T.f_l_primes T.fd_l_primes [] sp_l_primesL := by
  refine T.D_l_primes.fn.okQ sc_l_primes (fun vs H Q E h => ?_) (fun cdv A outer s H vs Q E hr h => ?_)
  · obtain ⟨rfl, _⟩ := h
    rfl
  · obtain ⟨rfl, q⟩ := h
    refine ⟨_, (qss_one (qs_ret (qe_lstA (qa_c qe_int (qa_c qe_int (qa_c qe_int (qa_c qe_int (qa_c qe_int (qa_c qe_int (qa_c qe_int (qa_c qe_int (qa_c qe_int (qa_c qe_int qa_nil))))))))))))), ?_⟩
    exact ⟨(by show 10 <= sizeLine; decide), fun p H' f s hp => q p H' f s hp⟩
def sp_whole : Sp := fun vs H Q _ => ∃ v, vs = [v] /\ kindV H v /\ Q (.bl (isW v)) H
theorem ok_is_whole (T : Tx K mg) : FnOk P w K mg base CX0 1 T.f_is_whole T.fd_is_whole ["thing"] sp_whole := by
  refine T.D_is_whole.fn.okQ sc_is_whole (fun vs H Q E h => ?_) (fun cdv A outer s H vs Q E hr h => ?_)
  · obtain ⟨v, rfl, _⟩ := h
    rfl
  · obtain ⟨v, rfl, k, q⟩ := h
    refine ⟨_, (qss_one (qs_ret (qe_and (qe_callB call_isi (by rfl) T.m_isinstance b_isinstance (qa_c (qv 0) (qa_c (qe_ty (by rfl) T.m_int b_int) qa_nil))) (qe_one (qe_not (qe_callB call_isi (by rfl) T.m_isinstance b_isinstance (qa_c (qv 0) (qa_c (qe_ty (by rfl) T.m_bool b_bool) qa_nil)))))))), ?_⟩
    obtain ⟨t, ty, e⟩ := isi_I (K := K) k
    obtain ⟨t', ty', e'⟩ := isi_B (K := K) k
    rw [← isW_eq] at q
    refine ⟨v, rfl, v, "int", t, _, rfl, ty, e, _, rfl, ?_⟩
    cases hi : isI v with
    | false =>
      rw [hi] at q
      exact iteF q
    | true =>
      rw [hi] at q
      exact iteT ⟨v, rfl, v, "bool", t', _, rfl, ty', e', _, rfl, q⟩
def natAt (σ : St) (i : Nat) : Nat := match σ[i]? with
  | some (some (.int r)) => r.toNat
  | _ => 0
theorem int_eq0 {i j : Int} (h : decide (V.int i = V.int j) = true) : i = j := by
  have := of_decide_eq_true h
  injection this
theorem int_ne0 {i j : Int} (h : ¬ decide (V.int i = V.int j) = true) : i ≠ j := fun z => h (decide_eq_true (by rw [z]))
theorem stripL_snoc : ∀ (ps : List Nat) (i p n : Nat), ps[i]? = some p -> stripL (ps.take (i + 1)) n = strip p (stripL (ps.take i) n) := by
  intro ps i p n h
  unfold stripL
  rw [List.take_add_one, h, List.foldl_append]
  rfl
def sp_without_primes : Sp := fun vs H Q _ => ∃ m : Int, vs = [.int m] /\ 1 <= m /\ Q (.int (stripAll m.toNat : Nat)) H
theorem ok_without_primes (T : Tx K mg) : FnOk P w K mg base CX0 1 T.f_without_primes T.fd_without_primes ["number"] sp_without_primes := by
  refine T.D_without_primes.fn.okQ sc_without_primes (fun vs H Q E h => ?_) (fun cdv A outer s H vs Q E hr h => ?_)
  · obtain ⟨m, rfl, _⟩ := h
    rfl
  · obtain ⟨m, rfl, hm, q⟩ := h
    refine ⟨_, (qss_cons (qs_set (i := 1) sc_without_primes.nd rfl (Or.inl rfl) (qv 0))
      (qss_cons (qs_for PassesOwn.never rfl (qi_tup (qe_glob (v := .ref T.a_PRIMES) (by rfl) T.g_PRIMES rfl)) (qg_name (i := 2) sc_without_primes.nd rfl (Or.inl rfl))
        (qss_one (qs_while PassesOwn.never (qt_cmpR op_eq (qe_op op_mod (qv 1) (qv 2)) qe_int (nomark _))
        (qss_one (qs_set (i := 1) sc_without_primes.nd rfl (Or.inl rfl) (qe_op op_fdiv (qv 1) (qv 2)))))))
      (qss_one (qs_ret (qv 1))))), ?_⟩
    refine ⟨_, rfl, T.a_PRIMES, rfl, ⟨primesV, T.t_PRIMES H⟩, for_tup (xs := primesV) (fun i σ H2 => (∃ u : Option V, σ = [some (.int m), some (.int (stripL (primes.take i) m.toNat : Nat)), u]) /\ H2 = H) ⟨⟨none, ?_⟩, rfl⟩ (fun i σ H2 _ _ => T.t_PRIMES H2) ?_ ?_⟩
    · show [some (V.int m), some (V.int m), none] = _
      rw [show stripL (primes.take 0) m.toNat = m.toNat from rfl, Int.toNat_of_nonneg (by omega)]
    · rintro i x σ H2 hx ⟨⟨u, rfl⟩, rfl⟩
      obtain ⟨p, rfl, hp, hp30⟩ := primesV_get hx
      have hp2 : 2 <= p := two_le p (List.mem_of_getElem? hp)
      have hpos : 1 <= stripL (primes.take i) m.toNat := stripL_pos _ (fun r hr => two_le r (List.mem_of_mem_take hr)) _ (by omega)
      refine while_own (fun σ H3 => ∃ r : Nat, σ = [some (.int m), some (.int (r : Int)), some (.int (p : Int))] /\ 1 <= r /\ strip p r = strip p (stripL (primes.take i) m.toNat) /\ H3 = H2) (fun σ _ => natAt σ 1) ⟨_, rfl, hpos, rfl, rfl⟩ ?_
      rintro σ H3 ⟨r, rfl, hr1, hrs, rfl⟩
      refine ⟨_, rfl, _, rfl, _, _, rfl, rfl, (by show (0 : Int) < p; omega), rfl, _, rfl, ite2 (fun h => ?_) (fun h => ?_)⟩
      · have h0 : (r : Int) % (p : Int) = 0 := int_eq0 h
        have h0' : r % p = 0 := by omega
        refine whN ⟨_, rfl, _, rfl, _, _, rfl, rfl, ⟨by omega, by omega⟩, ?_⟩
        refine ⟨⟨r / p, ?_, div_pos_of hr1 h0', by rw [← strip_div hp2 hr1 h0']; exact hrs, rfl⟩, ?_⟩
        · rw [Int.natCast_ediv]; rfl
        · show ((r : Int) / (p : Int)).toNat < ((r : Int)).toNat
          rw [← Int.natCast_ediv, Int.toNat_natCast, Int.toNat_natCast]
          exact Nat.div_lt_self hr1 hp2
      · have h0 : ¬ (r : Int) % (p : Int) = 0 := int_ne0 h
        have h0' : r % p ≠ 0 := by omega
        refine ⟨⟨some (.int (p : Int)), ?_⟩, rfl⟩
        rw [stripL_snoc primes i p _ hp, ← hrs, strip_not h0']
    · rintro σ H2 ⟨⟨u, rfl⟩, rfl⟩
      exact ⟨_, rfl, q⟩
theorem prodR_snoc : ∀ (ps es : List Nat) (i p e : Nat), ps[i]? = some p -> es[i]? = some e -> prodR (ps.take (i + 1)) (es.take (i + 1)) = prodR (ps.take i) (es.take i) * p ^ e
  | [], _, _, _, _, h, _ => by cases h
  | _, [], _, _, _, _, h => by cases h
  | p0 :: ps, e0 :: es, 0, p, e, h, h' => by
    have z : p0 = p := Option.some.inj h
    have z' : e0 = e := Option.some.inj h'
    subst z; subst z'
    show p0 ^ e0 * 1 = 1 * p0 ^ e0
    omega
  | p0 :: ps, e0 :: es, i + 1, p, e, h, h' => by
    show p0 ^ e0 * prodR (ps.take (i + 1)) (es.take (i + 1)) = p0 ^ e0 * prodR (ps.take i) (es.take i) * p ^ e
    rw [prodR_snoc ps es i p e h h', Nat.mul_assoc]
def sp_l_number : Sp := fun vs H Q _ => ∃ (b : Addr) (es : List Int), vs = [.ref b] /\ H b = some (.lst (es.map V.int)) /\ es.length = 10 /\ (∀ e ∈ es, 0 <= e /\ e < 2 ^ 62) /\ ∀ H', Same H H' -> Q (.int (prod (es.map Int.toNat) : Nat)) H'
theorem ok_l_number (T : Tx K mg) : FnOk P w K mg base CX0 2 T.f_l_number T.fd_l_number ["powers"] sp_l_number := by
  refine T.D_l_number.fn.okQ sc_l_number (fun vs H Q E h => ?_) (fun cdv A outer s H vs Q E hr h => ?_)
  · obtain ⟨b, es, rfl, _⟩ := h
    rfl
  · obtain ⟨b, es, rfl, hb, he, hm, q⟩ := h
    refine ⟨_, (qss_cons (qs_set (i := 1) sc_l_number.nd rfl (Or.inl rfl) qe_int)
      (qss_cons (qs_for PassesOwn.never rfl (qi_zipL rfl rfl T.m_zip (qa_c (qe_call0 (ok_l_primes T) (hr.mono (by decide)) rfl T.D_l_primes.at_ T.D_l_primes.fn.kp T.D_l_primes.bd .nil pass0) (qa_c (qv 0) qa_nil))) (qg_tup rfl (qgs_cons (qg_name (i := 2) sc_l_number.nd rfl (Or.inl rfl)) (qgs_cons (qg_name (i := 3) sc_l_number.nd rfl (Or.inl rfl)) qgs_nil)))
        (qss_one (qs_for PassesOwn.never rfl (qi_range1 rfl T.m_range (qa_c (qv 3) qa_nil)) (qg_name (i := 4) sc_l_number.nd rfl (Or.inl rfl))
        (qss_one (qs_set (i := 1) sc_l_number.nd rfl (Or.inl rfl) (qe_op op_mul (qv 1) (qv 2)))))))
      (qss_one (qs_ret (qv 1))))), ?_⟩
    refine ⟨rfl, fun t H1 f1 s1 ht => ⟨_, rfl, t, b, _, _, rfl, ht, s1 _ _ hb, ?_⟩⟩
    have hpl : primesV.length = 10 := rfl
    have hel : (es.map V.int).length = 10 := by rw [List.length_map]; exact he
    refine for_zipL (xs := primesV) (ys := es.map V.int) (fun i σ H2 => (∃ u v x : Option V, σ = [some (.ref b), some (.int (prodR (primes.take i) ((es.map Int.toNat).take i) : Nat)), u, v, x]) /\ Same H1 H2) ⟨⟨none, none, none, rfl⟩, Same.refl _⟩ ?_ ?_ ?_
    · rintro i σ H2 hi ⟨_, s2⟩
      exact ⟨s2 _ _ ht, s2 _ _ (s1 _ _ hb)⟩
    · rintro i x y z σ H2 hx hy hz ⟨⟨u, v, x', rfl⟩, s2⟩
      obtain ⟨p, rfl, hp, hp30⟩ := primesV_get hx
      obtain ⟨e, rfl, hee⟩ := map_int_get hy
      obtain ⟨e0, e1⟩ := hm e (List.mem_of_getElem? hee)
      refine ⟨z, _, rfl, SqT.of upd_same, rfl, _, _, rfl, _, _, rfl, rfl, ?_⟩
      refine ⟨_, rfl, e, rfl, by omega, e1, for_range (n := e.toNat) (fun j σ H3 => (∃ x : Option V, σ = [some (.ref b), some (.int ((prodR (primes.take i) ((es.map Int.toNat).take i) * p ^ j : Nat) : Int)), some (.int p), some (.int e), x]) /\ Same H1 H3) ⟨⟨x', by rw [Nat.pow_zero, Nat.mul_one]; rfl⟩, Same.more s2 hz⟩ ?_ ?_⟩
      · rintro j σ H3 hj ⟨⟨x2, rfl⟩, s3⟩
        refine ⟨_, rfl, _, rfl, _, _, rfl, rfl, .inr ⟨by omega, by omega⟩, ⟨some (.int (0 + (j : Int))), ?_⟩, s3⟩
        rw [Nat.pow_succ, ← Nat.mul_assoc, Int.natCast_mul _ p]
        rfl
      · rintro σ H3 ⟨⟨x2, rfl⟩, s3⟩
        refine ⟨⟨some (.int p), some (.int e), x2, ?_⟩, s3⟩
        have hee' : (es.map Int.toNat)[i]? = some e.toNat := by rw [List.getElem?_map, hee]; rfl
        rw [prodR_snoc primes (es.map Int.toNat) i p e.toNat hp hee']
    · rintro σ H2 ⟨⟨u, v, x, rfl⟩, s2⟩
      have e2 : min primesV.length (es.map V.int).length = 10 := by rw [hpl, hel]; rfl
      refine ⟨_, rfl, ?_⟩
      rw [e2]
      have z1 : primes.take 10 = primes := rfl
      have z2 : (es.map Int.toNat).take 10 = es.map Int.toNat := List.take_of_length_le (by rw [List.length_map, he]; exact Nat.le_refl _)
      rw [z1, z2]
      exact q H2 (s1.trans s2)
def lstI (es : List Int) : HO := .lst (es.map V.int)
def sp_l_parts : Sp := fun vs H Q _ => ∃ m : Int, vs = [.int m] /\ 1 <= m /\ ∀ p H', H p = none -> Same H H' -> H' p = some (lstI (natI (powsOf m.toNat))) -> Q (.ref p) H'
theorem ok_l_parts (T : Tx K mg) : FnOk P w K mg base CX0 2 T.f_l_parts T.fd_l_parts ["number"] sp_l_parts := by
  refine T.D_l_parts.fn.okQ sc_l_parts (fun vs H Q E h => ?_) (fun cdv A outer s H vs Q E hr h => ?_)
  · obtain ⟨m, rfl, _⟩ := h
    rfl
  · obtain ⟨m, rfl, hm, q⟩ := h
    refine ⟨_, (qss_cons (qs_set (i := 1) sc_l_parts.nd rfl (Or.inl rfl) (qe_lstA qa_nil))
      (qss_cons (qs_for PassesOwn.never rfl (qi_list (qe_call0 (ok_l_primes T) (hr.mono (by decide)) rfl T.D_l_primes.at_ T.D_l_primes.fn.kp T.D_l_primes.bd .nil pass0)) (qg_name (i := 2) sc_l_parts.nd rfl (Or.inl rfl))
        (qss_cons (qs_set (i := 3) sc_l_parts.nd rfl (Or.inl rfl) qe_int)
      (qss_cons (qs_while PassesOwn.never (qt_cmpR op_eq (qe_op op_mod (qv 0) (qv 2)) qe_int (nomark _))
        (qss_cons (qs_set (i := 0) sc_l_parts.nd rfl (Or.inl rfl) (qe_op op_fdiv (qv 0) (qv 2)))
      (qss_one (qs_set (i := 3) sc_l_parts.nd rfl (Or.inl rfl) (qe_op op_add (qv 3) qe_int)))))
      (qss_one (qs_expr (qe_bm PySem.F.plainAttrs_list PySem.F.slot_list_append PySem.F.type_list_append mt_appendA (qv 1) (qa_c (qv 3) qa_nil)))))))
      (qss_one (qs_ret (qv 1))))), ?_⟩
    refine ⟨(by show 0 <= sizeLine; decide), fun l H0 f0 s0 hl0 => ⟨rfl, fun t H1 f1 s1 ht => ⟨t, rfl, ⟨_, SqL.of ht⟩, ?_⟩⟩⟩
    have ntl : t ≠ l := fun z => by rw [z] at f1; rw [f1] at hl0; cases hl0
    refine for_list (K := K) (xs := primesV) (fun i σ H2 => (∃ u v : Option V, σ = [some (.int (stripL (primes.take i) m.toNat : Nat)), some (.ref l), u, v]) /\ Same H H2 /\ H2 t = some (.lst primesV) /\ H2 l = some (lstI (natI (expsL (primes.take i) m.toNat)))) ⟨⟨none, none, ?_⟩, s0.trans s1, ht, s1 _ _ hl0⟩ (fun i σ H2 _ ⟨_, _, a, _⟩ => SqL.of a) ?_ ?_
    · show [some (V.int m), some (V.ref l), none, none] = _
      rw [show stripL (primes.take 0) m.toNat = m.toNat from rfl, Int.toNat_of_nonneg (by omega)]
    · rintro i x σ H2 hx ⟨⟨u, v, rfl⟩, s2, ht2, hl2⟩
      obtain ⟨p, rfl, hp, hp30⟩ := primesV_get hx
      have hp2 : 2 <= p := two_le p (List.mem_of_getElem? hp)
      have hpos : 1 <= stripL (primes.take i) m.toNat := stripL_pos _ (fun r hr => two_le r (List.mem_of_mem_take hr)) _ (by omega)
      refine while_own (fun σ H3 => ∃ r o : Nat, σ = [some (.int (r : Int)), some (.ref l), some (.int (p : Int)), some (.int (o : Int))] /\ 1 <= r /\ strip p r = strip p (stripL (primes.take i) m.toNat) /\ o + cnt p r = cnt p (stripL (primes.take i) m.toNat) /\ H3 = H2) (fun σ _ => natAt σ 0) ⟨_, 0, rfl, hpos, rfl, Nat.zero_add _, rfl⟩ ?_
      rintro σ H3 ⟨r, o, rfl, hr1, hrs, hro, rfl⟩
      refine ⟨_, rfl, _, rfl, _, _, rfl, rfl, (by show (0 : Int) < p; omega), rfl, _, rfl, ite2 (fun h => ?_) (fun h => ?_)⟩
      · have h0 : (r : Int) % (p : Int) = 0 := int_eq0 h
        have h0' : r % p = 0 := by omega
        refine whN ⟨_, rfl, _, rfl, _, _, rfl, rfl, ⟨by omega, by omega⟩, _, rfl, _, _, rfl, rfl, ?_⟩
        refine ⟨⟨r / p, o + 1, ?_, div_pos_of hr1 h0', by rw [← strip_div hp2 hr1 h0']; exact hrs, by rw [cnt_div hp2 hr1 h0'] at hro; omega, rfl⟩, ?_⟩
        · rw [Int.natCast_ediv, Int.natCast_add]; rfl
        · show ((r : Int) / (p : Int)).toNat < ((r : Int)).toNat
          rw [← Int.natCast_ediv, Int.toNat_natCast, Int.toNat_natCast]
          exact Nat.div_lt_self hr1 hp2
      · have h0 : ¬ (r : Int) % (p : Int) = 0 := int_ne0 h
        have h0' : r % p ≠ 0 := by omega
        have hlen : ((natI (expsL (primes.take i) m.toNat)).map V.int).length < sizeLine := by
          rw [List.length_map]
          unfold natI
          rw [List.length_map, expsL_length, List.length_take, sizeLine_eq]
          show min i 10 < _
          omega
        refine ⟨_, rfl, .inl ⟨rfl, _, SqL.of hl2⟩, _, rfl, l, _, _, rfl, rfl, hl2, hlen, fun H4 b4 hl4 => ⟨⟨some (.int (p : Int)), some (.int (o : Int)), ?_⟩, ?_, b4 _ _ ntl ht2, ?_⟩⟩
        · rw [stripL_snoc primes i p _ hp, ← hrs, strip_not h0']
        · intro b ob eb
          exact b4 _ _ (ne_of_none eb f0) (s2 _ _ eb)
        · rw [hl4, expsL_snoc primes i p _ hp, ← hro, cnt_not h0', Nat.add_zero]
          unfold lstI natI
          rw [List.map_append, List.map_append]
          rfl
    · rintro σ H2 ⟨⟨u, v, rfl⟩, s2, ht2, hl2⟩
      refine ⟨_, rfl, q l H2 f0 s2 ?_⟩
      rw [hl2, powsOf_exps (by omega)]
      rfl
end
end W2
namespace W2
open PySem L2 Mth
section
variable {P : Program} {w : World} {K : PySem.W.Frag} {mg : Str -> Option Value} {base : Heap}
theorem mx_ups : ∀ (ts bs : List Int), (List.zipWith (fun x y : Int => if x - y > 0 then x - y else 0) ts bs).map Int.toNat = ups (List.zipWith (fun x y : Int => x - y) ts bs)
  | [], _ => rfl
  | _ :: _, [] => rfl
  | x :: ts, y :: bs => by
    show (if x - y > 0 then x - y else 0).toNat :: (List.zipWith _ ts bs).map Int.toNat = (x - y).toNat :: ups (List.zipWith _ ts bs)
    rw [mx_ups ts bs]
    congr 1
    split <;> omega
theorem mx_downs : ∀ (ts bs : List Int), (List.zipWith (fun x y : Int => if y - x > 0 then y - x else 0) ts bs).map Int.toNat = downs (List.zipWith (fun x y : Int => x - y) ts bs)
  | [], _ => rfl
  | _ :: _, [] => rfl
  | x :: ts, y :: bs => by
    show (if y - x > 0 then y - x else 0).toNat :: (List.zipWith _ ts bs).map Int.toNat = (-(x - y)).toNat :: downs (List.zipWith _ ts bs)
    rw [mx_downs ts bs]
    congr 1
    split <;> omega
theorem ups_sub : ∀ (ts bs : List Int), (∀ b ∈ bs, 0 <= b) -> (ups (List.zipWith (fun x y : Int => x - y) ts bs)).sum <= (ups ts).sum
  | [], _, _ => Nat.le_refl _
  | _ :: _, [], _ => Nat.zero_le _
  | x :: ts, y :: bs, h => by
    show (x - y).toNat + (ups (List.zipWith _ ts bs)).sum <= x.toNat + (ups ts).sum
    have := ups_sub ts bs fun b hb => h b (List.mem_cons_of_mem _ hb)
    have := h y List.mem_cons_self
    omega
theorem downs_sub : ∀ (ts bs : List Int), (∀ b ∈ ts, 0 <= b) -> (downs (List.zipWith (fun x y : Int => x - y) ts bs)).sum <= (ups bs).sum
  | [], _, _ => Nat.zero_le _
  | _ :: _, [], _ => Nat.zero_le _
  | x :: ts, y :: bs, h => by
    show (-(x - y)).toNat + (downs (List.zipWith _ ts bs)).sum <= y.toNat + (ups bs).sum
    have := downs_sub ts bs fun b hb => h b (List.mem_cons_of_mem _ hb)
    have := h x List.mem_cons_self
    omega
theorem mem_le_sum : ∀ {l : List Nat} {x : Nat}, x ∈ l -> x <= l.sum
  | [], _, h => by cases h
  | y :: r, x, h => by
    rw [List.sum_cons]
    rcases List.mem_cons.mp h with z | z
    · omega
    · have := mem_le_sum z; omega
theorem ups_mem {es : List Int} {e : Int} (h : e ∈ es) : e <= ((ups es).sum : Nat) := by
  have : e.toNat <= (ups es).sum := mem_le_sum (List.mem_map.mpr ⟨e, h, rfl⟩)
  omega
theorem zipWith_mem {α β γ : Type} {f : α -> β -> γ} {xs : List α} {ys : List β} {z : γ} (h : z ∈ List.zipWith f xs ys) : ∃ x y, x ∈ xs /\ y ∈ ys /\ z = f x y := by
  obtain ⟨i, hi⟩ := List.getElem?_of_mem h
  obtain ⟨x, y, h1, h2, h3⟩ := List.getElem?_zipWith_eq_some.mp hi
  exact ⟨x, y, List.mem_of_getElem? h1, List.mem_of_getElem? h2, h3.symm⟩
def sp_l_fraction : Sp := fun vs H Q _ => ∃ (t b : Addr) (ts bs : List Int), vs = [.ref t, .ref b] /\ H t = some (lstI ts) /\ H b = some (lstI bs) /\ ts.length = 10 /\ bs.length = 10 /\ (∀ e ∈ ts, 0 <= e) /\ (∀ e ∈ bs, 0 <= e) /\ (ups ts).sum <= 7 /\ (ups bs).sum <= 7 /\
  ∀ (p : Addr) (H' : Hp) (i j : Int), Same H H' -> H' p = some (.tup [.int i, .int j]) -> fracB i j = true -> Q (.ref p) H'
theorem ok_l_fraction (T : Tx K mg) : FnOk P w K mg base CX0 3 T.f_l_fraction T.fd_l_fraction ["top", "bottom"] sp_l_fraction := by
  refine T.D_l_fraction.fn.okQ sc_l_fraction (fun vs H Q E h => ?_) (fun cdv A outer s H vs Q E hr h => ?_)
  · obtain ⟨t, b, ts, bs, rfl, _⟩ := h
    rfl
  · obtain ⟨t, b, ts, bs, rfl, ht, hb, tl, bl, t0, b0, t7, b7, q⟩ := h
    refine ⟨_, (qss_cons (qs_set (i := 2) sc_l_fraction.nd rfl (Or.inl rfl) (qe_call (ok_l_number T) (hr.mono (by decide)) rfl T.D_l_number.at_ T.D_l_number.fn.kp T.D_l_number.bd .nil pass0 (qa_c (qe_comp (compOk_of (osc := defScope s_l_fraction) (XN := ["top", "bottom", "early"]) (N := ["one", "other"]) (js := [none, none]) rfl rfl rfl (List.forall_mem_nil _) (by decide +kernel) rfl) rfl (qi_zipL rfl rfl T.m_zip (qa_c (qv 0) (qa_c (qv 1) qa_nil))) (fun _ _ _ _ => (qg_tupN (K := K) (n := 2) rfl rfl (qgs_cons (qg_name (i := 0) (show List.Nodup (["one", "other"] : List Str) from by decide +kernel) rfl (Or.inl rfl) (Or.inr rfl)) (qgs_cons (qg_name (i := 1) (show List.Nodup (["one", "other"] : List Str) from by decide +kernel) rfl (Or.inl rfl) (Or.inr rfl)) qgs_nil)))) (fun _ _ _ _ => qts_nil)
          (fun _ _ _ _ => (qe_callB (call_max2 rfl) (by rfl) T.m_max b_max (qa_c qe_int (qa_c (qe_op op_sub (qv 0) (qv 1)) qa_nil))))) qa_nil)))
      (qss_one (qs_ret (qe_tupA (qa_c (qv 2) (qa_c (qe_call (ok_l_number T) (hr.mono (by decide)) rfl T.D_l_number.at_ T.D_l_number.fn.kp T.D_l_number.bd .nil pass0 (qa_c (qe_comp (compOk_of (osc := defScope s_l_fraction) (XN := ["top", "bottom", "early"]) (N := ["one", "other"]) (js := [none, none]) rfl rfl rfl (List.forall_mem_nil _) (by decide +kernel) rfl) rfl (qi_zipL rfl rfl T.m_zip (qa_c (qv 0) (qa_c (qv 1) qa_nil))) (fun _ _ _ _ => (qg_tupN (K := K) (n := 2) rfl rfl (qgs_cons (qg_name (i := 0) (show List.Nodup (["one", "other"] : List Str) from by decide +kernel) rfl (Or.inl rfl) (Or.inr rfl)) (qgs_cons (qg_name (i := 1) (show List.Nodup (["one", "other"] : List Str) from by decide +kernel) rfl (Or.inl rfl) (Or.inr rfl)) qgs_nil)))) (fun _ _ _ _ => qts_nil)
          (fun _ _ _ _ => (qe_callB (call_max2 rfl) (by rfl) T.m_max b_max (qa_c qe_int (qa_c (qe_op op_sub (qv 1) (qv 0)) qa_nil))))) qa_nil)) qa_nil)))))), ?_⟩
    have hmin : min ts.length bs.length <= sizeLine := by rw [tl, bl, sizeLine_eq]; decide
    refine ⟨_, rfl, _, rfl, t, b, _, _, rfl, ht, hb, fun D hD => ?_⟩
    refine comp_zipL_ints (K := K) (f := fun x y => if x - y > 0 then x - y else 0) (σ0 := []) (xs := ts) (ys := bs) hmin ⟨_, _, rfl⟩ hD ht hb (fun x y H' R _ _ r => ⟨_, rfl, _, rfl, _, _, rfl, rfl, _, _, rfl, r⟩) fun H1 s1 h1 => ?_
    have l1 : (List.zipWith (fun x y : Int => if x - y > 0 then x - y else 0) ts bs).length = 10 := by rw [List.length_zipWith, tl, bl]; rfl
    refine ⟨D, _, rfl, h1, l1, ?_, fun H2 s2 => ?_⟩
    · intro e he
      obtain ⟨x, y, hx, hy, rfl⟩ := zipWith_mem he
      have := ups_mem hx
      have := b0 y hy
      split <;> omega
    have s12 := s1.trans s2
    refine ⟨_, rfl, _, rfl, _, rfl, t, b, _, _, rfl, s12 _ _ ht, s12 _ _ hb, fun D2 hD2 => ?_⟩
    refine comp_zipL_ints (K := K) (f := fun x y => if y - x > 0 then y - x else 0) (σ0 := []) (xs := ts) (ys := bs) hmin ⟨_, _, rfl⟩ hD2 (s12 _ _ ht) (s12 _ _ hb) (fun x y H' R _ _ r => ⟨_, rfl, _, rfl, _, _, rfl, rfl, _, _, rfl, r⟩) fun H3 s3 h3 => ?_
    have l2 : (List.zipWith (fun x y : Int => if y - x > 0 then y - x else 0) ts bs).length = 10 := by rw [List.length_zipWith, tl, bl]; rfl
    refine ⟨D2, _, rfl, h3, l2, ?_, fun H4 s4 => ⟨(by show 2 <= sizeLine; decide), fun p H5 f5 s5 hp => q p H5 _ _ (((s12.trans s3).trans s4).trans s5) hp ?_⟩⟩
    · intro e he
      obtain ⟨x, y, hx, hy, rfl⟩ := zipWith_mem he
      have := ups_mem hy
      have := t0 x hx
      split <;> omega
    · rw [mx_ups, mx_downs]
      exact fracB_prod7 (Nat.le_trans (ups_sub ts bs b0) t7) (Nat.le_trans (downs_sub ts bs t0) b7) (ups_or_downs _)
def sp_l_some : Sp := fun vs H Q _ => ∃ (a : Addr) (n wide most : Int), vs = [.ref a, .int wide, .int most] /\ H a = some (.lst [.int n]) /\ 0 < wide /\ wide <= 10 /\ 0 < most /\ most <= 10 /\
  ∀ (l : Addr) (H' : Hp) (n' : Int) (es : List Int), H l = none -> But a H H' -> H' a = some (.lst [.int n']) -> H' l = some (lstI es) -> es.length = 10 -> (∀ e ∈ es, 0 <= e) -> ((ups es).sum : Int) < most -> Q (.ref l) H'
theorem ok_l_some (T : Tx K mg) : FnOk P w K mg base CX0 2 T.f_l_some T.fd_l_some ["pot", "wide", "most"] sp_l_some := by
  refine T.D_l_some.fn.okQ sc_l_some (fun vs H Q E h => ?_) (fun cdv A outer s H vs Q E hr h => ?_)
  · obtain ⟨a, n, wide, most, rfl, _⟩ := h
    rfl
  · obtain ⟨a, n, wide, most, rfl, ha, w0, w10, m0, m10, q⟩ := h
    refine ⟨_, (qss_cons (qs_set (i := 3) sc_l_some.nd rfl (Or.inl rfl) (qe_op op_repLA (qe_lstA (qa_c qe_int qa_nil)) qe_int))
      (qss_cons (qs_for PassesOwn.never rfl (qi_range1 rfl T.m_range (qa_c (qe_call (ok_l_takeA T) (hr.mono (by decide)) rfl T.D_l_take.at_ T.D_l_take.fn.kp T.D_l_take.bd .nil pass0 (qa_c (qv 0) (qa_c (qv 2) qa_nil))) qa_nil)) (qg_name (i := 4) sc_l_some.nd rfl (Or.inl rfl))
        (qss_cons (qs_set (i := 5) sc_l_some.nd rfl (Or.inl rfl) (qe_call (ok_l_takeA T) (hr.mono (by decide)) rfl T.D_l_take.at_ T.D_l_take.fn.kp T.D_l_take.bd .nil pass0 (qa_c (qv 0) (qa_c (qv 1) qa_nil))))
      (qss_one (qs_asg (qe_op op_add (qe_ix ix_list (qv 3) (qv 5) (fun _ _ => rfl)) qe_int) (qg_sub (qv 3) (qv 5) set_list)))))
      (qss_one (qs_ret (qv 3))))), ?_⟩
    refine ⟨(by show 1 <= sizeLine; decide), fun l0 H1 f1 s1 hl0 => ⟨l0, 10, _, rfl, rfl, hl0, by decide, by decide, by decide, fun l H2 f2 s2 hl => ?_⟩⟩
    have ha2 := s2 _ _ (s1 _ _ ha)
    have nal : a ≠ l := ne_of_none (s1 _ _ ha) f2
    have fl : H l = none := s1.free f2
    refine ⟨_, rfl, _, rfl, a, n, most, rfl, ha2, m0, by omega, fun r3 n3 H3 r30 r31 b3 ha3 => ?_⟩
    refine ⟨r3, rfl, by omega, by omega, for_range (n := r3.toNat) (fun i σ H4 => (∃ u v : Option V, σ = [some (.ref a), some (.int wide), some (.int most), some (.ref l), u, v]) /\ But a H H4 /\ (∃ n' : Int, H4 a = some (.lst [.int n'])) /\ ∃ es : List Int, H4 l = some (lstI es) /\ es.length = 10 /\ (∀ e ∈ es, 0 <= e) /\ (ups es).sum <= i) ⟨⟨_, _, rfl⟩, (But.of (s1.trans s2)).trans b3, ⟨n3, ha3⟩, List.replicate 10 0, b3 _ _ nal.symm hl, rfl, (fun e he => by rw [(List.mem_replicate.mp he).2]; exact Int.le_refl 0), (by decide)⟩ ?_ ?_⟩
    · rintro i σ H4 hi ⟨⟨u, v, rfl⟩, b4, ⟨n4, ha4⟩, es, hl4, el, e0, es4⟩
      refine ⟨_, rfl, _, rfl, a, n4, wide, rfl, ha4, w0, by omega, fun m n5 H5 x0 x1 b5 ha5 => ?_⟩
      have hl5 := b5 _ _ nal.symm hl4
      have hk : m.toNat < es.length := by omega
      have hxm : es[m.toNat]? = some es[m.toNat] := List.getElem?_eq_getElem hk
      have hxv : (es.map V.int)[m.toNat]? = some (.int es[m.toNat]) := by rw [List.getElem?_map, hxm]; rfl
      refine ⟨_, rfl, _, rfl, l, _, _, _, rfl, rfl, SqL.of hl5, atI_of x0 hxv, _, _, rfl, rfl, _, rfl, _, rfl, l, _, _, _, rfl, rfl, hl5, ixN_of x0 (by rw [List.length_map]; omega), ⟨⟨_, _, rfl⟩, ?_, ⟨n5, ?_⟩, es.set m.toNat (es[m.toNat] + 1), ?_, by rw [List.length_set]; exact el, ?_, ?_⟩⟩
      · intro c o nc e
        rw [upd_ne (ne_of_none e fl)]
        exact b5 _ _ nc (b4 _ _ nc e)
      · rw [upd_ne nal]; exact ha5
      · rw [upd_same]
        unfold lstI
        rw [List.map_set]
      · intro e he
        rcases List.mem_or_eq_of_mem_set he with z | z
        · exact e0 e z
        · rw [z]
          have := e0 _ (List.getElem_mem hk)
          omega
      · exact Nat.le_trans (ups_up hxm) (by omega)
    · rintro σ H4 ⟨⟨u, v, rfl⟩, b4, ⟨n4, ha4⟩, es, hl4, el, e0, es4⟩
      exact ⟨_, rfl, q l H4 n4 es fl b4 ha4 hl4 el e0 (by omega)⟩
def FrL (H : Hp) (ys : List V) : Prop := ∀ x ∈ ys, ∃ (c : Addr) (i j : Int), x = .ref c /\ H c = some (.tup [.int i, .int j]) /\ fracB i j = true
theorem FrL.keep {H H' : Hp} {ys : List V} (h : FrL H ys) (k : Keep H H') : FrL H' ys := fun x hx => by
  obtain ⟨c, i, j, h1, h2, h3⟩ := h x hx
  exact ⟨c, i, j, h1, k.tup h2, h3⟩
theorem FrL.snoc {H : Hp} {ys : List V} {p : Addr} {i j : Int} (h : FrL H ys) (hp : H p = some (.tup [.int i, .int j])) (f : fracB i j = true) : FrL H (ys ++ [.ref p]) := fun x hx => by
  rcases List.mem_append.mp hx with z | z
  · exact h x z
  · rw [List.mem_singleton.mp z]
    exact ⟨p, i, j, rfl, hp, f⟩
def PgOk (a : Addr) (H : Hp) (Q : VK) : Prop := ∀ (p : Addr) (H' : Hp) (n' : Int) (xs : List V), But a H H' -> H' a = some (.lst [.int n']) -> H' p = some (.tup xs) -> FrL H' xs -> 1 <= xs.length -> xs.length <= 8 -> Q (.ref p) H'
def sp_l_any_program : Sp := fun vs H Q _ => ∃ (a : Addr) (n most : Int), vs = [.ref a, .int most] /\ H a = some (.lst [.int n]) /\ 0 < most /\ most <= 8 /\ PgOk a H Q
theorem ok_l_any_program (T : Tx K mg) : FnOk P w K mg base CX0 4 T.f_l_any_program T.fd_l_any_program ["pot", "most"] sp_l_any_program := by
  refine T.D_l_any_program.fn.okQ sc_l_any_program (fun vs H Q E h => ?_) (fun cdv A outer s H vs Q E hr h => ?_)
  · obtain ⟨a, n, most, rfl, _⟩ := h
    rfl
  · obtain ⟨a, n, most, rfl, ha, m0, m10, q⟩ := h
    refine ⟨_, (qss_cons (qs_set (i := 2) sc_l_any_program.nd rfl (Or.inl rfl) (qe_ix ix_list (qe_lstA (qa_c qe_int (qa_c qe_int (qa_c qe_int (qa_c qe_int (qa_c qe_int qa_nil)))))) (qe_call (ok_l_takeA T) (hr.mono (by decide)) rfl T.D_l_take.at_ T.D_l_take.fn.kp T.D_l_take.bd .nil pass0 (qa_c (qv 0) (qa_c qe_int qa_nil))) (fun _ _ => rfl)))
      (qss_cons (qs_set (i := 3) sc_l_any_program.nd rfl (Or.inl rfl) (qe_lstA qa_nil))
      (qss_cons (qs_for PassesOwn.never rfl (qi_range1 rfl T.m_range (qa_c (qe_op op_add qe_int (qe_call (ok_l_takeA T) (hr.mono (by decide)) rfl T.D_l_take.at_ T.D_l_take.fn.kp T.D_l_take.bd .nil pass0 (qa_c (qv 0) (qa_c (qv 1) qa_nil)))) qa_nil)) (qg_name (i := 4) sc_l_any_program.nd rfl (Or.inl rfl))
        (qss_cons (qs_set (i := 5) sc_l_any_program.nd rfl (Or.inl rfl) (qe_call (ok_l_some T) (hr.mono (by decide)) rfl T.D_l_some.at_ T.D_l_some.fn.kp T.D_l_some.bd .nil pass0 (qa_c (qv 0) (qa_c (qv 2) (qa_c qe_int qa_nil)))))
      (qss_one (qs_expr (qe_bm PySem.F.plainAttrs_list PySem.F.slot_list_append PySem.F.type_list_append mt_appendA (qv 3) (qa_c (qe_call (ok_l_fraction T) (hr.mono (by decide)) rfl T.D_l_fraction.at_ T.D_l_fraction.fn.kp T.D_l_fraction.bd .nil pass0 (qa_c (qv 5) (qa_c (qe_call (ok_l_some T) (hr.mono (by decide)) rfl T.D_l_some.at_ T.D_l_some.fn.kp T.D_l_some.bd .nil pass0 (qa_c (qv 0) (qa_c (qv 2) (qa_c qe_int qa_nil)))) qa_nil))) qa_nil))))))
      (qss_one (qs_ret (qe_callTy call_tuple_ofA (by rfl) T.m_tuple b_tuple (qa_c (qv 3) qa_nil))))))), ?_⟩
    refine ⟨(by show 5 <= sizeLine; decide), fun lw H1 f1 s1 hlw => ?_⟩
    have naw : a ≠ lw := ne_of_none ha f1
    refine ⟨_, rfl, a, n, 5, rfl, s1 _ _ ha, by decide, by decide, fun r2 n2 H2 r20 r21 b2 ha2 => ?_⟩
    obtain ⟨wd, hwd, w0, w1⟩ : ∃ wd : Int, atI [V.int 2, V.int 3, V.int 4, V.int 5, V.int 10] r2 = some (.int wd) /\ 0 < wd /\ wd <= 10 := by
      obtain ⟨k, rfl⟩ := Int.eq_ofNat_of_zero_le r20
      have hk : k < 5 := by omega
      match k, hk with
      | 0, _ => exact ⟨2, rfl, by decide, by decide⟩
      | 1, _ => exact ⟨3, rfl, by decide, by decide⟩
      | 2, _ => exact ⟨4, rfl, by decide, by decide⟩
      | 3, _ => exact ⟨5, rfl, by decide, by decide⟩
      | 4, _ => exact ⟨10, rfl, by decide, by decide⟩
    refine ⟨lw, _, _, _, rfl, rfl, SqL.of (b2 _ _ naw.symm hlw), hwd, ?_⟩
    refine ⟨(by show 0 <= sizeLine; decide), fun l H3 f3 s3 hl3 => ?_⟩
    have b3 : But a H H3 := ((But.of s1).trans b2).trans (But.of s3)
    have nal : a ≠ l := ne_of_none ha2 f3
    have fl : H l = none := s1.free (by
      rcases h : H1 l with _ | o
      · rfl
      · rw [b2 _ _ nal.symm h] at f3; cases f3)
    refine ⟨_, rfl, _, rfl, a, n2, most, rfl, s3 _ _ ha2, m0, by omega, fun r4 n4 H4 r40 r41 b4 ha4 => ⟨_, _, rfl, rfl, ?_⟩⟩
    refine ⟨1 + r4, rfl, by omega, by omega, for_range (n := (1 + r4).toNat) (fun i σ H5 => (∃ u v : Option V, σ = [some (.ref a), some (.int most), some (.int wd), some (.ref l), u, v]) /\ But a H H5 /\ (∃ n' : Int, H5 a = some (.lst [.int n'])) /\ ∃ ys, H5 l = some (.lst ys) /\ FrL H5 ys /\ ys.length = i) ⟨⟨_, _, rfl⟩, b3.trans b4, ⟨n4, ha4⟩, [], b4 _ _ nal.symm hl3, (fun x hx => by cases hx), rfl⟩ ?_ ?_⟩
    · rintro i σ H5 hi ⟨⟨u, v, rfl⟩, b5, ⟨n5, ha5⟩, ys, hl5, hf5, hyl⟩
      refine ⟨_, rfl, _, rfl, a, n5, wd, 4, rfl, ha5, w0, w1, by decide, by decide, fun tp H6 n6 ts f6 b6 ha6 htp tl t0 t7 => ?_⟩
      have ntp : tp ≠ a := (ne_of_none ha5 f6).symm
      have hl6 := b6 _ _ nal.symm hl5
      refine ⟨_, rfl, .inl ⟨rfl, _, SqL.of hl6⟩, _, rfl, _, rfl, _, rfl, a, n6, wd, 4, rfl, ha6, w0, w1, by decide, by decide, fun bt H7 n7 bs f7 b7 ha7 hbt bl b0 b7' => ?_⟩
      have htp7 := b7 _ _ ntp htp
      refine ⟨tp, bt, ts, bs, rfl, htp7, hbt, tl, bl, t0, b0, by omega, by omega, fun p H8 fi fj s8 hp8 hfr => ?_⟩
      have hl8 := s8 _ _ (b7 _ _ nal.symm hl6)
      refine ⟨l, ys, _, rfl, rfl, hl8, by rw [hyl, sizeLine_eq]; omega, fun H9 b9 hl9 => ?_⟩
      have k9 : Keep H8 H9 := Keep.but b9 hl8 hl9
      refine ⟨⟨_, _, rfl⟩, ?_, ⟨n7, b9 _ _ nal (s8 _ _ ha7)⟩, _, hl9, ?_, by rw [List.length_append, hyl]; rfl⟩
      · intro c o nc e
        exact b9 _ _ (ne_of_none e fl) (s8 _ _ (b7 _ _ nc (b6 _ _ nc (b5 _ _ nc e))))
      · exact ((((hf5.keep (Keep.but b6 ha5 ha6)).keep (Keep.but b7 ha6 ha7)).keep (Keep.of s8)).keep k9).snoc (k9.tup hp8) hfr
    · rintro σ H5 ⟨⟨u, v, rfl⟩, b5, ⟨n5, ha5⟩, ys, hl5, hf5, hyl⟩
      exact ⟨_, rfl, l, _, rfl, SqL.of hl5, fun p H6 f6 s6 hp => q p H6 n5 ys (b5.trans (But.of s6)) (s6 _ _ ha5) hp (hf5.keep (Keep.of s6)) (by omega) (by omega)⟩
end
end W2
namespace W2
open PySem L2 Mth
section
variable {P : Program} {w : World} {K : PySem.W.Frag} {mg : Str -> Option Value} {base : Heap}
def intGap (σ : St) (i : Nat) : Nat := match σ[i]? with
  | some (some (.int x)) => (1 - x).toNat
  | _ => 0
theorem wmul_ge {x b t : Int} (h0 : 0 <= x) (h3 : x <= 3) (hb : 0 <= b) (ht : 0 <= t) : -(3 * t) <= x * (b - t) := by
  have h1 : 0 <= x * b := Int.mul_nonneg h0 hb
  have h2 : 0 <= (3 - x) * t := Int.mul_nonneg (by omega) ht
  rw [Int.sub_mul] at h2
  rw [Int.mul_sub]
  omega
theorem sum_take : ∀ (l : List Nat) (i : Nat), (l.take i).sum <= l.sum
  | [], i => by rw [List.take_nil]; exact Nat.le_refl _
  | x :: l, 0 => Nat.zero_le _
  | x :: l, i + 1 => by
    rw [List.take_succ_cons, List.sum_cons, List.sum_cons]
    have := sum_take l i
    omega
def sp_l_sinking : Sp := fun vs H Q _ => ∃ (a : Addr) (n most : Int), vs = [.ref a, .int most] /\ H a = some (.lst [.int n]) /\ 0 < most /\ most <= 8 /\ PgOk a H Q
theorem ok_l_sinking (T : Tx K mg) : FnOk P w K mg base CX0 4 T.f_l_sinking T.fd_l_sinking ["pot", "most"] sp_l_sinking := by
  refine T.D_l_sinking.fn.okQ sc_l_sinking (fun vs H Q E h => ?_) (fun cdv A outer s H vs Q E hr h => ?_)
  · obtain ⟨a, n, most, rfl, _⟩ := h
    rfl
  · obtain ⟨a, n, most, rfl, ha, m0, m10, q⟩ := h
    refine ⟨_, (qss_cons (qs_set (i := 2) sc_l_sinking.nd rfl (Or.inl rfl) (qe_op op_add qe_int (qe_call (ok_l_takeA T) (hr.mono (by decide)) rfl T.D_l_take.at_ T.D_l_take.fn.kp T.D_l_take.bd .nil pass0 (qa_c (qv 0) (qa_c qe_int qa_nil)))))
      (qss_cons (qs_set (i := 3) sc_l_sinking.nd rfl (Or.inr rfl) (qe_comp (compOk_of (osc := defScope s_l_sinking) (XN := ["pot", "most", "wide", "weights", "found", "k", "top", "bottom", "loses", "heavy"]) (N := ["place", "pot"]) (js := [none, some 0]) rfl rfl rfl (List.forall_mem_cons.mpr ⟨rfl, (List.forall_mem_nil _)⟩) (by decide +kernel) rfl) rfl (qi_range1 rfl T.m_range (qa_c (qv 2) qa_nil)) (fun _ _ _ _ => (qg_name (i := 0) (show List.Nodup (["place", "pot"] : List Str) from by decide +kernel) rfl (Or.inl rfl) (Or.inr rfl))) (fun _ _ _ _ => qts_nil)
          (fun _ _ _ _ => (qe_call (ok_l_takeA T) (hr.mono (by decide)) rfl T.D_l_take.at_ T.D_l_take.fn.kp T.D_l_take.bd .nil pass0 (qa_c (qv 1) (qa_c qe_int qa_nil))))))
      (qss_cons (qs_asg qe_int (qg_sub (qv 3) (qe_call (ok_l_takeA T) (hr.mono (by decide)) rfl T.D_l_take.at_ T.D_l_take.fn.kp T.D_l_take.bd .nil pass0 (qa_c (qv 0) (qa_c (qv 2) qa_nil))) set_list))
      (qss_cons (qs_set (i := 4) sc_l_sinking.nd rfl (Or.inl rfl) (qe_lstA qa_nil))
      (qss_cons (qs_for PassesOwn.never rfl (qi_range1 rfl T.m_range (qa_c (qe_op op_add qe_int (qe_call (ok_l_takeA T) (hr.mono (by decide)) rfl T.D_l_take.at_ T.D_l_take.fn.kp T.D_l_take.bd .nil pass0 (qa_c (qv 0) (qa_c (qv 1) qa_nil)))) qa_nil)) (qg_name (i := 5) sc_l_sinking.nd rfl (Or.inl rfl))
        (qss_cons (qs_set (i := 6) sc_l_sinking.nd rfl (Or.inr rfl) (qe_call (ok_l_some T) (hr.mono (by decide)) rfl T.D_l_some.at_ T.D_l_some.fn.kp T.D_l_some.bd .nil pass0 (qa_c (qv 0) (qa_c (qv 2) (qa_c qe_int qa_nil)))))
      (qss_cons (qs_set (i := 7) sc_l_sinking.nd rfl (Or.inr rfl) (qe_call (ok_l_some T) (hr.mono (by decide)) rfl T.D_l_some.at_ T.D_l_some.fn.kp T.D_l_some.bd .nil pass0 (qa_c (qv 0) (qa_c (qv 2) (qa_c qe_int qa_nil)))))
      (qss_cons (qs_set (i := 8) sc_l_sinking.nd rfl (Or.inl rfl) (qe_callB (call_sumL rfl) (by rfl) T.m_sum b_sum (qa_c (qe_comp (compOk_of (osc := defScope s_l_sinking) (XN := ["pot", "most", "wide", "weights", "found", "k", "top", "bottom", "loses", "heavy"]) (N := ["place", "weights", "bottom", "top"]) (js := [none, some 3, some 7, some 6]) rfl rfl rfl (List.forall_mem_cons.mpr ⟨rfl, (List.forall_mem_cons.mpr ⟨rfl, (List.forall_mem_cons.mpr ⟨rfl, (List.forall_mem_nil _)⟩)⟩)⟩) (by decide +kernel) rfl) rfl (qi_range1 rfl T.m_range (qa_c (qv 2) qa_nil)) (fun _ _ _ _ => (qg_name (i := 0) (show List.Nodup (["place", "weights", "bottom", "top"] : List Str) from by decide +kernel) rfl (Or.inl rfl) (Or.inr rfl))) (fun _ _ _ _ => qts_nil)
          (fun _ _ _ _ => (qe_op op_mul (qe_ix (ix_listN (K := K) rfl) (qv 1) (qv 0) (fun _ _ => rfl)) (qe_op op_sub (qe_ix (ix_listN (K := K) rfl) (qv 2) (qv 0) (fun _ _ => rfl)) (qe_ix (ix_listN (K := K) rfl) (qv 3) (qv 0) (fun _ _ => rfl)))))) qa_nil)))
      (qss_cons (qs_set (i := 9) sc_l_sinking.nd rfl (Or.inl rfl) (qe_bm PySem.F.plainAttrs_list PySem.F.slot_list_index PySem.F.type_list_index mt_indexI (qv 3) (qa_c (qe_callB (call_maxL rfl) (by rfl) T.m_max b_max (qa_c (qv 3) qa_nil)) qa_nil)))
      (qss_cons (qs_while PassesOwn.never (qt_cmpR op_lt (qv 8) qe_int (nomark _))
        (qss_cons (qs_asg (qe_op op_add (qe_ix ix_list (qv 7) (qv 9) (fun _ _ => rfl)) qe_int) (qg_sub (qv 7) (qv 9) set_list))
      (qss_one (qs_set (i := 8) sc_l_sinking.nd rfl (Or.inl rfl) (qe_op op_add (qv 8) (qe_ix ix_list (qv 3) (qv 9) (fun _ _ => rfl)))))))
      (qss_one (qs_expr (qe_bm PySem.F.plainAttrs_list PySem.F.slot_list_append PySem.F.type_list_append mt_appendA (qv 4) (qa_c (qe_call (ok_l_fraction T) (hr.mono (by decide)) rfl T.D_l_fraction.at_ T.D_l_fraction.fn.kp T.D_l_fraction.bd .nil pass0 (qa_c (qv 6) (qa_c (qv 7) qa_nil))) qa_nil))))))))))
      (qss_one (qs_ret (qe_callTy call_tuple_ofA (by rfl) T.m_tuple b_tuple (qa_c (qv 4) qa_nil))))))))), ?_⟩
    refine ⟨_, rfl, a, n, 4, rfl, ha, by decide, by decide, fun r1 n1 H1 r10 r11 b1 ha1 => ⟨_, _, rfl, rfl, ?_⟩⟩
    refine ⟨_, rfl, 2 + r1, rfl, by omega, by omega, fun lw hlw => ?_⟩
    have naw : a ≠ lw := ne_of_none ha1 hlw
    have flw : H lw = none := by
      rcases h : H lw with _ | o
      · rfl
      · rw [b1 _ _ naw.symm h] at hlw; cases hlw
    refine comp_range (n := (2 + r1).toNat) (by rw [sizeLine_eq]; omega) (fun i σ' H' ys => (∃ u : Option V, σ' = [u, some (.ref a)]) /\ But a H H' /\ (∃ n' : Int, H' a = some (.lst [.int n'])) /\ ∃ ws : List Int, ys = ws.map V.int /\ ∀ x ∈ ws, 0 <= x /\ x <= 3) ⟨⟨_, rfl⟩, b1.new hlw, ⟨n1, by rw [upd_ne naw]; exact ha1⟩, [], rfl, fun x hx => by cases hx⟩ ?_ ?_
    · rintro i σ' H' ys R hi hD' hyl ⟨⟨u, rfl⟩, b', ⟨n', ha'⟩, ws, rfl, hws⟩ kk
      refine ⟨_, rfl, a, n', 4, rfl, ha', by decide, by decide, fun x2 n2 H2 x20 x21 b2 ha2 => ?_⟩
      refine kk _ _ _ (b2 _ _ naw.symm hD') ⟨⟨_, rfl⟩, ?_, ⟨n2, by rw [upd_ne naw]; exact ha2⟩, ws ++ [x2], by rw [List.map_append]; rfl, ?_⟩
      · intro c o nc e
        rw [upd_ne (ne_of_none e flw)]
        exact b2 _ _ nc (b' _ _ nc e)
      · intro x hx
        rcases List.mem_append.mp hx with z | z
        · exact hws x z
        · rw [List.mem_singleton.mp z]; omega
    rintro σ' H2 ys hlw2 hyl ⟨_, b2, ⟨n2, ha2⟩, ws0, rfl, hws0⟩
    rw [List.length_map] at hyl
    refine ⟨_, rfl, _, rfl, _, rfl, a, n2, 2 + r1, rfl, ha2, by omega, by omega, fun r3 n3 H3 r30 r31 b3 ha3 => ?_⟩
    refine ⟨lw, _, _, _, rfl, rfl, b3 _ _ naw.symm hlw2, ixN_of r30 (by rw [List.length_map]; omega), ?_⟩
    rw [← List.map_set]
    generalize hws1 : ws0.set r3.toNat 2 = ws
    have hws : ∀ x ∈ ws, 0 <= x /\ x <= 3 := by
      intro x hx
      rw [← hws1] at hx
      rcases List.mem_or_eq_of_mem_set hx with z | z
      · exact hws0 x z
      · rw [z]; omega
    have hws2 : (2 : Int) ∈ ws := by
      rw [← hws1]
      exact List.mem_of_getElem? (i := r3.toNat) (List.getElem?_set_self (by omega))
    have wsl : ws.length = (2 + r1).toNat := by rw [← hws1, List.length_set]; exact hyl
    have b3' : But a H (upd H3 lw (.lst (ws.map V.int))) := by
      intro c o nc e
      rw [upd_ne (ne_of_none e flw)]
      exact b3 _ _ nc (b2 _ _ nc e)
    refine ⟨(by show 0 <= sizeLine; decide), fun l H4 f4 s4 hl4 => ?_⟩
    have ha4 : H4 a = some (.lst [.int n3]) := s4 _ _ (by rw [upd_ne naw]; exact ha3)
    have hw4 : H4 lw = some (lstI ws) := s4 _ _ upd_same
    have b4 : But a H H4 := b3'.trans (But.of s4)
    have nal : a ≠ l := fun z => by rw [← z, upd_ne naw, ha3] at f4; cases f4
    have nwl : lw ≠ l := fun z => by rw [← z, upd_same] at f4; cases f4
    have fl : H l = none := by
      rcases h : H l with _ | o
      · rfl
      · rw [b3' _ _ nal.symm h] at f4; cases f4
    refine ⟨_, rfl, _, rfl, a, n3, most, rfl, ha4, m0, by omega, fun r5 n5 H5 r50 r51 b5 ha5 => ⟨_, _, rfl, rfl, ?_⟩⟩
    refine ⟨1 + r5, rfl, by omega, by omega, for_range (n := (1 + r5).toNat) (fun i σ H6 => (∃ u1 u2 u3 u4 u5 : Option V, σ = [some (.ref a), some (.int most), some (.int (2 + r1)), some (.ref lw), some (.ref l), u1, u2, u3, u4, u5]) /\ But a H H6 /\ (∃ n' : Int, H6 a = some (.lst [.int n'])) /\ H6 lw = some (lstI ws) /\ ∃ ys, H6 l = some (.lst ys) /\ FrL H6 ys /\ ys.length = i) ⟨⟨_, _, _, _, _, rfl⟩, b4.trans b5, ⟨n5, ha5⟩, b5 _ _ naw.symm hw4, [], b5 _ _ nal.symm hl4, (fun x hx => by cases hx), rfl⟩ ?_ ?_⟩
    · rintro i σ H6 hi ⟨⟨u1, u2, u3, u4, u5, rfl⟩, b6, ⟨n6, ha6⟩, hw6, ys, hl6, hf6, hyl6⟩
      refine ⟨_, rfl, _, rfl, a, n6, 2 + r1, 4, rfl, ha6, by omega, by omega, by decide, by decide, fun tp H7 n7 ts f7 b7 ha7 htp tl t0 t7 => ?_⟩
      have ntp : tp ≠ a := (ne_of_none ha6 f7).symm
      refine ⟨_, rfl, _, rfl, a, n7, 2 + r1, 3, rfl, ha7, by omega, by omega, by decide, by decide, fun bt H8 n8 bs f8 b8 ha8 hbt bl b0 b8' => ?_⟩
      have nbt : bt ≠ a := (ne_of_none ha7 f8).symm
      have htp8 : H8 tp = some (lstI ts) := b8 _ _ ntp htp
      have hw8 : H8 lw = some (lstI ws) := b8 _ _ naw.symm (b7 _ _ naw.symm hw6)
      have hl8 : H8 l = some (.lst ys) := b8 _ _ nal.symm (b7 _ _ nal.symm hl6)
      have nbtl : bt ≠ l := (ne_of_none (b7 _ _ nal.symm hl6) f8).symm
      have nbtw : bt ≠ lw := (ne_of_none (b7 _ _ naw.symm hw6) f8).symm
      have nbtt : bt ≠ tp := (ne_of_none htp f8).symm
      have k68 : Keep H6 H8 := (Keep.but b7 ha6 ha7).trans (Keep.but b8 ha7 ha8)
      have fbt : H bt = none := by
        rcases h : H bt with _ | o
        · rfl
        · rw [b7 _ _ nbt (b6 _ _ nbt h)] at f8; cases f8
      refine ⟨_, rfl, 2 + r1, rfl, by omega, by omega, fun D hD => ?_⟩
      refine comp_range (n := (2 + r1).toNat) (by rw [sizeLine_eq]; omega) (fun i σ' H' zs => (∃ u : Option V, σ' = [u, some (.ref lw), some (.ref bt), some (.ref tp)]) /\ Same H8 H' /\ ∃ L : List Int, zs = L.map V.int /\ -(3 * (((ups ts).take i).sum : Int)) <= L.sum) ⟨⟨_, rfl⟩, Same.new hD, [], rfl, (by show -(3 * ((0 : Nat) : Int)) <= 0; decide)⟩ ?_ ?_
      · rintro i2 σ' H' zs R hi2 hD' hzl ⟨⟨u, rfl⟩, s', L, rfl, hL⟩ kk
        have hi5 : i2 < 10 := by omega
        have hwi : ws[i2]? = some ws[i2] := List.getElem?_eq_getElem (by omega)
        have hbi : bs[i2]? = some bs[i2] := List.getElem?_eq_getElem (by omega)
        have hti : ts[i2]? = some ts[i2] := List.getElem?_eq_getElem (by omega)
        have gat : ∀ {es : List Int} {x : Int}, es[i2]? = some x -> atI (es.map V.int) (0 + (i2 : Int)) = some (.int x) := fun h => by
          rw [Int.zero_add]
          exact atI_nat (by rw [List.getElem?_map, h]; rfl)
        obtain ⟨w0', w3'⟩ := hws _ (List.mem_of_getElem? hwi)
        have bb := b0 _ (List.mem_of_getElem? hbi)
        have tt := t0 _ (List.mem_of_getElem? hti)
        refine ⟨_, rfl, _, rfl, lw, _, _, _, rfl, rfl, SqL.of (s' _ _ hw8), gat hwi, _, rfl, _, rfl, bt, _, _, _, rfl, rfl, SqL.of (s' _ _ hbt), gat hbi, _, rfl, _, rfl, tp, _, _, _, rfl, rfl, SqL.of (s' _ _ htp8), gat hti, _, _, rfl, rfl, _, _, rfl, rfl, .inl ⟨by omega, by omega⟩, ?_⟩
        refine kk _ _ _ hD' ⟨⟨_, rfl⟩, ?_, L ++ [ws[i2] * (bs[i2] - ts[i2])], by rw [List.map_append]; rfl, ?_⟩
        · intro c o e
          rw [upd_ne (ne_of_none e hD)]
          exact s' _ _ e
        · have hu : (ups ts)[i2]? = some (ts[i2]).toNat := by unfold ups; rw [List.getElem?_map, hti]; rfl
          rw [List.take_add_one, hu, List.sum_append, List.sum_append]
          have := wmul_ge w0' w3' bb tt
          simp only [Option.toList_some, List.sum_cons, List.sum_nil]
          omega
      rintro σ' H9 zs hD9 hzl ⟨_, s9, L, rfl, hL⟩
      have hst := sum_take (ups ts) (2 + r1).toNat
      refine ⟨D, L, rfl, SqL.of hD9, ?_⟩
      have hw9 := s9 _ _ hw8
      refine ⟨_, rfl, .inl ⟨rfl, _, SqL.of hw9⟩, _, rfl, lw, ws, rfl, SqL.of hw9, (by intro z; rw [z] at hws2; cases hws2), fun M hM1 hM2 => ?_⟩
      refine ⟨lw, ws, M, rfl, rfl, hw9, hM1, by omega, fun hv hhv => ?_⟩
      have hM2' : 2 <= M := hM2 2 hws2
      have hvl : hv < ws.length := (List.getElem?_eq_some_iff.mp hhv).1
      have hvat : atI (ws.map V.int) (hv : Int) = some (.int M) := atI_nat (by rw [List.getElem?_map, hhv]; rfl)
      refine while_own (fun σ H10 => ∃ (x : Int) (bs' : List Int) (j : Nat), σ = [some (.ref a), some (.int most), some (.int (2 + r1)), some (.ref lw), some (.ref l), some (.int (0 + (i : Int))), some (.ref tp), some (.ref bt), some (.int x), some (.int (hv : Int))] /\ But bt H9 H10 /\ H10 bt = some (lstI bs') /\ bs'.length = 10 /\ (∀ e ∈ bs', 0 <= e) /\ (ups bs').sum <= 2 + j /\ j <= 5 /\ -9 + 2 * (j : Int) <= x) (fun σ _ => intGap σ 8) ⟨L.sum, bs, 0, rfl, But.refl _ _, s9 _ _ hbt, bl, b0, by omega, by omega, by omega⟩ ?_
      rintro σ H10 ⟨x, bs', j, rfl, b10, hbt10, bl', b0', bsum, j5, hx⟩
      have hw10 := b10 _ _ nbtw.symm hw9
      refine ⟨_, rfl, _, _, rfl, rfl, _, rfl, ite2 (fun h => ?_) (fun h => ?_)⟩
      · have hx1 : x < 1 := of_decide_eq_true h
        have hk : hv < bs'.length := by omega
        have hxm : bs'[hv]? = some bs'[hv] := List.getElem?_eq_getElem hk
        have hxv : atI (bs'.map V.int) (hv : Int) = some (.int bs'[hv]) := atI_nat (by rw [List.getElem?_map, hxm]; rfl)
        refine whN ⟨_, rfl, _, rfl, bt, _, _, _, rfl, rfl, SqL.of hbt10, hxv, _, _, rfl, rfl, _, rfl, _, rfl, bt, _, _, _, rfl, rfl, hbt10, ixN_of (Int.natCast_nonneg hv) (by rw [List.length_map]; omega), ?_⟩
        have hw11 : (upd H10 bt (.lst ((bs'.map V.int).set (hv : Int).toNat (.int (bs'[hv] + 1))))) lw = some (lstI ws) := by rw [upd_ne nbtw.symm]; exact hw10
        refine ⟨_, rfl, _, rfl, _, rfl, lw, _, _, _, rfl, rfl, SqL.of hw11, hvat, _, _, rfl, rfl, ⟨⟨x + M, bs'.set hv (bs'[hv] + 1), j + 1, rfl, b10.set, ?_, by rw [List.length_set]; exact bl', ?_, ?_, by omega, by omega⟩, ?_⟩⟩
        · rw [upd_same, Int.toNat_natCast]
          unfold lstI
          rw [List.map_set]
        · intro e he
          rcases List.mem_or_eq_of_mem_set he with z | z
          · exact b0' e z
          · rw [z]
            have := b0' _ (List.getElem_mem hk)
            omega
        · exact Nat.le_trans (ups_up hxm) (by omega)
        · show (1 - (x + M)).toNat < (1 - x).toNat
          omega
      · have hx1 : ¬ x < 1 := fun z => h (decide_eq_true z)
        have hl10 := b10 _ _ nbtl.symm (s9 _ _ hl8)
        refine ⟨_, rfl, .inl ⟨rfl, _, SqL.of hl10⟩, _, rfl, _, rfl, tp, bt, ts, bs', rfl, b10 _ _ nbtt.symm (s9 _ _ htp8), hbt10, tl, bl', t0, b0', by omega, by omega, fun p H11 fi fj s11 hp11 hfr => ?_⟩
        have hl11 := s11 _ _ hl10
        refine ⟨l, ys, _, rfl, rfl, hl11, by rw [hyl6, sizeLine_eq]; omega, fun H12 b12 hl12 => ?_⟩
        have k12 : Keep H11 H12 := Keep.but b12 hl11 hl12
        have k10 : Keep H9 H10 := Keep.but b10 (s9 _ _ hbt) hbt10
        refine ⟨⟨_, _, _, _, _, rfl⟩, ?_, ⟨n8, b12 _ _ nal (s11 _ _ (b10 _ _ nbt.symm (s9 _ _ ha8)))⟩, b12 _ _ nwl (s11 _ _ hw10), _, hl12, ?_, by rw [List.length_append, hyl6]; rfl⟩
        · intro c o nc e
          exact b12 _ _ (ne_of_none e fl) (s11 _ _ (b10 _ _ (ne_of_none e fbt) (s9 _ _ (b8 _ _ nc (b7 _ _ nc (b6 _ _ nc e))))))
        · exact (((((hf6.keep k68).keep (Keep.of s9)).keep k10).keep (Keep.of s11)).keep k12).snoc (k12.tup hp11) hfr
    · rintro σ H6 ⟨⟨u1, u2, u3, u4, u5, rfl⟩, b6, ⟨n6, ha6⟩, hw6, ys, hl6, hf6, hyl6⟩
      exact ⟨_, rfl, l, _, rfl, SqL.of hl6, fun p H7 f7 s7 hp => q p H7 n6 ys (b6.trans (But.of s7)) (s7 _ _ ha6) hp (hf6.keep (Keep.of s7)) (by omega) (by omega)⟩
theorem ups_set {es : List Int} {k : Nat} {v : Int} : (ups (es.set k v)).sum <= (ups es).sum + v.toNat := by
  have h : ups (es.set k v) = (ups es).set k v.toNat := by unfold ups; rw [List.map_set]
  rw [h]
  have : ∀ (l : List Nat) (k v : Nat), (l.set k v).sum <= l.sum + v := by
    intro l
    induction l with
    | nil => intro k v; exact Nat.zero_le _
    | cons x r ih =>
      intro k v
      cases k with
      | zero => rw [List.set_cons_zero, List.sum_cons, List.sum_cons]; omega
      | succ k =>
        rw [List.set_cons_succ, List.sum_cons, List.sum_cons]
        have := ih k v
        omega
  exact this _ _ _
theorem nn_set {es : List Int} {k : Nat} {v : Int} (h : ∀ e ∈ es, 0 <= e) (hv : 0 <= v) : ∀ e ∈ es.set k v, 0 <= e := by
  intro e he
  rcases List.mem_or_eq_of_mem_set he with z | z
  · exact h e z
  · rw [z]; exact hv
theorem FrL.ins {H : Hp} {ys : List V} {p : Addr} {i j : Int} {k : Nat} (h : FrL H ys) (hp : H p = some (.tup [.int i, .int j])) (f : fracB i j = true) : FrL H (ys.take k ++ .ref p :: ys.drop k) := fun x hx => by
  rcases List.mem_append.mp hx with z | z
  · exact h x (List.mem_of_mem_take z)
  · rcases List.mem_cons.mp z with z | z
    · rw [z]; exact ⟨p, i, j, rfl, hp, f⟩
    · exact h x (List.mem_of_mem_drop z)
theorem ins_len {ys : List V} {x : V} {k : Nat} (h : k <= ys.length) : (ys.take k ++ x :: ys.drop k).length = ys.length + 1 := by
  rw [List.length_append, List.length_cons, List.length_take, List.length_drop]
  omega
def sp_l_ringing : Sp := fun vs H Q _ => ∃ (a : Addr) (n : Int), vs = [.ref a] /\ H a = some (.lst [.int n]) /\ PgOk a H Q
theorem ok_l_ringing (T : Tx K mg) : FnOk P w K mg base CX0 4 T.f_l_ringing T.fd_l_ringing ["pot"] sp_l_ringing := by
  refine T.D_l_ringing.fn.okQ sc_l_ringing (fun vs H Q E h => ?_) (fun cdv A outer s H vs Q E hr h => ?_)
  · obtain ⟨a, n, rfl, _⟩ := h
    rfl
  · obtain ⟨a, n, rfl, ha, q⟩ := h
    refine ⟨_, (qss_cons (qs_set (i := 1) sc_l_ringing.nd rfl (Or.inl rfl) (qe_op op_add qe_int (qe_call (ok_l_takeA T) (hr.mono (by decide)) rfl T.D_l_take.at_ T.D_l_take.fn.kp T.D_l_take.bd .nil pass0 (qa_c (qv 0) (qa_c qe_int qa_nil)))))
      (qss_cons (qs_set (i := 2) sc_l_ringing.nd rfl (Or.inl rfl) (qe_lstA qa_nil))
      (qss_cons (qs_for PassesOwn.never rfl (qi_range1 rfl T.m_range (qa_c (qv 1) qa_nil)) (qg_name (i := 3) sc_l_ringing.nd rfl (Or.inl rfl))
        (qss_cons (qs_set (i := 4) sc_l_ringing.nd rfl (Or.inl rfl) (qe_call (ok_l_some T) (hr.mono (by decide)) rfl T.D_l_some.at_ T.D_l_some.fn.kp T.D_l_some.bd .nil pass0 (qa_c (qv 0) (qa_c qe_int (qa_c qe_int qa_nil)))))
      (qss_cons (qs_set (i := 5) sc_l_ringing.nd rfl (Or.inl rfl) (qe_call (ok_l_some T) (hr.mono (by decide)) rfl T.D_l_some.at_ T.D_l_some.fn.kp T.D_l_some.bd .nil pass0 (qa_c (qv 0) (qa_c qe_int (qa_c qe_int qa_nil)))))
      (qss_cons (qs_ifJ (qt_cmpR op_gt (qv 1) qe_int (nomark _))
        (qss_cons (qs_asg qe_int (qg_sub (qv 4) (qe_op op_add qe_int (qe_op op_mod (qe_op op_add (qv 3) qe_int) (qv 1))) set_list))
      (qss_one (qs_asg (qe_op op_add (qe_ix ix_list (qv 5) (qe_op op_add qe_int (qv 3)) (fun _ _ => rfl)) qe_int) (qg_sub (qv 5) (qe_op op_add qe_int (qv 3)) set_list))))
        qss_nil)
      (qss_one (qs_expr (qe_bm PySem.F.plainAttrs_list PySem.F.slot_list_insert PySem.F.type_list_insert mt_insert (qv 2) (qa_c (qe_call (ok_l_takeA T) (hr.mono (by decide)) rfl T.D_l_take.at_ T.D_l_take.fn.kp T.D_l_take.bd .nil pass0 (qa_c (qv 0) (qa_c (qe_op op_add (qe_callB call_len_seq (by rfl) T.m_len b_len (qa_c (qv 2) qa_nil)) qe_int) qa_nil))) (qa_c (qe_call (ok_l_fraction T) (hr.mono (by decide)) rfl T.D_l_fraction.at_ T.D_l_fraction.fn.kp T.D_l_fraction.bd .nil pass0 (qa_c (qv 4) (qa_c (qv 5) qa_nil))) qa_nil)))))))))
      (qss_cons (qs_ifJ (qt_cmpR op_eq (qe_call (ok_l_takeA T) (hr.mono (by decide)) rfl T.D_l_take.at_ T.D_l_take.fn.kp T.D_l_take.bd .nil pass0 (qa_c (qv 0) (qa_c qe_int qa_nil))) qe_int (nomark _))
        (qss_cons (qs_set (i := 5) sc_l_ringing.nd rfl (Or.inl rfl) (qe_call (ok_l_some T) (hr.mono (by decide)) rfl T.D_l_some.at_ T.D_l_some.fn.kp T.D_l_some.bd .nil pass0 (qa_c (qv 0) (qa_c qe_int (qa_c qe_int qa_nil)))))
      (qss_cons (qs_asg qe_int (qg_sub (qv 5) qe_int set_list))
      (qss_one (qs_expr (qe_bm PySem.F.plainAttrs_list PySem.F.slot_list_insert PySem.F.type_list_insert mt_insert (qv 2) (qa_c qe_int (qa_c (qe_call (ok_l_fraction T) (hr.mono (by decide)) rfl T.D_l_fraction.at_ T.D_l_fraction.fn.kp T.D_l_fraction.bd .nil pass0 (qa_c (qe_call (ok_l_some T) (hr.mono (by decide)) rfl T.D_l_some.at_ T.D_l_some.fn.kp T.D_l_some.bd .nil pass0 (qa_c (qv 0) (qa_c qe_int (qa_c qe_int qa_nil)))) (qa_c (qv 5) qa_nil))) qa_nil)))))))
        qss_nil)
      (qss_one (qs_ret (qe_callTy call_tuple_ofA (by rfl) T.m_tuple b_tuple (qa_c (qv 2) qa_nil)))))))), ?_⟩
    refine ⟨_, rfl, a, n, 3, rfl, ha, by decide, by decide, fun r1 n1 H1 r10 r11 b1 ha1 => ⟨_, _, rfl, rfl, ?_⟩⟩
    refine ⟨(by show 0 <= sizeLine; decide), fun l H4 f4 s4 hl4 => ?_⟩
    have b4 : But a H H4 := b1.trans (But.of s4)
    have nal : a ≠ l := ne_of_none ha1 f4
    have fl : H l = none := by
      rcases h : H l with _ | o
      · rfl
      · rw [b1 _ _ nal.symm h] at f4; cases f4
    refine ⟨_, rfl, 1 + r1, rfl, by omega, by omega, for_range (n := (1 + r1).toNat) (fun i σ H6 => (∃ u1 u2 u3 : Option V, σ = [some (.ref a), some (.int (1 + r1)), some (.ref l), u1, u2, u3]) /\ But a H H6 /\ (∃ n' : Int, H6 a = some (.lst [.int n'])) /\ ∃ ys, H6 l = some (.lst ys) /\ FrL H6 ys /\ ys.length = i) ⟨⟨_, _, _, rfl⟩, b4, ⟨n1, s4 _ _ ha1⟩, [], hl4, (fun x hx => by cases hx), rfl⟩ ?_ ?_⟩
    · rintro i σ H6 hi ⟨⟨u1, u2, u3, rfl⟩, b6, ⟨n6, ha6⟩, ys, hl6, hf6, hyl6⟩
      refine ⟨_, rfl, a, n6, 3, 3, rfl, ha6, by decide, by decide, by decide, by decide, fun tp H7 n7 ts f7 b7 ha7 htp tl t0 t7 => ?_⟩
      have ntp : tp ≠ a := (ne_of_none ha6 f7).symm
      refine ⟨_, rfl, a, n7, 4, 2, rfl, ha7, by decide, by decide, by decide, by decide, fun bt H8 n8 bs f8 b8 ha8 hbt bl b0 b8' => ?_⟩
      have nbt : bt ≠ a := (ne_of_none ha7 f8).symm
      have htp8 : H8 tp = some (lstI ts) := b8 _ _ ntp htp
      have hl8 : H8 l = some (.lst ys) := b8 _ _ nal.symm (b7 _ _ nal.symm hl6)
      have nbtl : bt ≠ l := (ne_of_none (b7 _ _ nal.symm hl6) f8).symm
      have ntpl : tp ≠ l := (ne_of_none hl6 f7).symm
      have nbtt : bt ≠ tp := (ne_of_none htp f8).symm
      have k68 : Keep H6 H8 := (Keep.but b7 ha6 ha7).trans (Keep.but b8 ha7 ha8)
      have fbt : H bt = none := by
        rcases h : H bt with _ | o
        · rfl
        · rw [b7 _ _ nbt (b6 _ _ nbt h)] at f8; cases f8
      have ftp : H tp = none := by
        rcases h : H tp with _ | o
        · rfl
        · rw [b6 _ _ ntp h] at f7; cases f7
      refine ⟨fun σ H9 => (∃ ts' bs' : List Int, σ = [some (.ref a), some (.int (1 + r1)), some (.ref l), some (.int (0 + (i : Int))), some (.ref tp), some (.ref bt)] /\ H9 tp = some (lstI ts') /\ H9 bt = some (lstI bs') /\ ts'.length = 10 /\ bs'.length = 10 /\ (∀ e ∈ ts', 0 <= e) /\ (∀ e ∈ bs', 0 <= e) /\ (ups ts').sum <= 7 /\ (ups bs').sum <= 7) /\ (∀ c o, c ≠ tp -> c ≠ bt -> H8 c = some o -> H9 c = some o) /\ Keep H8 H9, ?_, ?_⟩
      · refine ⟨_, rfl, _, _, rfl, rfl, _, rfl, ite2 (fun h => ?_) (fun h => ?_)⟩
        · have h1 : (1 : Int) < 1 + r1 := of_decide_eq_true h
          have g0 := Int.emod_nonneg (0 + (i : Int) + 1) (show (1 + r1 : Int) ≠ 0 by omega)
          have g1 := Int.emod_lt_of_pos (0 + (i : Int) + 1) (show (0 : Int) < 1 + r1 by omega)
          refine ⟨_, rfl, _, rfl, _, _, rfl, rfl, _, rfl, _, _, rfl, rfl, (by show (0 : Int) < 1 + r1; omega), _, _, rfl, rfl, tp, _, _, _, rfl, rfl, htp8, ixN_of (by omega) (by rw [List.length_map]; omega), ?_⟩
          generalize hkt : (5 + (0 + (i : Int) + 1) % (1 + r1)).toNat = kt
          have hbt9 : (upd H8 tp (.lst ((ts.map V.int).set kt (.int 1)))) bt = some (lstI bs) := by rw [upd_ne nbtt]; exact hbt
          have hk : 5 + i < bs.length := by omega
          have hxm : bs[5 + i]? = some bs[5 + i] := List.getElem?_eq_getElem hk
          have e5 : 5 + (0 + (i : Int)) = ((5 + i : Nat) : Int) := by omega
          have hxv : atI (bs.map V.int) (5 + (0 + (i : Int))) = some (.int bs[5 + i]) := by rw [e5]; exact atI_nat (by rw [List.getElem?_map, hxm]; rfl)
          refine ⟨_, rfl, _, rfl, _, _, rfl, rfl, bt, _, _, _, rfl, rfl, SqL.of hbt9, hxv, _, _, rfl, rfl, _, rfl, _, rfl, _, _, rfl, rfl, bt, _, _, _, rfl, rfl, hbt9, ixN_of (by omega) (by rw [List.length_map]; omega), ?_⟩
          have e6 : (5 + (0 + (i : Int))).toNat = 5 + i := by omega
          rw [e6]
          refine ⟨⟨ts.set kt 1, bs.set (5 + i) (bs[5 + i] + 1), rfl, ?_, ?_, by rw [List.length_set]; exact tl, by rw [List.length_set]; exact bl, nn_set t0 (by decide), nn_set b0 (by have := b0 _ (List.getElem_mem hk); omega), ?_, Nat.le_trans (ups_up hxm) (by omega)⟩, ?_, ?_⟩
          · rw [upd_ne nbtt.symm, upd_same]
            unfold lstI
            rw [List.map_set]
          · rw [upd_same]
            unfold lstI
            rw [List.map_set]
          · have := ups_set (es := ts) (k := kt) (v := 1)
            have e1 : (1 : Int).toNat = 1 := rfl
            omega
          · intro c o n1 n2 e
            rw [upd_ne n2, upd_ne n1]
            exact e
          · exact (Keep.but But.upd htp8 upd_same).trans (Keep.but But.upd hbt9 upd_same)
        · exact ⟨⟨ts, bs, rfl, htp8, hbt, tl, bl, t0, b0, by omega, by omega⟩, fun c o _ _ e => e, Keep.refl _⟩
      · rintro σ H9 ⟨⟨ts', bs', rfl, htp9, hbt9, tl9, bl9, t09, b09, t79, b79⟩, kp9, k9⟩
        have hl9 : H9 l = some (.lst ys) := kp9 _ _ ntpl.symm nbtl.symm hl8
        have ha9 : H9 a = some (.lst [.int n8]) := kp9 _ _ ntp.symm nbt.symm ha8
        refine ⟨_, rfl, .inl ⟨rfl, _, SqL.of hl9⟩, _, rfl, _, rfl, l, _, rfl, .inl (SqL.of hl9), _, _, rfl, rfl, a, n8, _, rfl, ha9, by omega, by omega, fun ri n10 H10 ri0 ri1 b10 ha10 => ?_⟩
        refine ⟨_, rfl, _, rfl, tp, bt, ts', bs', rfl, b10 _ _ ntp htp9, b10 _ _ nbt hbt9, tl9, bl9, t09, b09, t79, b79, fun p H11 fi fj s11 hp11 hfr => ?_⟩
        have hl11 := s11 _ _ (b10 _ _ nal.symm hl9)
        refine ⟨l, ys, _, _, rfl, rfl, hl11, ri0, by omega, by rw [hyl6, sizeLine_eq]; omega, ?_⟩
        have k12 : Keep H11 (upd H11 l (.lst (ys.take (min ri.toNat ys.length) ++ .ref p :: ys.drop (min ri.toNat ys.length)))) := Keep.but But.upd hl11 upd_same
        refine ⟨⟨_, _, _, rfl⟩, ?_, ⟨n10, ?_⟩, _, upd_same, ?_, by rw [ins_len (by omega), hyl6]⟩
        · intro c o nc e
          rw [upd_ne (ne_of_none e fl)]
          exact s11 _ _ (b10 _ _ nc (kp9 _ _ (ne_of_none e ftp) (ne_of_none e fbt) (b8 _ _ nc (b7 _ _ nc (b6 _ _ nc e)))))
        · rw [upd_ne nal]; exact s11 _ _ ha10
        · exact (((((hf6.keep k68).keep k9).keep (Keep.but b10 ha9 ha10)).keep (Keep.of s11)).keep k12).ins (k12.tup hp11) hfr
    · rintro σ H6 ⟨⟨u1, u2, u3, rfl⟩, b6, ⟨n6, ha6⟩, ys, hl6, hf6, hyl6⟩
      refine ⟨fun σ H9 => (∃ u3 : Option V, σ = [some (.ref a), some (.int (1 + r1)), some (.ref l), u1, u2, u3]) /\ But a H H9 /\ (∃ n' : Int, H9 a = some (.lst [.int n'])) /\ ∃ zs, H9 l = some (.lst zs) /\ FrL H9 zs /\ 1 <= zs.length /\ zs.length <= 8, ?_, ?_⟩
      · refine ⟨_, rfl, a, n6, 2, rfl, ha6, by decide, by decide, fun r7 n7 H7 r70 r71 b7 ha7 => ⟨rfl, _, rfl, ite2 (fun h => ?_) (fun h => ?_)⟩⟩
        · refine ⟨_, rfl, a, n7, 4, 3, rfl, ha7, by decide, by decide, by decide, by decide, fun bt H8 n8 bs f8 b8 ha8 hbt bl b0 b8' => ?_⟩
          have nbt : bt ≠ a := (ne_of_none ha7 f8).symm
          have hl8 : H8 l = some (.lst ys) := b8 _ _ nal.symm (b7 _ _ nal.symm hl6)
          have nbtl : bt ≠ l := (ne_of_none (b7 _ _ nal.symm hl6) f8).symm
          have fbt : H bt = none := by
            rcases h : H bt with _ | o
            · rfl
            · rw [b7 _ _ nbt (b6 _ _ nbt h)] at f8; cases f8
          refine ⟨_, rfl, bt, _, 9, _, rfl, rfl, hbt, ixN_of (by decide) (by rw [List.length_map]; omega), ?_⟩
          have e9 : (9 : Int).toNat = 9 := rfl
          rw [e9, ← List.map_set]
          generalize hH9 : upd H8 bt (.lst ((bs.set 9 1).map V.int)) = H9
          have hbt9 : H9 bt = some (lstI (bs.set 9 1)) := by rw [← hH9]; exact upd_same
          have b9 : But bt H8 H9 := by rw [← hH9]; exact But.upd
          have hl9 := b9 _ _ nbtl.symm hl8
          have ha9 := b9 _ _ nbt.symm ha8
          refine ⟨_, rfl, .inl ⟨rfl, _, SqL.of hl9⟩, _, rfl, a, n8, 5, 3, rfl, ha9, by decide, by decide, by decide, by decide, fun tp H10 n10 ts f10 b10 ha10 htp tl t0 t7 => ?_⟩
          have hs1 := ups_set (es := bs) (k := 9) (v := 1)
          have e1 : (1 : Int).toNat = 1 := rfl
          refine ⟨_, rfl, tp, bt, ts, bs.set 9 1, rfl, htp, b10 _ _ nbt hbt9, tl, by rw [List.length_set]; exact bl, t0, nn_set b0 (by decide), by omega, by omega, fun p H11 fi fj s11 hp11 hfr => ?_⟩
          have hl11 := s11 _ _ (b10 _ _ nal.symm hl9)
          refine ⟨l, ys, _, _, rfl, rfl, hl11, by decide, by decide, by rw [hyl6, sizeLine_eq]; omega, ?_⟩
          have k12 : Keep H11 (upd H11 l (.lst (ys.take (min (0 : Int).toNat ys.length) ++ .ref p :: ys.drop (min (0 : Int).toNat ys.length)))) := Keep.but But.upd hl11 upd_same
          have k6 : Keep H6 H11 := ((((Keep.but b7 ha6 ha7).trans (Keep.but b8 ha7 ha8)).trans (Keep.but b9 hbt hbt9)).trans (Keep.but b10 ha9 ha10)).trans (Keep.of s11)
          refine ⟨⟨_, rfl⟩, ?_, ⟨n10, ?_⟩, _, upd_same, ((hf6.keep k6).keep k12).ins (k12.tup hp11) hfr, by rw [ins_len (by omega)]; omega, by rw [ins_len (by omega)]; omega⟩
          · intro c o nc e
            rw [upd_ne (ne_of_none e fl)]
            exact s11 _ _ (b10 _ _ nc (b9 _ _ (ne_of_none e fbt) (b8 _ _ nc (b7 _ _ nc (b6 _ _ nc e)))))
          · rw [upd_ne nal]; exact s11 _ _ ha10
        · exact ⟨⟨_, rfl⟩, b6.trans b7, ⟨n7, ha7⟩, ys, b7 _ _ nal.symm hl6, hf6.keep (Keep.but b7 ha6 ha7), by omega, by omega⟩
      · rintro σ H9 ⟨⟨u3', rfl⟩, b9, ⟨n9, ha9⟩, zs, hl9, hf9, z1, z10⟩
        exact ⟨_, rfl, l, _, rfl, SqL.of hl9, fun p H7 f7 s7 hp => q p H7 n9 zs (b9.trans (But.of s7)) (s7 _ _ ha9) hp (hf9.keep (Keep.of s7)) z1 z10⟩
def sp_l_program : Sp := fun vs H Q _ => ∃ (a : Addr) (n most : Int), vs = [.ref a, .int most] /\ H a = some (.lst [.int n]) /\ 0 < most /\ most <= 8 /\
  ∀ (p : Addr) (H' : Hp) (n' : Int) (xs : List V) (fs : List (Int × Int)), But a H H' -> H' a = some (.lst [.int n']) -> H' p = some (.tup xs) -> FrcsV H' xs fs -> 1 <= xs.length -> xs.length <= 8 -> Q (.ref p) H'
theorem ok_l_program (T : Tx K mg) : FnOk P w K mg base CX0 5 T.f_l_program T.fd_l_program ["pot", "most"] sp_l_program := by
  refine T.D_l_program.fn.okQ sc_l_program (fun vs H Q E h => ?_) (fun cdv A outer s H vs Q E hr h => ?_)
  · obtain ⟨a, n, most, rfl, _⟩ := h
    rfl
  · obtain ⟨a, n, most, rfl, ha, m0, m10, q⟩ := h
    refine ⟨_, (qss_cons (qs_set (i := 2) sc_l_program.nd rfl (Or.inl rfl) (qe_call (ok_l_takeA T) (hr.mono (by decide)) rfl T.D_l_take.at_ T.D_l_take.fn.kp T.D_l_take.bd .nil pass0 (qa_c (qv 0) (qa_c qe_int qa_nil))))
      (qss_cons (qs_if (qt_cmpR op_eq (qv 2) qe_int (nomark _))
        (qss_one (qs_ret (qe_call (ok_l_sinking T) (hr.mono (by decide)) rfl T.D_l_sinking.at_ T.D_l_sinking.fn.kp T.D_l_sinking.bd .nil pass0 (qa_c (qv 0) (qa_c (qv 1) qa_nil)))))
        qss_nil)
      (qss_cons (qs_if (qt_cmpR op_eq (qv 2) qe_int (nomark _))
        (qss_one (qs_ret (qe_call (ok_l_ringing T) (hr.mono (by decide)) rfl T.D_l_ringing.at_ T.D_l_ringing.fn.kp T.D_l_ringing.bd .nil pass0 (qa_c (qv 0) qa_nil))))
        qss_nil)
      (qss_one (qs_ret (qe_call (ok_l_any_program T) (hr.mono (by decide)) rfl T.D_l_any_program.at_ T.D_l_any_program.fn.kp T.D_l_any_program.bd .nil pass0 (qa_c (qv 0) (qa_c (qv 1) qa_nil)))))))), ?_⟩
    have fin : ∀ H1, But a H H1 -> PgOk a H1 Q := fun H1 b1 p H' n' xs b2 ha2 hp hf l1 l10 => by
      obtain ⟨fs, hfs⟩ := frcs_of hf
      exact q p H' n' xs fs (b1.trans b2) ha2 hp hfs l1 l10
    refine ⟨_, rfl, a, n, 4, rfl, ha, by decide, by decide, fun r1 n1 H1 r10 r11 b1 ha1 => ?_⟩
    refine ⟨_, rfl, rfl, _, rfl, ite2 (fun h => ?_) (fun h => ?_)⟩
    · exact ⟨_, rfl, _, rfl, a, n1, most, rfl, ha1, m0, m10, fin H1 b1⟩
    · refine ⟨_, rfl, rfl, _, rfl, ite2 (fun h => ?_) (fun h => ?_)⟩
      · exact ⟨_, rfl, a, n1, rfl, ha1, fin H1 b1⟩
      · exact ⟨_, rfl, _, rfl, a, n1, most, rfl, ha1, m0, m10, fin H1 b1⟩
end
end W2
namespace W2
open PySem L2 Mth
section
variable {P : Program} {w : World} {K : PySem.W.Frag} {mg : Str -> Option Value} {base : Heap}
def LRw (D : Addr) (H : Hp) (ys : List V) (rows : List (List Int)) : Prop := ys.length = rows.length /\ ∀ (i : Nat) (x : V), ys[i]? = some x -> ∃ c a, rows[i]? = some c /\ x = .ref a /\ a ≠ D /\ H a = some (lstI c)
theorem LRw.same {D : Addr} {H H' : Hp} {ys : List V} {rows : List (List Int)} (h : LRw D H ys rows) (s : Same H H') : LRw D H' ys rows := ⟨h.1, fun i x hx => by
  obtain ⟨c, a, h1, h2, h3, h4⟩ := h.2 i x hx
  exact ⟨c, a, h1, h2, h3, s _ _ h4⟩⟩
theorem LRw.but {D : Addr} {H H' : Hp} {ys : List V} {rows : List (List Int)} (h : LRw D H ys rows) (b : But D H H') : LRw D H' ys rows := ⟨h.1, fun i x hx => by
  obtain ⟨c, a, h1, h2, h3, h4⟩ := h.2 i x hx
  exact ⟨c, a, h1, h2, h3, b _ _ h3 h4⟩⟩
theorem LRw.snoc {D : Addr} {H : Hp} {ys : List V} {rows : List (List Int)} (h : LRw D H ys rows) {a : Addr} {c : List Int} (na : a ≠ D) (ha : H a = some (lstI c)) : LRw D H (ys ++ [.ref a]) (rows ++ [c]) := ⟨by rw [List.length_append, List.length_append, h.1]; rfl, fun i x hx => by
  rcases Nat.lt_or_ge i ys.length with z | z
  · rw [List.getElem?_append_left z] at hx
    obtain ⟨c', a', h1, h2⟩ := h.2 i x hx
    exact ⟨c', a', by rw [List.getElem?_append_left (by rw [← h.1]; exact z)]; exact h1, h2⟩
  · rw [List.getElem?_append_right z] at hx
    have z0 : i - ys.length = 0 := by
      rcases Nat.eq_zero_or_pos (i - ys.length) with z | z
      · exact z
      · rw [List.getElem?_eq_none (show [V.ref a].length <= _ from z)] at hx
        cases hx
    rw [z0] at hx
    cases hx
    exact ⟨c, a, by rw [List.getElem?_append_right (by rw [← h.1]; exact z), ← h.1, z0]; rfl, rfl, na, ha⟩⟩
theorem zip_chgL (n d : Nat) : List.zipWith (fun x y : Int => x - y) (natI (powsOf n)) (natI (powsOf d)) = chg n d := by
  unfold natI chg
  rw [List.zipWith_map]
def sp_l_adds : Sp := fun vs H Q _ => ∃ (b : Addr) (xs : List V) (fs : List (Int × Int)), vs = [.ref b] /\ H b = some (.tup xs) /\ FrcsV H xs fs /\ xs.length <= 1000 /\
  ∀ l H' ys, H l = none -> Same H H' -> H' l = some (.lst ys) -> LRw l H' ys (rowsOf fs) -> Q (.ref l) H'
theorem ok_l_adds (T : Tx K mg) : FnOk P w K mg base CX0 3 T.f_l_adds T.fd_l_adds ["program"] sp_l_adds := by
  refine T.D_l_adds.fn.okQ sc_l_adds (fun vs H Q E h => ?_) (fun cdv A outer s H vs Q E hr h => ?_)
  · obtain ⟨b, xs, fs, rfl, _⟩ := h
    rfl
  · obtain ⟨b, xs, fs, rfl, hb, hf, hl, q⟩ := h
    refine ⟨_, (qss_cons (qs_set (i := 1) sc_l_adds.nd rfl (Or.inl rfl) (qe_lstA qa_nil))
      (qss_cons (qs_for PassesOwn.never rfl (qi_tup (qv 0)) (qg_tup rfl (qgs_cons (qg_name (i := 2) sc_l_adds.nd rfl (Or.inl rfl)) (qgs_cons (qg_name (i := 3) sc_l_adds.nd rfl (Or.inl rfl)) qgs_nil)))
        (qss_one (qs_expr (qe_bm PySem.F.plainAttrs_list PySem.F.slot_list_append PySem.F.type_list_append mt_appendA (qv 1) (qa_c (qe_comp (compOk_of (osc := defScope s_l_adds) (XN := ["program", "found", "top", "bottom"]) (N := ["one", "other"]) (js := [none, none]) rfl rfl rfl (List.forall_mem_nil _) (by decide +kernel) rfl) rfl (qi_zipL rfl rfl T.m_zip (qa_c (qe_call (ok_l_parts T) (hr.mono (by decide)) rfl T.D_l_parts.at_ T.D_l_parts.fn.kp T.D_l_parts.bd .nil pass0 (qa_c (qv 2) qa_nil)) (qa_c (qe_call (ok_l_parts T) (hr.mono (by decide)) rfl T.D_l_parts.at_ T.D_l_parts.fn.kp T.D_l_parts.bd .nil pass0 (qa_c (qv 3) qa_nil)) qa_nil))) (fun _ _ _ _ => (qg_tupN (K := K) (n := 2) rfl rfl (qgs_cons (qg_name (i := 0) (show List.Nodup (["one", "other"] : List Str) from by decide +kernel) rfl (Or.inl rfl) (Or.inr rfl)) (qgs_cons (qg_name (i := 1) (show List.Nodup (["one", "other"] : List Str) from by decide +kernel) rfl (Or.inl rfl) (Or.inr rfl)) qgs_nil)))) (fun _ _ _ _ => qts_nil)
          (fun _ _ _ _ => (qe_op op_sub (qv 0) (qv 1)))) qa_nil)))))
      (qss_one (qs_ret (qv 1))))), ?_⟩
    refine ⟨(by show 0 <= sizeLine; decide), fun D H0 f0 s0 hD0 => ?_⟩
    refine ⟨_, rfl, b, rfl, ⟨_, SqT.of (s0 _ _ hb)⟩, for_tup (K := K) (xs := xs) (fun i σ H' => (∃ u v : Option V, σ = [some (.ref b), some (.ref D), u, v]) /\ Same H H' /\ ∃ ys, H' D = some (.lst ys) /\ LRw D H' ys ((rowsOf fs).take i)) ⟨⟨_, _, rfl⟩, s0, [], hD0, rfl, fun i x hx => by cases hx⟩ (fun i σ H' _ ⟨_, s', _⟩ => SqT.of (s' _ _ hb)) ?_ ?_⟩
    · rintro i x σ H' hx ⟨⟨u, v, rfl⟩, s', ys, hD', hr'⟩
      obtain ⟨ti, tj, c, f1, rfl, hc, f4⟩ := hf.2 i x hx
      obtain ⟨⟨i1, i2⟩, ⟨j1, j2⟩⟩ := fracB_parts f4
      refine ⟨c, _, rfl, SqT.of (s' _ _ hc), rfl, _, _, rfl, _, _, rfl, rfl, ?_⟩
      refine ⟨_, rfl, .inl ⟨rfl, _, SqL.of hD'⟩, _, rfl, ti, rfl, i1, fun p1 H1 g1 s1 hp1 => ?_⟩
      refine ⟨_, rfl, tj, rfl, j1, fun p2 H2 g2 s2 hp2 => ?_⟩
      refine ⟨p1, p2, _, _, rfl, s2 _ _ hp1, hp2, fun E' hE => ?_⟩
      refine comp_zipL_ints (K := K) (f := fun x y => x - y) (σ0 := []) (xs := natI (powsOf ti.toNat)) (ys := natI (powsOf tj.toNat)) (by simp [natI, powsOf, primes]; decide) ⟨_, _, rfl⟩ hE (s2 _ _ hp1) hp2 (fun x y H' R _ _ r => ⟨_, rfl, _, rfl, _, _, rfl, rfl, r⟩) fun H3 s3 h3 => ?_
      rw [zip_chgL] at h3
      have s13 := (s1.trans s2).trans s3
      have hD3 := s13 _ _ hD'
      have nE : E' ≠ D := (ne_of_none ((s1.trans s2) _ _ hD') hE).symm
      have yl : ys.length <= i := by rw [hr'.1, List.length_take]; omega
      have hil : i < xs.length := (List.getElem?_eq_some_iff.mp hx).1
      refine ⟨D, ys, _, rfl, rfl, hD3, by rw [sizeLine_eq]; omega, fun H4 b4 hD4 => ⟨⟨_, _, rfl⟩, ?_, _, hD4, ?_⟩⟩
      · intro e o eo
        exact b4 _ _ (ne_of_none eo f0) (s13 _ _ (s' _ _ eo))
      · have e1 : (rowsOf fs)[i]? = some (chg ti.toNat tj.toNat) := by unfold rowsOf; rw [List.getElem?_map, f1]; rfl
        rw [List.take_add_one, e1]
        exact ((hr'.same s13).snoc nE h3).but b4
    · rintro σ H' ⟨⟨u, v, rfl⟩, s', ys, hD', hr'⟩
      rw [List.take_of_length_le (by rw [rowsOf_len, ← hf.1]; exact Nat.le_refl _)] at hr'
      exact ⟨_, rfl, q D H' ys f0 s' hD' hr'⟩
theorem comp_zipM_gen {K : PySem.W.Frag} {a b D : Addr} {js : List (Option Nat)} {te : TE} {σ : St} {H1 : Hp} {Q : VK} {xs ys : List Int} {σ0 : St} {f : Int -> Int -> V} (hn : min xs.length ys.length <= sizeLine) (hp : ∃ u v, pick js σ = u :: v :: σ0) (hD : H1 D = none)
    (ha : H1 a = some (tupI xs)) (hb : H1 b = some (lstI ys))
    (hs : ∀ (x y : Int) (H' : Hp) (R : VK), x ∈ xs -> y ∈ ys -> R (f x y) H' -> te (some (.int x) :: some (.int y) :: σ0) H' R)
    (q : ∀ H', Same H1 H' -> H' D = some (.lst (List.zipWith f xs ys)) -> Q (.ref D) H') : CompW (Itm K a b) D js (gTup K 2 (gCons (gName 0) (gCons (gName 1) gNil))) tNoTest te σ H1 Q := by
  obtain ⟨u0, v0, hp⟩ := hp
  refine comp_zipM (K := K) (a := a) (b := b) (xs := xs.map V.int) (ys := ys.map V.int) (by rw [List.length_map, List.length_map]; exact hn) (fun i σ' H' zs => (∃ u v : Option V, σ' = u :: v :: σ0) /\ Same H1 H' /\ zs = (List.zipWith f xs ys).take i) ⟨⟨u0, v0, hp⟩, Same.new hD, rfl⟩ (fun i σ' H' zs _ ⟨_, s', _⟩ => ⟨SqT.of (s' _ _ ha), SqL.of (s' _ _ hb)⟩) ?_ ?_
  · rintro i x y p σ' H' zs R hx hy hp' hD' hzl ⟨⟨u, v, rfl⟩, s', rfl⟩ kk
    obtain ⟨x, rfl, hx'⟩ := map_int_get hx
    obtain ⟨y, rfl, hy'⟩ := map_int_get hy
    refine ⟨p, _, rfl, SqT.of upd_same, rfl, _, _, rfl, _, _, rfl, rfl, hs x y _ _ (List.mem_of_getElem? hx') (List.mem_of_getElem? hy') ?_⟩
    refine kk _ _ _ ?_ ⟨⟨_, _, rfl⟩, ?_, ?_⟩
    · rw [upd_ne (ne_of_none hD' hp')]; exact hD'
    · intro c o e
      rw [upd_ne (ne_of_none e hD), upd_ne (ne_of_none (s' _ _ e) hp')]
      exact s' _ _ e
    · have : (List.zipWith f xs ys)[i]? = some (f x y) := by rw [List.getElem?_zipWith_eq_some]; exact ⟨x, y, hx', hy', rfl⟩
      rw [List.take_add_one, this]
      rfl
  · rintro σ' H' zs hD' hzl ⟨_, s', rfl⟩
    rw [List.take_of_length_le (by rw [List.length_zipWith, List.length_map, List.length_map]; exact Nat.le_refl _)] at hD'
    exact q H' s' hD'
def FrB (fs : List (Int × Int)) : Prop := ∀ f ∈ fs, fracB f.1 f.2 = true
theorem FrcsV.ok {H : Hp} {xs : List V} {fs : List (Int × Int)} (h : FrcsV H xs fs) : FrB fs := fun f hf => by
  obtain ⟨k, hk⟩ := List.getElem?_of_mem hf
  have hl : k < xs.length := by rw [h.1]; exact (List.getElem?_eq_some_iff.mp hk).1
  obtain ⟨i, j, c, h1, _, _, h4⟩ := h.2 k xs[k] (List.getElem?_eq_getElem hl)
  rw [hk] at h1
  cases h1
  exact h4
end
end W2
namespace W2
open PySem L2 Mth
section
variable {P : Program} {w : World} {K : PySem.W.Frag} {mg : Str -> Option Value} {base : Heap}
def sp_how_often : Sp := fun vs H Q _ => ∃ (p : Nat) (m : Int), vs = [.int (p : Int), .int m] /\ 2 <= p /\ p < 30 /\ 1 <= m /\ Q (.int (cnt p m.toNat : Nat)) H
theorem ok_how_often (T : Tx K mg) : FnOk P w K mg base CX0 1 T.f_how_often T.fd_how_often ["prime", "number"] sp_how_often := by
  refine T.D_how_often.fn.okQ sc_how_often (fun vs H Q E h => ?_) (fun cdv A outer s H vs Q E hr h => ?_)
  · obtain ⟨p, m, rfl, _⟩ := h
    rfl
  · obtain ⟨p, m, rfl, hp2, hp30, hm, q⟩ := h
    refine ⟨_, (qss_cons (qs_set (i := 2) sc_how_often.nd rfl (Or.inl rfl) qe_int)
      (qss_cons (qs_set (i := 3) sc_how_often.nd rfl (Or.inl rfl) (qv 1))
      (qss_cons (qs_while PassesOwn.never (qt_cmpR op_eq (qe_op op_mod (qv 3) (qv 0)) qe_int (nomark _))
        (qss_cons (qs_set (i := 3) sc_how_often.nd rfl (Or.inl rfl) (qe_op op_fdiv (qv 3) (qv 0)))
      (qss_one (qs_set (i := 2) sc_how_often.nd rfl (Or.inl rfl) (qe_op op_add (qv 2) qe_int)))))
      (qss_one (qs_ret (qv 2)))))), ?_⟩
    refine ⟨_, rfl, ?_⟩
    refine while_own (fun σ H3 => ∃ o r : Nat, σ = [some (.int (p : Int)), some (.int m), some (.int (o : Int)), some (.int (r : Int))] /\ 1 <= r /\ o + cnt p r = cnt p m.toNat /\ H3 = H) (fun σ _ => natAt σ 3) ⟨0, m.toNat, by rw [Int.toNat_of_nonneg (by omega)]; rfl, by omega, Nat.zero_add _, rfl⟩ ?_
    rintro σ H3 ⟨o, r, rfl, hr1, hro, rfl⟩
    refine ⟨_, rfl, _, rfl, _, _, rfl, rfl, (by show (0 : Int) < p; omega), rfl, _, rfl, ite2 (fun h => ?_) (fun h => ?_)⟩
    · have h0 : (r : Int) % (p : Int) = 0 := int_eq0 h
      have h0' : r % p = 0 := by omega
      refine whN ⟨_, rfl, _, rfl, _, _, rfl, rfl, ⟨by omega, by omega⟩, _, rfl, _, _, rfl, rfl, ?_⟩
      refine ⟨⟨o + 1, r / p, ?_, div_pos_of hr1 h0', by rw [cnt_div hp2 hr1 h0'] at hro; omega, rfl⟩, ?_⟩
      · rw [Int.natCast_ediv, Int.natCast_add]; rfl
      · show ((r : Int) / (p : Int)).toNat < ((r : Int)).toNat
        rw [← Int.natCast_ediv, Int.toNat_natCast, Int.toNat_natCast]
        exact Nat.div_lt_self hr1 hp2
    · have h0 : ¬ (r : Int) % (p : Int) = 0 := int_ne0 h
      have h0' : r % p ≠ 0 := by omega
      rw [cnt_not h0', Nat.add_zero] at hro
      subst hro
      exact ⟨_, rfl, q⟩
def sp_powers_of : Sp := fun vs H Q _ => ∃ i : Int, vs = [.int i] /\ 1 <= i /\ stripAll i.toNat = 1 /\ ∀ p H', Same H H' -> H' p = some (tupI (natI (powsOf i.toNat))) -> Q (.ref p) H'
theorem ok_powers_of (T : Tx K mg) : FnOk P w K mg base CX0 2 T.f_powers_of T.fd_powers_of ["number"] sp_powers_of := by
  refine T.D_powers_of.fn.okQ sc_powers_of (fun vs H Q E h => ?_) (fun cdv A outer s H vs Q E hr h => ?_)
  · obtain ⟨i, rfl, _⟩ := h
    rfl
  · obtain ⟨i, rfl, h1, hz, q⟩ := h
    refine ⟨_, (qss_cons (qs_if (QW.pt (qw_or (qt_not (qt_val (qe_call (ok_is_whole T) (hr.mono (by decide)) rfl T.D_is_whole.at_ T.D_is_whole.fn.kp T.D_is_whole.bd .nil pass0 (qa_c (qv 0) qa_nil)))) (qw_or (qt_cmpR op_lt (qv 0) qe_int (nomark _)) (qw_or1 (qt_cmpR op_ne (qe_call (ok_without_primes T) (hr.mono (by decide)) rfl T.D_without_primes.at_ T.D_without_primes.fn.kp T.D_without_primes.bd .nil pass0 (qa_c (qv 0) qa_nil)) qe_int (nomark _))))))
        (qss_one qs_never)
        qss_nil)
      (qss_one (qs_ret (qe_callTy call_tuple_ofA (by rfl) T.m_tuple b_tuple (qa_c (qe_comp (compOk_of (osc := defScope s_powers_of) (XN := ["number"]) (N := ["prime", "number"]) (js := [none, some 0]) rfl rfl rfl (List.forall_mem_cons.mpr ⟨rfl, (List.forall_mem_nil _)⟩) (by decide +kernel) rfl) rfl (qi_tup (qe_glob (v := .ref T.a_PRIMES) (by rfl) T.g_PRIMES rfl)) (fun _ _ _ _ => (qg_name (i := 0) (show List.Nodup (["prime", "number"] : List Str) from by decide +kernel) rfl (Or.inl rfl) (Or.inr rfl))) (fun _ _ _ _ => qts_nil)
          (fun _ _ _ _ => (qe_call (ok_how_often T) (hr.mono (by decide)) rfl T.D_how_often.at_ T.D_how_often.fn.kp T.D_how_often.bd .nil pass0 (qa_c (qv 0) (qa_c (qv 1) qa_nil))))) qa_nil))))), ?_⟩
    refine ⟨_, rfl, _, rfl, trivial, _, rfl, iteF ?_⟩
    refine ⟨_, rfl, _, _, rfl, rfl, _, rfl, ?_⟩
    rw [decide_eq_false (show ¬ i < 1 by omega)]
    refine iteF ⟨_, rfl, i, rfl, h1, rfl, _, rfl, ?_⟩
    rw [hz]
    refine iteF ?_
    refine ⟨T.a_PRIMES, rfl, ⟨primesV, T.t_PRIMES H⟩, fun D hD => comp_map_tup (xs := primesV) (f := fun v => match v with | .int p => V.int (cnt p.toNat i.toNat : Nat) | v => v) rfl (by decide) hD (T.t_PRIMES H) ?_ ?_⟩
    · intro x H' R hx r
      obtain ⟨z, hz⟩ := List.getElem?_of_mem hx
      obtain ⟨p, rfl, hp, hp30⟩ := primesV_get hz
      have hp2 : 2 <= p := two_le p (List.mem_of_getElem? hp)
      refine ⟨_, rfl, _, rfl, p, i, rfl, hp2, hp30, by omega, ?_⟩
      have r2 : R (V.int (cnt ((p : Int).toNat) i.toNat : Nat)) H' := r
      rw [Int.toNat_natCast] at r2
      exact r2
    · refine ⟨D, _, rfl, SqL.of upd_same, fun p H' fp sp hp => q p H' ((Same.new hD).trans sp) ?_⟩
      rw [hp]
      rfl
theorem zip_chg (n d : Nat) : List.zipWith (fun x y : Int => x - y) (natI (powsOf n)) (natI (powsOf d)) = chg n d := by
  unfold natI chg
  rw [List.zipWith_map]
def sp_fraction_changes : Sp := fun vs H Q _ => ∃ (b : Addr) (i j : Int), vs = [.ref b] /\ H b = some (.tup [.int i, .int j]) /\ fracB i j = true /\ ∀ p H', Same H H' -> H' p = some (tupI (chg i.toNat j.toNat)) -> Q (.ref p) H'
theorem ok_fraction_changes (T : Tx K mg) : FnOk P w K mg base CX0 3 T.f_fraction_changes T.fd_fraction_changes ["fraction"] sp_fraction_changes := by
  refine T.D_fraction_changes.fn.okQ sc_fraction_changes (fun vs H Q E h => ?_) (fun cdv A outer s H vs Q E hr h => ?_)
  · obtain ⟨b, i, j, rfl, _⟩ := h
    rfl
  · obtain ⟨b, i, j, rfl, hb, hf, q⟩ := h
    refine ⟨_, (qss_cons (qs_set (i := 1) sc_fraction_changes.nd rfl (Or.inl rfl) (qe_call (ok_powers_of T) (hr.mono (by decide)) rfl T.D_powers_of.at_ T.D_powers_of.fn.kp T.D_powers_of.bd .nil pass0 (qa_c (qe_ix ix_tup (qv 0) qe_int (fun _ _ => rfl)) qa_nil)))
      (qss_cons (qs_set (i := 2) sc_fraction_changes.nd rfl (Or.inl rfl) (qe_call (ok_powers_of T) (hr.mono (by decide)) rfl T.D_powers_of.at_ T.D_powers_of.fn.kp T.D_powers_of.bd .nil pass0 (qa_c (qe_ix ix_tup (qv 0) qe_int (fun _ _ => rfl)) qa_nil)))
      (qss_one (qs_ret (qe_callTy call_tuple_ofA (by rfl) T.m_tuple b_tuple (qa_c (qe_comp (compOk_of (osc := defScope s_fraction_changes) (XN := ["fraction", "tops", "bottoms"]) (N := ["top", "bottom"]) (js := [none, none]) rfl rfl rfl (List.forall_mem_nil _) (by decide +kernel) rfl) rfl (qi_zip rfl rfl T.m_zip (qa_c (qv 1) (qa_c (qv 2) qa_nil))) (fun _ _ _ _ => (qg_tupN (K := K) (n := 2) rfl rfl (qgs_cons (qg_name (i := 0) (show List.Nodup (["top", "bottom"] : List Str) from by decide +kernel) rfl (Or.inl rfl) (Or.inr rfl)) (qgs_cons (qg_name (i := 1) (show List.Nodup (["top", "bottom"] : List Str) from by decide +kernel) rfl (Or.inl rfl) (Or.inr rfl)) qgs_nil)))) (fun _ _ _ _ => qts_nil)
          (fun _ _ _ _ => (qe_op op_sub (qv 0) (qv 1)))) qa_nil)))))), ?_⟩
    obtain ⟨⟨i1, i2⟩, ⟨j1, j2⟩⟩ := fracB_parts hf
    refine ⟨_, rfl, b, _, _, _, rfl, rfl, SqT.of hb, rfl, i, rfl, i1, i2, fun p1 H1 s1 hp1 => ?_⟩
    refine ⟨_, rfl, b, _, _, _, rfl, rfl, SqT.of (s1 _ _ hb), rfl, j, rfl, j1, j2, fun p2 H2 s2 hp2 => ?_⟩
    refine ⟨_, rfl, _, rfl, p1, p2, rfl, ⟨_, SqT.of (s2 _ _ hp1)⟩, ⟨_, SqT.of hp2⟩, fun D hD => ?_⟩
    refine comp_zip_ints (f := fun x y => x - y) (σ0 := []) (xs := natI (powsOf i.toNat)) (ys := natI (powsOf j.toNat)) (by simp [natI, powsOf, primes]; decide) ⟨_, _, rfl⟩ hD (s2 _ _ hp1) hp2 (fun x y H' R _ _ r => ⟨_, rfl, _, rfl, _, _, rfl, rfl, r⟩) fun H3 s3 h3 => ?_
    refine ⟨D, _, rfl, SqL.of h3, fun p H4 fp s4 hp => q p H4 (((s1.trans s2).trans s3).trans s4) ?_⟩
    rw [hp, zip_chg]
def sp_changes_of : Sp := fun vs H Q _ => ∃ (b : Addr) (xs : List V) (fs : List (Int × Int)), vs = [.ref b] /\ H b = some (.tup xs) /\ FrcsV H xs fs /\ xs.length <= 1000 /\
  ∀ l H' ys, H l = none -> Same H H' -> H' l = some (.lst ys) -> RowsV H' ys (rowsOf fs) -> Q (.ref l) H'
theorem ok_changes_of (T : Tx K mg) : FnOk P w K mg base CX0 4 T.f_changes_of T.fd_changes_of ["program"] sp_changes_of := by
  refine T.D_changes_of.fn.okQ sc_changes_of (fun vs H Q E h => ?_) (fun cdv A outer s H vs Q E hr h => ?_)
  · obtain ⟨b, xs, fs, rfl, _⟩ := h
    rfl
  · obtain ⟨b, xs, fs, rfl, hb, hf, hl, q⟩ := h
    refine ⟨_, (qss_one (qs_ret (qe_comp (compOk_of (osc := defScope s_changes_of) (XN := ["program"]) (N := ["fraction"]) (js := [none]) rfl rfl rfl (List.forall_mem_nil _) (by decide +kernel) rfl) rfl (qi_tup (qv 0)) (fun _ _ _ _ => (qg_name (i := 0) (show List.Nodup (["fraction"] : List Str) from by decide +kernel) rfl (Or.inl rfl) (Or.inr rfl))) (fun _ _ _ _ => qts_nil)
          (fun _ _ _ _ => (qe_call (ok_fraction_changes T) (hr.mono (by decide)) rfl T.D_fraction_changes.at_ T.D_fraction_changes.fn.kp T.D_fraction_changes.bd .nil pass0 (qa_c (qv 0) qa_nil)))))), ?_⟩
    refine ⟨_, rfl, b, rfl, ⟨_, SqT.of hb⟩, fun D hD => ?_⟩
    refine comp_tup (xs := xs) (by rw [sizeLine_eq]; omega) (fun i σ' H' ys => (∃ u : Option V, σ' = [u]) /\ Same H H' /\ RowsV H' ys ((rowsOf fs).take i)) ⟨⟨_, rfl⟩, Same.new hD, RowsV.nil⟩ (fun i σ' H' ys _ _ ⟨_, s', _⟩ => SqT.of (s' _ _ hb)) ?_ ?_
    · rintro i x σ' H' ys R hx hD' hyl ⟨⟨u, rfl⟩, s', hr'⟩ kk
      obtain ⟨a, d, c, f1, rfl, hc, f4⟩ := hf.2 i x hx
      refine ⟨_, rfl, c, a, d, rfl, s' _ _ hc, f4, fun p H2 s2 hp => ?_⟩
      refine kk _ _ _ (s2 _ _ hD') ⟨⟨_, rfl⟩, ?_, ?_⟩
      · intro e o eo
        rw [upd_ne (ne_of_none eo hD)]
        exact s2 _ _ (s' _ _ eo)
      · have e1 : (rowsOf fs)[i]? = some (chg a.toNat d.toNat) := by unfold rowsOf; rw [List.getElem?_map, f1]; rfl
        rw [List.take_add_one, e1]
        exact RowsV.but ((hr'.same s2).app (RowsV.one ⟨p, rfl, hp⟩)) (s2 _ _ hD') But.upd
    · rintro σ' H' ys hD' hyl ⟨_, s', hr'⟩
      rw [List.take_of_length_le (by rw [rowsOf_len, ← hf.1]; exact Nat.le_refl _)] at hr'
      exact q D H' ys hD s' hD' hr'
end
end W2
namespace W2
open PySem L2 Mth
section
variable {P : Program} {w : World} {K : PySem.W.Frag} {mg : Str -> Option Value} {base : Heap}
def sp_sum_by : Sp := fun vs H Q _ => ∃ (a b : Addr) (r p : List Int) (m n : Nat), vs = [.ref a, .ref b] /\ H a = some (tupI r) /\ H b = some (tupI p) /\ r.length <= 1000 /\ BdI m r /\ BdI n p /\ m <= 20000 /\ n <= 20000 /\ ∀ H', Same H H' -> Q (.int (dotI r p)) H'
theorem ok_sum_by (T : Tx K mg) : FnOk P w K mg base CX0 1 T.f_sum_by T.fd_sum_by ["row", "powers"] sp_sum_by := by
  refine T.D_sum_by.fn.okQ sc_sum_by (fun vs H Q E h => ?_) (fun cdv A outer s H vs Q E hr h => ?_)
  · obtain ⟨a, b, r, p, m, n, rfl, _⟩ := h
    rfl
  · obtain ⟨a, b, r, p, m, n, rfl, ha, hb, hl, hr', hp, hm, hn, q⟩ := h
    refine ⟨_, (qss_one (qs_ret (qe_callB (call_sumL rfl) (by rfl) T.m_sum b_sum (qa_c (qe_comp (compOk_of (osc := defScope s_sum_by) (XN := ["row", "powers"]) (N := ["number", "power"]) (js := [none, none]) rfl rfl rfl (List.forall_mem_nil _) (by decide +kernel) rfl) rfl (qi_zip rfl rfl T.m_zip (qa_c (qv 0) (qa_c (qv 1) qa_nil))) (fun _ _ _ _ => (qg_tupN (K := K) (n := 2) rfl rfl (qgs_cons (qg_name (i := 0) (show List.Nodup (["number", "power"] : List Str) from by decide +kernel) rfl (Or.inl rfl) (Or.inr rfl)) (qgs_cons (qg_name (i := 1) (show List.Nodup (["number", "power"] : List Str) from by decide +kernel) rfl (Or.inl rfl) (Or.inr rfl)) qgs_nil)))) (fun _ _ _ _ => qts_nil)
          (fun _ _ _ _ => (qe_op op_mulX (qv 0) (qv 1)))) qa_nil)))), ?_⟩
    refine ⟨_, rfl, _, rfl, a, b, rfl, ⟨_, SqT.of ha⟩, ⟨_, SqT.of hb⟩, fun D hD => ?_⟩
    refine comp_zip_ints (f := fun x y => x * y) (σ0 := []) (xs := r) (ys := p) (by rw [sizeLine_eq]; omega) ⟨_, _, rfl⟩ hD ha hb (fun x y H' R hx hy r => ⟨_, rfl, _, rfl, _, _, rfl, rfl, ⟨m, n, hr' x hx, hp y hy, hm, hn⟩, r⟩) fun H3 s3 h3 => ?_
    exact ⟨D, _, rfl, SqL.of h3, q H3 s3⟩
def sp_is_row : Sp := fun vs H Q _ => ∃ (a : Addr) (r : List Int), vs = [.ref a] /\ H a = some (tupI r) /\ r.length = 10 /\ ∀ H', Same H H' -> Q (.bl true) H'
theorem ok_is_row (T : Tx K mg) : FnOk P w K mg base CX0 2 T.f_is_row T.fd_is_row ["thing"] sp_is_row := by
  refine T.D_is_row.fn.okQ sc_is_row (fun vs H Q E h => ?_) (fun cdv A outer s H vs Q E hr h => ?_)
  · obtain ⟨a, r, rfl, _⟩ := h
    rfl
  · obtain ⟨a, r, rfl, ha, hl, q⟩ := h
    refine ⟨_, (qss_cons (qs_if (QW.pt (qw_or (qt_not (qt_val (qe_callB call_isi (by rfl) T.m_isinstance b_isinstance (qa_c (qv 0) (qa_c (qe_ty (by rfl) T.m_tuple b_tuple) qa_nil))))) (qw_or1 (qt_cmpR op_ne (qe_callB call_len_seq (by rfl) T.m_len b_len (qa_c (qv 0) qa_nil)) (qe_callB call_len_seq (by rfl) T.m_len b_len (qa_c (qe_glob (v := .ref T.a_PRIMES) (by rfl) T.g_PRIMES rfl) qa_nil)) (nomark _)))))
        (qss_one (qs_ret qe_bl))
        qss_nil)
      (qss_one (qs_ret (qe_callB (call_all rfl) (by rfl) T.m_all b_all (qa_c (qe_comp (compOk_of (osc := defScope s_is_row) (XN := ["thing"]) (N := ["part"]) (js := [none]) rfl rfl rfl (List.forall_mem_nil _) (by decide +kernel) rfl) rfl (qi_tup (qv 0)) (fun _ _ _ _ => (qg_name (i := 0) (show List.Nodup (["part"] : List Str) from by decide +kernel) rfl (Or.inl rfl) (Or.inr rfl))) (fun _ _ _ _ => qts_nil)
          (fun _ _ _ _ => (qe_call (ok_is_whole T) (hr.mono (by decide)) rfl T.D_is_whole.at_ T.D_is_whole.fn.kp T.D_is_whole.bd .nil pass0 (qa_c (qv 0) qa_nil)))) qa_nil))))), ?_⟩
    obtain ⟨t, ty, e⟩ := isi_T (K := K) (kind_tup ha)
    rw [isT_ref ha] at e
    refine ⟨_, rfl, .ref a, "tuple", t, _, rfl, ty, e, _, rfl, iteF ?_⟩
    refine ⟨_, rfl, a, _, rfl, .inr (SqT.of ha), _, _, rfl, .inr (T.t_PRIMES H), rfl, _, rfl, ?_⟩
    rw [List.length_map, hl]
    refine iteF ?_
    refine ⟨_, rfl, a, rfl, ⟨_, SqT.of ha⟩, fun D hD => ?_⟩
    refine comp_tup (K := K) (a := a) (xs := r.map V.int) (by rw [sizeLine_eq, List.length_map]; omega) (fun i σ' H' ys => (∃ u : Option V, σ' = [u]) /\ Same H H' /\ ys = (List.replicate i true).map V.bl) ⟨⟨_, rfl⟩, Same.new hD, rfl⟩ (fun i σ' H' ys _ _ ⟨_, s', _⟩ => SqT.of (s' _ _ ha)) ?_ ?_
    · rintro i x σ' H' ys R hx hD' hyl ⟨⟨u, rfl⟩, s', rfl⟩ kk
      obtain ⟨y, rfl, _⟩ := map_int_get hx
      refine ⟨_, rfl, .int y, rfl, trivial, kk _ _ _ hD' ⟨⟨_, rfl⟩, ?_, ?_⟩⟩
      · intro b o eb
        rw [upd_ne (ne_of_none eb hD)]
        exact s' _ _ eb
      · rw [List.replicate_succ', List.map_append]
        rfl
    · rintro σ' H4 ys hD4 hyl ⟨_, s4, rfl⟩
      refine ⟨D, _, rfl, SqL.of hD4, ?_⟩
      rw [show (List.replicate (r.map V.int).length true).all id = true by
        rw [List.all_eq_true]
        intro y hy
        rw [(List.mem_replicate.mp hy).2]
        rfl]
      exact q H4 s4
theorem term_le {i : Int} (h : termB i = true) : i <= 1000000000000 := by
  unfold termB at h
  simp only [Bool.and_eq_true, decide_eq_true_eq] at h
  exact h.1.2
theorem fracB_le {i j : Int} (h : fracB i j = true) : i <= 1000000000000 /\ j <= 1000000000000 := by
  unfold fracB at h
  simp only [Bool.and_eq_true] at h
  exact ⟨term_le h.1.1, term_le h.1.2⟩
theorem bd_row {fs : List (Int × Int)} (hf : ∀ f ∈ fs, fracB f.1 f.2 = true) : ∀ c ∈ rowsOf fs, BdI 6 c := fun c hc n hn => by
  unfold rowsOf at hc
  obtain ⟨f, hf', rfl⟩ := List.mem_map.mp hc
  obtain ⟨b1, b2⟩ := fracB_le (hf f hf')
  obtain ⟨⟨i1, _⟩, ⟨j1, _⟩⟩ := fracB_parts (hf f hf')
  have := chg_40 (by omega) (by omega) (by omega) (by omega) hn
  show n.natAbs <= 64
  omega
def sp_is_kept : Sp := fun vs H Q _ => ∃ (b a : Addr) (xs : List V) (fs : List (Int × Int)) (r : List Int) (m : Nat), vs = [.ref b, .ref a] /\ H b = some (.tup xs) /\ FrcsV H xs fs /\ xs.length <= 1000 /\ H a = some (tupI r) /\ r.length = 10 /\ BdI m r /\ m <= 20000 /\ ∀ H', Same H H' -> Q (.bl ((rowsOf fs).all fun c => decide (dotI r c = 0))) H'
theorem ok_is_kept (T : Tx K mg) : FnOk P w K mg base CX0 5 T.f_is_kept T.fd_is_kept ["program", "thing"] sp_is_kept := by
  refine T.D_is_kept.fn.okQ sc_is_kept (fun vs H Q E h => ?_) (fun cdv A outer s H vs Q E hr h => ?_)
  · obtain ⟨b, a, xs, fs, r, m, rfl, _⟩ := h
    rfl
  · obtain ⟨b, a, xs, fs, r, m, rfl, hb, hf, hxl, ha, hl, hr', hm, q⟩ := h
    refine ⟨_, (qss_cons (qs_if (qt_not (qt_val (qe_call (ok_is_row T) (hr.mono (by decide)) rfl T.D_is_row.at_ T.D_is_row.fn.kp T.D_is_row.bd .nil pass0 (qa_c (qv 1) qa_nil))))
        (qss_one (qs_ret qe_bl))
        qss_nil)
      (qss_one (qs_ret (qe_callB (call_all rfl) (by rfl) T.m_all b_all (qa_c (qe_comp (compOk_of (osc := defScope s_is_kept) (XN := ["program", "thing"]) (N := ["changes", "thing"]) (js := [none, some 1]) rfl rfl rfl (List.forall_mem_cons.mpr ⟨rfl, (List.forall_mem_nil _)⟩) (by decide +kernel) rfl) rfl (qi_list (qe_call (ok_changes_of T) (hr.mono (by decide)) rfl T.D_changes_of.at_ T.D_changes_of.fn.kp T.D_changes_of.bd .nil pass0 (qa_c (qv 0) qa_nil))) (fun _ _ _ _ => (qg_name (i := 0) (show List.Nodup (["changes", "thing"] : List Str) from by decide +kernel) rfl (Or.inl rfl) (Or.inr rfl))) (fun _ _ _ _ => qts_nil)
          (fun _ _ _ _ => (qe_cmpR op_eq (qe_call (ok_sum_by T) (hr.mono (by decide)) rfl T.D_sum_by.at_ T.D_sum_by.fn.kp T.D_sum_by.bd .nil pass0 (qa_c (qv 1) (qa_c (qv 0) qa_nil))) qe_int (nomark _)))) qa_nil))))), ?_⟩
    have hbd := bd_row hf.ok
    refine ⟨_, rfl, a, r, rfl, ha, hl, fun H1 s1 => ⟨_, rfl, iteF ?_⟩⟩
    refine ⟨_, rfl, b, xs, fs, rfl, s1 _ _ hb, hf.same s1, hxl, fun l H2 ys f2 s2 hl2 hR => ⟨l, rfl, ⟨_, SqL.of hl2⟩, fun D hD => ?_⟩⟩
    have yl := hR.1
    have fl := hf.1
    have rl := rowsOf_len fs
    refine comp_list (K := K) (a := l) (xs := ys) (by rw [sizeLine_eq]; omega) (fun i σ' H' zs => (∃ u : Option V, σ' = [u, some (.ref a)]) /\ Same H2 H' /\ zs = (((rowsOf fs).take i).map fun c => decide (dotI r c = 0)).map V.bl) ⟨⟨_, rfl⟩, Same.new hD, rfl⟩ (fun i σ' H' ys _ _ ⟨_, s', _⟩ => SqL.of (s' _ _ hl2)) ?_ ?_
    · rintro i x σ' H' zs R hx hD' hyl ⟨⟨u, rfl⟩, s', rfl⟩ kk
      obtain ⟨c, hc, ca, rfl, hca⟩ := hR.2 i x hx
      refine ⟨_, rfl, _, rfl, a, ca, r, c, m, 6, rfl, s' _ _ (s2 _ _ (s1 _ _ ha)), s' _ _ hca, by omega, hr', hbd c (List.mem_of_getElem? hc), hm, by decide, fun H3 s3 => ⟨rfl, kk _ _ _ (s3 _ _ hD') ⟨⟨_, rfl⟩, ?_, ?_⟩⟩⟩
      · intro e o eo
        rw [upd_ne (ne_of_none eo hD)]
        exact s3 _ _ (s' _ _ eo)
      · rw [List.take_add_one, hc, List.map_append, List.map_append]
        congr 1
        show [V.bl (decide (V.int (dotI r c) = V.int 0))] = [V.bl (decide (dotI r c = 0))]
        congr 2
        rw [Bool.eq_iff_iff, decide_eq_true_iff, decide_eq_true_iff]
        exact ⟨fun z => by injection z, fun z => by rw [z]⟩
    · rintro σ' H4 zs hD4 hyl ⟨_, s4, rfl⟩
      refine ⟨D, _, rfl, SqL.of hD4, ?_⟩
      rw [List.take_of_length_le (by omega), List.all_map]
      exact q H4 ((s1.trans s2).trans s4)
def sp_unit_row : Sp := fun vs H Q _ => ∃ k p : Nat, vs = [.int (p : Int)] /\ primes[k]? = some p /\ ∀ q' H', H q' = none -> Same H H' -> H' q' = some (tupI (unitI k)) -> Q (.ref q') H'
theorem unit_map {k p : Nat} (h : primes[k]? = some p) : (primes.map fun q : Nat => if q = p then (1 : Int) else 0) = unitI k := by
  have hk : k < 10 := (List.getElem?_eq_some_iff.mp h).1
  have : ∀ k, k < 10 -> (primes.map fun q : Nat => if q = primes.getD k 0 then (1 : Int) else 0) = unitI k := by decide
  have e : primes.getD k 0 = p := by rw [List.getD_eq_getElem?_getD, h]; rfl
  rw [← e]
  exact this k hk
theorem ok_unit_row (T : Tx K mg) : FnOk P w K mg base CX0 1 T.f_unit_row T.fd_unit_row ["prime"] sp_unit_row := by
  refine T.D_unit_row.fn.okQ sc_unit_row (fun vs H Q E h => ?_) (fun cdv A outer s H vs Q E hr h => ?_)
  · obtain ⟨k, p, rfl, _⟩ := h
    rfl
  · obtain ⟨k, p, rfl, hp, q⟩ := h
    refine ⟨_, (qss_one (qs_ret (qe_callTy call_tuple_ofA (by rfl) T.m_tuple b_tuple (qa_c (qe_comp (compOk_of (osc := defScope s_unit_row) (XN := ["prime"]) (N := ["other", "prime"]) (js := [none, some 0]) rfl rfl rfl (List.forall_mem_cons.mpr ⟨rfl, (List.forall_mem_nil _)⟩) (by decide +kernel) rfl) rfl (qi_tup (qe_glob (v := .ref T.a_PRIMES) (by rfl) T.g_PRIMES rfl)) (fun _ _ _ _ => (qg_name (i := 0) (show List.Nodup (["other", "prime"] : List Str) from by decide +kernel) rfl (Or.inl rfl) (Or.inr rfl))) (fun _ _ _ _ => qts_nil)
          (fun _ _ _ _ => (qe_ifExp (qt_cmpR op_eq (qv 0) (qv 1) (nomark _)) qe_int qe_int))) qa_nil)))), ?_⟩
    refine ⟨T.a_PRIMES, rfl, ⟨_, T.t_PRIMES H⟩, fun D hD => ?_⟩
    refine comp_tup (K := K) (a := T.a_PRIMES) (xs := primesV) (by rw [sizeLine_eq]; decide) (fun i σ' H' ys => (∃ u : Option V, σ' = [u, some (.int (p : Int))]) /\ Same H H' /\ ys = ((primes.take i).map fun q : Nat => if q = p then (1 : Int) else 0).map V.int) ⟨⟨_, rfl⟩, Same.new hD, rfl⟩ (fun i σ' H' ys _ _ ⟨_, s', _⟩ => T.t_PRIMES H') ?_ ?_
    · rintro i x σ' H' ys R hx hD' hyl ⟨⟨u, rfl⟩, s', rfl⟩ kk
      obtain ⟨r, rfl, hr', _⟩ := primesV_get hx
      have fin : ∀ v : Int, v = (if r = p then (1 : Int) else 0) -> R [some (.int (r : Int)), some (.int (p : Int))] (.int v) H' := fun v hv => kk _ _ _ hD' ⟨⟨_, rfl⟩, (by
        intro e o eo
        rw [upd_ne (ne_of_none eo hD)]
        exact s' _ _ eo), (by rw [List.take_add_one, hr', List.map_append, List.map_append, hv]; rfl)⟩
      refine ⟨_, rfl, _, rfl, rfl, _, rfl, ite2 (fun h => ?_) (fun h => ?_)⟩
      · have h0 : (r : Int) = p := int_eq0 h
        exact fin _ (by rw [if_pos (by omega)])
      · have h0 : ¬ (r : Int) = p := int_ne0 h
        exact fin _ (by rw [if_neg (by omega)])
    · rintro σ' H4 ys hD4 hyl ⟨_, s4, rfl⟩
      rw [show primes.take primesV.length = primes from rfl, unit_map hp] at hD4
      exact ⟨D, _, rfl, SqL.of hD4, fun p' H5 f5 s5 hp' => q p' H5 (s4.free f5) (s4.trans s5) hp'⟩
def sp_common_divisor : Sp := fun vs H Q _ => ∃ a b : Nat, vs = [.int (a : Int), .int (b : Int)] /\ Q (.int ((Nat.gcd a b : Nat) : Int)) H
theorem ok_common_divisor (T : Tx K mg) : FnOk P w K mg base CX0 1 T.f_common_divisor T.fd_common_divisor ["one", "other"] sp_common_divisor := by
  refine T.D_common_divisor.fn.okQ sc_common_divisor (fun vs H Q E h => ?_) (fun cdv A outer s H vs Q E hr h => ?_)
  · obtain ⟨a, b, rfl, _⟩ := h
    rfl
  · obtain ⟨a, b, rfl, q⟩ := h
    refine ⟨_, (qss_cons (qs_while PassesOwn.never (qt_cmpR op_ne (qv 1) qe_int (nomark _))
        (qss_cons (qs_set (i := 2) sc_common_divisor.nd rfl (Or.inl rfl) (qe_op op_mod (qv 0) (qv 1)))
      (qss_cons (qs_set (i := 0) sc_common_divisor.nd rfl (Or.inl rfl) (qv 1))
      (qss_one (qs_set (i := 1) sc_common_divisor.nd rfl (Or.inl rfl) (qv 2))))))
      (qss_one (qs_ret (qv 0)))), ?_⟩
    refine while_own (fun σ H1 => ∃ (x y : Nat) (u : Option V), σ = [some (.int (x : Int)), some (.int (y : Int)), u] /\ Nat.gcd x y = Nat.gcd a b /\ H1 = H) (fun σ _ => natAt σ 1) ⟨a, b, _, rfl, rfl, rfl⟩ ?_
    rintro σ H1 ⟨x, y, u, rfl, hg, rfl⟩
    refine ⟨_, rfl, rfl, _, rfl, ?_⟩
    rcases Nat.eq_zero_or_pos y with z | z
    · subst z
      refine iteF ⟨_, rfl, ?_⟩
      rw [Nat.gcd_zero_right] at hg
      rw [hg]
      exact q
    · rw [decide_eq_false (show ¬ V.int (y : Int) = V.int 0 from fun w => by injection w with w; omega)]
      refine iteT (whN ⟨_, rfl, _, rfl, _, _, rfl, rfl, (by show (0 : Int) < y; omega), _, rfl, _, rfl, ⟨⟨y, x % y, some (.int ((x : Int) % (y : Int))), ?_, ?_, rfl⟩, ?_⟩⟩)
      · rw [Int.natCast_emod]
        rfl
      · rw [← hg, Nat.gcd_comm x y, Nat.gcd_rec y x, Nat.gcd_comm]
      · show ((x : Int) % (y : Int)).toNat < (y : Int).toNat
        rw [← Int.natCast_emod, Int.toNat_natCast, Int.toNat_natCast]
        exact Nat.mod_lt x z
def sp_lowest : Sp := fun vs H Q _ => ∃ (l : Addr) (ns : List Int) (m : Nat), vs = [.ref l] /\ H l = some (.lst (ns.map V.int)) /\ ns.length <= 1000 /\ BdI m ns /\ m <= 8000 /\ (∃ n ∈ ns, n ≠ 0) /\ ∀ q' H', H q' = none -> Same H H' -> H' q' = some (tupI (lowI ns)) -> Q (.ref q') H'
theorem gcd_snoc (ns : List Int) (i : Nat) {n : Int} (h : ns[i]? = some n) : gcdL (ns.take (i + 1)) = Nat.gcd (gcdL (ns.take i)) n.natAbs := by
  unfold gcdL
  rw [List.take_add_one, h, List.foldl_append]
  rfl
theorem abs_is (n : Int) : (if n < 0 then -n else n) = ((n.natAbs : Nat) : Int) := by split <;> omega
theorem gcdL_le {ns : List Int} {m : Nat} (hb : BdI m ns) (h : ∃ n ∈ ns, n ≠ 0) : gcdL ns <= 2 ^ m := by
  obtain ⟨n, hn, h0⟩ := h
  have h1 := Int.natCast_dvd_natCast.mp (Int.dvd_natAbs.mpr (gcdL_dvd hn))
  exact Nat.le_trans (Nat.le_of_dvd (by omega) h1) (hb n hn)
theorem ok_lowest (T : Tx K mg) : FnOk P w K mg base CX0 2 T.f_lowest T.fd_lowest ["numbers"] sp_lowest := by
  refine T.D_lowest.fn.okQ sc_lowest (fun vs H Q E h => ?_) (fun cdv A outer s H vs Q E hr h => ?_)
  · obtain ⟨l, ns, m, rfl, _⟩ := h
    rfl
  · obtain ⟨l, ns, m, rfl, hl, hlen, hb, hm, hnz, q⟩ := h
    refine ⟨_, (qss_cons (qs_set (i := 1) sc_lowest.nd rfl (Or.inr rfl) qe_int)
      (qss_cons (qs_for PassesOwn.never rfl (qi_list (qv 0)) (qg_name (i := 2) sc_lowest.nd rfl (Or.inl rfl))
        (qss_one (qs_set (i := 1) sc_lowest.nd rfl (Or.inr rfl) (qe_call (ok_common_divisor T) (hr.mono (by decide)) rfl T.D_common_divisor.at_ T.D_common_divisor.fn.kp T.D_common_divisor.bd .nil pass0 (qa_c (qv 1) (qa_c (qe_callB call_abs (by rfl) T.m_abs b_abs (qa_c (qv 2) qa_nil)) qa_nil))))))
      (qss_cons (qs_if (qt_cmpR op_lt (qe_ix ix_list (qe_comp (compOk_of (osc := defScope s_lowest) (XN := ["numbers", "shared", "number"]) (N := ["number"]) (js := [none]) rfl rfl rfl (List.forall_mem_nil _) (by decide +kernel) rfl) rfl (qi_list (qv 0)) (fun _ _ _ _ => (qg_name (i := 0) (show List.Nodup (["number"] : List Str) from by decide +kernel) rfl (Or.inl rfl) (Or.inr rfl))) (fun _ _ _ _ => (qts_one (qt_cmpR op_ne (qv 0) qe_int (nomark _))))
          (fun _ _ _ _ => (qv 0))) qe_int (fun _ _ => rfl)) qe_int (nomark _))
        (qss_one (qs_set (i := 1) sc_lowest.nd rfl (Or.inr rfl) (qe_un un_neg (qv 1))))
        qss_nil)
      (qss_one (qs_ret (qe_callTy call_tuple_ofA (by rfl) T.m_tuple b_tuple (qa_c (qe_comp (compOk_of (osc := defScope s_lowest) (XN := ["numbers", "shared", "number"]) (N := ["number", "shared"]) (js := [none, some 1]) rfl rfl rfl (List.forall_mem_cons.mpr ⟨rfl, (List.forall_mem_nil _)⟩) (by decide +kernel) rfl) rfl (qi_list (qv 0)) (fun _ _ _ _ => (qg_name (i := 0) (show List.Nodup (["number", "shared"] : List Str) from by decide +kernel) rfl (Or.inl rfl) (Or.inr rfl))) (fun _ _ _ _ => qts_nil)
          (fun _ _ _ _ => (qe_op op_fdivL (qv 0) (qv 1)))) qa_nil))))))), ?_⟩
    refine ⟨_, rfl, l, rfl, ⟨_, SqL.of hl⟩, for_list (K := K) (a := l) (xs := ns.map V.int) (fun i σ H1 => (∃ u : Option V, σ = [some (.ref l), some (.int ((gcdL (ns.take i) : Nat) : Int)), u]) /\ H1 = H) ⟨⟨none, rfl⟩, rfl⟩ (fun i σ H1 _ ⟨_, e⟩ => by rw [e]; exact SqL.of hl) ?_ ?_⟩
    · rintro i x σ H1 hx ⟨⟨u, rfl⟩, rfl⟩
      obtain ⟨n, rfl, hn⟩ := map_int_get hx
      refine ⟨_, rfl, _, rfl, _, rfl, gcdL (ns.take i), n.natAbs, by rw [abs_is]; rfl, ⟨some (.int n), ?_⟩, rfl⟩
      rw [gcd_snoc ns i hn]
      rfl
    · rintro σ H1 ⟨⟨u, rfl⟩, rfl⟩
      rw [List.length_map, List.take_length]
      refine ⟨_, rfl, l, rfl, ⟨_, SqL.of hl⟩, fun D hD => ?_⟩
      refine comp_list_if (K := K) (t := fun v => !decide (v = V.int 0)) (xs := ns.map V.int) (σ0 := []) (by rw [sizeLine_eq, List.length_map]; omega) ⟨_, rfl⟩ hD hl (fun x H' R _ hx r => ?_) (fun x H' R _ _ _ r => ⟨_, rfl, r⟩) fun H2 s2 hD2 => ?_
      · obtain ⟨n, _, rfl⟩ := List.mem_map.mp hx
        exact ⟨_, rfl, rfl, _, rfl, r⟩
      have hfl : (ns.map V.int).filter (fun v => !decide (v = V.int 0)) = (ns.filter fun n => decide (n ≠ 0)).map V.int := by
        rw [List.filter_map]
        congr 1
        apply List.filter_congr
        intro n _
        show (!decide (V.int n = V.int 0)) = decide (n ≠ 0)
        by_cases z : n = 0
        · rw [z]; rfl
        · rw [decide_eq_true z, decide_eq_false (fun w => z (by injection w))]; rfl
      rw [hfl] at hD2
      obtain ⟨n0, hn0, hz0⟩ := hnz
      obtain ⟨f, rest, hfr⟩ : ∃ f rest, ns.filter (fun n => decide (n ≠ 0)) = f :: rest := by
        cases hq : ns.filter (fun n => decide (n ≠ 0)) with
        | nil =>
          have : n0 ∈ ns.filter (fun n => decide (n ≠ 0)) := List.mem_filter.mpr ⟨hn0, decide_eq_true hz0⟩
          rw [hq] at this
          cases this
        | cons f rest => exact ⟨f, rest, rfl⟩
      have hsg : sgnL ns = if f < 0 then -1 else 1 := by unfold sgnL; rw [hfr]
      rw [hfr] at hD2
      have hgl := gcdL_le hb ⟨n0, hn0, hz0⟩
      have hgp := gcdL_pos hn0 hz0
      have done : ∀ (sh : Int), sh = sgnL ns * (gcdL ns : Int) -> sh ≠ 0 /\ sh.natAbs <= 2 ^ m /\ ∀ n ∈ ns, n.fdiv sh = n / (sgnL ns * (gcdL ns : Int)) := by
        intro sh e
        refine ⟨by rw [e]; exact low_fac ⟨n0, hn0, hz0⟩, ?_, ?_⟩
        · rw [e, Int.natAbs_mul, Int.natAbs_natCast]
          rcases sgnL_is ns with z | z <;> rw [z] <;> simpa using hgl
        · intro n hn
          rw [← e]
          refine Int.fdiv_eq_ediv_of_dvd ?_
          rw [e]
          have hm := gcdL_dvd hn
          rcases sgnL_is ns with z | z
          · rw [z, Int.one_mul]; exact hm
          · rw [z, Int.neg_mul, Int.one_mul]; exact Int.neg_dvd.mpr hm
      have last : ∀ (sh : Int) (H3 : Hp), sh = sgnL ns * (gcdL ns : Int) -> Same H1 H3 -> ∀ (js : List (Option Nat)) (te : TE) (σ : St) (R : VK) (D3 : Addr), H3 D3 = none -> (∃ u, pick js σ = u :: [some (.int sh)]) -> (∀ (n : Int) (H' : Hp) (R' : VK), R' (.int (n.fdiv sh)) H' -> te (some (.int n) :: [some (.int sh)]) H' R') -> (∀ H4, Same H3 H4 -> H4 D3 = some (.lst ((lowI ns).map V.int)) -> R (.ref D3) H4) -> CompW (Itl K l) D3 js (gName 0) tNoTest te σ H3 R := by
        intro sh H3 e s3 js te σ R D3 hD3 ⟨u, hu⟩ hte hR
        obtain ⟨e1, e2, e3⟩ := done sh e
        refine comp_map_list (K := K) (f := fun v => match v with | .int n => .int (n.fdiv sh) | w => w) (xs := ns.map V.int) hu (by rw [sizeLine_eq, List.length_map]; omega) hD3 (SqL.of (s3 _ _ hl)) (fun x H' R' hx r => ?_) (hR _ (Same.new hD3) ?_)
        · obtain ⟨n, _, rfl⟩ := List.mem_map.mp hx
          exact hte n H' R' r
        · rw [upd_same]
          congr 2
          unfold lowI
          rw [List.map_map, List.map_map]
          refine List.map_congr_left fun n hn => ?_
          show V.int (n.fdiv sh) = V.int (n / (sgnL ns * (gcdL ns : Int)))
          rw [e3 n hn]
      refine ⟨_, _, 0, .int f, rfl, rfl, SqL.of hD2, atI_of (by decide) rfl, _, _, rfl, rfl, _, rfl, ite2 (fun h => ?_) (fun h => ?_)⟩
      · have h0 : f < 0 := of_decide_eq_true h
        rw [if_pos h0] at hsg
        have e : -((gcdL ns : Nat) : Int) = sgnL ns * (gcdL ns : Int) := by rw [hsg, Int.neg_mul, Int.one_mul]
        refine ⟨_, rfl, _, rfl, ?_⟩
        refine ⟨_, rfl, l, rfl, ⟨_, SqL.of (s2 _ _ hl)⟩, fun D3 hD3 => last _ H2 e s2 _ _ _ _ D3 hD3 ⟨_, rfl⟩ (fun n H' R' r => ⟨_, rfl, _, rfl, _, _, rfl, rfl, ⟨(done _ e).1, m, (done _ e).2.1, hm⟩, r⟩) fun H4 s4 h4 => ⟨D3, _, rfl, SqL.of h4, fun p H5 f5 s5 hp => q p H5 (s2.free (s4.free f5)) (s2.trans (s4.trans s5)) hp⟩⟩
      · have h0 : ¬ f < 0 := fun z => h (decide_eq_true z)
        rw [if_neg h0] at hsg
        have e : ((gcdL ns : Nat) : Int) = sgnL ns * (gcdL ns : Int) := by rw [hsg, Int.one_mul]
        refine ⟨_, rfl, l, rfl, ⟨_, SqL.of (s2 _ _ hl)⟩, fun D3 hD3 => last _ H2 e s2 _ _ _ _ D3 hD3 ⟨_, rfl⟩ (fun n H' R' r => ⟨_, rfl, _, rfl, _, _, rfl, rfl, ⟨(done _ e).1, m, (done _ e).2.1, hm⟩, r⟩) fun H4 s4 h4 => ⟨D3, _, rfl, SqL.of h4, fun p H5 f5 s5 hp => q p H5 (s2.free (s4.free f5)) (s2.trans (s4.trans s5)) hp⟩⟩
def sp_evened : Sp := fun vs H Q _ => ∃ (a o : Addr) (r ro : List Int) (t u : Int) (b d : Nat), vs = [.ref a, .int t, .ref o, .int u] /\ H a = some (tupI r) /\ H o = some (tupI ro) /\ r.length <= 1000 /\ BdI b r /\ BdI b ro /\ t.natAbs <= 2 ^ d /\ u.natAbs <= 2 ^ d /\ b <= 3000 /\ d <= 4000 /\ (∃ n ∈ lay2 u t r ro, n ≠ 0) /\
  ∀ q' H', H q' = none -> Same H H' -> H' q' = some (tupI (lowI (lay2 u t r ro))) -> Q (.ref q') H'
theorem ok_evened (T : Tx K mg) : FnOk P w K mg base CX0 3 T.f_evened T.fd_evened ["row", "total", "other", "other_total"] sp_evened := by
  refine T.D_evened.fn.okQ sc_evened (fun vs H Q E h => ?_) (fun cdv A outer s H vs Q E hr h => ?_)
  · obtain ⟨a, o, r, ro, t, u, b, d, rfl, _⟩ := h
    rfl
  · obtain ⟨a, o, r, ro, t, u, b, d, rfl, ha, ho, hl, hbr, hbo, ht, hu, hb, hd, hnz, q⟩ := h
    refine ⟨_, (qss_one (qs_ret (qe_call (ok_lowest T) (hr.mono (by decide)) rfl T.D_lowest.at_ T.D_lowest.fn.kp T.D_lowest.bd .nil pass0 (qa_c (qe_comp (compOk_of (osc := defScope s_evened) (XN := ["row", "total", "other", "other_total"]) (N := ["number", "taken", "other_total", "total"]) (js := [none, none, some 3, some 1]) rfl rfl rfl (List.forall_mem_cons.mpr ⟨rfl, (List.forall_mem_cons.mpr ⟨rfl, (List.forall_mem_nil _)⟩)⟩) (by decide +kernel) rfl) rfl (qi_zip rfl rfl T.m_zip (qa_c (qv 0) (qa_c (qv 2) qa_nil))) (fun _ _ _ _ => (qg_tupN (K := K) (n := 2) rfl rfl (qgs_cons (qg_name (i := 0) (show List.Nodup (["number", "taken", "other_total", "total"] : List Str) from by decide +kernel) rfl (Or.inl rfl) (Or.inr rfl)) (qgs_cons (qg_name (i := 1) (show List.Nodup (["number", "taken", "other_total", "total"] : List Str) from by decide +kernel) rfl (Or.inl rfl) (Or.inr rfl)) qgs_nil)))) (fun _ _ _ _ => qts_nil)
          (fun _ _ _ _ => (qe_op op_sub (qe_op op_mulX (qv 2) (qv 0)) (qe_op op_mulX (qv 3) (qv 1))))) qa_nil)))), ?_⟩
    refine ⟨_, rfl, _, rfl, a, o, rfl, ⟨_, SqT.of ha⟩, ⟨_, SqT.of ho⟩, fun D hD => ?_⟩
    refine comp_zip_ints (f := fun x y => u * x - t * y) (σ0 := [some (.int u), some (.int t)]) (xs := r) (ys := ro) (by rw [sizeLine_eq]; omega) ⟨_, _, rfl⟩ hD ha ho (fun x y H' R hx hy r => ⟨_, rfl, _, rfl, _, _, rfl, rfl, ⟨d, b, hu, hbr x hx, by omega, by omega⟩, _, rfl, _, rfl, _, _, rfl, rfl, ⟨d, b, ht, hbo y hy, by omega, by omega⟩, _, _, rfl, rfl, r⟩) fun H3 s3 h3 => ?_
    refine ⟨D, lay2 u t r ro, b + d + 1, rfl, h3, ?_, lay2_bd hu ht hbr hbo, by omega, hnz, fun q' H4 f4 s4 hq => q q' H4 (s3.free f4) (s3.trans s4) hq⟩
    unfold lay2
    rw [List.length_zipWith]
    omega
end
end W2
namespace W2
open PySem L2 Mth
section
variable {P : Program} {w : World} {K : PySem.W.Frag} {mg : Str -> Option Value} {base : Heap}
def RwD (D : Addr) (H : Hp) (ys : List V) (rows : List (List Int)) : Prop := ys.length = rows.length /\ ∀ (i : Nat) (x : V), ys[i]? = some x -> ∃ c a, rows[i]? = some c /\ x = .ref a /\ a ≠ D /\ H a = some (tupI c)
theorem RwD.nil {D : Addr} {H : Hp} : RwD D H [] [] := ⟨rfl, fun i x hx => by cases hx⟩
theorem RwD.but {D : Addr} {H H' : Hp} {ys : List V} {rows : List (List Int)} (h : RwD D H ys rows) (b : ∀ c o, c ≠ D -> H c = some o -> H' c = some o) : RwD D H' ys rows := ⟨h.1, fun i x hx => by
  obtain ⟨c, a, h1, h2, h3, h4⟩ := h.2 i x hx
  exact ⟨c, a, h1, h2, h3, b _ _ h3 h4⟩⟩
theorem RwD.rows {D : Addr} {H : Hp} {ys : List V} {rows : List (List Int)} (h : RwD D H ys rows) : RowsV H ys rows := ⟨h.1, fun i x hx => by
  obtain ⟨c, a, h1, h2, h3, h4⟩ := h.2 i x hx
  exact ⟨c, h1, a, h2, h4⟩⟩
theorem RwD.snoc {D : Addr} {H : Hp} {ys : List V} {rows : List (List Int)} (h : RwD D H ys rows) {a : Addr} {c : List Int} (na : a ≠ D) (ha : H a = some (tupI c)) : RwD D H (ys ++ [.ref a]) (rows ++ [c]) := ⟨by rw [List.length_append, List.length_append, h.1]; rfl, fun i x hx => by
  rcases Nat.lt_or_ge i ys.length with z | z
  · rw [List.getElem?_append_left z] at hx
    obtain ⟨c', a', h1, h2⟩ := h.2 i x hx
    exact ⟨c', a', by rw [List.getElem?_append_left (by rw [← h.1]; exact z)]; exact h1, h2⟩
  · rw [List.getElem?_append_right z] at hx
    have z0 : i - ys.length = 0 := by
      rcases Nat.eq_zero_or_pos (i - ys.length) with z | z
      · exact z
      · rw [List.getElem?_eq_none (show [V.ref a].length <= _ from z)] at hx
        cases hx
    rw [z0] at hx
    cases hx
    exact ⟨c, a, by rw [List.getElem?_append_right (by rw [← h.1]; exact z), ← h.1, z0]; rfl, rfl, na, ha⟩⟩
theorem getD_some {rows : List (List Int)} {i : Nat} {r : List Int} (h : rows[i]? = some r) : rows.getD i [] = r := by rw [List.getD_eq_getElem?_getD, h]; rfl
def sp_kept_of : Sp := fun vs H Q _ => ∃ (l ca : Addr) (ys : List V) (rows cs : List (List Int)) (c : List Int) (b : Nat), vs = [.ref l, .ref ca] /\ H l = some (.lst ys) /\ RowsV H ys rows /\ H ca = some (tupI c) /\ BdI 6 c /\ BaseR b cs rows /\ b <= 6000 /\ (b <= 3000 ∨ rows.length <= 1) /\ rows.length <= 10 /\
  ∀ l' H' ys', Same H H' -> H' l' = some (.lst ys') -> RowsV H' ys' (keptF c rows) -> Q (.ref l') H'
theorem ok_kept_of (T : Tx K mg) : FnOk P w K mg base CX0 4 T.f_kept_of T.fd_kept_of ["rows", "changes"] sp_kept_of := by
  refine T.D_kept_of.fn.okQ sc_kept_of (fun vs H Q E h => ?_) (fun cdv A outer s H vs Q E hr h => ?_)
  · obtain ⟨l, ca, ys, rows, cs, c, b, rfl, _⟩ := h
    rfl
  · obtain ⟨l, ca, ys, rows, cs, c, b, rfl, hl, hR, hca, hc6, hB, hb, hb3, hr10, q⟩ := h
    refine ⟨_, (qss_cons (qs_set (i := 2) sc_kept_of.nd rfl (Or.inr rfl) (qe_comp (compOk_of (osc := defScope s_kept_of) (XN := ["rows", "changes", "sums", "unkept", "last"]) (N := ["row", "changes"]) (js := [none, some 1]) rfl rfl rfl (List.forall_mem_cons.mpr ⟨rfl, (List.forall_mem_nil _)⟩) (by decide +kernel) rfl) rfl (qi_list (qv 0)) (fun _ _ _ _ => (qg_name (i := 0) (show List.Nodup (["row", "changes"] : List Str) from by decide +kernel) rfl (Or.inl rfl) (Or.inr rfl))) (fun _ _ _ _ => qts_nil)
          (fun _ _ _ _ => (qe_call (ok_sum_by T) (hr.mono (by decide)) rfl T.D_sum_by.at_ T.D_sum_by.fn.kp T.D_sum_by.bd .nil pass0 (qa_c (qv 0) (qa_c (qv 1) qa_nil))))))
      (qss_cons (qs_setC (i := 3) sc_kept_of.nd rfl (Or.inl rfl) (compOk_of (osc := defScope s_kept_of) (XN := ["rows", "changes", "sums", "unkept", "last"]) (N := ["place", "total"]) (js := [none, none]) rfl rfl rfl (List.forall_mem_nil _) (by decide +kernel) rfl) rfl (qi_enum rfl rfl T.m_enumerate (qa_c (qv 2) qa_nil)) (fun _ _ _ _ => (qg_tupN (K := K) (n := 2) rfl rfl (qgs_cons (qg_name (i := 0) (show List.Nodup (["place", "total"] : List Str) from by decide +kernel) rfl (Or.inl rfl) (Or.inr rfl)) (qgs_cons (qg_name (i := 1) (show List.Nodup (["place", "total"] : List Str) from by decide +kernel) rfl (Or.inl rfl) (Or.inr rfl)) qgs_nil)))) (fun _ _ _ _ => (qts_one (qt_cmpR op_ne (qv 1) qe_int (nomark _))))
          (fun _ _ _ _ => (qv 0)))
      (qss_cons (qs_if (qt_cmpR op_eq (qe_callB call_len_seq (by rfl) T.m_len b_len (qa_c (qv 3) qa_nil)) qe_int (nomark _))
        (qss_one (qs_ret (qv 0)))
        qss_nil)
      (qss_cons (qs_set (i := 4) sc_kept_of.nd rfl (Or.inr rfl) (qe_ix ix_list (qv 3) (qe_un un_neg qe_int) (fun _ _ => rfl)))
      (qss_one (qs_ret (qe_comp (compOk_of (osc := defScope s_kept_of) (XN := ["rows", "changes", "sums", "unkept", "last"]) (N := ["row", "total", "rows", "last", "sums"]) (js := [none, none, some 0, some 4, some 2]) rfl rfl rfl (List.forall_mem_cons.mpr ⟨rfl, (List.forall_mem_cons.mpr ⟨rfl, (List.forall_mem_cons.mpr ⟨rfl, (List.forall_mem_nil _)⟩)⟩)⟩) (by decide +kernel) rfl) rfl (qi_zipL rfl rfl T.m_zip (qa_c (qv 0) (qa_c (qv 2) qa_nil))) (fun _ _ _ _ => (qg_tupN (K := K) (n := 2) rfl rfl (qgs_cons (qg_name (i := 0) (show List.Nodup (["row", "total", "rows", "last", "sums"] : List Str) from by decide +kernel) rfl (Or.inl rfl) (Or.inr rfl)) (qgs_cons (qg_name (i := 1) (show List.Nodup (["row", "total", "rows", "last", "sums"] : List Str) from by decide +kernel) rfl (Or.inl rfl) (Or.inr rfl)) qgs_nil)))) (fun _ _ _ _ => (qts_one (qt_cmpR (op_neT (hu_of hr)) (qv 0) (qe_ix (ix_listN (K := K) rfl) (qv 2) (qv 3) (fun _ _ => rfl)) (nomark _))))
          (fun _ _ _ _ => (qe_call (ok_evened T) (hr.mono (by decide)) rfl T.D_evened.at_ T.D_evened.fn.kp T.D_evened.bd .nil pass0 (qa_c (qv 0) (qa_c (qv 1) (qa_c (qe_ix (ix_listN (K := K) rfl) (qv 2) (qv 3) (fun _ _ => rfl)) (qa_c (qe_ix (ix_listN (K := K) rfl) (qv 4) (qv 3) (fun _ _ => rfl)) qa_nil))))))))))))), ?_⟩
    have yl := hR.1
    refine ⟨_, rfl, l, rfl, ⟨_, SqL.of hl⟩, fun D hD => ?_⟩
    refine comp_list (K := K) (a := l) (xs := ys) (by rw [sizeLine_eq]; omega) (fun i σ' H' zs => (∃ u : Option V, σ' = [u, some (.ref ca)]) /\ Same H H' /\ zs = ((rows.take i).map fun r => dotI r c).map V.int) ⟨⟨_, rfl⟩, Same.new hD, rfl⟩ (fun i σ' H' ys _ _ ⟨_, s', _⟩ => SqL.of (s' _ _ hl)) ?_ ?_
    · rintro i x σ' H' zs R hx hD' hyl ⟨⟨u, rfl⟩, s', rfl⟩ kk
      obtain ⟨r, hr', ra, rfl, hra⟩ := hR.2 i x hx
      have hmem := List.mem_of_getElem? hr'
      refine ⟨_, rfl, _, rfl, ra, ca, r, c, b, 6, rfl, s' _ _ hra, s' _ _ hca, by rw [hB.l10 r hmem]; decide, hB.bd r hmem, hc6, by omega, by decide, fun H3 s3 => kk _ _ _ (s3 _ _ hD') ⟨⟨_, rfl⟩, ?_, ?_⟩⟩
      · intro e o eo
        rw [upd_ne (ne_of_none eo hD)]
        exact s3 _ _ (s' _ _ eo)
      · rw [List.take_add_one, hr', List.map_append, List.map_append]
        rfl
    rintro σ' H1 zs hD1 hzl ⟨_, s1, rfl⟩
    rw [List.take_of_length_le (by omega)] at hD1
    generalize hsm : (rows.map fun r => dotI r c) = sm at hD1
    have sml' : sm.length = rows.length := by rw [← hsm, List.length_map]
    have sat : ∀ i r, rows[i]? = some r -> sm[i]? = some (dotI r c) := fun i r h => by rw [← hsm, List.getElem?_map, h]; rfl
    refine ⟨_, rfl, D, _, rfl, hD1, fun D2 hD2 => ?_⟩
    refine comp_enum_if (K := K) (xs := sm.map V.int) (σ0 := []) (t := fun i => decide (dotI (rows.getD i []) c ≠ 0)) (f := fun i : Nat => V.int (i : Int)) (by rw [sizeLine_eq, List.length_map]; omega) ⟨_, _, rfl⟩ hD2 hD1 (fun i x H' R _ hx r => ?_) (fun i x H' R _ _ _ r => ⟨_, rfl, r⟩) fun H2 s2 hD2' => ?_
    · obtain ⟨n, rfl, hn⟩ := map_int_get hx
      have hil : i < rows.length := by rw [← sml']; exact (List.getElem?_eq_some_iff.mp hn).1
      have hri : rows[i]? = some rows[i] := List.getElem?_eq_getElem hil
      rw [sat i _ hri] at hn
      cases hn
      refine ⟨_, rfl, rfl, _, rfl, ?_⟩
      have e : (!decide (V.int (dotI rows[i] c) = V.int 0)) = decide (dotI (rows.getD i []) c ≠ 0) := by
        rw [getD_some hri]
        by_cases z : dotI rows[i] c = 0
        · rw [z]; rfl
        · rw [decide_eq_true z, decide_eq_false (fun w => z (by injection w))]; rfl
      rw [e]
      exact r
    rw [List.length_map, sml'] at hD2'
    have hD3 : H2 D2 = some (.lst ((unkP c rows).map fun i : Nat => V.int (i : Int))) := hD2'
    have s02 := s1.trans s2
    refine ⟨_, rfl, D2, _, rfl, .inl (SqL.of hD3), rfl, _, rfl, ?_⟩
    rw [List.length_map]
    cases hL : (unkP c rows).getLast? with
    | none =>
      have he : unkP c rows = [] := List.getLast?_eq_none_iff.mp hL
      have e2 : keptF c rows = rows := by unfold keptF; rw [hL]
      rw [e2] at q
      rw [he]
      exact iteT ⟨_, rfl, q l H2 ys s02 (s02 _ _ hl) (hR.same s02)⟩
    | some L =>
      obtain ⟨us, hus⟩ := List.getLast?_eq_some_iff.mp hL
      obtain ⟨L1, L2, L3⟩ := unk_last hL
      have hah := kept_ahead hB hL
      have e2 : keptF c rows = (rows.filter fun r => decide (r ≠ rows.getD L [])).map (evI c (rows.getD L [])) := by unfold keptF; rw [hL]
      rw [e2] at q
      have hul : (unkP c rows).length = us.length + 1 := by rw [hus, List.length_append]; rfl
      rw [decide_eq_false (show ¬ V.int (((unkP c rows).length : Nat) : Int) = V.int 0 from fun z => by injection z with z; omega)]
      obtain ⟨ro, hro⟩ : ∃ ro, rows[L]? = some ro := ⟨_, List.getElem?_eq_getElem L1⟩
      have ero : rows.getD L [] = ro := getD_some hro
      rw [ero] at q L2 hah
      obtain ⟨xo, hxo⟩ : ∃ x, ys[L]? = some x := ⟨_, List.getElem?_eq_getElem (by omega)⟩
      obtain ⟨ro', hro', ao, rfl, hao⟩ := hR.2 L xo hxo
      rw [hro] at hro'
      cases hro'
      have hatl : atI ((unkP c rows).map fun i : Nat => V.int (i : Int)) (-1) = some (.int (L : Int)) := atI_end (n := us.length) (by rw [List.length_map, hul]) (by rw [hus, List.map_append, List.getElem?_append_right (by rw [List.length_map]; exact Nat.le_refl _), List.length_map, Nat.sub_self]; rfl)
      refine iteF ⟨_, rfl, _, rfl, D2, _, _, _, rfl, rfl, SqL.of hD3, hatl, ?_⟩
      refine ⟨_, rfl, _, rfl, l, D, _, _, rfl, s02 _ _ hl, s2 _ _ hD1, fun D4 hD4 => ?_⟩
      refine comp_zipL_if (K := K) (xs := ys) (ys := sm.map V.int) (σ0 := [some (.ref l), some (.int (L : Int)), some (.ref D)]) (by rw [List.length_map]; omega) (by rw [sizeLine_eq]; omega) ⟨_, _, rfl⟩ hD4 (s02 _ _ hl) (s2 _ _ hD1) (fun i => decide (rows.getD i [] ≠ ro)) (fun i H' zs => RwD D4 H' zs (((rows.take i).filter fun r => decide (r ≠ ro)).map (evI c ro))) RwD.nil (fun i H' H2 zs h b => h.but b) (fun i x y H' R s' hx hy r => ?_) (fun i x y H' zs s' hx hy ht h => ?_) (fun i x y H' zs R s' hx hy ht hD' h k => ?_) ?_
      · obtain ⟨ri, hri, ra, rfl, hra⟩ := hR.2 i x hx
        have s05 := s02.trans s'
        refine ⟨_, rfl, _, rfl, _, rfl, l, _, _, _, rfl, rfl, SqL.of (s05 _ _ hl), atI_nat hxo, ra, ao, ri, ro, rfl, rfl, s05 _ _ hra, s05 _ _ hao, _, rfl, ?_⟩
        rw [getD_some hri] at r
        have e : (!decide (ri = ro)) = decide (ri ≠ ro) := by
          by_cases z : ri = ro
          · rw [decide_eq_true z, decide_eq_false (fun w => w z)]; rfl
          · rw [decide_eq_false z, decide_eq_true z]; rfl
        rw [e]
        exact r
      · obtain ⟨ri, hri, ra, rfl, hra⟩ := hR.2 i x hx
        rw [getD_some hri] at ht
        rw [List.take_add_one, hri, List.filter_append]
        have : [ri].filter (fun r => decide (r ≠ ro)) = [] := by simp only [List.filter_cons, ht, List.filter_nil]; rfl
        show RwD D4 H' zs ((_ ++ [ri].filter _).map _)
        rw [this, List.append_nil]
        exact h
      · obtain ⟨ri, hri, ra, rfl, hra⟩ := hR.2 i x hx
        obtain ⟨n, rfl, hn⟩ := map_int_get hy
        rw [sat i _ hri] at hn
        cases hn
        rw [getD_some hri] at ht
        have hmi := List.mem_of_getElem? hri
        have hmo := List.mem_of_getElem? hro
        have s05 := s02.trans s'
        have s25 := s2.trans s'
        have hb' : b <= 3000 := by
          rcases hb3 with z | z
          · exact z
          · exfalso
            have i1 := (List.getElem?_eq_some_iff.mp hri).1
            have i0 : i = 0 := by omega
            have l0 : L = 0 := by omega
            rw [i0] at hri
            rw [l0, hri] at hro
            exact (of_decide_eq_true ht) (Option.some.inj hro)
        obtain ⟨ld, hld⟩ := hB.nz ri hmi
        have hnz := (lead_ev (by rw [hB.l10 ri hmi, hB.l10 ro hmo]) L2 (hah ri hmi (of_decide_eq_true ht)) hld).mem
        refine ⟨_, rfl, _, rfl, _, rfl, _, rfl, l, _, _, _, rfl, rfl, SqL.of (s05 _ _ hl), atI_nat hxo, _, rfl, _, rfl, D, _, _, _, rfl, rfl, SqL.of (s25 _ _ hD1), atI_nat (by rw [List.getElem?_map, sat L _ hro]; rfl), ra, ao, ri, ro, dotI ri c, dotI ro c, b, b + 10, rfl, s05 _ _ hra, s05 _ _ hao, by rw [hB.l10 ri hmi]; decide, hB.bd ri hmi, hB.bd ro hmo, dot_bd hB hc6 hmi, dot_bd hB hc6 hmo, by omega, by omega, hnz, fun p5 H5 f5 s5 hp5 => k _ H5 s5 ?_⟩
        rw [List.take_add_one, hri, List.filter_append]
        have : [ri].filter (fun r => decide (r ≠ ro)) = [ri] := by simp only [List.filter_cons, ht, List.filter_nil]; rfl
        show RwD D4 H5 _ ((_ ++ [ri].filter _).map _)
        rw [this, List.map_append]
        exact (h.but fun c o _ e => s5 _ _ e).snoc (ne_of_none hD' f5).symm hp5
      · intro H5 zs s5 hD5 h5
        rw [List.take_of_length_le (by omega)] at h5
        exact q D4 H5 zs (s02.trans s5) hD5 h5.rows
def sp_base : Sp := fun vs H Q _ => ∃ (b : Addr) (xs : List V) (fs : List (Int × Int)), vs = [.ref b] /\ H b = some (.tup xs) /\ FrcsV H xs fs /\ xs.length <= 1000 /\
  ∀ l H' ys, Same H H' -> H' l = some (.lst ys) -> RowsV H' ys (baseF (rowsOf fs)) -> Q (.ref l) H'
theorem ok_base (T : Tx K mg) : FnOk P w K mg base CX0 5 T.f_base T.fd_base ["program"] sp_base := by
  refine T.D_base.fn.okQ sc_base (fun vs H Q E h => ?_) (fun cdv A outer s H vs Q E hr h => ?_)
  · obtain ⟨b, xs, fs, rfl, _⟩ := h
    rfl
  · obtain ⟨b, xs, fs, rfl, hb, hf, x7, q⟩ := h
    refine ⟨_, (qss_cons (qs_setC (i := 1) sc_base.nd rfl (Or.inl rfl) (compOk_of (osc := defScope s_base) (XN := ["program", "rows", "changes"]) (N := ["prime"]) (js := [none]) rfl rfl rfl (List.forall_mem_nil _) (by decide +kernel) rfl) rfl (qi_tup (qe_glob (v := .ref T.a_PRIMES) (by rfl) T.g_PRIMES rfl)) (fun _ _ _ _ => (qg_name (i := 0) (show List.Nodup (["prime"] : List Str) from by decide +kernel) rfl (Or.inl rfl) (Or.inr rfl))) (fun _ _ _ _ => qts_nil)
          (fun _ _ _ _ => (qe_call (ok_unit_row T) (hr.mono (by decide)) rfl T.D_unit_row.at_ T.D_unit_row.fn.kp T.D_unit_row.bd .nil pass0 (qa_c (qv 0) qa_nil))))
      (qss_cons (qs_for PassesOwn.never rfl (qi_list (qe_call (ok_changes_of T) (hr.mono (by decide)) rfl T.D_changes_of.at_ T.D_changes_of.fn.kp T.D_changes_of.bd .nil pass0 (qa_c (qv 0) qa_nil))) (qg_name (i := 2) sc_base.nd rfl (Or.inl rfl))
        (qss_one (qs_set (i := 1) sc_base.nd rfl (Or.inl rfl) (qe_call (ok_kept_of T) (hr.mono (by decide)) rfl T.D_kept_of.at_ T.D_kept_of.fn.kp T.D_kept_of.bd .nil pass0 (qa_c (qv 1) (qa_c (qv 2) qa_nil))))))
      (qss_one (qs_ret (qv 1))))), ?_⟩
    have hbd := bd_row hf.ok
    have fl := hf.1
    have rl := rowsOf_len fs
    refine ⟨T.a_PRIMES, rfl, ⟨_, T.t_PRIMES H⟩, fun D hD => ?_⟩
    refine comp_tup (K := K) (a := T.a_PRIMES) (xs := primesV) (by rw [sizeLine_eq]; decide) (fun i σ' H' ys => (∃ u : Option V, σ' = [u]) /\ Same H H' /\ RwD D H' ys (units.take i)) ⟨⟨_, rfl⟩, Same.new hD, RwD.nil⟩ (fun i σ' H' ys _ _ ⟨_, s', _⟩ => T.t_PRIMES H') ?_ ?_
    · rintro i x σ' H' ys R hx hD' hyl ⟨⟨u, rfl⟩, s', hR'⟩ kk
      obtain ⟨r, rfl, hr', _⟩ := primesV_get hx
      have hi : i < 10 := (List.getElem?_eq_some_iff.mp hr').1
      refine ⟨_, rfl, i, r, rfl, hr', fun p2 H2 f2 s2 hp2 => kk _ _ _ (s2 _ _ hD') ⟨⟨_, rfl⟩, ?_, ?_⟩⟩
      · intro e o eo
        rw [upd_ne (ne_of_none eo hD)]
        exact s2 _ _ (s' _ _ eo)
      · have e1 : units[i]? = some (unitI i) := by unfold units; rw [List.getElem?_map, List.getElem?_range hi]; rfl
        rw [List.take_add_one, e1]
        exact ((hR'.but fun c o _ e => s2 _ _ e).snoc (ne_of_none hD' f2).symm hp2).but fun c o n e => by rw [upd_ne n]; exact e
    rintro σ' H1 ys hD1 hyl ⟨_, s1, hR1⟩
    rw [show units.take primesV.length = units from rfl] at hR1
    refine ⟨_, rfl, b, xs, fs, rfl, s1 _ _ hb, hf.same s1, by omega, fun l H2 cs f2 s2 hl2 hC => ?_⟩
    have cl := hC.1
    refine ⟨l, rfl, ⟨_, SqL.of hl2⟩, for_list (K := K) (a := l) (xs := cs) (fun i σ H3 => (∃ (lr : Addr) (u : Option V) (ys' : List V), σ = [some (.ref b), some (.ref lr), u] /\ H3 lr = some (.lst ys') /\ RowsV H3 ys' (baseF ((rowsOf fs).take i))) /\ Same H2 H3) ⟨⟨D, _, ys, rfl, s2 _ _ hD1, hR1.rows.same s2⟩, Same.refl _⟩ (fun i σ H3 _ ⟨_, s'⟩ => SqL.of (s' _ _ hl2)) ?_ ?_⟩
    · rintro i x σ H3 hx ⟨⟨lr, u, ys', rfl, hlr, hR3⟩, s3⟩
      obtain ⟨c, hc, ca, rfl, hca⟩ := hC.2 i x hx
      have hi : i < (rowsOf fs).length := (List.getElem?_eq_some_iff.mp hc).1
      obtain ⟨j, j9, jl, hB⟩ := baseG hbd i (by omega)
      have hbb := bB_9 j j9
      have hb8 : bB j <= 3000 ∨ (baseF ((rowsOf fs).take i)).length <= 1 := by
        by_cases z : j = 9
        · exact .inr (by omega)
        · exact .inl (by have := bB_8 j (by omega); omega)
      refine ⟨_, rfl, _, rfl, lr, ca, ys', _, _, c, bB j, rfl, hlr, hR3, s3 _ _ hca, hbd c (List.mem_of_getElem? hc), hB, by omega, hb8, by omega, fun l4 H4 ys4 s4 hl4 hR4 => ⟨⟨l4, _, ys4, rfl, hl4, ?_⟩, s3.trans s4⟩⟩
      rw [baseF_step hc]
      exact hR4
    · rintro σ H3 ⟨⟨lr, u, ys', rfl, hlr, hR3⟩, s3⟩
      rw [List.take_of_length_le (by omega)] at hR3
      exact ⟨_, rfl, q lr H3 ys' (s1.trans (s2.trans s3)) hlr hR3⟩
end
end W2
namespace W2
open PySem L2 Mth
theorem gcdL_none : ∀ {ns : List Int}, (∀ n ∈ ns, n = 0) -> gcdL ns = 0
  | [], _ => rfl
  | a :: ns, h => by
    have h0 : a = 0 := h a List.mem_cons_self
    subst h0
    exact gcdL_none (ns := ns) fun n hn => h n (List.mem_cons_of_mem _ hn)
theorem plain_is {ns : List Int} {f n : Int} {rest : List Int} (hf : ns.filter (fun n => decide (n ≠ 0)) = f :: rest) (hn : n ∈ ns) : n.fdiv ((gcdL ns : Nat) : Int) * (1 - 2 * (if decide (f < 0) = true then 1 else 0)) = n / (sgnL ns * (gcdL ns : Int)) := by
  have hd := gcdL_dvd hn
  rw [Int.fdiv_eq_ediv_of_dvd hd]
  have hs : sgnL ns = if f < 0 then -1 else 1 := by unfold sgnL; rw [hf]
  by_cases z : f < 0
  · rw [hs, if_pos z, decide_eq_true z, if_pos rfl, Int.neg_mul, Int.one_mul, Int.ediv_neg]
    omega
  · rw [hs, if_neg z, decide_eq_false z, if_neg (by decide), Int.one_mul]
    omega
section
variable {P : Program} {w : World} {K : PySem.W.Frag} {mg : Str -> Option Value} {base : Heap}
def sp_l_shared : Sp := fun vs H Q _ => ∃ (a : Addr) (ns : List Int), vs = [.ref a] /\ H a = some (.lst (ns.map V.int)) /\ Q (.int ((gcdL ns : Nat) : Int)) H
theorem ok_l_shared (T : Tx K mg) : FnOk P w K mg base CX0 1 T.f_l_shared T.fd_l_shared ["row"] sp_l_shared := by
  refine T.D_l_shared.fn.okQ sc_l_shared (fun vs H Q E h => ?_) (fun cdv A outer s H vs Q E hr h => ?_)
  · obtain ⟨a, ns, rfl, _⟩ := h
    rfl
  · obtain ⟨a, ns, rfl, ha, q⟩ := h
    refine ⟨_, (qss_cons (qs_set (i := 1) sc_l_shared.nd rfl (Or.inl rfl) qe_int)
      (qss_cons (qs_for PassesOwn.never rfl (qi_list (qv 0)) (qg_name (i := 2) sc_l_shared.nd rfl (Or.inl rfl))
        (qss_cons (qs_set (i := 3) sc_l_shared.nd rfl (Or.inl rfl) (qe_callB call_abs (by rfl) T.m_abs b_abs (qa_c (qv 2) qa_nil)))
      (qss_one (qs_while PassesOwn.never (qt_cmpR op_gt (qv 3) qe_int (nomark _))
        (qss_one (qs_par (i := 1) (j := 3) rfl sc_l_shared.nd rfl rfl (by decide) rfl rfl (qa_c (qv 3) (qa_c (qe_op op_mod (qv 1) (qv 3)) qa_nil)) (by rfl)))))))
      (qss_one (qs_ret (qv 1))))), ?_⟩
    refine ⟨_, rfl, a, rfl, ⟨_, SqL.of ha⟩, for_list (K := K) (a := a) (xs := ns.map V.int) (fun i σ H1 => (∃ u v : Option V, σ = [some (.ref a), some (.int ((gcdL (ns.take i) : Nat) : Int)), u, v]) /\ H1 = H) ⟨⟨none, none, rfl⟩, rfl⟩ (fun i σ H1 _ ⟨_, e⟩ => by rw [e]; exact SqL.of ha) ?_ ?_⟩
    · rintro i x σ H1 hx ⟨⟨u, v, rfl⟩, rfl⟩
      obtain ⟨n, rfl, hn⟩ := map_int_get hx
      refine ⟨_, rfl, _, rfl, ?_⟩
      rw [abs_is]
      refine while_own (fun σ H2 => ∃ (x y : Nat), σ = [some (.ref a), some (.int (x : Int)), some (.int n), some (.int (y : Int))] /\ Nat.gcd x y = Nat.gcd (gcdL (ns.take i)) n.natAbs /\ H2 = H1) (fun σ _ => natAt σ 3) ⟨_, _, rfl, rfl, rfl⟩ ?_
      rintro σ H2 ⟨x, y, rfl, hg, rfl⟩
      refine ⟨_, rfl, _, _, rfl, rfl, _, rfl, ite2 (fun h => ?_) (fun h => ?_)⟩
      · have h0 : (y : Int) > 0 := of_decide_eq_true h
        refine whN ⟨_, rfl, _, rfl, _, rfl, _, _, rfl, rfl, h0, _, _, rfl, ⟨y, x % y, ?_, ?_, rfl⟩, ?_⟩
        · rw [Int.natCast_emod]
          rfl
        · rw [← hg, Nat.gcd_comm x y, Nat.gcd_rec y x, Nat.gcd_comm]
        · show ((x : Int) % (y : Int)).toNat < (y : Int).toNat
          rw [← Int.natCast_emod, Int.toNat_natCast, Int.toNat_natCast]
          exact Nat.mod_lt x (by omega)
      · have h0 : ¬ (y : Int) > 0 := fun z => h (decide_eq_true z)
        have y0 : y = 0 := by omega
        subst y0
        rw [Nat.gcd_zero_right] at hg
        refine ⟨⟨some (.int n), some (.int ((0 : Nat) : Int)), ?_⟩, rfl⟩
        rw [gcd_snoc ns i hn, ← hg]
    · rintro σ H1 ⟨⟨u, v, rfl⟩, rfl⟩
      rw [List.length_map, List.take_length]
      exact ⟨_, rfl, q⟩
def sp_l_plain : Sp := fun vs H Q _ => ∃ (a : Addr) (ns : List Int) (m : Nat), vs = [.ref a] /\ H a = some (.lst (ns.map V.int)) /\ ns.length <= 1000 /\ BdI m ns /\ m <= 8000 /\ ∀ q' H', Same H H' -> (q' = a ∨ H q' = none) -> H' q' = some (.lst ((lowI ns).map V.int)) -> Q (.ref q') H'
theorem ok_l_plain (T : Tx K mg) : FnOk P w K mg base CX0 2 T.f_l_plain T.fd_l_plain ["row"] sp_l_plain := by
  refine T.D_l_plain.fn.okQ sc_l_plain (fun vs H Q E h => ?_) (fun cdv A outer s H vs Q E hr h => ?_)
  · obtain ⟨a, ns, m, rfl, _⟩ := h
    rfl
  · obtain ⟨a, ns, m, rfl, ha, hlen, hb, hm, q⟩ := h
    refine ⟨_, (qss_cons (qs_set (i := 1) sc_l_plain.nd rfl (Or.inr rfl) (qe_call (ok_l_shared T) (hr.mono (by decide)) rfl T.D_l_shared.at_ T.D_l_shared.fn.kp T.D_l_shared.bd .nil pass0 (qa_c (qv 0) qa_nil)))
      (qss_cons (qs_if (qt_cmpR op_eq (qv 1) qe_int (nomark _))
        (qss_one (qs_ret (qv 0)))
        qss_nil)
      (qss_cons (qs_set (i := 2) sc_l_plain.nd rfl (Or.inr rfl) (qe_ix ix_list (qe_comp (compOk_of (osc := defScope s_l_plain) (XN := ["row", "by", "lead"]) (N := ["one"]) (js := [none]) rfl rfl rfl (List.forall_mem_nil _) (by decide +kernel) rfl) rfl (qi_list (qv 0)) (fun _ _ _ _ => (qg_name (i := 0) (show List.Nodup (["one"] : List Str) from by decide +kernel) rfl (Or.inl rfl) (Or.inr rfl))) (fun _ _ _ _ => (qts_one (qt_cmpR op_ne (qv 0) qe_int (nomark _))))
          (fun _ _ _ _ => (qv 0))) qe_int (fun _ _ => rfl)))
      (qss_one (qs_ret (qe_comp (compOk_of (osc := defScope s_l_plain) (XN := ["row", "by", "lead"]) (N := ["one", "by", "lead"]) (js := [none, some 1, some 2]) rfl rfl rfl (List.forall_mem_cons.mpr ⟨rfl, (List.forall_mem_cons.mpr ⟨rfl, (List.forall_mem_nil _)⟩)⟩) (by decide +kernel) rfl) rfl (qi_list (qv 0)) (fun _ _ _ _ => (qg_name (i := 0) (show List.Nodup (["one", "by", "lead"] : List Str) from by decide +kernel) rfl (Or.inl rfl) (Or.inr rfl))) (fun _ _ _ _ => qts_nil)
          (fun _ _ _ _ => (qe_op op_mul (qe_op op_fdivL (qv 0) (qv 1)) (qe_op op_sub qe_int (qe_op op_mul qe_int (qe_callTy call_int1 (by rfl) T.m_int b_int (qa_c (qe_cmpR op_lt (qv 2) qe_int (nomark _)) qa_nil)))))))))))), ?_⟩
    refine ⟨_, rfl, a, ns, rfl, ha, _, rfl, rfl, _, rfl, ?_⟩
    rcases zero_or_not ns with hnz | hz
    · obtain ⟨n0, hn0, hz0⟩ := hnz
      have hgp := gcdL_pos hn0 hz0
      have hgl := gcdL_le hb ⟨n0, hn0, hz0⟩
      rw [decide_eq_false (show ¬ V.int ((gcdL ns : Nat) : Int) = V.int 0 from fun z => by injection z with z; omega)]
      refine iteF ⟨_, rfl, a, rfl, ⟨_, SqL.of ha⟩, fun D hD => ?_⟩
      refine comp_list_if (K := K) (t := fun v => !decide (v = V.int 0)) (xs := ns.map V.int) (σ0 := []) (by rw [sizeLine_eq, List.length_map]; omega) ⟨_, rfl⟩ hD ha (fun x H' R _ hx r => ?_) (fun x H' R _ _ _ r => ⟨_, rfl, r⟩) fun H2 s2 hD2 => ?_
      · obtain ⟨n, _, rfl⟩ := List.mem_map.mp hx
        exact ⟨_, rfl, rfl, _, rfl, r⟩
      have hfl : (ns.map V.int).filter (fun v => !decide (v = V.int 0)) = (ns.filter fun n => decide (n ≠ 0)).map V.int := by
        rw [List.filter_map]
        congr 1
        apply List.filter_congr
        intro n _
        show (!decide (V.int n = V.int 0)) = decide (n ≠ 0)
        by_cases z : n = 0
        · rw [z]; rfl
        · rw [decide_eq_true z, decide_eq_false (fun w => z (by injection w))]; rfl
      rw [hfl] at hD2
      obtain ⟨f, rest, hfr⟩ : ∃ f rest, ns.filter (fun n => decide (n ≠ 0)) = f :: rest := by
        cases hq : ns.filter (fun n => decide (n ≠ 0)) with
        | nil =>
          have : n0 ∈ ns.filter (fun n => decide (n ≠ 0)) := List.mem_filter.mpr ⟨hn0, decide_eq_true hz0⟩
          rw [hq] at this
          cases this
        | cons f rest => exact ⟨f, rest, rfl⟩
      rw [hfr] at hD2
      refine ⟨_, _, 0, .int f, rfl, rfl, SqL.of hD2, atI_of (by decide) rfl, ?_⟩
      refine ⟨_, rfl, a, rfl, ⟨_, SqL.of (s2 _ _ ha)⟩, fun D3 hD3 => ?_⟩
      refine comp_map_list (K := K) (f := fun v => match v with | .int n => .int (n.fdiv ((gcdL ns : Nat) : Int) * (1 - 2 * (if decide (f < 0) = true then 1 else 0))) | w => w) (xs := ns.map V.int) rfl (by rw [sizeLine_eq, List.length_map]; omega) hD3 (SqL.of (s2 _ _ ha)) (fun x H' R' hx r => ?_) (q D3 _ (s2.trans (Same.new hD3)) (.inr (s2.free hD3)) ?_)
      · obtain ⟨n, _, rfl⟩ := List.mem_map.mp hx
        refine ⟨_, rfl, _, rfl, _, _, rfl, rfl, ⟨by omega, m, by rw [Int.natAbs_natCast]; exact hgl, hm⟩, _, rfl, _, _, rfl, rfl, .inr ⟨_, rfl, _, _, rfl, rfl, .inl ⟨by decide, by decide⟩, _, _, rfl, rfl, _, _, rfl, rfl, .inr ⟨?_, ?_⟩, r⟩⟩
        · split <;> decide
        · split <;> decide
      · rw [upd_same]
        congr 2
        unfold lowI
        rw [List.map_map, List.map_map]
        refine List.map_congr_left fun n hn => ?_
        show V.int _ = V.int _
        rw [plain_is hfr hn]
    · rw [gcdL_none hz]
      refine iteT ⟨_, rfl, q a H (Same.refl _) (.inl rfl) ?_⟩
      rw [low_none hz]
      exact ha
end
end W2
namespace W2
open PySem L2 Mth
theorem filter_first {r : List Int} {l n : Nat} (hl : LdA r l) (hn : l < n) : ∃ rest, (List.range n).filter (fun k => decide (r.getD k 0 ≠ 0)) = l :: rest := by
  have e : List.range n = List.range l ++ l :: (List.range' (l + 1) (n - (l + 1))) := by
    rw [List.range_eq_range', List.range_eq_range']
    have e1 : n = l + (1 + (n - (l + 1))) := by omega
    conv => lhs; rw [e1]
    rw [← List.range'_append_1, Nat.zero_add, Nat.add_comm 1, List.range'_succ]
  refine ⟨(List.range' (l + 1) (n - (l + 1))).filter (fun k => decide (r.getD k 0 ≠ 0)), ?_⟩
  rw [e, List.filter_append, List.filter_cons, decide_eq_true hl.1, if_pos rfl]
  have : (List.range l).filter (fun k => decide (r.getD k 0 ≠ 0)) = [] := by
    rw [List.filter_eq_nil_iff]
    intro k hk
    rw [decide_eq_true_eq]
    exact fun z => z (hl.2 k (List.mem_range.mp hk))
  rw [this]
  rfl
section
variable {P : Program} {w : World} {K : PySem.W.Frag} {mg : Str -> Option Value} {base : Heap}
def sp_l_lead : Sp := fun vs H Q _ => ∃ (a : Addr) (r : List Int) (l : Nat), vs = [.ref a] /\ H a = some (tupI r) /\ r.length = 10 /\ LdA r l /\ ∀ H', Same H H' -> Q (.int (l : Int)) H'
theorem ok_l_lead (T : Tx K mg) : FnOk P w K mg base CX0 1 T.f_l_lead T.fd_l_lead ["row"] sp_l_lead := by
  refine T.D_l_lead.fn.okQ sc_l_lead (fun vs H Q E h => ?_) (fun cdv A outer s H vs Q E hr h => ?_)
  · obtain ⟨a, r, l, rfl, _⟩ := h
    rfl
  · obtain ⟨a, r, l, rfl, ha, h10, hl, q⟩ := h
    have hl10 : l < 10 := by
      rcases Nat.lt_or_ge l 10 with z | z
      · exact z
      · exact absurd (getD_far (by omega)) hl.1
    refine ⟨_, (qss_one (qs_ret (qe_ix ix_list (qe_comp (compOk_of (osc := defScope s_l_lead) (XN := ["row"]) (N := ["place", "row"]) (js := [none, some 0]) rfl rfl rfl (List.forall_mem_cons.mpr ⟨rfl, (List.forall_mem_nil _)⟩) (by decide +kernel) rfl) rfl (qi_range1 rfl T.m_range (qa_c qe_int qa_nil)) (fun _ _ _ _ => (qg_name (i := 0) (show List.Nodup (["place", "row"] : List Str) from by decide +kernel) rfl (Or.inl rfl) (Or.inr rfl))) (fun _ _ _ _ => (qts_one (qt_cmpR op_ne (qe_ix (ix_tupN (K := K) rfl) (qv 1) (qv 0) (fun _ _ => rfl)) qe_int (nomark _))))
          (fun _ _ _ _ => (qv 0))) qe_int (fun _ _ => rfl)))), ?_⟩
    refine ⟨10, rfl, by decide, by decide, fun D hD => ?_⟩
    refine comp_range_ifG (n := (10 : Int).toNat) (σ0 := [some (.ref a)]) (t := fun k => decide (r.getD k 0 ≠ 0)) (f := fun k => V.int (k : Int)) (by decide) ⟨_, rfl⟩ hD (fun k H' R s' hk r' => ?_) (fun k H' R s' hk _ r' => ?_) fun H2 s2 hD2 => ?_
    · have hk' : k < r.length := by rw [h10]; exact hk
      refine ⟨_, rfl, _, rfl, a, r.map V.int, ((0 : Int) + k), .int (r.getD k 0), rfl, rfl, SqT.of (s' _ _ ha), ?_, rfl, _, rfl, ?_⟩
      · rw [Int.zero_add]
        exact atI_of (by omega) (by rw [Int.toNat_natCast, List.getElem?_map, List.getD_eq_getElem?_getD, List.getElem?_eq_getElem hk']; rfl)
      · have e : (!decide (V.int (r.getD k 0) = V.int 0)) = decide (r.getD k 0 ≠ 0) := by
          by_cases z : r.getD k 0 = 0
          · rw [z]; rfl
          · rw [decide_eq_true z, decide_eq_false (fun w => z (by injection w))]; rfl
        have := r' H' (Same.refl _)
        rw [← e] at this
        exact this
    · refine ⟨_, rfl, ?_⟩
      have := r' H' (Same.refl _)
      rw [Int.zero_add]
      exact this
    · obtain ⟨rest, hr⟩ := filter_first (n := (10 : Int).toNat) hl hl10
      rw [hr] at hD2
      exact ⟨D, _, 0, .int (l : Int), rfl, rfl, SqL.of hD2, atI_of (by decide) rfl, q H2 s2⟩
end
end W2
namespace W2
open PySem L2 Mth
theorem lay2_bd2 {m d : Nat} {u t : Int} {r o : List Int} (hu : u.natAbs <= 2 ^ d) (ht : t.natAbs <= 2 ^ m) (hr : BdI m r) (ho : BdI d o) : BdI (m + d + 1) (lay2 u t r o) := fun n hn => by
  obtain ⟨k, hk⟩ := List.getElem?_of_mem hn
  unfold lay2 at hk
  rw [List.getElem?_zipWith_eq_some] at hk
  obtain ⟨a, b, ha, hb, rfl⟩ := hk
  have h1 := Nat.mul_le_mul hu (hr a (List.mem_of_getElem? ha))
  have h2 := Nat.mul_le_mul ht (ho b (List.mem_of_getElem? hb))
  rw [← Nat.pow_add, ← Int.natAbs_mul] at h1 h2
  rw [Nat.add_comm d m] at h1
  rw [Nat.pow_succ]
  omega
def leadF (r : List Int) : Nat := ((List.range 10).filter (fun k => decide (r.getD k 0 ≠ 0))).headD 0
theorem leadF_of {r : List Int} {l : Nat} (h10 : r.length = 10) (h : LdA r l) : leadF r = l /\ l < 10 := by
  have hl10 : l < 10 := by
    rcases Nat.lt_or_ge l 10 with z | z
    · exact z
    · exact absurd (getD_far (by omega)) h.1
  obtain ⟨rest, e⟩ := filter_first (n := 10) h hl10
  unfold leadF
  rw [e]
  exact ⟨rfl, hl10⟩
def leftS (row one : List Int) : List Int := lay2 (one.getD (leadF one) 0) (row.getD (leadF one) 0) row one
def leftF (rows : List (List Int)) (row : List Int) : List Int := rows.foldl leftS row
theorem leftF_snoc {rows : List (List Int)} {row c : List Int} {i : Nat} (h : rows[i]? = some c) : leftF (rows.take (i + 1)) row = leftS (leftF (rows.take i) row) c := by
  unfold leftF
  rw [List.take_add_one, h, List.foldl_append]
  rfl
theorem leftF_ok {rows : List (List Int)} {row : List Int} {m d : Nat} (h10 : row.length = 10) (hb : BdI m row) (h : ∀ o ∈ rows, o.length = 10 /\ BdI d o) : ∀ i, i <= rows.length -> (leftF (rows.take i) row).length = 10 /\ BdI (m + i * (d + 1)) (leftF (rows.take i) row)
  | 0, _ => ⟨h10, by rw [Nat.zero_mul]; exact hb⟩
  | i + 1, hi => by
    obtain ⟨c, hc⟩ : ∃ c, rows[i]? = some c := ⟨_, List.getElem?_eq_getElem (by omega)⟩
    obtain ⟨i1, i2⟩ := leftF_ok h10 hb h i (by omega)
    obtain ⟨c1, c2⟩ := h c (List.mem_of_getElem? hc)
    rw [leftF_snoc hc]
    unfold leftS
    refine ⟨by rw [lay2_len (by rw [i1, c1]), i1], ?_⟩
    have := lay2_bd2 (c2.at (leadF c)) (i2.at (leadF c)) i2 c2
    exact this.up (by rw [Nat.add_mul, Nat.one_mul]; omega)
theorem comp_zipN_gen {K : PySem.W.Frag} {a b D : Addr} {js : List (Option Nat)} {te : TE} {σ : St} {H1 : Hp} {Q : VK} {xs ys : List Int} {σ0 : St} {f : Int -> Int -> V} (hn : min xs.length ys.length <= sizeLine) (hp : ∃ u v, pick js σ = u :: v :: σ0) (hD : H1 D = none)
    (ha : H1 a = some (.lst (xs.map V.int))) (hb : H1 b = some (tupI ys))
    (hs : ∀ (x y : Int) (H' : Hp) (R : VK), x ∈ xs -> y ∈ ys -> Same H1 H' -> R (f x y) H' -> te (some (.int x) :: some (.int y) :: σ0) H' R)
    (q : ∀ H', Same H1 H' -> H' D = some (.lst (List.zipWith f xs ys)) -> Q (.ref D) H') : CompW (Itn K a b) D js (gTup K 2 (gCons (gName 0) (gCons (gName 1) gNil))) tNoTest te σ H1 Q := by
  obtain ⟨u0, v0, hp⟩ := hp
  refine comp_zipN (K := K) (a := a) (b := b) (xs := xs.map V.int) (ys := ys.map V.int) (by rw [List.length_map, List.length_map]; exact hn) (fun i σ' H' zs => (∃ u v : Option V, σ' = u :: v :: σ0) /\ Same H1 H' /\ zs = (List.zipWith f xs ys).take i) ⟨⟨u0, v0, hp⟩, Same.new hD, rfl⟩ (fun i σ' H' zs _ ⟨_, s', _⟩ => ⟨SqL.of (s' _ _ ha), SqT.of (s' _ _ hb)⟩) ?_ ?_
  · rintro i x y p σ' H' zs R hx hy hp' hD' hzl ⟨⟨u, v, rfl⟩, s', rfl⟩ kk
    obtain ⟨x, rfl, hx'⟩ := map_int_get hx
    obtain ⟨y, rfl, hy'⟩ := map_int_get hy
    refine ⟨p, _, rfl, SqT.of upd_same, rfl, _, _, rfl, _, _, rfl, rfl, hs x y _ _ (List.mem_of_getElem? hx') (List.mem_of_getElem? hy') (s'.trans (Same.new hp')) ?_⟩
    refine kk _ _ _ ?_ ⟨⟨_, _, rfl⟩, ?_, ?_⟩
    · rw [upd_ne (ne_of_none hD' hp')]; exact hD'
    · intro c o e
      rw [upd_ne (ne_of_none e hD), upd_ne (ne_of_none (s' _ _ e) hp')]
      exact s' _ _ e
    · have : (List.zipWith f xs ys)[i]? = some (f x y) := by rw [List.getElem?_zipWith_eq_some]; exact ⟨x, y, hx', hy', rfl⟩
      rw [List.take_add_one, this]
      rfl
  · rintro σ' H' zs hD' hzl ⟨_, s', rfl⟩
    rw [List.take_of_length_le (by rw [List.length_zipWith, List.length_map, List.length_map]; exact Nat.le_refl _)] at hD'
    exact q H' s' hD'
theorem at_getD {r : List Int} {k : Nat} (h : k < r.length) : atI (r.map V.int) (k : Int) = some (.int (r.getD k 0)) := atI_of (by omega) (by rw [Int.toNat_natCast, List.getElem?_map, List.getD_eq_getElem?_getD, List.getElem?_eq_getElem h]; rfl)
section
variable {P : Program} {w : World} {K : PySem.W.Frag} {mg : Str -> Option Value} {base : Heap}
def sp_l_left : Sp := fun vs H Q _ => ∃ (a b : Addr) (r : List Int) (ys : List V) (rows : List (List Int)) (m d : Nat), vs = [.ref a, .ref b] /\ H a = some (.lst (r.map V.int)) /\ r.length = 10 /\ BdI m r /\ H b = some (.lst ys) /\ RowsV H ys rows /\ (∀ o ∈ rows, o.length = 10 /\ BdI d o) /\ (∀ o ∈ rows, ∃ l, LdA o l) /\ d <= 20000 /\ m + rows.length * (d + 1) <= 20000 /\
  ∀ p H', Same H H' -> H' p = some (.lst ((leftF rows r).map V.int)) -> Q (.ref p) H'
theorem ok_l_left (T : Tx K mg) : FnOk P w K mg base CX0 2 T.f_l_left T.fd_l_left ["row", "rows"] sp_l_left := by
  refine T.D_l_left.fn.okQ sc_l_left (fun vs H Q E h => ?_) (fun cdv A outer s H vs Q E hr h => ?_)
  · obtain ⟨a, b, r, ys, rows, m, d, rfl, _⟩ := h
    rfl
  · obtain ⟨a, b, r, ys, rows, m, d, rfl, ha, h10, hbm, hb, hR, hO, hL, hd, hbit, q⟩ := h
    refine ⟨_, (qss_cons (qs_for PassesOwn.never rfl (qi_list (qv 1)) (qg_name (i := 2) sc_l_left.nd rfl (Or.inr rfl))
        (qss_cons (qs_set (i := 3) sc_l_left.nd rfl (Or.inr rfl) (qe_call (ok_l_lead T) (hr.mono (by decide)) rfl T.D_l_lead.at_ T.D_l_lead.fn.kp T.D_l_lead.bd .nil pass0 (qa_c (qv 2) qa_nil)))
      (qss_cons (qs_set (i := 4) sc_l_left.nd rfl (Or.inr rfl) (qe_ix ix_list (qv 0) (qv 3) (fun _ _ => rfl)))
      (qss_one (qs_setC (i := 0) sc_l_left.nd rfl (Or.inl rfl) (compOk_of (osc := defScope s_l_left) (XN := ["row", "rows", "one", "place", "far"]) (N := ["mine", "own", "far", "one", "place"]) (js := [none, none, some 4, some 2, some 3]) rfl rfl rfl (List.forall_mem_cons.mpr ⟨rfl, (List.forall_mem_cons.mpr ⟨rfl, (List.forall_mem_cons.mpr ⟨rfl, (List.forall_mem_nil _)⟩)⟩)⟩) (by decide +kernel) rfl) rfl (qi_zipN rfl rfl T.m_zip (qa_c (qv 0) (qa_c (qv 2) qa_nil))) (fun _ _ _ _ => (qg_tupN (K := K) (n := 2) rfl rfl (qgs_cons (qg_name (i := 0) (show List.Nodup (["mine", "own", "far", "one", "place"] : List Str) from by decide +kernel) rfl (Or.inl rfl) (Or.inr rfl)) (qgs_cons (qg_name (i := 1) (show List.Nodup (["mine", "own", "far", "one", "place"] : List Str) from by decide +kernel) rfl (Or.inl rfl) (Or.inr rfl)) qgs_nil)))) (fun _ _ _ _ => qts_nil)
          (fun _ _ _ _ => (qe_op op_sub (qe_op op_mulX (qv 0) (qe_ix (ix_tupN (K := K) rfl) (qv 3) (qv 4) (fun _ _ => rfl))) (qe_op op_mulX (qv 2) (qv 1)))))))))
      (qss_one (qs_ret (qv 0)))), ?_⟩
    refine ⟨_, rfl, b, rfl, ⟨_, SqL.of hb⟩, for_list (K := K) (a := b) (xs := ys) (fun i σ HC => (∃ (p : Addr) (u v w : Option V), σ = [some (.ref p), some (.ref b), u, v, w] /\ HC p = some (.lst ((leftF (rows.take i) r).map V.int))) /\ Same H HC) ⟨⟨a, none, none, none, rfl, ha⟩, Same.refl _⟩ (fun i σ HC _ ⟨_, sC⟩ => SqL.of (sC _ _ hb)) ?_ ?_⟩
    · rintro i x σ HC hx ⟨⟨p, u, v, w, rfl, hp⟩, sC⟩
      obtain ⟨c, hc, o, rfl, ho⟩ := hR.2 i x hx
      have hcm := List.mem_of_getElem? hc
      have hil : i < rows.length := (List.getElem?_eq_some_iff.mp hc).1
      obtain ⟨c10, cb⟩ := hO c hcm
      obtain ⟨l, hl⟩ := hL c hcm
      obtain ⟨el, l10⟩ := leadF_of c10 hl
      obtain ⟨p10, pb⟩ := leftF_ok h10 hbm hO i (by omega)
      have hmi : m + i * (d + 1) <= 20000 := Nat.le_trans (Nat.add_le_add_left (Nat.mul_le_mul_right _ (by omega)) _) hbit
      have e3 := leftF_snoc (row := r) hc
      generalize leftF (rows.take i) r = cur at hp p10 pb e3
      refine ⟨_, rfl, o, c, l, rfl, sC _ _ ho, c10, hl, fun H1 s1 => ?_⟩
      refine ⟨_, rfl, _, rfl, p, _, (l : Int), .int (cur.getD l 0), rfl, rfl, SqL.of (s1 _ _ hp), at_getD (by omega), ?_⟩
      refine ⟨_, rfl, _, rfl, p, o, rfl, ⟨_, SqL.of (s1 _ _ hp)⟩, ⟨_, SqT.of (s1 _ _ (sC _ _ ho))⟩, fun D hD => ?_⟩
      refine comp_zipN_gen (K := K) (f := fun x y => .int (x * c.getD l 0 - cur.getD l 0 * y)) (σ0 := [some (.int (cur.getD l 0)), some (.ref o), some (.int (l : Int))]) (xs := cur) (ys := c) (by rw [p10, c10]; decide) ⟨_, _, rfl⟩ hD (s1 _ _ hp) (s1 _ _ (sC _ _ ho)) (fun x y H' R hx hy s' r' => ?_) fun H2 s2 hD2 => ?_
      · exact ⟨_, rfl, _, rfl, _, rfl, o, _, (l : Int), .int (c.getD l 0), rfl, rfl, SqT.of (s' _ _ (s1 _ _ (sC _ _ ho))), at_getD (by omega), _, _, rfl, rfl, ⟨m + i * (d + 1), d, pb x hx, cb.at l, hmi, hd⟩, _, rfl, _, rfl, _, _, rfl, rfl, ⟨m + i * (d + 1), d, pb.at l, cb y hy, hmi, hd⟩, _, _, rfl, rfl, r'⟩
      · refine ⟨⟨D, _, _, _, rfl, ?_⟩, (sC.trans s1).trans s2⟩
        rw [hD2, e3]
        unfold leftS lay2
        rw [el, List.map_zipWith]
        congr 3
        funext x y
        rw [Int.mul_comm]
    · rintro σ HC ⟨⟨p, u, v, w, rfl, hp⟩, sC⟩
      rw [hR.1, List.take_length] at hp
      exact ⟨_, rfl, q p HC sC hp⟩
end
end W2
namespace W2
open PySem L2 Mth
theorem left_inv {b : Nat} {cs rows : List (List Int)} (BR : BaseR b cs rows) (BX : BaseX cs rows) {x : List Int} (hx : x.length = 10) : ∀ i, i <= rows.length -> (leftF (rows.take i) x).length = 10 /\ (∀ c ∈ cs, dotI (leftF (rows.take i) x) c = 0 ↔ dotI x c = 0) /\ ∀ (j : Nat) r l, j < i -> rows[j]? = some r -> LdA r l -> (leftF (rows.take i) x).getD l 0 = 0
  | 0, _ => ⟨hx, fun c _ => Iff.rfl, fun j r l h => by omega⟩
  | i + 1, hi => by
    obtain ⟨o, ho⟩ : ∃ o, rows[i]? = some o := ⟨_, List.getElem?_eq_getElem (by omega)⟩
    obtain ⟨i1, i2, i3⟩ := left_inv BR BX hx i (by omega)
    have hom := List.mem_of_getElem? ho
    have o10 := BR.l10 o hom
    obtain ⟨lo, hlo⟩ := BR.nz o hom
    obtain ⟨el, _⟩ := leadF_of o10 hlo
    rw [leftF_snoc ho]
    generalize leftF (rows.take i) x = cur at i1 i2 i3
    unfold leftS
    rw [el]
    have he : cur.length = o.length := by rw [i1, o10]
    refine ⟨by rw [lay2_len he, i1], fun c hc => ?_, fun j r l hj hr hl => ?_⟩
    · rw [dotI_lay2 _ _ _ _ _ he, BR.kept o hom c hc, Int.mul_zero, Int.sub_zero, ← i2 c hc]
      constructor
      · intro z
        rcases Int.mul_eq_zero.mp z with y | y
        · exact absurd y hlo.1
        · exact y
      · intro z
        rw [z, Int.mul_zero]
    · rw [lay2_get he]
      by_cases e : j = i
      · subst e
        rw [ho] at hr
        cases hr
        rw [hl.uniq hlo, Int.mul_comm]
        omega
      · rw [i3 j r l (by omega) hr hl, BX.z0 o hom r (List.mem_of_getElem? hr) (pair_ne BR.pw hr ho (by omega)) l hl]
        omega
theorem left_kept {b : Nat} {cs rows : List (List Int)} (BR : BaseR b cs rows) (BX : BaseX cs rows) {x : List Int} (hx : x.length = 10) : (∀ c ∈ cs, dotI x c = 0) ↔ leftF rows x = List.replicate 10 0 := by
  obtain ⟨h1, h2, h3⟩ := left_inv BR BX hx rows.length (Nat.le_refl _)
  rw [List.take_length] at h1 h2 h3
  constructor
  · intro h
    have hz := BX.all _ h1 (fun c hc => (h2 c hc).mpr (h c hc)) fun r hr l hl => by
      obtain ⟨j, hj⟩ := List.getElem?_of_mem hr
      exact h3 j r l (List.getElem?_eq_some_iff.mp hj).1 hj hl
    refine List.ext_getElem? fun k => ?_
    by_cases hk : k < 10
    · have := hz k
      rw [List.getD_eq_getElem?_getD, List.getElem?_eq_getElem (by omega)] at this
      rw [List.getElem?_eq_getElem (by omega), List.getElem?_replicate, if_pos hk]
      exact congrArg some this
    · rw [List.getElem?_eq_none (by omega), List.getElem?_eq_none (by rw [List.length_replicate]; omega)]
  · intro h c hc
    refine (h2 c hc).mp ?_
    rw [h]
    exact dotI_zero _ _ fun k => getD_rep 10 k
end W2
namespace W2
open PySem L2 Mth
section
variable {P : Program} {w : World} {K : PySem.W.Frag} {mg : Str -> Option Value} {base : Heap}
def sp_l_sharedT : Sp := fun vs H Q _ => ∃ (a : Addr) (ns : List Int), vs = [.ref a] /\ H a = some (tupI ns) /\ Q (.int ((gcdL ns : Nat) : Int)) H
theorem ok_l_sharedT (T : Tx K mg) : FnOk P w K mg base CX0 1 T.f_l_shared T.fd_l_shared ["row"] sp_l_sharedT := by
  refine T.D_l_shared.fn.okQ sc_l_shared (fun vs H Q E h => ?_) (fun cdv A outer s H vs Q E hr h => ?_)
  · obtain ⟨a, ns, rfl, _⟩ := h
    rfl
  · obtain ⟨a, ns, rfl, ha, q⟩ := h
    refine ⟨_, (qss_cons (qs_set (i := 1) sc_l_shared.nd rfl (Or.inl rfl) qe_int)
      (qss_cons (qs_for PassesOwn.never rfl (qi_tup (qv 0)) (qg_name (i := 2) sc_l_shared.nd rfl (Or.inl rfl))
        (qss_cons (qs_set (i := 3) sc_l_shared.nd rfl (Or.inl rfl) (qe_callB call_abs (by rfl) T.m_abs b_abs (qa_c (qv 2) qa_nil)))
      (qss_one (qs_while PassesOwn.never (qt_cmpR op_gt (qv 3) qe_int (nomark _))
        (qss_one (qs_par (i := 1) (j := 3) rfl sc_l_shared.nd rfl rfl (by decide) rfl rfl (qa_c (qv 3) (qa_c (qe_op op_mod (qv 1) (qv 3)) qa_nil)) (by rfl)))))))
      (qss_one (qs_ret (qv 1))))), ?_⟩
    refine ⟨_, rfl, a, rfl, ⟨_, SqT.of ha⟩, for_tup (K := K) (a := a) (xs := ns.map V.int) (fun i σ H1 => (∃ u v : Option V, σ = [some (.ref a), some (.int ((gcdL (ns.take i) : Nat) : Int)), u, v]) /\ H1 = H) ⟨⟨none, none, rfl⟩, rfl⟩ (fun i σ H1 _ ⟨_, e⟩ => by rw [e]; exact SqT.of ha) ?_ ?_⟩
    · rintro i x σ H1 hx ⟨⟨u, v, rfl⟩, rfl⟩
      obtain ⟨n, rfl, hn⟩ := map_int_get hx
      refine ⟨_, rfl, _, rfl, ?_⟩
      rw [abs_is]
      refine while_own (fun σ H2 => ∃ (x y : Nat), σ = [some (.ref a), some (.int (x : Int)), some (.int n), some (.int (y : Int))] /\ Nat.gcd x y = Nat.gcd (gcdL (ns.take i)) n.natAbs /\ H2 = H1) (fun σ _ => natAt σ 3) ⟨_, _, rfl, rfl, rfl⟩ ?_
      rintro σ H2 ⟨x, y, rfl, hg, rfl⟩
      refine ⟨_, rfl, _, _, rfl, rfl, _, rfl, ite2 (fun h => ?_) (fun h => ?_)⟩
      · have h0 : (y : Int) > 0 := of_decide_eq_true h
        refine whN ⟨_, rfl, _, rfl, _, rfl, _, _, rfl, rfl, h0, _, _, rfl, ⟨y, x % y, ?_, ?_, rfl⟩, ?_⟩
        · rw [Int.natCast_emod]
          rfl
        · rw [← hg, Nat.gcd_comm x y, Nat.gcd_rec y x, Nat.gcd_comm]
        · show ((x : Int) % (y : Int)).toNat < (y : Int).toNat
          rw [← Int.natCast_emod, Int.toNat_natCast, Int.toNat_natCast]
          exact Nat.mod_lt x (by omega)
      · have h0 : ¬ (y : Int) > 0 := fun z => h (decide_eq_true z)
        have y0 : y = 0 := by omega
        subst y0
        rw [Nat.gcd_zero_right] at hg
        refine ⟨⟨some (.int n), some (.int ((0 : Nat) : Int)), ?_⟩, rfl⟩
        rw [gcd_snoc ns i hn, ← hg]
    · rintro σ H1 ⟨⟨u, v, rfl⟩, rfl⟩
      rw [List.length_map, List.take_length]
      exact ⟨_, rfl, q⟩
end
end W2
namespace W2
open PySem L2 Mth
theorem ne_int (n : Int) : (!decide (V.int n = V.int 0)) = decide (n ≠ 0) := by
  by_cases z : n = 0
  · rw [z]; rfl
  · rw [decide_eq_true z, decide_eq_false (fun w => z (by injection w))]; rfl
def LR2 (L F : Addr) (H : Hp) (ys : List V) (rows : List (List Int)) : Prop := ys.length = rows.length /\ ∀ (i : Nat) (x : V), ys[i]? = some x -> ∃ c a, rows[i]? = some c /\ x = .ref a /\ a ≠ L /\ a ≠ F /\ H a = some (lstI c)
theorem LR2.keep {L F : Addr} {H H' : Hp} {ys : List V} {rows : List (List Int)} (h : LR2 L F H ys rows) (b : But2 L F H H') : LR2 L F H' ys rows := ⟨h.1, fun i x hx => by
  obtain ⟨c, a, h1, h2, h3, h4, h5⟩ := h.2 i x hx
  exact ⟨c, a, h1, h2, h3, h4, b _ _ h3 h4 h5⟩⟩
theorem LR2.at {L F : Addr} {H : Hp} {ys : List V} {rows : List (List Int)} (h : LR2 L F H ys rows) {k : Nat} {c : List Int} (hk : rows[k]? = some c) : ∃ a, ys[k]? = some (.ref a) /\ a ≠ L /\ a ≠ F /\ H a = some (lstI c) := by
  have hl : k < ys.length := by rw [h.1]; exact (List.getElem?_eq_some_iff.mp hk).1
  obtain ⟨c', a, h1, h2, h3, h4, h5⟩ := h.2 k ys[k] (List.getElem?_eq_getElem hl)
  rw [hk] at h1
  cases h1
  exact ⟨a, by rw [List.getElem?_eq_getElem hl, h2], h3, h4, h5⟩
theorem LR2.snoc {L F : Addr} {H : Hp} {ys : List V} {rows : List (List Int)} (h : LR2 L F H ys rows) {a : Addr} {c : List Int} (n1 : a ≠ L) (n2 : a ≠ F) (ha : H a = some (lstI c)) : LR2 L F H (ys ++ [.ref a]) (rows ++ [c]) := ⟨by rw [List.length_append, List.length_append, h.1]; rfl, fun i x hx => by
  rcases Nat.lt_or_ge i ys.length with z | z
  · rw [List.getElem?_append_left z] at hx
    obtain ⟨c', a', h1, h2⟩ := h.2 i x hx
    exact ⟨c', a', by rw [List.getElem?_append_left (by rw [← h.1]; exact z)]; exact h1, h2⟩
  · rw [List.getElem?_append_right z] at hx
    have z0 : i - ys.length = 0 := by
      rcases Nat.eq_zero_or_pos (i - ys.length) with z | z
      · exact z
      · rw [List.getElem?_eq_none (show [V.ref a].length <= _ from z)] at hx
        cases hx
    rw [z0] at hx
    cases hx
    exact ⟨c, a, by rw [List.getElem?_append_right (by rw [← h.1]; exact z), ← h.1, z0]; rfl, rfl, n1, n2, ha⟩⟩
theorem LR2.set {L F : Addr} {H : Hp} {ys : List V} {rows : List (List Int)} (h : LR2 L F H ys rows) (k : Nat) {a : Addr} {c : List Int} (n1 : a ≠ L) (n2 : a ≠ F) (ha : H a = some (lstI c)) : LR2 L F H (ys.set k (.ref a)) (rows.set k c) := ⟨by rw [List.length_set, List.length_set, h.1], fun i x hx => by
  by_cases e : k = i
  · subst e
    have hl : k < ys.length := by
      have := (List.getElem?_eq_some_iff.mp hx).1
      rwa [List.length_set] at this
    rw [List.getElem?_set_self hl] at hx
    cases hx
    exact ⟨c, a, List.getElem?_set_self (by rw [← h.1]; exact hl), rfl, n1, n2, ha⟩
  · rw [List.getElem?_set_ne e] at hx
    obtain ⟨c', a', h1, h2⟩ := h.2 i x hx
    exact ⟨c', a', by rw [List.getElem?_set_ne e]; exact h1, h2⟩⟩
theorem LR2.erase {L F : Addr} {H : Hp} {ys : List V} {rows : List (List Int)} (h : LR2 L F H ys rows) (k : Nat) : LR2 L F H (ys.eraseIdx k) (rows.eraseIdx k) := ⟨by rw [List.length_eraseIdx, List.length_eraseIdx, h.1], fun i x hx => by
  rw [List.getElem?_eraseIdx] at hx ⊢
  by_cases e : i < k
  · rw [if_pos e] at hx ⊢
    exact h.2 i x hx
  · rw [if_neg e] at hx ⊢
    exact h.2 (i + 1) x hx⟩
theorem set_step {α : Type} (f : α -> α) {l : List α} {i : Nat} {c : α} (h : l[i]? = some c) : ((l.take i).map f ++ l.drop i).set i (f c) = (l.take (i + 1)).map f ++ l.drop (i + 1) := by
  obtain ⟨hi, rfl⟩ := List.getElem?_eq_some_iff.mp h
  have e : ((l.take i).map f).length = i := by rw [List.length_map, List.length_take]; omega
  rw [List.set_append_right _ _ (by rw [e]; exact Nat.le_refl _), e, Nat.sub_self, List.drop_eq_getElem_cons hi, List.take_add_one, h, List.map_append, List.append_assoc]
  rfl
theorem mid_get {α : Type} (f : α -> α) {l : List α} {i : Nat} {c : α} (h : l[i]? = some c) : ((l.take i).map f ++ l.drop i)[i]? = some c := by
  obtain ⟨hi, rfl⟩ := List.getElem?_eq_some_iff.mp h
  have e : ((l.take i).map f).length = i := by rw [List.length_map, List.length_take]; omega
  rw [List.getElem?_append_right (by rw [e]; exact Nat.le_refl _), e, Nat.sub_self, List.drop_eq_getElem_cons hi]
  rfl
theorem comp_zipL_gen {K : PySem.W.Frag} {a b D : Addr} {js : List (Option Nat)} {te : TE} {σ : St} {H1 : Hp} {Q : VK} {xs ys : List Int} {σ0 : St} {f : Int -> Int -> Int} (hn : min xs.length ys.length <= sizeLine) (hp : ∃ u v, pick js σ = u :: v :: σ0) (hD : H1 D = none)
    (ha : H1 a = some (.lst (xs.map V.int))) (hb : H1 b = some (.lst (ys.map V.int)))
    (hs : ∀ (x y : Int) (H' : Hp) (R : VK), x ∈ xs -> y ∈ ys -> Same H1 H' -> R (.int (f x y)) H' -> te (some (.int x) :: some (.int y) :: σ0) H' R)
    (q : ∀ H', Same H1 H' -> H' D = some (.lst ((List.zipWith f xs ys).map V.int)) -> Q (.ref D) H') : CompW (Itzl a b) D js (gTup K 2 (gCons (gName 0) (gCons (gName 1) gNil))) tNoTest te σ H1 Q := by
  obtain ⟨u0, v0, hp⟩ := hp
  refine comp_zipL (a := a) (b := b) (xs := xs.map V.int) (ys := ys.map V.int) (by rw [List.length_map, List.length_map]; exact hn) (fun i σ' H' zs => (∃ u v : Option V, σ' = u :: v :: σ0) /\ Same H1 H' /\ zs = ((List.zipWith f xs ys).take i).map V.int) ⟨⟨u0, v0, hp⟩, Same.new hD, rfl⟩ (fun i σ' H' zs _ ⟨_, s', _⟩ => ⟨s' _ _ ha, s' _ _ hb⟩) ?_ ?_
  · rintro i x y p σ' H' zs R hx hy hp' hD' hzl ⟨⟨u, v, rfl⟩, s', rfl⟩ kk
    obtain ⟨x, rfl, hx'⟩ := map_int_get hx
    obtain ⟨y, rfl, hy'⟩ := map_int_get hy
    refine ⟨p, _, rfl, SqT.of upd_same, rfl, _, _, rfl, _, _, rfl, rfl, hs x y _ _ (List.mem_of_getElem? hx') (List.mem_of_getElem? hy') (s'.trans (Same.new hp')) ?_⟩
    refine kk _ _ _ ?_ ⟨⟨_, _, rfl⟩, ?_, ?_⟩
    · rw [upd_ne (ne_of_none hD' hp')]; exact hD'
    · intro c o e
      rw [upd_ne (ne_of_none e hD), upd_ne (ne_of_none (s' _ _ e) hp')]
      exact s' _ _ e
    · have : (List.zipWith f xs ys)[i]? = some (f x y) := by rw [List.getElem?_zipWith_eq_some]; exact ⟨x, y, hx', hy', rfl⟩
      rw [List.take_add_one, this, List.map_append]
      rfl
  · rintro σ' H' zs hD' hzl ⟨_, s', rfl⟩
    rw [List.take_of_length_le (by rw [List.length_zipWith, List.length_map, List.length_map]; exact Nat.le_refl _)] at hD'
    exact q H' s' hD'
section
variable {P : Program} {w : World} {K : PySem.W.Frag} {mg : Str -> Option Value} {base : Heap}
def sp_l_reduced : Sp := fun vs H Q _ => ∃ (a D : Addr) (ys : List V) (cs : List (List Int)), vs = [.ref a] /\ H a = some (.lst ys) /\ LRw D H ys cs /\ (∀ c ∈ cs, c.length = 10) /\ (∀ c ∈ cs, BdI 6 c) /\ cs.length <= 8 /\ ∀ p H' zs, Same H H' -> H' p = some (.lst zs) -> zs.length = (redN cs 10).2.length -> Q (.ref p) H'
theorem ok_l_reduced (T : Tx K mg) : FnOk P w K mg base CX0 3 T.f_l_reduced T.fd_l_reduced ["rows"] sp_l_reduced := by
  refine T.D_l_reduced.fn.okQ sc_l_reduced (fun vs H Q E h => ?_) (fun cdv A outer s H vs Q E hr h => ?_)
  · obtain ⟨a, D, ys, cs, rfl, _⟩ := h
    rfl
  · obtain ⟨a, D0, ys, cs, rfl, ha, hR, h10, hb6, h8, q⟩ := h
    refine ⟨_, (qss_cons (qs_set (i := 1) sc_l_reduced.nd rfl (Or.inr rfl) (qe_comp (compOk_of (osc := defScope s_l_reduced) (XN := ["rows", "left", "found", "place", "some", "lead", "rest", "k", "far"]) (N := ["row"]) (js := [none]) rfl rfl rfl (List.forall_mem_nil _) (by decide +kernel) rfl) rfl (qi_list (qv 0)) (fun _ _ _ _ => (qg_name (i := 0) (show List.Nodup (["row"] : List Str) from by decide +kernel) rfl (Or.inl rfl) (Or.inr rfl))) (fun _ _ _ _ => qts_nil)
          (fun _ _ _ _ => (qe_call (ok_l_plain T) (hr.mono (by decide)) rfl T.D_l_plain.at_ T.D_l_plain.fn.kp T.D_l_plain.bd .nil pass0 (qa_c (qv 0) qa_nil)))))
      (qss_cons (qs_set (i := 2) sc_l_reduced.nd rfl (Or.inl rfl) (qe_lstA qa_nil))
      (qss_cons (qs_for PassesOwn.never rfl (qi_range1 rfl T.m_range (qa_c qe_int qa_nil)) (qg_name (i := 3) sc_l_reduced.nd rfl (Or.inr rfl))
        (qss_cons (qs_setC (i := 4) sc_l_reduced.nd rfl (Or.inl rfl) (compOk_of (osc := defScope s_l_reduced) (XN := ["rows", "left", "found", "place", "some", "lead", "rest", "k", "far"]) (N := ["k", "place", "left"]) (js := [none, some 3, some 1]) rfl rfl rfl (List.forall_mem_cons.mpr ⟨rfl, (List.forall_mem_cons.mpr ⟨rfl, (List.forall_mem_nil _)⟩)⟩) (by decide +kernel) rfl) rfl (qi_range1 rfl T.m_range (qa_c (qe_callB call_len_seq (by rfl) T.m_len b_len (qa_c (qv 1) qa_nil)) qa_nil)) (fun _ _ _ _ => (qg_name (i := 0) (show List.Nodup (["k", "place", "left"] : List Str) from by decide +kernel) rfl (Or.inl rfl) (Or.inr rfl))) (fun _ _ _ _ => (qts_one (qt_cmpR op_ne (qe_ix (ix_listN (K := K) rfl) (qe_ix (ix_listN (K := K) rfl) (qv 2) (qv 0) (fun _ _ => rfl)) (qv 1) (fun _ _ => rfl)) qe_int (nomark _))))
          (fun _ _ _ _ => (qv 0)))
      (qss_one (qs_if (qt_cmpR (op_neNil (hu_of hr)) (qv 4) (qe_lstA qa_nil) (nomark _))
        (qss_cons (qs_set (i := 5) sc_l_reduced.nd rfl (Or.inr rfl) (qe_bm PySem.F.plainAttrs_list PySem.F.slot_list_pop PySem.F.type_list_pop mt_popAt (qv 1) (qa_c (qe_ix (ix_listN (K := K) rfl) (qv 4) qe_int (fun _ _ => rfl)) qa_nil)))
      (qss_cons (qs_for PassesOwn.never rfl (qi_list (qe_lstA (qa_c (qv 1) (qa_c (qv 2) qa_nil)))) (qg_name (i := 6) sc_l_reduced.nd rfl (Or.inl rfl))
        (qss_one (qs_for PassesOwn.never rfl (qi_range1 rfl T.m_range (qa_c (qe_callB call_len_seq (by rfl) T.m_len b_len (qa_c (qv 6) qa_nil)) qa_nil)) (qg_name (i := 7) sc_l_reduced.nd rfl (Or.inl rfl))
        (qss_cons (qs_set (i := 8) sc_l_reduced.nd rfl (Or.inr rfl) (qe_ix (ix_listN (K := K) rfl) (qe_ix (ix_listN (K := K) rfl) (qv 6) (qv 7) (fun _ _ => rfl)) (qv 3) (fun _ _ => rfl)))
      (qss_one (qs_asg (qe_call (ok_l_plain T) (hr.mono (by decide)) rfl T.D_l_plain.at_ T.D_l_plain.fn.kp T.D_l_plain.bd .nil pass0 (qa_c (qe_comp (compOk_of (osc := defScope s_l_reduced) (XN := ["rows", "left", "found", "place", "some", "lead", "rest", "k", "far"]) (N := ["one", "two", "far", "lead", "place"]) (js := [none, none, some 8, some 5, some 3]) rfl rfl rfl (List.forall_mem_cons.mpr ⟨rfl, (List.forall_mem_cons.mpr ⟨rfl, (List.forall_mem_cons.mpr ⟨rfl, (List.forall_mem_nil _)⟩)⟩)⟩) (by decide +kernel) rfl) rfl (qi_zipL rfl rfl T.m_zip (qa_c (qe_ix (ix_listN (K := K) rfl) (qv 6) (qv 7) (fun _ _ => rfl)) (qa_c (qv 5) qa_nil))) (fun _ _ _ _ => (qg_tupN (K := K) (n := 2) rfl rfl (qgs_cons (qg_name (i := 0) (show List.Nodup (["one", "two", "far", "lead", "place"] : List Str) from by decide +kernel) rfl (Or.inl rfl) (Or.inr rfl)) (qgs_cons (qg_name (i := 1) (show List.Nodup (["one", "two", "far", "lead", "place"] : List Str) from by decide +kernel) rfl (Or.inl rfl) (Or.inr rfl)) qgs_nil)))) (fun _ _ _ _ => qts_nil)
          (fun _ _ _ _ => (qe_op op_sub (qe_op op_mulX (qv 0) (qe_ix (ix_listN (K := K) rfl) (qv 3) (qv 4) (fun _ _ => rfl))) (qe_op op_mulX (qv 2) (qv 1))))) qa_nil)) (qg_sub (qv 6) (qv 7) set_list)))))))
      (qss_one (qs_expr (qe_bm PySem.F.plainAttrs_list PySem.F.slot_list_append PySem.F.type_list_append mt_appendA (qv 2) (qa_c (qv 5) qa_nil))))))
        qss_nil))))
      (qss_one (qs_ret (qv 2)))))), ?_⟩
    refine ⟨_, rfl, a, rfl, ⟨_, SqL.of ha⟩, fun L hL => ?_⟩
    refine comp_listG (K := K) (xs := ys) (σ0 := []) (by rw [sizeLine_eq, hR.1]; omega) ⟨_, rfl⟩ hL ha (fun i H' zs => LRw L H' zs ((cs.map lowI).take i)) ⟨rfl, fun i x hx => by cases hx⟩ (fun i H' H2 zs _ _ h b => h.but b) (fun i x H' zs R s' hx hD' hzl hRv r => ?_) fun H1 xs1 s1 hL1 hxl hRv => ?_
    · obtain ⟨c, ac, hc, rfl, _, hac⟩ := hR.2 i x hx
      have hcm := List.mem_of_getElem? hc
      refine ⟨_, rfl, ac, c, 6, rfl, s' _ _ hac, by rw [h10 c hcm]; decide, hb6 c hcm, by decide, fun q' H2 s2 hq' hq2 => r _ _ s2 ?_⟩
      rw [List.take_add_one, List.getElem?_map, hc]
      refine (hRv.same s2).snoc ?_ hq2
      rcases hq' with rfl | z
      · exact ne_of_none hac hL
      · exact fun e => by rw [e, hD'] at z; cases z
    rw [List.take_of_length_le (by rw [List.length_map, hR.1]; exact Nat.le_refl _)] at hRv
    refine ⟨by decide, fun F H2 hF s2 hF2 => ?_⟩
    have hL2 := s2 _ _ hL1
    have nLF : L ≠ F := ne_of_none hL1 hF
    have hR2 : LR2 L F H2 xs1 (cs.map lowI) := ⟨hRv.1, fun i x hx => by
      obtain ⟨c, e, h1, h2, h3, h4⟩ := hRv.2 i x hx
      exact ⟨c, e, h1, h2, h3, ne_of_none h4 hF, s2 _ _ h4⟩⟩
    refine ⟨10, rfl, by decide, by decide, for_range (n := 10) (fun i σ HC => (∃ u3 u4 u5 u6 u7 u8 : Option V, σ = [some (.ref a), some (.ref L), some (.ref F), u3, u4, u5, u6, u7, u8]) /\ Same H HC /\ ∃ xs zs, HC L = some (.lst xs) /\ HC F = some (.lst zs) /\ LR2 L F HC xs (redN cs i).1 /\ LR2 L F HC zs (redN cs i).2) ⟨⟨_, _, _, _, _, _, rfl⟩, s1.trans s2, xs1, [], hL2, hF2, hR2, rfl, fun i x hx => by cases hx⟩ ?_ ?_⟩
    · rintro i σ HC hi ⟨⟨u3, u4, u5, u6, u7, u8, rfl⟩, sC, xs, zs, hxL, hzF, rL, rF⟩
      have CL := redN_clr h10 hb6 i
      rw [redN_succ]
      generalize hs : redN cs i = st at rL rF CL
      obtain ⟨rl, rf⟩ := st
      simp only at rL rF CL
      have hlen := CL.len
      refine ⟨_, rfl, L, xs, rfl, .inl (SqL.of hxL), _, rfl, by omega, by rw [rL.1]; omega, fun S hS => ?_⟩
      refine comp_range_ifG (n := ((xs.length : Int)).toNat) (σ0 := [some (.int (0 + (i : Int))), some (.ref L)]) (t := fun k => decide ((rl.getD k []).getD i 0 ≠ 0)) (f := fun k => V.int (k : Int)) (by rw [sizeLine_eq, Int.toNat_natCast, rL.1]; omega) ⟨_, rfl⟩ hS (fun k H' R s' hk r => ?_) (fun k H' R s' hk _ r => ?_) fun H3 s3 hS3 => ?_
      · rw [Int.toNat_natCast, rL.1] at hk
        have hk' : rl[k]? = some (rl.getD k []) := by rw [List.getD_eq_getElem?_getD, List.getElem?_eq_getElem hk]; rfl
        obtain ⟨o, ho, _, _, ho2⟩ := rL.at hk'
        have o10 := CL.l10 _ (.inl (List.mem_of_getElem? hk'))
        rw [Int.zero_add, Int.zero_add]
        refine ⟨_, rfl, _, rfl, L, xs, (k : Int), .ref o, rfl, rfl, SqL.of (s' _ _ hxL), atI_of (by omega) (by rw [Int.toNat_natCast]; exact ho), _, rfl, o, _, (i : Int), .int ((rl.getD k []).getD i 0), rfl, rfl, SqL.of (s' _ _ ho2), at_getD (by omega), ?_⟩
        have := r H' (Same.refl _)
        refine ⟨rfl, _, rfl, ?_⟩
        rw [ne_int]
        exact this
      · have := r H' (Same.refl _)
        rw [Int.zero_add]
        exact ⟨_, rfl, this⟩
      rw [Int.toNat_natCast, rL.1] at hS3
      have hP : (List.range rl.length).filter (fun k => decide ((rl.getD k []).getD i 0 ≠ 0)) = pivs rl i := rfl
      rw [hP] at hS3
      refine ⟨_, rfl, by decide, fun N H4 hN s4 hN4 => ?_⟩
      refine ⟨S, N, _, rfl, rfl, s4 _ _ hS3, hN4, _, rfl, ?_⟩
      have s04 := s3.trans s4
      have hxL4 := s04 _ _ hxL
      have hzF4 := s04 _ _ hzF
      have rL4 := rL.keep (fun c o _ _ e => s04 c o e)
      have rF4 := rF.keep (fun c o _ _ e => s04 c o e)
      have hS4 := s4 _ _ hS3
      have CL' := CL.step
      unfold redP at CL' ⊢
      have hpm : ∀ k ∈ pivs rl i, k < rl.length := fun k hk => List.mem_range.mp (List.mem_filter.mp hk).1
      cases hpv : pivs rl i with
      | nil =>
        simp only [hpv] at hS4 CL' ⊢
        refine iteF ⟨⟨_, _, _, _, _, _, rfl⟩, sC.trans s04, xs, zs, hxL4, hzF4, rL4, rF4⟩
      | cons k ks =>
        have hkl : k < rl.length := hpm k (by rw [hpv]; exact List.mem_cons_self)
        simp only [hpv] at hS4 CL' ⊢
        have hlk : rl[k]? = some (rl.getD k []) := by rw [List.getD_eq_getElem?_getD, List.getElem?_eq_getElem hkl]; rfl
        have l10 := CL.l10 _ (.inl (List.mem_of_getElem? hlk))
        have lbd := CL.bd _ (.inl (List.mem_of_getElem? hlk))
        generalize rl.getD k [] = lead at hlk l10 lbd CL' ⊢
        obtain ⟨o, ho, o1, o2, ho2⟩ := rL4.at hlk
        have hkx : k < xs.length := by rw [rL4.1]; exact hkl
        refine iteT ⟨_, rfl, .inl ⟨rfl, _, SqL.of hxL4⟩, _, rfl, S, _, 0, .int (k : Int), rfl, rfl, SqL.of hS4, atI_of (by decide) rfl, L, xs, (k : Int), k, .ref o, rfl, rfl, hxL4, by omega, by omega, (ixN_seq (by rw [ixN_of (by omega) (by omega), Int.toNat_natCast])).1, ho, ?_⟩
        generalize hH5 : upd H4 L (.lst (xs.eraseIdx k)) = H5
        have b5 : But L H4 H5 := by rw [← hH5]; exact But.upd
        have hL5 : H5 L = some (.lst (xs.eraseIdx k)) := by rw [← hH5]; exact upd_same
        have hF5 := b5 _ _ (Ne.symm nLF) hzF4
        have rL5 := (rL4.erase k).keep (fun c o n1 _ e => b5 c o n1 e)
        have rF5 := rF4.keep (fun c o n1 _ e => b5 c o n1 e)
        have ho5 := b5 _ _ o1 ho2
        have sC5 : Same H H5 := fun c e h => b5 c e (ne_of_none h hL) ((sC.trans s04) c e h)
        have hel : (rl.eraseIdx k).length + 1 = rl.length := by rw [List.length_eraseIdx_of_lt hkl]; omega
        have cm : ∀ r, r ∈ rl.eraseIdx k ∨ r ∈ rf -> r ∈ rl ∨ r ∈ rf := fun r z => z.elim (fun z => .inl (List.mem_of_mem_eraseIdx z)) .inr
        generalize xs.eraseIdx k = ws at hL5 rL5
        generalize rl.eraseIdx k = re at rL5 hel cm
        have hbC := bC_le rf.length (by omega)
        refine ⟨_, rfl, _, rfl, (by show 2 <= sizeLine; decide), fun W H6 hW s6 hW6 => ?_⟩
        refine ⟨W, rfl, ⟨_, SqL.of hW6⟩, for_list (K := K) (a := W) (xs := [.ref L, .ref F]) (fun j σ HC => (∃ u6 u7 u8 : Option V, σ = [some (.ref a), some (.ref L), some (.ref F), some (.int (0 + (i : Int))), some (.ref S), some (.ref o), u6, u7, u8]) /\ But2 L F H6 HC /\ ∃ xs' zs', HC L = some (.lst xs') /\ HC F = some (.lst zs') /\ LR2 L F HC xs' (if 0 < j then re.map (clr1 lead i) else re) /\ LR2 L F HC zs' (if 1 < j then rf.map (clr1 lead i) else rf)) ⟨⟨_, _, _, rfl⟩, (fun c o _ _ e => e), ws, zs, s6 _ _ hL5, s6 _ _ hF5, rL5.keep (fun c o _ _ e => s6 c o e), rF5.keep (fun c o _ _ e => s6 c o e)⟩ (fun j σ HC _ ⟨_, b, _⟩ => SqL.of (b _ _ (fun z => by rw [z, hL5] at hW; cases hW) (fun z => by rw [z, hF5] at hW; cases hW) hW6)) ?_ ?_⟩
        · rintro j x σ HD hx ⟨⟨u6, u7, u8, rfl⟩, b6, xs', zs', hxL', hzF', rL', rF'⟩
          have hcase : ∃ (R : Addr) (vs' : List V) (rows : List (List Int)), x = .ref R /\ (R = L ∨ R = F) /\ HD R = some (.lst vs') /\ LR2 L F HD vs' rows /\ (∀ r ∈ rows, r ∈ rl ∨ r ∈ rf) /\ rows.length <= 8 /\ (∀ HE ws', But R HD HE -> HE R = some (.lst ws') -> LR2 L F HE ws' (rows.map (clr1 lead i)) -> ∃ xs' zs', HE L = some (.lst xs') /\ HE F = some (.lst zs') /\ LR2 L F HE xs' (if 0 < j + 1 then re.map (clr1 lead i) else re) /\ LR2 L F HE zs' (if 1 < j + 1 then rf.map (clr1 lead i) else rf)) := by
            have hj2 : j < 2 := (List.getElem?_eq_some_iff.mp hx).1
            rcases Nat.lt_or_ge j 1 with y | y
            · have j0 : j = 0 := by omega
              subst j0
              cases hx
              exact ⟨L, xs', re, rfl, .inl rfl, hxL', rL', fun r z => cm r (.inl z), by omega, fun HE ws' bE h1 h2 => ⟨ws', zs', h1, bE _ _ (Ne.symm nLF) hzF', h2, rF'.keep (fun c o n1 _ e => bE c o n1 e)⟩⟩
            · have j1 : j = 1 := by omega
              subst j1
              cases hx
              exact ⟨F, zs', rf, rfl, .inr rfl, hzF', rF', fun r z => cm r (.inr z), by omega, fun HE ws' bE h1 h2 => ⟨xs', ws', bE _ _ nLF hxL', h1, rL'.keep (fun c o _ n2 e => bE c o n2 e), h2⟩⟩
          obtain ⟨R, vs', rows, rfl, hRLF, hvR, rR, hrm, hr8, post⟩ := hcase
          have ho6 : HD o = some (lstI lead) := b6 _ _ o1 o2 (s6 _ _ ho5)
          have oR : o ≠ R := by rcases hRLF with rfl | rfl <;> assumption
          refine ⟨_, rfl, R, vs', rfl, .inl (SqL.of hvR), _, rfl, by omega, by rw [rR.1]; omega, for_range (n := ((vs'.length : Int)).toNat) (fun t σ HK => (∃ u7 u8 : Option V, σ = [some (.ref a), some (.ref L), some (.ref F), some (.int (0 + (i : Int))), some (.ref S), some (.ref o), some (.ref R), u7, u8]) /\ But R HD HK /\ ∃ ws', HK R = some (.lst ws') /\ LR2 L F HK ws' ((rows.take t).map (clr1 lead i) ++ rows.drop t)) ⟨⟨_, _, rfl⟩, But.refl _ _, vs', hvR, rR⟩ ?_ ?_⟩
          · rintro t σ HK ht ⟨⟨u7, u8, rfl⟩, bK, ws', hwR, rW⟩
            rw [Int.toNat_natCast, rR.1] at ht
            have hct : rows[t]? = some rows[t] := List.getElem?_eq_getElem ht
            generalize rows[t] = c at hct
            have hcm := hrm c (List.mem_of_getElem? hct)
            have c10 := CL.l10 c hcm
            have cbd := CL.bd c hcm
            obtain ⟨y, hy, y1, y2, hy2⟩ := rW.at (mid_get (clr1 lead i) hct)
            have hoK := bK _ _ oR ho6
            have hwl : ws'.length = rows.length := by rw [rW.1, List.length_append, List.length_map, List.length_take, List.length_drop]; omega
            rw [Int.zero_add, Int.zero_add]
            refine ⟨_, rfl, _, rfl, R, ws', (t : Int), .ref y, rfl, rfl, SqL.of hwR, atI_of (by omega) (by rw [Int.toNat_natCast]; exact hy), _, rfl, y, _, (i : Int), .int (c.getD i 0), rfl, rfl, SqL.of hy2, at_getD (by omega), ?_⟩
            refine ⟨_, rfl, _, rfl, R, ws', (t : Int), .ref y, rfl, rfl, SqL.of hwR, atI_of (by omega) (by rw [Int.toNat_natCast]; exact hy), _, rfl, y, o, _, _, rfl, hy2, hoK, fun Z hZ => ?_⟩
            refine comp_zipL_gen (K := K) (f := fun x y => x * lead.getD i 0 - c.getD i 0 * y) (σ0 := [some (.int (c.getD i 0)), some (.ref o), some (.int (i : Int))]) (xs := c) (ys := lead) (by rw [c10, l10]; decide) ⟨_, _, rfl⟩ hZ hy2 hoK (fun x z H' R' hx hz s' r' => ?_) fun H7 s7 hZ7 => ?_
            · exact ⟨_, rfl, _, rfl, _, rfl, o, _, (i : Int), .int (lead.getD i 0), rfl, rfl, SqL.of (s' _ _ hoK), at_getD (by omega), _, _, rfl, rfl, ⟨bC rf.length, bC rf.length, cbd x hx, lbd.at i, by omega, by omega⟩, _, rfl, _, rfl, _, _, rfl, rfl, ⟨bC rf.length, bC rf.length, cbd.at i, lbd z hz, by omega, by omega⟩, _, _, rfl, rfl, r'⟩
            · have hlay : List.zipWith (fun x y => x * lead.getD i 0 - c.getD i 0 * y) c lead = lay2 (lead.getD i 0) (c.getD i 0) c lead := by
                unfold lay2
                congr 1
                funext x y
                rw [Int.mul_comm]
              rw [hlay] at hZ7
              have hbl := lay2_bd2 (lbd.at i) (cbd.at i) cbd lbd
              refine ⟨Z, _, _, rfl, hZ7, by rw [lay2_len (by rw [c10, l10]), c10]; decide, hbl, by omega, fun q' H8 s8 hq' hq8 => ?_⟩
              have hwR8 := s8 _ _ (s7 _ _ hwR)
              have nq : ∀ e o', HK e = some o' -> q' ≠ e := fun e o' he => by
                rcases hq' with rfl | z
                · exact fun z => by rw [z, he] at hZ; cases hZ
                · exact fun w => by rw [w, s7 _ _ he] at z; cases z
              refine ⟨_, rfl, _, rfl, R, ws', (t : Int), t, rfl, rfl, hwR8, by rw [ixN_of (by omega) (by omega), Int.toNat_natCast], ⟨_, _, rfl⟩, ?_, _, upd_same, ?_⟩
              · exact (bK.trans (But.of (s7.trans s8))).set
              · have kLF : ∀ e, e = L ∨ e = F -> q' ≠ e := fun e he => by
                  by_cases z : e = R
                  · rw [z]; exact nq _ _ hwR
                  · rcases he with rfl | rfl
                    · exact nq _ _ (bK _ _ z hxL')
                    · exact nq _ _ (bK _ _ z hzF')
                have bR : But2 L F H8 (upd H8 R (.lst (ws'.set t (.ref q')))) := fun c' o' n1 n2 e => by
                  rw [upd_ne (fun z => hRLF.elim (fun w => n1 (z.trans w)) (fun w => n2 (z.trans w)))]
                  exact e
                have := ((rW.keep (fun c' o' _ _ e => s8 c' o' (s7 c' o' e))).set t (kLF L (.inl rfl)) (kLF F (.inr rfl)) hq8).keep bR
                have e := set_step (clr1 lead i) hct
                unfold clr1 at e this ⊢
                rw [e] at this
                exact this
          · rintro σ HK ⟨⟨u7, u8, rfl⟩, bK, ws', hwR, rW⟩
            rw [Int.toNat_natCast, rR.1, List.take_length, List.drop_length, List.append_nil] at rW
            refine ⟨⟨_, _, _, rfl⟩, fun c' o' n1 n2 e => ?_, post HK ws' bK hwR rW⟩
            exact bK _ _ (fun z => hRLF.elim (fun w => n1 (z.trans w)) (fun w => n2 (z.trans w))) (b6 _ _ n1 n2 e)
        · rintro σ HD ⟨⟨u6, u7, u8, rfl⟩, b6, xs', zs', hxL', hzF', rL', rF'⟩
          rw [if_pos (show 0 < [V.ref L, V.ref F].length from Nat.le.step (Nat.le_refl 1))] at rL'
          rw [if_pos (show 1 < [V.ref L, V.ref F].length from Nat.le_refl 2)] at rF'
          refine ⟨_, rfl, .inl ⟨rfl, _, SqL.of hzF'⟩, _, rfl, F, zs', _, rfl, rfl, hzF', by rw [sizeLine_eq, rF'.1, List.length_map]; omega, fun H9 b9 hF9 => ?_⟩
          have ho6 : HD o = some (lstI lead) := b6 _ _ o1 o2 (s6 _ _ ho5)
          have k9 : ∀ c' o', c' ≠ L -> c' ≠ F -> HD c' = some o' -> H9 c' = some o' := fun c' o' _ n2 e => b9 c' o' n2 e
          refine ⟨⟨_, _, _, _, _, _, rfl⟩, fun c' o' e => ?_, xs', _, b9 _ _ nLF hxL', hF9, rL'.keep k9, (rF'.snoc o1 o2 ho6).keep k9⟩
          have n1 := ne_of_none e hL
          have n2 : c' ≠ F := ne_of_none (s1 _ _ e) hF
          exact b9 _ _ n2 (b6 _ _ n1 n2 (s6 _ _ (sC5 _ _ e)))
    · rintro σ HC ⟨⟨u3, u4, u5, u6, u7, u8, rfl⟩, sC, xs, zs, hxL, hzF, rL, rF⟩
      exact ⟨_, rfl, q F HC zs sC hzF rF.1⟩
end
end W2
namespace W2
open PySem L2 Mth
section
variable {P : Program} {w : World} {K : PySem.W.Frag} {mg : Str -> Option Value} {base : Heap}
def intOf : V -> Int
  | .int i => i
  | _ => 0
def rowI (H : Hp) (v : V) : Option (List Int) := match isT H v with
  | some xs => if decide (xs.length = 10) && xs.all isW then some (xs.map intOf) else none
  | none => none
theorem rowI_tup {H : Hp} {a : Addr} {r : List Int} (ha : H a = some (tupI r)) (h10 : r.length = 10) : rowI H (.ref a) = some r := by
  unfold rowI
  rw [isT_ref ha]
  show (if decide ((r.map V.int).length = 10) && (r.map V.int).all isW then some ((r.map V.int).map intOf) else none) = some r
  rw [List.length_map, h10, show (r.map V.int).all isW = true from List.all_eq_true.mpr fun x hx => by
    obtain ⟨n, _, rfl⟩ := List.mem_map.mp hx
    rfl, List.map_map]
  have e : (intOf ∘ V.int) = id := rfl
  rw [e, List.map_id]
  rfl
theorem ok_l_whole (T : Tx K mg) : FnOk P w K mg base CX0 1 T.f_l_whole T.fd_l_whole ["found"] sp_whole := by
  refine T.D_l_whole.fn.okQ sc_l_whole (fun vs H Q E h => ?_) (fun cdv A outer s H vs Q E hr h => ?_)
  · obtain ⟨v, rfl, _⟩ := h
    rfl
  · obtain ⟨v, rfl, k, q⟩ := h
    refine ⟨_, (qss_one (qs_ret (qe_and (qe_callB call_isi (by rfl) T.m_isinstance b_isinstance (qa_c (qv 0) (qa_c (qe_ty (by rfl) T.m_int b_int) qa_nil))) (qe_one (qe_not (qe_callB call_isi (by rfl) T.m_isinstance b_isinstance (qa_c (qv 0) (qa_c (qe_ty (by rfl) T.m_bool b_bool) qa_nil)))))))), ?_⟩
    obtain ⟨t, ty, e⟩ := isi_I (K := K) k
    obtain ⟨t', ty', e'⟩ := isi_B (K := K) k
    rw [← isW_eq] at q
    refine ⟨v, rfl, v, "int", t, _, rfl, ty, e, _, rfl, ?_⟩
    cases hi : isI v with
    | false =>
      rw [hi] at q
      exact iteF q
    | true =>
      rw [hi] at q
      exact iteT ⟨v, rfl, v, "bool", t', _, rfl, ty', e', _, rfl, q⟩
def sp_l_is_row : Sp := fun vs H Q _ => ∃ v, vs = [v, .int 10] /\ wf1 H v /\ ∀ H', Same H H' -> Q (.bl (rowI H v).isSome) H'
theorem ok_l_is_row (T : Tx K mg) : FnOk P w K mg base CX0 2 T.f_l_is_row T.fd_l_is_row ["thing", "many"] sp_l_is_row := by
  refine T.D_l_is_row.fn.okQ sc_l_is_row (fun vs H Q E h => ?_) (fun cdv A outer s H vs Q E hr h => ?_)
  · obtain ⟨v, rfl, _⟩ := h
    rfl
  · obtain ⟨v, rfl, ⟨k, kp⟩, q⟩ := h
    refine ⟨_, (qss_one (qs_ret (qe_and (qe_callB call_isi (by rfl) T.m_isinstance b_isinstance (qa_c (qv 0) (qa_c (qe_ty (by rfl) T.m_tuple b_tuple) qa_nil))) (qe_and (qe_cmpR op_eq (qe_callB call_len_seq (by rfl) T.m_len b_len (qa_c (qv 0) qa_nil)) (qv 1) (nomark _)) (qe_one (qe_callB (call_all rfl) (by rfl) T.m_all b_all (qa_c (qe_comp (compOk_of (osc := defScope s_l_is_row) (XN := ["thing", "many"]) (N := ["one"]) (js := [none]) rfl rfl rfl (List.forall_mem_nil _) (by decide +kernel) rfl) rfl (qi_tup (qv 0)) (fun _ _ _ _ => (qg_name (i := 0) (show List.Nodup (["one"] : List Str) from by decide +kernel) rfl (Or.inl rfl) (Or.inr rfl))) (fun _ _ _ _ => qts_nil)
          (fun _ _ _ _ => (qe_call (ok_l_whole T) (hr.mono (by decide)) rfl T.D_l_whole.at_ T.D_l_whole.fn.kp T.D_l_whole.bd .nil pass0 (qa_c (qv 0) qa_nil)))) qa_nil))))))), ?_⟩
    obtain ⟨t, ty, e⟩ := isi_T (K := K) k
    refine ⟨_, rfl, v, "tuple", t, _, rfl, ty, e, _, rfl, ?_⟩
    cases hT : isT H v with
    | none =>
      have q' := q H (Same.refl H)
      rw [show rowI H v = none by unfold rowI; rw [hT]] at q'
      exact iteF q'
    | some xs =>
      obtain ⟨a, rfl, ha⟩ := isT_some hT
      obtain ⟨hl, hk⟩ := kp xs hT
      have pv : (rowI H (.ref a)).isSome = (decide (xs.length = 10) && xs.all isW) := by
        unfold rowI
        rw [hT]
        simp only
        split
        · next hc => rw [hc]; rfl
        · next hc =>
          cases hz : decide (xs.length = 10) && xs.all isW with
          | false => rfl
          | true => exact absurd hz hc
      refine iteT ⟨_, rfl, a, xs, rfl, .inr (SqT.of ha), _, rfl, rfl, _, rfl, ?_⟩
      by_cases e2 : xs.length = 10
      · rw [decide_eq_true (show V.int (xs.length : Int) = V.int 10 by rw [e2]; rfl)]
        refine iteT ⟨_, rfl, a, rfl, ⟨_, SqT.of ha⟩, fun D hD => comp_map_tupS (xs := xs) (f := fun v => .bl (isW v)) rfl (by rw [e2]; decide) hD (SqT.of ha) ?_ ⟨D, xs.map isW, rfl, ?_, ?_⟩⟩
        · intro x H' R s' hx r
          exact ⟨_, rfl, x, rfl, Same.kind s' (hk x hx), r⟩
        · rw [List.map_map]
          exact SqL.of upd_same
        · have q' := q _ (Same.new (o := .lst (xs.map fun v => V.bl (isW v))) hD)
          rw [pv, decide_eq_true e2, Bool.true_and] at q'
          rw [List.all_map]
          exact q'
      · rw [decide_eq_false (show ¬ V.int (xs.length : Int) = V.int 10 from fun z => e2 (by injection z with z; omega))]
        have q' := q H (Same.refl H)
        rw [pv, decide_eq_false e2] at q'
        exact iteF q'
def sp_l_dot : Sp := fun vs H Q _ => ∃ (a b : Addr) (r p : List Int) (m n : Nat), vs = [.ref a, .ref b] /\ H a = some (tupI r) /\ H b = some (lstI p) /\ r.length <= 1000 /\ BdI m r /\ BdI n p /\ m <= 20000 /\ n <= 20000 /\ ∀ H', Same H H' -> Q (.int (dotI r p)) H'
theorem ok_l_dot (T : Tx K mg) : FnOk P w K mg base CX0 1 T.f_l_dot T.fd_l_dot ["row", "other"] sp_l_dot := by
  refine T.D_l_dot.fn.okQ sc_l_dot (fun vs H Q E h => ?_) (fun cdv A outer s H vs Q E hr h => ?_)
  · obtain ⟨a, b, r, p, m, n, rfl, _⟩ := h
    rfl
  · obtain ⟨a, b, r, p, m, n, rfl, ha, hb, hl, hr', hp, hm, hn, q⟩ := h
    refine ⟨_, (qss_one (qs_ret (qe_callB (call_sumL rfl) (by rfl) T.m_sum b_sum (qa_c (qe_comp (compOk_of (osc := defScope s_l_dot) (XN := ["row", "other"]) (N := ["one", "two"]) (js := [none, none]) rfl rfl rfl (List.forall_mem_nil _) (by decide +kernel) rfl) rfl (qi_zipM rfl rfl T.m_zip (qa_c (qv 0) (qa_c (qv 1) qa_nil))) (fun _ _ _ _ => (qg_tupN (K := K) (n := 2) rfl rfl (qgs_cons (qg_name (i := 0) (show List.Nodup (["one", "two"] : List Str) from by decide +kernel) rfl (Or.inl rfl) (Or.inr rfl)) (qgs_cons (qg_name (i := 1) (show List.Nodup (["one", "two"] : List Str) from by decide +kernel) rfl (Or.inl rfl) (Or.inr rfl)) qgs_nil)))) (fun _ _ _ _ => qts_nil)
          (fun _ _ _ _ => (qe_op op_mulX (qv 0) (qv 1)))) qa_nil)))), ?_⟩
    refine ⟨_, rfl, _, rfl, a, b, rfl, ⟨_, SqT.of ha⟩, ⟨_, SqL.of hb⟩, fun D hD => ?_⟩
    refine comp_zipM_gen (K := K) (f := fun x y => .int (x * y)) (σ0 := []) (xs := r) (ys := p) (by rw [sizeLine_eq]; omega) ⟨_, _, rfl⟩ hD ha hb (fun x y H' R hx hy r' => ⟨_, rfl, _, rfl, _, _, rfl, rfl, ⟨m, n, hr' x hx, hp y hy, hm, hn⟩, r'⟩) fun H3 s3 h3 => ?_
    refine ⟨D, _, rfl, SqL.of (by rw [h3, ← List.map_zipWith (f := V.int)]), q H3 s3⟩
end
end W2
namespace W2
open PySem L2 Mth
theorem But.fresh {H H' : Hp} {p : Addr} {o : HO} (hp : H p = none) (bt : But p (L2.upd H p o) H') : Same H H' := fun c e h => bt _ _ (ne_of_none h hp) (by rw [upd_ne (ne_of_none h hp)]; exact h)
theorem bB_left : ∀ j, j <= 9 -> bB j + 14 + (10 - j) * (bB j + 1) <= 20000 := by decide
def ldsL (rows : List (List Int)) : List Int := rows.map fun r => ((leadF r : Nat) : Int)
theorem lds_rise {b : Nat} {cs rows : List (List Int)} (BR : BaseR b cs rows) : (ldsL rows).Pairwise (· < ·) := by
  unfold ldsL
  rw [List.pairwise_map]
  refine BR.pw.imp_of_mem fun {r s} hr hs h => ?_
  obtain ⟨l, h1, h2⟩ := h
  obtain ⟨m, hm⟩ := BR.nz s hs
  rw [(leadF_of (BR.l10 r hr) h1).1, (leadF_of (BR.l10 s hs) hm).1]
  have : l < m := by
    rcases Nat.lt_or_ge l m with z | z
    · exact z
    · exact absurd (h2 m z) hm.1
  omega
theorem lds_range {b : Nat} {cs rows : List (List Int)} (BR : BaseR b cs rows) : ∀ x ∈ ldsL rows, 0 <= x /\ x < 10 := fun x hx => by
  obtain ⟨r, hr, rfl⟩ := List.mem_map.mp hx
  obtain ⟨l, hl⟩ := BR.nz r hr
  obtain ⟨e, h10⟩ := leadF_of (BR.l10 r hr) hl
  rw [e]
  omega
def atL (r : List Int) : V -> Bool
  | .int n => decide (r.getD n.toNat 0 ≠ 0)
  | _ => false
theorem lds_filter {b : Nat} {cs rows : List (List Int)} (BR : BaseR b cs rows) (BX : BaseX cs rows) {r : List Int} (hr : r ∈ rows) : ((ldsL rows).map V.int).filter (atL r) = [V.int ((leadF r : Nat) : Int)] := by
  have hnd : rows.Nodup := BR.pw.imp fun {a b} h e => by
    obtain ⟨l, h1, h2⟩ := h
    rw [← e] at h2
    exact h1.1 (h2 l (Nat.le_refl _))
  unfold ldsL
  rw [List.map_map, List.filter_map]
  have key : rows.filter (atL r ∘ (V.int ∘ fun r => ((leadF r : Nat) : Int))) = rows.filter fun s => decide (s = r) := by
    refine List.filter_congr fun s hs => ?_
    show decide (r.getD (((leadF s : Nat) : Int)).toNat 0 ≠ 0) = decide (s = r)
    rw [Int.toNat_natCast]
    obtain ⟨l, hl⟩ := BR.nz s hs
    rw [(leadF_of (BR.l10 s hs) hl).1]
    by_cases e : s = r
    · rw [decide_eq_true e, decide_eq_true]
      rw [← e]
      exact hl.1
    · rw [decide_eq_false e, decide_eq_false]
      exact fun z => z (BX.z0 r hr s hs (fun y => e y.symm) l hl)
  have one : ∀ l : List (List Int), l.Nodup -> r ∈ l -> l.filter (fun s => decide (s = r)) = [r] := fun l => by
    induction l with
    | nil => intro _ h; cases h
    | cons a l ih =>
      intro hd hm
      have hd' := List.nodup_cons.mp hd
      by_cases e : a = r
      · subst e
        rw [List.filter_cons_of_pos (by rw [decide_eq_true rfl]), List.filter_eq_nil_iff.mpr fun x hx => by rw [decide_eq_false (show ¬ x = a from fun z => hd'.1 (by rw [← z]; exact hx))]; decide]
      · rw [List.filter_cons_of_neg (by rw [decide_eq_false e]; decide)]
        exact ih hd'.2 ((List.mem_cons.mp hm).resolve_left fun z => e z.symm)
  rw [key, one rows hnd hr]
  rfl
theorem kind_row {H : Hp} {es : List Int} : ∀ x ∈ es.map V.int, kindV H x := fun x hx => by
  obtain ⟨i, _, rfl⟩ := List.mem_map.mp hx
  trivial
theorem rowsAt {H : Hp} {ys : List V} {rows : List (List Int)} (h : RowsV H ys rows) {i : Nat} {x : V} (hx : ys[i]? = some x) : ∃ c o, rows[i]? = some c /\ c ∈ rows /\ x = .ref o /\ H o = some (tupI c) := by
  obtain ⟨c, hc, o, rfl, ho⟩ := h.2 i x hx
  exact ⟨c, o, hc, List.mem_of_getElem? hc, rfl, ho⟩
theorem add_bd {d e : Nat} {x y by' : Int} (hx : x.natAbs <= 2 ^ (d + 2 + e)) (hy : y.natAbs <= 2 ^ d) (h1 : -3 <= by') (h2 : by' <= 3) : (x + by' * y).natAbs <= 2 ^ (d + 2 + (e + 1)) := by
  have h3 : (by' * y).natAbs <= 3 * 2 ^ d := by
    rw [Int.natAbs_mul]
    exact Nat.mul_le_mul (by omega) hy
  have h4 : 2 ^ (d + 2 + (e + 1)) = 2 ^ (d + 2 + e) * 2 := Nat.pow_succ ..
  have h5 : 2 ^ d * 4 <= 2 ^ (d + 2 + e) := by
    rw [show d + 2 + e = d + (2 + e) by omega, Nat.pow_add]
    exact Nat.mul_le_mul_left _ (Nat.pow_le_pow_right (n := 2) (by decide) (show 2 <= 2 + e by omega))
  have h6 := Int.natAbs_add_le x (by' * y)
  omega
section
variable {P : Program} {w : World} {K : PySem.W.Frag} {mg : Str -> Option Value} {base : Heap}
abbrev kLaw : Nat := 7
def sp_law (K : PySem.W.Frag) : Sp := fun vs H Q _ => ∃ (a : Addr) (ns : List Int), vs = [.ref a] /\ SqL K H a (ns.map V.int) /\ ns.length <= 63 /\ ∀ H', Q (.bl true) H'
theorem ok_law (T : Tx K mg) {f : Addr} {fd : FuncData} (F : Fun K "law" "law" s_law f fd) : FnOk P w K mg base CX0 kLaw f fd ["script"] (sp_law K) := by
  refine F.okQ sc_law (fun vs H Q E h => ?_) (fun cdv A outer s H vs Q E hr h => ?_)
  · obtain ⟨a, ns, rfl, _⟩ := h
    rfl
  · obtain ⟨a, ns, rfl, hS, hlen, q⟩ := h
    refine ⟨_, (qss_cons (qs_set (i := 1) sc_law.nd rfl (Or.inl rfl) (qe_call (ok_l_program T) (hr.mono (by decide)) rfl T.D_l_program.at_ T.D_l_program.fn.kp T.D_l_program.bd .nil pass0 (qa_c (qe_call (ok_l_pot T) (hr.mono (by decide)) rfl T.D_l_pot.at_ T.D_l_pot.fn.kp T.D_l_pot.bd .nil pass0 (qa_c (qe_call (ok_l_cell_at T) (hr.mono (by decide)) rfl T.D_l_cell_at.at_ T.D_l_cell_at.fn.kp T.D_l_cell_at.bd .nil pass0 (qa_c (qv 0) (qa_c qe_int qa_nil))) qa_nil)) (qa_c qe_int qa_nil))))
      (qss_cons (qs_set (i := 2) sc_law.nd rfl (Or.inl rfl) (qe_call (ok_base T) (hr.mono (by decide)) rfl T.D_base.at_ T.D_base.fn.kp T.D_base.bd .nil pass0 (qa_c (qv 1) qa_nil)))
      (qss_cons (qs_set (i := 3) sc_law.nd rfl (Or.inl rfl) (qe_call (ok_l_adds T) (hr.mono (by decide)) rfl T.D_l_adds.at_ T.D_l_adds.fn.kp T.D_l_adds.bd .nil pass0 (qa_c (qv 1) qa_nil)))
      (qss_cons (qs_if (qt_cmpR op_ne (qe_callB call_len_seq (by rfl) T.m_len b_len (qa_c (qv 2) qa_nil)) (qe_op op_sub qe_int (qe_callB call_len_seq (by rfl) T.m_len b_len (qa_c (qe_call (ok_l_reduced T) (hr.mono (by decide)) rfl T.D_l_reduced.at_ T.D_l_reduced.fn.kp T.D_l_reduced.bd .nil pass0 (qa_c (qv 3) qa_nil)) qa_nil))) (nomark _))
        (qss_one (qs_ret qe_bl))
        qss_nil)
      (qss_cons (qs_set (i := 4) sc_law.nd rfl (Or.inl rfl) (qe_lstA qa_nil))
      (qss_cons (qs_for PassesOwn.never rfl (qi_list (qv 2)) (qg_name (i := 5) sc_law.nd rfl (Or.inr rfl))
        (qss_cons (qs_if (QW.pt (qw_or (qt_not (qt_val (qe_call (ok_l_is_row T) (hr.mono (by decide)) rfl T.D_l_is_row.at_ T.D_l_is_row.fn.kp T.D_l_is_row.bd .nil pass0 (qa_c (qv 5) (qa_c qe_int qa_nil))))) (qw_or (qt_cmpR op_ne (qe_call (ok_l_sharedT T) (hr.mono (by decide)) rfl T.D_l_shared.at_ T.D_l_shared.fn.kp T.D_l_shared.bd .nil pass0 (qa_c (qv 5) qa_nil)) qe_int (nomark _)) (qw_or1 (qt_val (qe_callB (call_any rfl) (by rfl) T.m_any b_any (qa_c (qe_comp (compOk_of (osc := defScope s_law) (XN := ["script", "program", "rows", "adds", "leads", "row", "k", "pot", "some", "by", "place", "kept"]) (N := ["add", "row"]) (js := [none, some 5]) rfl rfl rfl (List.forall_mem_cons.mpr ⟨rfl, (List.forall_mem_nil _)⟩) (by decide +kernel) rfl) rfl (qi_list (qv 3)) (fun _ _ _ _ => (qg_name (i := 0) (show List.Nodup (["add", "row"] : List Str) from by decide +kernel) rfl (Or.inl rfl) (Or.inr rfl))) (fun _ _ _ _ => qts_nil)
          (fun _ _ _ _ => (qe_cmpR op_ne (qe_call (ok_l_dot T) (hr.mono (by decide)) rfl T.D_l_dot.at_ T.D_l_dot.fn.kp T.D_l_dot.bd .nil pass0 (qa_c (qv 1) (qa_c (qv 0) qa_nil))) qe_int (nomark _)))) qa_nil)))))))
        (qss_one (qs_ret qe_bl))
        qss_nil)
      (qss_one (qs_expr (qe_bm PySem.F.plainAttrs_list PySem.F.slot_list_append PySem.F.type_list_append mt_appendA (qv 4) (qa_c (qe_call (ok_l_lead T) (hr.mono (by decide)) rfl T.D_l_lead.at_ T.D_l_lead.fn.kp T.D_l_lead.bd .nil pass0 (qa_c (qv 5) qa_nil)) qa_nil))))))
      (qss_cons (qs_if (qt_cmpR (op_neLI (hu_of hr)) (qv 4) (qe_sortedSet rfl (by rfl) T.m_set (by rfl) T.m_sorted (qa_c (qv 4) qa_nil)) (nomark _))
        (qss_one (qs_ret qe_bl))
        qss_nil)
      (qss_cons (qs_for PassesOwn.never rfl (qi_list (qv 2)) (qg_name (i := 5) sc_law.nd rfl (Or.inr rfl))
        (qss_one (qs_if (QW.pt (qw_or (qt_cmpR op_lt (qe_ix ix_tup (qv 5) (qe_call (ok_l_lead T) (hr.mono (by decide)) rfl T.D_l_lead.at_ T.D_l_lead.fn.kp T.D_l_lead.bd .nil pass0 (qa_c (qv 5) qa_nil)) (fun _ _ => rfl)) qe_int (nomark _)) (qw_or1 (qt_cmpR (op_neLI (hu_of hr)) (qe_comp (compOk_of (osc := defScope s_law) (XN := ["script", "program", "rows", "adds", "leads", "row", "k", "pot", "some", "by", "place", "kept"]) (N := ["place", "row"]) (js := [none, some 5]) rfl rfl rfl (List.forall_mem_cons.mpr ⟨rfl, (List.forall_mem_nil _)⟩) (by decide +kernel) rfl) rfl (qi_list (qv 4)) (fun _ _ _ _ => (qg_name (i := 0) (show List.Nodup (["place", "row"] : List Str) from by decide +kernel) rfl (Or.inl rfl) (Or.inr rfl))) (fun _ _ _ _ => (qts_one (qt_cmpR op_ne (qe_ix (ix_tupN (K := K) rfl) (qv 1) (qv 0) (fun _ _ => rfl)) qe_int (nomark _))))
          (fun _ _ _ _ => (qv 0))) (qe_lstA (qa_c (qe_call (ok_l_lead T) (hr.mono (by decide)) rfl T.D_l_lead.at_ T.D_l_lead.fn.kp T.D_l_lead.bd .nil pass0 (qa_c (qv 5) qa_nil)) qa_nil)) (nomark _)))))
        (qss_one (qs_ret qe_bl))
        qss_nil)))
      (qss_cons (qs_for PassesOwn.never rfl (qi_range2 rfl T.m_range (qa_c qe_int (qa_c qe_int qa_nil))) (qg_name (i := 6) sc_law.nd rfl (Or.inl rfl))
        (qss_cons (qs_set (i := 7) sc_law.nd rfl (Or.inl rfl) (qe_call (ok_l_pot T) (hr.mono (by decide)) rfl T.D_l_pot.at_ T.D_l_pot.fn.kp T.D_l_pot.bd .nil pass0 (qa_c (qe_call (ok_l_cell_at T) (hr.mono (by decide)) rfl T.D_l_cell_at.at_ T.D_l_cell_at.fn.kp T.D_l_cell_at.bd .nil pass0 (qa_c (qv 0) (qa_c (qv 6) qa_nil))) qa_nil)))
      (qss_cons (qs_set (i := 8) sc_law.nd rfl (Or.inl rfl) (qe_op op_repLA (qe_lstA (qa_c qe_int qa_nil)) qe_int))
      (qss_cons (qs_for PassesOwn.never rfl (qi_list (qv 2)) (qg_name (i := 5) sc_law.nd rfl (Or.inr rfl))
        (qss_cons (qs_set (i := 9) sc_law.nd rfl (Or.inr rfl) (qe_op op_sub (qe_call (ok_l_takeA T) (hr.mono (by decide)) rfl T.D_l_take.at_ T.D_l_take.fn.kp T.D_l_take.bd .nil pass0 (qa_c (qv 7) (qa_c qe_int qa_nil))) qe_int))
      (qss_one (qs_setC (i := 8) sc_law.nd rfl (Or.inl rfl) (compOk_of (osc := defScope s_law) (XN := ["script", "program", "rows", "adds", "leads", "row", "k", "pot", "some", "by", "place", "kept"]) (N := ["one", "two", "by"]) (js := [none, none, some 9]) rfl rfl rfl (List.forall_mem_cons.mpr ⟨rfl, (List.forall_mem_nil _)⟩) (by decide +kernel) rfl) rfl (qi_zipN rfl rfl T.m_zip (qa_c (qv 8) (qa_c (qv 5) qa_nil))) (fun _ _ _ _ => (qg_tupN (K := K) (n := 2) rfl rfl (qgs_cons (qg_name (i := 0) (show List.Nodup (["one", "two", "by"] : List Str) from by decide +kernel) rfl (Or.inl rfl) (Or.inr rfl)) (qgs_cons (qg_name (i := 1) (show List.Nodup (["one", "two", "by"] : List Str) from by decide +kernel) rfl (Or.inl rfl) (Or.inr rfl)) qgs_nil)))) (fun _ _ _ _ => qts_nil)
          (fun _ _ _ _ => (qe_op op_add (qv 0) (qe_op op_mulX (qv 2) (qv 1))))))))
      (qss_cons (qs_set (i := 10) sc_law.nd rfl (Or.inl rfl) (qe_call (ok_l_takeA T) (hr.mono (by decide)) rfl T.D_l_take.at_ T.D_l_take.fn.kp T.D_l_take.bd .nil pass0 (qa_c (qv 7) (qa_c qe_int qa_nil))))
      (qss_cons (qs_asg (qe_op op_add (qe_ix ix_list (qv 8) (qv 10) (fun _ _ => rfl)) (qe_callTy call_int1 (by rfl) T.m_int b_int (qa_c (qe_cmpR op_eq (qe_call (ok_l_takeA T) (hr.mono (by decide)) rfl T.D_l_take.at_ T.D_l_take.fn.kp T.D_l_take.bd .nil pass0 (qa_c (qv 7) (qa_c qe_int qa_nil))) qe_int (nomark _)) qa_nil))) (qg_sub (qv 8) (qv 10) set_list))
      (qss_cons (qs_set (i := 11) sc_law.nd rfl (Or.inl rfl) (qe_call (ok_is_kept T) (hr.mono (by decide)) rfl T.D_is_kept.at_ T.D_is_kept.fn.kp T.D_is_kept.bd .nil pass0 (qa_c (qv 1) (qa_c (qe_callTy call_tuple_ofA (by rfl) T.m_tuple b_tuple (qa_c (qv 8) qa_nil)) qa_nil))))
      (qss_one (qs_if (qt_cmpR op_ne (qv 11) (qe_cmpR (op_eqLd (hu_of hr)) (qe_call (ok_l_left T) (hr.mono (by decide)) rfl T.D_l_left.at_ T.D_l_left.fn.kp T.D_l_left.bd .nil pass0 (qa_c (qv 8) (qa_c (qv 2) qa_nil))) (qe_op op_repLA (qe_lstA (qa_c qe_int qa_nil)) qe_int) (nomark _)) (nomark _))
        (qss_one (qs_ret qe_bl))
        qss_nil)))))))))
      (qss_one (qs_ret qe_bl))))))))))), ?_⟩
    refine ⟨_, rfl, a, ns, 0, rfl, hS, by decide, fun c => ⟨c, rfl, fun n pt hpt => ?_⟩⟩
    refine ⟨pt, n, 8, rfl, upd_same, by decide, by decide, fun pr H1 n1 xs fs b1 ha1 hpr hfs x1 x8 => ?_⟩
    have s01 := But.fresh hpt b1
    have hbd := bd_row hfs.ok
    have R10 := rowsOf_10 fs
    have fl := hfs.1
    have rl := rowsOf_len fs
    obtain ⟨j, j9, jl, BR⟩ : ∃ j, j <= 9 /\ (baseF (rowsOf fs)).length + j <= 10 /\ BaseR (bB j) (rowsOf fs) (baseF (rowsOf fs)) := by
      have := baseG hbd (rowsOf fs).length (Nat.le_refl _)
      rwa [List.take_of_length_le (Nat.le_refl _)] at this
    have BX : BaseX (rowsOf fs) (baseF (rowsOf fs)) := by
      have := baseX hbd (rowsOf fs).length (Nat.le_refl _)
      rwa [List.take_of_length_le (Nat.le_refl _)] at this
    have hcount := base_count R10 hbd
    have hb9 := bB_9 j j9
    have hbl := bB_left j j9
    refine ⟨_, rfl, pr, xs, fs, rfl, hpr, hfs, by omega, fun bl H2 ys s2 hbl2 hR => ?_⟩
    generalize hrows : baseF (rowsOf fs) = rows at *
    have yl := hR.1
    refine ⟨_, rfl, pr, xs, fs, rfl, s2 _ _ hpr, hfs.same s2, by omega, fun al H3 zs f3 s3 hal hL => ?_⟩
    have s13 := s2.trans s3
    have hbl3 := s3 _ _ hbl2
    have hR3 : RowsV H3 ys rows := hR.same s3
    refine ⟨_, rfl, bl, ys, rfl, .inl (SqL.of hbl3), _, rfl, al, al, zs, rowsOf fs, rfl, hal, hL, R10, hbd, by omega, fun rd H4 ws s4 hrd hwl => ⟨rd, ws, rfl, .inl (SqL.of hrd), _, _, rfl, rfl, rfl, _, rfl, ?_⟩⟩
    rw [decide_eq_true (show V.int (ys.length : Int) = V.int (10 - (ws.length : Int)) by congr 1; omega)]
    refine iteF ?_
    refine ⟨(by show 0 <= sizeLine; decide), fun ld H5 f5 s5 hld => ?_⟩
    have s35 := s4.trans s5
    have s15 := s13.trans s35
    have s05 := s01.trans s15
    have hbl5 := s35 _ _ hbl3
    have hR5 : RowsV H5 ys rows := hR3.same s35
    have hal5 := s35 _ _ hal
    have hL5 : LRw al H5 zs (rowsOf fs) := hL.same s35
    have npr : pr ≠ ld := ne_of_none ((s13.trans s4) _ _ hpr) f5
    have nbl : bl ≠ ld := ne_of_none (s4 _ _ hbl3) f5
    have nal : al ≠ ld := ne_of_none (s4 _ _ hal) f5
    have notT : ∀ {G : Hp} {vs : List V} {xs : List V}, G ld = some (.lst vs) -> ∀ {o : Addr}, G o = some (.tup xs) -> o ≠ ld := fun {G vs xs} h {o} ho z => by rw [z, h] at ho; cases ho
    have ldl : (ldsL rows).length = rows.length := List.length_map _
    refine ⟨_, rfl, bl, rfl, ⟨_, SqL.of hbl5⟩, for_list (K := K) (a := bl) (xs := ys) (fun i σ HC => (∃ u5 u6 u7 u8 u9 u10 u11 : Option V, σ = [some (.ref a), some (.ref pr), some (.ref bl), some (.ref al), some (.ref ld), u5, u6, u7, u8, u9, u10, u11]) /\ But ld H5 HC /\ HC ld = some (.lst (((ldsL rows).take i).map V.int))) ⟨⟨_, _, _, _, _, _, _, rfl⟩, But.refl _ _, hld⟩ (fun i σ HC _ ⟨_, b, _⟩ => SqL.of (b _ _ nbl hbl5)) ?_ ?_⟩
    · rintro i x σ HC hx ⟨⟨u5, u6, u7, u8, u9, u10, u11, rfl⟩, bC, hlC⟩
      obtain ⟨r, o, hri, hrm, rfl, ho⟩ := rowsAt hR5 hx
      have r10 := BR.l10 r hrm
      have rb := BR.bd r hrm
      obtain ⟨l, hl⟩ := BR.nz r hrm
      obtain ⟨lf, l10⟩ := leadF_of r10 hl
      have hoC : HC o = some (tupI r) := bC _ _ (notT hld ho) ho
      have hil : i < rows.length := (List.getElem?_eq_some_iff.mp hri).1
      refine ⟨_, rfl, .ref o, rfl, wf1_tup hoC (by rw [List.length_map]; omega) kind_row, fun H6 s6 => ⟨_, rfl, ?_⟩⟩
      rw [rowI_tup hoC r10]
      refine iteF ?_
      refine ⟨_, rfl, o, r, rfl, s6 _ _ hoC, rfl, _, rfl, ?_⟩
      rw [BX.one r hrm, decide_eq_true (show V.int (((1 : Nat)) : Int) = V.int 1 from rfl)]
      refine iteF ?_
      have halC : H6 al = some (.lst zs) := s6 _ _ (bC _ _ nal hal5)
      refine ⟨_, rfl, al, rfl, ⟨_, SqL.of halC⟩, fun D hD => ?_⟩
      have zl := hL5.1
      refine comp_listG (K := K) (xs := zs) (σ0 := [some (.ref o)]) (by rw [sizeLine_eq]; omega) ⟨_, rfl⟩ hD halC (fun k H' us => us = (List.replicate k false).map V.bl) rfl (fun k H' H2 us _ _ h _ => h) (fun k x H' us R s' hx' _ _ hu kk => ?_) fun H7 us s7 hD7 _ hu => ?_
      · obtain ⟨c, ca, hc, rfl, nca, hca⟩ := hL5.2 k x hx'
        have hcm := List.mem_of_getElem? hc
        have hcaC : H' ca = some (lstI c) := s' _ _ (s6 _ _ (bC _ _ (fun z => by rw [z, hld] at hca; have e : (HO.lst []) = lstI c := Option.some.inj hca; unfold lstI at e; injection e with e; have := congrArg List.length e; rw [List.length_map, R10 c hcm] at this; cases this) hca))
        refine ⟨_, rfl, _, rfl, o, ca, r, c, bB j, 6, rfl, s' _ _ (s6 _ _ hoC), hcaC, by omega, rb, hbd c hcm, by omega, by decide, fun H8 s8 => ⟨rfl, kk _ H8 s8 ?_⟩⟩
        rw [BR.kept r hrm c hcm, List.replicate_succ', List.map_append, hu]
        rfl
      · subst hu
        refine ⟨D, _, rfl, SqL.of hD7, _, rfl, ?_⟩
        rw [show (List.replicate zs.length false).any id = false from List.any_eq_false.mpr fun b hb => by rw [(List.mem_replicate.mp hb).2]; decide]
        refine iteF ?_
        have s67 := s6.trans s7
        have hl7 := s67 _ _ hlC
        refine ⟨_, rfl, .inl ⟨rfl, _, SqL.of hl7⟩, _, rfl, o, r, l, rfl, s67 _ _ hoC, r10, hl, fun H8 s8 => ⟨ld, _, _, rfl, rfl, s8 _ _ hl7, by rw [sizeLine_eq, List.length_map, List.length_take]; omega, fun H9 b9 hl9 => ⟨⟨_, _, _, _, _, _, _, rfl⟩, ?_, ?_⟩⟩⟩
        · exact bC.trans ((But.of (s67.trans s8)).trans b9)
        · rw [hl9, List.take_add_one, List.map_append]
          have e : (ldsL rows)[i]? = some ((l : Nat) : Int) := by unfold ldsL; rw [List.getElem?_map, hri, ← lf]; rfl
          rw [e]
          rfl
    rintro σ HC ⟨⟨u5, u6, u7, u8, u9, u10, u11, rfl⟩, bC, hlC⟩
    rw [yl, List.take_of_length_le (by omega)] at hlC
    refine ⟨_, rfl, _, rfl, ld, ldsL rows, rfl, hlC, lds_rise BR, lds_range BR, fun sp H6 f6 s6 hsp => ⟨ld, sp, ldsL rows, rfl, rfl, s6 _ _ hlC, hsp, _, rfl, iteF ?_⟩⟩
    have b56 : But ld H5 H6 := bC.trans (But.of s6)
    have hl6 := s6 _ _ hlC
    have hbl6 := b56 _ _ nbl hbl5
    have hR6 : RowsV H6 ys rows := ⟨yl, fun i x hx => by
      obtain ⟨c, o, hc, _, rfl, ho⟩ := rowsAt hR5 hx
      exact ⟨c, hc, o, rfl, b56 _ _ (notT hld ho) ho⟩⟩
    refine ⟨_, rfl, bl, rfl, ⟨_, SqL.of hbl6⟩, for_list (K := K) (a := bl) (xs := ys) (fun i σ HD => (∃ u5 u6 u7 u8 u9 u10 u11 : Option V, σ = [some (.ref a), some (.ref pr), some (.ref bl), some (.ref al), some (.ref ld), u5, u6, u7, u8, u9, u10, u11]) /\ Same H6 HD) ⟨⟨_, _, _, _, _, _, _, rfl⟩, Same.refl _⟩ (fun i σ HD _ ⟨_, s⟩ => SqL.of (s _ _ hbl6)) ?_ ?_⟩
    · rintro i x σ HD hx ⟨⟨u5, u6, u7, u8, u9, u10, u11, rfl⟩, sD⟩
      obtain ⟨r, o, hri, hrm, rfl, ho⟩ := rowsAt (hR6.same sD) hx
      have r10 := BR.l10 r hrm
      obtain ⟨l, hl⟩ := BR.nz r hrm
      obtain ⟨lf, l10⟩ := leadF_of r10 hl
      refine ⟨_, rfl, _, rfl, o, r, l, rfl, ho, r10, hl, fun H7 s7 => ⟨o, _, (l : Int), .int (r.getD l 0), rfl, rfl, SqT.of (s7 _ _ ho), at_getD (by omega), _, _, rfl, rfl, _, rfl, ?_⟩⟩
      have hpos := BX.pos r hrm l hl
      rw [decide_eq_false (show ¬ r.getD l 0 < 0 by omega)]
      refine iteF ?_
      have hl7 := s7 _ _ (sD _ _ hl6)
      have ho7 := s7 _ _ ho
      refine ⟨_, rfl, ld, rfl, ⟨_, SqL.of hl7⟩, fun D hD => ?_⟩
      refine comp_list_if (K := K) (t := atL r) (xs := (ldsL rows).map V.int) (σ0 := [some (.ref o)]) (by rw [sizeLine_eq, List.length_map]; omega) ⟨_, rfl⟩ hD hl7 (fun x H' R s' hx' rr => ?_) (fun x H' R s' hx' _ rr => ⟨_, rfl, rr⟩) fun H8 s8 hD8 => ?_
      · obtain ⟨n, hn, rfl⟩ := List.mem_map.mp hx'
        obtain ⟨n0, n10⟩ := lds_range BR n hn
        obtain ⟨m, rfl⟩ := Int.eq_ofNat_of_zero_le n0
        refine ⟨_, rfl, _, rfl, o, _, (m : Int), .int (r.getD m 0), rfl, rfl, SqT.of (s' _ _ ho7), at_getD (by omega), rfl, _, rfl, ?_⟩
        have e : (!decide (V.int (r.getD m 0) = V.int 0)) = atL r (V.int (m : Int)) := by
          show _ = decide (r.getD (((m : Nat) : Int)).toNat 0 ≠ 0)
          rw [Int.toNat_natCast]
          by_cases z : r.getD m 0 = 0
          · rw [z]; rfl
          · rw [decide_eq_true z, decide_eq_false (fun w => z (by injection w))]; rfl
        rw [e]
        exact rr
      rw [lds_filter BR BX hrm, lf] at hD8
      refine ⟨_, rfl, o, r, l, rfl, s8 _ _ ho7, r10, hl, fun H9 s9 => ⟨(by show 1 <= sizeLine; decide), fun q1 G1 g1 t1 hq1 => ⟨D, q1, [((l : Nat) : Int)], rfl, rfl, (s9.trans t1) _ _ hD8, hq1, _, rfl, iteF ⟨⟨_, _, _, _, _, _, _, rfl⟩, sD.trans (s7.trans (s8.trans (s9.trans t1)))⟩⟩⟩⟩
    rintro σ HE ⟨⟨u5, u6, u7, u8, u9, u10, u11, rfl⟩, sE⟩
    have prE : ∀ {G : Hp}, Same HE G -> G pr = some (.tup xs) := fun s => s _ _ (sE _ _ (b56 _ _ npr (s15 _ _ hpr)))
    have frE : ∀ {G : Hp}, Same HE G -> FrcsV G xs fs := fun {G} s => ⟨fl, fun k x hx => by
      obtain ⟨i', j', c, h1, h2, h3, h4⟩ := (hfs.same s15).2 k x hx
      exact ⟨i', j', c, h1, h2, s _ _ (sE _ _ (b56 _ _ (notT hld h3) h3)), h4⟩⟩
    have blE : ∀ {G : Hp}, Same HE G -> G bl = some (.lst ys) := fun s => s _ _ (sE _ _ hbl6)
    have RE : ∀ {G : Hp}, Same HE G -> RowsV G ys rows := fun s => (hR6.same sE).same s
    have SE : SqL K HE a (ns.map V.int) := by
      rcases hS with (h | ⟨u, h⟩) | h
      · exact .inl (.inl (sE _ _ (b56 _ _ (ne_of_none ((s01.trans (s13.trans s4)) _ _ h) f5) (s05 _ _ h))))
      · exact .inl (.inr ⟨u, sE _ _ (b56 _ _ (ne_of_none ((s01.trans (s13.trans s4)) _ _ h) f5) (s05 _ _ h))⟩)
      · exact .inr h
    refine ⟨1, 6, rfl, ⟨by decide, by decide, by decide, by decide⟩, for_range (lo := 1) (n := 5) (fun i σ HF => (∃ u5 u6 u7 u8 u9 u10 u11 : Option V, σ = [some (.ref a), some (.ref pr), some (.ref bl), some (.ref al), some (.ref ld), u5, u6, u7, u8, u9, u10, u11]) /\ Same HE HF) ⟨⟨_, _, _, _, _, _, _, rfl⟩, Same.refl _⟩ ?_ (fun σ HF _ => q HF)⟩
    rintro i σ HF hi ⟨⟨u5, u6, u7, u8, u9, u10, u11, rfl⟩, sF⟩
    refine ⟨_, rfl, _, rfl, a, ns, _, rfl, sF.seq SE, by omega, fun c => ⟨c, rfl, fun n qt hqt => ?_⟩⟩
    have sG0 : Same HF (L2.upd HF qt (.lst [.int n])) := Same.new hqt
    generalize hG0 : L2.upd HF qt (.lst [.int n]) = G0 at *
    have hq0 : G0 qt = some (.lst [.int n]) := by rw [← hG0]; exact upd_same
    refine ⟨(by show 1 <= sizeLine; decide), fun l0 G1 g1 t1 hl0 => ⟨l0, 10, _, rfl, rfl, hl0, by decide, by decide, by decide, fun sm G2 g2 t2 hsm => ?_⟩⟩
    have t02 := t1.trans t2
    have sF2 := sG0.trans t02
    have hq2 := t02 _ _ hq0
    have nqs : qt ≠ sm := ne_of_none (t1 _ _ hq0) g2
    have fsm : HF sm = none := (sG0.trans t1).free g2
    have blF : ∀ {G : Hp}, Same HF G -> G bl = some (.lst ys) := fun s => blE (sF.trans s)
    refine ⟨_, rfl, bl, rfl, ⟨_, SqL.of (blF sF2)⟩, for_list (K := K) (a := bl) (xs := ys) (fun k σ HG => ∃ (sm : Addr) (es : List Int) (u5 u9 u10 u11 : Option V), σ = [some (.ref a), some (.ref pr), some (.ref bl), some (.ref al), some (.ref ld), u5, some (.int (1 + (i : Int))), some (.ref qt), some (.ref sm), u9, u10, u11] /\ Same HF HG /\ (∃ n' : Int, HG qt = some (.lst [.int n'])) /\ HG sm = some (.lst (es.map V.int)) /\ sm ≠ qt /\ HF sm = none /\ es.length = 10 /\ BdI (bB j + 2 + k) es) ⟨sm, List.replicate 10 0, _, _, _, _, rfl, sF2, ⟨n, hq2⟩, hsm, nqs.symm, fsm, by simp, fun x hx => by rw [(List.mem_replicate.mp hx).2]; exact Nat.zero_le _⟩ (fun k σ HG _ ⟨_, _, _, _, _, _, _, s, _⟩ => SqL.of (blF s)) ?_ ?_⟩
    · rintro k x σ HG hx ⟨sm, es, u5, u9, u10, u11, rfl, sG, ⟨n', hq'⟩, hsm, nsq, fsm, el, hes⟩
      obtain ⟨r, o, hri, hrm, rfl, ho⟩ := rowsAt (RE (sF.trans sG)) hx
      have r10 := BR.l10 r hrm
      have rb := BR.bd r hrm
      refine ⟨_, rfl, qt, n', 7, rfl, hq', by decide, by decide, fun tk n2 G3 k0 k1 b3 hq3 => ⟨_, _, rfl, rfl, ?_⟩⟩
      have hsm3 := b3 _ _ nsq hsm
      have ho3 := b3 _ _ (fun z => by rw [z, hq'] at ho; cases ho) ho
      refine ⟨_, rfl, _, rfl, sm, o, rfl, ⟨_, SqL.of hsm3⟩, ⟨_, SqT.of ho3⟩, fun D hD => ?_⟩
      refine comp_zipN_gen (K := K) (f := fun x y => .int (x + (tk - 3) * y)) (σ0 := [some (.int (tk - 3))]) (xs := es) (ys := r) (by rw [sizeLine_eq]; omega) ⟨_, _, rfl⟩ hD hsm3 ho3 (fun x y H' R hx' hy' s' rr => ⟨_, rfl, _, rfl, _, rfl, _, _, rfl, rfl, ⟨3, bB j, by show (tk - 3).natAbs <= 8; omega, rb y hy', by decide, by omega⟩, _, _, rfl, rfl, rr⟩) fun G4 s4' hD4 => ?_
      have hsD : HF D = none := by
        cases hz : HF D with
        | none => rfl
        | some o' =>
          have := b3 _ _ (fun z => by rw [z] at hz; rw [hqt] at hz; cases hz) (sG _ _ hz)
          rw [this] at hD
          cases hD
      refine ⟨D, List.zipWith (fun x y => x + (tk - 3) * y) es r, _, _, _, _, rfl, ?_, ⟨n2, s4' _ _ hq3⟩, ?_, (ne_of_none hq3 hD).symm, hsD, by rw [List.length_zipWith, el, r10]; rfl, fun z hz => ?_⟩
      · intro c o' e
        exact s4' _ _ (b3 _ _ (fun z => by rw [z, hqt] at e; cases e) (sG _ _ e))
      · rw [hD4, ← List.map_zipWith (f := V.int)]
      · obtain ⟨p, hp⟩ := List.getElem?_of_mem hz
        obtain ⟨x, y, h1, h2, rfl⟩ := List.getElem?_zipWith_eq_some.mp hp
        exact add_bd (hes x (List.mem_of_getElem? h1)) (rb y (List.mem_of_getElem? h2)) (by omega) (by omega)
    rintro σ HG ⟨sm, es, u5, u9, u10, u11, rfl, sG, ⟨n', hq'⟩, hsm, nsq, fsm, el, hes⟩
    rw [yl] at hes
    refine ⟨_, rfl, qt, n', 10, rfl, hq', by decide, by decide, fun pl n2 G3 p0 p1 b3 hq3 => ?_⟩
    have hsm3 := b3 _ _ nsq hsm
    obtain ⟨p, rfl⟩ := Int.eq_ofNat_of_zero_le p0
    have hp10 : p < es.length := by omega
    refine ⟨_, rfl, _, rfl, sm, _, (p : Int), .int (es.getD p 0), rfl, rfl, SqL.of hsm3, at_getD hp10, _, rfl, qt, n2, 3, rfl, hq3, by decide, by decide, fun x2 n4 G4 x20 x21 b4 hq4 => ⟨rfl, .inr ⟨_, rfl, _, _, rfl, rfl, ?_⟩⟩⟩
    have hsm4 := b4 _ _ nsq hsm3
    generalize hbb : (if decide (V.int x2 = V.int 0) = true then (1 : Int) else 0) = bb
    have hbb1 : 0 <= bb /\ bb <= 1 := by rw [← hbb]; split <;> omega
    refine ⟨_, rfl, _, rfl, sm, _, (p : Int), p, rfl, rfl, hsm4, by rw [ixN_of (by omega) (by rw [List.length_map]; omega), Int.toNat_natCast], ?_⟩
    generalize hG5 : L2.upd G4 sm (.lst ((es.map V.int).set p (V.int (es.getD p 0 + bb)))) = G5
    have b5 : But sm G4 G5 := by rw [← hG5]; exact But.upd
    have hsm5 : G5 sm = some (.lst ((es.set p (es.getD p 0 + bb)).map V.int)) := by rw [← hG5, upd_same, List.map_set]
    have el5 : (es.set p (es.getD p 0 + bb)).length = 10 := by rw [List.length_set]; exact el
    have hes5 : BdI (bB j + 14) (es.set p (es.getD p 0 + bb)) := fun z hz => by
      have e1 : 2 ^ (bB j + 2 + rows.length) <= 2 ^ (bB j + 13) := Nat.pow_le_pow_right (by decide) (by omega)
      have e2 : 2 ^ (bB j + 14) = 2 ^ (bB j + 13) * 2 := Nat.pow_succ ..
      have e3 := Nat.two_pow_pos (bB j + 13)
      rcases List.mem_or_eq_of_mem_set hz with y | y
      · have := hes z y
        omega
      · rw [y]
        have := hes.at p
        omega
    generalize es.set p (es.getD p 0 + bb) = ks at *
    have sF5 : Same HF G5 := fun c o e => by
      have m1 : c ≠ qt := fun z => by rw [z, hqt] at e; cases e
      have m2 : c ≠ sm := fun z => by rw [z, fsm] at e; cases e
      exact b5 _ _ m2 (b4 _ _ m1 (b3 _ _ m1 (sG _ _ e)))
    refine ⟨_, rfl, _, rfl, sm, _, rfl, SqL.of hsm5, fun tp G6 g6 t6 htp => ?_⟩
    have htp' : G6 tp = some (tupI ks) := htp
    have sF6 := sF5.trans t6
    refine ⟨pr, tp, xs, fs, ks, bB j + 14, rfl, prE (sF.trans sF6), frE (sF.trans sF6), by omega, htp', el5, hes5, by omega, fun G7 s7 => ?_⟩
    have sF7 := sF6.trans s7
    have hbits : bB j + 14 + rows.length * (bB j + 1) <= 20000 := Nat.le_trans (Nat.add_le_add_left (Nat.mul_le_mul_right _ (by omega)) _) hbl
    refine ⟨_, rfl, _, rfl, _, rfl, sm, bl, ks, ys, rows, bB j + 14, bB j, rfl, (t6.trans s7) _ _ hsm5, el5, hes5, blF sF7, RE (sF.trans sF7), fun o ho => ⟨BR.l10 o ho, BR.bd o ho⟩, BR.nz, by omega, hbits, fun lp G8 s8 hlp => ?_⟩
    refine ⟨(by show 1 <= sizeLine; decide), fun l1 G9 g9 t9 hl1 => ⟨l1, 10, _, rfl, rfl, hl1, by decide, by decide, by decide, fun l2 G10 g10 t10 hl2 => ?_⟩⟩
    have hl2' : G10 l2 = some (.lst ((List.replicate 10 (0 : Int)).map V.int)) := hl2
    have hlen8 : (leftF rows ks).length = (List.replicate 10 (0 : Int)).length := by
      have := (leftF_ok el5 hes5 (fun o ho => ⟨BR.l10 o ho, BR.bd o ho⟩) rows.length (Nat.le_refl _)).1
      rw [List.take_of_length_le (Nat.le_refl _)] at this
      rw [this]
      rfl
    refine ⟨lp, l2, leftF rows ks, List.replicate 10 0, rfl, rfl, hlen8, (t9.trans t10) _ _ hlp, hl2', rfl, _, rfl, ?_⟩
    have ekey : ((rowsOf fs).all fun c => decide (dotI ks c = 0)) = decide (leftF rows ks = List.replicate 10 0) := by
      have lk := left_kept BR BX el5
      by_cases z : leftF rows ks = List.replicate 10 0
      · rw [decide_eq_true z]
        exact List.all_eq_true.mpr fun c hc => decide_eq_true (lk.mpr z c hc)
      · rw [decide_eq_false z]
        cases hz : (rowsOf fs).all fun c => decide (dotI ks c = 0) with
        | false => rfl
        | true => exact absurd (lk.mp fun c hc => of_decide_eq_true (List.all_eq_true.mp hz c hc)) z
    rw [ekey, decide_eq_true rfl]
    exact iteF ⟨⟨_, _, _, _, _, _, _, rfl⟩, sF.trans (sF7.trans (s8.trans (t9.trans t10)))⟩
end
theorem all_mk {l : PySem.W.OpenLaw} {w : World} {K : PySem.W.Frag} {h : Heap} {mg : Str -> Option Value} {fa f0 f1 f2 f3 f4 f5 f6 f7 f8 f9 f10 f11 f12 f13 f14 f15 f16 f17 f18 f19 f20 f21 f22 f23 f24 f25 f26 f27 f28 f29 f30 f31 f32 f33 f34 f35 f36 h_FractError h_NoNumber : Addr} (X : K.In h) (G : h.Ns mainGlobals mg) (hfa : mg "law" = some (.ref fa))
    {od0 an0 od1 an1 od2 an2 od3 an3 od4 an4 od5 an5 od6 an6 od7 an7 od8 an8 od9 an9 od10 an10 od11 an11 od12 an12 od13 an13 od14 an14 od15 an15 od16 an16 od17 an17 od18 an18 od19 an19 od20 an20 od21 an21 od22 an22 od23 an23 od24 an24 od25 an25 od26 an26 od27 an27 od28 an28 od29 an29 od30 an30 od31 an31 od32 an32 od33 an33 od34 an34 od35 an35 od36 an36 : Option Addr} {sl0 sl1 sl2 sl3 sl4 sl5 sl6 sl7 sl8 sl9 sl10 sl11 sl12 sl13 sl14 sl15 sl16 sl17 sl18 sl19 sl20 sl21 sl22 sl23 sl24 sl25 sl26 sl27 sl28 sl29 sl30 sl31 sl32 sl33 sl34 sl35 sl36 : Array (Option Value)} {oc0 kV0 dc0 pm0 cd0 ct0 oc1 kV1 dc1 pm1 cd1 ct1 oc2 kV2 dc2 pm2 cd2 ct2 oc3 kV3 dc3 pm3 cd3 ct3 oc4 kV4 dc4 pm4 cd4 ct4 oc5 kV5 dc5 pm5 cd5 ct5 oc6 kV6 dc6 pm6 cd6 ct6 oc7 kV7 dc7 pm7 cd7 ct7 oc8 kV8 dc8 pm8 cd8 ct8 oc9 kV9 dc9 pm9 cd9 ct9 oc10 kV10 dc10 pm10 cd10 ct10 oc11 kV11 dc11 pm11 cd11 ct11 oc12 kV12 dc12 pm12 cd12 ct12 oc13 kV13 dc13 pm13 cd13 ct13 oc14 kV14 dc14 pm14 cd14 ct14 oc15 kV15 dc15 pm15 cd15 ct15 oc16 kV16 dc16 pm16 cd16 ct16 oc17 kV17 dc17 pm17 cd17 ct17 oc18 kV18 dc18 pm18 cd18 ct18 oc19 kV19 dc19 pm19 cd19 ct19 oc20 kV20 dc20 pm20 cd20 ct20 oc21 kV21 dc21 pm21 cd21 ct21 oc22 kV22 dc22 pm22 cd22 ct22 oc23 kV23 dc23 pm23 cd23 ct23 oc24 kV24 dc24 pm24 cd24 ct24 oc25 kV25 dc25 pm25 cd25 ct25 oc26 kV26 dc26 pm26 cd26 ct26 oc27 kV27 dc27 pm27 cd27 ct27 oc28 kV28 dc28 pm28 cd28 ct28 oc29 kV29 dc29 pm29 cd29 ct29 oc30 kV30 dc30 pm30 cd30 ct30 oc31 kV31 dc31 pm31 cd31 ct31 oc32 kV32 dc32 pm32 cd32 ct32 oc33 kV33 dc33 pm33 cd33 ct33 oc34 kV34 dc34 pm34 cd34 ct34 oc35 kV35 dc35 pm35 cd35 ct35 oc36 kV36 dc36 pm36 cd36 ct36 : Value}
    {x_PRIMES : Addr} {t0_PRIMES t1_PRIMES t2_PRIMES t3_PRIMES t4_PRIMES t5_PRIMES t6_PRIMES t7_PRIMES t8_PRIMES t9_PRIMES : Tok} {n_PRIMES : Nat} {d_PRIMES : Option Addr} {sl_PRIMES : Array (Option Value)}
    (a0 : PySem.W.nsIn K mainGlobals "is_whole" = some (some (.ref f0)))
    (l0 : K.lookup f0 = some ⟨oc0, od0, .func (PySem.W.fnOf "is_whole" "is_whole" (defArgs s_is_whole) (defBody s_is_whole) (defScope s_is_whole) .none kV0 dc0 pm0 an0 cd0 ct0), sl0⟩)
    (c0 : PySem.W.codeIn K cd0 "is_whole" = true) (k0 : PySem.W.keepIn K (.ref f0) = true)
    (a1 : PySem.W.nsIn K mainGlobals "powers_of" = some (some (.ref f1)))
    (l1 : K.lookup f1 = some ⟨oc1, od1, .func (PySem.W.fnOf "powers_of" "powers_of" (defArgs s_powers_of) (defBody s_powers_of) (defScope s_powers_of) .none kV1 dc1 pm1 an1 cd1 ct1), sl1⟩)
    (c1 : PySem.W.codeIn K cd1 "powers_of" = true) (k1 : PySem.W.keepIn K (.ref f1) = true)
    (a2 : PySem.W.nsIn K mainGlobals "how_often" = some (some (.ref f2)))
    (l2 : K.lookup f2 = some ⟨oc2, od2, .func (PySem.W.fnOf "how_often" "how_often" (defArgs s_how_often) (defBody s_how_often) (defScope s_how_often) .none kV2 dc2 pm2 an2 cd2 ct2), sl2⟩)
    (c2 : PySem.W.codeIn K cd2 "how_often" = true) (k2 : PySem.W.keepIn K (.ref f2) = true)
    (a3 : PySem.W.nsIn K mainGlobals "without_primes" = some (some (.ref f3)))
    (l3 : K.lookup f3 = some ⟨oc3, od3, .func (PySem.W.fnOf "without_primes" "without_primes" (defArgs s_without_primes) (defBody s_without_primes) (defScope s_without_primes) .none kV3 dc3 pm3 an3 cd3 ct3), sl3⟩)
    (c3 : PySem.W.codeIn K cd3 "without_primes" = true) (k3 : PySem.W.keepIn K (.ref f3) = true)
    (a4 : PySem.W.nsIn K mainGlobals "changes_of" = some (some (.ref f4)))
    (l4 : K.lookup f4 = some ⟨oc4, od4, .func (PySem.W.fnOf "changes_of" "changes_of" (defArgs s_changes_of) (defBody s_changes_of) (defScope s_changes_of) .none kV4 dc4 pm4 an4 cd4 ct4), sl4⟩)
    (c4 : PySem.W.codeIn K cd4 "changes_of" = true) (k4 : PySem.W.keepIn K (.ref f4) = true)
    (a5 : PySem.W.nsIn K mainGlobals "fraction_changes" = some (some (.ref f5)))
    (l5 : K.lookup f5 = some ⟨oc5, od5, .func (PySem.W.fnOf "fraction_changes" "fraction_changes" (defArgs s_fraction_changes) (defBody s_fraction_changes) (defScope s_fraction_changes) .none kV5 dc5 pm5 an5 cd5 ct5), sl5⟩)
    (c5 : PySem.W.codeIn K cd5 "fraction_changes" = true) (k5 : PySem.W.keepIn K (.ref f5) = true)
    (a6 : PySem.W.nsIn K mainGlobals "is_kept" = some (some (.ref f6)))
    (l6 : K.lookup f6 = some ⟨oc6, od6, .func (PySem.W.fnOf "is_kept" "is_kept" (defArgs s_is_kept) (defBody s_is_kept) (defScope s_is_kept) .none kV6 dc6 pm6 an6 cd6 ct6), sl6⟩)
    (c6 : PySem.W.codeIn K cd6 "is_kept" = true) (k6 : PySem.W.keepIn K (.ref f6) = true)
    (a7 : PySem.W.nsIn K mainGlobals "is_row" = some (some (.ref f7)))
    (l7 : K.lookup f7 = some ⟨oc7, od7, .func (PySem.W.fnOf "is_row" "is_row" (defArgs s_is_row) (defBody s_is_row) (defScope s_is_row) .none kV7 dc7 pm7 an7 cd7 ct7), sl7⟩)
    (c7 : PySem.W.codeIn K cd7 "is_row" = true) (k7 : PySem.W.keepIn K (.ref f7) = true)
    (a8 : PySem.W.nsIn K mainGlobals "sum_by" = some (some (.ref f8)))
    (l8 : K.lookup f8 = some ⟨oc8, od8, .func (PySem.W.fnOf "sum_by" "sum_by" (defArgs s_sum_by) (defBody s_sum_by) (defScope s_sum_by) .none kV8 dc8 pm8 an8 cd8 ct8), sl8⟩)
    (c8 : PySem.W.codeIn K cd8 "sum_by" = true) (k8 : PySem.W.keepIn K (.ref f8) = true)
    (a9 : PySem.W.nsIn K mainGlobals "base" = some (some (.ref f9)))
    (l9 : K.lookup f9 = some ⟨oc9, od9, .func (PySem.W.fnOf "base" "base" (defArgs s_base) (defBody s_base) (defScope s_base) .none kV9 dc9 pm9 an9 cd9 ct9), sl9⟩)
    (c9 : PySem.W.codeIn K cd9 "base" = true) (k9 : PySem.W.keepIn K (.ref f9) = true)
    (a10 : PySem.W.nsIn K mainGlobals "unit_row" = some (some (.ref f10)))
    (l10 : K.lookup f10 = some ⟨oc10, od10, .func (PySem.W.fnOf "unit_row" "unit_row" (defArgs s_unit_row) (defBody s_unit_row) (defScope s_unit_row) .none kV10 dc10 pm10 an10 cd10 ct10), sl10⟩)
    (c10 : PySem.W.codeIn K cd10 "unit_row" = true) (k10 : PySem.W.keepIn K (.ref f10) = true)
    (a11 : PySem.W.nsIn K mainGlobals "kept_of" = some (some (.ref f11)))
    (l11 : K.lookup f11 = some ⟨oc11, od11, .func (PySem.W.fnOf "kept_of" "kept_of" (defArgs s_kept_of) (defBody s_kept_of) (defScope s_kept_of) .none kV11 dc11 pm11 an11 cd11 ct11), sl11⟩)
    (c11 : PySem.W.codeIn K cd11 "kept_of" = true) (k11 : PySem.W.keepIn K (.ref f11) = true)
    (a12 : PySem.W.nsIn K mainGlobals "evened" = some (some (.ref f12)))
    (l12 : K.lookup f12 = some ⟨oc12, od12, .func (PySem.W.fnOf "evened" "evened" (defArgs s_evened) (defBody s_evened) (defScope s_evened) .none kV12 dc12 pm12 an12 cd12 ct12), sl12⟩)
    (c12 : PySem.W.codeIn K cd12 "evened" = true) (k12 : PySem.W.keepIn K (.ref f12) = true)
    (a13 : PySem.W.nsIn K mainGlobals "lowest" = some (some (.ref f13)))
    (l13 : K.lookup f13 = some ⟨oc13, od13, .func (PySem.W.fnOf "lowest" "lowest" (defArgs s_lowest) (defBody s_lowest) (defScope s_lowest) .none kV13 dc13 pm13 an13 cd13 ct13), sl13⟩)
    (c13 : PySem.W.codeIn K cd13 "lowest" = true) (k13 : PySem.W.keepIn K (.ref f13) = true)
    (a14 : PySem.W.nsIn K mainGlobals "common_divisor" = some (some (.ref f14)))
    (l14 : K.lookup f14 = some ⟨oc14, od14, .func (PySem.W.fnOf "common_divisor" "common_divisor" (defArgs s_common_divisor) (defBody s_common_divisor) (defScope s_common_divisor) .none kV14 dc14 pm14 an14 cd14 ct14), sl14⟩)
    (c14 : PySem.W.codeIn K cd14 "common_divisor" = true) (k14 : PySem.W.keepIn K (.ref f14) = true)
    (a15 : PySem.W.nsIn K mainGlobals "_law_cell_at" = some (some (.ref f15)))
    (l15 : K.lookup f15 = some ⟨oc15, od15, .func (PySem.W.fnOf "_law_cell_at" "_law_cell_at" (defArgs s_l_cell_at) (defBody s_l_cell_at) (defScope s_l_cell_at) .none kV15 dc15 pm15 an15 cd15 ct15), sl15⟩)
    (c15 : PySem.W.codeIn K cd15 "_law_cell_at" = true) (k15 : PySem.W.keepIn K (.ref f15) = true)
    (a16 : PySem.W.nsIn K mainGlobals "_law_pot" = some (some (.ref f16)))
    (l16 : K.lookup f16 = some ⟨oc16, od16, .func (PySem.W.fnOf "_law_pot" "_law_pot" (defArgs s_l_pot) (defBody s_l_pot) (defScope s_l_pot) .none kV16 dc16 pm16 an16 cd16 ct16), sl16⟩)
    (c16 : PySem.W.codeIn K cd16 "_law_pot" = true) (k16 : PySem.W.keepIn K (.ref f16) = true)
    (a17 : PySem.W.nsIn K mainGlobals "_law_take" = some (some (.ref f17)))
    (l17 : K.lookup f17 = some ⟨oc17, od17, .func (PySem.W.fnOf "_law_take" "_law_take" (defArgs s_l_take) (defBody s_l_take) (defScope s_l_take) .none kV17 dc17 pm17 an17 cd17 ct17), sl17⟩)
    (c17 : PySem.W.codeIn K cd17 "_law_take" = true) (k17 : PySem.W.keepIn K (.ref f17) = true)
    (a18 : PySem.W.nsIn K mainGlobals "_law_whole" = some (some (.ref f18)))
    (l18 : K.lookup f18 = some ⟨oc18, od18, .func (PySem.W.fnOf "_law_whole" "_law_whole" (defArgs s_l_whole) (defBody s_l_whole) (defScope s_l_whole) .none kV18 dc18 pm18 an18 cd18 ct18), sl18⟩)
    (c18 : PySem.W.codeIn K cd18 "_law_whole" = true) (k18 : PySem.W.keepIn K (.ref f18) = true)
    (a19 : PySem.W.nsIn K mainGlobals "_law_primes" = some (some (.ref f19)))
    (l19 : K.lookup f19 = some ⟨oc19, od19, .func (PySem.W.fnOf "_law_primes" "_law_primes" (defArgs s_l_primes) (defBody s_l_primes) (defScope s_l_primes) .none kV19 dc19 pm19 an19 cd19 ct19), sl19⟩)
    (c19 : PySem.W.codeIn K cd19 "_law_primes" = true) (k19 : PySem.W.keepIn K (.ref f19) = true)
    (a20 : PySem.W.nsIn K mainGlobals "_law_number" = some (some (.ref f20)))
    (l20 : K.lookup f20 = some ⟨oc20, od20, .func (PySem.W.fnOf "_law_number" "_law_number" (defArgs s_l_number) (defBody s_l_number) (defScope s_l_number) .none kV20 dc20 pm20 an20 cd20 ct20), sl20⟩)
    (c20 : PySem.W.codeIn K cd20 "_law_number" = true) (k20 : PySem.W.keepIn K (.ref f20) = true)
    (a21 : PySem.W.nsIn K mainGlobals "_law_parts" = some (some (.ref f21)))
    (l21 : K.lookup f21 = some ⟨oc21, od21, .func (PySem.W.fnOf "_law_parts" "_law_parts" (defArgs s_l_parts) (defBody s_l_parts) (defScope s_l_parts) .none kV21 dc21 pm21 an21 cd21 ct21), sl21⟩)
    (c21 : PySem.W.codeIn K cd21 "_law_parts" = true) (k21 : PySem.W.keepIn K (.ref f21) = true)
    (a22 : PySem.W.nsIn K mainGlobals "_law_adds" = some (some (.ref f22)))
    (l22 : K.lookup f22 = some ⟨oc22, od22, .func (PySem.W.fnOf "_law_adds" "_law_adds" (defArgs s_l_adds) (defBody s_l_adds) (defScope s_l_adds) .none kV22 dc22 pm22 an22 cd22 ct22), sl22⟩)
    (c22 : PySem.W.codeIn K cd22 "_law_adds" = true) (k22 : PySem.W.keepIn K (.ref f22) = true)
    (a23 : PySem.W.nsIn K mainGlobals "_law_fraction" = some (some (.ref f23)))
    (l23 : K.lookup f23 = some ⟨oc23, od23, .func (PySem.W.fnOf "_law_fraction" "_law_fraction" (defArgs s_l_fraction) (defBody s_l_fraction) (defScope s_l_fraction) .none kV23 dc23 pm23 an23 cd23 ct23), sl23⟩)
    (c23 : PySem.W.codeIn K cd23 "_law_fraction" = true) (k23 : PySem.W.keepIn K (.ref f23) = true)
    (a24 : PySem.W.nsIn K mainGlobals "_law_some" = some (some (.ref f24)))
    (l24 : K.lookup f24 = some ⟨oc24, od24, .func (PySem.W.fnOf "_law_some" "_law_some" (defArgs s_l_some) (defBody s_l_some) (defScope s_l_some) .none kV24 dc24 pm24 an24 cd24 ct24), sl24⟩)
    (c24 : PySem.W.codeIn K cd24 "_law_some" = true) (k24 : PySem.W.keepIn K (.ref f24) = true)
    (a25 : PySem.W.nsIn K mainGlobals "_law_any_program" = some (some (.ref f25)))
    (l25 : K.lookup f25 = some ⟨oc25, od25, .func (PySem.W.fnOf "_law_any_program" "_law_any_program" (defArgs s_l_any_program) (defBody s_l_any_program) (defScope s_l_any_program) .none kV25 dc25 pm25 an25 cd25 ct25), sl25⟩)
    (c25 : PySem.W.codeIn K cd25 "_law_any_program" = true) (k25 : PySem.W.keepIn K (.ref f25) = true)
    (a26 : PySem.W.nsIn K mainGlobals "_law_sinking" = some (some (.ref f26)))
    (l26 : K.lookup f26 = some ⟨oc26, od26, .func (PySem.W.fnOf "_law_sinking" "_law_sinking" (defArgs s_l_sinking) (defBody s_l_sinking) (defScope s_l_sinking) .none kV26 dc26 pm26 an26 cd26 ct26), sl26⟩)
    (c26 : PySem.W.codeIn K cd26 "_law_sinking" = true) (k26 : PySem.W.keepIn K (.ref f26) = true)
    (a27 : PySem.W.nsIn K mainGlobals "_law_ringing" = some (some (.ref f27)))
    (l27 : K.lookup f27 = some ⟨oc27, od27, .func (PySem.W.fnOf "_law_ringing" "_law_ringing" (defArgs s_l_ringing) (defBody s_l_ringing) (defScope s_l_ringing) .none kV27 dc27 pm27 an27 cd27 ct27), sl27⟩)
    (c27 : PySem.W.codeIn K cd27 "_law_ringing" = true) (k27 : PySem.W.keepIn K (.ref f27) = true)
    (a28 : PySem.W.nsIn K mainGlobals "_law_program" = some (some (.ref f28)))
    (l28 : K.lookup f28 = some ⟨oc28, od28, .func (PySem.W.fnOf "_law_program" "_law_program" (defArgs s_l_program) (defBody s_l_program) (defScope s_l_program) .none kV28 dc28 pm28 an28 cd28 ct28), sl28⟩)
    (c28 : PySem.W.codeIn K cd28 "_law_program" = true) (k28 : PySem.W.keepIn K (.ref f28) = true)
    (a29 : PySem.W.nsIn K mainGlobals "_law_dot" = some (some (.ref f29)))
    (l29 : K.lookup f29 = some ⟨oc29, od29, .func (PySem.W.fnOf "_law_dot" "_law_dot" (defArgs s_l_dot) (defBody s_l_dot) (defScope s_l_dot) .none kV29 dc29 pm29 an29 cd29 ct29), sl29⟩)
    (c29 : PySem.W.codeIn K cd29 "_law_dot" = true) (k29 : PySem.W.keepIn K (.ref f29) = true)
    (a30 : PySem.W.nsIn K mainGlobals "_law_shared" = some (some (.ref f30)))
    (l30 : K.lookup f30 = some ⟨oc30, od30, .func (PySem.W.fnOf "_law_shared" "_law_shared" (defArgs s_l_shared) (defBody s_l_shared) (defScope s_l_shared) .none kV30 dc30 pm30 an30 cd30 ct30), sl30⟩)
    (c30 : PySem.W.codeIn K cd30 "_law_shared" = true) (k30 : PySem.W.keepIn K (.ref f30) = true)
    (a31 : PySem.W.nsIn K mainGlobals "_law_plain" = some (some (.ref f31)))
    (l31 : K.lookup f31 = some ⟨oc31, od31, .func (PySem.W.fnOf "_law_plain" "_law_plain" (defArgs s_l_plain) (defBody s_l_plain) (defScope s_l_plain) .none kV31 dc31 pm31 an31 cd31 ct31), sl31⟩)
    (c31 : PySem.W.codeIn K cd31 "_law_plain" = true) (k31 : PySem.W.keepIn K (.ref f31) = true)
    (a32 : PySem.W.nsIn K mainGlobals "_law_reduced" = some (some (.ref f32)))
    (l32 : K.lookup f32 = some ⟨oc32, od32, .func (PySem.W.fnOf "_law_reduced" "_law_reduced" (defArgs s_l_reduced) (defBody s_l_reduced) (defScope s_l_reduced) .none kV32 dc32 pm32 an32 cd32 ct32), sl32⟩)
    (c32 : PySem.W.codeIn K cd32 "_law_reduced" = true) (k32 : PySem.W.keepIn K (.ref f32) = true)
    (a33 : PySem.W.nsIn K mainGlobals "_law_lead" = some (some (.ref f33)))
    (l33 : K.lookup f33 = some ⟨oc33, od33, .func (PySem.W.fnOf "_law_lead" "_law_lead" (defArgs s_l_lead) (defBody s_l_lead) (defScope s_l_lead) .none kV33 dc33 pm33 an33 cd33 ct33), sl33⟩)
    (c33 : PySem.W.codeIn K cd33 "_law_lead" = true) (k33 : PySem.W.keepIn K (.ref f33) = true)
    (a34 : PySem.W.nsIn K mainGlobals "_law_is_row" = some (some (.ref f34)))
    (l34 : K.lookup f34 = some ⟨oc34, od34, .func (PySem.W.fnOf "_law_is_row" "_law_is_row" (defArgs s_l_is_row) (defBody s_l_is_row) (defScope s_l_is_row) .none kV34 dc34 pm34 an34 cd34 ct34), sl34⟩)
    (c34 : PySem.W.codeIn K cd34 "_law_is_row" = true) (k34 : PySem.W.keepIn K (.ref f34) = true)
    (a35 : PySem.W.nsIn K mainGlobals "_law_left" = some (some (.ref f35)))
    (l35 : K.lookup f35 = some ⟨oc35, od35, .func (PySem.W.fnOf "_law_left" "_law_left" (defArgs s_l_left) (defBody s_l_left) (defScope s_l_left) .none kV35 dc35 pm35 an35 cd35 ct35), sl35⟩)
    (c35 : PySem.W.codeIn K cd35 "_law_left" = true) (k35 : PySem.W.keepIn K (.ref f35) = true)
    (a36 : PySem.W.nsIn K mainGlobals "law" = some (some (.ref f36)))
    (l36 : K.lookup f36 = some ⟨oc36, od36, .func (PySem.W.fnOf "law" "law" (defArgs s_law) (defBody s_law) (defScope s_law) .none kV36 dc36 pm36 an36 cd36 ct36), sl36⟩)
    (c36 : PySem.W.codeIn K cd36 "law" = true) (k36 : PySem.W.keepIn K (.ref f36) = true)
    (a_FractError : PySem.W.nsIn K mainGlobals "FractError" = some (some (.ref h_FractError)))
    (a_NoNumber : PySem.W.nsIn K mainGlobals "NoNumber" = some (some (.ref h_NoNumber)))
    (z_len : PySem.W.nsIn K mainGlobals "len" = some none)
    (z_isinstance : PySem.W.nsIn K mainGlobals "isinstance" = some none)
    (z_int : PySem.W.nsIn K mainGlobals "int" = some none)
    (z_bool : PySem.W.nsIn K mainGlobals "bool" = some none)
    (z_tuple : PySem.W.nsIn K mainGlobals "tuple" = some none)
    (z_range : PySem.W.nsIn K mainGlobals "range" = some none)
    (z_max : PySem.W.nsIn K mainGlobals "max" = some none)
    (z_all : PySem.W.nsIn K mainGlobals "all" = some none)
    (z_zip : PySem.W.nsIn K mainGlobals "zip" = some none)
    (z_any : PySem.W.nsIn K mainGlobals "any" = some none)
    (z_sum : PySem.W.nsIn K mainGlobals "sum" = some none)
    (z_sorted : PySem.W.nsIn K mainGlobals "sorted" = some none)
    (z_enumerate : PySem.W.nsIn K mainGlobals "enumerate" = some none)
    (z_abs : PySem.W.nsIn K mainGlobals "abs" = some none)
    (z_ValueError : PySem.W.nsIn K mainGlobals "ValueError" = some none)
    (z_set : PySem.W.nsIn K mainGlobals "set" = some none)
    (g_PRIMES : PySem.W.nsIn K mainGlobals "PRIMES" = some (some (.ref x_PRIMES)))
    (y_PRIMES : K.lookup x_PRIMES = some ⟨.type "tuple", d_PRIMES, .seq #[.int 2 t0_PRIMES, .int 3 t1_PRIMES, .int 5 t2_PRIMES, .int 7 t3_PRIMES, .int 11 t4_PRIMES, .int 13 t5_PRIMES, .int 17 t6_PRIMES, .int 19 t7_PRIMES, .int 23 t8_PRIMES, .int 29 t9_PRIMES] n_PRIMES, sl_PRIMES⟩) :
    ∃ fd : FuncData, (∀ (s : Shared) (v : Value), BindsTo s fd ⟨[v], []⟩ [("script", v)]) /\ ∀ base : Heap, K.In base -> base.Ns mainGlobals mg -> FnOk l.prog w K mg base CX0 kLaw fa fd ["script"] (sp_law K) := by
  have e := hfa.symm.trans (PySem.W.mg_of X G a36)
  cases e
  have F0 := fun_mk (st := s_is_whole) l0 c0 k0
  have b0 := F0.binds (ps := ["thing"]) fun _ _ _ _ _ _ us hl => match us, hl with | [_], _ => rfl
  have F1 := fun_mk (st := s_powers_of) l1 c1 k1
  have b1 := F1.binds (ps := ["number"]) fun _ _ _ _ _ _ us hl => match us, hl with | [_], _ => rfl
  have F2 := fun_mk (st := s_how_often) l2 c2 k2
  have b2 := F2.binds (ps := ["prime", "number"]) fun _ _ _ _ _ _ us hl => match us, hl with | [_, _], _ => rfl
  have F3 := fun_mk (st := s_without_primes) l3 c3 k3
  have b3 := F3.binds (ps := ["number"]) fun _ _ _ _ _ _ us hl => match us, hl with | [_], _ => rfl
  have F4 := fun_mk (st := s_changes_of) l4 c4 k4
  have b4 := F4.binds (ps := ["program"]) fun _ _ _ _ _ _ us hl => match us, hl with | [_], _ => rfl
  have F5 := fun_mk (st := s_fraction_changes) l5 c5 k5
  have b5 := F5.binds (ps := ["fraction"]) fun _ _ _ _ _ _ us hl => match us, hl with | [_], _ => rfl
  have F6 := fun_mk (st := s_is_kept) l6 c6 k6
  have b6 := F6.binds (ps := ["program", "thing"]) fun _ _ _ _ _ _ us hl => match us, hl with | [_, _], _ => rfl
  have F7 := fun_mk (st := s_is_row) l7 c7 k7
  have b7 := F7.binds (ps := ["thing"]) fun _ _ _ _ _ _ us hl => match us, hl with | [_], _ => rfl
  have F8 := fun_mk (st := s_sum_by) l8 c8 k8
  have b8 := F8.binds (ps := ["row", "powers"]) fun _ _ _ _ _ _ us hl => match us, hl with | [_, _], _ => rfl
  have F9 := fun_mk (st := s_base) l9 c9 k9
  have b9 := F9.binds (ps := ["program"]) fun _ _ _ _ _ _ us hl => match us, hl with | [_], _ => rfl
  have F10 := fun_mk (st := s_unit_row) l10 c10 k10
  have b10 := F10.binds (ps := ["prime"]) fun _ _ _ _ _ _ us hl => match us, hl with | [_], _ => rfl
  have F11 := fun_mk (st := s_kept_of) l11 c11 k11
  have b11 := F11.binds (ps := ["rows", "changes"]) fun _ _ _ _ _ _ us hl => match us, hl with | [_, _], _ => rfl
  have F12 := fun_mk (st := s_evened) l12 c12 k12
  have b12 := F12.binds (ps := ["row", "total", "other", "other_total"]) fun _ _ _ _ _ _ us hl => match us, hl with | [_, _, _, _], _ => rfl
  have F13 := fun_mk (st := s_lowest) l13 c13 k13
  have b13 := F13.binds (ps := ["numbers"]) fun _ _ _ _ _ _ us hl => match us, hl with | [_], _ => rfl
  have F14 := fun_mk (st := s_common_divisor) l14 c14 k14
  have b14 := F14.binds (ps := ["one", "other"]) fun _ _ _ _ _ _ us hl => match us, hl with | [_, _], _ => rfl
  have F15 := fun_mk (st := s_l_cell_at) l15 c15 k15
  have b15 := F15.binds (ps := ["script", "k"]) fun _ _ _ _ _ _ us hl => match us, hl with | [_, _], _ => rfl
  have F16 := fun_mk (st := s_l_pot) l16 c16 k16
  have b16 := F16.binds (ps := ["cell"]) fun _ _ _ _ _ _ us hl => match us, hl with | [_], _ => rfl
  have F17 := fun_mk (st := s_l_take) l17 c17 k17
  have b17 := F17.binds (ps := ["pot", "far"]) fun _ _ _ _ _ _ us hl => match us, hl with | [_, _], _ => rfl
  have F18 := fun_mk (st := s_l_whole) l18 c18 k18
  have b18 := F18.binds (ps := ["found"]) fun _ _ _ _ _ _ us hl => match us, hl with | [_], _ => rfl
  have F19 := fun_mk (st := s_l_primes) l19 c19 k19
  have b19 := F19.binds (ps := []) fun _ _ _ _ _ _ us hl => match us, hl with | [], _ => rfl
  have F20 := fun_mk (st := s_l_number) l20 c20 k20
  have b20 := F20.binds (ps := ["powers"]) fun _ _ _ _ _ _ us hl => match us, hl with | [_], _ => rfl
  have F21 := fun_mk (st := s_l_parts) l21 c21 k21
  have b21 := F21.binds (ps := ["number"]) fun _ _ _ _ _ _ us hl => match us, hl with | [_], _ => rfl
  have F22 := fun_mk (st := s_l_adds) l22 c22 k22
  have b22 := F22.binds (ps := ["program"]) fun _ _ _ _ _ _ us hl => match us, hl with | [_], _ => rfl
  have F23 := fun_mk (st := s_l_fraction) l23 c23 k23
  have b23 := F23.binds (ps := ["top", "bottom"]) fun _ _ _ _ _ _ us hl => match us, hl with | [_, _], _ => rfl
  have F24 := fun_mk (st := s_l_some) l24 c24 k24
  have b24 := F24.binds (ps := ["pot", "wide", "most"]) fun _ _ _ _ _ _ us hl => match us, hl with | [_, _, _], _ => rfl
  have F25 := fun_mk (st := s_l_any_program) l25 c25 k25
  have b25 := F25.binds (ps := ["pot", "most"]) fun _ _ _ _ _ _ us hl => match us, hl with | [_, _], _ => rfl
  have F26 := fun_mk (st := s_l_sinking) l26 c26 k26
  have b26 := F26.binds (ps := ["pot", "most"]) fun _ _ _ _ _ _ us hl => match us, hl with | [_, _], _ => rfl
  have F27 := fun_mk (st := s_l_ringing) l27 c27 k27
  have b27 := F27.binds (ps := ["pot"]) fun _ _ _ _ _ _ us hl => match us, hl with | [_], _ => rfl
  have F28 := fun_mk (st := s_l_program) l28 c28 k28
  have b28 := F28.binds (ps := ["pot", "most"]) fun _ _ _ _ _ _ us hl => match us, hl with | [_, _], _ => rfl
  have F29 := fun_mk (st := s_l_dot) l29 c29 k29
  have b29 := F29.binds (ps := ["row", "other"]) fun _ _ _ _ _ _ us hl => match us, hl with | [_, _], _ => rfl
  have F30 := fun_mk (st := s_l_shared) l30 c30 k30
  have b30 := F30.binds (ps := ["row"]) fun _ _ _ _ _ _ us hl => match us, hl with | [_], _ => rfl
  have F31 := fun_mk (st := s_l_plain) l31 c31 k31
  have b31 := F31.binds (ps := ["row"]) fun _ _ _ _ _ _ us hl => match us, hl with | [_], _ => rfl
  have F32 := fun_mk (st := s_l_reduced) l32 c32 k32
  have b32 := F32.binds (ps := ["rows"]) fun _ _ _ _ _ _ us hl => match us, hl with | [_], _ => rfl
  have F33 := fun_mk (st := s_l_lead) l33 c33 k33
  have b33 := F33.binds (ps := ["row"]) fun _ _ _ _ _ _ us hl => match us, hl with | [_], _ => rfl
  have F34 := fun_mk (st := s_l_is_row) l34 c34 k34
  have b34 := F34.binds (ps := ["thing", "many"]) fun _ _ _ _ _ _ us hl => match us, hl with | [_, _], _ => rfl
  have F35 := fun_mk (st := s_l_left) l35 c35 k35
  have b35 := F35.binds (ps := ["row", "rows"]) fun _ _ _ _ _ _ us hl => match us, hl with | [_, _], _ => rfl
  have F36 := fun_mk (st := s_law) l36 c36 k36
  have T : Tx K mg := ⟨f0, _, ⟨F0, PySem.W.mg_of X G a0, b0⟩, f1, _, ⟨F1, PySem.W.mg_of X G a1, b1⟩, f2, _, ⟨F2, PySem.W.mg_of X G a2, b2⟩, f3, _, ⟨F3, PySem.W.mg_of X G a3, b3⟩, f4, _, ⟨F4, PySem.W.mg_of X G a4, b4⟩, f5, _, ⟨F5, PySem.W.mg_of X G a5, b5⟩, f6, _, ⟨F6, PySem.W.mg_of X G a6, b6⟩, f7, _, ⟨F7, PySem.W.mg_of X G a7, b7⟩, f8, _, ⟨F8, PySem.W.mg_of X G a8, b8⟩, f9, _, ⟨F9, PySem.W.mg_of X G a9, b9⟩, f10, _, ⟨F10, PySem.W.mg_of X G a10, b10⟩, f11, _, ⟨F11, PySem.W.mg_of X G a11, b11⟩, f12, _, ⟨F12, PySem.W.mg_of X G a12, b12⟩, f13, _, ⟨F13, PySem.W.mg_of X G a13, b13⟩, f14, _, ⟨F14, PySem.W.mg_of X G a14, b14⟩, f15, _, ⟨F15, PySem.W.mg_of X G a15, b15⟩, f16, _, ⟨F16, PySem.W.mg_of X G a16, b16⟩, f17, _, ⟨F17, PySem.W.mg_of X G a17, b17⟩, f18, _, ⟨F18, PySem.W.mg_of X G a18, b18⟩, f19, _, ⟨F19, PySem.W.mg_of X G a19, b19⟩, f20, _, ⟨F20, PySem.W.mg_of X G a20, b20⟩, f21, _, ⟨F21, PySem.W.mg_of X G a21, b21⟩, f22, _, ⟨F22, PySem.W.mg_of X G a22, b22⟩, f23, _, ⟨F23, PySem.W.mg_of X G a23, b23⟩, f24, _, ⟨F24, PySem.W.mg_of X G a24, b24⟩, f25, _, ⟨F25, PySem.W.mg_of X G a25, b25⟩, f26, _, ⟨F26, PySem.W.mg_of X G a26, b26⟩, f27, _, ⟨F27, PySem.W.mg_of X G a27, b27⟩, f28, _, ⟨F28, PySem.W.mg_of X G a28, b28⟩, f29, _, ⟨F29, PySem.W.mg_of X G a29, b29⟩, f30, _, ⟨F30, PySem.W.mg_of X G a30, b30⟩, f31, _, ⟨F31, PySem.W.mg_of X G a31, b31⟩, f32, _, ⟨F32, PySem.W.mg_of X G a32, b32⟩, f33, _, ⟨F33, PySem.W.mg_of X G a33, b33⟩, f34, _, ⟨F34, PySem.W.mg_of X G a34, b34⟩, f35, _, ⟨F35, PySem.W.mg_of X G a35, b35⟩, h_FractError, PySem.W.mg_of X G a_FractError, h_NoNumber, PySem.W.mg_of X G a_NoNumber, PySem.W.mg_none_of X G z_len, PySem.W.mg_none_of X G z_isinstance, PySem.W.mg_none_of X G z_int, PySem.W.mg_none_of X G z_bool, PySem.W.mg_none_of X G z_tuple, PySem.W.mg_none_of X G z_range, PySem.W.mg_none_of X G z_max, PySem.W.mg_none_of X G z_all, PySem.W.mg_none_of X G z_zip, PySem.W.mg_none_of X G z_any, PySem.W.mg_none_of X G z_sum, PySem.W.mg_none_of X G z_sorted, PySem.W.mg_none_of X G z_enumerate, PySem.W.mg_none_of X G z_abs, PySem.W.mg_none_of X G z_ValueError, PySem.W.mg_none_of X G z_set, x_PRIMES, PySem.W.mg_of X G g_PRIMES, fun H => .inr ⟨_, _, _, y_PRIMES, rfl, rfl, (by show 10 <= sizeLine; decide), (.cons ⟨_, rfl⟩ (.cons ⟨_, rfl⟩ (.cons ⟨_, rfl⟩ (.cons ⟨_, rfl⟩ (.cons ⟨_, rfl⟩ (.cons ⟨_, rfl⟩ (.cons ⟨_, rfl⟩ (.cons ⟨_, rfl⟩ (.cons ⟨_, rfl⟩ (.cons ⟨_, rfl⟩ .nil))))))))))⟩⟩
  exact ⟨PySem.W.fnOf "law" "law" (defArgs s_law) (defBody s_law) (defScope s_law) .none kV36 dc36 pm36 an36 cd36 ct36, fun s v => .of_eq rfl, fun base _ _ => ok_law T F36⟩
theorem walk {l : PySem.W.OpenLaw} {q : Program} {loose : List Str} {XP : (Str -> Option Value) -> Heap -> Prop} {YP : World -> Heap -> Prop} {d : DefRec} {K : Params -> PySem.W.Frag} (hn : l.most = some 63) (hdf : d.params.defaults = [])
    (hY : ∀ (w : World) (h : Heap), YP w h -> (K w.params).In h)
    (F : ∀ (w : World) (mg : Str -> Option Value) (fa : Addr) (h : Heap), (K w.params).In h -> h.Ns mainGlobals mg -> mg d.name = some (.ref fa) ->
      ∃ fd : FuncData, (∀ (s : Shared) (u : Value), BindsTo s fd ⟨[u], []⟩ [("script", u)]) /\ ∀ base : Heap, (K w.params).In base -> base.Ns mainGlobals mg -> FnOk l.prog w (K w.params) mg base CX0 kLaw fa fd ["script"] (sp_law (K w.params))) :
    PySem.W.WalkO q loose XP YP l.row.toRowW d [] (fun f vs => PySem.call f vs) :=
  L2.walk_of (n := 63) (k := kLaw) (x := "script") (CX := fun _ => CX0) (sp := fun w => sp_law (K w.params)) hn (by decide) hdf ⟨rfl, by decide, by decide⟩ hY F (fun _ _ a ns hl _ hS => ⟨a, ns, rfl, hS, hl, fun _ => rfl⟩) fun _ _ _ _ _ z => z
end W2
open PySem PySem.W PyProof.Rows
theorem _root_.PySem.W.Fast.tw3058894314263531189 : True := trivial
theorem _root_.PySem.W.Fast.tw6130959772131027019 : True := trivial
set_option maxRecDepth 100000 in
set_option maxHeartbeats 0 in
theorem PySem.Challenge.cw_wholefract_k45_whole_base_is_all_holds : PySem.Challenge.rw_wholefract_k45_whole_base_is_all.Holds := by
  w_on; o_law; k_head; (case hw => w_witness2)
  k_fill
  refine W2.walk (l := PySem.Challenge.rw_wholefract_k45_whole_base_is_all) rfl rfl (fun w h Y => PySem.W.kIn_of Y) ?F
  case F =>
    intro w mg fa h KX G hmg
    refine' W2.all_mk KX G hmg ?a0 ?l0 ?c0 ?k0 ?a1 ?l1 ?c1 ?k1 ?a2 ?l2 ?c2 ?k2 ?a3 ?l3 ?c3 ?k3 ?a4 ?l4 ?c4 ?k4 ?a5 ?l5 ?c5 ?k5 ?a6 ?l6 ?c6 ?k6 ?a7 ?l7 ?c7 ?k7 ?a8 ?l8 ?c8 ?k8 ?a9 ?l9 ?c9 ?k9 ?a10 ?l10 ?c10 ?k10 ?a11 ?l11 ?c11 ?k11 ?a12 ?l12 ?c12 ?k12 ?a13 ?l13 ?c13 ?k13 ?a14 ?l14 ?c14 ?k14 ?a15 ?l15 ?c15 ?k15 ?a16 ?l16 ?c16 ?k16 ?a17 ?l17 ?c17 ?k17 ?a18 ?l18 ?c18 ?k18 ?a19 ?l19 ?c19 ?k19 ?a20 ?l20 ?c20 ?k20 ?a21 ?l21 ?c21 ?k21 ?a22 ?l22 ?c22 ?k22 ?a23 ?l23 ?c23 ?k23 ?a24 ?l24 ?c24 ?k24 ?a25 ?l25 ?c25 ?k25 ?a26 ?l26 ?c26 ?k26 ?a27 ?l27 ?c27 ?k27 ?a28 ?l28 ?c28 ?k28 ?a29 ?l29 ?c29 ?k29 ?a30 ?l30 ?c30 ?k30 ?a31 ?l31 ?c31 ?k31 ?a32 ?l32 ?c32 ?k32 ?a33 ?l33 ?c33 ?k33 ?a34 ?l34 ?c34 ?k34 ?a35 ?l35 ?c35 ?k35 ?a36 ?l36 ?c36 ?k36 ?a_FractError ?a_NoNumber ?z_len ?z_isinstance ?z_int ?z_bool ?z_tuple ?z_range ?z_max ?z_all ?z_zip ?z_any ?z_sum ?z_sorted ?z_enumerate ?z_abs ?z_ValueError ?z_set ?g_PRIMES ?y_PRIMES
    (case a0 => k_is)
    (case l0 => k_is)
    (case c0 => k_is)
    (case k0 => k_is)
    (case a1 => k_is)
    (case l1 => k_is)
    (case c1 => k_is)
    (case k1 => k_is)
    (case a2 => k_is)
    (case l2 => k_is)
    (case c2 => k_is)
    (case k2 => k_is)
    (case a3 => k_is)
    (case l3 => k_is)
    (case c3 => k_is)
    (case k3 => k_is)
    (case a4 => k_is)
    (case l4 => k_is)
    (case c4 => k_is)
    (case k4 => k_is)
    (case a5 => k_is)
    (case l5 => k_is)
    (case c5 => k_is)
    (case k5 => k_is)
    (case a6 => k_is)
    (case l6 => k_is)
    (case c6 => k_is)
    (case k6 => k_is)
    (case a7 => k_is)
    (case l7 => k_is)
    (case c7 => k_is)
    (case k7 => k_is)
    (case a8 => k_is)
    (case l8 => k_is)
    (case c8 => k_is)
    (case k8 => k_is)
    (case a9 => k_is)
    (case l9 => k_is)
    (case c9 => k_is)
    (case k9 => k_is)
    (case a10 => k_is)
    (case l10 => k_is)
    (case c10 => k_is)
    (case k10 => k_is)
    (case a11 => k_is)
    (case l11 => k_is)
    (case c11 => k_is)
    (case k11 => k_is)
    (case a12 => k_is)
    (case l12 => k_is)
    (case c12 => k_is)
    (case k12 => k_is)
    (case a13 => k_is)
    (case l13 => k_is)
    (case c13 => k_is)
    (case k13 => k_is)
    (case a14 => k_is)
    (case l14 => k_is)
    (case c14 => k_is)
    (case k14 => k_is)
    (case a15 => k_is)
    (case l15 => k_is)
    (case c15 => k_is)
    (case k15 => k_is)
    (case a16 => k_is)
    (case l16 => k_is)
    (case c16 => k_is)
    (case k16 => k_is)
    (case a17 => k_is)
    (case l17 => k_is)
    (case c17 => k_is)
    (case k17 => k_is)
    (case a18 => k_is)
    (case l18 => k_is)
    (case c18 => k_is)
    (case k18 => k_is)
    (case a19 => k_is)
    (case l19 => k_is)
    (case c19 => k_is)
    (case k19 => k_is)
    (case a20 => k_is)
    (case l20 => k_is)
    (case c20 => k_is)
    (case k20 => k_is)
    (case a21 => k_is)
    (case l21 => k_is)
    (case c21 => k_is)
    (case k21 => k_is)
    (case a22 => k_is)
    (case l22 => k_is)
    (case c22 => k_is)
    (case k22 => k_is)
    (case a23 => k_is)
    (case l23 => k_is)
    (case c23 => k_is)
    (case k23 => k_is)
    (case a24 => k_is)
    (case l24 => k_is)
    (case c24 => k_is)
    (case k24 => k_is)
    (case a25 => k_is)
    (case l25 => k_is)
    (case c25 => k_is)
    (case k25 => k_is)
    (case a26 => k_is)
    (case l26 => k_is)
    (case c26 => k_is)
    (case k26 => k_is)
    (case a27 => k_is)
    (case l27 => k_is)
    (case c27 => k_is)
    (case k27 => k_is)
    (case a28 => k_is)
    (case l28 => k_is)
    (case c28 => k_is)
    (case k28 => k_is)
    (case a29 => k_is)
    (case l29 => k_is)
    (case c29 => k_is)
    (case k29 => k_is)
    (case a30 => k_is)
    (case l30 => k_is)
    (case c30 => k_is)
    (case k30 => k_is)
    (case a31 => k_is)
    (case l31 => k_is)
    (case c31 => k_is)
    (case k31 => k_is)
    (case a32 => k_is)
    (case l32 => k_is)
    (case c32 => k_is)
    (case k32 => k_is)
    (case a33 => k_is)
    (case l33 => k_is)
    (case c33 => k_is)
    (case k33 => k_is)
    (case a34 => k_is)
    (case l34 => k_is)
    (case c34 => k_is)
    (case k34 => k_is)
    (case a35 => k_is)
    (case l35 => k_is)
    (case c35 => k_is)
    (case k35 => k_is)
    (case a36 => k_is)
    (case l36 => k_is)
    (case c36 => k_is)
    (case k36 => k_is)
    (case a_FractError => k_is)
    (case a_NoNumber => k_is)
    (case z_len => k_is)
    (case z_isinstance => k_is)
    (case z_int => k_is)
    (case z_bool => k_is)
    (case z_tuple => k_is)
    (case z_range => k_is)
    (case z_max => k_is)
    (case z_all => k_is)
    (case z_zip => k_is)
    (case z_any => k_is)
    (case z_sum => k_is)
    (case z_sorted => k_is)
    (case z_enumerate => k_is)
    (case z_abs => k_is)
    (case z_ValueError => k_is)
    (case z_set => k_is)
    (case g_PRIMES => k_is)
    (case y_PRIMES => k_is)
