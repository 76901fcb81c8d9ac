import PyProof.Rows.All
import Wide.All
import OpenK.AllK
import Wide.FinOn
import Lean
import PyProof.EqAt
import PyProof.EqKinds
import PyProof.TupleCall
import PyProof.EnumMake
import PyProof.Draws
import PySem.Challenge.RW_wholefract_k77_factors_counted

set_option Elab.async false
set_option linter.all false
set_option maxRecDepth 100000
/-! THE HAND LAYER, for ints, bools, texts, own classes, LISTS and tuples (index, slices, in, append, pop ..), calls, loops. Paste it whole ahead of your own text; what your proof does not reach may be deleted. -/
namespace L2
open PySem PySem.Spec PyProof.Rows

/-- a key: an int or a str -/
abbrev Key := Sum Int Str
def keyIs : Key → Value → Bool
  | .inl k, v => Value.isInt k v
  | .inr x, v => Value.isStrOf x v
def keyH (w : World) : Key → Int
  | .inl k => hashInt k
  | .inr x => hashStr w x
theorem keyIs_shape : ∀ {k : Key} {v : Value}, keyIs k v = true → (∃ i t, k = Sum.inl i ∧ v = Value.int i t) ∨ (∃ x t, k = Sum.inr x ∧ v = Value.str x t)
  | .inl i, v, h => by
    obtain ⟨t, e⟩ := Value.isInt_shape (k := i) (v := v) h
    exact .inl ⟨i, t, rfl, e⟩
  | .inr x, v, h => by
    obtain ⟨t, e⟩ := Value.isStrOf_shape (x := x) (v := v) h
    exact .inr ⟨x, t, rfl, e⟩
theorem key_ll (a b : Int) : decide ((Sum.inl a : Key) = Sum.inl b) = (a == b) := by
  by_cases e : a = b
  · subst e; simp
  · have h : ¬ (Sum.inl a : Key) = Sum.inl b := fun q => e (Sum.inl.inj q)
    rw [decide_eq_false h]
    exact (beq_eq_false_iff_ne.mpr e).symm
theorem key_rr (a b : Str) : decide ((Sum.inr a : Key) = Sum.inr b) = decide (a = b) := by
  by_cases e : a = b
  · subst e; simp
  · have h : ¬ (Sum.inr a : Key) = Sum.inr b := fun q => e (Sum.inr.inj q)
    rw [decide_eq_false h, decide_eq_false e]
theorem key_lr (a : Int) (b : Str) : decide ((Sum.inl a : Key) = Sum.inr b) = false := decide_eq_false (fun q => nomatch q)
theorem key_rl (a : Str) (b : Int) : decide ((Sum.inr a : Key) = Sum.inl b) = false := decide_eq_false (fun q => nomatch q)

def mixKind (prog : Program) (w : World) : PySem.KeyKind prog w Key where
  is := keyIs
  hash := keyH w
  inj := fun v a b ha hb => by
    rcases keyIs_shape ha with ⟨i, t, rfl, rfl⟩ | ⟨x, t, rfl, rfl⟩
    · rcases keyIs_shape hb with ⟨j, u, rfl, e⟩ | ⟨y, u, rfl, e⟩
      · injection e with e1 _; rw [e1]
      · exact nomatch e
    · rcases keyIs_shape hb with ⟨j, u, rfl, e⟩ | ⟨y, u, rfl, e⟩
      · exact nomatch e
      · injection e with e1 _; rw [e1]
  byValue := fun k v h => by
    rcases keyIs_shape h with ⟨i, t, rfl, rfl⟩ | ⟨x, t, rfl, rfl⟩ <;> rfl
  pyHash := fun hv h => by
    rcases keyIs_shape hv with ⟨i, t, rfl, rfl⟩ | ⟨x, t, rfl, rfl⟩
    · exact wpAny_pyHash_int h
    · exact wpAny_pyHash_str h
  eqBool := fun hu hv h => by
    rcases keyIs_shape hu with ⟨i, t, rfl, rfl⟩ | ⟨x, t, rfl, rfl⟩
    · rcases keyIs_shape hv with ⟨j, u, rfl, rfl⟩ | ⟨y, u, rfl, rfl⟩
      · rw [key_ll] at h; exact wpAny_eqBool_int h
      · rw [key_lr] at h; exact SeqAt.EqAt.int_str i t y u _ _ _ _ h
    · rcases keyIs_shape hv with ⟨j, u, rfl, rfl⟩ | ⟨y, u, rfl, rfl⟩
      · rw [key_rl] at h; exact SeqAt.EqAt.str_int x t j u _ _ _ _ h
      · rw [key_rr] at h; exact wpAny_eqBool_str h
  «strs» := fun k x t v h => by
    rcases keyIs_shape h with ⟨i, u, rfl, e⟩ | ⟨y, u, rfl, e⟩
    · exact nomatch e
    · injection e with e1 _
      subst e1
      cases v <;> rfl

end L2

namespace L2
open PySem PySem.Spec PyProof.Rows

/-- a value, without the heap -/
inductive V where
  | non | bl (b : Bool) | int (i : Int) | str (x : Str) | byt (b : Array UInt8) | flt (b : UInt64) | ref (a : Addr) | ty (n : String)
  deriving DecidableEq

def RelV : V → Value → Prop
  | .non, u => u = Value.none
  | .bl b, u => u = Value.bool b
  | .int i, u => ∃ t, u = Value.int i t
  | .str x, u => ∃ t, u = Value.str x t
  | .byt b, u => ∃ t, u = Value.bytes b t
  | .flt b, u => ∃ t, u = Value.float b t
  | .ref a, u => u = Value.ref a
  | .ty n, u => u = Value.type n

abbrev Vals : List V → List Value → Prop := Paired RelV
theorem Vals.length {xs : List V} {us : List Value} (r : Vals xs us) : xs.length = us.length := Paired.length r
theorem Vals.get : ∀ {xs : List V} {us : List Value} {i : Nat} {x : V}, Vals xs us → xs[i]? = some x → ∃ u, us[i]? = some u ∧ RelV x u
  | _, _, _, _, .nil, e => by simp at e
  | _, _, 0, _, .cons r _, e => by simp at e; subst e; exact ⟨_, rfl, r⟩
  | _, _, i + 1, x, .cons _ t, e => by
    obtain ⟨u, h1, h2⟩ := Vals.get (i := i) (x := x) t (by simpa using e)
    exact ⟨u, by simpa using h1, h2⟩
theorem Vals.set {x : V} {u : Value} (r : RelV x u) : ∀ {xs : List V} {us : List Value} (i : Nat), Vals xs us → Vals (xs.set i x) (us.set i u)
  | _, _, _, .nil => .nil
  | _, _, 0, .cons _ t => .cons r t
  | _, _, i + 1, .cons q t => .cons q (Vals.set r i t)
theorem Vals.append : ∀ {xs ys : List V} {us ws : List Value}, Vals xs us → Vals ys ws → Vals (xs ++ ys) (us ++ ws)
  | _, _, _, _, .nil, s => s
  | _, _, _, _, .cons r t, s => .cons r (Vals.append t s)
theorem Vals.take : ∀ {xs : List V} {us : List Value} (n : Nat), Vals xs us → Vals (xs.take n) (us.take n)
  | _, _, 0, _ => .nil
  | _, _, _ + 1, .nil => .nil
  | _, _, n + 1, .cons r t => .cons r (Vals.take n t)
theorem Vals.drop : ∀ {xs : List V} {us : List Value} (n : Nat), Vals xs us → Vals (xs.drop n) (us.drop n)
  | _, _, 0, r => r
  | _, _, _ + 1, .nil => .nil
  | _, _, n + 1, .cons _ t => Vals.drop n t
def RelO : Option V → Option Value → Prop
  | some v, some u => RelV v u
  | none, none => True
  | _, _ => False
def KV {κ : Type} : List (κ × V) → List (κ × Value) → Prop := Paired fun (p : κ × V) (q : κ × Value) => p.1 = q.1 ∧ RelV p.2 q.2

/-- a key of a dict (00_mix): an int or a text -/
def kV : Key → V
  | .inl i => .int i
  | .inr x => .str x

/-- what stands at a tracked address -/
inductive HO where
  /-- a list -/
  | lst (xs : List V)
  /-- a tuple (never changes) -/
  | tup (xs : List V)
  /-- a dict whose keys are ints and texts; one whose keys are tuples of ints and texts (the empty one is both) -/
  | dK (kvs : List (Key × V)) | dT (kvs : List (List Key × V))
  /-- a set of ints: its members, its size -/
  | set (S : Int → Bool) (n : Nat)
  /-- an instance of the class at C, its dict at dx, its attributes -/
  | ins (C dx : Addr) (fs : List (Str × V))
  /-- the dict of the instance at x -/
  | own (x : Addr)
  /-- the dict of an exception -/
  | xd (fs : List (Str × V))
  /-- a bound method, f of x -/
  | met (f x : Addr)
  /-- a range object lo, lo + 1, .. below hi -/
  | rng (lo hi : Int)
  /-- a thing that is known to the object (the script; a dict while a loop walks it): read, never written while it is so -/
  | frz (o : Obj) (u : HO)
  /-- a code object's table -/
  | tbl (ps : Array Value)
  /-- any other thing, by what is true of its one object (a def of one's own: SetO a S n := HO.ext fun h => ..) -/
  | ext (φ : Heap → Prop)

abbrev Hp := Addr → Option HO
def upd (H : Hp) (a : Addr) (o : HO) : Hp := fun b => if b = a then some o else H b
theorem upd_same {H : Hp} {a : Addr} {o : HO} : upd H a o a = some o := by unfold upd; rw [if_pos rfl]
theorem upd_ne {H : Hp} {a b : Addr} {o : HO} (h : b ≠ a) : upd H a o b = H b := by unfold upd; rw [if_neg h]
theorem upd_upd {H : Hp} {a : Addr} {o u : HO} : upd (upd H a o) a u = upd H a u := by
  funext b; unfold upd; split <;> rfl
/-- two objects of different content stand apart -/
theorem ne_of {H : Hp} {a b : Addr} {o u : HO} (h : H a = some o) (h' : H b = some u) (d : o ≠ u) : a ≠ b := by
  intro e; subst e; rw [h] at h'; exact d (Option.some.inj h')
theorem ne_of_none {H : Hp} {a b : Addr} {o : HO} (h : H a = some o) (h' : H b = none) : a ≠ b := by
  intro e; subst e; rw [h] at h'; cases h'

section
variable (P : Program) (w : World)
def ObjOk (H : Hp) (h : Heap) (a : Addr) : HO → Prop
  | .lst xs => xs.length ≤ sizeLine ∧ ∃ (its : List Value) (n : Nat), Vals xs its ∧ h.get? a = some { cls := .type "list", data := .seq its.toArray n }
  | .tup xs => xs.length ≤ sizeLine ∧ ∃ its : List Value, Vals xs its ∧ IsTup h a its.toArray
  | .dK kvs => kvs.length ≤ sizeLine ∧ (a == sysModules) = false ∧ ∃ vs, KV kvs vs ∧ h.DictOf (mixKind P w) a vs
  | .dT kvs => kvs.length ≤ sizeLine ∧ (a == sysModules) = false ∧ ∃ xs : List (List Key × Addr × Value),
      Paired (fun (p : List Key × V) (q : List Key × Addr × Value) => p.1 = q.1 ∧ H q.2.1 = some (.tup (p.1.map kV)) ∧ RelV p.2 q.2.2) kvs xs ∧
      ∃ o es ep, h.get? a = some o ∧ o.ExactDict ∧ o.data = .dict es ep ∧ es.toList = xs.map (entryOfKey (tupleKind (mixKind P w))) ∧ (xs.map (·.1)).Nodup
  | .set S n => h.SetOf (intKind P w) a S n
  | .ins C dx fs => H dx = some (.own a) ∧ fs.length ≤ 1000 ∧ dx ≠ a ∧ h.get? a = some (PySem.W.instObj C dx) ∧
      ∃ mA, h.Ns1 dx mA ∧ (∀ f, RelO (fs.lookup f) (mA f)) ∧ PySem.Within mA (fs.map (·.1))
  | .own _ => ∃ o, h.get? a = some o
  | .xd fs => ∃ mA, h.Ns1 a mA ∧ ∀ f, RelO (fs.lookup f) (mA f)
  | .rng lo hi => ∃ t u v, h.get? a = some { cls := .type "range", data := .fields #[.int lo t, .int hi u, .int 1 v] }
  | .frz o u => h.get? a = some o ∧ ObjOk H h a u
  | .tbl ps => h.get? a = some { cls := .none, data := .fields ps }
  | .met f x => h.get? a = some (PySem.W.methodObj (.ref f) (.ref x))
  | .ext φ => φ h ∧ (∃ o, h.get? a = some o) ∧ ∀ h1 h2 : Heap, φ h1 → (∀ o, h1.get? a = some o → h2.get? a = some o) → φ h2
/-- the abstract heap is held -/
def HOk (H : Hp) (h : Heap) : Prop := ∀ a o, H a = some o → ObjOk P w H h a o
end

section
variable {P : Program} {w : World} {H H' : Hp} {h h' : Heap} {a : Addr} {o : HO}
theorem ObjOk.lt (x : ObjOk P w H h a o) : a < h.objs.size := by
  cases o with
  | lst xs => obtain ⟨_, _, _, _, e⟩ := x; exact Heap.lt_size e
  | tup xs => obtain ⟨_, _, _, p⟩ := x; exact p.lt
  | dK kvs => obtain ⟨_, _, _, _, o, _, _, e, _⟩ := x; exact Heap.lt_size e
  | dT kvs => obtain ⟨_, _, _, _, o, _, _, e, _⟩ := x; exact Heap.lt_size e
  | set S n => obtain ⟨o, _, _, _, e, _⟩ := x; exact Heap.lt_size e
  | ins C dx fs => obtain ⟨_, _, _, e, _⟩ := x; exact Heap.lt_size e
  | own y => obtain ⟨_, e⟩ := x; exact Heap.lt_size e
  | xd fs => obtain ⟨_, ⟨_, _, _, e, _⟩, _⟩ := x; exact Heap.lt_size e
  | rng lo hi => obtain ⟨_, _, _, e⟩ := x; exact Heap.lt_size e
  | frz ob u => obtain ⟨e, _⟩ := x; exact Heap.lt_size e
  | tbl ps => exact Heap.lt_size (show h.get? a = some _ from x)
  | met f y => exact Heap.lt_size (show h.get? a = some _ from x)
  | ext φ => obtain ⟨_, ⟨_, e⟩, _⟩ := x; exact Heap.lt_size e
theorem Paired.mapP {α β : Type} {F G : α → β → Prop} : ∀ {l₁ : List α} {l₂ : List β}, Paired F l₁ l₂ → (∀ a b, F a b → G a b) → Paired G l₁ l₂
  | _, _, .nil, _ => .nil
  | _, _, .cons r t, f => .cons (f _ _ r) (Paired.mapP t f)
/-- what an object's description leans on: its own object, its own dict, the tuples -/
theorem ObjOk.stay (x : ObjOk P w H h a o) (k : ∀ b u, (b = a ∨ H b = some (.own a)) → h.get? b = some u → h'.get? b = some u)
    (ho : ∀ b, H b = some (.own a) → H' b = some (.own a)) (ht : ∀ b xs, H b = some (.tup xs) → H' b = some (.tup xs)) : ObjOk P w H' h' a o := by
  induction o with
  | lst xs => obtain ⟨z, its, n, r, e⟩ := x; exact ⟨z, its, n, r, k _ _ (.inl rfl) e⟩
  | tup xs => obtain ⟨z, its, r, ob, e, c⟩ := x; exact ⟨z, its, r, ob, k _ _ (.inl rfl) e, c⟩
  | dK kvs => obtain ⟨z, y, vs, r, ob, es, ep, e, c⟩ := x; exact ⟨z, y, vs, r, ob, es, ep, k _ _ (.inl rfl) e, c⟩
  | dT kvs =>
    obtain ⟨z, y, xs, r, ob, es, ep, e, c⟩ := x
    exact ⟨z, y, xs, Paired.mapP r fun p q z => ⟨z.1, ht _ _ z.2.1, z.2.2⟩, ob, es, ep, k _ _ (.inl rfl) e, c⟩
  | set S n => obtain ⟨ob, es, ep, t, e, c⟩ := x; exact ⟨ob, es, ep, t, k _ _ (.inl rfl) e, c⟩
  | ins C dx fs =>
    obtain ⟨d, z, ne, e, mA, ⟨od, es, ep, e2, c⟩, r⟩ := x
    exact ⟨ho _ d, z, ne, k _ _ (.inl rfl) e, mA, ⟨od, es, ep, k _ _ (.inr d) e2, c⟩, r⟩
  | own y => obtain ⟨ob, e⟩ := x; exact ⟨ob, k _ _ (.inl rfl) e⟩
  | xd fs => obtain ⟨mA, ⟨od, es, ep, e, c⟩, r⟩ := x; exact ⟨mA, ⟨od, es, ep, k _ _ (.inl rfl) e, c⟩, r⟩
  | rng lo hi => obtain ⟨t, u, v, e⟩ := x; exact ⟨t, u, v, k _ _ (.inl rfl) e⟩
  | frz ob u ih => obtain ⟨e, q⟩ := x; exact ⟨k _ _ (.inl rfl) e, ih q⟩
  | tbl ps =>
    have e : h.get? a = some { cls := .none, data := .fields ps } := x
    show h'.get? a = some { cls := .none, data := .fields ps }
    exact k a _ (.inl rfl) e
  | met f y =>
    have e : h.get? a = some (PySem.W.methodObj (.ref f) (.ref y)) := x
    show h'.get? a = some (PySem.W.methodObj (.ref f) (.ref y))
    exact k a _ (.inl rfl) e
  | ext φ => obtain ⟨p, ⟨o, e⟩, st⟩ := x; exact ⟨st _ _ p fun o q => k _ _ (.inl rfl) q, ⟨o, k _ _ (.inl rfl) e⟩, st⟩
theorem HOk.lt (x : HOk P w H h) (e : H a = some o) : a < h.objs.size := (x a o e).lt
theorem HOk.fresh (x : HOk P w H h) (e : h.objs.size ≤ a) : H a = none := by
  cases q : H a with
  | none => rfl
  | some u => exact absurd (Nat.lt_of_lt_of_le (x.lt q) e) (Nat.lt_irrefl _)
/-- every object of the heap is kept -/
theorem HOk.kept (x : HOk P w H h) (k : ∀ b u, h.get? b = some u → h'.get? b = some u) : HOk P w H h' := fun a o e =>
  (x a o e).stay (fun b u _ q => k b u q) (fun _ q => q) fun _ _ q => q
/-- a new object is laid and tracked -/
theorem HOk.laid (x : HOk P w H h) (k : ∀ b u, h.get? b = some u → h'.get? b = some u) (hp : h.objs.size ≤ a) (new : ObjOk P w (upd H a o) h' a o) : HOk P w (upd H a o) h' := fun b u e => by
  have hn := x.fresh hp
  by_cases hb : b = a
  · subst hb; rw [upd_same] at e; cases e; exact new
  · rw [upd_ne hb] at e
    exact (x b u e).stay (fun c v _ q => k c v q) (fun c q => by rw [upd_ne (ne_of_none q hn)]; exact q) fun c xs q => by rw [upd_ne (ne_of_none q hn)]; exact q
end

/-- what may be read as u: it is u, or a known u -/
def Rd (H : Hp) (a : Addr) (u : HO) : Prop := H a = some u ∨ ∃ o, H a = some (.frz o u)
theorem Rd.of {H : Hp} {a : Addr} {u : HO} (h : H a = some u) : Rd H a u := .inl h
theorem Rd.ok {P : Program} {w : World} {H : Hp} {h : Heap} {a : Addr} {u : HO} (r : Rd H a u) (x : HOk P w H h) : ObjOk P w H h a u := by
  rcases r with r | ⟨o, r⟩
  · exact x a u r
  · obtain ⟨_, q⟩ := x a _ r
    exact q
/-- what may be written -/
def Mut : Option HO → Prop
  | some (.lst _) => True
  | some (.dK _) => True
  | some (.dT _) => True
  | some (.set _ _) => True
  | some (.ins _ _ _) => True
  | some (.ext _) => True
  | _ => False
section
variable {P : Program} {w : World} {H : Hp} {h h' : Heap} {x e : Addr} {o' : HO}
/-- the object at e is changed: x itself, or the dict of the instance x -/
theorem HOk.write (ok : HOk P w H h) (mu : Mut (H x)) (he : e = x ∨ H e = some (.own x)) (k : ∀ b u, b ≠ e → h.get? b = some u → h'.get? b = some u) (heo : ∃ u, h'.get? e = some u)
    (new : ObjOk P w (upd H x o') h' x o') : HOk P w (upd H x o') h' := fun b u q => by
  have nown : ∀ c y, H c = some (.own y) → c ≠ x := fun c y r z => by subst z; rw [r] at mu; exact mu
  have ntup : ∀ c xs, H c = some (.tup xs) → c ≠ x := fun c xs r z => by subst z; rw [r] at mu; exact mu
  by_cases hb : b = x
  · subst hb; rw [upd_same] at q; cases q; exact new
  · rw [upd_ne hb] at q
    by_cases hbe : b = e
    · have q' : H b = some (.own x) := by
        rcases he with z | z
        · exact absurd (hbe.trans z) hb
        · rw [hbe]; exact z
      rw [q] at q'; cases q'
      obtain ⟨v, hv⟩ := heo
      exact ⟨v, by rw [hbe]; exact hv⟩
    · refine (ok b u q).stay (fun c v hc r => k c v ?_ r) (fun c r => by rw [upd_ne (nown c b r)]; exact r) fun c xs r => by rw [upd_ne (ntup c xs r)]; exact r
      rcases hc with rfl | hc
      · exact hbe
      · rintro rfl
        rcases he with z | z
        · exact nown c b hc z
        · rw [hc] at z; cases z; exact hb rfl
end

/-! ### kept unless tracked; of the frames at fs (the callers') the slots may change (an exception that passes writes there); of the records at ex (iterators) nothing is said -/
structure Un (fs ex : List Addr) (H H' : Hp) (h h' : Heap) : Prop where
  keep : ∀ b o, h.get? b = some o → H b = none → b ∉ fs → b ∉ ex → h'.get? b = some o
  slot : ∀ b o, h.get? b = some o → H b = none → b ∈ fs → b ∉ ex → ∃ sl, h'.get? b = some { o with slots := sl }
  free : ∀ b o, h.get? b = some o → H b = none → b ∉ ex → H' b = none
  there : ∀ b o, h.get? b = some o → b ∉ ex → ∃ o', h'.get? b = some o'
  tups : ∀ b xs, H b = some (.tup xs) → H' b = some (.tup xs)
  frzs : ∀ b o u, H b = some (.frz o u) → H' b = some (.frz o u)
  tbls : ∀ b ps, H b = some (.tbl ps) → ∃ more, H' b = some (.tbl (ps ++ more))
section
variable {fs fs' ex ex' : List Addr} {H H1 H2 : Hp} {h h1 h2 h' : Heap} {a x e : Addr} {o : HO}
theorem Un.any (u : Un fs ex H H1 h h1) {b : Addr} {ob : Obj} (q : h.get? b = some ob) (n : H b = none) (hx : b ∉ ex) : ∃ sl, h1.get? b = some { ob with slots := sl } := by
  by_cases hb : b ∈ fs
  · exact u.slot b ob q n hb hx
  · exact ⟨ob.slots, u.keep b ob q n hb hx⟩
theorem Un.trans (a : Un fs ex H H1 h h1) (b : Un fs ex H1 H2 h1 h2) : Un fs ex H H2 h h2 where
  keep := fun c ob q n hc hx => b.keep c ob (a.keep c ob q n hc hx) (a.free c ob q n hx) hc hx
  slot := fun c ob q n hc hx => by
    obtain ⟨sl, e1⟩ := a.slot c ob q n hc hx
    obtain ⟨sl', e2⟩ := b.slot c _ e1 (a.free c ob q n hx) hc hx
    exact ⟨sl', e2⟩
  free := fun c ob q n hx => by
    obtain ⟨o', e1⟩ := a.there c ob q hx
    exact b.free c o' e1 (a.free c ob q n hx) hx
  there := fun c ob q hx => by
    obtain ⟨o', e1⟩ := a.there c ob q hx
    exact b.there c o' e1 hx
  tups := fun c xs q => b.tups c xs (a.tups c xs q)
  frzs := fun c ob xs q => b.frzs c ob xs (a.frzs c ob xs q)
  tbls := fun c ps q => by
    obtain ⟨m1, e1⟩ := a.tbls c ps q
    obtain ⟨m2, e2⟩ := b.tbls c _ e1
    exact ⟨m1 ++ m2, by rw [e2, Array.append_assoc]⟩
theorem Un.kept (k : ∀ b u, h.get? b = some u → h'.get? b = some u) : Un fs ex H H h h' :=
  ⟨fun b ob q _ _ _ => k b ob q, fun b ob q _ _ _ => ⟨ob.slots, k b ob q⟩, fun _ _ _ n _ => n, fun b ob q _ => ⟨ob, k b ob q⟩, fun _ _ q => q, fun _ _ _ q => q, fun _ ps q => ⟨#[], by rw [q]; simp⟩⟩
theorem Un.refl : Un fs ex H H h h := Un.kept fun _ _ q => q
theorem Un.laid (k : ∀ b u, h.get? b = some u → h'.get? b = some u) (hp : h.objs.size ≤ a) (hn : H a = none) : Un fs ex H (upd H a o) h h' where
  keep := fun b u q _ _ _ => k b u q
  slot := fun b u q _ _ _ => ⟨u.slots, k b u q⟩
  free := fun b u q n _ => by rw [upd_ne (Nat.ne_of_lt (Nat.lt_of_lt_of_le (Heap.lt_size q) hp))]; exact n
  there := fun b u q _ => ⟨u, k b u q⟩
  tups := fun b xs q => by rw [upd_ne (ne_of_none q hn)]; exact q
  frzs := fun b u xs q => by rw [upd_ne (ne_of_none q hn)]; exact q
  tbls := fun b ps q => ⟨#[], by rw [upd_ne (ne_of_none q hn), q]; simp⟩
theorem Un.write (mu : Mut (H x)) (he : e = x ∨ H e = some (.own x)) (k : ∀ b u, b ≠ e → h.get? b = some u → h'.get? b = some u) (heo : ∃ u, h'.get? e = some u) : Un fs ex H (upd H x o) h h' := by
  have hx : ∀ b, H b = none → b ≠ x := fun b n z => by subst z; rw [n] at mu; exact mu
  have hb : ∀ b, H b = none → b ≠ e := fun b n z => by
    subst z
    rcases he with r | r
    · exact hx b n r
    · rw [n] at r; cases r
  have hm : ∀ b u, H b = some u → ¬ Mut (some u) → b ≠ x := fun b u q nm z => by subst z; rw [q] at mu; exact nm mu
  refine ⟨fun b u q n _ _ => k b u (hb b n) q, fun b u q n _ _ => ⟨u.slots, k b u (hb b n) q⟩, fun b u q n _ => by rw [upd_ne (hx b n)]; exact n, fun b u q _ => ?_,
    fun b xs q => by rw [upd_ne (hm b _ q fun z => z)]; exact q, fun b u xs q => by rw [upd_ne (hm b _ q fun z => z)]; exact q, fun b ps q => ⟨#[], by rw [upd_ne (hm b _ q fun z => z), q]; simp⟩⟩
  by_cases hbe : b = e
  · subst hbe; exact heo
  · exact ⟨u, k b u hbe q⟩
theorem Un.mono (u : Un fs ex H H1 h h1) (hs : ∀ b ∈ fs, b ∈ fs') (hx : ∀ b ∈ ex, b ∈ ex') : Un fs' ex' H H1 h h1 :=
  ⟨fun b ob q n hb he => u.keep b ob q n (fun z => hb (hs b z)) fun z => he (hx b z), fun _ _ q n _ he => u.any q n fun z => he (hx _ z), fun b ob q n he => u.free b ob q n fun z => he (hx b z), fun b ob q he => u.there b ob q fun z => he (hx b z), u.tups, u.frzs, u.tbls⟩
end

/-! ### the heap without what is tracked -/
def trk (h : Heap) (H : Hp) : List Addr := (List.range h.objs.size).filter fun a => (H a).isSome
def hidT (h : Heap) (H : Hp) : Heap := PySem.W.hideAll h (trk h H)
theorem hidT_size (h : Heap) (H : Hp) : (hidT h H).objs.size = h.objs.size := PySem.W.hideAll_size _ _
theorem hidT_get {h : Heap} {H : Hp} {b : Addr} {o : Obj} (e : h.get? b = some o) (n : H b = none) : (hidT h H).get? b = some o :=
  PySem.W.hideAll_get _ e fun hm => by
    have q : (H b).isSome = true := (List.mem_filter.mp hm).2
    rw [n] at q; simp at q
theorem of_hidT {h : Heap} {H : Hp} {b : Addr} {o : Obj} (e : (hidT h H).get? b = some o) : h.get? b = some o ∧ H b = none := by
  have e' : h.get? b = some o := PySem.W.of_hideAll (trk h H) e
  refine ⟨e', ?_⟩
  cases q : H b with
  | none => rfl
  | some x =>
    have hm : b ∈ trk h H := List.mem_filter.mpr ⟨List.mem_range.mpr (Heap.lt_size e'), by simp [q]⟩
    have z : (hidT h H).get? b = none := PySem.W.hideAll_none (trk h H) hm
    rw [z] at e; cases e

/-! ### OpenK's ledger, filled with every new object but one -/
def allNews (g h : Heap) (L : Addr) : List (Addr × Obj) := (List.range h.objs.size).filterMap fun a => if a = L ∨ (g.get? a).isSome = true then none else (h.get? a).map fun o => (a, o)
def rest (g h : Heap) (L d : Addr) : List (Addr × Obj) := (allNews g h L).filter fun p => decide (p.1 ≠ d)
end L2

namespace L2
open PySem PySem.Spec PyProof.Rows

/-- the module's facts, over the base: the heap at the law's entry without what is tracked there -/
structure Mod (K : PySem.W.Frag) (mg : Str → Option Value) (base : Heap) : Prop where
  kin : K.In base
  glob : base.Ns mainGlobals mg
  blt : ∃ mb, base.Ns builtinsNs mb ∧ ∀ x : Str, x ≠ "__name__" → mb x = bootBuiltins x
  nolimit : base.NoLimit

/-- the context: a def's body (or a comprehension's block) running. base: fixed through the whole law; s₀, H₀: the entry; outer: the frames whose slots others may change (a def's callers); stack: all frames that run;
   ex: iterators that were made ahead of the entry and are walked here (a comprehension's); fn: the names whose cells were made at the entry (a def: all; a comprehension's block: its own); calm: not within an except suite; pn: pins that every state bears; xe: what is wanted of an exception that leaves the code -/
structure Cx where
  prog : Program
  w : World
  K : PySem.W.Frag
  mg : Str → Option Value
  base : Heap
  A : Around
  N : List Str
  s₀ : Shared
  H₀ : Hp
  env : Env
  outer : List Env
  stack : List Env
  ex : List Addr
  fn : Str → Bool
  calm : Bool
  pn : List (Addr × Obj)
  xe : Value → Shared → Prop
/-- the callers' frames -/
def frs (l : List Env) : List Addr := l.filterMap (·.frame)
abbrev Cx.fs (X : Cx) : List Addr := frs X.outer

def Vis (sc : Scope) (x : Str) : Prop := sc.names.lookup x = some .local ∨ sc.names.lookup x = some .cell ∨ sc.names.lookup x = some .free
def Loc (sc : Scope) (x : Str) : Prop := sc.names.lookup x = some .local ∨ sc.names.lookup x = some .cell
def Look (env : Env) (h : Heap) (m : Str → Option Value) (x : Str) (u : Value) : Prop :=
  (env.kindOf x = some .local ∧ m x = some u) ∨ ((env.kindOf x = some .cell ∨ env.kindOf x = some .free) ∧ ∃ c, env.cells.lookup x = some c ∧ h.IsCell c (some u))

structure Cx.Ok (X : Cx) : Prop where
  mod : Mod X.K X.mg X.base
  kind : X.env.scope.kind = .function
  glob : X.env.globals = mainGlobals
  blt : X.env.builtins = builtinsNs
  above : X.s₀.heap.objs.size ≤ X.env.locals
  inj : ∀ x y c, X.env.cells.lookup x = some c → X.env.cells.lookup y = some c → x = y
  has : ∀ x, (X.env.kindOf x = some .cell ∨ X.env.kindOf x = some .free) → ∃ c, X.env.cells.lookup x = some c
  cab : ∀ x c, X.fn x = true → X.env.cells.lookup x = some c → X.s₀.heap.objs.size ≤ c
  hd : X.calm = true → X.A.handled = none
  frames : X.A.frames = some X.stack
  stk : X.stack = X.outer ∨ (X.stack = X.env :: X.outer ∧ X.env.frame = some X.env.locals)
  exf : ∀ b ∈ X.ex, b ≠ X.env.locals ∧ ∀ x c, X.env.cells.lookup x = some c → c ≠ b
  bs : ∀ b o, X.base.get? b = some o → X.s₀.heap.get? b = some o ∧ X.H₀ b = none
  bsz : X.base.objs.size ≤ X.s₀.heap.objs.size
  noex : ∀ b o, X.base.get? b = some o → b ∉ X.ex
  exfs : ∀ b ∈ X.ex, b ∉ X.fs
  funs : X.s₀.heap.FunFrames X.base X.outer
  frf : ∀ b ∈ X.fs, X.H₀ b = none

structure Inv (X : Cx) (pins : List (Addr × Obj)) (σ : List (Option V)) (H : Hp) (s : Shared) : Prop where
  ok : X.Ok
  os : s.os = X.s₀.os
  bare : AllBare s.gens
  base : Un X.fs X.ex X.H₀ H X.s₀.heap s.heap
  loc : ∃ m, s.heap.Ns X.env.locals m ∧ ∀ (i : Nat) (x : Str) (v : V), X.N[i]? = some x → σ[i]? = some (some v) → Vis X.env.scope x → ∃ u, RelV v u ∧ Look X.env s.heap m x u
  cell : ∀ x c, X.env.cells.lookup x = some c → ∃ v, s.heap.IsCell c v
  free : H X.env.locals = none
  freeC : ∀ x c, X.env.cells.lookup x = some c → H c = none
  pin : ∀ p ∈ X.pn ++ pins, s.heap.get? p.1 = some p.2 ∧ H p.1 = none ∧ p.1 ≠ X.env.locals ∧ p.1 ∉ X.fs ∧ ∀ v, p.2.data ≠ .cell v
  hok : HOk X.prog X.w H s.heap
  len : σ.length = X.N.length

section
variable {X : Cx} {pins : List (Addr × Obj)} {σ : List (Option V)} {H H' : Hp} {s : Shared} {h' : Heap}

theorem Cx.Ok.nofr (ok : X.Ok) {b : Addr} {o : Obj} (e : X.base.get? b = some o) : b ∉ X.fs := fun hb => by
  have := (ok.funs.mem hb).1
  rw [e] at this; cases this
theorem Inv.bs (I : Inv X pins σ H s) : ∀ b o, X.base.get? b = some o → s.heap.get? b = some o ∧ H b = none := fun b o e =>
  ⟨I.base.keep b o (I.ok.bs b o e).1 (I.ok.bs b o e).2 (I.ok.nofr e) (I.ok.noex b o e), I.base.free b o (I.ok.bs b o e).1 (I.ok.bs b o e).2 (I.ok.noex b o e)⟩
theorem Inv.bk (I : Inv X pins σ H s) : ∀ b o, X.base.get? b = some o → s.heap.get? b = some o := fun b o e => (I.bs b o e).1
theorem Inv.mod (I : Inv X pins σ H s) : Mod X.K X.mg X.base := I.ok.mod
theorem Inv.kIn (I : Inv X pins σ H s) : X.K.In s.heap := I.ok.mod.kin.keeps I.bk
theorem Inv.nolimit (I : Inv X pins σ H s) : s.heap.NoLimit := I.ok.mod.nolimit.keeps I.bk
/-- the frame over the base: for OpenK's rules (K.In X.base is I.mod.kin) -/
theorem Inv.fr (I : Inv X pins σ H s) : ∃ m, Fr X.base X.env.locals s.heap m :=
  let ⟨m, hn, _⟩ := I.loc
  ⟨m, hn, I.bk, Nat.le_trans I.ok.bsz I.ok.above⟩
theorem Inv.lt (I : Inv X pins σ H s) : X.env.locals < s.heap.objs.size := let ⟨_, hn, _⟩ := I.loc; hn.lt
theorem Inv.sz (I : Inv X pins σ H s) : X.s₀.heap.objs.size ≤ s.heap.objs.size := Nat.le_trans I.ok.above (Nat.le_of_lt I.lt)
theorem Inv.nofs (I : Inv X pins σ H s) {a : Addr} (h : s.heap.objs.size ≤ a) : a ∉ X.fs := fun hb => by
  obtain ⟨_, o, ho, _⟩ := I.ok.funs.mem hb
  exact absurd (Nat.lt_of_lt_of_le (Heap.lt_size ho) (Nat.le_trans I.sz h)) (Nat.lt_irrefl _)
theorem Inv.cne (I : Inv X pins σ H s) : ∀ x c, X.env.cells.lookup x = some c → c ≠ X.env.locals := fun x c e z => by
  obtain ⟨v, o, ho, hd⟩ := I.cell x c e
  obtain ⟨m, ⟨o', es, ep, ho', hd', _⟩, _⟩ := I.loc
  rw [z, ho'] at ho; cases ho; rw [hd'] at hd; cases hd
theorem Inv.funs (I : Inv X pins σ H s) : s.heap.FunFrames X.base X.outer := by
  have all : ∀ (l : List Env), (∀ b ∈ frs l, b ∈ X.fs) → X.s₀.heap.FunFrames X.base l → s.heap.FunFrames X.base l := by
    intro l
    induction l with
    | nil => intro _ _; trivial
    | cons env r ih =>
      intro hs hl
      obtain ⟨hk, ⟨L, o, hf, hn, ho, hd⟩, hr⟩ := hl
      have hL : L ∈ X.fs := hs L (by unfold frs; rw [List.filterMap_cons, hf]; exact List.mem_cons_self)
      obtain ⟨sl, e⟩ := I.base.slot L o ho (I.ok.frf L hL) hL fun z => I.ok.exfs L z hL
      exact ⟨hk, ⟨L, _, hf, hn, e, hd⟩, ih (fun b hb => hs b (by unfold frs; rw [List.filterMap_cons, hf]; exact List.mem_cons_of_mem _ hb)) hr⟩
  exact all X.outer (fun _ hb => hb) I.ok.funs

/-- the frames that run, for a call -/
theorem Inv.stack (I : Inv X pins σ H s) : s.heap.FunFrames X.base X.stack := by
  rcases I.ok.stk with e | ⟨e, hf⟩
  · rw [e]; exact I.funs
  · rw [e]
    obtain ⟨m, hn, _⟩ := I.loc
    refine .cons (by rw [I.ok.kind]; decide) hf hn ?_ I.funs
    exact Heap.get?_none_of_le (Nat.le_trans I.ok.bsz I.ok.above)
theorem Inv.stkSub (I : Inv X pins σ H s) : ∀ b ∈ frs X.stack, b ∈ X.env.locals :: X.fs := fun b hb => by
  rcases I.ok.stk with e | ⟨e, hf⟩
  · rw [e] at hb; exact List.mem_cons_of_mem _ hb
  · rw [e] at hb
    unfold frs at hb
    rw [List.filterMap_cons, hf] at hb
    exact hb
theorem Inv.stkFree (I : Inv X pins σ H s) : ∀ b ∈ frs X.stack, H b = none := fun b hb => by
  rcases List.mem_cons.mp (I.stkSub b hb) with e | hb
  · rw [e]; exact I.free
  · obtain ⟨_, o, ho, _⟩ := I.ok.funs.mem hb
    exact I.base.free b o ho (I.ok.frf b hb) fun z => I.ok.exfs b z hb

/-- THE STEP: the untracked objects but the frame and the records at ch are kept (the callers' frames up to slots), the frame's map is kept, the new abstract heap is held -/
theorem Inv.step {g' : Array GenState} {t' : Nat} {d' : Drawn} {ch : List Addr} (I : Inv X pins σ H s)
    (hch : ∀ b ∈ ch, (b ∈ X.ex ∨ X.s₀.heap.objs.size ≤ b) ∧ b ≠ X.env.locals ∧ (∀ x c, X.env.cells.lookup x = some c → c ≠ b) ∧ ∀ p ∈ X.pn ++ pins, p.1 ≠ b)
    (keep : ∀ b o, b ≠ X.env.locals → b ∉ X.fs → b ∉ ch → s.heap.get? b = some o → H b = none → h'.get? b = some o)
    (slot : ∀ b o, b ≠ X.env.locals → b ∈ X.fs → b ∉ ch → s.heap.get? b = some o → H b = none → ∃ sl, h'.get? b = some { o with slots := sl }) (free : ∀ b o, b ∉ ch → s.heap.get? b = some o → H b = none → H' b = none)
    (there : ∀ b o, b ∉ ch → s.heap.get? b = some o → ∃ o', h'.get? b = some o')
    (tups : ∀ b xs, H b = some (.tup xs) → H' b = some (.tup xs)) (frzs : ∀ b o u, H b = some (.frz o u) → H' b = some (.frz o u)) (tbls : ∀ b ps, H b = some (.tbl ps) → ∃ more, H' b = some (.tbl (ps ++ more)))
    (ns : ∀ m, s.heap.Ns X.env.locals m → h'.Ns X.env.locals m) (hok : HOk X.prog X.w H' h') (hg : AllBare g') :
    Inv X pins σ H' { s with heap := h', gens := g', drawn := d', toks := t' } := by
  have neL : ∀ b o, X.s₀.heap.get? b = some o → b ≠ X.env.locals := fun b o e => Nat.ne_of_lt (Nat.lt_of_lt_of_le (Heap.lt_size e) I.ok.above)
  have neC : ∀ b o, X.s₀.heap.get? b = some o → b ∉ X.ex → b ∉ ch := fun b o e hx hb => by
    rcases (hch b hb).1 with z | z
    · exact hx z
    · exact absurd (Nat.lt_of_lt_of_le (Heap.lt_size e) z) (Nat.lt_irrefl _)
  have cellK : ∀ x c, X.env.cells.lookup x = some c → ∀ v, s.heap.IsCell c v → h'.IsCell c v := fun x c e v ⟨o, ho, hd⟩ => by
    have nch : c ∉ ch := fun z => (hch c z).2.2.1 x c e rfl
    by_cases hc : c ∈ X.fs
    · obtain ⟨sl, q⟩ := slot c o (I.cne x c e) hc nch ho (I.freeC x c e)
      exact ⟨_, q, hd⟩
    · exact ⟨o, keep c o (I.cne x c e) hc nch ho (I.freeC x c e), hd⟩
  refine ⟨I.ok, I.os, hg, ⟨fun b o e n hb hx => ?_, fun b o e n hb hx => ?_, fun b o e n hx => ?_, fun b o e hx => ?_, fun b xs e => tups b xs (I.base.tups b xs e), fun b o xs e => frzs b o xs (I.base.frzs b o xs e), fun b ps e => ?_⟩, ?_, fun x c e => ?_, ?_, fun x c e => ?_, fun p hp => ?_, hok, I.len⟩
  · exact keep b o (neL b o e) hb (neC b o e hx) (I.base.keep b o e n hb hx) (I.base.free b o e n hx)
  · obtain ⟨sl, e1⟩ := I.base.slot b o e n hb hx
    obtain ⟨sl', e2⟩ := slot b _ (neL b o e) hb (neC b o e hx) e1 (I.base.free b o e n hx)
    exact ⟨sl', e2⟩
  · obtain ⟨o', e1⟩ := I.base.there b o e hx
    exact free b o' (neC b o e hx) e1 (I.base.free b o e n hx)
  · obtain ⟨o', e1⟩ := I.base.there b o e hx
    exact there b o' (neC b o e hx) e1
  · obtain ⟨m1, e1⟩ := I.base.tbls b ps e
    obtain ⟨m2, e2⟩ := tbls b _ e1
    exact ⟨m1 ++ m2, by rw [e2, Array.append_assoc]⟩
  · obtain ⟨m, hn, hl⟩ := I.loc
    refine ⟨m, ns m hn, fun i x v e1 e2 e3 => ?_⟩
    obtain ⟨u, r, l⟩ := hl i x v e1 e2 e3
    refine ⟨u, r, ?_⟩
    rcases l with l | ⟨k, c, e, z⟩
    · exact .inl l
    · exact .inr ⟨k, c, e, cellK x c e _ z⟩
  · obtain ⟨v, z⟩ := I.cell x c e
    exact ⟨v, cellK x c e v z⟩
  · obtain ⟨m, ⟨o, _, _, ho, _⟩, _⟩ := I.loc
    exact free _ o (fun z => (hch _ z).2.1 rfl) ho I.free
  · obtain ⟨v, o, ho, hd⟩ := I.cell x c e
    exact free c o (fun z => (hch c z).2.2.1 x c e rfl) ho (I.freeC x c e)
  · obtain ⟨e, n, ne, nf, d⟩ := I.pin p hp
    have nch : p.1 ∉ ch := fun z => (hch p.1 z).2.2.2 p hp rfl
    exact ⟨keep p.1 p.2 ne nf nch e n, free p.1 p.2 nch e n, ne, nf, d⟩
/-- .. where the frame's own object is kept too -/
theorem Inv.un {t' : Nat} (I : Inv X pins σ H s) (u : Un X.fs [] H H' s.heap h') (hok : HOk X.prog X.w H' h') : Inv X pins σ H' { s with heap := h', toks := t' } := by
  obtain ⟨m, ⟨o, es, ep, ho, r⟩, _⟩ := id I.loc
  obtain ⟨sl, hL⟩ := u.any ho I.free (by simp)
  exact I.step (g' := s.gens) (d' := s.drawn) (ch := []) (fun _ z => nomatch z) (fun b o _ hb _ e n => u.keep b o e n hb (by simp)) (fun b o _ hb _ e n => u.slot b o e n hb (by simp)) (fun b o _ e n => u.free b o e n (by simp)) (fun b o _ e => u.there b o e (by simp)) u.tups u.frzs u.tbls (fun m' hm => by
    obtain ⟨o', es', ep', ho', r'⟩ := hm
    rw [ho] at ho'; cases ho'
    exact ⟨_, es', ep', hL, r'⟩) hok I.bare
/-- behind a call (or a comprehension's block): the slots of this frame may have changed too, the records at ch may have turned -/
theorem Inv.call {g' : Array GenState} {t' : Nat} {d' : Drawn} {ch : List Addr} (I : Inv X pins σ H s) (u : Un (frs X.stack) ch H H' s.heap h') (hok : HOk X.prog X.w H' h') (hg : AllBare g')
    (hch : ∀ b ∈ ch, (b ∈ X.ex ∨ X.s₀.heap.objs.size ≤ b) ∧ b ≠ X.env.locals ∧ (∀ x c, X.env.cells.lookup x = some c → c ≠ b) ∧ ∀ p ∈ X.pn ++ pins, p.1 ≠ b) :
    Inv X pins σ H' { s with heap := h', gens := g', drawn := d', toks := t' } := by
  obtain ⟨m, ⟨o, es, ep, ho, r⟩, _⟩ := id I.loc
  obtain ⟨sl, hL⟩ := u.any ho I.free fun z => (hch _ z).2.1 rfl
  exact I.step (ch := ch) hch (fun b o hL hb hc e n => u.keep b o e n (fun z => (List.mem_cons.mp (I.stkSub b z)).elim hL hb) hc) (fun b o _ _ hc e n => u.any e n hc) (fun b o hc e n => u.free b o e n hc) (fun b o hc e => u.there b o e hc) u.tups u.frzs u.tbls (fun m' hm => by
    obtain ⟨o', es', ep', ho', r'⟩ := hm
    rw [ho] at ho'; cases ho'
    exact ⟨_, es', ep', hL, r'⟩) hok hg
/-- an untracked record of ours (an iterator) has turned -/
theorem Inv.turned {t' : Nat} {it : Addr} (I : Inv X pins σ H s) (k : ∀ b o, b ≠ it → s.heap.get? b = some o → h'.get? b = some o) (hn : H it = none) (hL : it ≠ X.env.locals)
    (h1 : it ∈ X.ex ∨ X.s₀.heap.objs.size ≤ it) (h2 : ∀ x c, X.env.cells.lookup x = some c → c ≠ it) (h3 : ∀ p ∈ X.pn ++ pins, p.1 ≠ it) : Inv X pins σ H { s with heap := h', toks := t' } := by
  have nit : ∀ b u, H b = some u → b ≠ it := fun b u e z => by rw [z, hn] at e; cases e
  refine I.step (g' := s.gens) (d' := s.drawn) (ch := [it]) (fun b hb => ?_) (fun b o _ _ hc e _ => k b o (fun z => hc (by simp [z])) e) (fun b o _ _ hc e _ => ⟨o.slots, k b o (fun z => hc (by simp [z])) e⟩) (fun _ _ _ _ n => n)
    (fun b o hc e => ⟨o, k b o (fun z => hc (by simp [z])) e⟩) (fun _ _ e => e) (fun _ _ _ e => e) (fun b ps e => ⟨#[], by rw [e]; simp⟩) (fun m hm => ?_) (fun b u e => ?_) I.bare
  · have e : b = it := by simpa using hb
    subst e
    exact ⟨h1, hL, h2, h3⟩
  · obtain ⟨o, es, ep, ho, r⟩ := hm
    exact ⟨o, es, ep, k _ o (Ne.symm hL) ho, r⟩
  · refine (I.hok b u e).stay (fun c v hc q => k c v ?_ q) (fun _ q => q) fun _ _ q => q
    rcases hc with z | z
    · rw [z]; exact nit b u e
    · exact nit c _ z
theorem Inv.tok (I : Inv X pins σ H s) (t : Nat) : Inv X pins σ H { s with toks := t } := I.un (h' := s.heap) (t' := t) Un.refl I.hok
/-- all objects kept -/
theorem Inv.kept {t' : Nat} (I : Inv X pins σ H s) (k : ∀ b u, s.heap.get? b = some u → h'.get? b = some u) : Inv X pins σ H { s with heap := h', toks := t' } := I.un (Un.kept k) (I.hok.kept k)
/-- a new object laid and tracked -/
theorem Inv.laid {a : Addr} {o : HO} {t' : Nat} (I : Inv X pins σ H s) (k : ∀ b u, s.heap.get? b = some u → h'.get? b = some u) (hp : s.heap.objs.size ≤ a) (new : ObjOk X.prog X.w (upd H a o) h' a o) :
    Inv X pins σ (upd H a o) { s with heap := h', toks := t' } := I.un (Un.laid k hp (I.hok.fresh hp)) (I.hok.laid k hp new)
/-- an object written -/
theorem Inv.write {x e : Addr} {o : HO} {t' : Nat} (I : Inv X pins σ H s) (mu : Mut (H x)) (he : e = x ∨ H e = some (.own x)) (k : ∀ b u, b ≠ e → s.heap.get? b = some u → h'.get? b = some u) (heo : ∃ u, h'.get? e = some u)
    (new : ObjOk X.prog X.w (upd H x o) h' x o) : Inv X pins σ (upd H x o) { s with heap := h', toks := t' } := I.un (Un.write mu he k heo) (I.hok.write mu he k heo new)
theorem Inv.pins_of {pins' : List (Addr × Obj)} (I : Inv X pins σ H s) (h : ∀ p ∈ pins', s.heap.get? p.1 = some p.2 ∧ H p.1 = none ∧ p.1 ≠ X.env.locals ∧ p.1 ∉ X.fs ∧ ∀ v, p.2.data ≠ .cell v) : Inv X pins' σ H s :=
  ⟨I.ok, I.os, I.bare, I.base, I.loc, I.cell, I.free, I.freeC, fun p hp => (List.mem_append.mp hp).elim (fun z => I.pin p (List.mem_append_left _ z)) (h p), I.hok, I.len⟩

theorem nodup_ix {N : List Str} (hN : N.Nodup) {i j : Nat} {x : Str} (a : N[i]? = some x) (b : N[j]? = some x) : i = j := by
  obtain ⟨h1, e1⟩ := List.getElem?_eq_some_iff.mp a
  obtain ⟨h2, e2⟩ := List.getElem?_eq_some_iff.mp b
  exact (List.getElem_inj hN).mp (e1.trans e2.symm)

/-- a name is stored; what changed -/
theorem store_ok2 {M : Model} {A : Around} {E : Value → Shared → Prop} {i : Nat} {x : Str} {v : V} {u : Value} {Q : Unit → Shared → Prop} (I : Inv X pins σ H s) (hN : X.N.Nodup) (hi : X.N[i]? = some x) (hx : Loc X.env.scope x) (r : RelV v u)
    (h : ∀ s', Inv X pins (σ.set i (some v)) H s' → (∃ a, Heap.SameBut a s.heap s'.heap ∧ (a = X.env.locals ∨ X.env.cells.lookup x = some a)) → Q () s') (hf : X.fn x = true ∨ X.env.scope.names.lookup x = some .local := by first | exact .inl rfl | exact .inr rfl | assumption) : wpAny M A (storeName X.env x u) Q E s := by
  obtain ⟨m, hn, hl⟩ := id I.loc
  have hcls : (X.env.scope.kind == .class || (X.env.scope.kind == .module && X.env.locals != X.env.globals)) = false := by rw [I.ok.kind]; rfl
  have hiσ : i < σ.length := by rw [I.len]; exact (List.getElem?_eq_some_iff.mp hi).1
  have cne := I.cne
  have tracked : ∀ {a : Addr} {h' : Heap}, (∃ o, s.heap.get? a = some o ∧ H a = none) → Heap.SameBut a s.heap h' → HOk X.prog X.w H h' := fun {a h'} ha hs b ob e => by
    obtain ⟨_, _, hfree⟩ := ha
    refine (I.hok b ob e).stay (fun c w' hc q => (hs.2 c ?_).trans q) (fun _ q => q) fun _ _ q => q
    rintro rfl
    rcases hc with rfl | hc
    · rw [hfree] at e; cases e
    · rw [hfree] at hc; cases hc
  rcases hx with hk | hk
  · refine wpAny_storeName_local hk hn (fun h' hn' hs => ?_) hcls
    obtain ⟨oL, _, _, hoL, _⟩ := id hn
    refine h _ ⟨I.ok, I.os, I.bare, ⟨fun b o e n hb hx => ?_, fun b o e n hb hx => ?_, I.base.free, fun b o e hx => ?_, I.base.tups, I.base.frzs, I.base.tbls⟩, ⟨_, hn', fun j y v' e1 e2 e3 => ?_⟩, fun y c e => ?_, I.free, I.freeC, fun p hp => ?_, tracked ⟨oL, hoL, I.free⟩ hs, by simpa using I.len⟩ ⟨_, hs, .inl rfl⟩
    · exact (hs.2 b (Nat.ne_of_lt (Nat.lt_of_lt_of_le (Heap.lt_size e) I.ok.above))).trans (I.base.keep b o e n hb hx)
    · obtain ⟨sl, e1⟩ := I.base.slot b o e n hb hx
      exact ⟨sl, (hs.2 b (Nat.ne_of_lt (Nat.lt_of_lt_of_le (Heap.lt_size e) I.ok.above))).trans e1⟩
    · obtain ⟨o', e1⟩ := I.base.there b o e hx
      exact ⟨o', (hs.2 b (Nat.ne_of_lt (Nat.lt_of_lt_of_le (Heap.lt_size e) I.ok.above))).trans e1⟩
    · by_cases hj : j = i
      · subst hj
        rw [hi] at e1; cases e1
        rw [List.getElem?_set_self hiσ] at e2
        cases e2
        exact ⟨u, r, .inl ⟨hk, by simp⟩⟩
      · rw [List.getElem?_set_ne (Ne.symm hj)] at e2
        obtain ⟨u', r', q⟩ := hl j y v' e1 e2 e3
        refine ⟨u', r', ?_⟩
        rcases q with ⟨k, e⟩ | ⟨k, c, e, z⟩
        · refine .inl ⟨k, ?_⟩
          have : y ≠ x := fun e => hj (nodup_ix hN e1 (e ▸ hi))
          simp [this, e]
        · exact .inr ⟨k, c, e, z.sameBut hs (cne y c e)⟩
    · obtain ⟨w', z⟩ := I.cell y c e
      exact ⟨w', z.sameBut hs (cne y c e)⟩
    · obtain ⟨e, n, ne, nf, d⟩ := I.pin p hp
      exact ⟨(hs.2 p.1 ne).trans e, n, ne, nf, d⟩
  · have hfn : X.fn x = true := by
      rcases hf with z | z
      · exact z
      · rw [z] at hk; cases hk
    obtain ⟨c, hc⟩ := I.ok.has x (.inl hk)
    obtain ⟨w', z⟩ := I.cell x c hc
    refine wpAny_storeName_cell I.ok.kind hk hc z (fun h' hc' hs => ?_)
    obtain ⟨oc, hoc, hocd⟩ := id z
    refine h { s with heap := h' } ⟨I.ok, I.os, I.bare, ⟨fun b o e n hb hx => ?_, fun b o e n hb hx => ?_, I.base.free, fun b o e hx => ?_, I.base.tups, I.base.frzs, I.base.tbls⟩, ⟨m, hn.sameBut hs (Ne.symm (cne x c hc)), fun j y v' e1 e2 e3 => ?_⟩, fun y c' e => ?_, I.free, I.freeC, fun p hp => ?_, tracked ⟨oc, hoc, I.freeC x c hc⟩ hs, by simpa using I.len⟩ ⟨c, hs, .inr hc⟩
    · exact (hs.2 b (Nat.ne_of_lt (Nat.lt_of_lt_of_le (Heap.lt_size e) (I.ok.cab x c hfn hc)))).trans (I.base.keep b o e n hb hx)
    · obtain ⟨sl, e1⟩ := I.base.slot b o e n hb hx
      exact ⟨sl, (hs.2 b (Nat.ne_of_lt (Nat.lt_of_lt_of_le (Heap.lt_size e) (I.ok.cab x c hfn hc)))).trans e1⟩
    · obtain ⟨o', e1⟩ := I.base.there b o e hx
      exact ⟨o', (hs.2 b (Nat.ne_of_lt (Nat.lt_of_lt_of_le (Heap.lt_size e) (I.ok.cab x c hfn hc)))).trans e1⟩
    · by_cases hj : j = i
      · subst hj
        rw [hi] at e1; cases e1
        rw [List.getElem?_set_self hiσ] at e2
        cases e2
        exact ⟨u, r, .inr ⟨.inl hk, c, hc, hc'⟩⟩
      · rw [List.getElem?_set_ne (Ne.symm hj)] at e2
        obtain ⟨u', r', q⟩ := hl j y v' e1 e2 e3
        refine ⟨u', r', ?_⟩
        rcases q with q | ⟨k, c', e, z'⟩
        · exact .inl q
        · refine .inr ⟨k, c', e, z'.sameBut hs ?_⟩
          rintro rfl
          exact hj (nodup_ix hN e1 (I.ok.inj _ _ _ e hc ▸ hi))
    · by_cases hcc : c' = c
      · subst hcc; exact ⟨_, hc'⟩
      · obtain ⟨w2, z2⟩ := I.cell y c' e
        exact ⟨w2, z2.sameBut hs hcc⟩
    · obtain ⟨e, n, ne, nf, d⟩ := I.pin p hp
      refine ⟨(hs.2 p.1 ?_).trans e, n, ne, nf, d⟩
      intro q
      rw [q, hoc] at e
      have q' : oc = p.2 := Option.some.inj e
      exact d w' (by rw [← q']; exact hocd)
theorem store_ok {M : Model} {A : Around} {E : Value → Shared → Prop} {i : Nat} {x : Str} {v : V} {u : Value} {Q : Unit → Shared → Prop} (I : Inv X pins σ H s) (hN : X.N.Nodup) (hi : X.N[i]? = some x) (hx : Loc X.env.scope x) (r : RelV v u)
    (h : ∀ s', Inv X pins (σ.set i (some v)) H s' → Q () s') (hf : X.fn x = true ∨ X.env.scope.names.lookup x = some .local := by first | exact .inl rfl | exact .inr rfl | assumption) : wpAny M A (storeName X.env x u) Q E s :=
  store_ok2 I hN hi hx r (fun s' I' _ => h s' I') hf
/-- behind a call or a block, the state as it is -/
theorem Inv.call' {s' : Shared} {ch : List Addr} (I : Inv X pins σ H s) (ho : s'.os = s.os) (u : Un (frs X.stack) ch H H' s.heap s'.heap) (hok : HOk X.prog X.w H' s'.heap) (hg : AllBare s'.gens)
    (hch : ∀ b ∈ ch, (b ∈ X.ex ∨ X.s₀.heap.objs.size ≤ b) ∧ b ≠ X.env.locals ∧ (∀ x c, X.env.cells.lookup x = some c → c ≠ b) ∧ ∀ p ∈ X.pn ++ pins, p.1 ≠ b) : Inv X pins σ H' s' := by
  obtain ⟨h', g', d', t', o'⟩ := s'
  have e : o' = s.os := ho
  subst e
  exact I.call (g' := g') (t' := t') (d' := d') u hok hg hch
end

/-! ### the judgements -/
/-- an exception: its class, its own dict's address (where it has one), the abstract heap behind it -/
abbrev XK := Value → Option Addr → Hp → Prop
abbrev St := List (Option V)
abbrev VK := V → Hp → Prop
/-- an expression's reading; a test's; an argument list's -/
abbrev TE := St → Hp → VK → Prop
abbrev TT := St → Hp → (Bool → Hp → Prop) → Prop
abbrev TA := St → Hp → (List V → Hp → Prop) → Prop
/-- what is wanted behind a statement -/
structure Ends where
  nx : St → Hp → Prop
  rt : VK
  bk : St → Hp → Prop := fun _ _ => False
  ct : St → Hp → Prop := fun _ _ => False
abbrev TS := Ends → St → Hp → Prop

def EP (X : Cx) (pins : List (Addr × Obj)) (σ : St) (Q : VK) (u : Value) (s' : Shared) : Prop := ∃ v H', Inv X pins σ H' s' ∧ RelV v u ∧ Q v H'
def TP (X : Cx) (pins : List (Addr × Obj)) (σ : St) (Q : Bool → Hp → Prop) (b : Bool) (s' : Shared) : Prop := ∃ H', Inv X pins σ H' s' ∧ Q b H'
def AP (X : Cx) (pins : List (Addr × Obj)) (σ : St) (Q : List V → Hp → Prop) (us : List Value) (s' : Shared) : Prop := ∃ vs H', Inv X pins σ H' s' ∧ Vals vs us ∧ Q vs H'
def SP (X : Cx) (pins : List (Addr × Obj)) (D : Ends) (f : Flow) (s' : Shared) : Prop :=
  match f with
  | .next => ∃ σ' H', Inv X pins σ' H' s' ∧ D.nx σ' H'
  | .brk => ∃ σ' H', Inv X pins σ' H' s' ∧ D.bk σ' H'
  | .cont => ∃ σ' H', Inv X pins σ' H' s' ∧ D.ct σ' H'
  | .ret u => ∃ v σ' H', Inv X pins σ' H' s' ∧ RelV v u ∧ D.rt v H'

def PE (X : Cx) (e : Expr) (t : TE) : Prop :=
  ∀ (pins : List (Addr × Obj)) (s : Shared) (σ : St) (H : Hp) (Q : VK), Inv X pins σ H s → t σ H Q → wpAny (model X.prog X.w) X.A (eval e X.env) (EP X pins σ Q) X.xe s
def PT (X : Cx) (e : Expr) (t : TT) : Prop :=
  ∀ (pins : List (Addr × Obj)) (s : Shared) (σ : St) (H : Hp) (Q : Bool → Hp → Prop), Inv X pins σ H s → t σ H Q → wpAny (model X.prog X.w) X.A (isTrue e X.env (eval e X.env)) (TP X pins σ Q) X.xe s
/-- a test whatever its 'whole' is (and, or) -/
def PW (X : Cx) (e : Expr) (t : TT) : Prop :=
  ∀ (whole : Sem Value) (pins : List (Addr × Obj)) (s : Shared) (σ : St) (H : Hp) (Q : Bool → Hp → Prop), Inv X pins σ H s → t σ H Q → wpAny (model X.prog X.w) X.A (isTrue e X.env whole) (TP X pins σ Q) X.xe s
theorem PW.pt {X : Cx} {e : Expr} {t : TT} (h : PW X e t) : PT X e t := h _
/-- an argument list (no star), from the left -/
def PA (X : Cx) (es : List Expr) (t : TA) : Prop :=
  ∀ (pos : Pos) (pins : List (Addr × Obj)) (s : Shared) (σ : St) (H : Hp) (Q : List V → Hp → Prop), Inv X pins σ H s → t σ H Q → wpAny (model X.prog X.w) X.A (spliced (backTo pos (starEach es X.env))) (AP X pins σ Q) X.xe s
def PS (X : Cx) (st : Stmt) (t : TS) : Prop :=
  ∀ (pins : List (Addr × Obj)) (s : Shared) (σ : St) (H : Hp) (D : Ends), Inv X pins σ H s → t D σ H → wpAny (model X.prog X.w) X.A (exec st X.env) (SP X pins D) X.xe s
def PSs (X : Cx) (st : List Stmt) (t : TS) : Prop :=
  ∀ (pins : List (Addr × Obj)) (s : Shared) (σ : St) (H : Hp) (D : Ends), Inv X pins σ H s → t D σ H → wpAny (model X.prog X.w) X.A (execs st X.env) (SP X pins D) X.xe s
/-- weaken the end -/
theorem thn {α : Type} {t : Sem α} {Q Q' : α → Shared → Prop} {M : Model} {A : Around} {E : Value → Shared → Prop} {s : Shared} (h : wpAny M A t Q E s) (hQ : ∀ a s, Q a s → Q' a s) : wpAny M A t Q' E s := wpAny_mono h hQ fun _ _ x => x
end L2

namespace L2
open PySem PySem.Spec PyProof.Rows
section
variable {X : Cx}

/-! ### names and constants -/
def tVar (i : Nat) : TE := fun σ H Q => ∃ v, σ[i]? = some (some v) ∧ Q v H
def tC (v : V) : TE := fun _ H Q => Q v H
theorem pe_var {i : Nat} {x : Str} {pos : Pos} (hN : X.N[i]? = some x) (hv : Vis X.env.scope x) (hd : (x == ("__debug__" : Str)) = false := by decide) (hcd : (x == ("__classdict__" : Str)) = false := by decide) : PE X (.Name x pos) (tVar i) := by
  intro pins s σ H Q I h
  obtain ⟨v, e, h⟩ := h
  obtain ⟨m, hn, hl⟩ := I.loc
  obtain ⟨u, r, l⟩ := hl i x v hN e hv
  have fin : EP X pins σ Q u s := ⟨v, H, I, r, h⟩
  rcases l with ⟨hk, hm⟩ | ⟨hk, c, hc, hcell⟩
  · exact wpAny_Name (wpAny_loadName_local I.ok.kind hk hn hm fin) hd
  · rcases hk with hk | hk
    · exact wpAny_Name (wpAny_loadName_cell I.ok.kind hk hc hcell fin) hd
    · exact wpAny_Name (wpAny_loadName_free I.ok.kind hk hc hcell fin hcd) hd
theorem pe_int {i j pos} : PE X (.Constant (.int i) j pos) (tC (.int i)) := fun _ _ _ H _ I h => wpAny_Constant_int ⟨.int i, H, I.tok _, ⟨_, rfl⟩, h⟩
theorem pe_bl {b j pos} : PE X (.Constant (.bool b) j pos) (tC (.bl b)) := fun _ _ _ H _ I h => Constant_bool ⟨.bl b, H, I, rfl, h⟩
theorem pe_str {x j pos} : PE X (.Constant (.str x) j pos) (tC (.str x)) := fun _ _ _ H _ I h => Calls.Constant_str ⟨.str x, H, I.tok _, ⟨_, rfl⟩, h⟩

/-- a global name of the def -/
def Gl (X : Cx) (x : Str) : Prop := X.env.kindOf x = some .globalImplicit
theorem ld_glob {E : Value → Shared → Prop} {pins : List (Addr × Obj)} {s : Shared} {σ : St} {H : Hp} {x : Str} {u : Value} {pos : Pos} {Q : Value → Shared → Prop} (I : Inv X pins σ H s) (hg : Gl X x) (hm : X.mg x = some u) (h : Q u s)
    (hd : (x == ("__debug__" : Str)) = false := by decide) : wpAny (model X.prog X.w) X.A (eval (.Name x pos) X.env) Q E s :=
  Calls.Name_function_global I.ok.kind hg (Calls.loadGlobal_global (by rw [I.ok.glob]; exact I.mod.glob.keeps I.bk) hm h) hd
theorem ld_blt {E : Value → Shared → Prop} {pins : List (Addr × Obj)} {s : Shared} {σ : St} {H : Hp} {x : Str} {u : Value} {pos : Pos} {Q : Value → Shared → Prop} (I : Inv X pins σ H s) (hg : Gl X x) (hm : X.mg x = none) (hv : bootBuiltins x = some u) (h : Q u s)
    (hn : x ≠ "__name__" := by decide) (hd : (x == ("__debug__" : Str)) = false := by decide) : wpAny (model X.prog X.w) X.A (eval (.Name x pos) X.env) Q E s := by
  obtain ⟨mb, h1, h2⟩ := I.mod.blt
  exact Calls.Name_function_global I.ok.kind hg (Calls.loadGlobal_builtin (by rw [I.ok.glob]; exact I.mod.glob.keeps I.bk) hm (by rw [I.ok.blt]; exact h1.keeps I.bk) ((h2 x hn).trans hv) h) hd
/-- a module's constant, a class, a function, as a value -/
theorem pe_glob {x : Str} {v : V} {u : Value} {pos : Pos} (hg : Gl X x) (hm : X.mg x = some u) (r : RelV v u) (hd : (x == ("__debug__" : Str)) = false := by decide) : PE X (.Name x pos) (tC v) :=
  fun _ _ _ H _ I h => ld_glob I hg hm ⟨v, H, I, r, h⟩ hd
theorem pe_bltn {x : Str} {v : V} {u : Value} {pos : Pos} (hg : Gl X x) (hm : X.mg x = none) (hv : bootBuiltins x = some u) (r : RelV v u) (hn : x ≠ "__name__" := by decide) (hd : (x == ("__debug__" : Str)) = false := by decide) : PE X (.Name x pos) (tC v) :=
  fun _ _ _ H _ I h => ld_blt I hg hm hv ⟨v, H, I, r, h⟩ hn hd

/-! ### arithmetic -/
variable {a b : Expr} {ta tb : TE} {pos : Pos}
/-! ### comparisons -/
/-- a comparison as a value, as a test -/
def tB (t : TE) : TT := fun σ H Q => t σ H fun x H1 => ∃ c, x = .bl c ∧ Q c H1
/-- an expression whose value is a bool, as a test -/
theorem pt_val {e : Expr} {t : TE} (h : PE X e t) (he : ∀ whole, isTrue e X.env whole = (do let v ← whole; standAt e.pos; holding [v] (truthy v)) := by intro _; rfl) : PT X e (tB t) := by
  intro pins s σ H Q I hw
  refine isTrue_plain (thn (h pins s σ H _ I hw) fun v s1 ⟨x, H1, I1, r1, q1⟩ => ?_) (he _)
  obtain ⟨d, rfl, q⟩ := q1
  cases r1
  exact wpAny_truthy_bool ⟨H1, I1, q⟩

/-! ### and, or, not -/
variable {tA tB' : TT} {rest : List Expr}
def tOr (t u : TT) : TT := fun σ H Q => t σ H fun c H1 => if c = true then Q true H1 else u σ H1 Q
def tNot (t : TT) : TT := fun σ H Q => t σ H fun c H1 => Q (!c) H1
theorem pw_or1 (ha : PT X a tA) : PW X (.BoolOp .Or [a] pos) tA := by
  intro wh pins s σ H Q I h
  refine isTrue_or (thn (ha pins s σ H Q I h) fun c s1 e => ?_)
  cases c with
  | false => exact isTrue_or_nil e
  | true => exact e
theorem pw_or (ha : PT X a tA) (hb : PW X (.BoolOp .Or (b :: rest) pos) tB') : PW X (.BoolOp .Or (a :: b :: rest) pos) (tOr tA tB') := by
  intro wh pins s σ H Q I h
  refine isTrue_or (thn (ha pins s σ H _ I h) fun c s1 ⟨H1, I1, q1⟩ => ?_)
  cases c with
  | true => exact ⟨H1, I1, q1⟩
  | false => exact hb wh pins s1 σ H1 Q I1 q1
theorem pt_not (ha : PT X a tA) : PT X (.UnaryOp .Not a pos) (tNot tA) := by
  intro pins s σ H Q I h
  exact isTrue_not (ha pins s σ H (fun c H1 => Q (!c) H1) I h)
/-- .. as values (bools) -/
def tAndV (ta tb : TE) : TE := fun σ H Q => ta σ H fun x H1 => ∃ c, x = .bl c ∧ if c = true then tb σ H1 Q else Q (.bl false) H1
def tNotV (ta : TE) : TE := fun σ H Q => ta σ H fun x H1 => ∃ c, x = .bl c ∧ Q (.bl (!c)) H1
theorem pe_one {op} {t : TE} (h : PE X a t) : PE X (.BoolOp op [a] pos) t := fun pins s σ H Q I hw => BoolOp_one (h pins s σ H Q I hw)
theorem pe_and (ha : PE X a ta) (hb : PE X (.BoolOp .And (b :: rest) pos) tb) : PE X (.BoolOp .And (a :: b :: rest) pos) (tAndV ta tb) := by
  intro pins s σ H Q I h
  refine BoolOp_and (thn (ha pins s σ H _ I h) fun v s1 ⟨x, H1, I1, r1, q1⟩ => ?_)
  obtain ⟨c, rfl, q1⟩ := q1
  cases r1
  refine wpAny_truthy_bool ?_
  cases c with
  | true => exact hb pins s1 σ H1 Q I1 q1
  | false => exact ⟨.bl false, H1, I1, rfl, q1⟩
theorem pe_not (ha : PE X a ta) : PE X (.UnaryOp .Not a pos) (tNotV ta) := by
  intro pins s σ H Q I h
  refine UnaryOp_ (thn (ha pins s σ H _ I h) fun v s1 ⟨x, H1, I1, r1, q1⟩ => ?_)
  obtain ⟨c, rfl, q1⟩ := q1
  cases r1
  exact not_of (wpAny_truthy_bool ⟨.bl (!c), H1, I1, rfl, q1⟩)
/-- a if t else b -/
def tIf (t : TT) (ta tb : TE) : TE := fun σ H Q => t σ H fun c H1 => if c = true then ta σ H1 Q else tb σ H1 Q
theorem pe_ifExp {c : Expr} (hc : PT X c tA) (ha : PE X a ta) (hb : PE X b tb) : PE X (.IfExp c a b pos) (tIf tA ta tb) := by
  intro pins s σ H Q I h
  refine wpAny_IfExp (thn (hc pins s σ H _ I h) fun d s1 ⟨H1, I1, q1⟩ => ?_)
  cases d with
  | true => exact ha pins s1 σ H1 Q I1 q1
  | false => exact hb pins s1 σ H1 Q I1 q1
end
end L2

namespace L2
open PySem PySem.Spec PyProof.Rows

/-! ### a list, a tuple that is read: tracked, frozen, or an object of the module -/
def SqL (K : PySem.W.Frag) (H : Hp) (a : Addr) (xs : List V) : Prop :=
  Rd H a (.lst xs) ∨
    ∃ (o : Obj) (its : Array Value) (n : Nat), K.lookup a = some o ∧ o.cls = .type "list" ∧ o.dict = none ∧ o.data = .seq its n ∧ its.size ≤ sizeLine ∧ Vals xs its.toList
def SqT (K : PySem.W.Frag) (H : Hp) (a : Addr) (xs : List V) : Prop :=
  Rd H a (.tup xs) ∨
    ∃ (o : Obj) (its : Array Value) (n : Nat), K.lookup a = some o ∧ o.cls = .type "tuple" ∧ o.data = .seq its n ∧ its.size ≤ sizeLine ∧ Vals xs its.toList
def absV : Value → Option V
  | .none => some .non
  | .bool b => some (.bl b)
  | .int i _ => some (.int i)
  | .str x _ => some (.str x)
  | .bytes b _ => some (.byt b)
  | .float b _ => some (.flt b)
  | .ref a => some (.ref a)
  | .type n => some (.ty n)
  | _ => none
theorem RelV.abs {x : V} {u : Value} (r : RelV x u) : absV u = some x := by
  cases x with
  | non => cases r; rfl
  | bl _ => cases r; rfl
  | int _ => obtain ⟨t, rfl⟩ := r; rfl
  | str _ => obtain ⟨t, rfl⟩ := r; rfl
  | byt _ => obtain ⟨t, rfl⟩ := r; rfl
  | flt _ => obtain ⟨t, rfl⟩ := r; rfl
  | ref _ => cases r; rfl
  | ty _ => cases r; rfl
theorem RelV.inj {x y : V} {u : Value} (r : RelV x u) (q : RelV y u) : x = y := Option.some.inj (r.abs.symm.trans q.abs)
theorem Vals.inj : ∀ {xs ys : List V} {us : List Value}, Vals xs us → Vals ys us → xs = ys
  | _, _, _, .nil, .nil => rfl
  | _, _, _, .cons r t, .cons r' t' => by rw [r.inj r', Vals.inj t t']
section
variable {X : Cx} {pins : List (Addr × Obj)} {σ : St} {H : Hp} {s : Shared} {a : Addr} {xs ys : List V}
theorem SqL.of {K : PySem.W.Frag} (h : H a = some (.lst xs)) : SqL K H a xs := .inl (.inl h)
theorem SqT.of {K : PySem.W.Frag} (h : H a = some (.tup xs)) : SqT K H a xs := .inl (.inl h)
theorem Inv.list (I : Inv X pins σ H s) (h : SqL X.K H a xs) : ∃ its : List Value, Vals xs its ∧ PlainL s.heap a its.toArray ∧ xs.length ≤ sizeLine := by
  rcases h with h | ⟨o, its, n, hk, hc, hd, hs, hz, r⟩
  · obtain ⟨z, its, n, r, e⟩ := h.ok I.hok
    exact ⟨its, r, ⟨_, n, e, rfl, rfl, rfl⟩, z⟩
  · refine ⟨its.toList, r, ⟨o, n, I.kIn a o hk, hc, hd, by simpa using hs⟩, ?_⟩
    have e := r.length
    simp only [Array.length_toList] at e
    omega
theorem Inv.tuple (I : Inv X pins σ H s) (h : SqT X.K H a xs) : ∃ its : List Value, Vals xs its ∧ IsTup s.heap a its.toArray ∧ xs.length ≤ sizeLine := by
  rcases h with h | ⟨o, its, n, hk, hc, hs, hz, r⟩
  · obtain ⟨z, its, r, p⟩ := h.ok I.hok
    exact ⟨its, r, p, z⟩
  · refine ⟨its.toList, r, ⟨o, I.kIn a o hk, hc, n, by simpa using hs⟩, ?_⟩
    have e := r.length
    simp only [Array.length_toList] at e
    omega
theorem Inv.list_inj (I : Inv X pins σ H s) (h : SqL X.K H a xs) (h' : SqL X.K H a ys) : xs = ys := by
  obtain ⟨its, r, ⟨o, n, e, _, _, d⟩, _⟩ := I.list h
  obtain ⟨its', r', ⟨o', n', e', _, _, d'⟩, _⟩ := I.list h'
  rw [e] at e'; cases e'
  rw [d] at d'
  injection d' with d1 _
  have : its = its' := by simpa using congrArg Array.toList d1
  subst this
  exact r.inj r'
theorem Inv.tuple_inj (I : Inv X pins σ H s) (h : SqT X.K H a xs) (h' : SqT X.K H a ys) : xs = ys := by
  obtain ⟨its, r, ⟨o, e, _, n, d⟩, _⟩ := I.tuple h
  obtain ⟨its', r', ⟨o', e', _, n', d'⟩, _⟩ := I.tuple h'
  rw [e] at e'; cases e'
  rw [d] at d'
  injection d' with d1 _
  have : its = its' := by simpa using congrArg Array.toList d1
  subst this
  exact r.inj r'
end

/-! ### another wish about exceptions -/
abbrev Cx.wish (X : Cx) (E : Value → Shared → Prop) : Cx := { X with xe := E }
/-- no exception leaves -/
abbrev Cx.nox (X : Cx) : Cx := X.wish fun _ _ => False
theorem Cx.Ok.wish {X : Cx} (ok : X.Ok) (E : Value → Shared → Prop) : (X.wish E).Ok :=
  ⟨ok.mod, ok.kind, ok.glob, ok.blt, ok.above, ok.inj, ok.has, ok.cab, ok.hd, ok.frames, ok.stk, ok.exf, ok.bs, ok.bsz, ok.noex, ok.exfs, ok.funs, ok.frf⟩
theorem Cx.Ok.unwish {X : Cx} {E : Value → Shared → Prop} (ok : (X.wish E).Ok) : X.Ok :=
  ⟨ok.mod, ok.kind, ok.glob, ok.blt, ok.above, ok.inj, ok.has, ok.cab, ok.hd, ok.frames, ok.stk, ok.exf, ok.bs, ok.bsz, ok.noex, ok.exfs, ok.funs, ok.frf⟩
section
variable {X : Cx} {pins : List (Addr × Obj)} {σ : St} {H : Hp} {s : Shared} {E : Value → Shared → Prop}
theorem Inv.wish (I : Inv X pins σ H s) (E : Value → Shared → Prop) : Inv (X.wish E) pins σ H s := ⟨I.ok.wish E, I.os, I.bare, I.base, I.loc, I.cell, I.free, I.freeC, I.pin, I.hok, I.len⟩
theorem Inv.unwish (I : Inv (X.wish E) pins σ H s) : Inv X pins σ H s := ⟨I.ok.unwish, I.os, I.bare, I.base, I.loc, I.cell, I.free, I.freeC, I.pin, I.hok, I.len⟩
theorem SP.unwish {D : Ends} {f : Flow} {s' : Shared} (h : SP (X.wish E) pins D f s') : SP X pins D f s' := by
  cases f with
  | next => obtain ⟨σ', H', I, q⟩ := h; exact ⟨σ', H', I.unwish, q⟩
  | brk => obtain ⟨σ', H', I, q⟩ := h; exact ⟨σ', H', I.unwish, q⟩
  | cont => obtain ⟨σ', H', I, q⟩ := h; exact ⟨σ', H', I.unwish, q⟩
  | ret u => obtain ⟨v, σ', H', I, r, q⟩ := h; exact ⟨v, σ', H', I.unwish, r, q⟩
theorem PE.nox {e : Expr} {t : TE} (h : PE X.nox e t) : PE X e t := fun pins s σ H Q I hw =>
  wpAny_mono (h pins s σ H Q (I.wish _) hw) (fun _ _ ⟨v, H', I', r, q⟩ => ⟨v, H', I'.unwish, r, q⟩) fun _ _ z => False.elim z
theorem PT.nox {e : Expr} {t : TT} (h : PT X.nox e t) : PT X e t := fun pins s σ H Q I hw =>
  wpAny_mono (h pins s σ H Q (I.wish _) hw) (fun _ _ ⟨H', I', q⟩ => ⟨H', I'.unwish, q⟩) fun _ _ z => False.elim z
theorem PSs.nox {st : List Stmt} {t : TS} (h : PSs X.nox st t) : PSs X st t := fun pins s σ H D I hw =>
  wpAny_mono (h pins s σ H D (I.wish _) hw) (fun _ _ q => q.unwish) fun _ _ z => False.elim z
end

/-! ### blocks and small statements -/
section
variable {X : Cx} {st : Stmt} {rest : List Stmt} {t u : TS} {e : Expr} {te : TE} {pos : Pos}
def tNext : TS := fun D σ H => D.nx σ H
def tSeq (t u : TS) : TS := fun D σ H => t { D with nx := u D } σ H
theorem pss_nil : PSs X [] tNext := fun _ _ σ H _ I h => wpAny_execs_nil ⟨σ, H, I, h⟩
theorem pss_cons (h1 : PS X st t) (h2 : PSs X rest u) : PSs X (st :: rest) (tSeq t u) := by
  intro pins s σ H D I h
  refine wpAny_execs_cons (thn (h1 pins s σ H { D with nx := u D } I h) fun f s1 q => ?_)
  cases f with
  | next =>
    obtain ⟨σ', H', I', q⟩ := q
    exact h2 pins s1 σ' H' D I' q
  | ret v => exact q
  | brk => exact q
  | cont => exact q
theorem pss_one (h1 : PS X st t) : PSs X [st] t := by
  intro pins s σ H D I h
  refine wpAny_execs_cons (thn (h1 pins s σ H D I h) fun f s1 q => ?_)
  cases f with
  | next => exact wpAny_execs_nil q
  | ret v => exact q
  | brk => exact q
  | cont => exact q
/-- in a def's body nothing is shown -/
theorem Inv.quiet {pins : List (Addr × Obj)} {σ : St} {H : Hp} {s : Shared} (I : Inv X pins σ H s) : interactive X.env = false := by simp [interactive, I.ok.kind]
/-- an expression whose value is dropped -/
def tDrop (te : TE) : TS := fun D σ H => te σ H fun _ H1 => D.nx σ H1
theorem ps_expr (he : PE X e te) (hs : swapsWith e none pos.line X.env = pure false := by rfl) : PS X (.Expr e pos) (tDrop te) := by
  intro pins s σ H D I h
  exact wpAny_Expr_any (thn (he pins s σ H _ I h) fun v s1 ⟨x, H1, I1, r1, q1⟩ => ⟨σ, H1, I1, q1⟩) I.quiet hs
def tRet (te : TE) : TS := fun D σ H => te σ H D.rt
theorem ps_ret (he : PE X e te) : PS X (.Return (some e) pos) (tRet te) := by
  intro pins s σ H D I h
  exact wpAny_Return_some (thn (he pins s σ H _ I h) fun v s1 ⟨x, H1, I1, r1, q1⟩ => ⟨x, σ, H1, I1, r1, q1⟩)
def tIfS (c : TT) (t u : TS) : TS := fun D σ H => c σ H fun b H1 => if b = true then t D σ H1 else u D σ H1
theorem ps_if {c : Expr} {a b : List Stmt} {tc : TT} (hc : PT X c tc) (ha : PSs X a t) (hb : PSs X b u) : PS X (.If c a b pos) (tIfS tc t u) := by
  intro pins s σ H D I h
  refine wpAny_If (thn (hc pins s σ H _ I h) fun d s1 ⟨H1, I1, q1⟩ => ?_)
  cases d with
  | true => exact ha pins s1 σ H1 D I1 q1
  | false => exact hb pins s1 σ H1 D I1 q1
/-- code that the proof never comes to -/
def tNever : TS := fun _ _ _ => False
theorem ps_never : PS X st tNever := fun _ _ _ _ _ _ h => h.elim
end

/-! ### targets -/
abbrev TG := V → St → Hp → (St → Hp → Prop) → Prop
abbrev TGs := List V → St → Hp → (St → Hp → Prop) → Prop
def PG (X : Cx) (target : Expr) (t : TG) : Prop :=
  ∀ (pins : List (Addr × Obj)) (s : Shared) (σ : St) (H : Hp) (v : V) (u : Value) (Q : St → Hp → Prop), Inv X pins σ H s → RelV v u → t v σ H Q →
    wpAny (model X.prog X.w) X.A (assign target X.env u) (fun _ s' => ∃ σ' H', Inv X pins σ' H' s' ∧ Q σ' H') X.xe s
/-- several targets, one after another -/
def PGs (X : Cx) (ts : List Expr) (t : TGs) : Prop :=
  ∀ (pins : List (Addr × Obj)) (s : Shared) (σ : St) (H : Hp) (vs : List V) (us : List Value) (Q : St → Hp → Prop), Inv X pins σ H s → Vals vs us → t vs σ H Q →
    wpAny (model X.prog X.w) X.A (assignInOrder ((assignEach ts X.env).map (·.2)) us) (fun _ s' => ∃ σ' H', Inv X pins σ' H' s' ∧ Q σ' H') X.xe s
/-- o[i] = v, by values -/
abbrev TSet := V → V → V → Hp → (Hp → Prop) → Prop
def PSet (X : Cx) (t : TSet) : Prop :=
  ∀ (pins : List (Addr × Obj)) (s : Shared) (σ : St) (H : Hp) (o i v : V) (ov iv u : Value) (Q : Hp → Prop), Inv X pins σ H s → RelV o ov → RelV i iv → RelV v u → t o i v H Q →
    wpAny (model X.prog X.w) X.A (setItem ov iv u) (fun _ s' => ∃ H', Inv X pins σ H' s' ∧ Q H') X.xe s
section
variable {X : Cx} {pos : Pos}
def gName (i : Nat) : TG := fun v σ H Q => Q (σ.set i (some v)) H
theorem pg_name {i : Nat} {x : Str} (hN : X.N.Nodup) (hi : X.N[i]? = some x) (hx : Loc X.env.scope x) (hf : X.fn x = true ∨ X.env.scope.names.lookup x = some .local := by first | exact .inl rfl | exact .inr rfl | assumption) : PG X (.Name x pos) (gName i) := by
  intro pins s σ H v u Q I r h
  exact wpAny_assign_Name (store_ok I hN hi hx r (fun s' I' => ⟨_, H, I', h⟩) hf)
def gNil : TGs := fun vs σ H Q => vs = [] ∧ Q σ H
def gCons (t : TG) (u : TGs) : TGs := fun vs σ H Q => ∃ v r, vs = v :: r ∧ t v σ H fun σ' H' => u r σ' H' Q
theorem pgs_nil : PGs X [] gNil := by
  intro pins s σ H vs us Q I r h
  obtain ⟨e, h⟩ := h
  subst e
  cases r
  exact assignInOrder_nil ⟨σ, H, I, h⟩
theorem pgs_cons {e : Expr} {es : List Expr} {t : TG} {u : TGs} (h1 : PG X e t) (h2 : PGs X es u)
    (hs : (assignEach (e :: es) X.env).map (·.2) = assign e X.env :: (assignEach es X.env).map (·.2) := by rfl) : PGs X (e :: es) (gCons t u) := by
  intro pins s σ H vs us Q I r h
  obtain ⟨v, vr, e1, h⟩ := h
  subst e1
  cases r with
  | cons r rr =>
    rw [hs]
    refine assignInOrder_cons (thn (h1 pins s σ H _ _ _ I r h) fun _ s1 ⟨σ1, H1, I1, q1⟩ => ?_)
    exact h2 pins s1 σ1 H1 _ _ Q I1 rr q1
/-- (a, b, ..) = a tuple of that length -/
def gTup (K : PySem.W.Frag) (n : Nat) (t : TGs) : TG := fun v σ H Q => ∃ a xs, v = .ref a ∧ SqT K H a xs ∧ xs.length = n ∧ t xs σ H Q
theorem pg_tup {es : List Expr} {k : Nat} {t : TGs} {n : Nat} (hc : X.calm = true) (h : PGs X es t)
    (hn : (assignEach es X.env).length = n := by rfl) (hst : (assignEach es X.env).findIdx? (·.1) = none := by rfl) : PG X (.Tuple es k pos) (gTup X.K n t) := by
  intro pins s σ H v u Q I r hw
  obtain ⟨a, xs, e1, hq, hl, hw⟩ := hw
  subst e1
  cases r
  obtain ⟨its, rv, ht, hz⟩ := I.tuple hq
  refine assign_Tuple_tuple (I.ok.hd hc) ht (by simp [hn, ← hl, rv.length]) hst fun h' hx => ?_
  have I1 : Inv X pins σ H { s with heap := h' } := I.kept (t' := s.toks) fun b o e => hx b o (Nat.ne_of_lt (Heap.lt_size e)) e
  exact h pins _ σ H xs _ Q I1 (by simpa using rv) hw
/-- o[i] = .. -/
def gSub (to ti : TE) (t : TSet) : TG := fun v σ H Q => to σ H fun o H1 => ti σ H1 fun i H2 => t o i v H2 fun H3 => Q σ H3
theorem pg_sub {o i : Expr} {to ti : TE} {t : TSet} (ho : PE X o to) (hi : PE X i ti) (hs : PSet X t)
    (ha : ∀ v, assign (.Subscript o i pos) X.env v = (do
      let ov ← holding [v] (eval o X.env)
      let iv ← holding [v, ov] (eval i X.env)
      standAt pos
      holding [v, ov, iv] (setItem ov iv v)
      release [v, ov, iv] []) := by intro _; rfl) : PG X (.Subscript o i pos) (gSub to ti t) := by
  intro pins s σ H v u Q I r h
  rw [ha]
  refine wpAny_bind (wpAny_holding (thn (ho pins s σ H _ I h) fun ov s1 ⟨x, H1, I1, r1, q1⟩ => ?_))
  refine wpAny_bind (wpAny_holding (thn (hi pins s1 σ H1 _ I1 q1) fun iv s2 ⟨y, H2, I2, r2, q2⟩ => ?_))
  refine wpAny_bind (wpAny_standAt (wpAny_bind (wpAny_holding (thn (hs pins s2 σ H2 x y v ov iv u _ I2 r1 r2 r q2) fun _ s3 ⟨H3, I3, q3⟩ => ?_))))
  exact wpAny_release ⟨σ, H3, I3, q3⟩
/-- target = value -/
def tAsg (te : TE) (g : TG) : TS := fun D σ H => te σ H fun x H1 => g x σ H1 D.nx
theorem ps_asg {tg e : Expr} {te : TE} {g : TG} (he : PE X e te) (hg : PG X tg g) (hs : swapsWithSole [tg] e pos.line X.env = pure false := by rfl) (hw : swappedStores [tg] e X.env = pure none := by rfl)
    (h1 : (assignEach [tg] X.env).map (·.2) = [assign tg X.env] := by rfl) : PS X (.Assign [tg] e pos) (tAsg te g) := by
  intro pins s σ H D I h
  refine wpAny_Assign_stores (thn (he pins s σ H _ I h) fun v s1 ⟨x, H1, I1, r1, q1⟩ => ?_) hs hw
  rw [h1]
  exact thn (hg pins s1 σ H1 x v _ I1 r1 q1) fun _ s2 q => q
/-- name = value -/
theorem ps_set {i : Nat} {x : Str} {e : Expr} {te : TE} {pos' : Pos} (hN : X.N.Nodup) (hi : X.N[i]? = some x) (hx : Loc X.env.scope x) (he : PE X e te) (hs : swapsWith e (some (.Name x pos')) pos.line X.env = pure false := by rfl) (hf : X.fn x = true ∨ X.env.scope.names.lookup x = some .local := by first | exact .inl rfl | exact .inr rfl | assumption) :
    PS X (.Assign [.Name x pos'] e pos) (tAsg te (gName i)) := by
  intro pins s σ H D I h
  refine wpAny_Assign_Name (thn (he pins s σ H _ I h) fun v s1 ⟨y, H1, I1, r1, q1⟩ => ?_) hs
  exact store_ok I1 hN hi hx r1 (fun s2 I2 => ⟨_, H1, I2, q1⟩) hf
end

/-! ### while -/
section
variable {X : Cx} {pos : Pos}
/-- the invariant W with its measure -/
def tWhile (c : TT) (tb : TS) : TS := fun D σ H => ∃ W : Nat → St → Hp → Prop, (∃ m, W m σ H) ∧ ∀ m σ H, W m σ H →
  c σ H fun b H1 => if b = true then ∃ N : St → Hp → Prop, (∀ σ' H', N σ' H' → ∃ m', m' < m ∧ W m' σ' H') ∧ tb { D with nx := N, ct := N, bk := D.nx } σ H1 else D.nx σ H1
theorem ps_while {c : Expr} {body : List Stmt} {tc : TT} {tb : TS} (hp : PassesOwn (model X.prog X.w) X.A X.env X.xe) (hc : PT X c tc) (hb : PSs X body tb) : PS X (.While c body [] pos) (tWhile tc tb) := by
  intro pins s σ H D I h
  obtain ⟨W, ⟨m0, w0⟩, turn⟩ := h
  refine wpAny_While (codeAny_whileLoop (fun n s' => ∃ σ' H', Inv X pins σ' H' s' ∧ W n σ' H') ?_ m0 ⟨σ, H, I, w0⟩)
  rintro n s1 ⟨σ1, H1, I1, w1⟩
  refine wpAny_passesOwn hp (thn (hc pins s1 σ1 H1 _ I1 (turn n σ1 H1 w1)) fun b s2 ⟨H2, I2, q2⟩ => ?_)
  cases b with
  | true =>
    obtain ⟨N, hN, q2⟩ := q2
    rw [if_pos rfl]
    refine wpAny_passesOwn hp (thn (hb pins s2 σ1 H2 _ I2 q2) fun f s3 q3 => ?_)
    cases f with
    | next =>
      obtain ⟨σ3, H3, I3, n3⟩ := q3
      obtain ⟨m', hm, w3⟩ := hN σ3 H3 n3
      exact ⟨m', hm, σ3, H3, I3, w3⟩
    | cont =>
      obtain ⟨σ3, H3, I3, n3⟩ := q3
      obtain ⟨m', hm, w3⟩ := hN σ3 H3 n3
      exact ⟨m', hm, σ3, H3, I3, w3⟩
    | brk => exact q3
    | ret v => exact q3
  | false =>
    rw [if_neg Bool.false_ne_true]
    exact wpAny_execs_nil ⟨σ1, H2, I2, q2⟩
end

/-! ### what a loop or a comprehension walks -/
/-- at turn i: it yields x (the heap may grow), or it stops -/
structure It where
  go : Nat → Hp → Prop
  yld : Nat → Hp → V → Hp → Prop
  stop : Nat → Hp → Prop
/-- the iterator's own objects may turn: they are not the frame's, not pinned, younger than the entry (or a comprehension's own) -/
def FpOk (X : Cx) (pins : List (Addr × Obj)) (H : Hp) (b : Addr) : Prop :=
  H b = none ∧ b ≠ X.env.locals ∧ b ∉ X.fs ∧ (b ∈ X.ex ∨ X.s₀.heap.objs.size ≤ b) ∧ (∀ x c, X.env.cells.lookup x = some c → c ≠ b) ∧ ∀ p ∈ X.pn ++ pins, p.1 ≠ b
theorem Inv.fpOk {X : Cx} {pins : List (Addr × Obj)} {σ : St} {H H' : Hp} {s : Shared} {b : Addr} (I : Inv X pins σ H s) (hb : s.heap.objs.size ≤ b) (hn : H' b = none) : FpOk X pins H' b := by
  refine ⟨hn, Nat.ne_of_gt (Nat.lt_of_lt_of_le I.lt hb), I.nofs hb, .inr (Nat.le_trans I.sz hb), fun x c e z => ?_, fun p hp z => ?_⟩
  · obtain ⟨v, q⟩ := I.cell x c e
    exact absurd (Nat.lt_of_lt_of_le q.lt (by rw [z]; exact hb)) (Nat.lt_irrefl _)
  · exact absurd (Nat.lt_of_lt_of_le (Heap.lt_size (I.pin p hp).1) (by rw [z]; exact hb)) (Nat.lt_irrefl _)
structure Turn (P : Program) (w : World) (K : PySem.W.Frag) (tg : Expr) (J : It) (fp : List Addr) (it : Addr) (tn : Nat → Heap → Prop) : Prop where
  mem : it ∈ fp
  obj : ∀ i h, tn i h → ∀ b ∈ fp, ∃ o, h.get? b = some o ∧ ∀ v, o.data ≠ .cell v
  keep : ∀ i h h', tn i h → (∀ b ∈ fp, ∀ o, h.get? b = some o → h'.get? b = some o) → tn i h'
  item : ∀ (X : Cx), X.prog = P → X.w = w → X.K = K → X.calm = true → ∀ (i : Nat) (pins : List (Addr × Obj)) (s : Shared) (σ : St) (H : Hp) (E : Value → Shared → Prop), Inv X pins σ H s → (∀ b ∈ fp, FpOk X pins H b) → tn i s.heap → J.go i H →
    wpAny (model P w) X.A (pyNext (.ref it)) (fun r s1 => ∃ u, r = some u ∧
      wpAny (model P w) X.A (letOwnedTupleGo tg (.ref it) u) (fun _ s2 => ∃ x H', Inv X pins σ H' s2 ∧ RelV x u ∧ J.yld i H x H' ∧ tn (i + 1) s2.heap ∧ ∀ b ∈ fp, H' b = none) E s1) E s
  done : ∀ (X : Cx), X.prog = P → X.w = w → X.K = K → X.calm = true → ∀ (i : Nat) (pins : List (Addr × Obj)) (s : Shared) (σ : St) (H : Hp) (E : Value → Shared → Prop), Inv X pins σ H s → (∀ b ∈ fp, FpOk X pins H b) → tn i s.heap → J.stop i H →
    wpAny (model P w) X.A (pyNext (.ref it)) (fun r s1 => r = none ∧ Inv X pins σ H s1) E s
  self : ∀ (A : Around) (i : Nat) (s : Shared) (Q : Value → Shared → Prop) (E : Value → Shared → Prop), tn i s.heap → Q (.ref it) s → wpAny (model P w) A (pyIter (.ref it)) Q E s
abbrev TI := St → Hp → (It → Hp → Prop) → Prop
/-- an iterator has come -/
def PIE (X : Cx) (pins : List (Addr × Obj)) (σ : St) (tg : Expr) (R : It → Hp → Prop) (itv : Value) (s2 : Shared) : Prop :=
  ∃ (it : Addr) (fp : List Addr) (tn : Nat → Heap → Prop) (J : It) (H' : Hp), itv = .ref it ∧ Inv X pins σ H' s2 ∧ Turn X.prog X.w X.K tg J fp it tn ∧ tn 0 s2.heap ∧ (∀ b ∈ fp, FpOk X pins H' b) ∧ R J H'
def PI (X : Cx) (tg iter : Expr) (wi : TI) : Prop :=
  ∀ (pins : List (Addr × Obj)) (s : Shared) (σ : St) (H : Hp) (R : It → Hp → Prop), Inv X pins σ H s → wi σ H R →
    wpAny (model X.prog X.w) X.A (eval iter X.env) (fun v s1 => wpAny (model X.prog X.w) X.A (pyIter v) (PIE X pins σ tg R) X.xe s1) X.xe s

/-- the step ahead of the store is nothing for an iterator that keeps no tuple -/
theorem go_of {M : Model} {A : Around} {E : Value → Shared → Prop} {s : Shared} {tg : Expr} {it : Addr} {u : Value} {o : Obj} {n : String} {vs : Array Value} {Q : Unit → Shared → Prop} (ho : s.heap.get? it = some o) (hc : o.cls = .type n) (hd : o.data = .fields vs)
    (hn : ["enumerate", "zip", "dict_itemiterator", "dict_reverseitemiterator", "odict_iterator", "itertools.zip_longest", "itertools.pairwise"].contains n = false) (hQ : Q () s) : wpAny M A (letOwnedTupleGo tg (.ref it) u) Q E s := by
  unfold letOwnedTupleGo
  cases tg <;> first
    | exact wpAny_pure hQ
    | (cases u <;> first
        | exact wpAny_pure hQ
        | (refine wpAny_bind (wpAny_load ho ?_)
           rw [hc, hd]
           show wpAny M A (if (["enumerate", "zip", "dict_itemiterator", "dict_reverseitemiterator", "odict_iterator", "itertools.zip_longest", "itertools.pairwise"].contains n && vs[0]? == some (rawInt _)) = true then _ else _) Q E s
           rw [if_neg (by intro h; rw [hn, Bool.false_and] at h; cases h)]
           exact wpAny_pure hQ))

/-- the list at a, as it stands at each turn (a loop may append to it) -/
def Itl (K : PySem.W.Frag) (a : Addr) : It :=
  ⟨fun i H => ∃ xs x, SqL K H a xs ∧ xs[i]? = some x, fun i H x H' => H' = H ∧ ∀ xs, SqL K H a xs → xs[i]? = some x, fun i H => ∃ xs, SqL K H a xs ∧ xs.length ≤ i⟩
def Itt (K : PySem.W.Frag) (a : Addr) : It :=
  ⟨fun i H => ∃ xs x, SqT K H a xs ∧ xs[i]? = some x, fun i H x H' => H' = H ∧ ∀ xs, SqT K H a xs → xs[i]? = some x, fun i H => ∃ xs, SqT K H a xs ∧ xs.length ≤ i⟩
/-- lo, lo + 1, .. (n of them) -/
def Itr (lo : Int) (n : Nat) : It := ⟨fun i _ => i < n, fun i H x H' => H' = H ∧ x = .int (lo + i), fun i _ => n ≤ i⟩
theorem turn_list {P : Program} {w : World} {K : PySem.W.Frag} {tg : Expr} (a it : Addr) : Turn P w K tg (Itl K a) [it] it (fun i h => h.IsListIter it a i) where
  mem := by simp
  obj := fun i h st b hb => by
    have e : b = it := by simpa using hb
    subst e
    obtain ⟨o, e, c, d⟩ := st
    exact ⟨o, e, fun v z => by rw [d] at z; cases z⟩
  keep := fun i h h' st k => st.at fun o e => k it (by simp) o e
  item := by
    intro X hP hw hK hc i pins s σ H E I hf st hg
    subst hP hw hK
    obtain ⟨xs, x, hq, hx⟩ := hg
    obtain ⟨its, rv, p, hz⟩ := I.list hq
    obtain ⟨u, hu, ru⟩ := rv.get hx
    obtain ⟨f0, f1, f2, f3, f4, f5⟩ := hf it (by simp)
    refine wpAny_pyNext_list_item st p.isList (x := u) (by simpa using hu) fun h' st' sb => ?_
    have I1 : Inv X pins σ H { s with heap := h' } := I.turned (t' := s.toks) (fun b o hb e => (sb.2 b hb).trans e) f0 f1 f3 f4 f5
    obtain ⟨o, e, c, d⟩ := id st'
    exact ⟨u, rfl, go_of (s := { s with heap := h' }) e c d (by decide) ⟨x, H, I1, ru, ⟨rfl, fun ys hy => by rw [I.list_inj hy hq]; exact hx⟩, st', fun b hb => (hf b hb).1⟩⟩
  done := by
    intro X hP hw hK hc i pins s σ H E I hf st hg
    subst hP hw hK
    obtain ⟨xs, hq, hx⟩ := hg
    obtain ⟨its, rv, p, hz⟩ := I.list hq
    obtain ⟨f0, f1, f2, f3, f4, f5⟩ := hf it (by simp)
    have hl := rv.length
    exact wpAny_pyNext_list_end (I.ok.hd hc) st p.isList (by simp; omega) fun h' eb => ⟨rfl, I.turned (t' := s.toks) (fun b o hb e => eb b o hb e) f0 f1 f3 f4 f5⟩
  self := fun _ _ _ _ _ st h => wpAny_pyIter_listiter st h
theorem turn_tuple {P : Program} {w : World} {K : PySem.W.Frag} {tg : Expr} (a it : Addr) : Turn P w K tg (Itt K a) [it] it (fun i h => h.IsTupleIter it a i) where
  mem := by simp
  obj := fun i h st b hb => by
    have e : b = it := by simpa using hb
    subst e
    obtain ⟨o, e, c, d⟩ := st
    exact ⟨o, e, fun v z => by rw [d] at z; cases z⟩
  keep := fun i h h' st k => st.at fun o e => k it (by simp) o e
  item := by
    intro X hP hw hK hc i pins s σ H E I hf st hg
    subst hP hw hK
    obtain ⟨xs, x, hq, hx⟩ := hg
    obtain ⟨its, rv, p, hz⟩ := I.tuple hq
    obtain ⟨u, hu, ru⟩ := rv.get hx
    obtain ⟨f0, f1, f2, f3, f4, f5⟩ := hf it (by simp)
    refine wpAny_pyNext_tuple_item st (show s.heap.IsTuple a its.toArray from p) (x := u) (by simpa using hu) fun h' st' sb => ?_
    have I1 : Inv X pins σ H { s with heap := h' } := I.turned (t' := s.toks) (fun b o hb e => (sb.2 b hb).trans e) f0 f1 f3 f4 f5
    obtain ⟨o, e, c, d⟩ := id st'
    exact ⟨u, rfl, go_of (s := { s with heap := h' }) e c d (by decide) ⟨x, H, I1, ru, ⟨rfl, fun ys hy => by rw [I.tuple_inj hy hq]; exact hx⟩, st', fun b hb => (hf b hb).1⟩⟩
  done := by
    intro X hP hw hK hc i pins s σ H E I hf st hg
    subst hP hw hK
    obtain ⟨xs, hq, hx⟩ := hg
    obtain ⟨its, rv, p, hz⟩ := I.tuple hq
    obtain ⟨f0, f1, f2, f3, f4, f5⟩ := hf it (by simp)
    have hl := rv.length
    exact wpAny_pyNext_tuple_end (I.ok.hd hc) st (show s.heap.IsTuple a its.toArray from p) (by simp; omega) fun h' eb => ⟨rfl, I.turned (t' := s.toks) (fun b o hb e => eb b o hb e) f0 f1 f3 f4 f5⟩
  self := fun _ _ _ _ _ st h => wpAny_pyIter_tupleiter st h
theorem turn_range {P : Program} {w : World} {K : PySem.W.Frag} {tg : Expr} (it : Addr) (lo : Int) (n : Nat) : Turn P w K tg (Itr lo n) [it] it (fun i h => IsRangeIter h it (lo + (i : Nat) * 1) ((n : Int) - (i : Nat)) 1) where
  mem := by simp
  obj := fun i h st b hb => by
    have e : b = it := by simpa using hb
    subst e
    exact ⟨_, st, fun v z => by
      have z' : Data.fields _ = Data.cell v := z
      cases z'⟩
  keep := fun i h h' st k => k it (by simp) _ st
  item := by
    intro X hP hw hK hc i pins s σ H E I hf st hg
    subst hP hw hK
    obtain ⟨f0, f1, f2, f3, f4, f5⟩ := hf it (by simp)
    have W := Walks.range (prog := X.prog) (w := X.w) (I.ok.hd hc) it lo 1 n
    refine W.item i s _ _ hg st fun v h' tk hv st' kk => ?_
    obtain ⟨t, rfl⟩ := hv
    have I1 : Inv X pins σ H { s with heap := h', toks := tk } := I.turned (fun b o hb e => kk b o (by simpa using hb) e) f0 f1 f3 f4 f5
    refine ⟨_, rfl, go_of (s := { s with heap := h', toks := tk }) (n := "range_iterator") st' rfl rfl (by decide) ⟨.int (lo + i), H, I1, ⟨t, ?_⟩, ⟨rfl, rfl⟩, st', fun b hb => (hf b hb).1⟩⟩
    rw [Int.mul_one]
  done := by
    intro X hP hw hK hc i pins s σ H E I hf st hg
    subst hP hw hK
    obtain ⟨f0, f1, f2, f3, f4, f5⟩ := hf it (by simp)
    exact wpAny_pyNext_range_end (I.ok.hd hc) st (by have : n ≤ i := hg; omega) fun h' eb => ⟨rfl, I.turned (t' := s.toks) (fun b o hb e => eb b o hb e) f0 f1 f3 f4 f5⟩
  self := fun _ _ _ _ _ st h => wpAny_pyIter_rangeiter st h
end L2

namespace L2
open PySem PySem.Spec PyProof.Rows
section
variable {X : Cx} {tg : Expr}
def iList (K : PySem.W.Frag) (tl : TE) : TI := fun σ H R => tl σ H fun x H1 => ∃ a, x = .ref a ∧ (∃ xs, SqL K H1 a xs) ∧ R (Itl K a) H1
def iTup (K : PySem.W.Frag) (tl : TE) : TI := fun σ H R => tl σ H fun x H1 => ∃ a, x = .ref a ∧ (∃ xs, SqT K H1 a xs) ∧ R (Itt K a) H1
theorem pi_list {l : Expr} {tl : TE} (hl : PE X l tl) : PI X tg l (iList X.K tl) := by
  intro pins s σ H R I h
  refine thn (hl pins s σ H _ I h) fun v s1 ⟨x, H1, I1, r1, q1⟩ => ?_
  obtain ⟨a, e, ⟨xs, hq⟩, q⟩ := q1
  subst e
  cases r1
  obtain ⟨its, rv, p, hz⟩ := I1.list hq
  refine wpAny_pyIter_list p.isList ?_
  refine ⟨s1.heap.objs.size, [s1.heap.objs.size], _, _, H1, rfl, I1.kept (t' := s1.toks) fun b o e => Heap.get?_push_of_some _ e, turn_list a _, ⟨_, Heap.get?_push_size _ rfl, rfl, rfl⟩, fun b hb => ?_, q⟩
  have e : b = s1.heap.objs.size := by simpa using hb
  subst e
  exact I1.fpOk (Nat.le_refl _) (I1.hok.fresh (Nat.le_refl _))
theorem pi_tup {l : Expr} {tl : TE} (hl : PE X l tl) : PI X tg l (iTup X.K tl) := by
  intro pins s σ H R I h
  refine thn (hl pins s σ H _ I h) fun v s1 ⟨x, H1, I1, r1, q1⟩ => ?_
  obtain ⟨a, e, ⟨xs, hq⟩, q⟩ := q1
  subst e
  cases r1
  obtain ⟨its, rv, p, hz⟩ := I1.tuple hq
  refine wpAny_pyIter_tuple (show s1.heap.IsTuple a its.toArray from p) ?_
  refine ⟨s1.heap.objs.size, [s1.heap.objs.size], _, _, H1, rfl, I1.kept (t' := s1.toks) fun b o e => Heap.get?_push_of_some _ e, turn_tuple a _, ⟨_, Heap.get?_push_size _ rfl, rfl, rfl⟩, fun b hb => ?_, q⟩
  have e : b = s1.heap.objs.size := by simpa using hb
  subst e
  exact I1.fpOk (Nat.le_refl _) (I1.hok.fresh (Nat.le_refl _))
/-- a range object just made, walked -/
theorem range_it {pins : List (Addr × Obj)} {σ : St} {H : Hp} {s : Shared} {R : It → Hp → Prop} {E : Value → Shared → Prop} {lo hi : Int} {t u v : Tok} {tk : Nat} (I : Inv X pins σ H s) (h1 : -(2 ^ 62) ≤ lo) (h2 : lo < 2 ^ 62) (h3 : -(2 ^ 62) ≤ hi) (h4 : hi < 2 ^ 62)
    (q : R (Itr lo (hi - lo).toNat) H) : wpAny (model X.prog X.w) X.A (pyIter (.ref s.heap.objs.size)) (PIE X pins σ tg R) E { s with heap := s.heap.push { cls := .type "range", data := .fields #[.int lo t, .int hi u, .int 1 v] }, toks := tk } := by
  refine wpAny_pyIter_range (IsRange.new ..) (small_one h1 h2 h3 h4) ?_
  have I1 : Inv X pins σ H { s with heap := s.heap.push { cls := .type "range", data := .fields #[.int lo t, .int hi u, .int 1 v] }, toks := tk } := I.kept fun b o e => Heap.get?_push_of_some _ e
  refine ⟨(s.heap.push { cls := .type "range", data := .fields #[.int lo t, .int hi u, .int 1 v] }).objs.size, [(s.heap.push { cls := .type "range", data := .fields #[.int lo t, .int hi u, .int 1 v] }).objs.size], _, _, H, rfl,
    I1.kept (t' := tk) fun b o e => Heap.get?_push_of_some _ e, turn_range _ lo (hi - lo).toNat, ?_, fun b hb => ?_, q⟩
  · have e1 : lo + ((0 : Nat) : Int) * 1 = lo := by simp
    have e2 : (((hi - lo).toNat : Nat) : Int) - ((0 : Nat) : Int) = Builtin.Range.rangeSize lo hi 1 := by rw [rangeSize_one]; split <;> omega
    show IsRangeIter _ _ (lo + ((0 : Nat) : Int) * 1) ((((hi - lo).toNat : Nat) : Int) - ((0 : Nat) : Int)) 1
    rw [e1, e2]
    exact Heap.get?_push_size _ rfl
  · have e : b = (s.heap.push { cls := .type "range", data := .fields #[.int lo t, .int hi u, .int 1 v] }).objs.size := by simpa using hb
    subst e
    exact I1.fpOk (Nat.le_refl _) (I1.hok.fresh (Nat.le_refl _))
def iRng1 (ta : TA) : TI := fun σ H R => ta σ H fun vs H1 => ∃ j : Int, vs = [.int j] ∧ -(2 ^ 62) ≤ j ∧ j < 2 ^ 62 ∧ R (Itr 0 j.toNat) H1
theorem pi_range1 {a : Expr} {ta : TA} {p pos : Pos} (hg : Gl X "range") (hm : X.mg "range" = none) (ha : PA X [a] ta) (hs : starEach [a] X.env = [(false, eval a X.env)] := by rfl) : PI X tg (.Call (.Name "range" p) [a] [] pos) (iRng1 ta) := by
  intro pins s σ H R I h
  refine Call_ (ld_blt I hg hm boot_range (PyProof.Rows.callWith_type1 (thn (ha pos pins s σ H _ I h) fun us s1 ⟨vs, H1, I1, r1, q1⟩ => ?_) hs rfl))
  obtain ⟨j, e, q1, q2, q⟩ := q1
  subst e
  cases r1 with
  | cons r rr =>
    cases rr
    obtain ⟨t, rfl⟩ := r
    exact call_range_1 (range_it I1 (by omega) (by omega) q1 q2 (by simpa using q))
/-! ### for -/
/-- W: the invariant by the turn and a measure; N: what the body is to reach -/
def tFor (wi : TI) (g : TG) (tb : TS) : TS := fun D σ H => wi σ H fun J H1 => ∃ W : Nat → Nat → St → Hp → Prop, (∃ m, W 0 m σ H1) ∧ ∀ i m σ H, W i m σ H →
  (J.stop i H ∧ D.nx σ H) ∨ (J.go i H ∧ ∃ N : St → Hp → Prop, (∀ σ' H', N σ' H' → ∃ m', m' < m ∧ W (i + 1) m' σ' H') ∧ ∀ x H', J.yld i H x H' → g x σ H' fun σ2 H2 => tb { D with nx := N, ct := N, bk := D.nx } σ2 H2)
/-- the records at fp as they stand -/
def pinsAt (fp : List Addr) (h : Heap) : List (Addr × Obj) := fp.filterMap fun b => (h.get? b).map fun o => (b, o)
theorem mem_pinsAt {fp : List Addr} {h : Heap} {b : Addr} {o : Obj} (hb : b ∈ fp) (e : h.get? b = some o) : (b, o) ∈ pinsAt fp h := List.mem_filterMap.mpr ⟨b, hb, by rw [e]; rfl⟩
theorem of_pinsAt {fp : List Addr} {h : Heap} {p : Addr × Obj} (hp : p ∈ pinsAt fp h) : p.1 ∈ fp ∧ h.get? p.1 = some p.2 := by
  obtain ⟨b, hb, e⟩ := List.mem_filterMap.mp hp
  cases q : h.get? b with
  | none => rw [q] at e; cases e
  | some o =>
    rw [q] at e
    have e' : (b, o) = p := Option.some.inj e
    subst e'
    exact ⟨hb, q⟩
theorem Inv.pinned {pins : List (Addr × Obj)} {σ : St} {H : Hp} {s : Shared} {fp : List Addr} (I : Inv X pins σ H s) (hf : ∀ b ∈ fp, FpOk X pins H b) (ho : ∀ b ∈ fp, ∃ o, s.heap.get? b = some o ∧ ∀ v, o.data ≠ .cell v) : Inv X (pins ++ pinsAt fp s.heap) σ H s :=
  I.pins_of fun p hp => (List.mem_append.mp hp).elim (fun z => I.pin p (List.mem_append_right _ z)) fun z => by
    obtain ⟨hb, e⟩ := of_pinsAt z
    obtain ⟨f0, f1, f2, _⟩ := hf p.1 hb
    obtain ⟨o, e', d⟩ := ho p.1 hb
    rw [e] at e'; cases e'
    exact ⟨e, f0, f1, f2, d⟩
theorem Inv.unpinned {pins pl : List (Addr × Obj)} {σ : St} {H : Hp} {s : Shared} (I : Inv X (pins ++ pl) σ H s) : Inv X pins σ H s := I.pins_of fun p hp => I.pin p (List.mem_append_right _ (List.mem_append_left _ hp))
theorem ps_for {iter : Expr} {body : List Stmt} {wi : TI} {g : TG} {tb : TS} {pos : Pos} (hp : PassesOwn (model X.prog X.w) X.A X.env X.xe) (hc : X.calm = true) (hi : PI X tg iter wi) (hg : PG X tg g) (hb : PSs X body tb)
    (hs : ∀ x, foldedSetIterable iter X.env x = pure x := by intro _; rfl) : PS X (.For tg iter body [] pos) (tFor wi g tb) := by
  intro pins s σ H D I h
  refine wpAny_For (thn (hi pins s σ H _ I h) fun v s1 h1 => thn h1 fun itv s2 h2 => ?_) hs
  obtain ⟨it, fp, tn, J, H2, e, I2, T, st2, f2, W, ⟨m0, w0⟩, turn⟩ := h2
  subst e
  -- what stays true of the iterator's objects through the loop
  have stat : ∀ {H' : Hp}, (∀ b ∈ fp, H' b = none) → ∀ b ∈ fp, FpOk X pins H' b := fun hn b hb => ⟨hn b hb, (f2 b hb).2⟩
  refine codeAny_forLoop_any (fun n s' => ∃ i σ' H', Inv X pins σ' H' s' ∧ tn i s'.heap ∧ (∀ b ∈ fp, H' b = none) ∧ W i n σ' H') ?_ m0 ⟨0, σ, H2, I2, st2, fun b hb => (f2 b hb).1, w0⟩
  rintro n s3 ⟨i, σ3, H3, I3, st3, fr3, w3⟩
  rcases turn i n σ3 H3 w3 with ⟨stop, qn⟩ | ⟨go, N, hN, step⟩
  · refine wpAny_passesOwn hp (thn (T.done X rfl rfl rfl hc i pins s3 σ3 H3 X.xe I3 (stat fr3) st3 stop) fun r s4 ⟨hr, I4⟩ => ?_)
    subst hr
    exact wpAny_execs_nil ⟨σ3, H3, I4, qn⟩
  · refine wpAny_passesOwn hp (thn (T.item X rfl rfl rfl hc i pins s3 σ3 H3 X.xe I3 (stat fr3) st3 go) fun r s4 ⟨u, hr, h4⟩ => ?_)
    subst hr
    refine wpAny_passesOwn hp (thn h4 fun _ s5 ⟨x, H5, I5, r5, y5, st5, fr5⟩ => ?_)
    have I5' := I5.pinned (stat fr5) (T.obj _ _ st5)
    refine wpAny_passesOwn hp (thn (hg _ s5 σ3 H5 x u _ I5' r5 (step x H5 y5)) fun _ s6 ⟨σ6, H6, I6, q6⟩ => ?_)
    refine wpAny_passesOwn hp (thn (hb _ s6 σ6 H6 _ I6 q6) fun f s7 q7 => ?_)
    have again : ∀ {σ7 : St} {H7 : Hp}, Inv X (pins ++ pinsAt fp s5.heap) σ7 H7 s7 → N σ7 H7 → ∃ m, m < n ∧ ∃ i σ' H', Inv X pins σ' H' s7 ∧ tn i s7.heap ∧ (∀ b ∈ fp, H' b = none) ∧ W i m σ' H' := fun {σ7 H7} I7 n7 => by
      obtain ⟨m', hm, w7⟩ := hN σ7 H7 n7
      refine ⟨m', hm, i + 1, σ7, H7, I7.unpinned, T.keep _ _ _ st5 fun b hb o e => (I7.pin (b, o) (List.mem_append_right _ (List.mem_append_right _ (mem_pinsAt hb e)))).1, fun b hb => ?_, w7⟩
      obtain ⟨o, e, d⟩ := T.obj _ _ st5 b hb
      exact (I7.pin (b, o) (List.mem_append_right _ (List.mem_append_right _ (mem_pinsAt hb e)))).2.1
    cases f with
    | next => obtain ⟨σ7, H7, I7, n7⟩ := q7; exact again I7 n7
    | cont => obtain ⟨σ7, H7, I7, n7⟩ := q7; exact again I7 n7
    | brk => obtain ⟨σ7, H7, I7, q7⟩ := q7; exact ⟨σ7, H7, I7.unpinned, q7⟩
    | ret v => obtain ⟨x7, σ7, H7, I7, r7, q7⟩ := q7; exact ⟨x7, σ7, H7, I7.unpinned, r7, q7⟩
end

/-! ### the forms one uses -/
/-- over a list that the body leaves as it is -/
theorem for_list {K : PySem.W.Frag} {a : Addr} {xs : List V} {g : TG} {tb : TS} {D : Ends} {σ : St} {H : Hp} (Pv : Nat → St → Hp → Prop) (h0 : Pv 0 σ H) (hl : ∀ i σ H, i ≤ xs.length → Pv i σ H → SqL K H a xs)
    (hs : ∀ i x σ H, xs[i]? = some x → Pv i σ H → g x σ H fun σ2 H2 => tb { D with nx := Pv (i + 1), ct := Pv (i + 1), bk := D.nx } σ2 H2) (hd : ∀ σ H, Pv xs.length σ H → D.nx σ H) :
    ∃ W : Nat → Nat → St → Hp → Prop, (∃ m, W 0 m σ H) ∧ ∀ i m σ H, W i m σ H →
      ((Itl K a).stop i H ∧ D.nx σ H) ∨ ((Itl K a).go i H ∧ ∃ N : St → Hp → Prop, (∀ σ' H', N σ' H' → ∃ m', m' < m ∧ W (i + 1) m' σ' H') ∧ ∀ x H', (Itl K a).yld i H x H' → g x σ H' fun σ2 H2 => tb { D with nx := N, ct := N, bk := D.nx } σ2 H2) := by
  refine ⟨fun i m σ H => m = xs.length - i ∧ i ≤ xs.length ∧ Pv i σ H, ⟨xs.length, by simp, Nat.zero_le _, h0⟩, ?_⟩
  rintro i m σ H ⟨rfl, hi, p⟩
  have q := hl i σ H hi p
  by_cases hlt : i < xs.length
  · refine .inr ⟨⟨xs, xs[i], q, by simp [hlt]⟩, Pv (i + 1), fun σ' H' p' => ⟨xs.length - (i + 1), by omega, rfl, hlt, p'⟩, fun x H' y => ?_⟩
    obtain ⟨e, y⟩ := y
    subst e
    exact hs i x σ _ (y xs q) p
  · have e : i = xs.length := by omega
    subst e
    exact .inl ⟨⟨xs, q, Nat.le_refl _⟩, hd σ H p⟩
theorem for_tup {K : PySem.W.Frag} {a : Addr} {xs : List V} {g : TG} {tb : TS} {D : Ends} {σ : St} {H : Hp} (Pv : Nat → St → Hp → Prop) (h0 : Pv 0 σ H) (hl : ∀ i σ H, i ≤ xs.length → Pv i σ H → SqT K H a xs)
    (hs : ∀ i x σ H, xs[i]? = some x → Pv i σ H → g x σ H fun σ2 H2 => tb { D with nx := Pv (i + 1), ct := Pv (i + 1), bk := D.nx } σ2 H2) (hd : ∀ σ H, Pv xs.length σ H → D.nx σ H) :
    ∃ W : Nat → Nat → St → Hp → Prop, (∃ m, W 0 m σ H) ∧ ∀ i m σ H, W i m σ H →
      ((Itt K a).stop i H ∧ D.nx σ H) ∨ ((Itt K a).go i H ∧ ∃ N : St → Hp → Prop, (∀ σ' H', N σ' H' → ∃ m', m' < m ∧ W (i + 1) m' σ' H') ∧ ∀ x H', (Itt K a).yld i H x H' → g x σ H' fun σ2 H2 => tb { D with nx := N, ct := N, bk := D.nx } σ2 H2) := by
  refine ⟨fun i m σ H => m = xs.length - i ∧ i ≤ xs.length ∧ Pv i σ H, ⟨xs.length, by simp, Nat.zero_le _, h0⟩, ?_⟩
  rintro i m σ H ⟨rfl, hi, p⟩
  have q := hl i σ H hi p
  by_cases hlt : i < xs.length
  · refine .inr ⟨⟨xs, xs[i], q, by simp [hlt]⟩, Pv (i + 1), fun σ' H' p' => ⟨xs.length - (i + 1), by omega, rfl, hlt, p'⟩, fun x H' y => ?_⟩
    obtain ⟨e, y⟩ := y
    subst e
    exact hs i x σ _ (y xs q) p
  · have e : i = xs.length := by omega
    subst e
    exact .inl ⟨⟨xs, q, Nat.le_refl _⟩, hd σ H p⟩
theorem for_range {lo : Int} {n : Nat} {g : TG} {tb : TS} {D : Ends} {σ : St} {H : Hp} (Pv : Nat → St → Hp → Prop) (h0 : Pv 0 σ H)
    (hs : ∀ i σ H, i < n → Pv i σ H → g (.int (lo + i)) σ H fun σ2 H2 => tb { D with nx := Pv (i + 1), ct := Pv (i + 1), bk := D.nx } σ2 H2) (hd : ∀ σ H, Pv n σ H → D.nx σ H) :
    ∃ W : Nat → Nat → St → Hp → Prop, (∃ m, W 0 m σ H) ∧ ∀ i m σ H, W i m σ H →
      ((Itr lo n).stop i H ∧ D.nx σ H) ∨ ((Itr lo n).go i H ∧ ∃ N : St → Hp → Prop, (∀ σ' H', N σ' H' → ∃ m', m' < m ∧ W (i + 1) m' σ' H') ∧ ∀ x H', (Itr lo n).yld i H x H' → g x σ H' fun σ2 H2 => tb { D with nx := N, ct := N, bk := D.nx } σ2 H2) := by
  refine ⟨fun i m σ H => m = n - i ∧ i ≤ n ∧ Pv i σ H, ⟨n, by simp, Nat.zero_le _, h0⟩, ?_⟩
  rintro i m σ H ⟨rfl, hi, p⟩
  by_cases hlt : i < n
  · refine .inr ⟨hlt, Pv (i + 1), fun σ' H' p' => ⟨n - (i + 1), by omega, rfl, hlt, p'⟩, fun x H' y => ?_⟩
    obtain ⟨e, y⟩ := y
    subst e y
    exact hs i σ _ hlt p
  · have e : i = n := by omega
    subst e
    exact .inl ⟨Nat.le_refl _, hd σ H p⟩
end L2

namespace L2
open PySem PySem.Spec PyProof.Rows

abbrev R2 := V → V → Hp → VK → Prop
/-- a two-place operation on values: f is binaryOp op, inplaceOp op or compareOp op -/
def OpR (X : Cx) (f : Value → Value → Sem Value) (r : R2) : Prop :=
  ∀ (pins : List (Addr × Obj)) (s : Shared) (σ : St) (H : Hp) (x y : V) (v u : Value) (Q : VK), Inv X pins σ H s → RelV x v → RelV y u → r x y H Q →
    wpAny (model X.prog X.w) X.A (f v u) (EP X pins σ Q) X.xe s
/-- a one-place operation -/
def UnR (X : Cx) (f : Value → Sem Value) (r : V → Hp → VK → Prop) : Prop :=
  ∀ (pins : List (Addr × Obj)) (s : Shared) (σ : St) (H : Hp) (x : V) (v : Value) (Q : VK), Inv X pins σ H s → RelV x v → r x H Q →
    wpAny (model X.prog X.w) X.A (f v) (EP X pins σ Q) X.xe s
/-- a call of a value that is known (a builtin, a type) with values -/
def CallR (X : Cx) (f : Value) (r : List V → Hp → VK → Prop) : Prop :=
  ∀ (pins : List (Addr × Obj)) (s : Shared) (σ : St) (H : Hp) (xs : List V) (us : List Value) (Q : VK), Inv X pins σ H s → Vals xs us → r xs H Q →
    wpAny (model X.prog X.w) X.A (call f us) (EP X pins σ Q) X.xe s
def tOp (r : R2) (ta tb : TE) : TE := fun σ H Q => ta σ H fun x H1 => tb σ H1 fun y H2 => r x y H2 Q
def tUn (r : V → Hp → VK → Prop) (ta : TE) : TE := fun σ H Q => ta σ H fun x H1 => r x H1 Q
/-- ints in, under C, and a value out -/
def rI (C : Int → Int → Prop) (g : Int → Int → V) : R2 := fun x y H Q => ∃ i j, x = .int i ∧ y = .int j ∧ C i j ∧ Q (g i j) H
def rI0 (g : Int → Int → V) : R2 := fun x y H Q => ∃ i j, x = .int i ∧ y = .int j ∧ Q (g i j) H
def rU (g : Int → V) : V → Hp → VK → Prop := fun x H Q => ∃ i, x = .int i ∧ Q (g i) H

section
variable {X : Cx} {a b c : Expr} {ta tb tc : TE} {pos : Pos}

theorem binT (ha : PE X a ta) (hb : PE X b tb) {pins : List (Addr × Obj)} {s : Shared} {σ : St} {H : Hp} {R : V → V → Hp → Prop} (I : Inv X pins σ H s)
    (h : ta σ H fun x H1 => tb σ H1 fun y H2 => R x y H2) {Q : Value → Shared → Prop} {f : Value → Value → Sem Value}
    (hf : ∀ v u s2 x y H2, Inv X pins σ H2 s2 → RelV x v → RelV y u → R x y H2 → wpAny (model X.prog X.w) X.A (f v u) Q X.xe s2) :
    wpAny (model X.prog X.w) X.A (eval a X.env) (fun v s₁ => wpAny (model X.prog X.w) X.A (eval b X.env) (fun u s₂ => wpAny (model X.prog X.w) X.A (f v u) Q X.xe s₂) X.xe s₁) X.xe s := by
  refine thn (ha pins s σ H _ I h) fun v s1 ⟨x, H1, I1, r1, q1⟩ => ?_
  refine thn (hb pins s1 σ H1 _ I1 q1) fun u s2 ⟨y, H2, I2, r2, q2⟩ => ?_
  exact hf v u s2 x y H2 I2 r1 r2 q2

theorem pe_op {op : Operator} {r : R2} (ho : OpR X (binaryOp op) r) (ha : PE X a ta) (hb : PE X b tb) : PE X (.BinOp a op b pos) (tOp r ta tb) := by
  intro pins s σ H Q I h
  exact wpAny_BinOp (binT ha hb I h fun v u s2 x y H2 I2 rx ry q => ho pins s2 σ H2 x y v u Q I2 rx ry q)
theorem pe_un {op : UnaryOp} {r : V → Hp → VK → Prop} (ho : UnR X (unaryOp op) r) (ha : PE X a ta) : PE X (.UnaryOp op a pos) (tUn r ta) := by
  intro pins s σ H Q I h
  exact UnaryOp_ (thn (ha pins s σ H _ I h) fun v s1 ⟨x, H1, I1, r1, q1⟩ => ho pins s1 σ H1 x v Q I1 r1 q1)
/-! ### ints -/
theorem opI {f : Value → Value → Sem Value} {C : Int → Int → Prop} {g : Int → Int → Int}
    (rule : ∀ (i j : Int) (t u : Tok) (s : Shared) (Q : Value → Shared → Prop) (E : Value → Shared → Prop), C i j → Q (.int (g i j) s.toks) { s with toks := s.toks + 1 } → wpAny (model X.prog X.w) X.A (f (.int i t) (.int j u)) Q E s) :
    OpR X f (rI C fun i j => .int (g i j)) := by
  intro pins s σ H x y v u Q I rx ry h
  obtain ⟨i, j, rfl, rfl, hc, q⟩ := h
  obtain ⟨t, rfl⟩ := rx
  obtain ⟨t', rfl⟩ := ry
  exact rule i j t t' s _ _ hc ⟨.int (g i j), H, I.tok _, ⟨_, rfl⟩, q⟩
theorem opI0 {f : Value → Value → Sem Value} {g : Int → Int → Int}
    (rule : ∀ (i j : Int) (t u : Tok) (s : Shared) (Q : Value → Shared → Prop) (E : Value → Shared → Prop), Q (.int (g i j) s.toks) { s with toks := s.toks + 1 } → wpAny (model X.prog X.w) X.A (f (.int i t) (.int j u)) Q E s) :
    OpR X f (rI0 fun i j => .int (g i j)) := by
  intro pins s σ H x y v u Q I rx ry h
  obtain ⟨i, j, rfl, rfl, q⟩ := h
  obtain ⟨t, rfl⟩ := rx
  obtain ⟨t', rfl⟩ := ry
  exact rule i j t t' s _ _ ⟨.int (g i j), H, I.tok _, ⟨_, rfl⟩, q⟩
theorem opB0 {f : Value → Value → Sem Value} {g : Int → Int → Bool}
    (rule : ∀ (i j : Int) (t u : Tok) (s : Shared) (Q : Value → Shared → Prop) (E : Value → Shared → Prop), Q (.bool (g i j)) s → wpAny (model X.prog X.w) X.A (f (.int i t) (.int j u)) Q E s) :
    OpR X f (rI0 fun i j => .bl (g i j)) := by
  intro pins s σ H x y v u Q I rx ry h
  obtain ⟨i, j, rfl, rfl, q⟩ := h
  obtain ⟨t, rfl⟩ := rx
  obtain ⟨t', rfl⟩ := ry
  exact rule i j t t' s _ _ ⟨.bl (g i j), H, I, rfl, q⟩

def CDiv (i j : Int) : Prop := 0 < j ∧ j < 1073741824
def CPow (i j : Int) : Prop := 0 ≤ j ∧ j ≤ 1000000 ∧ i.natAbs < 2 ^ 64
def CMul (i j : Int) : Prop := (-(2 ^ 64) < i ∧ i < 2 ^ 64) ∨ (-(2 ^ 64) < j ∧ j < 2 ^ 64)
theorem CMul.ok {i j : Int} (h : CMul i j) : IntMulOk i j := by
  rcases h with ⟨h1, h2⟩ | ⟨h1, h2⟩
  · exact .of_left (intBits_le_64 h1 h2)
  · exact .of_right (intBits_le_64 h1 h2)
theorem op_add : OpR X (binaryOp .Add) (rI0 fun i j => .int (i + j)) := opI0 fun _ _ _ _ _ _ _ q => add_int q
theorem op_sub : OpR X (binaryOp .Sub) (rI0 fun i j => .int (i - j)) := opI0 fun _ _ _ _ _ _ _ q => sub_int q
theorem op_mul : OpR X (binaryOp .Mult) (rI CMul fun i j => .int (i * j)) := opI fun _ _ _ _ _ _ _ hc q => mul_int q hc.ok
/-- // by a positive divisor -/
theorem op_fdiv : OpR X (binaryOp .FloorDiv) (rI CDiv fun i j => .int (i / j)) := opI fun i j _ _ _ _ _ hc q => by
  have h1 : (0 : Int) < j := hc.1
  have h2 : j < 1073741824 := hc.2
  exact floordiv_int (by omega) (by rw [Int.fdiv_eq_ediv_of_nonneg i (by omega)]; exact q) (.inl (PyProof.noPylong_small (by omega)))
/-- % by a positive divisor of any size -/
theorem op_mod : OpR X (binaryOp .Mod) (rI (fun _ j => 0 < j) fun i j => .int (i % j)) := opI fun i j _ _ _ _ _ hc q => by
  have h1 : (0 : Int) < j := hc
  exact mod_int' (by omega) (by rw [Int.fmod_eq_emod_of_nonneg i (by omega)]; exact q)
theorem op_pow : OpR X (binaryOp .Pow) (rI CPow fun i j => .int (i ^ j.toNat)) := opI fun _ _ _ _ _ _ _ hc q => pow_int_small hc.1 hc.2.1 hc.2.2 q
theorem unI {f : Value → Sem Value} {g : Int → Int}
    (rule : ∀ (i : Int) (t : Tok) (s : Shared) (Q : Value → Shared → Prop) (E : Value → Shared → Prop), Q (.int (g i) s.toks) { s with toks := s.toks + 1 } → wpAny (model X.prog X.w) X.A (f (.int i t)) Q E s) :
    UnR X f (rU fun i => .int (g i)) := by
  intro pins s σ H x v Q I rx h
  obtain ⟨i, rfl, q⟩ := h
  obtain ⟨t, rfl⟩ := rx
  exact rule i t s _ _ ⟨.int (g i), H, I.tok _, ⟨_, rfl⟩, q⟩
theorem un_neg : UnR X (unaryOp .USub) (rU fun i => .int (-i)) := unI fun _ _ _ _ _ q => neg_int q
/-! ### bools among ints: n += (a < b) -/
end

/-! ### comparisons -/
/-- the scalars that == tells apart as data does -/
def scal : V → V → Bool
  | .non, .non => true | .non, .int _ => true | .int _, .non => true | .non, .bl _ => true | .bl _, .non => true | .non, .str _ => true | .str _, .non => true
  | .int _, .int _ => true | .bl _, .bl _ => true | .str _, .str _ => true | .byt _, .byt _ => true
  | .int _, .str _ => true | .str _, .int _ => true | .bl _, .str _ => true | .str _, .bl _ => true
  | _, _ => false
def rEq : R2 := fun x y H Q => scal x y = true ∧ Q (.bl (decide (x = y))) H
def rNe : R2 := fun x y H Q => scal x y = true ∧ Q (.bl (!decide (x = y))) H

theorem dec_int {i j : Int} : decide (V.int i = V.int j) = (i == j) := by
  rw [Bool.eq_iff_iff]
  simp
theorem dec_bl {i j : Bool} : decide (V.bl i = V.bl j) = (i == j) := by
  rw [Bool.eq_iff_iff]
  simp
theorem dec_str {i j : Str} : decide (V.str i = V.str j) = (i == j) := by
  rw [Bool.eq_iff_iff]
  simp
theorem dec_byt {i j : Array UInt8} : decide (V.byt i = V.byt j) = (i.toList == j.toList) := by
  rw [Bool.eq_iff_iff]
  cases i
  cases j
  simp

section
variable {X : Cx} {a b c : Expr} {ta tb tc : TE} {pos : Pos}
theorem fin_bl {pins : List (Addr × Obj)} {σ : St} {H : Hp} {s : Shared} {Q : VK} {k k' : Bool} (I : Inv X pins σ H s) (q : Q (.bl k) H) (e : k = k') : EP X pins σ Q (.bool k') s := by
  subst e
  exact ⟨.bl k, H, I, rfl, q⟩
theorem op_eq : OpR X (compareOp .Eq) rEq := by
  intro pins s σ H x y v u Q I rx ry h
  obtain ⟨hs, q⟩ := h
  cases x with
  | non =>
    cases rx
    cases y with
    | non => cases ry; exact PySem.EqNone.eq_none_none (fin_bl I q (by simp))
    | bl j => cases ry; exact PySem.EqNone.eq_none_bool (fin_bl I q (by simp))
    | int j => obtain ⟨t', rfl⟩ := ry; exact PySem.EqNone.eq_none_int (fin_bl I q (by simp))
    | str j => obtain ⟨t', rfl⟩ := ry; exact PySem.EqNone.eq_none_str (fin_bl I q (by simp))
    | _ => exact absurd (show false = true from hs) Bool.false_ne_true
  | bl i =>
    cases rx
    cases y with
    | non => cases ry; exact PySem.EqNone.eq_bool_none (fin_bl I q (by simp))
    | bl j => cases ry; exact eq_bool (fin_bl I q dec_bl)
    | str j => obtain ⟨t', rfl⟩ := ry; exact PySem.EqMixed.eq_bool_str (fin_bl I q (by simp))
    | _ => exact absurd (show false = true from hs) Bool.false_ne_true
  | int i =>
    obtain ⟨t, rfl⟩ := rx
    cases y with
    | non => cases ry; exact PySem.EqNone.eq_int_none (fin_bl I q (by simp))
    | int j => obtain ⟨t', rfl⟩ := ry; exact eq_int (fin_bl I q dec_int)
    | str j => obtain ⟨t', rfl⟩ := ry; exact PySem.EqMixed.eq_int_str (fin_bl I q (by simp))
    | _ => exact absurd (show false = true from hs) Bool.false_ne_true
  | str i =>
    obtain ⟨t, rfl⟩ := rx
    cases y with
    | non => cases ry; exact PySem.EqNone.eq_str_none (fin_bl I q (by simp))
    | bl j => cases ry; exact PySem.EqMixed.eq_str_bool (fin_bl I q (by simp))
    | int j => obtain ⟨t', rfl⟩ := ry; exact PySem.EqMixed.eq_str_int (fin_bl I q (by simp))
    | str j => obtain ⟨t', rfl⟩ := ry; exact eq_str (fin_bl I q dec_str)
    | _ => exact absurd (show false = true from hs) Bool.false_ne_true
  | byt i =>
    obtain ⟨t, rfl⟩ := rx
    cases y with
    | byt j => obtain ⟨t', rfl⟩ := ry; exact PySem.W.eq_bytes (fin_bl I q dec_byt)
    | _ => exact absurd (show false = true from hs) Bool.false_ne_true
  | _ => cases y <;> exact absurd (show false = true from hs) Bool.false_ne_true
theorem op_ne : OpR X (compareOp .NotEq) rNe := by
  intro pins s σ H x y v u Q I rx ry h
  obtain ⟨hs, q⟩ := h
  cases x with
  | non =>
    cases rx
    cases y with
    | non => cases ry; exact PySem.EqNone.ne_none_none (fin_bl I q (by simp))
    | bl j => cases ry; exact PySem.EqNone.ne_none_bool (fin_bl I q (by simp))
    | int j => obtain ⟨t', rfl⟩ := ry; exact PySem.EqNone.ne_none_int (fin_bl I q (by simp))
    | str j => obtain ⟨t', rfl⟩ := ry; exact PySem.EqNone.ne_none_str (fin_bl I q (by simp))
    | _ => exact absurd (show false = true from hs) Bool.false_ne_true
  | bl i =>
    cases rx
    cases y with
    | non => cases ry; exact PySem.EqNone.ne_bool_none (fin_bl I q (by simp))
    | bl j => cases ry; exact ne_bool (fin_bl I q (congrArg not dec_bl))
    | str j => obtain ⟨t', rfl⟩ := ry; exact PySem.EqMixed.ne_bool_str (fin_bl I q (by simp))
    | _ => exact absurd (show false = true from hs) Bool.false_ne_true
  | int i =>
    obtain ⟨t, rfl⟩ := rx
    cases y with
    | non => cases ry; exact PySem.EqNone.ne_int_none (fin_bl I q (by simp))
    | int j => obtain ⟨t', rfl⟩ := ry; exact ne_int (fin_bl I q (congrArg not dec_int))
    | str j => obtain ⟨t', rfl⟩ := ry; exact PySem.EqMixed.ne_int_str (fin_bl I q (by simp))
    | _ => exact absurd (show false = true from hs) Bool.false_ne_true
  | str i =>
    obtain ⟨t, rfl⟩ := rx
    cases y with
    | non => cases ry; exact PySem.EqNone.ne_str_none (fin_bl I q (by simp))
    | bl j => cases ry; exact PySem.EqMixed.ne_str_bool (fin_bl I q (by simp))
    | int j => obtain ⟨t', rfl⟩ := ry; exact PySem.EqMixed.ne_str_int (fin_bl I q (by simp))
    | str j => obtain ⟨t', rfl⟩ := ry; exact ne_str (fin_bl I q (congrArg not dec_str))
    | _ => exact absurd (show false = true from hs) Bool.false_ne_true
  | byt i =>
    obtain ⟨t, rfl⟩ := rx
    cases y with
    | byt j => obtain ⟨t', rfl⟩ := ry; exact PySem.W.ne_bytes (fin_bl I q (congrArg not dec_byt))
    | _ => exact absurd (show false = true from hs) Bool.false_ne_true
  | _ => cases y <;> exact absurd (show false = true from hs) Bool.false_ne_true

theorem op_lt : OpR X (compareOp .Lt) (rI0 fun i j => .bl (decide (i < j))) := opB0 fun _ _ _ _ _ _ _ q => lt_int q
theorem op_le : OpR X (compareOp .LtE) (rI0 fun i j => .bl (decide (i ≤ j))) := opB0 fun _ _ _ _ _ _ _ q => le_int q
theorem op_gt : OpR X (compareOp .Gt) (rI0 fun i j => .bl (decide (j < i))) := opB0 fun _ _ _ _ _ _ _ q => gt_int q
theorem op_ge : OpR X (compareOp .GtE) (rI0 fun i j => .bl (decide (j ≤ i))) := opB0 fun _ _ _ _ _ _ _ q => ge_int q
/-- two rules for one operation: by cases -/
theorem OpR.or {f : Value → Value → Sem Value} {r r' : R2} (h : OpR X f r) (h' : OpR X f r') : OpR X f (fun x y H Q => r x y H Q ∨ r' x y H Q) := by
  intro pins s σ H x y v u Q I rx ry q
  rcases q with q | q
  · exact h pins s σ H x y v u Q I rx ry q
  · exact h' pins s σ H x y v u Q I rx ry q

theorem nomark (b : Expr) {op : CmpOp} (h : op ≠ .In := by decide) (h2 : op ≠ .NotIn := by decide) : behindInMarks op b = false := by
  have e1 : (op == CmpOp.In) = false := by cases op <;> first | rfl | exact absurd rfl h
  have e2 : (op == CmpOp.NotIn) = false := by cases op <;> first | rfl | exact absurd rfl h2
  cases b <;> simp [behindInMarks, e1, e2]
/-- a comparison as a value; hm: nomark b, or (for in, not in) by with_unfolding_all rfl -/
theorem pe_cmpR {op : CmpOp} {r : R2} (ho : OpR X (compareOp op) r) (ha : PE X a ta) (hb : PE X b tb) (hm : behindInMarks op b = false) : PE X (.Compare a [op] [b] pos) (tOp r ta tb) := by
  intro pins s σ H Q I h
  exact wpAny_Compare1 (binT ha hb I h fun v u s2 x y H2 I2 rx ry q => ho pins s2 σ H2 x y v u Q I2 rx ry q) hm
/-- a reading of a value as a test -/
def tTest (t : TE) : TT := fun σ H Q => t σ H fun x H' => ∃ k, x = .bl k ∧ Q k H'
theorem pt_cmpR {op : CmpOp} {r : R2} (ho : OpR X (compareOp op) r) (ha : PE X a ta) (hb : PE X b tb) (hm : behindInMarks op b = false) : PT X (.Compare a [op] [b] pos) (tTest (tOp r ta tb)) := by
  intro pins s σ H Q I h
  refine wpAny_isTrue_Compare1 (thn (ha pins s σ H _ I h) fun v s1 ⟨x, H1, I1, r1, q1⟩ => thn (hb pins s1 σ H1 _ I1 q1) fun u s2 ⟨y, H2, I2, r2, q2⟩ =>
    thn (ho pins s2 σ H2 x y v u _ I2 r1 r2 q2) fun c s3 ⟨z, H3, I3, r3, k, e, q3⟩ => ?_) hm
  subst e
  cases r3
  exact wpAny_truthy_bool ⟨H3, I3, q3⟩
/-! ### truth -/
theorem line63 : (sizeLine : Nat) < 2 ^ 63 := by rw [sizeLine_eq]; decide
/-! ### strs and bytes -/
/-! ### scalar builtins, by CallR -/
theorem vals1 {x : V} {us : List Value} (r : Vals [x] us) : ∃ u, us = [u] ∧ RelV x u := by
  cases r with
  | cons r1 r2 => cases r2; exact ⟨_, rfl, r1⟩
theorem vals2 {x y : V} {us : List Value} (r : Vals [x, y] us) : ∃ u w', us = [u, w'] ∧ RelV x u ∧ RelV y w' := by
  cases r with
  | cons r1 r2 =>
    cases r2 with
    | cons r3 r4 => cases r4; exact ⟨_, _, rfl, r1, r3⟩
theorem call_min2 (hc : X.calm = true) : CallR X (.builtin "min") (fun xs H Q => ∃ i j, xs = [.int i, .int j] ∧ Q (.int (if j < i then j else i)) H) := by
  intro pins s σ H xs us Q I r h
  obtain ⟨i, j, rfl, q⟩ := h
  obtain ⟨u, w', rfl, ⟨t, rfl⟩, ⟨t', rfl⟩⟩ := vals2 r
  refine min_two_ints (I.ok.hd hc) fun h' tk k => ⟨_, H, I.kept k, ?_, q⟩
  by_cases hj : j < i
  · rw [if_pos hj, if_pos hj]; exact ⟨_, rfl⟩
  · rw [if_neg hj, if_neg hj]; exact ⟨_, rfl⟩
end
end L2

namespace L2
open PySem PySem.Spec PyProof.Rows

/-! ### an instance, its attributes a map -/
structure ObjM (h : Heap) (x dx C : Addr) (mA : Str → Option Value) : Prop where
  obj : h.get? x = some (PySem.W.instObj C dx)
  ns : h.Ns1 dx mA
  ne : dx ≠ x

theorem lookIn_ns {h : Heap} {dx : Addr} {mA : Str → Option Value} (n : h.Ns1 dx mA) : ∃ od, h.get? dx = some od ∧ ∀ name, PySem.W.lookIn name od = some (mA name) := by
  obtain ⟨o, es, ep, ho, hd, hk, _, hm⟩ := n
  refine ⟨o, ho, fun name => ?_⟩
  have e := hm name
  unfold nsFind findBy at e
  rw [← Array.find?_toList] at e
  unfold PySem.W.lookIn
  rw [hd]
  dsimp only
  split
  · rename_i y q
    rw [q] at e
    exact congrArg some e
  · rename_i q
    rw [q] at e
    have a : es.toList.any (·.refKey) = false := by
      rw [List.any_eq_false]
      intro y hy
      obtain ⟨z, t, hkey⟩ := hk y (Array.mem_toList_iff.mp hy)
      simp [DictEntry.refKey, hkey]
    have a' : ¬ es.toList.any (·.refKey) = true := by rw [a]; exact Bool.false_ne_true
    rw [if_neg a']
    exact congrArg some e

theorem ObjM.look {h : Heap} {x dx C : Addr} {mA : Str → Option Value} (I : ObjM h x dx C mA) : ∃ od, PySem.W.InstAt h x (PySem.W.instObj C dx) C (some od) ∧ ∀ name, PySem.W.lookIn name od = some (mA name) :=
  let ⟨od, ho, hl⟩ := lookIn_ns I.ns
  ⟨od, ⟨I.obj, rfl, rfl, ho⟩, hl⟩

section
variable {prog : Program} {w : World} {A : Around} {E : Value → Shared → Prop} {s : Shared} {K : PySem.W.Frag} {x dx C f : Addr} {mA : Str → Option Value} {name : Str} {v : Value}

end

/-! ### the attributes as a list of pairs -/
section
variable {P : Program} {w : World} {H H' : Hp} {h h' : Heap} {a C dx : Addr} {fs fs' : List (Str × V)}
theorem ins_get (hok : HOk P w H h) (e : H a = some (.ins C dx fs)) : ∃ mA, ObjM h a dx C mA ∧ (∀ f, RelO (fs.lookup f) (mA f)) ∧ PySem.Within mA (fs.map (·.1)) ∧ fs.length ≤ 1000 ∧ H dx = some (.own a) := by
  obtain ⟨d, z, ne, ob, mA, n, r, q⟩ := (show ObjOk P w H h a (.ins C dx fs) from hok a _ e)
  exact ⟨mA, ⟨ob, n, ne⟩, r, q, z, d⟩
end

/-! ### what of the text a class must have -/
structure Cls (K : PySem.W.Frag) (C : Addr) : Prop where
  pg : PySem.W.plainGet K C Str.empty = true
  hd : PySem.W.hasDictIn K C = true
  po : PySem.W.plainOver K C = true
  sa : PySem.W.findIn K (.ref C) "__setattr__" = some (some (.builtin "object.__setattr__"))
theorem Cls.get {K : PySem.W.Frag} {C : Addr} (c : Cls K C) (f : Str) : PySem.W.plainGet K C f = true := c.pg
section
variable {X : Cx} {pins : List (Addr × Obj)} {σ : St} {H : Hp} {s : Shared} {a C dx : Addr} {fs : List (Str × V)} {f : Str} {v : V} {A : Around} {E : Value → Shared → Prop}

/-- a new instance, tracked, without attributes -/
theorem Inv.made (I : Inv X pins σ H s) : Inv X pins σ (upd (upd H s.heap.objs.size (.own (s.heap.objs.size + 1))) (s.heap.objs.size + 1) (.ins C s.heap.objs.size []))
    { s with heap := (s.heap.push PySem.W.emptyDict).push (PySem.W.instObj C s.heap.objs.size) } := by
  have e1 : (s.heap.push PySem.W.emptyDict).get? s.heap.objs.size = some PySem.W.emptyDict := Heap.get?_push_size s.heap rfl
  have e2 : ((s.heap.push PySem.W.emptyDict).push (PySem.W.instObj C s.heap.objs.size)).get? (s.heap.objs.size + 1) = some (PySem.W.instObj C s.heap.objs.size) := by
    have := Heap.get?_push_size (s.heap.push PySem.W.emptyDict) (o := PySem.W.instObj C s.heap.objs.size) rfl
    rwa [Heap.size_push] at this
  have e3 : (s.heap.push PySem.W.emptyDict).Ns s.heap.objs.size (fun _ => none) := ⟨PySem.W.emptyDict, #[], _, e1, rfl, (fun e he => absurd he (by simp)), fun _ => rfl⟩
  have I1 := I.laid (a := s.heap.objs.size) (o := .own (s.heap.objs.size + 1)) (h' := s.heap.push PySem.W.emptyDict) (t' := s.toks) (fun b u q => Heap.get?_push_of_some _ q) (Nat.le_refl _) ⟨_, e1⟩
  refine I1.laid (a := s.heap.objs.size + 1) (o := .ins C s.heap.objs.size []) (t' := s.toks) (fun b u q => Heap.get?_push_of_some _ q) (Nat.le_of_eq (Heap.size_push _ _)) ?_
  have ne : s.heap.objs.size ≠ s.heap.objs.size + 1 := Nat.ne_of_lt (Nat.lt_succ_self _)
  refine ⟨by rw [upd_ne ne, upd_same], Nat.zero_le _, ne, e2, fun _ => none, (Heap.Ns1.of_empty e3).at fun o q => Heap.get?_push_of_some _ q, fun _ => True.intro, fun y hy => absurd rfl hy⟩

end

/-! ### readings and rules -/
section
variable {X : Cx} {o e value : Expr} {f : Str} {pos pos' tpos : Pos} {ta tv : TE}
end

/-! ### isinstance -/
section
variable {X : Cx} {pins : List (Addr × Obj)} {σ : St} {H : Hp} {s : Shared} {A : Around} {E : Value → Shared → Prop} {Q : Value → Shared → Prop} {c : Value} {b : Bool}
/-- the type of a value, as the fragment's deciders take it; for an instance its class -/
inductive TyOf (K : PySem.W.Frag) (H : Hp) : V → Value → Prop where
  | non : TyOf K H .non (.type "NoneType")
  | bl (x : Bool) : TyOf K H (.bl x) (.type "bool")
  | int (i : Int) : TyOf K H (.int i) (.type "int")
  | str (x : Str) : TyOf K H (.str x) (.type "str")
  | flt (x : UInt64) : TyOf K H (.flt x) (.type "float")
  | lst {a : Addr} {xs : List V} (e : H a = some (.lst xs)) : TyOf K H (.ref a) (.type "list")
  | frz {a : Addr} {o : Obj} {xs : List V} (e : H a = some (.frz o (.lst xs))) : TyOf K H (.ref a) (.type "list")
  | tup {a : Addr} {xs : List V} (e : H a = some (.tup xs)) : TyOf K H (.ref a) (.type "tuple")
  | dK {a : Addr} {kvs : List (Key × V)} (e : H a = some (.dK kvs)) : TyOf K H (.ref a) (.type "dict")
  | dT {a : Addr} {kvs : List (List Key × V)} (e : H a = some (.dT kvs)) : TyOf K H (.ref a) (.type "dict")
  | ins {a C dx : Addr} {fs : List (Str × V)} (e : H a = some (.ins C dx fs)) (cl : Cls K C) (ha : PySem.W.findIn K (.ref C) "__class__" = some (some (.builtin "object.__class__")))
      (hn : PySem.W.specialIn K (.builtin "object.__class__") "__get__" = some (some (.builtin "getset_descriptor.__get__"))) (htk : PySem.W.takesIn K (.builtin "object.__class__") = some true)
      (hm : PySem.W.mroIn K C (.type "object") = some true) : TyOf K H (.ref a) (.ref C)
/-- isinstance(x, c) for one class c, a built-in or an own one: kitOne's answer -/
theorem isinst_ok {x : V} {u t : Value} (I : Inv X pins σ H s) (rx : RelV x u) (ty : TyOf X.K H x t) (e : PySem.W.kitOne X.K t c = some b) (h : ∀ tk, Q (.bool b) { s with toks := tk }) :
    wpAny (model X.prog X.w) A (call (.builtin "isinstance") [u, c]) Q E s := by
  cases ty with
  | non => cases (show u = Value.none from rx); exact PySem.W.kia_one PySem.W.kitx_none I.kIn True.intro e (fun z => nomatch z) h
  | bl y => cases (show u = Value.bool y from rx); exact PySem.W.kia_one PySem.W.kitx_bool I.kIn True.intro e (fun z => nomatch z) h
  | int i => obtain ⟨t, q⟩ := (show ∃ t, u = Value.int i t from rx); cases q; exact PySem.W.kia_one PySem.W.kitx_int I.kIn True.intro e (fun z => nomatch z) h
  | str y => obtain ⟨t, q⟩ := (show ∃ t, u = Value.str y t from rx); cases q; exact PySem.W.kia_one PySem.W.kitx_str I.kIn True.intro e (fun z => nomatch z) h
  | flt y => obtain ⟨t, q⟩ := (show ∃ t, u = Value.float y t from rx); cases q; exact PySem.W.kia_one PySem.W.kitx_float I.kIn True.intro e (fun z => nomatch z) h
  | @lst a xs ea =>
    cases (show u = Value.ref a from rx)
    obtain ⟨_, _, n, _, h1⟩ := (show ObjOk X.prog X.w H s.heap a (.lst xs) from I.hok a _ ea)
    exact PySem.W.kia_one PySem.W.kitx_list I.kIn ⟨_, h1, rfl⟩ e (fun z => nomatch z) h
  | @frz a ob xs ea =>
    cases (show u = Value.ref a from rx)
    obtain ⟨_, _, _, n, _, h1⟩ := (show ObjOk X.prog X.w H s.heap a (.frz ob (.lst xs)) from I.hok a _ ea)
    exact PySem.W.kia_one PySem.W.kitx_list I.kIn ⟨_, h1, rfl⟩ e (fun z => nomatch z) h
  | @tup a xs ea =>
    cases (show u = Value.ref a from rx)
    obtain ⟨_, _, _, p⟩ := (show ObjOk X.prog X.w H s.heap a (.tup xs) from I.hok a _ ea)
    obtain ⟨o, h1, h2, _⟩ := p
    exact PySem.W.kia_one PySem.W.kitx_tuple I.kIn ⟨o, h1, h2⟩ e (fun z => nomatch z) h
  | @dK a kvs ea =>
    cases (show u = Value.ref a from rx)
    obtain ⟨_, _, vs, _, p⟩ := (show ObjOk X.prog X.w H s.heap a (.dK kvs) from I.hok a _ ea)
    obtain ⟨o, es, ep, h1, h2, _⟩ := p
    exact PySem.W.kia_one PySem.W.kitx_dict I.kIn ⟨o, h1, h2.1⟩ e (fun z => nomatch z) h
  | @dT a kvs ea =>
    cases (show u = Value.ref a from rx)
    obtain ⟨_, _, xs, _, o, es, ep, h1, h2, _⟩ := (show ObjOk X.prog X.w H s.heap a (.dT kvs) from I.hok a _ ea)
    exact PySem.W.kia_one PySem.W.kitx_dict I.kIn ⟨o, h1, h2.1⟩ e (fun z => nomatch z) h
  | @ins a C dx fs ea cl ha hn htk hm =>
    cases (show u = Value.ref a from rx)
    obtain ⟨mA, O, _⟩ := ins_get I.hok ea
    obtain ⟨od, J, _⟩ := O.look
    exact PySem.W.kia_one (PySem.W.kitx_own (cl.get _) cl.hd ha hn htk hm) I.kIn J e (fun z => nomatch z) h
end
end L2

namespace L2
open PySem PySem.Spec PyProof.Rows

/-! ### room -/
structure Room (k : Nat) (A : Around) : Prop where
  hd : A.handled = none
  dp : A.depth + 3 * k + 5 < recursionLimit
  un : A.units + 16 * k + 200 < cLine
theorem Room.mono {j k : Nat} {A : Around} (r : Room k A) (h : j ≤ k) : Room j A := ⟨r.hd, by have := r.dp; omega, by have := r.un; omega⟩
theorem Room.deeper {k : Nat} {A : Around} (r : Room (k + 1) A) (env : Env) : Room k (A.deeper env) :=
  ⟨r.hd, by have := r.dp; show A.depth + 1 + 3 * k + 5 < _; omega, by have := r.un; show A.units + 3 + 16 * k + 200 < _; omega⟩
theorem Room.in1 {k : Nat} {A : Around} (r : Room (k + 1) A) : Room k A.in1 :=
  ⟨r.hd, by have := r.dp; show A.depth + 3 * k + 5 < _; omega, by have := r.un; show A.units + 1 + 16 * k + 200 < _; omega⟩
theorem Room.depth {k : Nat} {A : Around} (r : Room k A) : A.depth < recursionLimit := by have := r.dp; omega
theorem Room.units {k : Nat} {A : Around} (r : Room k A) : A.units + 64 < cLine := by have := r.un; omega
/-! ### argument lists and displays -/
def tNil : TA := fun _ H Q => Q [] H
def tCons (ta : TE) (tr : TA) : TA := fun σ H Q => ta σ H fun x H1 => tr σ H1 fun xs H2 => Q (x :: xs) H2
section
variable {X : Cx} {e : Expr} {es : List Expr} {te : TE} {t : TA} {pos : Pos}
theorem pa_nil : PA X [] tNil := fun _ _ _ _ H Q I h => Calls.spliced_nil ⟨[], H, I, .nil, h⟩
theorem pa_cons (ha : PE X e te) (hr : PA X es t) (hs : starEach (e :: es) X.env = (false, eval e X.env) :: starEach es X.env := by rfl) : PA X (e :: es) (tCons te t) := by
  intro pos pins s σ H Q I h
  rw [hs]
  show wpAny _ _ (spliced ((false, eval e X.env) :: backTo pos (starEach es X.env))) _ _ s
  refine Calls.spliced_cons (thn (ha pins s σ H _ I h) fun u s1 ⟨x, H1, I1, r1, q1⟩ => ?_)
  exact thn (hr pos pins s1 σ H1 _ I1 q1) fun us s2 ⟨xs, H2, I2, r2, q2⟩ => ⟨x :: xs, H2, I2, .cons r1 r2, q2⟩

def tLst (t : TA) : TE := fun σ H Q => t σ H fun xs H1 => xs.length ≤ sizeLine ∧ ∀ p, H1 p = none → Q (.ref p) (upd H1 p (.lst xs))
theorem pe_lst (h : PA X es t) : PE X (.List es pos) (tLst t) := by
  intro pins s σ H Q I hq
  refine wpAny_List_spliced (thn (h pos pins s σ H _ I hq) fun us s1 ⟨xs, H1, I1, r, z, q⟩ => ⟨by rw [← r.length]; exact z, ?_⟩)
  have hf : H1 s1.heap.objs.size = none := I1.hok.fresh (Nat.le_refl _)
  refine ⟨.ref s1.heap.objs.size, upd H1 s1.heap.objs.size (.lst xs), I1.laid (t' := s1.toks) (fun b u e => Heap.get?_push_of_some _ e) (Nat.le_refl _) ?_, rfl, q _ hf⟩
  exact ⟨z, us, 0, r, Heap.get?_push_size _ rfl⟩
end

/-! ### what a def promises -/
/-- a def's promise: the bound arguments in the parameters' order, the heap, the wanted end, the wanted exception -/
abbrev Sp := List V → Hp → VK → XK → Prop
/-- how an exception lies behind a call (file 08 gives it): the callers' frames, abstract heap and state ahead of the call, the wish, the exception, the state -/
abbrev CXT := List Env → Hp → Shared → XK → Value → Shared → Prop

/-- the state at a call -/
structure Env0 (P : Program) (w : World) (K : PySem.W.Frag) (mg : Str → Option Value) (base : Heap) (A : Around) (outer : List Env) (s : Shared) (H : Hp) : Prop where
  frames : A.frames = some outer
  mod : Mod K mg base
  bs : ∀ b o, base.get? b = some o → s.heap.get? b = some o ∧ H b = none
  bsz : base.objs.size ≤ s.heap.objs.size
  funs : s.heap.FunFrames base outer
  frf : ∀ b ∈ frs outer, H b = none
  hok : HOk P w H s.heap
  bare : AllBare s.gens
/-- a call's end -/
def CE (outer : List Env) (P : Program) (w : World) (H : Hp) (s : Shared) (Q : VK) (u : Value) (s' : Shared) : Prop :=
  ∃ v H', s'.os = s.os ∧ AllBare s'.gens ∧ Un (frs outer) [] H H' s.heap s'.heap ∧ HOk P w H' s'.heap ∧ RelV v u ∧ Q v H'
def CR (CX : CXT) (outer : List Env) (P : Program) (w : World) (H : Hp) (s : Shared) (Q : VK) (E : XK) (r : Result) (s' : Shared) : Prop :=
  match r with
  | .ok (.ret u) => CE outer P w H s Q u s'
  | .ok _ => False
  | .error e => CX outer H s E e s'
structure FnOk (P : Program) (w : World) (K : PySem.W.Frag) (mg : Str → Option Value) (base : Heap) (CX : CXT) (k : Nat) (f : Addr) (fd : FuncData) (ps : List Str) (sp : Sp) : Prop where
  len : ∀ vs H Q E, sp vs H Q E → vs.length = ps.length
  run : ∀ (A : Around) (outer : List Env) (s : Shared) (H : Hp) (args : Args) (us : List Value) (vs : List V) (Q : VK) (E : XK), Room k A → Env0 P w K mg base A outer s H → BindsTo s fd args (ps.zip us) → Vals vs us → sp vs H Q E →
    codeAny (model P w) A (.call (.ref f) args) (CR CX outer P w H s Q E) s
theorem FnOk.mono {P : Program} {w : World} {K : PySem.W.Frag} {mg : Str → Option Value} {base : Heap} {CX : CXT} {j k : Nat} {f : Addr} {fd : FuncData} {ps : List Str} {sp : Sp} (F : FnOk P w K mg base CX j f fd ps sp) (h : j ≤ k) :
    FnOk P w K mg base CX k f fd ps sp := ⟨F.len, fun A outer s H args us vs Q E hr => F.run A outer s H args us vs Q E (hr.mono h)⟩
/-- a weaker promise -/
theorem FnOk.imp {P : Program} {w : World} {K : PySem.W.Frag} {mg : Str → Option Value} {base : Heap} {CX : CXT} {k : Nat} {f : Addr} {fd : FuncData} {ps : List Str} {sp sp' : Sp} (F : FnOk P w K mg base CX k f fd ps sp)
    (h : ∀ vs H Q E, sp' vs H Q E → sp vs H Q E) : FnOk P w K mg base CX k f fd ps sp' :=
  ⟨fun vs H Q E q => F.len vs H Q E (h _ _ _ _ q), fun A outer s H args us vs Q E hr he hb hv hs => F.run A outer s H args us vs Q E hr he hb hv (h _ _ _ _ hs)⟩

theorem Env0.in1 {P : Program} {w : World} {K : PySem.W.Frag} {mg : Str → Option Value} {base : Heap} {A : Around} {outer : List Env} {s : Shared} {H : Hp} (e : Env0 P w K mg base A outer s H) :
    Env0 P w K mg base A.in1 outer s H := ⟨e.frames, e.mod, e.bs, e.bsz, e.funs, e.frf, e.hok, e.bare⟩

section
variable {X : Cx} {pins : List (Addr × Obj)} {σ : St} {H : Hp} {s s' : Shared}
/-- from a body: what a callee wants -/
theorem Inv.env0 (I : Inv X pins σ H s) : Env0 X.prog X.w X.K X.mg X.base X.A X.stack s H :=
  ⟨I.ok.frames, I.ok.mod, I.bs, Nat.le_trans I.ok.bsz I.sz, I.stack, I.stkFree, I.hok, I.bare⟩
/-- behind a call -/
theorem Inv.after {Q : VK} {u : Value} (I : Inv X pins σ H s) (h : CE X.stack X.prog X.w H s Q u s') : EP X pins σ Q u s' := by
  obtain ⟨v, H', os, bare, un, hok, r, q⟩ := h
  obtain ⟨hh, g, d, t, os'⟩ := s'
  obtain rfl : os' = s.os := os
  exact ⟨v, H', I.call (h' := hh) (g' := g) (d' := d) (t' := t) (ch := []) un hok bare (fun b z => absurd z (by simp)), r, q⟩
end

/-! ### calls -/
/-- f(..): the written arguments, then the defaults dvs; E: what is wanted of an exception -/
def tCall (sp : Sp) (dvs : List V) (E : XK) (t : TA) : TE := fun σ H Q => t σ H fun vs H1 => sp (vs ++ dvs) H1 Q E
/-- how the parameters are bound: us the positional arguments, kw the keywords' values by name, ds the defaults that fill up -/
def Binds (K : PySem.W.Frag) (fd : FuncData) (ps : List Str) (ds : List Value) : Prop :=
  ∀ (s : Shared) (us : List Value), K.In s.heap → (us ++ ds).length = ps.length → BindsTo s fd ⟨us, []⟩ (ps.zip (us ++ ds))
/-- every parameter is given -/
theorem Binds.all {K : PySem.W.Frag} {fd : FuncData} {ps : List Str} (h : ∀ us : List Value, us.length = ps.length → bindArgs fd ⟨us, []⟩ = pure (ps.zip us)) : Binds K fd ps [] := fun s us _ hl => by
  rw [List.append_nil] at hl ⊢
  exact .of_eq (h us hl)

/-- an exception of a callee reaches what this body wants of exceptions -/
def Passes (CX : CXT) (X : Cx) (E : XK) : Prop := ∀ (pins : List (Addr × Obj)) (σ : St) (H : Hp) (s : Shared) (e : Value) (s' : Shared), Inv X pins σ H s → CX X.stack H s E e s' → X.xe e s'

section
variable {X : Cx} {CX : CXT} {k : Nat} {f C : Addr} {fd : FuncData} {ps : List Str} {sp : Sp} {dvs : List V} {ds : List Value} {E : XK} {x m : Str} {p pos apos : Pos} {e o : Expr} {es : List Expr} {ta : TE} {t : TA}

/-- the callee runs -/
theorem run_fn {pins : List (Addr × Obj)} {σ : St} {H : Hp} {s : Shared} {Q : VK} {us : List Value} {vs : List V} (F : FnOk X.prog X.w X.K X.mg X.base CX k f fd ps sp) (hr : Room k X.A) (hb : Binds X.K fd ps ds) (hd : Vals dvs ds) (hx : Passes CX X E)
    (I : Inv X pins σ H s) (r : Vals vs us) (h : sp (vs ++ dvs) H Q E) : wpAny (model X.prog X.w) X.A (call (.ref f) us) (EP X pins σ Q) X.xe s := by
  have r2 : Vals (vs ++ dvs) (us ++ ds) := r.append hd
  have hl : (us ++ ds).length = ps.length := by rw [← r2.length]; exact F.len _ _ _ _ h
  refine wpAny_call (codeAny_mono (F.run X.A X.stack s H ⟨us, []⟩ (us ++ ds) (vs ++ dvs) Q E hr I.env0 (hb s us I.kIn hl) r2 h) fun r s' hq => ?_)
  cases r with
  | error e => exact hx pins σ H s e s' I hq
  | ok fl =>
    cases fl with
    | ret u => exact I.after hq
    | next => exact False.elim hq
    | brk => exact False.elim hq
    | cont => exact False.elim hq

theorem pe_call (F : FnOk X.prog X.w X.K X.mg X.base CX k f fd ps sp) (hr : Room k X.A) (hg : Gl X x) (hm : X.mg x = some (.ref f)) (hk : PySem.W.keepIn X.K (.ref f) = true) (hb : Binds X.K fd ps ds) (hd : Vals dvs ds) (hx : Passes CX X E)
    (ha : PA X (e :: es) t) (hdb : (x == ("__debug__" : Str)) = false := by decide) (he : starEach (e :: es) X.env = (false, eval e X.env) :: starEach es X.env := by rfl) (hpl : (backTo pos (starEach es X.env)).any (·.1) = false := by rfl) :
    PE X (.Call (.Name x p) (e :: es) [] pos) (tCall sp dvs E t) := by
  intro pins s σ H Q I h
  refine wpAny_Call_Name_kw (ld_glob I hg hm ?_ hdb)
  refine PySem.W.callWith_K (h₀ := X.base) I.ok.mod.kin hk (thn (ha pos pins s σ H _ I h) fun us s1 ⟨vs, H1, I1, r, q⟩ => ⟨I1.kIn, ?_⟩) he hpl
  exact run_fn F hr hb hd hx I1 r q
end

/-! ### keywords -/
section
variable {X : Cx} {CX : CXT} {k : Nat} {f C : Addr} {fd : FuncData} {ps ks : List Str} {sp : Sp} {E : XK} {x m : Str} {p pos apos kpos : Pos} {e o : Expr} {es : List Expr} {kws : List Keyword} {te ta : TE} {t tk : TA} {nm : Option Str}
variable {g : List Value → List Value → List Value} {gV : List V → List V → List V}
end

/-! ### a def's body keeps its promise -/
/-- names: the parameters first -/
structure FnScope (N P : List Str) (sc : Scope) : Prop where
  kind : sc.kind = .function
  co : sc.isCoroutine = false
  gen : sc.isGenerator = false
  nd : N.Nodup
  pre : N.take P.length = P
  par : ∀ x ∈ P, sc.names.lookup x = some .local ∨ sc.names.lookup x = some .cell
  nofree : ∀ y ∈ sc.names, y.2 ≠ .free

theorem bindL_out {kindOf : Str → Option NameKind} {x : Str} : ∀ {binds : List (Str × Value)} {m : Str → Option Value}, (∀ v, (x, v) ∉ binds) → bindL kindOf binds m x = m x
  | [], _, _ => rfl
  | (n, v) :: r, m, h => by
    unfold bindL
    rw [bindL_out fun w hw => h w (List.mem_cons_of_mem _ hw)]
    split
    · have : x ≠ n := by rintro rfl; exact h v List.mem_cons_self
      simp [this]
    · rfl
theorem bindC_out {kindOf : Str → Option NameKind} {x : Str} : ∀ {binds : List (Str × Value)} {m : Str → Option Value}, (∀ v, (x, v) ∉ binds) → bindC kindOf binds m x = m x
  | [], _, _ => rfl
  | (n, v) :: r, m, h => by
    unfold bindC
    rw [bindC_out fun w hw => h w (List.mem_cons_of_mem _ hw)]
    split
    · rfl
    · have : x ≠ n := by rintro rfl; exact h v List.mem_cons_self
      simp [this]
theorem bindL_get {kindOf : Str → Option NameKind} {x : Str} {v : Value} : ∀ {P : List Str} {vs : List Value} {i : Nat} {m : Str → Option Value}, P.Nodup → P[i]? = some x → vs[i]? = some v → kindOf x = some .local →
    bindL kindOf (P.zip vs) m x = some v
  | [], _, _, _, _, h, _, _ => by simp at h
  | _ :: _, [], _, _, _, _, h, _ => by simp at h
  | p :: P, w :: vs, 0, m, nd, h1, h2, hk => by
    simp at h1 h2; subst h1; subst h2
    show bindL kindOf ((p, w) :: P.zip vs) m p = _
    unfold bindL
    rw [bindL_out fun v hv => (List.nodup_cons.mp nd).1 (List.of_mem_zip hv).1, if_pos hk]
    simp
  | p :: P, w :: vs, i + 1, m, nd, h1, h2, hk => by
    show bindL kindOf ((p, w) :: P.zip vs) m x = _
    unfold bindL
    exact bindL_get (i := i) (List.nodup_cons.mp nd).2 (by simpa using h1) (by simpa using h2) hk
theorem bindC_get {kindOf : Str → Option NameKind} {x : Str} {v : Value} : ∀ {P : List Str} {vs : List Value} {i : Nat} {m : Str → Option Value}, P.Nodup → P[i]? = some x → vs[i]? = some v → kindOf x ≠ some .local →
    bindC kindOf (P.zip vs) m x = some v
  | [], _, _, _, _, h, _, _ => by simp at h
  | _ :: _, [], _, _, _, _, h, _ => by simp at h
  | p :: P, w :: vs, 0, m, nd, h1, h2, hk => by
    simp at h1 h2; subst h1; subst h2
    show bindC kindOf ((p, w) :: P.zip vs) m p = _
    unfold bindC
    rw [bindC_out fun v hv => (List.nodup_cons.mp nd).1 (List.of_mem_zip hv).1, if_neg hk]
    simp
  | p :: P, w :: vs, i + 1, m, nd, h1, h2, hk => by
    show bindC kindOf ((p, w) :: P.zip vs) m x = _
    unfold bindC
    exact bindC_get (i := i) (List.nodup_cons.mp nd).2 (by simpa using h1) (by simpa using h2) hk

/-- the names' values at the entry -/
def start (N : List Str) (vs : List V) : St := vs.map some ++ List.replicate (N.length - vs.length) none

/-- the context of a def's body, at its entry; an exception leaves the frame, then lies as CX says -/
def cxOf (CX : CXT) (P : Program) (w : World) (K : PySem.W.Frag) (mg : Str → Option Value) (base : Heap) (N : List Str) (qual : Str) (scope : Scope) (f : Addr) (cd : Value) (A : Around) (outer : List Env) (s : Shared) (H : Hp) (E : XK) : Cx where
  prog := P
  w := w
  K := K
  mg := mg
  base := base
  A := A.deeper (envOfC qual scope s.heap.objs.size f cd)
  N := N
  s₀ := s
  H₀ := H
  env := envOfC qual scope s.heap.objs.size f cd
  outer := outer
  stack := envOfC qual scope s.heap.objs.size f cd :: outer
  ex := []
  calm := true
  fn := fun _ => true
  pn := []
  xe := fun e s' => wpAny (model P w) (A.deeper (envOfC qual scope s.heap.objs.size f cd)) (leaving (envOfC qual scope s.heap.objs.size f cd) e) (fun _ s'' => CX outer H s E e s'') (fun e' s'' => CX outer H s E e' s'') s'

theorem cell_has {sc : Scope} {n : Nat} {x : Str} (h : sc.names.lookup x = some .cell) : ∃ c, (cellsFrom n sc.names []).lookup x = some c := by
  have q := PySem.W.cellsFrom_some sc.names n [] (.inl h)
  exact Option.isSome_iff_exists.mp q

theorem inv_start {CX : CXT} {P : Program} {w : World} {K : PySem.W.Frag} {mg : Str → Option Value} {base : Heap} {N ps : List Str} {qual : Str} {scope : Scope} {f : Addr} {cd : Value} {A : Around} {outer : List Env} {s s1 : Shared} {H : Hp} {E : XK} {us : List Value} {vs : List V}
    (S : FnScope N ps scope) (hd : A.handled = none) (e0 : Env0 P w K mg base A outer s H) (hl : vs.length = ps.length) (r : Vals vs us)
    (x : InCallC s s.heap.objs.size (bindL (envOfC qual scope s.heap.objs.size f cd).kindOf (ps.zip us) fun _ => none) (cellsFrom (s.heap.objs.size + 1) scope.names []) (bindC (envOfC qual scope s.heap.objs.size f cd).kindOf (ps.zip us) fun _ => none) s1) :
    Inv (cxOf CX P w K mg base N qual scope f cd A outer s H E) [] (start N vs) H s1 := by
  have hpl : ps.length ≤ N.length := by have := congrArg List.length S.pre; rw [List.length_take] at this; omega
  obtain ⟨h1, tk, rfl, hk⟩ := x.done
  have noA : ∀ b : Addr, b ∉ (cxOf CX P w K mg base N qual scope f cd A outer s H E).ex := fun b z => absurd (show b ∈ ([] : List Addr) from z) (by simp)
  refine ⟨⟨e0.mod, S.kind, rfl, rfl, Nat.le_refl _, fun y z c h1 h2 => ?_, fun y hy => ?_, fun y c _ h => ?_, fun _ => hd, Around.frames_deeper e0.frames, .inr ⟨rfl, rfl⟩, fun b z => absurd z (noA b), e0.bs, e0.bsz, fun b _ _ => noA b, fun b z => absurd z (noA b), e0.funs, e0.frf⟩,
    rfl, e0.bare, Un.kept hk, ⟨_, x.toInCall.ns, fun i y v h1 h2 h3 => ?_⟩, fun y c h => ⟨_, x.cell y c h⟩, e0.hok.fresh (Nat.le_refl _), fun y c h => ?_, fun p hp => absurd (show p ∈ ([] : List (Addr × Obj)) from hp) (by simp), e0.hok.kept hk, ?_⟩
  · exact name_of_addr x.apart (PySem.mem_of_lookup h1) (PySem.mem_of_lookup h2)
  · have hy : scope.names.lookup y = some .cell ∨ scope.names.lookup y = some .free := hy
    rcases hy with hy | hy
    · exact cell_has hy
    · exact absurd rfl (S.nofree _ (PySem.mem_of_lookup hy))
  · exact Nat.le_of_lt (x.above y c (PySem.mem_of_lookup h))
  · have hi : i < vs.length := by
      unfold start at h2
      by_cases hi : i < vs.length
      · exact hi
      · rw [List.getElem?_append_right (by simpa using hi)] at h2
        rw [List.getElem?_replicate] at h2
        split at h2 <;> cases h2
    have ha : vs[i]? = some v := by
      unfold start at h2
      rw [List.getElem?_append_left (by simpa using hi), List.getElem?_map] at h2
      cases e : vs[i]? with
      | none => rw [e] at h2; cases h2
      | some a => rw [e] at h2; cases h2; rfl
    obtain ⟨u, hu, rv⟩ := r.get ha
    have hp : ps[i]? = some y := by
      rw [← S.pre, List.getElem?_take_of_lt (by omega)]; exact h1
    have ndP : ps.Nodup := by rw [← S.pre]; exact S.nd.sublist (List.take_sublist _ _)
    refine ⟨u, rv, ?_⟩
    rcases S.par y (List.mem_of_getElem? hp) with k | k
    · exact .inl ⟨k, bindL_get ndP hp hu k⟩
    · obtain ⟨c, e⟩ := cell_has (n := s.heap.objs.size + 1) k
      refine .inr ⟨.inl k, c, e, ?_⟩
      have q := x.cell y c e
      rw [bindC_get ndP hp hu (by show scope.names.lookup y ≠ _; rw [k]; decide)] at q
      exact q
  · exact e0.hok.fresh (Nat.le_of_lt (x.above y c (PySem.mem_of_lookup h)))
  · unfold start
    show _ = N.length
    rw [List.length_append, List.length_map, List.length_replicate]
    omega

/-- THE RULE: a def (or a method) of the text, by its body. The body's reading t is chosen for each entry; it is run at the parameters' values -/
theorem fn_of {CX : CXT} {P : Program} {w : World} {K : PySem.W.Frag} {mg : Str → Option Value} {base : Heap} {k : Nat} {f : Addr} {name qual : Str} {params : Arguments} {body : List Stmt} {scope : Scope} {dV kV doc pm cdv ct oc : Value} {an od : Option Addr}
    {osl : Array (Option Value)} {N ps : List Str} {sp : Sp} (lk : K.lookup f = some ⟨oc, od, .func (PySem.W.fnOf name qual params body scope dV kV doc pm an cdv ct), osl⟩) (hcd : PySem.W.codeIn K cdv qual = true) (S : FnScope N ps scope)
    (len : ∀ vs H Q E, sp vs H Q E → vs.length = ps.length)
    (hbody : ∀ (A : Around) (outer : List Env) (s : Shared) (H : Hp) (vs : List V) (Q : VK) (E : XK), Room k (A.deeper (envOfC qual scope s.heap.objs.size f cdv)) → sp vs H Q E →
      ∃ t, PSs (cxOf CX P w K mg base N qual scope f cdv A outer s H E) body t ∧ t { nx := fun _ H' => Q .non H', rt := Q } (start N vs) H) :
    FnOk P w K mg base CX (k + 1) f (PySem.W.fnOf name qual params body scope dV kV doc pm an cdv ct) ps sp := by
  refine ⟨len, fun A outer s H args us vs Q E hr e0 hb r hsp => ?_⟩
  have hl := len _ _ _ _ hsp
  have KX : K.In s.heap := e0.mod.kin.keeps fun b o e => (e0.bs b o e).1
  have lim : s.heap.NoLimit := e0.mod.nolimit.keeps fun b o e => (e0.bs b o e).1
  have hkind : ∀ y ∈ ps.zip us, scope.names.lookup y.1 = some .local ∨ (scope.names.lookup y.1 = some .cell ∧ ((cellsFrom (s.heap.objs.size + 1) scope.names []).lookup y.1).isSome = true) := fun ⟨n, v⟩ hy => by
    rcases S.par n (List.of_mem_zip hy).1 with q | q
    · exact .inl q
    · exact .inr ⟨q, PySem.W.cellsFrom_some _ _ _ (.inl q)⟩
  refine codeAny_call_function hr.depth (KX _ _ lk) rfl S.co S.gen rfl (PySem.W.codeRec_of KX hcd) (hb _ _ _ _ ?_)
  refine wpAny_newFunctionEnv_cells S.kind hkind fun env he s1 x => ?_
  subst he
  refine ⟨lim.keeps x.toInCall.keep, codeAny_func ?_⟩
  obtain ⟨t, ht, hq⟩ := hbody A outer s H vs Q E (hr.deeper _) hsp
  have I : Inv (cxOf CX P w K mg base N qual scope f cdv A outer s H E) [] (start N vs) H s1 := inv_start S hr.hd e0 hl r x
  refine wpAny_mono (ht [] s1 (start N vs) H _ I hq) (fun fl s' hs => ?_) fun e s' hs => hs
  have fin : ∀ {σ' : St} {H' : Hp} {v : V} {u : Value}, Inv (cxOf CX P w K mg base N qual scope f cdv A outer s H E) [] σ' H' s' → RelV v u → Q v H' → CE outer P w H s Q u s' :=
    fun {σ' H' v u} J rv q => ⟨v, H', J.os, J.bare, J.base, J.hok, rv, q⟩
  cases fl with
  | ret u =>
    obtain ⟨v, σ', H', J, rv, q⟩ := hs
    exact fin J rv q
  | next =>
    obtain ⟨σ', H', J, q⟩ := hs
    exact fin (v := V.non) (u := Value.none) J rfl q
  | brk =>
    obtain ⟨_, _, _, q⟩ := hs
    exact False.elim q
  | cont =>
    obtain ⟨_, _, _, q⟩ := hs
    exact False.elim q
end L2

namespace L2
open PySem PySem.Spec PyProof.Rows
section
variable {X : Cx} {x : Str} {p pos : Pos} {e : Expr} {es : List Expr} {t : TA} {id T : String} {r : List V → Hp → VK → Prop}

def tCB (r : List V → Hp → VK → Prop) (t : TA) : TE := fun σ H Q => t σ H fun vs H1 => r vs H1 Q
/-- f(e, ..), f a built-in function -/
theorem pe_callB (hc : CallR X (.builtin id) r) (hg : Gl X x) (hm : X.mg x = none) (hv : bootBuiltins x = some (.builtin id)) (ha : PA X (e :: es) t) (hn : x ≠ "__name__" := by decide) (hdb : (x == ("__debug__" : Str)) = false := by decide)
    (he : starEach (e :: es) X.env = (false, eval e X.env) :: starEach es X.env := by rfl) (hpl : (backTo pos (starEach es X.env)).any (·.1) = false := by rfl) : PE X (.Call (.Name x p) (e :: es) [] pos) (tCB r t) := by
  intro pins s σ H Q I h
  refine wpAny_Call_Name_kw (ld_blt I hg hm hv ?_ hn hdb)
  exact PyProof.Rows.callWith_builtin1 (thn (ha pos pins s σ H _ I h) fun us s1 ⟨vs, H1, I1, r1, q1⟩ => hc pins s1 σ H1 vs us Q I1 r1 q1) he hpl
/-- T(e, ..), T a built-in type -/
theorem pe_callTy (hc : CallR X (.type T) r) (hg : Gl X x) (hm : X.mg x = none) (hv : bootBuiltins x = some (.type T)) (ha : PA X (e :: es) t) (hn : x ≠ "__name__" := by decide) (hdb : (x == ("__debug__" : Str)) = false := by decide)
    (he : starEach (e :: es) X.env = (false, eval e X.env) :: starEach es X.env := by rfl) (hpl : (backTo pos (starEach es X.env)).any (·.1) = false := by rfl) : PE X (.Call (.Name x p) (e :: es) [] pos) (tCB r t) := by
  intro pins s σ H Q I h
  refine wpAny_Call_Name_kw (ld_blt I hg hm hv ?_ hn hdb)
  exact PyProof.Rows.callWith_type1 (thn (ha pos pins s σ H _ I h) fun us s1 ⟨vs, H1, I1, r1, q1⟩ => hc pins s1 σ H1 vs us Q I1 r1 q1) he hpl
end
end L2

namespace HT
open PySem PyProof.Rows

section
open PySem.SeqAt
open PySem.AutoSeq1 (wpAny_loadPart')
open PySem.MeetsSeq PySem.MeetsSeq2 PySem.MeetsSeq3

end

section
variable {prog : Program} {w : World} {A : Around} {E : Value → Shared → Prop} {s : Shared}

/-! ### t[a:b], not the whole -/
/-- a slice's bound as a place among n (d where it is left out) -/
def sIx (n d : Nat) : Option Int → Nat
  | none => d
  | some v => if v < 0 then (v + (n : Int)).toNat else min v.toNat n
end
end HT

namespace L2
open PySem PySem.Spec PyProof.Rows

/-! ### the parts of a slice -/
abbrev TO := St → Hp → (Option Int → Hp → Prop) → Prop
/-- a slice's part (left out, or an int) -/
def PO (X : Cx) (e : Option Expr) (t : TO) : Prop :=
  ∀ (pins : List (Addr × Obj)) (s : Shared) (σ : St) (H : Hp) (Q : Option Int → Hp → Prop), Inv X pins σ H s → t σ H Q →
    wpAny (model X.prog X.w) X.A (evalPart e X.env) (fun u s' => ∃ o H', Inv X pins σ H' s' ∧ IsPart u o ∧ Q o H') X.xe s
def tNoPart : TO := fun _ H Q => Q none H
def tPart (t : TE) : TO := fun σ H Q => t σ H fun x H1 => ∃ i, x = .int i ∧ Q (some i) H1

theorem intsAre_of {ns : List Int} : ∀ {us : List Value}, Vals (ns.map V.int) us → IntsAre us ns := by
  induction ns with
  | nil => intro us r; rw [List.map_nil] at r; cases r; exact .nil
  | cons n ns ih =>
    intro us r
    rw [List.map_cons] at r
    cases r with
    | cons r1 r2 =>
      obtain ⟨t, e⟩ := r1
      subst e
      exact .cons n t (ih r2)

section
variable {X : Cx} {e : Expr} {te : TE} {lo hi : Option Expr} {tl th : TO} {pos p2 : Pos}

theorem po_none : PO X none tNoPart := by
  intro pins s σ H Q I h
  rw [evalPart_none]
  exact wpAny_pure ⟨none, H, I, .none, h⟩
theorem po_some (h : PE X e te) : PO X (some e) (tPart te) := by
  intro pins s σ H Q I hw
  rw [evalPart_some]
  refine thn (h pins s σ H _ I hw) fun u s1 ⟨x, H1, I1, r1, q1⟩ => ?_
  obtain ⟨i, rfl, q⟩ := q1
  obtain ⟨t, rfl⟩ := r1
  exact ⟨some i, H1, I1, .int i t, q⟩

/-- what a slice of a value is, by values: the slice object stands at sl -/
def SlR (X : Cx) (r : V → Option Int → Option Int → Hp → VK → Prop) : Prop :=
  ∀ (pins : List (Addr × Obj)) (s : Shared) (σ : St) (H : Hp) (x : V) (v vl vu : Value) (lo hi : Option Int) (sl : Addr) (Q : VK), Inv X pins σ H s → RelV x v → s.heap.IsSliceOf sl vl vu .none → IsPart vl lo → IsPart vu hi → r x lo hi H Q →
    ∃ T id, typeLookup (.type T) "__getitem__" = pure (some (.builtin id)) ∧ s.TypeIs v T ∧ wpAny (model X.prog X.w) X.A (getItem v (.ref sl)) (EP X pins σ Q) X.xe s
theorem SlR.or {r r' : V → Option Int → Option Int → Hp → VK → Prop} (h : SlR X r) (h' : SlR X r') : SlR X (fun x lo hi H Q => r x lo hi H Q ∨ r' x lo hi H Q) := by
  intro pins s σ H x v vl vu lo hi sl Q I rx hs pl pu q
  rcases q with q | q
  · exact h pins s σ H x v vl vu lo hi sl Q I rx hs pl pu q
  · exact h' pins s σ H x v vl vu lo hi sl Q I rx hs pl pu q
def tSl (r : V → Option Int → Option Int → Hp → VK → Prop) (te : TE) (tl th : TO) : TE := fun σ H Q => te σ H fun x H1 => tl σ H1 fun l H2 => th σ H2 fun u H3 => r x l u H3 Q
/-- a[lo:hi], any a -/
theorem pe_slice {r : V → Option Int → Option Int → Hp → VK → Prop} (hr : SlR X r) (he : PE X e te) (hl : PO X lo tl) (hu : PO X hi th) : PE X (.Subscript e (.Slice lo hi none p2) pos) (tSl r te tl th) := by
  intro pins s σ H Q I h
  refine Subscript_ (thn (he pins s σ H _ I h) fun v s1 ⟨x, H1, I1, r1, q1⟩ => ?_)
  refine wpAny_Slice (thn (hl pins s1 σ H1 _ I1 q1) fun vl s2 ⟨l, H2, I2, pl, q2⟩ => thn (hu pins s2 σ H2 _ I2 q2) fun vu s3 ⟨u, H3, I3, pu, q3⟩ => ?_)
  rw [evalPart_none]
  refine wpAny_pure ?_
  have I4 : Inv X pins σ H3 { s3 with heap := s3.heap.push { cls := .type "slice", data := .fields #[vl, vu, .none] } } := I3.kept (t' := s3.toks) fun b ob q => Heap.get?_push_of_some _ q
  obtain ⟨T, id, hT, ht, hg⟩ := hr pins { s3 with heap := s3.heap.push { cls := .type "slice", data := .fields #[vl, vu, .none] } } σ H3 x v vl vu l u s3.heap.objs.size Q I4 r1 (Heap.IsSliceOf.new ..) pl pu q3
  show wpAny (model X.prog X.w) X.A (subscriptTail e (.Slice lo hi none p2) v (.ref s3.heap.objs.size)) (EP X pins σ Q) X.xe { s3 with heap := s3.heap.push { cls := .type "slice", data := .fields #[vl, vu, .none] } }
  exact tail_any (ops := [.ref s3.heap.objs.size, v]) ht hT hg (by with_unfolding_all rfl)

/-- the items of xs[lo:hi] -/
def cutV (xs : List V) (lo hi : Option Int) : List V := (xs.drop (HT.sIx xs.length 0 lo)).take (HT.sIx xs.length xs.length hi - HT.sIx xs.length 0 lo)
theorem cutV_length (xs : List V) (lo hi : Option Int) : (cutV xs lo hi).length ≤ xs.length := by
  unfold cutV
  rw [List.length_take, List.length_drop]
  omega
/-! ### t < u, t + u -/
end
end L2

namespace L2
open PySem PySem.Spec PyProof.Rows

/-! ### places -/
/-- the place that an index of any sign means -/
def ixN (n : Nat) (i : Int) : Option Nat := if 0 ≤ i then (if i < n then some i.toNat else none) else if -(n : Int) ≤ i then some (i + n).toNat else none
def atI {α : Type} (xs : List α) (i : Int) : Option α := (ixN xs.length i).bind fun j => xs[j]?
theorem ixN_seq {n : Nat} {i : Int} {j : Nat} (h : ixN n i = some j) : seqIndex? i n = some j ∧ j < n ∧ -(n : Int) ≤ i ∧ i < n := by
  unfold ixN at h
  by_cases h0 : 0 ≤ i
  · rw [if_pos h0] at h
    by_cases h1 : i < n
    · rw [if_pos h1] at h
      have e : i.toNat = j := Option.some.inj h
      exact ⟨by rw [seqIndex_of h0 h1, e], by omega, by omega, h1⟩
    · rw [if_neg h1] at h; cases h
  · rw [if_neg h0] at h
    by_cases h1 : -(n : Int) ≤ i
    · rw [if_pos h1] at h
      have e : (i + n).toNat = j := Option.some.inj h
      exact ⟨by rw [seqIndex_neg (by omega) h1, e], by omega, h1, by omega⟩
    · rw [if_neg h1] at h; cases h
theorem atI_get {α : Type} {xs : List α} {i : Int} {v : α} (h : atI xs i = some v) : ∃ j, seqIndex? i xs.length = some j ∧ xs[j]? = some v ∧ j < xs.length ∧ -(xs.length : Int) ≤ i ∧ i < xs.length := by
  unfold atI at h
  cases e : ixN xs.length i with
  | none => rw [e] at h; cases h
  | some j =>
    rw [e] at h
    obtain ⟨h1, h2, h3, h4⟩ := ixN_seq e
    exact ⟨j, h1, h, h2, h3, h4⟩
theorem atI_nat {α : Type} {xs : List α} {j : Nat} {v : α} (h : xs[j]? = some v) : atI xs (j : Int) = some v := by
  have hj : j < xs.length := (List.getElem?_eq_some_iff.mp h).1
  have e : ixN xs.length (j : Int) = some j := by
    unfold ixN
    rw [if_pos (by omega), if_pos (by omega)]; simp
  unfold atI; rw [e]; exact h
/-! ### what may be subscripted -/
/-- what stands as an index of a plain subscript -/
def PlainIx (b : Expr) : Prop := ∀ o i, subscripted b false o i = operate [o, i] (getItem o i)
/-- a subscript by values -/
def IxR (X : Cx) (r : R2) : Prop :=
  ∀ (value slice : Expr) (pins : List (Addr × Obj)) (s : Shared) (σ : St) (H : Hp) (x y : V) (v u : Value) (Q : VK), Inv X pins σ H s → RelV x v → RelV y u → r x y H Q →
    subscripted slice false v u = operate [v, u] (getItem v u) → wpAny (model X.prog X.w) X.A (subscriptTail value slice v u) (EP X pins σ Q) X.xe s
/-- a call of a builtin's method by values: the receiver, the arguments -/
def MtR (X : Cx) (id : String) (r : V → List V → Hp → VK → Prop) : Prop :=
  ∀ (pins : List (Addr × Obj)) (s : Shared) (σ : St) (H : Hp) (x : V) (xs : List V) (v : Value) (us : List Value) (Q : VK), Inv X pins σ H s → RelV x v → Vals xs us → r x xs H Q →
    wpAny (model X.prog X.w) X.A (call (.builtin id) (v :: us)) (EP X pins σ Q) X.xe s
section
variable {X : Cx} {a b : Expr} {ta tb : TE} {pos : Pos}
theorem IxR.or {r r' : R2} (h : IxR X r) (h' : IxR X r') : IxR X (fun x y H Q => r x y H Q ∨ r' x y H Q) := by
  intro value slice pins s σ H x y v u Q I rx ry q hs
  rcases q with q | q
  · exact h value slice pins s σ H x y v u Q I rx ry q hs
  · exact h' value slice pins s σ H x y v u Q I rx ry q hs
theorem MtR.or {id : String} {r r' : V → List V → Hp → VK → Prop} (h : MtR X id r) (h' : MtR X id r') : MtR X id (fun x xs H Q => r x xs H Q ∨ r' x xs H Q) := by
  intro pins s σ H x xs v us Q I rx rs q
  rcases q with q | q
  · exact h pins s σ H x xs v us Q I rx rs q
  · exact h' pins s σ H x xs v us Q I rx rs q
/-- a[b] -/
theorem pe_ix {r : R2} (hr : IxR X r) (ha : PE X a ta) (hb : PE X b tb) (hs : PlainIx b) : PE X (.Subscript a b pos) (tOp r ta tb) := by
  intro pins s σ H Q I h
  exact Subscript_ (binT ha hb I h fun v u s2 x y H2 I2 rx ry q => hr a b pins s2 σ H2 x y v u Q I2 rx ry q (hs _ _))

def rIxL (K : PySem.W.Frag) : R2 := fun x y H Q => ∃ p xs i v, x = .ref p ∧ y = .int i ∧ SqL K H p xs ∧ atI xs i = some v ∧ Q v H
theorem ix_list : IxR X (rIxL X.K) := by
  intro value slice pins s σ H x y v u Q I rx ry h hs
  obtain ⟨p, xs, i, z, rfl, rfl, hq, he, q⟩ := h
  cases rx
  obtain ⟨t, rfl⟩ := ry
  obtain ⟨its, r, pl, hz⟩ := I.list hq
  obtain ⟨j, h1, h2, h3, h4, h5⟩ := atI_get he
  obtain ⟨w, ew, rw'⟩ := r.get h2
  have hl := r.length
  have hn := line63
  have fin : EP X pins σ Q w s := ⟨z, H, I, rw', q⟩
  by_cases h0 : 0 ≤ i
  · have hj : i.toNat = j := by
      rw [seqIndex_of h0 h5] at h1
      exact Option.some.inj h1
    exact item_listR pl.isList h0 (by omega) (by rw [hj]; simpa using ew) fin hs
  · have hj : (i + (its.toArray.size : Int)).toNat = j := by
      rw [seqIndex_neg (by omega) h4] at h1
      rw [List.size_toArray, ← hl]
      exact Option.some.inj h1
    exact subscriptTail_builtinR (x := w) pl.isList.typeIs slot_list_getitem.lookup
      (wpAny_getItem_list_neg (Q := fun r s' => r = w ∧ EP X pins σ Q r s') pl.isList (by omega) (by rw [List.size_toArray] <;> omega) (by omega) (by rw [hj]; simpa using ew) ⟨rfl, fin⟩) hs
/-! ### xs[i] = v, any sign -/
/-- the list's object behind a store -/
theorem mapSeq_set (its : List Value) (n j : Nat) (u : Value) : Obj.mapSeq (·.setIfInBounds j u) { cls := .type "list", data := .seq its.toArray n } = { cls := .type "list", data := .seq (its.set j u).toArray n } := by
  simp [Obj.mapSeq]
theorem Inv.lst {pins : List (Addr × Obj)} {σ : St} {H : Hp} {s : Shared} {p : Addr} {xs : List V} (I : Inv X pins σ H s) (h : H p = some (.lst xs)) :
    ∃ (its : List Value) (n : Nat), Vals xs its ∧ s.heap.get? p = some { cls := .type "list", data := .seq its.toArray n } ∧ xs.length ≤ sizeLine := by
  obtain ⟨z, its, n, r, e⟩ := I.hok p _ h
  exact ⟨its, n, r, e, z⟩
/-- the list at p is written by an update of its object -/
theorem Inv.lstUpd {pins : List (Addr × Obj)} {σ : St} {H : Hp} {s : Shared} {p : Addr} {xs ys : List V} {its its' : List Value} {n n' : Nat} {f : Obj → Obj} (I : Inv X pins σ H s) (h : H p = some (.lst xs))
    (ho : s.heap.get? p = some { cls := .type "list", data := .seq its.toArray n }) (hf : f { cls := .type "list", data := .seq its.toArray n } = { cls := .type "list", data := .seq its'.toArray n' }) (r : Vals ys its') (hz : ys.length ≤ sizeLine) (t : Nat) :
    Inv X pins σ (upd H p (.lst ys)) { s with heap := s.heap.update p f, toks := t } := by
  have e : (s.heap.update p f).get? p = some { cls := .type "list", data := .seq its'.toArray n' } := by
    rw [Heap.get?_update_self f ho (by rw [hf] <;> rfl), hf]
  refine I.write (x := p) (e := p) (by rw [h]; trivial) (.inl rfl) (fun b u hb q => (Heap.get?_update_other _ _ (Ne.symm hb)).trans q) ⟨_, e⟩ ?_
  exact ⟨hz, its', n', r, e⟩
def rSetL : V → V → V → Hp → (Hp → Prop) → Prop := fun o i v H Q => ∃ p xs k j, o = .ref p ∧ i = .int k ∧ H p = some (.lst xs) ∧ ixN xs.length k = some j ∧ Q (upd H p (.lst (xs.set j v)))
theorem set_list : PSet X rSetL := by
  intro pins s σ H o i v ov iv u Q I ro ri rv h
  obtain ⟨p, xs, k, j, rfl, rfl, hp, hj, q⟩ := h
  cases ro
  obtain ⟨t, rfl⟩ := ri
  obtain ⟨its, n, r, ho, hz⟩ := I.lst hp
  obtain ⟨h1, h2, h3, h4⟩ := ixN_seq hj
  have hl := r.length
  have hn := line63
  have I' : Inv X pins σ (upd H p (.lst (xs.set j v))) { s with heap := s.heap.update p (Obj.mapSeq (·.setIfInBounds j u)) } :=
    I.lstUpd hp ho (mapSeq_set its n j u) (r.set rv j) (by rw [List.length_set]; exact hz) s.toks
  by_cases h0 : 0 ≤ k
  · have hk : k.toNat = j := by
      rw [seqIndex_of h0 h4] at h1
      exact Option.some.inj h1
    exact PySem.W.ki_setAt ho h0 (by omega) (by rw [List.size_toArray, ← hl]; exact h4) (by rw [hk]; exact ⟨_, I', q⟩)
  · have hk : (k + (its.toArray.size : Int)).toNat = j := by
      rw [seqIndex_neg (by omega) h3] at h1
      rw [List.size_toArray, ← hl]
      exact Option.some.inj h1
    exact PySem.W.ki_setBack ho (by omega) (by rw [List.size_toArray, ← hl]; exact h3) (by omega) (by rw [hk]; exact ⟨_, I', q⟩)

/-! ### slices -/
theorem slice_bounds (lo hi : Option Int) (n : Nat) : (sliceBounds lo hi none n).1 = ((HT.sIx n 0 lo : Nat) : Int) ∧ (sliceBounds lo hi none n).2.1 = ((HT.sIx n n hi : Nat) : Int) ∧ (sliceBounds lo hi none n).2.2 = 1 := by
  refine ⟨?_, ?_, rfl⟩
  · cases lo with
    | none => simp [sliceBounds, HT.sIx]
    | some i =>
      simp only [sliceBounds, HT.sIx, Option.getD_none, show (1 : Int) > 0 by decide, if_true]
      by_cases h : i < 0
      · simp only [h, if_true] <;> omega
      · simp only [h, if_false] <;> omega
  · cases hi with
    | none => simp [sliceBounds, HT.sIx]
    | some i =>
      simp only [sliceBounds, HT.sIx, Option.getD_none, show (1 : Int) > 0 by decide, if_true]
      by_cases h : i < 0
      · simp only [h, if_true] <;> omega
      · simp only [h, if_false] <;> omega
theorem slicePick_cut (its : List Value) (lo hi : Option Int) : slicePick its.toArray lo hi none = ((its.drop (HT.sIx its.length 0 lo)).take (HT.sIx its.length its.length hi - HT.sIx its.length 0 lo)).toArray := by
  obtain ⟨h1, h2, h3⟩ := slice_bounds lo hi its.toArray.size
  unfold slicePick
  rw [h1, h2, h3]
  simp only [sliceRange_one, pick_run, List.size_toArray] <;> rfl
/-- xs[lo:hi] of a list: a new list -/
def rSlL (K : PySem.W.Frag) : V → Option Int → Option Int → Hp → VK → Prop := fun x lo hi H Q => ∃ a xs, x = .ref a ∧ SqL K H a xs ∧ ∀ p, H p = none → Q (.ref p) (upd H p (.lst (cutV xs lo hi)))
theorem sl_list : SlR X (rSlL X.K) := by
  intro pins s σ H x v vl vu lo hi sl Q I rx hs pl pu h
  obtain ⟨a, xs, rfl, hx, q⟩ := h
  cases rx
  obtain ⟨its, r, ht, hz⟩ := I.list hx
  have hlen := r.length
  refine ⟨"list", _, slot_list_getitem.lookup, ht.isList.typeIs, ?_⟩
  refine wpAny_getItem_list_slice ht.isList hs pl pu .none (by simp) ?_ (by rw [List.size_toArray] <;> omega)
  rw [slicePick_cut, ← hlen]
  refine ⟨.ref s.heap.objs.size, _, I.laid (t' := s.toks) (o := .lst (cutV xs lo hi)) (fun b ob q => Heap.get?_push_of_some _ q) (Nat.le_refl _) ?_, rfl, q _ (I.hok.fresh (Nat.le_refl _))⟩
  exact ⟨Nat.le_trans (cutV_length xs lo hi) hz, _, 0, (r.drop (HT.sIx xs.length 0 lo)).take (HT.sIx xs.length xs.length hi - HT.sIx xs.length 0 lo), Heap.get?_push_size _ rfl⟩

/-! ### in, not in: flat items -/
/-! ### len, list(x), tuple(x) of any list or tuple that is read -/
theorem call_len_seq : CallR X (.builtin "len") (fun xs H Q => ∃ p ys, xs = [.ref p] ∧ (SqL X.K H p ys ∨ SqT X.K H p ys) ∧ Q (.int ys.length) H) := by
  intro pins s σ H xs us Q I r h
  obtain ⟨p, ys, rfl, hq, q⟩ := h
  obtain ⟨u, rfl, rx⟩ := vals1 r
  cases rx
  have hn := line63
  rcases hq with hq | hq
  · obtain ⟨its, r', pl, hz⟩ := I.list hq
    have hlen := r'.length
    exact Calls.call_len_list pl.isList (by simp only [List.size_toArray] <;> omega) ⟨.int ys.length, H, I.tok _, ⟨s.toks + 1, by rw [List.size_toArray, hlen]⟩, q⟩
  · obtain ⟨its, r', pl, hz⟩ := I.tuple hq
    have hlen := r'.length
    exact len_tuple pl (by simp only [List.size_toArray] <;> omega) ⟨.int ys.length, H, I.tok _, ⟨s.toks + 1, by rw [List.size_toArray, hlen]⟩, q⟩
theorem CallR.or {f : Value} {r r' : List V → Hp → VK → Prop} (h : CallR X f r) (h' : CallR X f r') : CallR X f (fun xs H Q => r xs H Q ∨ r' xs H Q) := by
  intro pins s σ H xs us Q I rs q
  rcases q with q | q
  · exact h pins s σ H xs us Q I rs q
  · exact h' pins s σ H xs us Q I rs q
theorem call_tuple_of : CallR X (.type "tuple") (fun xs H Q => ∃ p ys, xs = [.ref p] ∧ ((SqL X.K H p ys ∧ ∀ l, H l = none → Q (.ref l) (upd H l (.tup ys))) ∨ (SqT X.K H p ys ∧ Q (.ref p) H))) := by
  intro pins s σ H xs us Q I r h
  obtain ⟨p, ys, rfl, h⟩ := h
  obtain ⟨u, rfl, rx⟩ := vals1 r
  cases rx
  rcases h with ⟨hq, q⟩ | ⟨hq, q⟩
  · obtain ⟨its, r', pl, hz⟩ := I.list hq
    have hlen := r'.length
    refine call_tuple_list pl.isList (fun h' kp => ?_) (by simp only [List.size_toArray] <;> omega)
    have I1 : Inv X pins σ H { s with heap := h' } := I.kept (t' := s.toks) kp
    have I2 : Inv X pins σ (upd H h'.objs.size (.tup ys)) { s with heap := h'.push { cls := .type "tuple", data := .seq its.toArray } } :=
      I1.laid (t' := s.toks) (fun b o e => Heap.get?_push_of_some _ e) (Nat.le_refl _) (show ObjOk X.prog X.w _ _ _ (.tup ys) from ⟨hz, its, r', IsTup.new _ _⟩)
    exact ⟨.ref h'.objs.size, _, I2, rfl, q _ (I1.hok.fresh (Nat.le_refl _))⟩
  · obtain ⟨its, r', pl, hz⟩ := I.tuple hq
    exact call_tuple_same pl ⟨.ref p, H, I, rfl, q⟩

/-! ### the call of a builtin's method: o.m(..) -/
/-- the value is of that builtin type -/
def tyV (K : PySem.W.Frag) (T : String) (x : V) (H : Hp) : Prop := match x with
  | .str _ => T = "str"
  | .int _ => T = "int"
  | .ref p => (T = "list" ∧ ∃ xs, SqL K H p xs) ∨ (T = "tuple" ∧ ∃ o, K.lookup p = some o ∧ o.cls = .type "tuple" ∧ o.dict = none) ∨
      (T = "dict" ∧ ((∃ kvs, H p = some (.dK kvs)) ∨ ∃ kvs, H p = some (.dT kvs))) ∨ (T = "set" ∧ ∃ S n, H p = some (.set S n))
  | _ => False
theorem tyV_is {pins : List (Addr × Obj)} {σ : St} {H : Hp} {s : Shared} {T : String} {x : V} {v : Value} (I : Inv X pins σ H s) (r : RelV x v) (ty : tyV X.K T x H) :
    s.TypeIs v T ∧ ∀ a, v = .ref a → ∃ ob, s.heap.get? a = some ob ∧ ob.dict = none := by
  cases x with
  | str z =>
    obtain ⟨t, rfl⟩ := r
    cases (show T = "str" from ty)
    exact ⟨typeIs_str s z t, fun _ e => nomatch e⟩
  | int i =>
    obtain ⟨t, rfl⟩ := r
    cases (show T = "int" from ty)
    exact ⟨typeIs_int s i t, fun _ e => nomatch e⟩
  | ref p =>
    cases r
    rcases ty with ⟨rfl, xs, hq⟩ | ⟨rfl, o, hk, hc, hd⟩ | ⟨rfl, hk⟩ | ⟨rfl, S, n, hk⟩
    · obtain ⟨its, _, pl, _⟩ := I.list hq
      refine ⟨pl.isList.typeIs, fun a e => ?_⟩
      cases e
      obtain ⟨o, n, e, c, hd, _⟩ := pl
      exact ⟨o, e, hd⟩
    · refine ⟨⟨o, I.kIn p o hk, hc⟩, fun a e => ?_⟩
      cases e
      exact ⟨o, I.kIn _ o hk, hd⟩
    · have z : ∃ o, s.heap.get? p = some o ∧ o.ExactDict := by
        rcases hk with ⟨kvs, hk⟩ | ⟨kvs, hk⟩
        · obtain ⟨_, _, _, _, o, _, _, e, ex, _⟩ := I.hok p _ hk
          exact ⟨o, e, ex⟩
        · obtain ⟨_, _, _, _, o, _, _, e, ex, _⟩ := I.hok p _ hk
          exact ⟨o, e, ex⟩
      obtain ⟨o, e, ex⟩ := z
      refine ⟨⟨o, e, ex.1⟩, fun a e2 => ?_⟩
      cases e2
      exact ⟨o, e, ex.2.1⟩
    · obtain ⟨o, _, _, _, e, ex, _⟩ := I.hok p _ hk
      refine ⟨⟨o, e, ex.1⟩, fun a e2 => ?_⟩
      cases e2
      exact ⟨o, e, ex.2.1⟩
  | _ => exact False.elim ty
def tBM (K : PySem.W.Frag) (T : String) (r : V → List V → Hp → VK → Prop) (to : TE) (t : TA) : TE := fun σ H Q => to σ H fun x H1 => tyV K T x H1 ∧ t σ H1 fun xs H2 => r x xs H2 Q
variable {o e : Expr} {es : List Expr} {to : TE} {t : TA} {name : Str} {apos cpos : Pos} {T id : String} {r : V → List V → Hp → VK → Prop}
theorem pe_bm (pa : PlainAttrs T) (slot : Slot T name id) (hty : typeOf (.builtin id) = pure (.type "method_descriptor")) (hm : MtR X id r) (ho : PE X o to) (ha : PA X (e :: es) t)
    (hbase : attributeBase o name X.env (eval o X.env) = eval o X.env := by rfl)
    (hfew : ((backTo cpos (starEach (e :: es) X.env)).all (fun x => !x.1) && (backToKw cpos (keywordEach [] X.env)).all (fun x => x.1.isSome)
      && decide ((e :: es).length + ([] : List Keyword).length + (if ([] : List Keyword).isEmpty then 0 else 1) < 30)) = true := by rfl)
    (hline : (apos.endLine == cpos.line) = true := by rfl) (hs : starEach (e :: es) X.env = (false, eval e X.env) :: starEach es X.env := by rfl) (hplain : (backTo cpos (starEach es X.env)).any (·.1) = false := by rfl) :
    PE X (.Call (.Attribute o name apos) (e :: es) [] cpos) (tBM X.K T r to t) := by
  intro pins s σ H Q I h
  refine wpAny_Call_method_late hbase hfew hline rfl (thn (ho pins s σ H _ I h) fun v s1 ⟨x, H1, I1, r1, ty, q1⟩ => ?_)
  obtain ⟨h1, h2⟩ := tyV_is I1 r1 ty
  refine ⟨T, id, pa, slot, hty, h1, h2, ?_⟩
  have hA := ha cpos pins s1 σ H1 _ I1 q1
  rw [hs] at hA ⊢
  refine Calls.callWith_builtin (by show (false || (backTo cpos (starEach es X.env)).any (·.1)) = false; rw [hplain] <;> rfl) (Calls.evalArgs_plain ?_)
  exact thn hA fun us s2 ⟨vs, H2, I2, r2, q2⟩ => hm pins s2 σ H2 x vs v us Q I2 r1 r2 q2
/- xs.append(e), list.index on a module's tuple .. are MtR facts of 06m -/
end
end L2

namespace L2
open PySem PySem.Spec PyProof.Rows

def MtM (X : Cx) (id : String) (r : V → List V → Hp → VK → Prop) : Prop :=
  ∀ (pins : List (Addr × Obj)) (s : Shared) (σ : St) (H : Hp) (x : V) (xs : List V) (v : Value) (us : List Value) (Q : VK), Inv X pins σ H s → RelV x v → Vals xs us → r x xs H Q →
    wpAny (model X.prog X.w) X.A (call (.builtin id) (v :: us)) (EP X pins σ Q) X.xe s

/-! ### lists of values -/
theorem Vals.one : ∀ {x : V} {us : List Value}, Vals [x] us → ∃ u, us = [u] ∧ RelV x u
  | _, _, .cons r .nil => ⟨_, rfl, r⟩
theorem Vals.two : ∀ {x y : V} {us : List Value}, Vals [x, y] us → ∃ u v, us = [u, v] ∧ RelV x u ∧ RelV y v
  | _, _, _, .cons r (.cons q .nil) => ⟨_, _, rfl, r, q⟩
theorem Vals.zero : ∀ {us : List Value}, Vals [] us → us = []
  | _, .nil => rfl
theorem Vals.reverse {xs : List V} {us : List Value} (h : Vals xs us) : Vals xs.reverse us.reverse := by
  induction h with
  | nil => exact .nil
  | cons r t ih => rw [List.reverse_cons, List.reverse_cons]; exact Vals.append ih (.cons r .nil)
theorem Vals.rep {xs : List V} {us : List Value} (h : Vals xs us) : ∀ k : Nat, Vals (List.replicate k xs).flatten (List.replicate k us).flatten
  | 0 => .nil
  | k + 1 => by
    rw [List.replicate_succ, List.replicate_succ, List.flatten_cons, List.flatten_cons]
    exact Vals.append h (Vals.rep h k)
theorem foldl_rep (its : List Value) : ∀ (k : Nat) (acc : List Value),
    List.foldl (fun x1 x2 => x1 ++ x2) acc.toArray (List.replicate k its.toArray) = (acc ++ (List.replicate k its).flatten).toArray
  | 0, acc => by simp
  | k + 1, acc => by
    have e : acc.toArray ++ its.toArray = (acc ++ its).toArray := by simp
    have e2 : (acc ++ its) ++ (List.replicate k its).flatten = acc ++ (List.replicate (k + 1) its).flatten := by
      rw [List.replicate_succ, List.flatten_cons, List.append_assoc]
    rw [← e2, ← foldl_rep its k (acc ++ its), ← e, List.replicate_succ, List.foldl_cons]

section
variable {X : Cx} {pins : List (Addr × Obj)} {σ : St} {H : Hp} {s : Shared} {l b : Addr} {xs ys zs : List V}

/-! ### the two steps: a tracked list is rewritten, a new list is laid -/
theorem Inv.lset {its its' : List Value} {n : Nat} {f : Array Value → Array Value} {t' : Nat} (I : Inv X pins σ H s) (hH : H l = some (.lst xs))
    (e : s.heap.get? l = some { cls := .type "list", data := .seq its.toArray n }) (hf : f its.toArray = its'.toArray) (hv : Vals ys its') (hz : ys.length ≤ sizeLine) :
    Inv X pins σ (upd H l (.lst ys)) { s with heap := s.heap.update l (Obj.mapSeq f), toks := t' } := by
  have q := PySem.IsL.update e f
  rw [hf] at q
  refine I.write (x := l) (e := l) (by rw [hH]; exact trivial) (.inl rfl) (fun b' u hb hu => (Heap.get?_update_other s.heap (Obj.mapSeq f) (Ne.symm hb)).trans hu) ⟨_, q⟩ ?_
  exact ⟨hz, its', _, hv, q⟩
theorem Inv.lnew {its : List Value} {t' : Nat} (I : Inv X pins σ H s) (hv : Vals ys its) (hz : ys.length ≤ sizeLine) :
    Inv X pins σ (upd H s.heap.objs.size (.lst ys)) { s with heap := s.heap.push { cls := .type "list", data := .seq its.toArray }, toks := t' } :=
  I.laid (fun _ _ q => Heap.get?_push_of_some _ q) (Nat.le_refl _) ⟨hz, its, 0, hv, Heap.get?_push_size _ rfl⟩
theorem Inv.fresh (I : Inv X pins σ H s) : H s.heap.objs.size = none := I.hok.fresh (Nat.le_refl _)
theorem Inv.lstM (I : Inv X pins σ H s) (hH : H l = some (.lst xs)) : xs.length ≤ sizeLine ∧ ∃ (its : List Value) (n : Nat), Vals xs its ∧ xs.length = its.length ∧ s.heap.get? l = some { cls := .type "list", data := .seq its.toArray n } := by
  obtain ⟨z, its, n, r, e⟩ := I.hok l _ hH
  exact ⟨z, its, n, r, r.length, e⟩

theorem notLongL {n : Nat} (h : n ≤ sizeLine) : Builtin.List.listTooLong n = false := by
  unfold Builtin.List.listTooLong
  exact decide_eq_false (by omega)
end

section
variable {X : Cx}

/-! ### methods -/
def rAppend : V → List V → Hp → VK → Prop := fun x vs H Q => ∃ l xs y, x = .ref l ∧ vs = [y] ∧ H l = some (.lst xs) ∧ xs.length < sizeLine ∧ Q .non (upd H l (.lst (xs ++ [y])))
theorem mt_append : MtM X "list.append" rAppend := by
  intro pins s σ H x vs v us Q I rx rv h
  obtain ⟨l, xs, y, rfl, rfl, hH, hz, q⟩ := h
  cases rx
  obtain ⟨u, rfl, ru⟩ := rv.one
  obtain ⟨z, its, n, r, hl, e⟩ := I.lstM hH
  refine call_meets F.slot_list_append ⟨_, e, rfl⟩ F.entry_list_append (F.args_list_append_2 _ _) (PySem.list_append l its.toArray n u (by rw [List.size_toArray]; omega)) ⟨e, ?_⟩
  refine ⟨.non, _, I.lset (its' := its ++ [u]) hH e (by simp) (r.append (.cons ru .nil)) ?_, rfl, q⟩
  rw [List.length_append, List.length_singleton]
  omega

def rExtend : V → List V → Hp → VK → Prop := fun x vs H Q => ∃ l b xs zs, x = .ref l ∧ vs = [.ref b] ∧ H l = some (.lst xs) ∧ H b = some (.lst zs) ∧ xs.length + zs.length ≤ sizeLine ∧ Q .non (upd H l (.lst (xs ++ zs)))
theorem mt_extend : MtM X "list.extend" rExtend := by
  intro pins s σ H x vs v us Q I rx rv h
  obtain ⟨l, b, xs, zs, rfl, rfl, hH, hB, hz, q⟩ := h
  cases rx
  obtain ⟨u, rfl, ru⟩ := rv.one
  cases ru
  obtain ⟨z, its, n, r, hl, e⟩ := I.lstM hH
  obtain ⟨z2, its2, n2, r2, hl2, e2⟩ := I.lstM hB
  have hsz : its.toArray.size + its2.toArray.size ≤ sizeLine := by rw [List.size_toArray, List.size_toArray]; omega
  have hlong : ¬ (!its.toArray.isEmpty && Builtin.List.listTooLong (its.toArray.size + its2.toArray.size)) = true := by
    rw [notLongL hsz, Bool.and_false]
    exact Bool.false_ne_true
  refine call_meets F.slot_list_extend ⟨_, e, rfl⟩ F.entry_list_extend (F.args_list_extend_2 _ _)
    (AutoSeq1.list_extend_list_list_0 l its.toArray n b its2.toArray n2 hlong (by rw [List.size_toArray]; omega) (by omega)) ⟨e, e2, ?_⟩
  refine ⟨.non, _, I.lset (its' := its ++ its2) hH e (by simp) (r.append r2) ?_, rfl, q⟩
  rw [List.length_append]
  omega

/-! ### list + list, list += list, list * int -/
def rCat : R2 := fun x y H Q => ∃ l b xs zs, x = .ref l ∧ y = .ref b ∧ H l = some (.lst xs) ∧ H b = some (.lst zs) ∧ xs.length + zs.length ≤ sizeLine ∧ ∀ p, H p = none → Q (.ref p) (upd H p (.lst (xs ++ zs)))
theorem op_cat : OpR X (binaryOp .Add) rCat := by
  intro pins s σ H x y v u Q I rx ry h
  obtain ⟨l, b, xs, zs, rfl, rfl, hH, hB, hz, q⟩ := h
  cases rx
  cases ry
  obtain ⟨z, its, n, r, hl, e⟩ := I.lstM hH
  obtain ⟨z2, its2, n2, r2, hl2, e2⟩ := I.lstM hB
  refine PySem.P.add_list e e2 ?_ (by rw [List.size_toArray, List.size_toArray]; omega)
  have ea : its.toArray ++ its2.toArray = (its ++ its2).toArray := by simp
  rw [ea]
  exact ⟨.ref _, _, I.lnew (t' := s.toks) (r.append r2) (by rw [List.length_append]; omega), rfl, q _ I.fresh⟩
/-- a list times an int (a negative one is nothing) -/
def rRep : R2 := fun x y H Q => ∃ l k xs, x = .ref l ∧ y = .int k ∧ H l = some (.lst xs) ∧ -(2 ^ 63) ≤ k ∧ k < 2 ^ 63 ∧ xs.length * k.toNat ≤ sizeLine ∧
  ∀ p, H p = none → Q (.ref p) (upd H p (.lst (List.replicate k.toNat xs).flatten))
theorem len_rep {α : Type} (xs : List α) (k : Nat) : (List.replicate k xs).flatten.length = k * xs.length := by
  induction k with
  | zero => simp
  | succ k ih => rw [List.replicate_succ, List.flatten_cons, List.length_append, ih, Nat.succ_mul, Nat.add_comm]
theorem op_rep : OpR X (binaryOp .Mult) rRep := by
  intro pins s σ H x y v u Q I rx ry h
  obtain ⟨l, k, xs, rfl, rfl, hH, h1, h2, hz, q⟩ := h
  cases rx
  obtain ⟨t, rfl⟩ := ry
  obtain ⟨z, its, n, r, hl, e⟩ := I.lstM hH
  have hlen : its.toArray.size * k.toNat ≤ sizeLine := by rw [List.size_toArray, ← hl]; exact hz
  have hcap : ¬ its.toArray.size * k.toNat > (2 ^ 63 - 1) / 8 := by
    have : (sizeLine : Nat) ≤ (2 ^ 63 - 1) / 8 := by decide
    omega
  have hfit : ¬ (!Builtin.List.listFitsIndex k) = true := by
    rw [fitsIndex_both h1 h2]
    exact Bool.false_ne_true
  have hlong : ¬ Builtin.List.listTooLong (its.toArray.size * k.toNat) = true := by
    rw [notLongL hlen]
    exact Bool.false_ne_true
  have hnew : List.foldl (fun x1 x2 => x1 ++ x2) #[] (List.replicate (if its.toArray.isEmpty = true then 0 else k.toNat) its.toArray) = (List.replicate k.toNat its).flatten.toArray := by
    have f0 : ∀ m : Nat, List.foldl (fun x1 x2 => x1 ++ x2) #[] (List.replicate m its.toArray) = (List.replicate m its).flatten.toArray := fun m => by
      have := foldl_rep its m []
      rw [List.nil_append] at this
      exact this
    rw [f0]
    cases its with
    | nil => simp
    | cons a r' => rw [if_neg (by simp)]
  refine wpAny_binaryOp_repeat_ref (T := "list") (U := "int") (by decide) ⟨_, e, rfl⟩ (fun s' => typeIs_int s' k t) noFill_list_mul F.fills_int_mul F.slot_int_rmul repeat_list F.slot_int_index.lookup
    (call_meets F.slot_int_rmul (typeIs_int s k t) F.entry_int_rmul (F.args_int_rmul_2 _ _) (int___rmul___int_list k t l its.toArray n)
      ⟨e, rfl, ⟨_, e, rfl⟩, call_meets F.slot_list_mul ⟨_, e, rfl⟩ F.entry_list_mul (F.args_list_mul_2 _ _) (AutoListH.list___mul___list_int_3 l its.toArray n k t hfit hcap hlong) ⟨e, ?_⟩⟩)
  rw [hnew]
  exact ⟨.ref _, _, I.lnew (t' := s.toks) (r.rep k.toNat) (by rw [len_rep, Nat.mul_comm]; exact hz), rfl, q _ I.fresh⟩

/-! ### del xs[i] -/
end

/-! ### xs[a:b] = ys -/
section
variable {prog : Program} {w : World} {A : Around} {E : Value → Shared → Prop} {s : Shared}
end

section
variable {X : Cx}
end
end L2

namespace Att
open PySem PySem.W PySem.Calls PyProof.Rows

/-! ### the script -/
theorem ints_of_wellAll {P : Params} {h : Heap} : ∀ (ns : List Int) (vs : List Value), WellAll P h vs (ns.map WData.int) → IntsAre vs ns := by
  intro ns
  induction ns with
  | nil =>
    intro vs w
    rw [List.map_nil] at w
    cases w
    exact .nil
  | cons n ns ih =>
    intro vs w
    rw [List.map_cons] at w
    cases w with
    | cons a b =>
      cases a
      exact .cons _ _ (ih _ b)

theorem script_of {l : OpenLaw} {n : Nat} (hn : l.most = some n) {P : Params} {h : Heap} {args : List WData} {vals : List Value}
    (hpre : l.row.toRowW.claim.pre args = true) (hwl : WellAll P h vals args) :
    ∃ a vs ns, vals = [Value.ref a] ∧ args = [WData.list (ns.map WData.int)] ∧ h.get? a = some { cls := .type "list", data := .seq vs.toArray } ∧ IntsAre vs ns ∧ ns.length ≤ n := by
  have hsh : WShape.hasAll [] args [.list .int] = true := (pre_splitW hpre).1
  have hc : l.pre.holds [] { args := args } = true := (pre_splitW hpre).2
  obtain ⟨d, r, rfl, h1, h2⟩ := hasAllW_cons hsh
  obtain rfl := hasAllW_nil h2
  obtain ⟨xs, rfl, h3⟩ := hasW_list h1
  obtain ⟨ns, rfl⟩ := items_int h3
  have hlen : ns.length ≤ n := by
    unfold OpenLaw.pre at hc
    have h4 : (WTm.not (.lt (.lit (.int (n : Int))) (.len (.arg 0)))).holds [] { args := [.list (ns.map .int)] } = true := by
      have h4 := (holds_andW hc).1
      rw [hn] at h4
      exact h4
    have h5 := condW_of h4 (w_not (w_lt w_lit (w_len_list (w_arg rfl))))
    rw [List.length_map] at h5
    refine Nat.le_of_not_lt fun q => ?_
    have q' : (n : Int) < ((ns.length : Nat) : Int) := by omega
    first
      | (rw [decide_eq_true q'] at h5; exact absurd h5 (by decide))
      | (simp at h5; omega)
  cases hwl with
  | cons w1 w2 =>
    cases w2
    cases w1 with
    | list ho hall => exact ⟨_, _, ns, rfl, rfl, ho, ints_of_wellAll ns _ hall, hlen⟩

theorem post_true (l : OpenLaw) (args : List WData) : l.row.toRowW.claim.post args (.bool true) args = true :=
  postW_of (r := l.row.toRowW) (X := (true == true))
    (show WShape.has [] (.bool true) .bool = true by first | rfl | decide | simp [WShape.has, WShape.arms, WShape.armsAll])
    (show (WTm.eq .res (.lit (.bool true))).value [] { args := args, res := some (.bool true), after := args } = some (.bool (true == true)) from w_eq_bool (w_res rfl) w_lit) rfl

/-! ### the attachment: holds_open's last premise (the goal 'hc' behind k_head) from a wpAny of the law's body -/
/-- the same from a codeAny of the CALL (for a layer whose function contracts speak of calls) -/
theorem attach_call {l : OpenLaw} {n : Nat} {q : Program} {loose : List Str} {XP : (Str → Option Value) → Heap → Prop} {YP : World → Heap → Prop} {d : DefRec}
    (hn : l.most = some n) (hdf : d.params.defaults = [])
    (call : ∀ (w : World) (s₀ s₁ : Shared) (mg mb : Str → Option Value) (fa : Addr) (o : Obj) (pm cd doc : Value) (a : Addr) (vs : List Value) (ns : List Int),
      Ground q loose [] XP w s₀ mg mb s₁.heap → YP w s₁.heap →
      s₁.heap.get? fa = some o → o.data = .func (docDef d.name d.params d.body d.scope pm cd doc) → s₁.heap.CodeRec cd d.name → mg d.name = some (.ref fa) →
      s₁.heap.get? a = some { cls := .type "list", data := .seq vs.toArray } → IntsAre vs ns → ns.length ≤ n → s₁.gens = #[] →
      codeAny (model l.prog w) callerA (.call (.ref fa) ⟨[.ref a], []⟩) (fun r s' => r = .ok (.ret (.bool true)) ∧ OldK s₁.heap s'.heap ∧ s'.os = s₁.os ∧ AllBare s'.gens) s₁) :
    WalkO q loose XP YP l.row.toRowW d [] (fun f vs => PySem.call f vs) := by
  intro w s₀ s₁ mg mb G Y fa o pm cd doc dV kV ho hd hcd hD hmg hg args vals as hpre hlay hrd hwl hlo
  obtain rfl : dV = .none := Dflts.none hD hdf
  obtain rfl : kV = .none := Dflts.noKw hD
  obtain ⟨a, vs, ns, rfl, rfl, hobj, hints, hlen⟩ := script_of hn hpre hwl
  refine enter_call (codeAny_mono (call w s₀ s₁ mg mb fa o pm cd doc a vs ns G Y ho (fd_plain hd) hcd hmg hobj hints hlen hg) fun r s' hq => ?_)
  obtain ⟨rfl, h2, h3, h4⟩ := hq
  exact ⟨.inl ⟨.bool true, .bool true, [], rfl, fun _ => rfl, .bool true, post_true l _, fun _ => ⟨List.Pairwise.nil, fun _ hm => (nomatch hm)⟩⟩, h2, h3, h4⟩

/-! ### rules over ANY heap (no ledger) from facts about the written part K: the library's own take a ledger (News) for what they write -/
section
variable {prog : Program} {w : World} {A : Around} {E : Value → Shared → Prop} {s : Shared} {K : Frag}

/-! the whole heap as the ledger: makes every rule that writes through a ledger a rule over any heap -/
def ledger (h : Heap) (L d : Addr) : List (Addr × Obj) := (List.range h.objs.size).filterMap fun a => if a = L ∨ a = d then none else (h.get? a).map fun o => (a, o)
end
end Att

namespace L2
open PySem PySem.Spec PyProof.Rows

theorem vals_ints : ∀ {vs : List Value} {ns : List Int}, IntsAre vs ns → Vals (ns.map V.int) vs
  | _, _, .nil => .nil
  | _, _, .cons n t h => .cons ⟨t, rfl⟩ (vals_ints h)

/-- nothing is tracked but the script, known to the object (or it is an object of the module) -/
def Only (H : Hp) : Prop := ∀ b, H b = none ∨ ∃ o xs, H b = some (.frz o (.lst xs))

/-- THE HEAD: the law's promise, at the heap behind the top. F, the promise of the law's def, may use that base is part of the heap (so K.In base, base.Ns mainGlobals mg stand in Mod) -/
theorem law_call {P : Program} {w : World} {K : PySem.W.Frag} {mg mb : Str → Option Value} {CX : CXT} {k : Nat} {fa a : Addr} {fd : FuncData} {x : Str} {sp : Sp} {s₁ : Shared} {vs : List Value} {ns : List Int}
    (KX : K.In s₁.heap) (hns : s₁.heap.Ns mainGlobals mg) (hb : s₁.heap.Ns builtinsNs mb) (hbb : ∀ x : Str, x ≠ "__name__" → mb x = bootBuiltins x) (hlim : s₁.heap.NoLimit) (hg : s₁.gens = #[])
    (ha : s₁.heap.get? a = some { cls := .type "list", data := .seq vs.toArray }) (hi : IntsAre vs ns) (hl : ns.length ≤ sizeLine) (hr : Room k callerA)
    (F : ∀ base : Heap, K.In base → base.Ns mainGlobals mg → FnOk P w K mg base CX k fa fd [x] sp) (hbind : ∀ (s : Shared) (u : Value), BindsTo s fd ⟨[u], []⟩ [(x, u)])
    (hsp : ∀ H : Hp, Only H → SqL K H a (ns.map V.int) → sp [.ref a] H (fun v _ => v = .bl true) fun _ _ _ => False)
    (hCX : ∀ H e s', CX [] H s₁ (fun _ _ _ => False) e s' → False) :
    codeAny (model P w) callerA (.call (.ref fa) ⟨[.ref a], []⟩) (fun r s' => r = .ok (.ret (.bool true)) ∧ OldK s₁.heap s'.heap ∧ s'.os = s₁.os ∧ AllBare s'.gens) s₁ := by
  have rv := vals_ints hi
  have lenV := hi.length
  -- from an abstract heap in which nothing but the script may be tracked
  have core : ∀ H : Hp, Only H → SqL K H a (ns.map V.int) → HOk P w H s₁.heap → (∀ b, H b ≠ none → b = a) → (H a ≠ none → K.lookup a = none) →
      codeAny (model P w) callerA (.call (.ref fa) ⟨[.ref a], []⟩) (fun r s' => r = .ok (.ret (.bool true)) ∧ OldK s₁.heap s'.heap ∧ s'.os = s₁.os ∧ AllBare s'.gens) s₁ := by
    intro H hO hS hok hA hK
    have base_of : ∀ {b : Addr} {o : Obj}, s₁.heap.get? b = some o → H b = none → (hidT s₁.heap H).get? b = some o := fun e n => hidT_get e n
    have noA : ∀ {b : Addr} {o : Obj} {es : Array DictEntry} {ep : Nat}, s₁.heap.get? b = some o → o.data = .dict es ep → H b = none := fun {b o es ep} e d => by
      cases q : H b with
      | none => rfl
      | some u =>
        have e' : b = a := hA b (by rw [q]; simp)
        subst e'
        rw [ha] at e; cases e
        have d' : Data.seq vs.toArray _ = Data.dict es ep := d
        cases d'
    have nsK : ∀ {b : Addr} {m : Str → Option Value}, s₁.heap.Ns b m → (hidT s₁.heap H).Ns b m := fun {b m} ⟨o, es, ep, e, d, r⟩ => ⟨o, es, ep, base_of e (noA e d), d, r⟩
    have hKb : K.In (hidT s₁.heap H) := fun b o e => base_of (KX b o e) (by
      cases q : H b with
      | none => rfl
      | some u =>
        have e' : b = a := hA b (by rw [q]; simp)
        subst e'
        rw [hK (by rw [q]; simp)] at e; cases e)
    have hM : Mod K mg (hidT s₁.heap H) := ⟨hKb, nsK hns, ⟨mb, nsK hb, hbb⟩, let ⟨mc, h1, h2⟩ := hlim; ⟨mc, nsK h1, h2⟩⟩
    have e0 : Env0 P w K mg (hidT s₁.heap H) callerA [] s₁ H := ⟨rfl, hM, fun b o e => of_hidT e, Nat.le_of_eq (hidT_size _ _), trivial, fun b hb => absurd (show b ∈ ([] : List Addr) from hb) (by simp), hok, .of_eq hg⟩
    refine codeAny_mono ((F _ hKb (nsK hns)).run callerA [] s₁ H ⟨[.ref a], []⟩ [.ref a] [.ref a] _ _ hr e0 (hbind s₁ (.ref a)) (.cons rfl .nil) (hsp H hO hS)) fun r s' h => ?_
    cases r with
    | error e => exact (hCX H e s' h).elim
    | ok fl =>
      cases fl with
      | next => exact False.elim h
      | brk => exact False.elim h
      | cont => exact False.elim h
      | ret u =>
        obtain ⟨v, H', os, bare, un, hok', r', q⟩ := h
        have q' : v = .bl true := q
        subst q'
        obtain rfl : u = Value.bool true := r'
        refine ⟨rfl, OldK.of_keep fun b o e => ?_, os, bare⟩
        cases q : H b with
        | none => exact un.keep b o e q (by intro z; exact absurd (show b ∈ ([] : List Addr) from z) (by simp)) (by simp)
        | some u =>
          rcases hO b with z | ⟨ob, xs, z⟩
          · rw [q] at z; cases z
          · have z2 := un.frzs b ob _ z
            obtain ⟨e1, _⟩ := hok b _ z
            obtain ⟨e2, _⟩ := hok' b _ z2
            rw [e] at e1; cases e1
            exact e2
  cases hk : K.lookup a with
  | some o =>
    -- the script is one of the module's own objects
    have e := KX a o hk
    rw [ha] at e
    cases e
    refine core (fun _ => none) (fun _ => .inl rfl) (.inr ⟨_, vs.toArray, _, hk, rfl, rfl, rfl, by rw [List.size_toArray, lenV]; exact hl, by simpa using rv⟩) (fun b u z => by have z' : (none : Option HO) = some u := z; cases z') (fun b z => absurd rfl z) fun z => absurd rfl z
  | none =>
    refine core (fun b => if b = a then some (.frz { cls := .type "list", data := .seq vs.toArray } (.lst (ns.map V.int))) else none) (fun b => ?_) (.inl (.inr ⟨{ cls := .type "list", data := .seq vs.toArray }, if_pos rfl⟩)) (fun b u z => ?_) (fun b z => ?_) fun _ => hk
    · by_cases hb : b = a
      · exact .inr ⟨_, _, if_pos hb⟩
      · exact .inl (if_neg hb)
    · by_cases hb : b = a
      · have z' := (if_pos hb).symm.trans z
        cases z'
        subst hb
        exact ⟨ha, by rw [List.length_map]; exact hl, vs, _, rv, ha⟩
      · have z' := (if_neg hb).symm.trans z
        cases z'
    · by_cases hb : b = a
      · exact hb
      · exact absurd (if_neg hb) z
end L2

namespace L2
open PySem PySem.Spec PyProof.Rows

abbrev KOf {K : PySem.W.Frag} {h : Heap} (_ : K.In h) : PySem.W.Frag := K

/-- the goal that k_head leaves (case hc), from the law's promise. F gives the function object fd (K's own) once, then the promise over every base -/
theorem walk_of {l : PySem.W.OpenLaw} {n k : Nat} {q : Program} {loose : List Str} {XP : (Str → Option Value) → Heap → Prop} {YP : World → Heap → Prop} {d : DefRec} {K : Params → PySem.W.Frag} {CX : World → CXT} {sp : World → Sp} {x : Str}
    (hn : l.most = some n) (hn2 : n ≤ sizeLine) (hdf : d.params.defaults = []) (hr : Room k callerA)
    (hY : ∀ (w : World) (h : Heap), YP w h → (K w.params).In h)
    (F : ∀ (w : World) (mg : Str → Option Value) (fa : Addr) (h : Heap), (K w.params).In h → h.Ns mainGlobals mg → mg d.name = some (.ref fa) →
      ∃ fd : FuncData, (∀ (s : Shared) (u : Value), BindsTo s fd ⟨[u], []⟩ [(x, u)]) ∧
        ∀ base : Heap, (K w.params).In base → base.Ns mainGlobals mg → FnOk l.prog w (K w.params) mg base (CX w) k fa fd [x] (sp w))
    (hsp : ∀ (w : World) (H : Hp) (a : Addr) (ns : List Int), ns.length ≤ n → Only H → SqL (K w.params) H a (ns.map V.int) → sp w [.ref a] H (fun v _ => v = .bl true) fun _ _ _ => False)
    (hCX : ∀ (w : World) (H : Hp) (s : Shared) (e : Value) (s' : Shared), CX w [] H s (fun _ _ _ => False) e s' → False) :
    PySem.W.WalkO q loose XP YP l.row.toRowW d [] (fun f vs => PySem.call f vs) := by
  refine Att.attach_call hn hdf fun w s₀ s₁ mg mb fa o pm cd doc a vs ns G Y ho hd hcd hmg hobj hints hlen hg => ?_
  have KX := hY w _ Y
  obtain ⟨fd, hb, hF⟩ := F w mg fa _ KX G.T.g hmg
  exact law_call KX G.T.g G.T.b G.T.builtins G.T.nolimit hg hobj hints (Nat.le_trans hlen hn2) hr hF hb (fun H hO hS => hsp w H a ns hlen hO hS) fun H e s' => hCX w H s₁ e s'
end L2

/- THE LAST THEOREM (shape; LID, My.* are yours):
   My.Adr: a structure of the addresses that your layer names (classes, functions); My.Txt K t: a structure (Prop) of the equations over K;
   My.txt_mk : {K} {implicit addresses ..} (e1 : nsIn K mainGlobals "law" = some (some (.ref f))) (e2 : K.lookup f = some ⟨oc, od, .func (fnOf "law" "law" params body scope dV kV doc pm an cdv ct), sl⟩) (e3 : codeIn K cdv "law" = true) .. : ∃ t, My.Txt K t

set_option maxRecDepth 100000 in
set_option maxHeartbeats 0 in
theorem PySem.Challenge.cw_LID_holds : PySem.Challenge.rw_LID.Holds := by
  w_on; o_law; k_head; (case hw => w_witness2)
  k_fill
  refine L2.walk_of (l := PySem.Challenge.rw_LID) (n := 63) (k := 40) (x := "script") (CX := fun w => ..) (sp := fun _ => My.sp_law) rfl (by decide) rfl ⟨rfl, by decide, by decide⟩ (fun w h Y => PySem.W.kIn_of Y) ?F ?S ?C
  case F =>
    intro w mg fa h KX G hmg
    have T : ∃ t, My.Txt (L2.KOf KX) t := by
      dsimp only [L2.KOf]                          -- K must stand as «<heap const> w.params» for k_is
      refine' My.txt_mk ?e1 ?e2 ?e3 ..
      (case e1 => PySem.W.k_is)                    -- in the order: a name -> its address -> its object -> its parts
      (case e2 => PySem.W.k_is)
      ..
    obtain ⟨t, T⟩ := T
    have e0 := hmg.symm.trans (PySem.W.mg_of KX G T.law)
    cases e0                                       -- fa is the law's own address
    exact ⟨_, fun s u => .of_eq rfl, fun base kb nb => My.law_fn T kb nb⟩     -- if «.of_eq rfl» comes too early: refine' ⟨_, ?b, fun base kb nb => My.law_fn T kb nb⟩; exact fun s u => .of_eq rfl
  case S => exact fun w H a ns hl hO hS => ..
  case C => exact ..
(the tactic k_is has no namespace: write k_is) -/

/-! SHORT WORDS over the layer: a def of the text, its body, what a loop and a test want. -/
namespace L2
open PySem PySem.Spec PyProof.Rows

/-! ### the text by places -/
def defArgs (s : Stmt) : Arguments := match s with
  | .FunctionDef _ a _ _ _ _ _ _ _ _ => a
  | _ => { posonlyargs := [], args := [], vararg := none, kwonlyargs := [], kw_defaults := [], kwarg := none, defaults := [] }
def defBody (s : Stmt) : List Stmt := match s with
  | .FunctionDef _ _ b _ _ _ _ _ _ _ => b
  | _ => []
def defScope (s : Stmt) : Scope := match s with
  | .FunctionDef _ _ _ _ _ _ sc _ _ _ => sc
  | _ => { kind := .function, names := [], isGenerator := false, isCoroutine := false }

/-! ### no exception leaves a def -/
abbrev CX0 : CXT := fun _ _ _ _ _ _ => False
abbrev E0 : XK := fun _ _ _ => False
theorem pass0 {X : Cx} : Passes CX0 X E0 := fun _ _ _ _ _ _ _ h => h.elim

/-! ### a def (or method) of the text as it stands behind the top -/
structure Fun (K : PySem.W.Frag) (x qual : Str) (st : Stmt) (f : Addr) (fd : FuncData) : Prop where
  ex : ∃ (oc : Value) (od : Option Addr) (kV doc pm : Value) (an : Option Addr) (cdv ct : Value) (osl : Array (Option Value)),
    fd = PySem.W.fnOf x qual (defArgs st) (defBody st) (defScope st) .none kV doc pm an cdv ct ∧ K.lookup f = some ⟨oc, od, .func fd, osl⟩ ∧ PySem.W.codeIn K cdv qual = true
  kp : PySem.W.keepIn K (.ref f) = true
section
variable {P : Program} {w : World} {K : PySem.W.Frag} {mg : Str → Option Value} {base : Heap}
/-- THE RULE for a def: its body as a term of rules, and the reading of that term -/
theorem Fun.ok {x qual : Str} {st : Stmt} {f : Addr} {fd : FuncData} {N ps : List Str} {k : Nat} {sp : Sp} (F : Fun K x qual st f fd) (S : FnScope N ps (defScope st)) (len : ∀ vs H Q E, sp vs H Q E → vs.length = ps.length)
    (hbody : ∀ (cdv : Value) (A : Around) (outer : List Env) (s : Shared) (H : Hp) (vs : List V) (Q : VK) (E : XK), Room k (A.deeper (envOfC qual (defScope st) s.heap.objs.size f cdv)) → sp vs H Q E →
      ∃ t, PSs (cxOf CX0 P w K mg base N qual (defScope st) f cdv A outer s H E).nox (defBody st) t ∧ t { nx := fun _ H' => Q .non H', rt := Q } (start N vs) H) : FnOk P w K mg base CX0 (k + 1) f fd ps sp := by
  obtain ⟨oc, od, kV, doc, pm, an, cdv, ct, osl, rfl, lk, hcd⟩ := F.ex
  refine fn_of lk hcd S len fun A outer s H vs Q E hr hsp => ?_
  obtain ⟨t, h, q⟩ := hbody cdv A outer s H vs Q E hr hsp
  exact ⟨t, h.nox, q⟩
/-- how its arguments bind (no defaults): h is «fun _ _ _ _ _ _ us hl => match us, hl with | [_, _], _ => rfl», one _ a parameter -/
theorem Fun.binds {x qual : Str} {st : Stmt} {f : Addr} {fd : FuncData} {ps : List Str} (F : Fun K x qual st f fd)
    (h : ∀ (kV doc pm : Value) (an : Option Addr) (cdv ct : Value) (us : List Value), us.length = ps.length → bindArgs (PySem.W.fnOf x qual (defArgs st) (defBody st) (defScope st) .none kV doc pm an cdv ct) ⟨us, []⟩ = pure (ps.zip us)) : Binds K fd ps [] := by
  obtain ⟨oc, od, kV, doc, pm, an, cdv, ct, osl, rfl, lk, hcd⟩ := F.ex
  exact .all (h kV doc pm an cdv ct)
theorem fun_mk {x qual : Str} {st : Stmt} {f : Addr} {oc : Value} {od an : Option Addr} {osl : Array (Option Value)} {kV doc pm cdv ct : Value} (l : K.lookup f = some ⟨oc, od, .func (PySem.W.fnOf x qual (defArgs st) (defBody st) (defScope st) .none kV doc pm an cdv ct), osl⟩)
    (c : PySem.W.codeIn K cdv qual = true) (k : PySem.W.keepIn K (.ref f) = true) : Fun K x qual st f (PySem.W.fnOf x qual (defArgs st) (defBody st) (defScope st) .none kV doc pm an cdv ct) := ⟨⟨oc, od, kV, doc, pm, an, cdv, ct, osl, rfl, l, c⟩, k⟩
end
/-! ### expressions in short: the name that stands in the i-th slot -/
section
variable {X : Cx}
theorem pv (i : Nat) {x : Str} {pos : Pos} (hN : X.N[i]? = some x := by rfl) (hv : Vis X.env.scope x := by first | exact Or.inl rfl | exact Or.inr (Or.inl rfl) | exact Or.inr (Or.inr rfl)) (hd : (x == ("__debug__" : Str)) = false := by decide)
    (hcd : (x == ("__classdict__" : Str)) = false := by decide) : PE X (.Name x pos) (tVar i) := pe_var hN hv hd hcd
end

/-! ### tests -/
theorem iteF {A B : Prop} (h : B) : if false = true then A else B := by
  rw [if_neg Bool.false_ne_true]
  exact h
theorem iteT {A B : Prop} (h : A) : if true = true then A else B := by
  rw [if_pos rfl]
  exact h
theorem ite2 {c A B : Prop} [Decidable c] (h1 : c → A) (h2 : ¬ c → B) : if c then A else B := by
  by_cases h : c
  · rw [if_pos h]
    exact h1 h
  · rw [if_neg h]
    exact h2 h
theorem iteNS {c A B : Prop} [Decidable c] (hc : c) (h : B) : if (!decide c) = true then A else B := by
  rw [decide_eq_true hc]
  exact iteF h

/-! ### heaps -/
/-- all that was tracked is as it was -/
def Same (H H' : Hp) : Prop := ∀ b o, H b = some o → H' b = some o
theorem Same.refl (H : Hp) : Same H H := fun _ _ h => h
theorem Same.trans {H H1 H2 : Hp} (a : Same H H1) (b : Same H1 H2) : Same H H2 := fun c o h => b c o (a c o h)
theorem Same.free {H H' : Hp} (e : Same H H') {l : Addr} (h : H' l = Option.none) : H l = Option.none := by
  cases q : H l with
  | none => rfl
  | some o =>
    rw [e l o q] at h
    cases h
theorem Same.seq {K : PySem.W.Frag} {H H' : Hp} {a : Addr} {xs : List V} (e : Same H H') (h : SqL K H a xs) : SqL K H' a xs := by
  rcases h with (h | ⟨o, h⟩) | h
  · exact .inl (.inl (e _ _ h))
  · exact .inl (.inr ⟨o, e _ _ h⟩)
  · exact .inr h

end L2

set_option Elab.async false
set_option linter.all false
set_option maxRecDepth 100000
set_option maxHeartbeats 4000000
/-! MORE RULES over the hand layer: isinstance, is, all, insert, tuples repeated and joined, comprehensions. -/
namespace L2
open PySem PySem.Spec PyProof.Rows

/-! ### isinstance, is -/
def rIsi (K : PySem.W.Frag) : List V → Hp → VK → Prop := fun xs H Q => ∃ x T t b, xs = [x, .ty T] ∧ TyOf K H x t ∧ PySem.W.kitOne K t (.type T) = some b ∧ Q (.bl b) H
section
variable {X : Cx}
theorem call_isi : CallR X (.builtin "isinstance") (rIsi X.K) := by
  intro pins s σ H xs us Q I r h
  obtain ⟨x, T, t, b, rfl, ty, e, q⟩ := h
  obtain ⟨u, w', rfl, rx, rT⟩ := vals2 r
  cases (show w' = Value.type T from rT)
  exact isinst_ok I rx ty e fun tk => ⟨.bl b, H, I.tok _, rfl, q⟩
/-! ### all(..) of a list of bools -/
theorem vals_bl : ∀ {bs : List Bool} {us : List Value}, Vals (bs.map V.bl) us → us = bs.map Value.bool
  | [], _, r => by rw [List.map_nil] at r; cases r; rfl
  | b :: bs, _, r => by
    rw [List.map_cons] at r
    cases r with
    | cons r1 r2 =>
      cases (show _ = Value.bool b from r1)
      rw [vals_bl r2]
      rfl
/-! ### xs.insert(i, y) -/
/-! ### () + u -/
end
end L2

set_option Elab.async false
set_option linter.all false
set_option maxRecDepth 100000
set_option maxHeartbeats 4000000
/-! COMPREHENSIONS over the hand layer. -/
namespace L2
open PySem PySem.Spec PyProof.Rows

/-- the slots of a comprehension's names at its start: those seen from outside have their values -/
def pick (js : List (Option Nat)) (σ : St) : St := js.map fun o => o.bind fun j => (σ[j]?).join
theorem pick_get {js : List (Option Nat)} {σ : St} {i : Nat} {v : V} (h : (pick js σ)[i]? = some (some v)) : ∃ j, js[i]? = some (some j) ∧ σ[j]? = some (some v) := by
  unfold pick at h
  rw [List.getElem?_map] at h
  cases e : js[i]? with
  | none => rw [e] at h; cases h
  | some o =>
    rw [e] at h
    have h' : (o.bind fun j => (σ[j]?).join) = some v := Option.some.inj h
    cases o with
    | none => cases h'
    | some j =>
      refine ⟨j, rfl, ?_⟩
      have h2 : (σ[j]?).join = some v := h'
      cases e2 : σ[j]? with
      | none => rw [e2] at h2; cases h2
      | some q =>
        rw [e2] at h2
        have h3 : q = some v := h2
        rw [h3]
structure CompOk (X : Cx) (scope : Scope) (cl : List (Str × Addr)) (N : List Str) (js : List (Option Nat)) : Prop where
  clos : closureFor scope X.env = pure cl
  nocell : ∀ y ∈ scope.names, y.2 ≠ .cell
  kind : scope.kind = .function
  names : ∀ y ∈ scope.names, y.2 = .local → scope.names.lookup y.1 = some .local
  sub : ∀ x c, cl.lookup x = some c → X.env.cells.lookup x = some c
  has : ∀ x, ((relabel scope X.env).names.lookup x = some .cell ∨ (relabel scope X.env).names.lookup x = some .free) → ∃ c, cl.lookup x = some c
  len : js.length = N.length
  seen : ∀ (i j : Nat) (x : Str), N[i]? = some x → js[i]? = some (some j) → X.N[j]? = some x ∧ X.env.scope.names.lookup x = some .cell ∧ ((relabel scope X.env).names.lookup x = some .cell ∨ (relabel scope X.env).names.lookup x = some .free)

abbrev compCx (X : Cx) (scope : Scope) (cl : List (Str × Addr)) (N : List Str) (fp : List Addr) (pins : List (Addr × Obj)) (s : Shared) (H : Hp) (E : Value → Shared → Prop) : Cx :=
  { X with N := N, s₀ := s, H₀ := H, env := compEnvC scope cl s.heap.objs.size X.env, outer := X.stack, ex := fp, fn := fun _ => false, pn := X.pn ++ pins, xe := E }

/-- what a comprehension asks behind its source -/
def CompW (J : It) (D : Addr) (js : List (Option Nat)) (g : TG) (tc : TT) (te : TE) (σ : St) (H1 : Hp) (Q : VK) : Prop :=
  ∃ W : Nat → Nat → St → Hp → List V → Prop, (∃ m, W 0 m (pick js σ) (upd H1 D (.lst [])) []) ∧ ∀ i m σ' H' ys, W i m σ' H' ys → H' D = some (.lst ys) ∧
    ((J.stop i H' ∧ Q (.ref D) H') ∨ (J.go i H' ∧ ys.length < sizeLine ∧ ∃ N : St → Hp → List V → Prop, (∀ σ2 H2 zs, N σ2 H2 zs → ∃ m', m' < m ∧ W (i + 1) m' σ2 H2 zs) ∧ ∀ x H2, J.yld i H' x H2 → g x σ' H2 fun σ2 H3 => tc σ2 H3 fun k H5 =>
      if k = true then te σ2 H5 fun y H4 => H4 D = some (.lst ys) ∧ N σ2 (upd H4 D (.lst (ys ++ [y]))) (ys ++ [y]) else H5 D = some (.lst ys) ∧ N σ2 H5 ys))
/-- the reading of [e for tg in iter]: D is the new list -/
def tComp (js : List (Option Nat)) (wi : TI) (g : TG) (tc : TT) (te : TE) : TE := fun σ H Q => wi σ H fun J H1 => ∀ D, H1 D = none → CompW J D js g tc te σ H1 Q
/-- the tests behind a comprehension's for -/
def PTs (X : Cx) (cs : List Expr) (t : TT) : Prop :=
  ∀ (pins : List (Addr × Obj)) (s : Shared) (σ : St) (H : Hp) (Q : Bool → Hp → Prop), Inv X pins σ H s → t σ H Q →
    wpAny (model X.prog X.w) X.A (forIn cs true fun c r => if r = true then do let ok ← isTrue c X.env (eval c X.env); pure (ForInStep.yield ok) else pure (ForInStep.yield r)) (TP X pins σ Q) X.xe s
def tNoTest : TT := fun _ H Q => Q true H
theorem pts_nil {X : Cx} : PTs X [] tNoTest := fun _ _ _ H _ I h => wpAny_tests_nil ⟨H, I, h⟩
section
variable {prog : Program} {w : World} {A : Around} {R : Result → Shared → Prop} {s : Shared}
/-- the loop of a comprehension with one for -/
theorem loop_go {elt tg iter : Expr} {cs : List Expr} {scope : Scope} {pos : Pos} {it acc : Value} {env : Env} (J : Nat → Shared → Prop)
    (turn : ∀ n s', J n s' → wpAny (model prog w) A (pyNext it) (fun r t1 => match r with
      | none => R (.ok .next) t1
      | some v => wpAny (model prog w) A (letOwnedTupleGo tg it v) (fun _ t2 => wpAny (model prog w) A (assign tg env v) (fun _ t3 =>
          wpAny (model prog w) A (forIn cs true fun c r => if r = true then do let ok ← isTrue c env (eval c env); pure (ForInStep.yield ok) else pure (ForInStep.yield r)) (fun ok t4 =>
            if ok = true then wpAny (model prog w) A (eval elt env) (fun x t5 => wpAny (model prog w) A (call (.builtin "list.append") [acc, x]) (fun _ t6 => ∃ m, m < n ∧ J m t6)
              (notedBy (model prog w) A env fun e s'' => R (.error e) s'') t5) (notedBy (model prog w) A env fun e s'' => R (.error e) s'') t4
            else ∃ m, m < n ∧ J m t4) (notedBy (model prog w) A env fun e s'' => R (.error e) s'') t3) (notedBy (model prog w) A env fun e s'' => R (.error e) s'') t2) (notedBy (model prog w) A env fun e s'' => R (.error e) s'') t1)
        (notedBy (model prog w) A env fun e s'' => R (.error e) s'') s')
    (n : Nat) (h : J n s) : codeAny (model prog w) A (.compLoop (.ListComp elt [⟨tg, iter, cs, 0⟩] scope pos) 0 it acc env) R s := by
  refine codeAny_loop rfl J (fun n s' hJ => ?_) n h
  show wpAny _ A ((compTurn (.ListComp elt [⟨tg, iter, cs, 0⟩] scope pos) 0 it acc env).onRaise (fun z => do noteFrame z env; theTreesLotGoes z)) _ _ s'
  refine wpAny_noted ?_
  rw [compTurn_list]
  refine wpAny_bind (wpAny_standAt (wpAny_bind (thn (turn n s' hJ) fun r t1 k1 => ?_)))
  cases r with
  | none => exact wpAny_pure k1
  | some v =>
    refine wpAny_bind (thn k1 fun _ t2 k2 => wpAny_bind (thn k2 fun _ t3 k3 => wpAny_bind (thn k3 fun ok t4 k4 => ?_)))
    cases ok with
    | false => exact wpAny_pure ⟨rfl, k4⟩
    | true => exact wpAny_bind (wpAny_bind (thn k4 fun x t5 k5 => wpAny_bind (thn k5 fun _ t6 k6 => wpAny_pure (wpAny_pure ⟨rfl, k6⟩))))
end

theorem noEx {M : Model} {A : Around} {α : Type} {t : Sem α} {Q : α → Shared → Prop} {E E' : Value → Shared → Prop} {s : Shared} (hE : ∀ e s', E e s' → False) (h : wpAny M A t Q E s) : wpAny M A t Q E' s := wpAny_mono h (fun _ _ q => q) fun e s' z => (hE e s' z).elim

theorem pe_comp {X : Cx} {elt tg iter : Expr} {cs : List Expr} {scope : Scope} {pos : Pos} {cl : List (Str × Addr)} {N : List Str} {js : List (Option Nat)} {wi : TI} {g : TG} {tc : TT} {te : TE}
    (C : CompOk X scope cl N js) (hc : X.calm = true) (hi : PI X tg iter wi)
    (hg : ∀ fp pins s H, PG (compCx X scope cl N fp pins s H fun _ _ => False) tg g)
    (ht : ∀ fp pins s H, PTs (compCx X scope cl N fp pins s H fun _ _ => False) cs tc)
    (he : ∀ fp pins s H, PE (compCx X scope cl N fp pins s H fun _ _ => False) elt te)
    (hs : ∀ x, foldedSetIterable iter X.env x = pure x := by intro _; rfl) : PE X (.ListComp elt [⟨tg, iter, cs, 0⟩] scope pos) (tComp js wi g tc te) := by
  intro pins s σ H Q I h
  rw [eval_ListComp]
  refine wpAny_comprehension_free (use := none) rfl hs C.clos C.kind C.names (thn (hi pins s σ H _ I h) fun xv s1 h1 => thn h1 fun itv s2 h2 => ?_)
  obtain ⟨it, fp, tn, J, H2, e, I2, T, st2, f2, h2⟩ := h2
  subst e
  obtain ⟨W, ⟨m0, w0⟩, turn⟩ := h2 s2.heap.objs.size I2.fresh
  refine wpAny_newObj_type (wpAny_newFunctionEnv C.nocell (by intro y hy; simp at hy) (fun h4 ns4 sb4 => ?_) C.kind)
  -- the state behind the new list
  have I3 : Inv X pins σ (upd H2 s2.heap.objs.size (.lst [])) { s2 with heap := s2.heap.push { cls := .type "list", data := .seq ([] : List Value).toArray } } := I2.lnew (t' := s2.toks) (its := []) .nil (Nat.zero_le _)
  dsimp only at ns4 sb4 ⊢
  generalize e3 : ({ s2 with heap := s2.heap.push { cls := .type "list", data := .seq ([] : List Value).toArray } } : Shared) = s3 at I3
  have e3h : s2.heap.push { cls := .type "list", data := .seq ([] : List Value).toArray } = s3.heap := by rw [← e3]
  have e3g : s2.gens = s3.gens := by rw [← e3]
  have e3o : s2.os = s3.os := by rw [← e3]
  rw [e3h] at ns4 sb4 ⊢
  generalize eH : upd H2 s2.heap.objs.size (.lst []) = H3 at I3 w0
  have hD : s2.heap.objs.size < s3.heap.objs.size := by rw [← e3h, Heap.size_push]; exact Nat.lt_succ_self _
  have up3 : ∀ b o, s2.heap.get? b = some o → s3.heap.get? b = some o := fun b o q => by rw [← e3h]; exact Heap.get?_push_of_some _ q
  have up4 : ∀ b o, s3.heap.get? b = some o → h4.get? b = some o := fun b o q => sb4.extBut b o (Nat.ne_of_lt (Heap.lt_size q)) (Heap.get?_push_of_some _ q)
  have fpo : ∀ b ∈ fp, b < s3.heap.objs.size := fun b hb => by
    obtain ⟨o, eo, _⟩ := T.obj 0 _ st2 b hb
    exact Heap.lt_size (up3 b o eo)
  have fst : ∀ b ∈ fp, b ∉ frs X.stack := fun b hb z => by
    rcases List.mem_cons.mp (I3.stkSub b z) with q | q
    · exact (f2 b hb).2.1 q
    · exact (f2 b hb).2.2.1 q
  have okY : (compCx X scope cl N fp pins s3 H3 fun _ _ => False).Ok := by
    refine ⟨I.ok.mod, C.kind, I.ok.glob, I.ok.blt, Nat.le_refl _, fun x y c q1 q2 => I.ok.inj x y c (C.sub _ _ q1) (C.sub _ _ q2), C.has, fun x c z => absurd z Bool.false_ne_true, I.ok.hd, I.ok.frames, .inl rfl, fun b hb => ⟨Nat.ne_of_lt (fpo b hb), fun x c q => (f2 b hb).2.2.2.2.1 x c (C.sub _ _ q)⟩,
      I3.bs, Nat.le_trans I.ok.bsz I3.sz, fun b o q hb => ?_, fst, I3.stack, I3.stkFree⟩
    rcases (f2 b hb).2.2.2.1 with z | z
    · exact I.ok.noex b o q z
    · exact absurd (Nat.lt_of_lt_of_le (Heap.lt_size q) (Nat.le_trans I.ok.bsz z)) (Nat.lt_irrefl _)
  have I4 : Inv (compCx X scope cl N fp pins s3 H3 fun _ _ => False) [] (pick js σ) H3 { s3 with heap := h4, toks := s3.toks + ([] : List (Str × Value)).length } := by
    refine ⟨okY, rfl, I3.bare, Un.kept up4, ⟨_, ns4, fun i x v q1 q2 q3 => ?_⟩, fun x c q => ?_, I3.hok.fresh (Nat.le_refl _), fun x c q => I3.freeC x c (C.sub _ _ q), fun p hp => ?_, I3.hok.kept up4, ?_⟩
    · obtain ⟨j, k1, k2⟩ := pick_get q2
      obtain ⟨z1, z2, z3⟩ := C.seen i j x q1 k1
      obtain ⟨m, hn, hl⟩ := I3.loc
      obtain ⟨u, ru, lk⟩ := hl j x v z1 k2 (.inr (.inl z2))
      refine ⟨u, ru, .inr ⟨z3, ?_⟩⟩
      rcases lk with ⟨k, _⟩ | ⟨_, c, ec, oc, hoc, hdc⟩
      · have k' : X.env.scope.names.lookup x = some .local := k
        rw [z2] at k'; cases k'
      · obtain ⟨c', ec'⟩ := C.has x z3
        have := C.sub _ _ ec'
        rw [ec] at this
        cases this
        exact ⟨c, ec', oc, up4 _ _ hoc, hdc⟩
    · obtain ⟨v, oc, hoc, hdc⟩ := I3.cell x c (C.sub _ _ q)
      exact ⟨v, oc, up4 _ _ hoc, hdc⟩
    · have hp' : p ∈ X.pn ++ pins := by simpa using hp
      obtain ⟨q1, q2, q3, q4, q5⟩ := I3.pin p hp'
      refine ⟨up4 _ _ q1, q2, Nat.ne_of_lt (Heap.lt_size q1), fun z => ?_, q5⟩
      rcases List.mem_cons.mp (I3.stkSub _ z) with q | q
      · exact q3 q
      · exact q4 q
    · show (pick js σ).length = N.length
      unfold pick
      rw [List.length_map, C.len]
  have stat : ∀ {H' : Hp}, (∀ b ∈ fp, H' b = none) → ∀ b ∈ fp, FpOk (compCx X scope cl N fp pins s3 H3 fun _ _ => False) [] H' b := fun hn b hb =>
    ⟨hn b hb, Nat.ne_of_lt (fpo b hb), fst b hb, .inl hb, fun x c q => (f2 b hb).2.2.2.2.1 x c (C.sub _ _ q), fun p hp => (f2 b hb).2.2.2.2.2 p (by simpa using hp)⟩
  have st4 : tn 0 h4 := T.keep 0 _ _ st2 fun b hb o q => up4 b o (up3 b o q)
  have nx : ∀ e s', (compCx X scope cl N fp pins s3 H3 fun _ _ => False).xe e s' → False := fun _ _ z => z
  have loop : codeAny (model X.prog X.w) X.A (.compLoop (.ListComp elt [⟨tg, iter, cs, 0⟩] scope pos) 0 (.ref it) (.ref s2.heap.objs.size) (compEnvC scope cl s3.heap.objs.size X.env))
      (compPost (model X.prog X.w) X.A X.xe none (EP X pins σ Q) (.ref s2.heap.objs.size) s3.heap.objs.size) { s3 with heap := h4, toks := s3.toks + ([] : List (Str × Value)).length } := by
    refine loop_go (fun n s' => ∃ i σ' H' ys, Inv (compCx X scope cl N fp pins s3 H3 fun _ _ => False) [] σ' H' s' ∧ tn i s'.heap ∧ (∀ b ∈ fp, H' b = none) ∧ W i n σ' H' ys) ?_ m0 ⟨0, _, H3, [], I4, st4, fun b hb => ?_, w0⟩
    · rintro n s5 ⟨i, σ5, H5, ys, I5, st5, fr5, w5⟩
      obtain ⟨hD5, way⟩ := turn i n σ5 H5 ys w5
      rcases way with ⟨stop, qn⟩ | ⟨go, hz, NN, hN, step⟩
      · refine noEx nx (thn (T.done (compCx X scope cl N fp pins s3 H3 fun _ _ => False) rfl rfl rfl hc i [] s5 σ5 H5 _ I5 (stat fr5) st5 stop) fun r s6 ⟨hr, I6⟩ => ?_)
        subst hr
        obtain ⟨m, hn, _⟩ := I6.loc
        refine ⟨m, hn, fun h' sb => ⟨.ref s2.heap.objs.size, H5, ?_, rfl, qn⟩⟩
        have low : ∀ b o, s3.heap.get? b = some o → b ≠ s3.heap.objs.size := fun b o q => Nat.ne_of_lt (Heap.lt_size q)
        have same : ∀ b, b ≠ s3.heap.objs.size → h'.get? b = s6.heap.get? b := fun b hb => sb.2 b hb
        have B := I6.base
        refine I3.call' (s' := { s6 with heap := h' }) (H' := H5) (ch := fp) I6.os ⟨fun b o q n0 h1 h2 => ?_, fun b o q n0 h1 h2 => ?_, B.free, fun b o q h2 => ?_, B.tups, B.frzs, B.tbls⟩ (fun a o q => ?_) I6.bare (fun b hb => ⟨(f2 b hb).2.2.2.1, (f2 b hb).2.1, (f2 b hb).2.2.2.2.1, (f2 b hb).2.2.2.2.2⟩)
        · exact (same b (low b o q)).trans (B.keep b o q n0 h1 h2)
        · obtain ⟨sl, z⟩ := B.slot b o q n0 h1 h2
          exact ⟨sl, (same b (low b o q)).trans z⟩
        · obtain ⟨o', z⟩ := B.there b o q h2
          exact ⟨o', (same b (low b o q)).trans z⟩
        · have nC : ∀ c u, H5 c = some u → c ≠ s3.heap.objs.size := fun c u z y => by
            have := I6.free
            rw [y] at z
            rw [show H5 s3.heap.objs.size = none from this] at z
            cases z
          refine (I6.hok a o q).stay (fun c u hc' z => (same c ?_).trans z) (fun _ z => z) fun _ _ z => z
          rcases hc' with z' | z'
          · rw [z']; exact nC a o q
          · exact nC c _ z'
      · refine noEx nx (thn (T.item (compCx X scope cl N fp pins s3 H3 fun _ _ => False) rfl rfl rfl hc i [] s5 σ5 H5 _ I5 (stat fr5) st5 go) fun r s6 ⟨u, hr, h6⟩ => ?_)
        subst hr
        refine noEx nx (thn h6 fun _ s7 ⟨x, H7, I7, r7, y7, st7, fr7⟩ => ?_)
        have I7' := I7.pinned (stat fr7) (T.obj _ _ st7)
        refine noEx nx (thn (hg fp pins s3 H3 _ s7 σ5 H7 x u _ I7' r7 (step x H7 y7)) fun _ s8 ⟨σ8, H8, I8, q8⟩ => ?_)
        refine noEx nx (thn (ht fp pins s3 H3 _ s8 σ8 H8 _ I8 q8) fun k s9 ⟨H9, I9, q9⟩ => ?_)
        have fin : ∀ {s' : Shared} {σ' : St} {H' : Hp} {ys' : List V}, Inv (compCx X scope cl N fp pins s3 H3 fun _ _ => False) ([] ++ pinsAt fp s7.heap) σ' H' s' → NN σ' H' ys' →
            ∃ m', m' < n ∧ ∃ i σ' H' ys, Inv (compCx X scope cl N fp pins s3 H3 fun _ _ => False) [] σ' H' s' ∧ tn i s'.heap ∧ (∀ b ∈ fp, H' b = none) ∧ W i m' σ' H' ys := fun {s' σ' H' ys'} Iv nv => by
          obtain ⟨m', hm, wv⟩ := hN σ' H' ys' nv
          refine ⟨m', hm, i + 1, σ', H', ys', Iv.unpinned, T.keep _ _ _ st7 fun b hb o q => (Iv.pin (b, o) (List.mem_append_right _ (List.mem_append_right _ (mem_pinsAt hb q)))).1, fun b hb => ?_, wv⟩
          obtain ⟨o, q, _⟩ := T.obj _ _ st7 b hb
          exact (Iv.pin (b, o) (List.mem_append_right _ (List.mem_append_right _ (mem_pinsAt hb q)))).2.1
        cases k with
        | false =>
          rw [if_neg Bool.false_ne_true] at q9 ⊢
          exact fin I9 q9.2
        | true =>
          rw [if_pos rfl] at q9 ⊢
          refine noEx nx (thn (he fp pins s3 H3 _ s9 σ8 H9 _ I9 q9) fun y sA ⟨yv, HA, IA, rA, hDA, qA⟩ => ?_)
          refine noEx nx (thn (mt_append _ sA σ8 HA (.ref s2.heap.objs.size) [yv] _ [y] (fun _ HB => NN σ8 HB (ys ++ [yv])) IA rfl (.cons rA .nil) ⟨_, ys, yv, rfl, rfl, hDA, hz, qA⟩) fun _ sB ⟨_, HB, IB, _, qB⟩ => ?_)
          exact fin IB qB
    · rw [← eH, upd_ne]
      · exact (f2 b hb).1
      · obtain ⟨o, eo, _⟩ := T.obj 0 _ st2 b hb
        exact Nat.ne_of_lt (Heap.lt_size eo)
  have goal : codeAny (model X.prog X.w) X.A (.compStart (.ListComp elt [⟨tg, iter, cs, 0⟩] scope pos) 0 (.ref it) (.ref s2.heap.objs.size) (compEnvC scope cl s3.heap.objs.size X.env))
      (compPost (model X.prog X.w) X.A X.xe none (EP X pins σ Q) (.ref s2.heap.objs.size) s3.heap.objs.size) { s3 with heap := h4, toks := s3.toks + ([] : List (Str × Value)).length } :=
    codeAny_compStart_list loop (T.self _ 0 _ _ _ st4 loop)
  subst e3
  exact goal
end L2

set_option Elab.async false
set_option linter.all false
set_option maxRecDepth 100000
set_option maxHeartbeats 4000000
/-! ZIP of two tuples, walked. -/
namespace Zt
open PySem PyProof.Rows

theorem notNone (t : Addr) : ¬ ((Value.ref t == Value.none) = true) := Bool.false_ne_true
section
variable {prog : Program} {w : World} {A : Around} {E : Value → Shared → Prop} {s : Shared}
/-- one pull at a tuple's iterator -/
theorem pull {j t : Addr} {k : Nat} {vs : Array Value} {x : Value} {Q : Value → Shared → Prop} (a : s.heap.IsTupleIter j t k) (b : s.heap.IsTuple t vs) (c : vs[k]? = some x)
    (q : ∀ g, g.IsTupleIter j t (k + 1) → Heap.SameBut j s.heap g → Q x { s with heap := g }) : wpAny (model prog w) A (Builtin.SmallTypes.nextOf (.ref j)) Q E s := by
  obtain ⟨oj, gj, cj, dj⟩ := id a
  obtain ⟨ot, gt, _, nt, dt⟩ := b
  unfold Builtin.SmallTypes.nextOf
  refine wpAny_bind (wpAny_callSpecial?_slot (name := Str.ofString "__next__") a.typeIs F.slot_tuple_iterator_next (wpAny_call_entry F.slot_tuple_iterator_next a.typeIs F.entry_tuple_iterator_next ?_ (F.args_tuple_iterator_next_1 _)))
  show wpAny _ _ (field (.ref j) 0 >>= _) _ _ s
  refine wpAny_bind (wpAny_field gj dj (x := .ref t) rfl ?_)
  show wpAny _ _ (ite ((Value.ref t == Value.none) = true) _ _) _ _ s
  rw [if_neg (notNone t)]
  show wpAny _ _ (field (.ref j) 1 >>= _) _ _ s
  refine wpAny_bind (wpAny_field gj dj (x := .int k 0) rfl ?_)
  show wpAny _ _ (seqItems? (.ref t) >>= _) _ _ s
  refine wpAny_bind (wpAny_seqItems gt dt ?_)
  simp only [Int.toNat_natCast, c]
  refine wpAny_bind (wpAny_setField gj dj (by simp) (wpAny_pure ⟨x, rfl, wpAny_pure (q _ ⟨_, Heap.get?_update_self _ gj (Obj.isFreed_of_fields (Obj.data_mapFields dj _)), (Obj.cls_mapFields ..).trans cj, ?_⟩ (Heap.SameBut.update ..))⟩))
  rw [Obj.data_mapFields dj]
  simp [rawInt]
/-- no more there -/
theorem pull_end {j t : Addr} {k : Nat} {vs : Array Value} {Q : Value → Shared → Prop} (hd : A.handled = none) (a : s.heap.IsTupleIter j t k) (b : s.heap.IsTuple t vs) (c : vs[k]? = none)
    (q : ∀ g e, Heap.ExtBut j s.heap g → (∃ o, g.get? e = some o ∧ o.cls = .type "StopIteration") → E (.ref e) { s with heap := g }) : wpAny (model prog w) A (Builtin.SmallTypes.nextOf (.ref j)) Q E s := by
  obtain ⟨oj, gj, cj, dj⟩ := id a
  obtain ⟨ot, gt, _, nt, dt⟩ := b
  unfold Builtin.SmallTypes.nextOf
  refine wpAny_bind (wpAny_callSpecial?_slot (name := Str.ofString "__next__") a.typeIs F.slot_tuple_iterator_next (wpAny_call_entry F.slot_tuple_iterator_next a.typeIs F.entry_tuple_iterator_next ?_ (F.args_tuple_iterator_next_1 _)))
  show wpAny _ _ (field (.ref j) 0 >>= _) _ _ s
  refine wpAny_bind (wpAny_field gj dj (x := .ref t) rfl ?_)
  show wpAny _ _ (ite ((Value.ref t == Value.none) = true) _ _) _ _ s
  rw [if_neg (notNone t)]
  show wpAny _ _ (field (.ref j) 1 >>= _) _ _ s
  refine wpAny_bind (wpAny_field gj dj (x := .int k 0) rfl ?_)
  show wpAny _ _ (seqItems? (.ref t) >>= _) _ _ s
  refine wpAny_bind (wpAny_seqItems gt dt ?_)
  simp only [Int.toNat_natCast, c]
  refine wpAny_bind (wpAny_rule (wpAny_bind (wpAny_setField gj dj (by simp) ?_)))
  show wpAny _ _ (newExc (.type "StopIteration") [] >>= _) _ _ _
  refine wpAny_bind ?_
  simp only [newExc, newTuple]
  refine wpAny_bind (wpAny_newObj_type (wpAny_bind (m := firstArgMember _ _) (wpAny_of_eq (a := Value.none) (by first | rfl | (simp only [firstArgMember]; rfl)) (wpAny_newObj_type ?_ (by size_fits)))) (by size_fits))
  simp only [raiseNew]
  refine wpAny_bind (wpAny_handled ?_)
  first
    | rw [show A.in1.handled = none from hd]
    | rw [hd]
  exact wpAny_bind (wpAny_pure (wpAny_throw (q _ _ (((Heap.SameBut.update ..).extBut.push _).push _) ⟨_, Heap.get?_push_size _ rfl, rfl⟩)))

end

/-! making it -/
section
variable {prog : Program} {w : World} {A : Around} {E : Value → Shared → Prop} {s : Shared}
end
end Zt

namespace L2
open PySem PySem.Spec PyProof.Rows
def tupleTg : Expr → Bool
  | .Tuple _ _ _ => true
  | _ => false
/-- records at L have turned; a new tuple stands at p -/
theorem Inv.turnedNew {X : Cx} {pins : List (Addr × Obj)} {σ : St} {H : Hp} {s : Shared} {h' : Heap} {t' : Nat} {L : List Addr} {p : Addr} {xs : List V} (I : Inv X pins σ H s) (k : ∀ b o, b ∉ L → s.heap.get? b = some o → h'.get? b = some o)
    (hf : ∀ b ∈ L, FpOk X pins H b) (hp : s.heap.objs.size ≤ p) (new : ObjOk X.prog X.w (upd H p (.tup xs)) h' p (.tup xs)) : Inv X pins σ (upd H p (.tup xs)) { s with heap := h', toks := t' } := by
  have hn : H p = none := I.hok.fresh hp
  have ne : ∀ b o, s.heap.get? b = some o → b ≠ p := fun b o e => Nat.ne_of_lt (Nat.lt_of_lt_of_le (Heap.lt_size e) hp)
  have nit : ∀ b u, H b = some u → b ∉ L := fun b u e z => by rw [(hf b z).1] at e; cases e
  refine I.step (g' := s.gens) (d' := s.drawn) (ch := L) (fun b hb => ?_) (fun b o _ _ hc e _ => k b o hc e) (fun b o _ _ hc e _ => ⟨o.slots, k b o hc e⟩) (fun b o _ e n => by rw [upd_ne (ne b o e)]; exact n) (fun b o hc e => ⟨o, k b o hc e⟩)
    (fun b ys e => by rw [upd_ne (ne_of_none e hn)]; exact e) (fun b o u e => by rw [upd_ne (ne_of_none e hn)]; exact e) (fun b ps e => ⟨#[], by rw [upd_ne (ne_of_none e hn), e]; simp⟩) (fun m hm => ?_) (fun b u e => ?_) I.bare
  · obtain ⟨_, f1, _, f3, f4, f5⟩ := hf b hb
    exact ⟨f3, f1, f4, f5⟩
  · obtain ⟨o, es, ep, ho, r⟩ := hm
    exact ⟨o, es, ep, k _ o (fun z => (hf _ z).2.1 rfl) ho, r⟩
  · by_cases hb : b = p
    · subst hb
      rw [upd_same] at e
      cases e
      exact new
    · rw [upd_ne hb] at e
      refine (I.hok b u e).stay (fun c v hc q => k c v ?_ q) (fun c q => by rw [upd_ne (ne_of_none q hn)]; exact q) fun c ys q => by rw [upd_ne (ne_of_none q hn)]; exact q
      rcases hc with z | z
      · rw [z]; exact nit b u e
      · exact nit c _ z
theorem Inv.turnedL {X : Cx} {pins : List (Addr × Obj)} {σ : St} {H : Hp} {s : Shared} {h' : Heap} {t' : Nat} {L : List Addr} (I : Inv X pins σ H s) (k : ∀ b o, b ∉ L → s.heap.get? b = some o → h'.get? b = some o)
    (hf : ∀ b ∈ L, FpOk X pins H b) : Inv X pins σ H { s with heap := h', toks := t' } := by
  have nit : ∀ b u, H b = some u → b ∉ L := fun b u e z => by rw [(hf b z).1] at e; cases e
  refine I.step (g' := s.gens) (d' := s.drawn) (ch := L) (fun b hb => ?_) (fun b o _ _ hc e _ => k b o hc e) (fun b o _ _ hc e _ => ⟨o.slots, k b o hc e⟩) (fun _ _ _ _ n => n) (fun b o hc e => ⟨o, k b o hc e⟩) (fun _ _ e => e) (fun _ _ _ e => e) (fun b ps e => ⟨#[], by rw [e]; simp⟩)
    (fun m hm => ?_) (fun b u e => ?_) I.bare
  · obtain ⟨_, f1, _, f3, f4, f5⟩ := hf b hb
    exact ⟨f3, f1, f4, f5⟩
  · obtain ⟨o, es, ep, ho, r⟩ := hm
    exact ⟨o, es, ep, k _ o (fun z => (hf _ z).2.1 rfl) ho, r⟩
  · refine (I.hok b u e).stay (fun c v hc q => k c v ?_ q) (fun _ q => q) fun _ _ q => q
    rcases hc with z | z
    · rw [z]; exact nit b u e
    · exact nit c _ z
section
variable {X : Cx} {tg : Expr}
end
end L2

set_option Elab.async false
set_option linter.all false
set_option maxRecDepth 100000
set_option maxHeartbeats 4000000
/-! TUPLES: of a range, repeated, cut whole. -/
namespace Tp
open PySem PyProof.Rows
open AutoSeq1 (wpAny_loadPart')
section
variable {prog : Program} {w : World} {A : Around} {E : Value → Shared → Prop} {s : Shared}
end
end Tp

namespace L2
open PySem PySem.Spec PyProof.Rows
section
variable {X : Cx}
end
end L2

set_option Elab.async false
set_option linter.all false
set_option maxRecDepth 100000
set_option maxHeartbeats 4000000
namespace Tp
open PySem PyProof.Rows
open AutoSeq1 (wpAny_loadPart')
end Tp
namespace HT
open PySem PyProof.Rows
section
variable {prog : Program} {w : World} {A : Around} {E : Value → Shared → Prop} {s : Shared}
end
end HT
namespace L2
open PySem PySem.Spec PyProof.Rows
section
variable {X : Cx}
end
end L2

namespace L2
open PySem PySem.Spec PyProof.Rows
end L2
namespace L2
open PySem PySem.Spec PyProof.Rows
/-- a built-in type as a value -/
theorem pe_ty {X : Cx} {x : Str} {T : String} {pos : Pos} (hg : Gl X x) (hm : X.mg x = none) (hv : bootBuiltins x = some (.type T)) (hn : x ≠ "__name__" := by decide) (hd : (x == ("__debug__" : Str)) = false := by decide) : PE X (.Name x pos) (tC (.ty T)) :=
  pe_bltn (v := .ty T) hg hm hv rfl hn hd
end L2

namespace Mth
/-! numbers of the ten primes -/
def strip (p : Nat) (n : Nat) : Nat := if h : 2 ≤ p ∧ 1 ≤ n ∧ n % p = 0 then strip p (n / p) else n
termination_by n
decreasing_by exact Nat.div_lt_self h.2.1 h.1

theorem strip_div {p n : Nat} (hp : 2 ≤ p) (hn : 1 ≤ n) (h : n % p = 0) : strip p n = strip p (n / p) := by
  conv => lhs; unfold strip
  rw [dif_pos ⟨hp, hn, h⟩]
theorem strip_not {p n : Nat} (h : n % p ≠ 0) : strip p n = n := by
  unfold strip
  rw [dif_neg (fun q => h q.2.2)]
theorem div_pos_of {p n : Nat} (hn : 1 ≤ n) (h : n % p = 0) : 1 ≤ n / p := by
  have e := Nat.div_add_mod n p
  rw [h] at e
  rcases Nat.eq_zero_or_pos (n / p) with z | z
  · rw [z] at e; omega
  · exact z
theorem strip_pos {p : Nat} (hp : 2 ≤ p) : ∀ n : Nat, 1 ≤ n → 1 ≤ strip p n := by
  intro n
  induction n using Nat.strongRecOn with
  | ind n ih =>
    intro hn
    by_cases h : n % p = 0
    · rw [strip_div hp hn h]
      exact ih _ (Nat.div_lt_self hn hp) (div_pos_of hn h)
    · rw [strip_not h]; exact hn
theorem strip_mod {p : Nat} (hp : 2 ≤ p) : ∀ n : Nat, 1 ≤ n → strip p n % p ≠ 0 := by
  intro n
  induction n using Nat.strongRecOn with
  | ind n ih =>
    intro hn
    by_cases h : n % p = 0
    · rw [strip_div hp hn h]
      exact ih _ (Nat.div_lt_self hn hp) (div_pos_of hn h)
    · rw [strip_not h]; exact h
theorem strip_pow {p : Nat} (hp : 2 ≤ p) {m : Nat} (hm : 1 ≤ m) : ∀ e : Nat, strip p (p ^ e * m) = strip p m := by
  intro e
  induction e with
  | zero => rw [Nat.pow_zero, Nat.one_mul]
  | succ e ih =>
    have h1 : p ^ (e + 1) * m = p * (p ^ e * m) := by rw [Nat.pow_succ, Nat.mul_comm (p ^ e) p, Nat.mul_assoc]
    have hpos : 1 ≤ p ^ e * m := Nat.mul_pos (Nat.pow_pos (by omega)) hm
    have h2 : 1 ≤ p * (p ^ e * m) := Nat.mul_pos (by omega) hpos
    rw [h1, strip_div hp h2 (Nat.mul_mod_right _ _), Nat.mul_div_cancel_left _ (by omega)]
    exact ih

def primes : List Nat := [2, 3, 5, 7, 11, 13, 17, 19, 23, 29]
def stripL (ps : List Nat) (n : Nat) : Nat := ps.foldl (fun m p => strip p m) n
def stripAll (n : Nat) : Nat := stripL primes n
theorem stripL_pos : ∀ (ps : List Nat), (∀ p ∈ ps, 2 ≤ p) → ∀ n, 1 ≤ n → 1 ≤ stripL ps n
  | [], _, _, h => h
  | p :: ps, hp, n, h => stripL_pos ps (fun q hq => hp q (List.mem_cons_of_mem _ hq)) _ (strip_pos (hp p List.mem_cons_self) n h)
theorem two_le : ∀ p ∈ primes, 2 ≤ p := by decide
def noShare (a b : Nat) : Bool := primes.all fun p => a % p != 0 || b % p != 0
/-! products -/
def prodR : List Nat → List Nat → Nat
  | p :: ps, e :: es => p ^ e * prodR ps es
  | _, _ => 1
theorem prodR_pos : ∀ (ps es : List Nat), (∀ p ∈ ps, 2 ≤ p) → 1 ≤ prodR ps es
  | [], _, _ => Nat.le_refl _
  | _ :: _, [], _ => Nat.le_refl _
  | p :: ps, e :: es, h => Nat.mul_pos (Nat.pow_pos (by have := h p List.mem_cons_self; omega)) (prodR_pos ps es fun q hq => h q (List.mem_cons_of_mem _ hq))
theorem cop_prodR {p : Nat} : ∀ (ps es : List Nat), (∀ q ∈ ps, Nat.Coprime p q) → Nat.Coprime p (prodR ps es)
  | [], _, _ => Nat.coprime_one_right p
  | _ :: _, [], _ => Nat.coprime_one_right p
  | q :: ps, e :: es, h => Nat.Coprime.mul_right (Nat.Coprime.pow_right e (h q List.mem_cons_self)) (cop_prodR ps es fun r hr => h r (List.mem_cons_of_mem _ hr))
theorem not_mod_of_cop {p n : Nat} (hp : 2 ≤ p) (c : Nat.Coprime p n) : n % p ≠ 0 := fun h => by
  have := c.eq_one_of_dvd (Nat.dvd_of_mod_eq_zero h)
  omega
theorem strip_one {p : Nat} (hp : 2 ≤ p) : strip p 1 = 1 := strip_not (by rw [Nat.mod_eq_of_lt (by omega)]; decide)
theorem stripL_one : ∀ (ps : List Nat), (∀ p ∈ ps, 2 ≤ p) → stripL ps 1 = 1
  | [], _ => rfl
  | p :: ps, h => by
    show stripL ps (strip p 1) = 1
    rw [strip_one (h p List.mem_cons_self)]
    exact stripL_one ps fun q hq => h q (List.mem_cons_of_mem _ hq)
theorem stripL_prodR : ∀ (ps es : List Nat), (∀ p ∈ ps, 2 ≤ p) → ps.Pairwise Nat.Coprime → stripL ps (prodR ps es) = 1
  | [], _, _, _ => rfl
  | p :: ps, [], h, _ => stripL_one (p :: ps) h
  | p :: ps, e :: es, h, c => by
    have hp := h p List.mem_cons_self
    have ht : ∀ q ∈ ps, 2 ≤ q := fun q hq => h q (List.mem_cons_of_mem _ hq)
    have c' := List.pairwise_cons.mp c
    show stripL ps (strip p (p ^ e * prodR ps es)) = 1
    rw [strip_pow hp (prodR_pos ps es ht), strip_not (not_mod_of_cop hp (cop_prodR ps es c'.1))]
    exact stripL_prodR ps es ht c'.2
theorem primes_cop : primes.Pairwise Nat.Coprime := by decide
def prod (es : List Nat) : Nat := prodR primes es
theorem prod_pos (es : List Nat) : 1 ≤ prod es := prodR_pos _ _ two_le
theorem stripAll_prod (es : List Nat) : stripAll (prod es) = 1 := stripL_prodR _ _ two_le primes_cop
/-! terms, fractions -/
def termB (i : Int) : Bool := decide (1 ≤ i) && decide (i ≤ 1000000000000) && decide (stripAll i.toNat = 1)
def fracB (i j : Int) : Bool := termB i && termB j && noShare i.toNat j.toNat
/-! a row of changes -/
end Mth

set_option Elab.async false
set_option linter.all false
set_option maxRecDepth 100000
set_option maxHeartbeats 4000000
/-! WHAT ALL LAWS SHARE: a def of the module, built-in names, kinds of values, heaps that keep what they had, comprehensions' scopes. -/
namespace L2
open PySem PySem.Spec PyProof.Rows
theorem pe_globC {X : Cx} {x : Str} {i : Int} {pos : Pos} (hg : Gl X x) (hm : ∃ t, X.mg x = some (.int i t)) (hd : (x == ("__debug__" : Str)) = false := by decide) : PE X (.Name x pos) (tC (.int i)) := by
  obtain ⟨t, h⟩ := hm
  exact pe_glob hg h ⟨t, rfl⟩ hd
/-- a comprehension's names as they stand behind the relabelling -/
def relN (sc osc : Scope) : List (Str × NameKind) := sc.names.map fun (n, k) => if (k == .free && osc.kind == .function && osc.names.lookup n == some .cell) then (n, .cell) else (n, k)
def ksOf (sc : Scope) : List Str := ((sc.names.filter (fun p => p.2 == .free)).reverse).map (·.1)
def compChk (sc osc : Scope) (N XN : List Str) (js : List (Option Nat)) : Bool :=
  sc.names.all (fun y => y.2 != .cell) && decide (sc.kind = .function) && sc.names.all (fun y => y.2 != .local || sc.names.lookup y.1 == some .local) &&
  (relN sc osc).all (fun p => !(p.2 == .cell || p.2 == .free) || (ksOf sc).contains p.1) && js.length == N.length &&
  (List.range N.length).all fun i => match js[i]?, N[i]? with
    | some (some j), some x => XN[j]? == some x && osc.names.lookup x == some .cell && ((relN sc osc).lookup x == some .cell || (relN sc osc).lookup x == some .free)
    | _, _ => true
theorem mem_of_lookup {α β : Type} [BEq α] [LawfulBEq α] : ∀ {l : List (α × β)} {x : α} {c : β}, l.lookup x = some c → (x, c) ∈ l
  | [], _, _, h => by simp at h
  | (y, d) :: r, x, c, h => by
    rw [List.lookup_cons] at h
    cases e : (x == y) with
    | true =>
      rw [e] at h
      cases h
      rw [eq_of_beq e]
      exact List.mem_cons_self
    | false =>
      rw [e] at h
      exact List.mem_cons_of_mem _ (mem_of_lookup h)
theorem lookup_of_key {α β : Type} [BEq α] [LawfulBEq α] : ∀ {l : List (α × β)} {x : α}, x ∈ l.map (·.1) → ∃ c, l.lookup x = some c
  | [], _, h => by cases h
  | (y, d) :: r, x, h => by
    rw [List.lookup_cons]
    cases e : (x == y) with
    | true => exact ⟨d, rfl⟩
    | false =>
      rcases List.mem_cons.mp h with z | z
      · rw [z] at e; simp at e
      · exact lookup_of_key z
theorem compOk_of {X : Cx} {sc osc : Scope} {cl : List (Str × Addr)} {N XN : List Str} {js : List (Option Nat)} (ho : X.env.scope = osc) (clos : closureFor sc X.env = pure cl) (hk : cl.map (·.1) = ksOf sc)
    (hsub : ∀ p ∈ cl, X.env.cells.lookup p.1 = some p.2) (chk : compChk sc osc N XN js = true) (hN : X.N = XN) : CompOk X sc cl N js := by
  unfold compChk at chk
  simp only [Bool.and_eq_true] at chk
  obtain ⟨⟨⟨⟨⟨h1, h2⟩, h3⟩, h4⟩, h5⟩, h6⟩ := chk
  have er : (relabel sc X.env).names = relN sc osc := by
    unfold relabel relN Env.kindOf
    rw [ho]
  refine ⟨clos, ?_, of_decide_eq_true h2, ?_, ?_, ?_, eq_of_beq h5, ?_⟩
  · intro y hy
    have := List.all_eq_true.mp h1 y hy
    simpa using this
  · intro y hy hl
    have := List.all_eq_true.mp h3 y hy
    rw [hl] at this
    simpa using this
  · intro x c h
    exact hsub (x, c) (mem_of_lookup h)
  · intro x h
    rw [er] at h
    refine lookup_of_key ?_
    rw [hk]
    rcases h with h | h
    all_goals
      have := List.all_eq_true.mp h4 _ (mem_of_lookup h)
      simpa using this
  · intro i j x hNi hj
    have hi : i < N.length := (List.getElem?_eq_some_iff.mp hNi).1
    have := List.all_eq_true.mp h6 i (List.mem_range.mpr hi)
    rw [hj, hNi] at this
    simp only [Bool.and_eq_true, Bool.or_eq_true] at this
    obtain ⟨⟨a, b⟩, c⟩ := this
    refine ⟨?_, ?_, ?_⟩
    · rw [hN]; exact eq_of_beq a
    · rw [ho]; exact eq_of_beq b
    · rw [er]
      rcases c with c | c
      · exact .inl (eq_of_beq c)
      · exact .inr (eq_of_beq c)
end L2
namespace W2
open PySem L2
/-- a def of the module -/
structure Df (K : PySem.W.Frag) (mg : Str → Option Value) (x : Str) (st : Stmt) (ps : List Str) (f : Addr) (fd : FuncData) : Prop where
  fn : Fun K x x st f fd
  at_ : mg x = some (.ref f)
  bd : Binds K fd ps []
theorem b_len : bootBuiltins "len" = some (.builtin "len") := PySem.boot_len
theorem b_isinstance : bootBuiltins "isinstance" = some (.builtin "isinstance") := by decide +kernel
theorem b_int : bootBuiltins "int" = some (.type "int") := by decide +kernel
theorem b_bool : bootBuiltins "bool" = some (.type "bool") := by decide +kernel
theorem b_tuple : bootBuiltins "tuple" = some (.type "tuple") := by decide +kernel
theorem b_min : bootBuiltins "min" = some (.builtin "min") := by decide +kernel
/-! ### kinds -/
def kindV (H : Hp) : V → Prop
  | .non => True
  | .bl _ => True
  | .int _ => True
  | .str _ => True
  | .ref a => (∃ xs, H a = some (.tup xs)) ∨ (∃ xs, H a = some (.lst xs)) ∨ (∃ kvs, H a = some (.dK kvs))
  | _ => False
def isI : V → Bool
  | .int _ => true
  | .bl _ => true
  | _ => false
def isB : V → Bool
  | .bl _ => true
  | _ => false
def isW : V → Bool
  | .int _ => true
  | _ => false
theorem isW_eq (v : V) : (isI v && !isB v) = isW v := by cases v <;> rfl
section
variable {K : PySem.W.Frag} {H : Hp} {v : V}
theorem isi_I (k : kindV H v) : ∃ t, TyOf K H v t ∧ PySem.W.kitOne K t (.type "int") = some (isI v) := by
  cases v with
  | non => exact ⟨_, .non, by kernel_rfl⟩
  | bl b => exact ⟨_, .bl b, by kernel_rfl⟩
  | int i => exact ⟨_, .int i, by kernel_rfl⟩
  | str x => exact ⟨_, .str x, by kernel_rfl⟩
  | ref a =>
    rcases (show (∃ xs, H a = some (.tup xs)) ∨ (∃ xs, H a = some (.lst xs)) ∨ (∃ kvs, H a = some (.dK kvs)) from k) with ⟨xs, e⟩ | ⟨xs, e⟩ | ⟨kvs, e⟩
    · exact ⟨_, .tup e, by kernel_rfl⟩
    · exact ⟨_, .lst e, by kernel_rfl⟩
    · exact ⟨_, .dK e, by kernel_rfl⟩
  | _ => exact False.elim k
theorem isi_B (k : kindV H v) : ∃ t, TyOf K H v t ∧ PySem.W.kitOne K t (.type "bool") = some (isB v) := by
  cases v with
  | non => exact ⟨_, .non, by kernel_rfl⟩
  | bl b => exact ⟨_, .bl b, by kernel_rfl⟩
  | int i => exact ⟨_, .int i, by kernel_rfl⟩
  | str x => exact ⟨_, .str x, by kernel_rfl⟩
  | ref a =>
    rcases (show (∃ xs, H a = some (.tup xs)) ∨ (∃ xs, H a = some (.lst xs)) ∨ (∃ kvs, H a = some (.dK kvs)) from k) with ⟨xs, e⟩ | ⟨xs, e⟩ | ⟨kvs, e⟩
    · exact ⟨_, .tup e, by kernel_rfl⟩
    · exact ⟨_, .lst e, by kernel_rfl⟩
    · exact ⟨_, .dK e, by kernel_rfl⟩
  | _ => exact False.elim k
end
theorem Same.kind {H H' : Hp} (s : Same H H') {v : V} (k : kindV H v) : kindV H' v := by
  cases v with
  | ref a =>
    rcases (show (∃ xs, H a = some (.tup xs)) ∨ (∃ xs, H a = some (.lst xs)) ∨ (∃ kvs, H a = some (.dK kvs)) from k) with ⟨xs, e⟩ | ⟨xs, e⟩ | ⟨kvs, e⟩
    · exact .inl ⟨xs, s _ _ e⟩
    · exact .inr (.inl ⟨xs, s _ _ e⟩)
    · exact .inr (.inr ⟨kvs, s _ _ e⟩)
  | non => trivial
  | bl b => trivial
  | int i => trivial
  | str x => trivial
  | byt b => exact False.elim k
  | flt b => exact False.elim k
  | ty b => exact False.elim k

/-! ### heaps -/
/-- all but a is as it was -/
def But (a : Addr) (H H' : Hp) : Prop := ∀ b o, b ≠ a → H b = some o → H' b = some o
theorem But.refl (a : Addr) (H : Hp) : But a H H := fun _ _ _ h => h
theorem But.trans {a : Addr} {H H1 H2 : Hp} (x : But a H H1) (y : But a H1 H2) : But a H H2 := fun b o n h => y b o n (x b o n h)
theorem But.of {a : Addr} {H H' : Hp} (x : Same H H') : But a H H' := fun b o _ h => x b o h
theorem But.free {a : Addr} {H H' : Hp} (x : But a H H') {p : Addr} (h : H' p = none) (hp : p ≠ a) : H p = none := by
  cases q : H p with
  | none => rfl
  | some o => rw [x p o hp q] at h; cases h
theorem But.upd {a : Addr} {H : Hp} {o : HO} : But a H (upd H a o) := fun b q n h => by rw [upd_ne n]; exact h
theorem But.new {a p : Addr} {H H' : Hp} {o : HO} (x : But a H H') (h : H' p = none) : But a H (L2.upd H' p o) := fun b q n e => by rw [upd_ne (ne_of_none (x b q n e) h)]; exact x b q n e
theorem But.set {a : Addr} {H H' : Hp} {o : HO} (x : But a H H') : But a H (L2.upd H' a o) := fun b q n e => by rw [upd_ne n]; exact x b q n e
theorem Same.new {H : Hp} {p : Addr} {o : HO} (h : H p = none) : Same H (upd H p o) := fun b q e => by rw [upd_ne (ne_of_none e h)]; exact e
theorem Same.more {H H' : Hp} {p : Addr} {o : HO} (s : Same H H') (h : H' p = none) : Same H (upd H' p o) := s.trans (Same.new h)
theorem Same.tup {K : PySem.W.Frag} {H H' : Hp} {a : Addr} {xs : List V} (e : Same H H') (h : SqT K H a xs) : SqT K H' a xs := by
  rcases h with (h | ⟨o, h⟩) | h
  · exact .inl (.inl (e _ _ h))
  · exact .inl (.inr ⟨o, e _ _ h⟩)
  · exact .inr h
theorem But.tup {K : PySem.W.Frag} {H H' : Hp} {a b : Addr} {xs : List V} (e : But a H H') (n : b ≠ a) (h : SqT K H b xs) : SqT K H' b xs := by
  rcases h with (h | ⟨o, h⟩) | h
  · exact .inl (.inl (e _ _ n h))
  · exact .inl (.inr ⟨o, e _ _ n h⟩)
  · exact .inr h
theorem But.lst {K : PySem.W.Frag} {H H' : Hp} {a b : Addr} {xs : List V} (e : But a H H') (n : b ≠ a) (h : SqL K H b xs) : SqL K H' b xs := by
  rcases h with (h | ⟨o, h⟩) | h
  · exact .inl (.inl (e _ _ n h))
  · exact .inl (.inr ⟨o, e _ _ n h⟩)
  · exact .inr h
theorem atI_of {α : Type} {xs : List α} {i : Int} {v : α} (h0 : 0 ≤ i) (h : xs[i.toNat]? = some v) : atI xs i = some v := by
  have := atI_nat h
  rwa [Int.toNat_of_nonneg h0] at this
end W2

set_option Elab.async false
set_option linter.all false
set_option maxRecDepth 100000
set_option maxHeartbeats 4000000
/-! COMPREHENSIONS by what holds between two turns: over a list, a tuple, a range; pure elements: a map. SLICES. -/
namespace L2
open PySem PySem.Spec PyProof.Rows
def noStar : Expr → Bool
  | .Starred _ _ => false
  | _ => true
theorem starEach_cons {e : Expr} (h : noStar e = true) (es : List Expr) (env : Env) : starEach (e :: es) env = (false, eval e env) :: starEach es env := by
  cases e <;> first | rfl | cases h
/-- an argument ahead of the others, the list's length no matter -/
theorem pa_c {X : Cx} {e : Expr} {es : List Expr} {te : TE} {t : TA} (ha : PE X e te) (hr : PA X es t) (h : noStar e = true := by rfl) : PA X (e :: es) (tCons te t) := pa_cons ha hr (starEach_cons h es X.env)
section
variable {K : PySem.W.Frag} {a D : Addr} {js : List (Option Nat)} {g : TG} {te : TE} {σ : St} {H1 : Hp} {Q : VK}
/-- a comprehension without a test, n turns -/
theorem comp_plain {J : It} {n : Nat} (hn : n ≤ sizeLine) (Pv : Nat → St → Hp → List V → Prop) (h0 : Pv 0 (pick js σ) (upd H1 D (.lst [])) [])
    (hgo : ∀ i σ' H' ys, i < n → H' D = some (.lst ys) → Pv i σ' H' ys → J.go i H') (hst : ∀ σ' H' ys, H' D = some (.lst ys) → ys.length = n → Pv n σ' H' ys → J.stop n H' ∧ Q (.ref D) H')
    (hs : ∀ i σ' H' ys x H2 (R : St → V → Hp → Prop), i < n → H' D = some (.lst ys) → ys.length = i → Pv i σ' H' ys → J.yld i H' x H2 →
      (∀ σ2 y H4, H4 D = some (.lst ys) → Pv (i + 1) σ2 (upd H4 D (.lst (ys ++ [y]))) (ys ++ [y]) → R σ2 y H4) → g x σ' H2 fun σ2 H3 => te σ2 H3 fun y H4 => R σ2 y H4) :
    CompW J D js g tNoTest te σ H1 Q := by
  refine ⟨fun i m σ' H' ys => m = n - i ∧ i ≤ n ∧ H' D = some (.lst ys) ∧ ys.length = i ∧ Pv i σ' H' ys, ⟨n, rfl, Nat.zero_le _, upd_same, rfl, h0⟩, ?_⟩
  rintro i m σ' H' ys ⟨rfl, hi, hD, hy, p⟩
  refine ⟨hD, ?_⟩
  by_cases e : i = n
  · subst e
    exact .inl (hst σ' H' ys hD hy p)
  · have hlt : i < n := by omega
    refine .inr ⟨hgo i σ' H' ys hlt hD p, by omega, fun σ2 H2 zs => H2 D = some (.lst zs) ∧ zs.length = i + 1 ∧ Pv (i + 1) σ2 H2 zs, fun σ2 H2 zs ⟨z1, z2, z3⟩ => ⟨n - (i + 1), by omega, rfl, by omega, z1, z2, z3⟩, fun x H2 hx => ?_⟩
    exact hs i σ' H' ys x H2 (fun σ2 y H4 => H4 D = some (.lst ys) ∧ (upd H4 D (.lst (ys ++ [y]))) D = some (.lst (ys ++ [y])) ∧ (ys ++ [y]).length = i + 1 ∧ Pv (i + 1) σ2 (upd H4 D (.lst (ys ++ [y]))) (ys ++ [y])) hlt hD hy p hx
      fun σ2 y H4 z1 z2 => ⟨z1, upd_same, by rw [List.length_append, hy]; rfl, z2⟩
theorem comp_list {xs : List V} (hn : xs.length ≤ sizeLine) (Pv : Nat → St → Hp → List V → Prop) (h0 : Pv 0 (pick js σ) (upd H1 D (.lst [])) [])
    (hl : ∀ i σ' H' ys, i ≤ xs.length → H' D = some (.lst ys) → Pv i σ' H' ys → SqL K H' a xs)
    (hs : ∀ i x σ' H' ys (R : St → V → Hp → Prop), xs[i]? = some x → H' D = some (.lst ys) → ys.length = i → Pv i σ' H' ys → (∀ σ2 y H4, H4 D = some (.lst ys) → Pv (i + 1) σ2 (upd H4 D (.lst (ys ++ [y]))) (ys ++ [y]) → R σ2 y H4) →
      g x σ' H' fun σ2 H3 => te σ2 H3 fun y H4 => R σ2 y H4)
    (hst : ∀ σ' H' ys, H' D = some (.lst ys) → ys.length = xs.length → Pv xs.length σ' H' ys → Q (.ref D) H') : CompW (Itl K a) D js g tNoTest te σ H1 Q :=
  comp_plain hn Pv h0 (fun i σ' H' ys hi hD p => ⟨xs, xs[i], hl i σ' H' ys (by omega) hD p, List.getElem?_eq_getElem hi⟩)
    (fun σ' H' ys hD b c => ⟨⟨xs, hl _ σ' H' ys (Nat.le_refl _) hD c, Nat.le_refl _⟩, hst σ' H' ys hD b c⟩) fun i σ' H' ys x H2 R hi hD b c ⟨e1, e2⟩ => by
    subst e1
    exact hs i x σ' H2 ys R (e2 xs (hl i σ' H2 ys (by omega) hD c)) hD b c
theorem comp_tup {xs : List V} (hn : xs.length ≤ sizeLine) (Pv : Nat → St → Hp → List V → Prop) (h0 : Pv 0 (pick js σ) (upd H1 D (.lst [])) [])
    (hl : ∀ i σ' H' ys, i ≤ xs.length → H' D = some (.lst ys) → Pv i σ' H' ys → SqT K H' a xs)
    (hs : ∀ i x σ' H' ys (R : St → V → Hp → Prop), xs[i]? = some x → H' D = some (.lst ys) → ys.length = i → Pv i σ' H' ys → (∀ σ2 y H4, H4 D = some (.lst ys) → Pv (i + 1) σ2 (upd H4 D (.lst (ys ++ [y]))) (ys ++ [y]) → R σ2 y H4) →
      g x σ' H' fun σ2 H3 => te σ2 H3 fun y H4 => R σ2 y H4)
    (hst : ∀ σ' H' ys, H' D = some (.lst ys) → ys.length = xs.length → Pv xs.length σ' H' ys → Q (.ref D) H') : CompW (Itt K a) D js g tNoTest te σ H1 Q :=
  comp_plain hn Pv h0 (fun i σ' H' ys hi hD p => ⟨xs, xs[i], hl i σ' H' ys (by omega) hD p, List.getElem?_eq_getElem hi⟩)
    (fun σ' H' ys hD b c => ⟨⟨xs, hl _ σ' H' ys (Nat.le_refl _) hD c, Nat.le_refl _⟩, hst σ' H' ys hD b c⟩) fun i σ' H' ys x H2 R hi hD b c ⟨e1, e2⟩ => by
    subst e1
    exact hs i x σ' H2 ys R (e2 xs (hl i σ' H2 ys (by omega) hD c)) hD b c
end
theorem SqL.upd_new {K : PySem.W.Frag} {H : Hp} {a D : Addr} {xs : List V} {o : HO} (h : SqL K H a xs) (n : H D = none) : SqL K (upd H D o) a xs := by
  rcases h with (h | ⟨u, h⟩) | h
  · exact .inl (.inl (by rw [upd_ne (ne_of_none h n)]; exact h))
  · exact .inl (.inr ⟨u, by rw [upd_ne (ne_of_none h n)]; exact h⟩)
  · exact .inr h
theorem SqT.upd_new {K : PySem.W.Frag} {H : Hp} {a D : Addr} {xs : List V} {o : HO} (h : SqT K H a xs) (n : H D = none) : SqT K (upd H D o) a xs := by
  rcases h with (h | ⟨u, h⟩) | h
  · exact .inl (.inl (by rw [upd_ne (ne_of_none h n)]; exact h))
  · exact .inl (.inr ⟨u, by rw [upd_ne (ne_of_none h n)]; exact h⟩)
  · exact .inr h
theorem take_map_succ {α β : Type} {f : α → β} {xs : List α} {i : Nat} {x : α} (h : xs[i]? = some x) : (xs.take (i + 1)).map f = (xs.take i).map f ++ [f x] := by
  rw [List.take_add_one, h, List.map_append]
  rfl
section
variable {K : PySem.W.Frag} {a D : Addr} {js : List (Option Nat)} {te : TE} {σ : St} {H1 : Hp} {Q : VK}
theorem comp_map_tup {xs : List V} {o : Option V} {σ0 : St} {f : V → V} (hp : pick js σ = o :: σ0) (hn : xs.length ≤ sizeLine) (hD : H1 D = none) (hS : SqT K H1 a xs)
    (hs : ∀ (x : V) (H' : Hp) (R : VK), x ∈ xs → R (f x) H' → te (some x :: σ0) H' R) (q : Q (.ref D) (upd H1 D (.lst (xs.map f)))) : CompW (Itt K a) D js (gName 0) tNoTest te σ H1 Q := by
  refine comp_tup (xs := xs) hn (fun i σ' H' ys => (∃ u, σ' = u :: σ0) ∧ ys = (xs.take i).map f ∧ H' = upd H1 D (.lst ys)) ⟨⟨o, hp⟩, rfl, rfl⟩ ?_ ?_ ?_
  · rintro i σ' H' ys _ _ ⟨_, rfl, rfl⟩
    exact hS.upd_new hD
  · rintro i x σ' H' ys R hx _ _ ⟨⟨u, rfl⟩, rfl, rfl⟩ k
    refine hs x _ _ (List.mem_of_getElem? hx) (k _ _ _ upd_same ⟨⟨_, rfl⟩, (take_map_succ hx).symm, upd_upd⟩)
  · rintro σ' H' ys _ _ ⟨_, rfl, rfl⟩
    rw [List.take_length]
    exact q
end
/-- a while by what holds between its turns and a number that falls; in the turn: whN -/
theorem while_own {c : TT} {tb : TS} {D : Ends} {σ : St} {H : Hp} (Pv : St → Hp → Prop) (μ : St → Hp → Nat) (h0 : Pv σ H)
    (hs : ∀ σ H, Pv σ H → c σ H fun b H1 => if b = true then ∃ N : St → Hp → Prop, (∀ σ' H', N σ' H' → ∃ m', m' < μ σ H ∧ m' = μ σ' H' ∧ Pv σ' H') ∧ tb { D with nx := N, ct := N, bk := D.nx } σ H1 else D.nx σ H1) : tWhile c tb D σ H :=
  ⟨fun m σ H => m = μ σ H ∧ Pv σ H, ⟨_, rfl, h0⟩, fun m σ H ⟨e, p⟩ => by subst e; exact hs σ H p⟩
theorem whN {tb : TS} {D : Ends} {σ : St} {H1 : Hp} {m : Nat} {Pv : St → Hp → Prop} {μ : St → Hp → Nat} (h : tb { D with nx := fun σ' H' => Pv σ' H' ∧ μ σ' H' < m, ct := fun σ' H' => Pv σ' H' ∧ μ σ' H' < m, bk := D.nx } σ H1) :
    ∃ N : St → Hp → Prop, (∀ σ' H', N σ' H' → ∃ m', m' < m ∧ m' = μ σ' H' ∧ Pv σ' H') ∧ tb { D with nx := N, ct := N, bk := D.nx } σ H1 := ⟨_, fun _ _ ⟨a, b⟩ => ⟨_, b, rfl, a⟩, h⟩
end L2

set_option Elab.async false
set_option linter.all false
set_option maxRecDepth 100000
set_option maxHeartbeats 4000000
/-! THE RULES IN BOXES: the elaborator never unfolds a box, so a term of rules costs what it is long. -/
namespace L2
open PySem PySem.Spec PyProof.Rows
structure QE (X : Cx) (e : Expr) (t : TE) : Prop where
  o : PE X e t
structure QT (X : Cx) (e : Expr) (t : TT) : Prop where
  o : PT X e t
structure QW (X : Cx) (e : Expr) (t : TT) : Prop where
  o : PW X e t
structure QA (X : Cx) (e : List Expr) (t : TA) : Prop where
  o : PA X e t
structure QS (X : Cx) (e : Stmt) (t : TS) : Prop where
  o : PS X e t
structure QSs (X : Cx) (e : List Stmt) (t : TS) : Prop where
  o : PSs X e t
structure QG (X : Cx) (e : Expr) (t : TG) : Prop where
  o : PG X e t
structure QGs (X : Cx) (e : List Expr) (t : TGs) : Prop where
  o : PGs X e t
structure QO (X : Cx) (e : Option Expr) (t : TO) : Prop where
  o : PO X e t
structure QTs (X : Cx) (e : List Expr) (t : TT) : Prop where
  o : PTs X e t
structure QI (X : Cx) (tg e : Expr) (t : TI) : Prop where
  o : PI X tg e t
theorem qv (i : Nat) {x : Str} {pos : Pos} (hN : X.N[i]? = some x := by rfl) (hv : Vis X.env.scope x := by first | exact Or.inl rfl | exact Or.inr (Or.inl rfl) | exact Or.inr (Or.inr rfl)) (hd : (x == ("__debug__" : Str)) = false := by decide) (hcd : (x == ("__classdict__" : Str)) = false := by decide) : QE X (.Name x pos) (tVar i) :=
  ⟨pv i hN hv hd hcd⟩
theorem qe_int {i j pos} : QE X (.Constant (.int i) j pos) (tC (.int i)) :=
  ⟨pe_int ⟩
theorem qe_bl {b j pos} : QE X (.Constant (.bool b) j pos) (tC (.bl b)) :=
  ⟨pe_bl ⟩
theorem qe_str {x j pos} : QE X (.Constant (.str x) j pos) (tC (.str x)) :=
  ⟨pe_str ⟩
theorem qe_glob {x : Str} {v : V} {u : Value} {pos : Pos} (hg : Gl X x) (hm : X.mg x = some u) (r : RelV v u) (hd : (x == ("__debug__" : Str)) = false := by decide) : QE X (.Name x pos) (tC v) :=
  ⟨pe_glob hg hm r hd⟩
theorem qe_globC {X : Cx} {x : Str} {i : Int} {pos : Pos} (hg : Gl X x) (hm : ∃ t, X.mg x = some (.int i t)) (hd : (x == ("__debug__" : Str)) = false := by decide) : QE X (.Name x pos) (tC (.int i)) :=
  ⟨pe_globC hg hm hd⟩
theorem qe_ty {X : Cx} {x : Str} {T : String} {pos : Pos} (hg : Gl X x) (hm : X.mg x = none) (hv : bootBuiltins x = some (.type T)) (hn : x ≠ "__name__" := by decide) (hd : (x == ("__debug__" : Str)) = false := by decide) : QE X (.Name x pos) (tC (.ty T)) :=
  ⟨pe_ty hg hm hv hn hd⟩
theorem qe_op {a : Expr} {b : Expr} {op : Operator} {r : R2} (ho : OpR X (binaryOp op) r) (ha : QE X a ta) (hb : QE X b tb) : QE X (.BinOp a op b pos) (tOp r ta tb) :=
  ⟨pe_op ho ha.o hb.o⟩
theorem qe_un {a : Expr} {op : UnaryOp} {r : V → Hp → VK → Prop} (ho : UnR X (unaryOp op) r) (ha : QE X a ta) : QE X (.UnaryOp op a pos) (tUn r ta) :=
  ⟨pe_un ho ha.o⟩
theorem qe_and {rest : List Expr} {a : Expr} {b : Expr} (ha : QE X a ta) (hb : QE X (.BoolOp .And (b :: rest) pos) tb) : QE X (.BoolOp .And (a :: b :: rest) pos) (tAndV ta tb) :=
  ⟨pe_and ha.o hb.o⟩
theorem qe_one {a : Expr} {op} {t : TE} (h : QE X a t) : QE X (.BoolOp op [a] pos) t :=
  ⟨pe_one h.o⟩
theorem qe_not {a : Expr} (ha : QE X a ta) : QE X (.UnaryOp .Not a pos) (tNotV ta) :=
  ⟨pe_not ha.o⟩
theorem qe_ifExp {a : Expr} {b : Expr} {c : Expr} (hc : QT X c tA) (ha : QE X a ta) (hb : QE X b tb) : QE X (.IfExp c a b pos) (tIf tA ta tb) :=
  ⟨pe_ifExp hc.o ha.o hb.o⟩
theorem qe_cmpR {a : Expr} {b : Expr} {op : CmpOp} {r : R2} (ho : OpR X (compareOp op) r) (ha : QE X a ta) (hb : QE X b tb) (hm : behindInMarks op b = false) : QE X (.Compare a [op] [b] pos) (tOp r ta tb) :=
  ⟨pe_cmpR ho ha.o hb.o hm⟩
theorem qe_lst (h : QA X es t) : QE X (.List es pos) (tLst t) :=
  ⟨pe_lst h.o⟩
theorem qe_ix {a : Expr} {b : Expr} {r : R2} (hr : IxR X r) (ha : QE X a ta) (hb : QE X b tb) (hs : PlainIx b) : QE X (.Subscript a b pos) (tOp r ta tb) :=
  ⟨pe_ix hr ha.o hb.o hs⟩
theorem qe_slice {lo : Option Expr} {hi : Option Expr} {e : Expr} {r : V → Option Int → Option Int → Hp → VK → Prop} (hr : SlR X r) (he : QE X e te) (hl : QO X lo tl) (hu : QO X hi th) : QE X (.Subscript e (.Slice lo hi none p2) pos) (tSl r te tl th) :=
  ⟨pe_slice hr he.o hl.o hu.o⟩
theorem qe_call {e : Expr} (F : FnOk X.prog X.w X.K X.mg X.base CX k f fd ps sp) (hr : Room k X.A) (hg : Gl X x) (hm : X.mg x = some (.ref f)) (hk : PySem.W.keepIn X.K (.ref f) = true) (hb : Binds X.K fd ps ds) (hd : Vals dvs ds) (hx : Passes CX X E) (ha : QA X (e :: es) t) (hdb : (x == ("__debug__" : Str)) = false := by decide) (he : starEach (e :: es) X.env = (false, eval e X.env) :: starEach es X.env := by rfl) (hpl : (backTo pos (starEach es X.env)).any (·.1) = false := by rfl) : QE X (.Call (.Name x p) (e :: es) [] pos) (tCall sp dvs E t) :=
  ⟨pe_call F hr hg hm hk hb hd hx ha.o hdb he hpl⟩
theorem qe_callB {id : String} {e : Expr} (hc : CallR X (.builtin id) r) (hg : Gl X x) (hm : X.mg x = none) (hv : bootBuiltins x = some (.builtin id)) (ha : QA X (e :: es) t) (hn : x ≠ "__name__" := by decide) (hdb : (x == ("__debug__" : Str)) = false := by decide) (he : starEach (e :: es) X.env = (false, eval e X.env) :: starEach es X.env := by rfl) (hpl : (backTo pos (starEach es X.env)).any (·.1) = false := by rfl) : QE X (.Call (.Name x p) (e :: es) [] pos) (tCB r t) :=
  ⟨pe_callB hc hg hm hv ha.o hn hdb he hpl⟩
theorem qe_callTy {e : Expr} (hc : CallR X (.type T) r) (hg : Gl X x) (hm : X.mg x = none) (hv : bootBuiltins x = some (.type T)) (ha : QA X (e :: es) t) (hn : x ≠ "__name__" := by decide) (hdb : (x == ("__debug__" : Str)) = false := by decide) (he : starEach (e :: es) X.env = (false, eval e X.env) :: starEach es X.env := by rfl) (hpl : (backTo pos (starEach es X.env)).any (·.1) = false := by rfl) : QE X (.Call (.Name x p) (e :: es) [] pos) (tCB r t) :=
  ⟨pe_callTy hc hg hm hv ha.o hn hdb he hpl⟩
theorem qe_bm {id : String} {e : Expr} {o : Expr} (pa : PlainAttrs T) (slot : Slot T name id) (hty : typeOf (.builtin id) = pure (.type "method_descriptor")) (hm : MtR X id r) (ho : QE X o to) (ha : QA X (e :: es) t) (hbase : attributeBase o name X.env (eval o X.env) = eval o X.env := by rfl) (hfew : ((backTo cpos (starEach (e :: es) X.env)).all (fun x => !x.1) && (backToKw cpos (keywordEach [] X.env)).all (fun x => x.1.isSome)
      && decide ((e :: es).length + ([] : List Keyword).length + (if ([] : List Keyword).isEmpty then 0 else 1) < 30)) = true := by rfl) (hline : (apos.endLine == cpos.line) = true := by rfl) (hs : starEach (e :: es) X.env = (false, eval e X.env) :: starEach es X.env := by rfl) (hplain : (backTo cpos (starEach es X.env)).any (·.1) = false := by rfl) : QE X (.Call (.Attribute o name apos) (e :: es) [] cpos) (tBM X.K T r to t) :=
  ⟨pe_bm pa slot hty hm ho.o ha.o hbase hfew hline hs hplain⟩
theorem qt_cmpR {a : Expr} {b : Expr} {op : CmpOp} {r : R2} (ho : OpR X (compareOp op) r) (ha : QE X a ta) (hb : QE X b tb) (hm : behindInMarks op b = false) : QT X (.Compare a [op] [b] pos) (tTest (tOp r ta tb)) :=
  ⟨pt_cmpR ho ha.o hb.o hm⟩
theorem qt_not {a : Expr} (ha : QT X a tA) : QT X (.UnaryOp .Not a pos) (tNot tA) :=
  ⟨pt_not ha.o⟩
theorem qt_val {e : Expr} {t : TE} (h : QE X e t) (he : ∀ whole, isTrue e X.env whole = (do let v ← whole; standAt e.pos; holding [v] (truthy v)) := by intro _; rfl) : QT X e (tB t) :=
  ⟨pt_val h.o he⟩
theorem qw_or {rest : List Expr} {a : Expr} {b : Expr} (ha : QT X a tA) (hb : QW X (.BoolOp .Or (b :: rest) pos) tB') : QW X (.BoolOp .Or (a :: b :: rest) pos) (tOr tA tB') :=
  ⟨pw_or ha.o hb.o⟩
theorem qw_or1 {a : Expr} (ha : QT X a tA) : QW X (.BoolOp .Or [a] pos) tA :=
  ⟨pw_or1 ha.o⟩
theorem qa_nil  : QA X [] tNil :=
  ⟨pa_nil ⟩
theorem qa_c {X : Cx} {e : Expr} {es : List Expr} {te : TE} {t : TA} (ha : QE X e te) (hr : QA X es t) (h : noStar e = true := by rfl) : QA X (e :: es) (tCons te t) :=
  ⟨pa_c ha.o hr.o h⟩
theorem qo_none  : QO X none tNoPart :=
  ⟨po_none ⟩
theorem qo_some {e : Expr} (h : QE X e te) : QO X (some e) (tPart te) :=
  ⟨po_some h.o⟩
theorem qi_list {l : Expr} {tl : TE} (hl : QE X l tl) : QI X tg l (iList X.K tl) :=
  ⟨pi_list hl.o⟩
theorem qi_tup {l : Expr} {tl : TE} (hl : QE X l tl) : QI X tg l (iTup X.K tl) :=
  ⟨pi_tup hl.o⟩
theorem qi_range1 {a : Expr} {ta : TA} {p pos : Pos} (hg : Gl X "range") (hm : X.mg "range" = none) (ha : QA X [a] ta) (hs : starEach [a] X.env = [(false, eval a X.env)] := by rfl) : QI X tg (.Call (.Name "range" p) [a] [] pos) (iRng1 ta) :=
  ⟨pi_range1 hg hm ha.o hs⟩
theorem qg_name {i : Nat} {x : Str} (hN : X.N.Nodup) (hi : X.N[i]? = some x) (hx : Loc X.env.scope x) (hf : X.fn x = true ∨ X.env.scope.names.lookup x = some .local := by first | exact .inl rfl | exact .inr rfl | assumption) : QG X (.Name x pos) (gName i) :=
  ⟨pg_name hN hi hx hf⟩
theorem qg_tup {es : List Expr} {k : Nat} {t : TGs} {n : Nat} (hc : X.calm = true) (h : QGs X es t) (hn : (assignEach es X.env).length = n := by rfl) (hst : (assignEach es X.env).findIdx? (·.1) = none := by rfl) : QG X (.Tuple es k pos) (gTup X.K n t) :=
  ⟨pg_tup hc h.o hn hst⟩
theorem qg_sub {o i : Expr} {to ti : TE} {t : TSet} (ho : QE X o to) (hi : QE X i ti) (hs : PSet X t) (ha : ∀ v, assign (.Subscript o i pos) X.env v = (do
      let ov ← holding [v] (eval o X.env)
      let iv ← holding [v, ov] (eval i X.env)
      standAt pos
      holding [v, ov, iv] (setItem ov iv v)
      release [v, ov, iv] []) := by intro _; rfl) : QG X (.Subscript o i pos) (gSub to ti t) :=
  ⟨pg_sub ho.o hi.o hs ha⟩
theorem qgs_nil  : QGs X [] gNil :=
  ⟨pgs_nil ⟩
theorem qgs_cons {e : Expr} {es : List Expr} {t : TG} {u : TGs} (h1 : QG X e t) (h2 : QGs X es u) (hs : (assignEach (e :: es) X.env).map (·.2) = assign e X.env :: (assignEach es X.env).map (·.2) := by rfl) : QGs X (e :: es) (gCons t u) :=
  ⟨pgs_cons h1.o h2.o hs⟩
theorem qs_set {i : Nat} {x : Str} {e : Expr} {te : TE} {pos' : Pos} (hN : X.N.Nodup) (hi : X.N[i]? = some x) (hx : Loc X.env.scope x) (he : QE X e te) (hs : swapsWith e (some (.Name x pos')) pos.line X.env = pure false := by rfl) (hf : X.fn x = true ∨ X.env.scope.names.lookup x = some .local := by first | exact .inl rfl | exact .inr rfl | assumption) : QS X (.Assign [.Name x pos'] e pos) (tAsg te (gName i)) :=
  ⟨ps_set hN hi hx he.o hs hf⟩
theorem qs_asg {tg e : Expr} {te : TE} {g : TG} (he : QE X e te) (hg : QG X tg g) (hs : swapsWithSole [tg] e pos.line X.env = pure false := by rfl) (hw : swappedStores [tg] e X.env = pure none := by rfl) (h1 : (assignEach [tg] X.env).map (·.2) = [assign tg X.env] := by rfl) : QS X (.Assign [tg] e pos) (tAsg te g) :=
  ⟨ps_asg he.o hg.o hs hw h1⟩
theorem qs_ret {e : Expr} (he : QE X e te) : QS X (.Return (some e) pos) (tRet te) :=
  ⟨ps_ret he.o⟩
theorem qs_expr {e : Expr} (he : QE X e te) (hs : swapsWith e none pos.line X.env = pure false := by rfl) : QS X (.Expr e pos) (tDrop te) :=
  ⟨ps_expr he.o hs⟩
theorem qs_if {c : Expr} {a b : List Stmt} {tc : TT} (hc : QT X c tc) (ha : QSs X a t) (hb : QSs X b u) : QS X (.If c a b pos) (tIfS tc t u) :=
  ⟨ps_if hc.o ha.o hb.o⟩
theorem qs_while {c : Expr} {body : List Stmt} {tc : TT} {tb : TS} (hp : PassesOwn (model X.prog X.w) X.A X.env X.xe) (hc : QT X c tc) (hb : QSs X body tb) : QS X (.While c body [] pos) (tWhile tc tb) :=
  ⟨ps_while hp hc.o hb.o⟩
theorem qs_for {iter : Expr} {body : List Stmt} {wi : TI} {g : TG} {tb : TS} {pos : Pos} (hp : PassesOwn (model X.prog X.w) X.A X.env X.xe) (hc : X.calm = true) (hi : QI X tg iter wi) (hg : QG X tg g) (hb : QSs X body tb) (hs : ∀ x, foldedSetIterable iter X.env x = pure x := by intro _; rfl) : QS X (.For tg iter body [] pos) (tFor wi g tb) :=
  ⟨ps_for hp hc hi.o hg.o hb.o hs⟩
theorem qss_nil  : QSs X [] tNext :=
  ⟨pss_nil ⟩
theorem qss_one {st : Stmt} (h1 : QS X st t) : QSs X [st] t :=
  ⟨pss_one h1.o⟩
theorem qss_cons {rest : List Stmt} {st : Stmt} (h1 : QS X st t) (h2 : QSs X rest u) : QSs X (st :: rest) (tSeq t u) :=
  ⟨pss_cons h1.o h2.o⟩
theorem qts_nil {X : Cx} : QTs X [] tNoTest :=
  ⟨pts_nil ⟩
theorem QW.pt {X : Cx} {e : Expr} {t : TT} (h : QW X e t) : QT X e t :=
  ⟨PW.pt h.o⟩
theorem qe_comp {X : Cx} {elt tg iter : Expr} {cs : List Expr} {scope : Scope} {pos : Pos} {cl : List (Str × Addr)} {N : List Str} {js : List (Option Nat)} {wi : TI} {g : TG} {tc : TT} {te : TE}
    (C : CompOk X scope cl N js) (hc : X.calm = true) (hi : QI X tg iter wi)
    (hg : ∀ fp pins s H, QG (compCx X scope cl N fp pins s H fun _ _ => False) tg g)
    (ht : ∀ fp pins s H, QTs (compCx X scope cl N fp pins s H fun _ _ => False) cs tc)
    (he : ∀ fp pins s H, QE (compCx X scope cl N fp pins s H fun _ _ => False) elt te)
    (hs : ∀ x, foldedSetIterable iter X.env x = pure x := by intro _; rfl) : QE X (.ListComp elt [⟨tg, iter, cs, 0⟩] scope pos) (tComp js wi g tc te) :=
  ⟨pe_comp C hc hi.o (fun a b c d => (hg a b c d).o) (fun a b c d => (ht a b c d).o) (fun a b c d => (he a b c d).o) hs⟩
theorem Fun.okQ {P : Program} {w : World} {K : PySem.W.Frag} {mg : Str → Option Value} {base : Heap} {x qual : Str} {st : Stmt} {f : Addr} {fd : FuncData} {N ps : List Str} {k : Nat} {sp : Sp} (F : Fun K x qual st f fd) (S : FnScope N ps (defScope st)) (len : ∀ vs H Q E, sp vs H Q E → vs.length = ps.length)
    (hbody : ∀ (cdv : Value) (A : Around) (outer : List Env) (s : Shared) (H : Hp) (vs : List V) (Q : VK) (E : XK), Room k (A.deeper (envOfC qual (defScope st) s.heap.objs.size f cdv)) → sp vs H Q E →
      ∃ t, QSs (cxOf CX0 P w K mg base N qual (defScope st) f cdv A outer s H E).nox (defBody st) t ∧ t { nx := fun _ H' => Q .non H', rt := Q } (start N vs) H) : FnOk P w K mg base CX0 (k + 1) f fd ps sp :=
  F.ok S len fun cdv A outer s H vs Q E hr h => let ⟨t, a, b⟩ := hbody cdv A outer s H vs Q E hr h; ⟨t, a.o, b⟩
end L2

set_option Elab.async false
set_option linter.all false
set_option maxRecDepth 100000
set_option maxHeartbeats 4000000
/-! THINGS OF KNOWN KINDS, two deep, and heaps that keep them; slices, sums, new things with the heap a letter. -/
namespace W2
open PySem L2
end W2
namespace L2
open PySem PySem.Spec PyProof.Rows
/-! ### rules whose heap behind is a letter -/
theorem OpR.imp {X : Cx} {f : Value → Value → Sem Value} {r r' : R2} (h : OpR X f r) (i : ∀ x y H Q, r' x y H Q → r x y H Q) : OpR X f r' := fun pins s σ H x y v u Q I rx ry z => h pins s σ H x y v u Q I rx ry (i x y H Q z)
theorem CallR.imp {X : Cx} {f : Value} {r r' : List V → Hp → VK → Prop} (h : CallR X f r) (i : ∀ xs H Q, r' xs H Q → r xs H Q) : CallR X f r' := fun pins s σ H xs us Q I rx z => h pins s σ H xs us Q I rx (i xs H Q z)
theorem SlR.imp {X : Cx} {r r' : V → Option Int → Option Int → Hp → VK → Prop} (h : SlR X r) (i : ∀ x lo hi H Q, r' x lo hi H Q → r x lo hi H Q) : SlR X r' := fun pins s σ H x v vl vu lo hi sl Q I rx a b c z => h pins s σ H x v vl vu lo hi sl Q I rx a b c (i x lo hi H Q z)
theorem MtM.imp {X : Cx} {id : String} {r r' : V → List V → Hp → VK → Prop} (h : MtM X id r) (i : ∀ x xs H Q, r' x xs H Q → r x xs H Q) : MtM X id r' := fun pins s σ H x xs v us Q I rx rs z => h pins s σ H x xs v us Q I rx rs (i x xs H Q z)
/-- a new thing o: its address, the heap behind -/
def NewA (o : HO) (H : Hp) (Q : VK) : Prop := ∀ p H', H p = none → Same H H' → H' p = some o → Q (.ref p) H'
theorem NewA.at {o : HO} {H : Hp} {Q : VK} (q : NewA o H Q) : ∀ p, H p = none → Q (.ref p) (upd H p o) := fun p hp => q p _ hp (W2.Same.new hp) upd_same
def tTupA (t : TA) : TE := fun σ H Q => t σ H fun xs H1 => xs.length ≤ sizeLine ∧ NewA (.tup xs) H1 Q
def tLstA (t : TA) : TE := fun σ H Q => t σ H fun xs H1 => xs.length ≤ sizeLine ∧ NewA (.lst xs) H1 Q
section
variable {X : Cx}
theorem qe_tupA {es : List Expr} {t : TA} {x1} {pos : Pos} (h : QA X es t) : QE X (.Tuple es x1 pos) (tTupA t) := ⟨by
  intro pins s σ H Q I hq
  refine wpAny_Tuple_spliced (thn (h.o pos pins s σ H _ I hq) fun us s1 ⟨xs, H1, I1, r, z, q⟩ => ⟨by rw [← r.length]; exact z, ?_⟩)
  have hf : H1 s1.heap.objs.size = none := I1.hok.fresh (Nat.le_refl _)
  refine ⟨.ref s1.heap.objs.size, upd H1 s1.heap.objs.size (.tup xs), I1.laid (t' := s1.toks) (fun b u e => Heap.get?_push_of_some _ e) (Nat.le_refl _) ?_, rfl, q.at _ hf⟩
  exact ⟨z, us, r, ⟨_, Heap.get?_push_size _ rfl, rfl, _, rfl⟩⟩⟩
theorem qe_lstA {es : List Expr} {t : TA} {pos : Pos} (h : QA X es t) : QE X (.List es pos) (tLstA t) := ⟨by
  intro pins s σ H Q I hq
  refine wpAny_List_spliced (thn (h.o pos pins s σ H _ I hq) fun us s1 ⟨xs, H1, I1, r, z, q⟩ => ⟨by rw [← r.length]; exact z, ?_⟩)
  have hf : H1 s1.heap.objs.size = none := I1.hok.fresh (Nat.le_refl _)
  refine ⟨.ref s1.heap.objs.size, upd H1 s1.heap.objs.size (.lst xs), I1.laid (t' := s1.toks) (fun b u e => Heap.get?_push_of_some _ e) (Nat.le_refl _) ?_, rfl, q.at _ hf⟩
  exact ⟨z, us, 0, r, Heap.get?_push_size _ rfl⟩⟩
def rCatLA : R2 := fun x y H Q => ∃ l b xs zs, x = .ref l ∧ y = .ref b ∧ H l = some (.lst xs) ∧ H b = some (.lst zs) ∧ xs.length + zs.length ≤ sizeLine ∧ NewA (.lst (xs ++ zs)) H Q
theorem op_catLA : OpR X (binaryOp .Add) rCatLA := op_cat.imp fun x y H Q ⟨l, b, xs, zs, e1, e2, h1, h2, h3, q⟩ => ⟨l, b, xs, zs, e1, e2, h1, h2, h3, q.at⟩
def rRepLA : R2 := fun x y H Q => ∃ l k xs, x = .ref l ∧ y = .int k ∧ H l = some (.lst xs) ∧ -(2 ^ 63) ≤ k ∧ k < 2 ^ 63 ∧ xs.length * k.toNat ≤ sizeLine ∧ NewA (.lst (List.replicate k.toNat xs).flatten) H Q
theorem op_repLA : OpR X (binaryOp .Mult) rRepLA := op_rep.imp fun x y H Q ⟨l, k, xs, e1, e2, h1, h2, h3, h4, q⟩ => ⟨l, k, xs, e1, e2, h1, h2, h3, h4, q.at⟩
theorem call_tuple_ofA : CallR X (.type "tuple") (fun xs H Q => ∃ p ys, xs = [.ref p] ∧ SqL X.K H p ys ∧ NewA (.tup ys) H Q) := call_tuple_of.imp fun xs H Q ⟨p, ys, e, h, q⟩ => ⟨p, ys, e, .inl ⟨h, q.at⟩⟩
def rAppendA : V → List V → Hp → VK → Prop := fun x vs H Q => ∃ l xs y, x = .ref l ∧ vs = [y] ∧ H l = some (.lst xs) ∧ xs.length < sizeLine ∧ ∀ H', W2.But l H H' → H' l = some (.lst (xs ++ [y])) → Q .non H'
theorem mt_appendA : MtM X "list.append" rAppendA := mt_append.imp fun x vs H Q ⟨l, xs, y, e1, e2, h1, h2, q⟩ => ⟨l, xs, y, e1, e2, h1, h2, q _ W2.But.upd upd_same⟩
end
end L2
namespace W2
open PySem L2
/-- all is kept, but what lists hold -/
def Keep (H H' : Hp) : Prop := ∀ b o, H b = some o → H' b = some o ∨ ∃ xs ys, o = .lst xs ∧ H' b = some (.lst ys)
theorem Keep.refl (H : Hp) : Keep H H := fun _ _ h => .inl h
theorem Keep.of {H H' : Hp} (s : Same H H') : Keep H H' := fun b o h => .inl (s b o h)
theorem Keep.trans {H H1 H2 : Hp} (x : Keep H H1) (y : Keep H1 H2) : Keep H H2 := fun b o h => by
  rcases x b o h with z | ⟨xs, ys, rfl, z⟩
  · exact y b o z
  · rcases y b _ z with z2 | ⟨us, vs, e, z2⟩
    · exact .inr ⟨xs, ys, rfl, z2⟩
    · exact .inr ⟨xs, vs, rfl, z2⟩
theorem Keep.but {a : Addr} {H H' : Hp} {xs ys : List V} (bt : But a H H') (h : H a = some (.lst xs)) (h' : H' a = some (.lst ys)) : Keep H H' := fun b o e => by
  by_cases z : b = a
  · subst z
    rw [h] at e
    cases e
    exact .inr ⟨xs, ys, rfl, h'⟩
  · exact .inl (bt b o z e)
theorem Keep.tup {H H' : Hp} (k : Keep H H') {b : Addr} {xs : List V} (h : H b = some (.tup xs)) : H' b = some (.tup xs) := by
  rcases k b _ h with z | ⟨_, _, e, _⟩
  · exact z
  · cases e
theorem Keep.kind {H H' : Hp} (s : Keep H H') {v : V} (k : kindV H v) : kindV H' v := by
  cases v with
  | ref a =>
    rcases (show (∃ xs, H a = some (.tup xs)) ∨ (∃ xs, H a = some (.lst xs)) ∨ (∃ kvs, H a = some (.dK kvs)) from k) with ⟨xs, e⟩ | ⟨xs, e⟩ | ⟨kvs, e⟩
    · exact .inl ⟨xs, s.tup e⟩
    · rcases s _ _ e with z | ⟨_, ys, _, z⟩
      · exact .inr (.inl ⟨xs, z⟩)
      · exact .inr (.inl ⟨ys, z⟩)
    · rcases s _ _ e with z | ⟨_, ys, w, z⟩
      · exact .inr (.inr ⟨kvs, z⟩)
      · cases w
  | non => trivial
  | bl b => trivial
  | int i => trivial
  | str x => trivial
  | byt b => exact False.elim k
  | flt b => exact False.elim k
  | ty b => exact False.elim k
section
variable {H : Hp} {p : Addr} {xs : List V}
end
end W2

set_option Elab.async false
set_option linter.all false
set_option maxRecDepth 100000
set_option maxHeartbeats 4000000
namespace L2
open PySem PySem.Spec PyProof.Rows
/-! ### lists of pairs as tables -/
section
variable {κ : Type} [DecidableEq κ]
def valV (kvs : List (κ × V)) (k : κ) : Option V := (kvs.find? fun kv => decide (kv.1 = k)).map (·.2)
/-- in its place, or at the end -/
def putK (kvs : List (κ × V)) (k : κ) (v : V) : List (κ × V) :=
  if (kvs.any fun kv => decide (kv.1 = k)) = true then kvs.map (fun kv => if kv.1 = k then (kv.1, v) else kv) else kvs ++ [(k, v)]
def dropK (kvs : List (κ × V)) (k : κ) : List (κ × V) := kvs.filter fun kv => decide (kv.1 ≠ k)

theorem valV_pos {p : κ × V} {r : List (κ × V)} {k : κ} (e : p.1 = k) : valV (p :: r) k = some p.2 := by simp [valV, List.find?_cons, e]
theorem valV_neg {p : κ × V} {r : List (κ × V)} {k : κ} (e : ¬ p.1 = k) : valV (p :: r) k = valV r k := by simp [valV, List.find?_cons, e]
theorem RelO.getD {o : Option V} {u : Option Value} {d : V} {d' : Value} (r : RelO o u) (rd : RelV d d') : RelV (o.getD d) (u.getD d') := by
  cases o with
  | none => cases u with
    | none => exact rd
    | some _ => exact (show False from r).elim
  | some _ => cases u with
    | none => exact (show False from r).elim
    | some _ => exact r

/-- raw tables of the same keys -/
theorem KV.val {kvs : List (κ × V)} {vs : List (κ × Value)} (r : KV kvs vs) (k : κ) : RelO (valV kvs k) (valueAt vs k) := by
  unfold KV at r
  induction r with
  | nil => exact True.intro
  | @cons p q ps qs h t ih =>
    obtain ⟨h1, h2⟩ := h
    by_cases e : p.1 = k
    · have e' : q.1 = k := h1.symm.trans e
      have b : valueAt (q :: qs) k = some q.2 := by simp [valueAt, List.find?_cons, e']
      rw [valV_pos e, b]; exact h2
    · have e' : ¬ q.1 = k := fun z => e (h1.trans z)
      have b : valueAt (q :: qs) k = valueAt qs k := by simp [valueAt, List.find?_cons, e']
      rw [valV_neg e, b]; exact ih
theorem KV.any {kvs : List (κ × V)} {vs : List (κ × Value)} (r : KV kvs vs) (k : κ) : (kvs.any fun kv => decide (kv.1 = k)) = vs.any fun kv => decide (kv.1 = k) := by
  unfold KV at r
  induction r with
  | nil => rfl
  | cons h t ih => rw [List.any_cons, List.any_cons, ih, h.1]
theorem KV.drop {kvs : List (κ × V)} {vs : List (κ × Value)} (r : KV kvs vs) (k : κ) : KV (dropK kvs k) (without vs k) := by
  unfold KV at r ⊢
  unfold dropK without
  induction r with
  | nil => exact .nil
  | @cons p q ps qs h t ih =>
    obtain ⟨h1, h2⟩ := h
    rw [List.filter_cons, List.filter_cons]
    by_cases e : p.1 = k
    · have a : ¬ decide (p.1 ≠ k) = true := by simp [e]
      have b : ¬ decide (q.1 ≠ k) = true := by simp [h1.symm.trans e]
      rw [if_neg a, if_neg b]; exact ih
    · have e' : ¬ q.1 = k := fun z => e (h1.trans z)
      have a : decide (p.1 ≠ k) = true := by simp [e]
      have b : decide (q.1 ≠ k) = true := by simp [e']
      rw [if_pos a, if_pos b]; exact .cons ⟨h1, h2⟩ ih
theorem KV.keys {kvs : List (κ × V)} {vs : List (κ × Value)} (r : KV kvs vs) : kvs.map (·.1) = vs.map (·.1) := by
  unfold KV at r
  induction r with
  | nil => rfl
  | cons h t ih => rw [List.map_cons, List.map_cons, ih, h.1]
theorem KV.length {kvs : List (κ × V)} {vs : List (κ × Value)} (r : KV kvs vs) : kvs.length = vs.length := Paired.length r
end


/-! ### a tracked dict, its keys ints and texts or tuples of these -/
/-- raw entries of a dict with tuple keys -/
abbrev KT (H : Hp) : List (List Key × V) → List (List Key × Addr × Value) → Prop := Paired fun p q => p.1 = q.1 ∧ H q.2.1 = some (.tup (p.1.map kV)) ∧ RelV p.2 q.2.2
theorem KT.val {H : Hp} {kvs : List (List Key × V)} {xs : List (List Key × Addr × Value)} (r : KT H kvs xs) (k : List Key) : RelO (valV kvs k) ((atKey xs k).map (·.2)) := by
  induction r with
  | nil => exact True.intro
  | @cons p q ps qs h t ih =>
    obtain ⟨h1, _, h2⟩ := h
    by_cases e : p.1 = k
    · have e' : q.1 = k := h1.symm.trans e
      have b : atKey (q :: qs) k = some q.2 := by simp [atKey, List.find?_cons, e']
      rw [valV_pos e, b]; exact h2
    · have e' : ¬ q.1 = k := fun z => e (h1.trans z)
      have b : atKey (q :: qs) k = atKey qs k := by simp [atKey, List.find?_cons, e']
      rw [valV_neg e, b]; exact ih
theorem KT.keeps {H H' : Hp} {kvs : List (List Key × V)} {xs : List (List Key × Addr × Value)} (r : KT H kvs xs) (ht : ∀ b ys, H b = some (.tup ys) → H' b = some (.tup ys)) : KT H' kvs xs :=
  Paired.mapP r fun _ _ z => ⟨z.1, ht _ _ z.2.1, z.2.2⟩

section
variable {P : Program} {w : World} {H : Hp} {h : Heap} {a : Addr}
end

/-- what the dict at a holds at the key y -/
def DGet (H : Hp) (a : Addr) (y : V) (r : Option V) : Prop :=
  (∃ kvs k, Rd H a (.dK kvs) ∧ y = kV k ∧ r = valV kvs k) ∨ ∃ kvs k b, Rd H a (.dT kvs) ∧ y = .ref b ∧ H b = some (.tup (k.map kV)) ∧ r = valV kvs k
/-- the heap behind a[y] = v -/
def DPut (H : Hp) (a : Addr) (y v : V) (H' : Hp) : Prop :=
  (∃ kvs k, H a = some (.dK kvs) ∧ y = kV k ∧ kvs.length < sizeLine ∧ H' = upd H a (.dK (putK kvs k v))) ∨
  ∃ kvs k b, H a = some (.dT kvs) ∧ y = .ref b ∧ H b = some (.tup (k.map kV)) ∧ kvs.length < sizeLine ∧ H' = upd H a (.dT (putK kvs k v))
theorem DGet.k {H : Hp} {a : Addr} {kvs : List (Key × V)} {k : Key} (e : H a = some (.dK kvs)) : DGet H a (kV k) (valV kvs k) := .inl ⟨kvs, k, .inl e, rfl, rfl⟩
theorem DGet.t {H : Hp} {a b : Addr} {kvs : List (List Key × V)} {k : List Key} (e : H a = some (.dT kvs)) (eb : H b = some (.tup (k.map kV))) : DGet H a (.ref b) (valV kvs k) := .inr ⟨kvs, k, b, .inl e, rfl, eb, rfl⟩
theorem DPut.k {H : Hp} {a : Addr} {kvs : List (Key × V)} {k : Key} {v : V} (e : H a = some (.dK kvs)) (hl : kvs.length < sizeLine) : DPut H a (kV k) v (upd H a (.dK (putK kvs k v))) := .inl ⟨kvs, k, e, rfl, hl, rfl⟩
theorem DPut.t {H : Hp} {a b : Addr} {kvs : List (List Key × V)} {k : List Key} {v : V} (e : H a = some (.dT kvs)) (eb : H b = some (.tup (k.map kV))) (hl : kvs.length < sizeLine) :
    DPut H a (.ref b) v (upd H a (.dT (putK kvs k v))) := .inr ⟨kvs, k, b, e, rfl, eb, hl, rfl⟩


section
variable {X : Cx} {pins : List (Addr × Obj)} {σ : St} {H : Hp} {s : Shared} {a : Addr} {y v : V} {u r : Value} {o : Option V} {A : Around} {E : Value → Shared → Prop}

theorem Inv.big (I : Inv X pins σ H s) : sysModules < s.heap.objs.size := by
  have h : mainGlobals < s.heap.objs.size := (I.mod.glob.keeps I.bk).lt
  exact Nat.lt_trans (by decide) h

end

section
variable {X : Cx} {pins : List (Addr × Obj)} {σ : St} {H : Hp} {s : Shared} {a : Addr} {kvs : List (Key × V)} {k : Key} {u : Value} {A : Around} {E : Value → Shared → Prop}
end


/-! ### readings and rules -/
section
variable {X : Cx} {o i e value : Expr} {pos pos' tpos : Pos} {td ty tv : TE}
end


/-! ### displays -/
section
variable {X : Cx} {pos : Pos}
end

end L2

set_option Elab.async false
set_option linter.all false
set_option maxRecDepth 100000
set_option maxHeartbeats 4000000
/-! ENUMERATE of a list; least, greatest and sum of ints; what is never reached. -/
namespace L2
open PySem PySem.Spec PyProof.Rows
theorem qs_never {X : Cx} {st : Stmt} : QS X st tNever := ⟨ps_never⟩
/-- a list walked with its places: each turn hands out a new pair -/
def Ite (a : Addr) : It :=
  ⟨fun i H => ∃ xs x, H a = some (.lst xs) ∧ xs[i]? = some x,
   fun i H v H' => ∃ p, H p = none ∧ v = .ref p ∧ ∃ x, H' = upd H p (.tup [.int (i : Int), x]) ∧ ∀ xs, H a = some (.lst xs) → xs[i]? = some x,
   fun i H => ∃ xs, H a = some (.lst xs) ∧ xs.length ≤ i⟩
theorem turn_enum {P : Program} {w : World} {K : PySem.W.Frag} {tg : Expr} (htg : tupleTg tg = true) {e it a : Addr} (hne : e ≠ it) :
    Turn P w K tg (Ite a) [e, it] e (fun i h => (∃ old, IsEnum h e it (i : Int) old) ∧ h.IsListIter it a i) where
  mem := List.mem_cons_self
  obj := fun i h st c hc => by
    obtain ⟨⟨old, h1⟩, ⟨o4, h4, _, d4⟩⟩ := st
    have nof : ∀ {o : Obj} {vs : Array Value}, o.data = .fields vs → ∀ v, o.data ≠ .cell v := fun e v q => by rw [e] at q; cases q
    simp only [List.mem_cons, List.not_mem_nil, or_false] at hc
    rcases hc with rfl | rfl
    · exact ⟨_, h1, nof rfl⟩
    · exact ⟨_, h4, nof d4⟩
  keep := fun i h h' st k => by
    obtain ⟨⟨old, h1⟩, ⟨o4, h4, r4⟩⟩ := st
    exact ⟨⟨old, k _ (by simp) _ h1⟩, ⟨o4, k _ (by simp) _ h4, r4⟩⟩
  item := by
    intro X hP hw hK hc i pins s σ H E I hf st hg
    subst hP hw hK
    obtain ⟨⟨old, h1⟩, h4⟩ := st
    obtain ⟨xs, x, qa, hx⟩ := hg
    obtain ⟨z, its, n, rv, hlen, e0⟩ := I.lstM qa
    obtain ⟨ux, eux, rux⟩ := rv.get hx
    refine wpAny_pyNext_enum_item h1 h4 (show s.heap.IsList a its.toArray from ⟨_, e0, rfl, n, rfl⟩) (x := ux) (by simpa using eux) hne fun g b1 b2 b3 b4 b5 => ?_
    refine ⟨_, rfl, ?_⟩
    have elt : e < s.heap.objs.size := Heap.lt_size h1
    cases tg with
    | Tuple es kk pp =>
      refine wpAny_letOwnedTupleGo_enum b1 fun g' c1 sb => ?_
      have new : g'.get? s.heap.objs.size = some { cls := .type "tuple", data := .seq #[.int i s.toks, ux] } := sb.extBut _ _ (Nat.ne_of_gt elt) b3
      have I1 : Inv X pins σ (upd H s.heap.objs.size (.tup [.int (i : Int), x])) { s with heap := g', toks := s.toks + 1 } := by
        refine I.turnedNew (t' := s.toks + 1) (L := [e, it]) (fun c o hcn eo => ?_) hf (Nat.le_refl _) ⟨by show 2 ≤ sizeLine; decide, [.int i s.toks, ux], .cons ⟨_, rfl⟩ (.cons rux .nil), ⟨_, new, rfl, 0, rfl⟩⟩
        simp only [List.mem_cons, List.not_mem_nil, or_false, not_or] at hcn
        exact sb.extBut c o hcn.1 (b5 c o hcn.1 hcn.2 eo)
      refine ⟨.ref s.heap.objs.size, _, I1, rfl, ⟨_, I.fresh, rfl, x, rfl, fun xs' q1 => ?_⟩, ⟨⟨ux, ?_⟩, b2.extBut sb.extBut hne.symm⟩, fun c hcm => ?_⟩
      · rw [qa] at q1; cases q1; exact hx
      · rw [show ((i + 1 : Nat) : Int) = (i : Int) + 1 by omega]; exact c1
      · obtain ⟨o, eo⟩ : ∃ o, s.heap.get? c = some o := by
          simp only [List.mem_cons, List.not_mem_nil, or_false] at hcm
          rcases hcm with rfl | rfl
          · exact ⟨_, h1⟩
          · obtain ⟨o4, g4, _⟩ := h4
            exact ⟨_, g4⟩
        rw [upd_ne (Nat.ne_of_lt (Heap.lt_size eo))]
        exact (hf c hcm).1
    | _ => exact absurd (show false = true from htg) Bool.false_ne_true
  done := by
    intro X hP hw hK hc i pins s σ H E I hf st hg
    subst hP hw hK
    obtain ⟨⟨old, h1⟩, h4⟩ := st
    obtain ⟨xs, qa, hl⟩ := hg
    obtain ⟨z, its, n, rv, hlen, e0⟩ := I.lstM qa
    refine wpAny_pyNext_enum_end (I.ok.hd hc) h1 h4 (show s.heap.IsList a its.toArray from ⟨_, e0, rfl, n, rfl⟩) (by simp; omega) fun g up => ⟨rfl, ?_⟩
    refine I.turnedL (t' := s.toks) (L := [e, it]) (fun c o hcn eo => ?_) hf
    simp only [List.mem_cons, List.not_mem_nil, or_false, not_or] at hcn
    exact up c o hcn.2 eo
  self := fun _ _ _ _ _ st h => by
    obtain ⟨⟨old, h1⟩, _⟩ := st
    exact wpAny_pyIter_enum h1 h
section
variable {X : Cx} {tg : Expr}
def iEnum (ta : TA) : TI := fun σ H R => ta σ H fun vs H1 => ∃ a xs, vs = [.ref a] ∧ H1 a = some (.lst xs) ∧ R (Ite a) H1
theorem pi_enum {e1 : Expr} {ta : TA} {p pos : Pos} (htg : tupleTg tg = true) (hg : Gl X "enumerate") (hm : X.mg "enumerate" = none) (ha : PA X [e1] ta) (hs : starEach [e1] X.env = [(false, eval e1 X.env)] := by rfl)
    (hb : bootBuiltins "enumerate" = some (.type "enumerate") := by decide +kernel) : PI X tg (.Call (.Name "enumerate" p) [e1] [] pos) (iEnum ta) := by
  intro pins s σ H R I h
  refine Call_ (ld_blt I hg hm hb (PyProof.Rows.callWith_type1 (thn (ha pos pins s σ H _ I h) fun us s1 ⟨vs, H1, I1, r1, q1⟩ => ?_) hs rfl))
  obtain ⟨a, xs, e, qa, q⟩ := q1
  subst e
  obtain ⟨u1, rfl, ra⟩ := vals1 r1
  cases ra
  obtain ⟨z, its, n, rv, hlen, e0⟩ := I1.lstM qa
  refine call_enumerate_1 e0 fun g z1 z2 z3 up => ?_
  refine wpAny_pyIter_enum z1 ?_
  have I2 : Inv X pins σ H1 { s1 with heap := g } := I1.kept (t' := s1.toks) up
  refine ⟨_, [s1.heap.objs.size + 1, s1.heap.objs.size], _, _, H1, rfl, I2, turn_enum htg (Nat.ne_of_gt (Nat.lt_succ_self _)), ⟨⟨_, z1⟩, z2⟩, fun c hc => ?_, q⟩
  have big : s1.heap.objs.size ≤ c := by
    simp only [List.mem_cons, List.not_mem_nil, or_false] at hc
    rcases hc with rfl | rfl
    · exact Nat.le_add_right _ _
    · exact Nat.le_refl _
  exact I1.fpOk big (I1.hok.fresh big)
theorem qi_enum {e1 : Expr} {ta : TA} {p pos : Pos} (htg : tupleTg tg = true) (hg : Gl X "enumerate") (hm : X.mg "enumerate" = none) (ha : QA X [e1] ta) (hs : starEach [e1] X.env = [(false, eval e1 X.env)] := by rfl)
    (hb : bootBuiltins "enumerate" = some (.type "enumerate") := by decide +kernel) : QI X tg (.Call (.Name "enumerate" p) [e1] [] pos) (iEnum ta) := ⟨pi_enum htg hg hm ha.o hs hb⟩
end
/-- for i, x in enumerate(l) -/
theorem for_enum {a : Addr} {xs : List V} {g : TG} {tb : TS} {D : Ends} {σ : St} {H : Hp} (Pv : Nat → St → Hp → Prop) (h0 : Pv 0 σ H) (hl : ∀ i σ H, i ≤ xs.length → Pv i σ H → H a = some (.lst xs))
    (hs : ∀ i x p σ H, xs[i]? = some x → H p = none → Pv i σ H → g (.ref p) σ (upd H p (.tup [.int (i : Int), x])) fun σ2 H2 => tb { D with nx := Pv (i + 1), ct := Pv (i + 1), bk := D.nx } σ2 H2) (hd : ∀ σ H, Pv xs.length σ H → D.nx σ H) :
    ∃ W : Nat → Nat → St → Hp → Prop, (∃ m, W 0 m σ H) ∧ ∀ i m σ H, W i m σ H →
      ((Ite a).stop i H ∧ D.nx σ H) ∨ ((Ite a).go i H ∧ ∃ N : St → Hp → Prop, (∀ σ' H', N σ' H' → ∃ m', m' < m ∧ W (i + 1) m' σ' H') ∧ ∀ x H', (Ite a).yld i H x H' → g x σ H' fun σ2 H2 => tb { D with nx := N, ct := N, bk := D.nx } σ2 H2) := by
  refine ⟨fun i m σ H => m = xs.length - i ∧ i ≤ xs.length ∧ Pv i σ H, ⟨_, rfl, Nat.zero_le _, h0⟩, ?_⟩
  rintro i m σ H ⟨rfl, hi, p⟩
  have qa := hl i σ H hi p
  by_cases hlt : i < xs.length
  · refine .inr ⟨⟨xs, xs[i], qa, by simp [hlt]⟩, Pv (i + 1), fun σ' H' p' => ⟨xs.length - (i + 1), by omega, rfl, hlt, p'⟩, fun v H' yv => ?_⟩
    obtain ⟨q, hq, rfl, x, rfl, hxy⟩ := yv
    exact hs i x q σ H (hxy xs qa) hq p
  · have e : i = xs.length := by omega
    refine .inl ⟨⟨xs, qa, by omega⟩, hd σ H (e ▸ p)⟩
section
variable {X : Cx}
/-- the sum of a list's ints -/
theorem call_sumL (hc : X.calm = true) : CallR X (.builtin "sum") (fun xs H Q => ∃ (p : Addr) (ns : List Int), xs = [.ref p] ∧ SqL X.K H p (ns.map V.int) ∧ Q (.int ns.sum) H) := by
  intro pins s σ H xs us Q I r h
  obtain ⟨p, ns, rfl, hq, q⟩ := h
  obtain ⟨u, rfl, rx⟩ := vals1 r
  cases rx
  obtain ⟨its, r', pl, hz⟩ := I.list hq
  have hl := pl.isList
  have hi := intsAre_of r'
  obtain ⟨xs, e⟩ := hi.allInts.items
  have hns : ns = xs.toList.map (·.1) := by rw [← hi.numsOf, ← nums_intItems, ← e]
  rw [e] at hl
  refine sum_intListG (I.ok.hd hc) hl fun h' tk t' hk => ?_
  rw [preSum_eq, List.take_of_length_le (by simp), ← hns]
  exact ⟨.int ns.sum, H, I.kept hk, ⟨_, rfl⟩, q⟩
end
end L2

set_option Elab.async false
set_option linter.all false
set_option maxRecDepth 100000
set_option maxHeartbeats 4000000
/-! SORTED of a list of tuples of ints; == and in of tuples of ints. -/
namespace Srt
open PySem PySem.W PyProof.Rows
/-- what the tree of questions comes to, by answers that are known -/
def ev {α : Type} (f : Nat → Nat → Bool) : KasT α → α
  | .ret a => a
  | .ask i j k => ev f (k (f i j))
/-- its questions are of places below n, its ends are as P says -/
def In {α : Type} (n : Nat) (P : α → Prop) : KasT α → Prop
  | .ret a => P a
  | .ask i j k => i < n ∧ j < n ∧ ∀ b, In n P (k b)
theorem In.bind {α β : Type} {n : Nat} {P : α → Prop} {R : β → Prop} {f : α → KasT β} : ∀ (t : KasT α), In n P t → (∀ a, P a → In n R (f a)) → In n R (t.bind f)
  | .ret a, h, hf => hf a h
  | .ask i j k, h, hf => ⟨h.1, h.2.1, fun b => In.bind (k b) (h.2.2 b) hf⟩
theorem In.mono {α : Type} {n : Nat} {P R : α → Prop} (hP : ∀ a, P a → R a) : ∀ (t : KasT α), In n P t → In n R t
  | .ret a, h => hP a h
  | .ask i j k, h => ⟨h.1, h.2.1, fun b => In.mono hP (k b) (h.2.2 b)⟩
theorem In.ev {α : Type} {n : Nat} {P : α → Prop} {f : Nat → Nat → Bool} : ∀ (t : KasT α), In n P t → P (Srt.ev f t)
  | .ret _, h => h
  | .ask i j k, h => In.ev (k (f i j)) (h.2.2 _)
/-- the places 0 .. n - 1 in some order -/
def okp (n : Nat) (p : Array Nat) : Prop := p.toList.Perm (List.range n)
theorem okp.lt {n : Nat} {p : Array Nat} (h : okp n p) (hn : 0 < n) (k : Nat) : p.getD k 0 < n := by
  by_cases hk : k < p.size
  · have e : p.getD k 0 = p.toList[k]'(by simpa using hk) := by simp [Array.getD, hk]
    rw [e]
    exact List.mem_range.mp (h.mem_iff.mp (List.getElem_mem _))
  · have e : p.getD k 0 = 0 := by simp [Array.getD, hk]
    rw [e]; exact hn
section
variable {n : Nat} (hn : 0 < n)
include hn
end
section
variable {prog : Program} {w : World} {A : Around} {E : Value → Shared → Prop} {s : Shared}
/-- tuples of ints stand at vs, as ns tells -/
def Tups (h : Heap) (vs : List Value) (ns : List (List Int)) : Prop := vs.length = ns.length ∧ ∀ i : Nat, i < vs.length → ∃ a o xs n, vs.getD i .none = .ref a ∧ h.get? a = some o ∧ o.cls = .type "tuple" ∧ o.data = .seq xs n ∧ IntsAre xs.toList (ns.getD i []) ∧ ns.getD i [] ≠ []
theorem Tups.kept {h h' : Heap} {vs : List Value} {ns : List (List Int)} (t : Tups h vs ns) {c : Addr} (k : ∀ b o, b ≠ c → h.get? b = some o → h'.get? b = some o) (hc : ∀ o, h.get? c = some o → o.cls ≠ .type "tuple") : Tups h' vs ns := by
  refine ⟨t.1, fun i hi => ?_⟩
  obtain ⟨a, o, xs, n, h1, h2, h3, h4, h5, h6⟩ := t.2 i hi
  exact ⟨a, o, xs, n, h1, k a o (fun z => hc o (z ▸ h2) h3) h2, h3, h4, h5, h6⟩
end
end Srt
namespace L2
open PySem PySem.Spec PyProof.Rows
/-- tuples of ints, one for each row -/
def RowV (H : Hp) (x : V) (c : List Int) : Prop := ∃ a, x = .ref a ∧ H a = some (.tup (c.map V.int))
def RowsV (H : Hp) (xs : List V) (cs : List (List Int)) : Prop := xs.length = cs.length ∧ ∀ (i : Nat) (x : V), xs[i]? = some x → ∃ c, cs[i]? = some c ∧ RowV H x c
section
variable {X : Cx}
end
end L2

set_option Elab.async false
set_option linter.all false
set_option maxRecDepth 100000
set_option maxHeartbeats 4000000
/-! EXCEPTIONS over the hand layer: what a frame's note writes, to the object. -/
namespace Xn
open PySem PyProof.Rows
theorem dict_mapFields (o : Obj) (f : Array Value → Array Value) : (Obj.mapFields f o).dict = o.dict := by
  unfold Obj.mapFields
  split <;> rfl
/-- an exception's record: its class, its dict, the head of its notes -/
def Rec (h : Heap) (e : Addr) (C : Value) (d : Option Addr) (head : Value) : Prop := ∃ oe vs, h.get? e = some oe ∧ oe.cls = C ∧ oe.dict = d ∧ oe.data = .fields vs ∧ vs[1]? = some head
/-- a note -/
def Ent (h : Heap) (T : Addr) (fl : Value) : Prop := ∃ oT ts, h.get? T = some oT ∧ oT.data = .fields ts ∧ ts[3]? = some fl
/-- the frames' addresses -/
abbrev fra (l : List Env) : List Addr := l.filterMap (·.frame)
/-- all is kept but what stands in L; of the frames F the slots may change -/
def KeptBut (L F : List Addr) (h h' : Heap) : Prop := (∀ b o, b ∉ L → b ∉ F → h.get? b = some o → h'.get? b = some o) ∧ ∀ b o, b ∉ L → b ∈ F → h.get? b = some o → ∃ sl, h'.get? b = some { o with slots := sl }
theorem KeptBut.trans {L L' F : List Addr} {h h1 h2 : Heap} (x : KeptBut L F h h1) (y : KeptBut L' F h1 h2) : KeptBut (L ++ L') F h h2 := by
  refine ⟨fun b o nl nf e => ?_, fun b o nl hf e => ?_⟩
  · exact y.1 b o (fun z => nl (List.mem_append_right _ z)) nf (x.1 b o (fun z => nl (List.mem_append_left _ z)) nf e)
  · obtain ⟨sl, e1⟩ := x.2 b o (fun z => nl (List.mem_append_left _ z)) hf e
    obtain ⟨sl', e2⟩ := y.2 b _ (fun z => nl (List.mem_append_right _ z)) hf e1
    exact ⟨sl', e2⟩
theorem KeptBut.mono {L L' F : List Addr} {h h' : Heap} (x : KeptBut L F h h') (s : ∀ b ∈ L, b ∈ L') : KeptBut L' F h h' :=
  ⟨fun b o nl nf e => x.1 b o (fun z => nl (s b z)) nf e, fun b o nl hf e => x.2 b o (fun z => nl (s b z)) hf e⟩
section
variable {M : Model} {A : Around} {E : Value → Shared → Prop} {s : Shared}
theorem entryP {base : Heap} {env : Env} {outer : List Env} {L e : Addr} {oe : Obj} {vs : Array Value} {head : Value} {hadNext : Bool} {Q : Unit → Shared → Prop}
    (hfr : A.frames = some (env :: outer)) (hl : s.heap.FunFrames base (env :: outer)) (hf : env.frame = some L)
    (he : s.heap.get? e = some oe) (hd : oe.data = .fields vs) (hsz : 1 < vs.size)
    (h : ∀ h' T, s.heap.get? T = none → KeptBut [e] (fra (env :: outer)) s.heap h' → Rec h' e oe.cls oe.dict (.ref T) → Ent h' T (rawInt L) → Q () { s with heap := h' }) :
    wpAny M A (do let a ← frameOf env; let pl ← entryPlaceOf L hadNext; let b ← EntryCells.newEntry head a .none (rawInt L) .none pl; setField (.ref e) 1 b) Q E s := by
  have hene : e ∉ fra (env :: outer) := fun hm => by
    obtain ⟨_, o, ho, hnf⟩ := hl.mem hm
    rw [he] at ho; injection ho with ho; subst ho; exact hnf vs hd
  refine wpAny_bind (wpAny_frameOf_fun hfr hl hf fun h1 hs1 => ?_)
  refine wpAny_bind (wpAny_entryPlaceOf fun pl hpl => ?_)
  unfold EntryCells.newEntry newFields
  refine wpAny_bind (wpAny_newObj_type ?_ (hpl.sizeOk5 _ _ _ _ _))
  have he1 : h1.get? e = some oe := (hs1.2.1 e hene).trans he
  have he2 := Heap.get?_push_of_some (h := h1) { cls := .type "traceback", dict := none, data := .fields ([head, .ref L, .none, rawInt L, .none] ++ (if pl.isEmpty then List.replicate 6 Value.none else pl)).toArray } he1
  have hTe : h1.objs.size ≠ e := Nat.ne_of_gt (Heap.lt_size he1)
  have hd3 := Obj.data_mapFields hd (·.setIfInBounds 1 (Value.ref h1.objs.size))
  have he3 := Heap.get?_update_self (Obj.mapFields (·.setIfInBounds 1 (Value.ref h1.objs.size))) he2 (Obj.isFreed_of_fields hd3)
  refine wpAny_setField he2 hd hsz (h _ h1.objs.size ?_ ⟨fun b o nl nf q => ?_, fun b o nl hb q => ?_⟩ ⟨_, _, he3, Obj.cls_mapFields _ _, dict_mapFields _ _, hd3, by simp [hsz]⟩ ⟨_, _, (Heap.get?_update_other _ _ (Ne.symm hTe)).trans (Heap.get?_push_size h1 rfl), rfl, ?_⟩)
  · cases q : s.heap.get? h1.objs.size with
    | none => rfl
    | some o => have := Heap.lt_size q; rw [← hs1.1] at this; exact absurd this (Nat.lt_irrefl _)
  · have nbe : b ≠ e := fun z => nl (by rw [z]; exact List.mem_singleton.mpr rfl)
    rw [Heap.get?_update_other _ _ (Ne.symm nbe)]
    exact Heap.get?_push_of_some _ ((hs1.2.1 b nf).trans q)
  · have nbe : b ≠ e := fun z => nl (by rw [z]; exact List.mem_singleton.mpr rfl)
    obtain ⟨sl, e1⟩ := hs1.2.2 b o q
    refine ⟨sl, ?_⟩
    rw [Heap.get?_update_other _ _ (Ne.symm nbe)]
    exact Heap.get?_push_of_some _ e1
  · first | (simp; done) | (rcases hpl with rfl | ⟨_, _, _, _, _, _, _, rfl⟩ <;> simp)
/-- the frame is noted, nothing noted ahead -/
theorem note_new {base : Heap} {env : Env} {outer : List Env} {L e : Addr} {C : Value} {d : Option Addr} {Q : Unit → Shared → Prop}
    (hfr : A.frames = some (env :: outer)) (hl : s.heap.FunFrames base (env :: outer)) (hf : env.frame = some L) (hr : Rec s.heap e C d .none)
    (h : ∀ h' T, s.heap.get? T = none → KeptBut [e] (fra (env :: outer)) s.heap h' → Rec h' e C d (.ref T) → Ent h' T (rawInt L) → Q () { s with heap := h' }) : wpAny M A (noteFrame (.ref e) env) Q E s := by
  obtain ⟨oe, vs, he, rfl, rfl, hd, h1⟩ := hr
  unfold noteFrame
  simp only [hf]
  refine wpAny_bind (wpAny_field he hd h1 ?_)
  rw [if_neg (show ¬ ((Value.none != Value.none) = true) by decide)]
  exact entryP hfr hl hf he hd (Array.getElem?_eq_some_iff.mp h1).1 h
/-- .. another frame noted it ahead -/
theorem note_on {base : Heap} {env : Env} {outer : List Env} {L e T0 : Addr} {C : Value} {d : Option Addr} {Q : Unit → Shared → Prop}
    (hfr : A.frames = some (env :: outer)) (hl : s.heap.FunFrames base (env :: outer)) (hf : env.frame = some L) (hr : Rec s.heap e C d (.ref T0)) (ht : Ent s.heap T0 .none) (hne : T0 ≠ e)
    (h : ∀ h' T, s.heap.get? T = none → KeptBut [e, T0] (fra (env :: outer)) s.heap h' → Rec h' e C d (.ref T) → Ent h' T (rawInt L) → Q () { s with heap := h' }) : wpAny M A (noteFrame (.ref e) env) Q E s := by
  obtain ⟨oe, vs, he, rfl, rfl, hd, h1⟩ := hr
  obtain ⟨oT, ts, hT, hdT, h3⟩ := ht
  unfold noteFrame
  simp only [hf]
  refine wpAny_bind (wpAny_field he hd h1 ?_)
  rw [if_pos (show (Value.ref T0 != Value.none) = true from by simp)]
  refine wpAny_bind (wpAny_field hT hdT h3 ?_)
  rw [if_neg (show ¬ ((Value.none == rawInt L) = true) from by simp [rawInt])]
  refine wpAny_bind (wpAny_setField hT hdT (Array.getElem?_eq_some_iff.mp h3).1 ?_)
  have other : ∀ b, b ≠ T0 → (s.heap.update T0 (Obj.mapFields (·.setIfInBounds 3 Value.none))).get? b = s.heap.get? b := fun b hb => Heap.get?_update_other _ _ (Ne.symm hb)
  have noRecord : ∀ b o, s.heap.get? b = some o → (∀ vs, o.data ≠ .fields vs) → b ≠ T0 := fun b o hb hnf q => by
    rw [q, hT] at hb; injection hb with hb; subst hb; exact hnf ts hdT
  refine entryP hfr (hl.of_keeps fun b o hb hnf => ⟨o, (other b (noRecord b o hb hnf)).trans hb, rfl⟩) hf ((other e (Ne.symm hne)).trans he) hd (Array.getElem?_eq_some_iff.mp h1).1 fun h' T hTn kb hr' ht' => ?_
  refine h h' T ?_ ⟨fun b o nl nf q => ?_, fun b o nl hb q => ?_⟩ hr' ht'
  · cases q : s.heap.get? T with
    | none => rfl
    | some o =>
      by_cases z : T = T0
      · have hu := Heap.get?_update_self (Obj.mapFields (·.setIfInBounds 3 Value.none)) hT (Obj.isFreed_of_fields (Obj.data_mapFields hdT _))
        rw [← z] at hu
        rw [z] at hTn
        rw [z] at hu
        rw [hu] at hTn; cases hTn
      · rw [other T z, q] at hTn; cases hTn
  · have n1 : b ≠ T0 := fun z => nl (by rw [z]; simp)
    exact kb.1 b o (fun z => nl (by rw [List.mem_singleton.mp z]; simp)) nf ((other b n1).trans q)
  · have n1 : b ≠ T0 := fun z => nl (by rw [z]; simp)
    exact kb.2 b o (fun z => nl (by rw [List.mem_singleton.mp z]; simp)) hb ((other b n1).trans q)
/-- the note's flight ends -/
theorem land {F : List Addr} {e T : Addr} {C fl : Value} {d : Option Addr} {Q : Unit → Shared → Prop} (hr : Rec s.heap e C d (.ref T)) (ht : Ent s.heap T fl) (hne : T ≠ e) (hF : ∀ b ∈ F, b ≠ T)
    (h : ∀ h', KeptBut [T] F s.heap h' → Rec h' e C d (.ref T) → Ent h' T .none → Q () { s with heap := h' }) : wpAny M A (setFlight (.ref e) none) Q E s := by
  obtain ⟨oe, vs, he, hC, hdi, hd, h1⟩ := hr
  obtain ⟨oT, ts, hT, hdT, h3⟩ := ht
  have hsz3 : 3 < ts.size := (Array.getElem?_eq_some_iff.mp h3).1
  unfold setFlight
  refine wpAny_bind (wpAny_field he hd h1 ?_)
  rw [if_pos (show (Value.ref T != Value.none) = true from by simp)]
  refine wpAny_setField hT hdT hsz3 (h _ ⟨fun b o nl _ q => (Heap.get?_update_other _ _ (fun z => nl (by rw [z]; exact List.mem_singleton.mpr rfl))).trans q, fun b o nl _ q => ⟨o.slots, (Heap.get?_update_other _ _ (fun z => nl (by rw [z]; exact List.mem_singleton.mpr rfl))).trans q⟩⟩
    ⟨oe, vs, (Heap.get?_update_other _ _ hne).trans he, hC, hdi, hd, h1⟩ ⟨_, _, Heap.get?_update_self _ hT (Obj.isFreed_of_fields (Obj.data_mapFields hdT _)), Obj.data_mapFields hdT _, by simp [hsz3]⟩)
end
end Xn

set_option Elab.async false
set_option linter.all false
set_option maxRecDepth 100000
set_option maxHeartbeats 4000000
/-! EXCEPTIONS: how one lies behind a call, raise, a call that may raise. -/
namespace Xn
open PySem PyProof.Rows
section
variable {M : Model} {A : Around} {E : Value → Shared → Prop} {s : Shared}
/-- the notes ahead: none, or a landed one -/
def HeadOk (h : Heap) (e : Addr) (head : Value) (L : List Addr) : Prop := (head = .none ∧ L = []) ∨ ∃ T, head = .ref T ∧ Ent h T .none ∧ T ≠ e ∧ L = [T]
theorem noted {base : Heap} {env : Env} {outer : List Env} {L e : Addr} {C head : Value} {d : Option Addr} {hl' : List Addr} {Q : Unit → Shared → Prop}
    (hfr : A.frames = some (env :: outer)) (hl : s.heap.FunFrames base (env :: outer)) (hf : env.frame = some L) (hr : Rec s.heap e C d head) (hh : HeadOk s.heap e head hl')
    (h : ∀ h' T, s.heap.get? T = none → KeptBut (e :: hl') (fra (env :: outer)) s.heap h' → Rec h' e C d (.ref T) → Ent h' T (rawInt L) → Q () { s with heap := h' }) : wpAny M A (noteFrame (.ref e) env) Q E s := by
  rcases hh with ⟨rfl, rfl⟩ | ⟨T0, rfl, ht, hne, rfl⟩
  · exact note_new hfr hl hf hr h
  · exact note_on hfr hl hf hr ht hne h
/-- .. and the flight ends -/
theorem landed {base : Heap} {env : Env} {outer : List Env} {L e : Addr} {C head : Value} {d : Option Addr} {hl' : List Addr} {Q : Unit → Shared → Prop}
    (hfr : A.frames = some (env :: outer)) (hl : s.heap.FunFrames base (env :: outer)) (hf : env.frame = some L) (hr : Rec s.heap e C d head) (hh : HeadOk s.heap e head hl')
    (h : ∀ h' T, s.heap.get? T = none → T ≠ e → KeptBut (e :: hl') (fra (env :: outer)) s.heap h' → Rec h' e C d (.ref T) → Ent h' T .none → Q () { s with heap := h' }) :
    wpAny M A (noteFrame (.ref e) env) (fun _ s' => wpAny M A (setFlight (.ref e) none) Q E s') E s := by
  refine noted hfr hl hf hr hh fun h1 T hT k1 r1 t1 => ?_
  have hTe : T ≠ e := fun z => by
    obtain ⟨oe, _, he, _⟩ := hr
    rw [z, he] at hT; cases hT
  have hTF : ∀ b ∈ fra (env :: outer), b ≠ T := fun b hb z => by
    obtain ⟨_, o, ho, _⟩ := hl.mem hb
    rw [z, hT] at ho; cases ho
  refine land (F := fra (env :: outer)) (s := { s with heap := h1 }) r1 t1 hTe hTF fun h2 k2 r2 t2 => ?_
  have k := k1.trans k2
  refine h h2 T hT hTe ⟨fun b o nl nf q => k.1 b o (fun z => ?_) nf q, fun b o nl hb q => k.2 b o (fun z => ?_) hb q⟩ r2 t2
  all_goals
    rcases List.mem_append.mp z with z | z
    · exact nl z
    · rw [List.mem_singleton.mp z, hT] at q; cases q
theorem leave {base : Heap} {env : Env} {outer : List Env} {L e : Addr} {C head : Value} {d : Option Addr} {hl' : List Addr} {Q : Unit → Shared → Prop}
    (hfr : A.frames = some (env :: outer)) (hl : s.heap.FunFrames base (env :: outer)) (hf : env.frame = some L) (hr : Rec s.heap e C d head) (hh : HeadOk s.heap e head hl')
    (h : ∀ h' T, s.heap.get? T = none → T ≠ e → KeptBut (e :: hl') (fra (env :: outer)) s.heap h' → Rec h' e C d (.ref T) → Ent h' T .none → Q () { s with heap := h' }) : wpAny M A (leaving env (.ref e)) Q E s := by
  unfold leaving
  exact wpAny_bind (landed hfr hl hf hr hh h)
end
end Xn
namespace L2
open PySem PySem.Spec PyProof.Rows Xn
theorem ObjOk.some {P : Program} {w : World} {H : Hp} {h : Heap} {a : Addr} {o : HO} (x : ObjOk P w H h a o) : ∃ ob, h.get? a = some ob := by
  cases o with
  | lst xs => obtain ⟨_, _, _, _, e⟩ := x; exact ⟨_, e⟩
  | tup xs => obtain ⟨_, _, _, ob, e, _⟩ := x; exact ⟨_, e⟩
  | dK kvs => obtain ⟨_, _, _, _, o, _, _, e, _⟩ := x; exact ⟨_, e⟩
  | dT kvs => obtain ⟨_, _, _, _, o, _, _, e, _⟩ := x; exact ⟨_, e⟩
  | set S n => obtain ⟨o, _, _, _, e, _⟩ := x; exact ⟨_, e⟩
  | ins C dx fs => obtain ⟨_, _, _, e, _⟩ := x; exact ⟨_, e⟩
  | own y => obtain ⟨_, e⟩ := x; exact ⟨_, e⟩
  | xd fs => obtain ⟨_, ⟨_, _, _, e, _⟩, _⟩ := x; exact ⟨_, e⟩
  | rng lo hi => obtain ⟨_, _, _, e⟩ := x; exact ⟨_, e⟩
  | frz ob u => obtain ⟨e, _⟩ := x; exact ⟨_, e⟩
  | tbl ps => exact ⟨_, (show h.get? a = Option.some _ from x)⟩
  | met f y => exact ⟨_, (show h.get? a = Option.some _ from x)⟩
  | ext φ => obtain ⟨_, ⟨_, e⟩, _⟩ := x; exact ⟨_, e⟩
theorem HOk.gone {P : Program} {w : World} {H : Hp} {h : Heap} (x : HOk P w H h) {a : Addr} (e : h.get? a = none) : H a = none := by
  cases q : H a with
  | none => rfl
  | some o =>
    obtain ⟨ob, z⟩ := (x a o q).some
    rw [e] at z; cases z
theorem HOk.keptBut {P : Program} {w : World} {H : Hp} {h h' : Heap} {L F : List Addr} (x : HOk P w H h) (k : KeptBut L F h h') (hL : ∀ b ∈ L, H b = none) (hF : ∀ b ∈ F, H b = none) : HOk P w H h' := fun a o e =>
  (x a o e).stay (fun b u hb q => by
    have hn : H b ≠ none := by
      rcases hb with rfl | z
      · rw [e]; simp
      · rw [z]; simp
    exact k.1 b u (fun z => hn (hL b z)) (fun z => hn (hF b z)) q) (fun _ q => q) fun _ _ q => q
theorem Un.keptBut {fs : List Addr} {H0 H : Hp} {h0 h h' : Heap} {L F : List Addr} (u : Un fs [] H0 H h0 h) (k : KeptBut L F h h') (hL : ∀ b ∈ L, h0.get? b = none) (hF : ∀ b ∈ F, b ∈ fs ∨ h0.get? b = none) : Un fs [] H0 H h0 h' := by
  have nL : ∀ b o, h0.get? b = some o → b ∉ L := fun b o e z => by rw [hL b z] at e; cases e
  refine ⟨fun b o e n nf nx => ?_, fun b o e n hf nx => ?_, u.free, fun b o e nx => ?_, u.tups, u.frzs, u.tbls⟩
  · refine k.1 b o (nL b o e) (fun z => ?_) (u.keep b o e n nf nx)
    rcases hF b z with z | z
    · exact nf z
    · rw [z] at e; cases e
  · obtain ⟨sl, e1⟩ := u.slot b o e n hf nx
    by_cases hb : b ∈ F
    · obtain ⟨sl', e2⟩ := k.2 b _ (nL b o e) hb e1
      exact ⟨sl', e2⟩
    · exact ⟨sl, k.1 b _ (nL b o e) hb e1⟩
  · obtain ⟨o', e1⟩ := u.there b o e nx
    by_cases hb : b ∈ F
    · obtain ⟨sl', e2⟩ := k.2 b _ (nL b o e) hb e1
      exact ⟨_, e2⟩
    · exact ⟨_, k.1 b _ (nL b o e) hb e1⟩
/-- how an exception lies behind a call; the wish E is told its class, its dict and the heap -/
def CXE (P : Program) (w : World) : CXT := fun outer H s E ev s' => ∃ (e T C : Addr) (d : Option Addr) (H' : Hp), ev = .ref e ∧ s'.os = s.os ∧ AllBare s'.gens ∧ Un (frs outer) [] H H' s.heap s'.heap ∧ HOk P w H' s'.heap ∧
  s.heap.get? e = none ∧ s.heap.get? T = none ∧ T ≠ e ∧ H' e = none ∧ H' T = none ∧ Rec s'.heap e (.ref C) d (.ref T) ∧ Ent s'.heap T .none ∧ E (.ref C) d H'
/-- an address that the context's own things don't have -/
structure Fresh (X : Cx) (pins : List (Addr × Obj)) (e : Addr) : Prop where
  s0 : X.s₀.heap.get? e = none
  loc : e ≠ X.env.locals
  cell : ∀ x c, X.env.cells.lookup x = some c → c ≠ e
  pin : ∀ p ∈ X.pn ++ pins, p.1 ≠ e
theorem Fresh.of {X : Cx} {pins : List (Addr × Obj)} {σ : St} {H : Hp} {s : Shared} (I : Inv X pins σ H s) (hx : X.ex = []) {e : Addr} (h : s.heap.get? e = none) : Fresh X pins e := by
  refine ⟨?_, ?_, fun x c hc z => ?_, fun p hp z => ?_⟩
  · cases q : X.s₀.heap.get? e with
    | none => rfl
    | some o =>
      obtain ⟨o', z⟩ := I.base.there e o q (by rw [hx]; simp)
      rw [h] at z; cases z
  · intro z
    obtain ⟨m, ⟨o, _, _, ho, _⟩, _⟩ := I.loc
    rw [z, ho] at h; cases h
  · obtain ⟨v, o, ho, _⟩ := I.cell x c hc
    rw [← z, ho] at h; cases h
  · obtain ⟨ho, _⟩ := I.pin p hp
    rw [← z, ho] at h; cases h
/-- the context takes exceptions by the wish E -/
def Xok (X : Cx) (E : XK) : Prop := ∀ (pins : List (Addr × Obj)) (σ : St) (H : Hp) (s : Shared) (e C : Addr) (d : Option Addr) (head : Value) (hl : List Addr), Inv X pins σ H s → Fresh X pins e → H e = none →
  Rec s.heap e (.ref C) d head → HeadOk s.heap e head hl → (∀ b ∈ hl, Fresh X pins b ∧ H b = none) → E (.ref C) d H → X.xe (.ref e) s
theorem passX {X : Cx} {E : XK} (hx : X.ex = []) (k : Xok X E) : Passes (CXE X.prog X.w) X E := by
  rintro pins σ H s ev s' I ⟨e, T, C, d, H', rfl, ho, hg, u, hok, fe, fT, nTe, He, HT, hr, ht, hE⟩
  exact k pins σ H' s' e C d (.ref T) [T] (I.call' ho u hok hg fun b hb => absurd hb (by simp)) (Fresh.of I hx fe) He hr (.inr ⟨T, rfl, ht, nTe, rfl⟩) (fun b hb => by rw [List.mem_singleton.mp hb]; exact ⟨Fresh.of I hx fT, HT⟩) hE
theorem xok_cx {P : Program} {w : World} {K : PySem.W.Frag} {mg : Str → Option Value} {base : Heap} {N : List Str} {qual : Str} {scope : Scope} {f : Addr} {cd : Value} {A : Around} {outer : List Env} {s0 : Shared} {H0 : Hp} {E : XK} :
    Xok (cxOf (CXE P w) P w K mg base N qual scope f cd A outer s0 H0 E) E := by
  intro pins σ H s e C d head hl I fe He hr hh hhl hE
  show wpAny (model P w) (A.deeper (envOfC qual scope s0.heap.objs.size f cd)) (leaving (envOfC qual scope s0.heap.objs.size f cd) (.ref e)) _ _ s
  have hfs : ∀ b ∈ fra (envOfC qual scope s0.heap.objs.size f cd :: outer), H b = none := I.stkFree
  refine leave (base := base) I.ok.frames I.stack rfl hr hh fun h' T hT nTe kb r1 t1 => ⟨e, T, C, d, H, rfl, I.os, I.bare, ?_, ?_, fe.s0, (Fresh.of I rfl hT).s0, nTe, He, I.hok.gone hT, r1, t1, hE⟩
  · refine (show Un (frs outer) [] H0 H s0.heap s.heap from I.base).keptBut kb (fun b hb => ?_) (fun b hb => ?_)
    · rcases List.mem_cons.mp hb with z | z
      · rw [z]; exact fe.s0
      · exact (hhl b z).1.s0
    · rcases List.mem_cons.mp (show b ∈ s0.heap.objs.size :: frs outer from hb) with z | z
      · refine .inr ?_
        cases q : s0.heap.get? b with
        | none => rfl
        | some o => have := Heap.lt_size q; rw [z] at this; exact absurd this (Nat.lt_irrefl _)
      · exact .inl z
  · refine I.hok.keptBut kb (fun b hb => ?_) hfs
    rcases List.mem_cons.mp hb with z | z
    · rw [z]; exact He
    · exact (hhl b z).2
/-- a class of the text under ValueError, by the written part -/
abbrev bmV : List Value := [.type "ValueError", .type "Exception", .type "BaseException", .type "object"]
structure ECls (K : PySem.W.Frag) (mg : Str → Option Value) (x : Str) (C : Addr) : Prop where
  at_ : mg x = some (.ref C)
  is : PySem.W.excIn K C bmV "ValueError.__new__" = true
theorem ECls.own {K : PySem.W.Frag} {mg : Str → Option Value} {x : Str} {C : Addr} {h : Heap} (c : ECls K mg x C) (X : K.In h) : OwnCls x C bmV "ValueError.__new__" mg h := by
  obtain ⟨e, q⟩ := c
  refine ⟨e, ?_⟩
  unfold PySem.W.excIn at q
  split at q
  · rename_i dd cd sl ho
    split at q
    · rename_i C' bm k0 k1 k2 k3 n k5 hm hs
      simp only [Bool.and_eq_true, beq_iff_eq, Bool.not_eq_true'] at q
      obtain ⟨⟨⟨⟨⟨rfl, rfl⟩, hdel⟩, ht⟩, hok⟩, hni⟩ := q
      obtain ⟨nm, bs, mro, ns, qn, hd, sn, sub, ab, col, del⟩ := cd
      dsimp only at hm hdel hok hni
      subst hm hdel
      have hsl : sl = #[k0, k1, k2, k3, some (.builtin "ValueError.__new__"), k5] := by
        obtain ⟨l⟩ := sl
        simp only at hs
        rw [hs]
      subst hsl
      exact ⟨bm, ns, nm, qn, bs, hd, sn, sub, ab, col, dd, k0, k1, k2, k3, k5, _, X _ _ ho, .of_isNs (PySem.W.isNs_of_in X hok), PySem.W.nsMap_none_of_in X hok hni, PySem.W.tail_of_in X ht⟩
    · cases q
  · cases q
/-- raise C(..): no statement comes behind it -/
def sRaise (C : Addr) (E : XK) (ta : TA) : TS := fun _ σ H => ta σ H fun vs H1 => vs.length ≤ sizeLine ∧ E (.ref C) none H1
theorem qs_raise {X : Cx} {E : XK} {x : Str} {C : Addr} {a : Expr} {es : List Expr} {ta : TA} {np cpos pos : Pos} (k : Xok X E) (hx : X.ex = []) (hc : X.calm = true) (c : ECls X.K X.mg x C) (hg : Gl X x) (ha : QA X (a :: es) ta) (hst : noStar a = true := by rfl)
    (hpl : (backTo cpos (starEach es X.env)).any (·.1) = false := by rfl) (hd : (x == ("__debug__" : Str)) = false := by decide) : QS X (.Raise (some (.Call (.Name x np) (a :: es) [] cpos)) none pos) (sRaise C E ta) := ⟨by
  intro pins s σ H D I h
  obtain ⟨tl, N, nm, q, bs, hdct, sn, sub, ab, col, dd, k0, k1, k2, k3, k5, mN, hC, hN, hni, T⟩ := (c.own I.mod.kin).obj
  have he := starEach_cons hst es X.env
  refine wpAny_Raise_call_subT (C := C) (nm := nm) (q := q) (N := N) (bs := bs) (bm := tl) (hdct := hdct) (sn := sn) (sub := sub) (ab := ab) (col := col) (dd := dd) (k0 := k0) (k1 := k1) (k2 := k2) (k3 := k3) (k5 := k5)
    PySem.F.excBase_ValueError (mN := mN) (T.hasType PySem.F.excBase_ValueError.hasBase) (I.ok.hd hc) (by rw [he]; show (false || (backTo cpos (starEach es X.env)).any (·.1)) = false; rw [hpl]; rfl) hni (ld_glob I hg c.at_ ⟨rfl, ?_⟩ hd)
  have ha' := ha.o cpos pins s σ H _ I h
  rw [he] at ha' ⊢
  refine Calls.evalArgs_plain (thn ha' fun us s1 ⟨vs, H1, I1, r, hz, hE⟩ => ?_)
  refine ⟨rfl, by rw [← r.length]; exact hz, I1.bk _ _ hC, hN.keeps I1.bk, T.keeps I1.bk, fun h' e hm => ?_⟩
  · have I2 : Inv X pins σ H1 { s1 with heap := h' } := I1.kept (t' := s1.toks) hm.keeps
    obtain ⟨t, he', _, _⟩ := hm.there
    refine k pins σ H1 _ e C none .none [] I2 (Fresh.of I1 hx hm.new) (I1.hok.gone hm.new) ⟨_, _, he', rfl, rfl, rfl, rfl⟩ (.inl ⟨rfl, rfl⟩) (fun b hb => absurd hb (by simp)) hE⟩
end L2

set_option Elab.async false
set_option linter.all false
set_option maxRecDepth 100000
set_option maxHeartbeats 4000000
/-! EXCEPTIONS: try with one clause of an own class, as a name. -/
namespace PySem
section
variable {M : Model} {A : Around} {E : Value → Shared → Prop}
variable {nm q nm' q' : Str} {C N D N' : Addr} {bs bm bs' bm' : List Value} {hdct hdct' : Bool} {sn sn' : List Str} {sub sub' : List Value} {ab ab' : Bool} {col col' : Option Bool} {dd dd' : Option Addr} {k0 k1 k2 k3 k5 j0 j1 j2 j3 j5 : Option Value} {newId newId' : String}
/-- a clause of an own class that stands above the exception's -/
theorem excMatches_above {h : Heap} {g : Array GenState} {d : Drawn} {t : Nat} {os : OsState} {e : Addr} {oe : Obj} {Q : Bool → Shared → Prop}
    (hC : h.get? C = some (excClassObj nm q C N bs bm hdct sn sub ab col dd k0 k1 k2 k3 k5 newId)) (hD : h.get? D = some (excClassObj nm' q' D N' bs' bm' hdct' sn' sub' ab' col' dd' j0 j1 j2 j3 j5 newId'))
    (he : h.get? e = some oe) (hcls : oe.cls = .ref C) (hbase : bm'.contains (.type "BaseException") = true) (hin : bm.contains (.ref D) = true)
    (hq : Q true ⟨h, g, d, t, os⟩) : wpAny M A (excMatches (.ref e) (.ref D)) Q E ⟨h, g, d, t, os⟩ := by
  have hcB : (Value.ref D :: bm').contains (.type "BaseException") = true := by rw [List.contains_cons, hbase, Bool.or_true]
  have hcC : (Value.ref C :: bm).contains (.ref D) = true := by rw [List.contains_cons, hin, Bool.or_true]
  have f := tc_notTuple
  unfold excMatches
  repeat (first | (with_reducible refine wpAny_loadPart_at he ?_; rw [hcls]) | with_reducible refine wpAny_loadPart_at hD ?_ | (with_reducible refine wpAny_isSubtype_exc hD ?_; rw [hcB]) | (with_reducible refine wpAny_isSubtype_exc hC ?_; rw [hcC]) | wp_step)
  exact hq
end
end PySem
namespace L2
open PySem PySem.Spec PyProof.Rows Xn
theorem Inv.keptBut {X : Cx} {pins : List (Addr × Obj)} {σ : St} {H : Hp} {s : Shared} {h' : Heap} {L : List Addr} (I : Inv X pins σ H s) (hx : X.ex = []) (kb : KeptBut L (frs X.stack) s.heap h') (hL : ∀ b ∈ L, Fresh X pins b ∧ H b = none) :
    Inv X pins σ H { s with heap := h' } := by
  have one : ∀ b o, b ∉ L → s.heap.get? b = some o → ∃ sl, h'.get? b = some { o with slots := sl } := fun b o nl e => by
    by_cases hb : b ∈ frs X.stack
    · exact kb.2 b o nl hb e
    · exact ⟨o.slots, kb.1 b o nl hb e⟩
  refine ⟨I.ok, I.os, I.bare, ?_, ?_, fun x c e => ?_, I.free, I.freeC, fun p hp => ?_, I.hok.keptBut kb (fun b hb => (hL b hb).2) I.stkFree, I.len⟩
  · rw [hx]
    have u := I.base
    rw [hx] at u
    refine u.keptBut kb (fun b hb => (hL b hb).1.s0) fun b hb => ?_
    rcases List.mem_cons.mp (I.stkSub b hb) with z | z
    · refine .inr ?_
      cases q : X.s₀.heap.get? b with
      | none => rfl
      | some o =>
        have := Nat.lt_of_lt_of_le (Heap.lt_size q) I.ok.above
        rw [z] at this; exact absurd this (Nat.lt_irrefl _)
    · exact .inl z
  · obtain ⟨m, ⟨o, es, ep, ho, r⟩, hl⟩ := I.loc
    obtain ⟨sl, e1⟩ := one X.env.locals o (fun z => (hL _ z).1.loc rfl) ho
    refine ⟨m, ⟨_, es, ep, e1, r⟩, fun i x v a b c => ?_⟩
    obtain ⟨u, rv, l⟩ := hl i x v a b c
    refine ⟨u, rv, ?_⟩
    rcases l with l | ⟨k, c, e, oc, ho', hd⟩
    · exact .inl l
    · obtain ⟨sl', e2⟩ := one c oc (fun z => (hL _ z).1.cell x c e rfl) ho'
      exact .inr ⟨k, c, e, _, e2, hd⟩
  · obtain ⟨v, oc, ho', hd⟩ := I.cell x c e
    obtain ⟨sl', e2⟩ := one c oc (fun z => (hL _ z).1.cell x c e rfl) ho'
    exact ⟨v, _, e2, hd⟩
  · obtain ⟨e, n, ne, nf, d⟩ := I.pin p hp
    refine ⟨kb.1 p.1 p.2 (fun z => (hL _ z).1.pin p hp rfl) (fun z => ?_) e, n, ne, nf, d⟩
    rcases List.mem_cons.mp (I.stkSub p.1 z) with y | y
    · exact ne y
    · exact nf y
/-- a local name goes -/
theorem unbind_ok {X : Cx} {pins : List (Addr × Obj)} {σ : St} {H : Hp} {s : Shared} {M : Model} {A : Around} {E : Value → Shared → Prop} {i : Nat} {x : Str} {v : V} {Q : Unit → Shared → Prop} (I : Inv X pins σ H s) (hN : X.N.Nodup) (hi : X.N[i]? = some x) (hk : X.env.scope.names.lookup x = some .local) (hv : σ[i]? = some (some v))
    (h : ∀ s', Inv X pins (σ.set i none) H s' → Q () s') : wpAny M A (unbindName X.env x) Q E s := by
  obtain ⟨m, hn, hl⟩ := id I.loc
  have hcls : (X.env.scope.kind == .class || (X.env.scope.kind == .module && X.env.locals != X.env.globals)) = false := by rw [I.ok.kind]; rfl
  obtain ⟨u, _, lk⟩ := hl i x v hi hv (.inl hk)
  have hm : m x = some u := by
    rcases lk with ⟨_, e⟩ | ⟨k, _⟩
    · exact e
    · have k' : X.env.scope.names.lookup x = some .cell ∨ X.env.scope.names.lookup x = some .free := k
      rw [hk] at k'
      rcases k' with z | z <;> cases z
  refine wpAny_unbindName_local hk hn hm hcls fun h' w' hn' hs => ?_
  obtain ⟨oL, _, _, hoL, _⟩ := id hn
  have ne0 : ∀ b o, X.s₀.heap.get? b = some o → b ≠ X.env.locals := fun b o e => Nat.ne_of_lt (Nat.lt_of_lt_of_le (Heap.lt_size e) I.ok.above)
  refine h _ ⟨I.ok, I.os, I.bare, ⟨fun b o e n hb hx => ?_, fun b o e n hb hx => ?_, I.base.free, fun b o e hx => ?_, I.base.tups, I.base.frzs, I.base.tbls⟩, ⟨_, hn', fun j y v' e1 e2 e3 => ?_⟩, fun y c e => ?_, I.free, I.freeC, fun p hp => ?_, ?_, ?_⟩
  · exact (hs.2 b (ne0 b o e)).trans (I.base.keep b o e n hb hx)
  · obtain ⟨sl, e1⟩ := I.base.slot b o e n hb hx
    exact ⟨sl, (hs.2 b (ne0 b o e)).trans e1⟩
  · obtain ⟨o', e1⟩ := I.base.there b o e hx
    exact ⟨o', (hs.2 b (ne0 b o e)).trans e1⟩
  · by_cases hj : j = i
    · subst hj
      have hiσ : j < σ.length := (List.getElem?_eq_some_iff.mp hv).1
      rw [List.getElem?_set_self hiσ] at e2
      cases e2
    · rw [List.getElem?_set_ne (Ne.symm hj)] at e2
      obtain ⟨u', r', q⟩ := hl j y v' e1 e2 e3
      refine ⟨u', r', ?_⟩
      rcases q with ⟨k, e⟩ | ⟨k, c, e, z⟩
      · refine .inl ⟨k, ?_⟩
        have : y ≠ x := fun e => hj (nodup_ix hN e1 (e ▸ hi))
        simp [this, e]
      · exact .inr ⟨k, c, e, z.sameBut hs (I.cne y c e)⟩
  · obtain ⟨w2, z⟩ := I.cell y c e
    exact ⟨w2, z.sameBut hs (I.cne y c e)⟩
  · obtain ⟨e, n, ne, nf, d⟩ := I.pin p hp
    exact ⟨(hs.2 p.1 ne).trans e, n, ne, nf, d⟩
  · intro b ob e
    refine (I.hok b ob e).stay (fun c w' hc q => (hs.2 c ?_).trans q) (fun _ q => q) fun _ _ q => q
    rintro rfl
    rcases hc with rfl | hc
    · rw [I.free] at e; cases e
    · rw [I.free] at hc; cases hc
  · rw [List.length_set]; exact I.len
/-- an exception as a thing of the heap -/
def excO (e C : Addr) (d : Option Addr) : HO := .ext fun h => ∃ oe vs, h.get? e = some oe ∧ oe.cls = .ref C ∧ oe.dict = d ∧ oe.data = .fields vs
theorem Rec.ok {P : Program} {w : World} {H : Hp} {h : Heap} {e C : Addr} {d : Option Addr} {head : Value} (r : Rec h e (.ref C) d head) : ObjOk P w H h e (excO e C d) := by
  obtain ⟨oe, vs, he, hc, hd, hf, _⟩ := r
  refine ⟨⟨oe, vs, he, hc, hd, hf⟩, ⟨_, he⟩, ?_⟩
  rintro h1 h2 ⟨oe', vs', a, b, c, d'⟩ k
  exact ⟨oe', vs', k _ a, b, c, d'⟩
/-- .. comes to be known -/
theorem Inv.known {X : Cx} {pins : List (Addr × Obj)} {σ : St} {H : Hp} {s : Shared} {e : Addr} {o : HO} (I : Inv X pins σ H s) (hx : X.ex = []) (fe : Fresh X pins e) (he : H e = none) (ok : ObjOk X.prog X.w (upd H e o) s.heap e o) (nf : ∀ b ∈ frs X.stack, b ≠ e) : Inv X pins σ (upd H e o) s := by
  have ne0 : ∀ b ob, X.s₀.heap.get? b = some ob → b ≠ e := fun b ob q z => by rw [z, fe.s0] at q; cases q
  refine ⟨I.ok, I.os, I.bare, ⟨I.base.keep, I.base.slot, fun b ob q n hx => by rw [upd_ne (ne0 b ob q)]; exact I.base.free b ob q n hx, I.base.there, fun b xs q => ?_, fun b ob u q => ?_, fun b ps q => ?_⟩, I.loc, I.cell, ?_, fun x c q => ?_, fun p hp => ?_, fun b ob q => ?_, I.len⟩
  · have := I.base.tups b xs q
    rw [upd_ne (ne_of_none this he)]; exact this
  · have := I.base.frzs b ob u q
    rw [upd_ne (ne_of_none this he)]; exact this
  · obtain ⟨m, this⟩ := I.base.tbls b ps q
    exact ⟨m, by rw [upd_ne (ne_of_none this he)]; exact this⟩
  · rw [upd_ne (Ne.symm fe.loc)]; exact I.free
  · rw [upd_ne (fe.cell x c q)]; exact I.freeC x c q
  · obtain ⟨a, b, c, d, f⟩ := I.pin p hp
    exact ⟨a, by rw [upd_ne (fe.pin p hp)]; exact b, c, d, f⟩
  · by_cases z : b = e
    · subst z
      rw [upd_same] at q
      cases q
      exact ok
    · rw [upd_ne z] at q
      refine (I.hok b ob q).stay (fun _ _ _ q => q) (fun c q => ?_) fun c xs q => ?_
      · rw [upd_ne (ne_of_none q he)]; exact q
      · rw [upd_ne (ne_of_none q he)]; exact q
end L2

set_option Elab.async false
set_option linter.all false
set_option maxRecDepth 100000
set_option maxHeartbeats 4000000
/-! EXCEPTIONS: try .. except C as n, and a def that may raise. -/
namespace L2
open PySem PySem.Spec PyProof.Rows Xn
/-- the context of a try's body -/
abbrev tryCx (X : Cx) (pins : List (Addr × Obj)) (W : Value → Shared → Prop) : Cx :=
  { X with pn := X.pn ++ pins, xe := fun e s1 => wpAny (model X.prog X.w) X.A (noteFrame e X.env) (fun _ s2 => wpAny (model X.prog X.w) X.A (setFlight e none) (fun _ s3 => W e s3) X.xe s2) X.xe s1 }
/-- the context of an except's suite: it raises nothing -/
abbrev supCx (X : Cx) (e : Addr) : Cx := { X with A := X.A.mark (some (.ref e)), calm := false, xe := fun _ _ => False }
section
variable {X : Cx} {pins pins' : List (Addr × Obj)} {σ : St} {H : Hp} {s : Shared} {W : Value → Shared → Prop} {e : Addr}
theorem Cx.Ok.tried (ok : X.Ok) : (tryCx X pins W).Ok :=
  ⟨ok.mod, ok.kind, ok.glob, ok.blt, ok.above, ok.inj, ok.has, ok.cab, ok.hd, ok.frames, ok.stk, ok.exf, ok.bs, ok.bsz, ok.noex, ok.exfs, ok.funs, ok.frf⟩
theorem Cx.Ok.untried (ok : (tryCx X pins W).Ok) : X.Ok :=
  ⟨ok.mod, ok.kind, ok.glob, ok.blt, ok.above, ok.inj, ok.has, ok.cab, ok.hd, ok.frames, ok.stk, ok.exf, ok.bs, ok.bsz, ok.noex, ok.exfs, ok.funs, ok.frf⟩
theorem Cx.Ok.supped (ok : X.Ok) : (supCx X e).Ok :=
  ⟨ok.mod, ok.kind, ok.glob, ok.blt, ok.above, ok.inj, ok.has, ok.cab, fun h => (nomatch h), ok.frames, ok.stk, ok.exf, ok.bs, ok.bsz, ok.noex, ok.exfs, ok.funs, ok.frf⟩
theorem Inv.tried (I : Inv X pins σ H s) : Inv (tryCx X pins W) [] σ H s :=
  ⟨I.ok.tried, I.os, I.bare, I.base, I.loc, I.cell, I.free, I.freeC, fun p hp => I.pin p (by rw [List.append_nil] at hp; exact hp), I.hok, I.len⟩
theorem Inv.untried (I : Inv (tryCx X pins W) pins' σ H s) : Inv X pins σ H s :=
  ⟨I.ok.untried, I.os, I.bare, I.base, I.loc, I.cell, I.free, I.freeC, fun p hp => I.pin p (List.mem_append_left _ hp), I.hok, I.len⟩
theorem Inv.supped (I : Inv X pins σ H s) : Inv (supCx X e) pins σ H s := ⟨I.ok.supped, I.os, I.bare, I.base, I.loc, I.cell, I.free, I.freeC, I.pin, I.hok, I.len⟩
theorem Inv.unsupped (ok : X.Ok) (I : Inv (supCx X e) pins σ H s) : Inv X pins σ H s := ⟨ok, I.os, I.bare, I.base, I.loc, I.cell, I.free, I.freeC, I.pin, I.hok, I.len⟩
theorem Fresh.untried {b : Addr} (f : Fresh (tryCx X pins W) pins' b) : Fresh X pins b := ⟨f.s0, f.loc, f.cell, fun p hp => f.pin p (List.mem_append_left _ hp)⟩
end
/-- the body's exceptions come to W, noted and landed -/
theorem xok_try {X : Cx} {pins : List (Addr × Obj)} {W : Value → Shared → Prop} {E : XK} (hx : X.ex = []) (hst : X.stack = X.env :: X.outer) (hf : X.env.frame = some X.env.locals)
    (hW : ∀ (σ : St) (H : Hp) (s : Shared) (e C T : Addr) (d : Option Addr), Inv X pins σ H s → Fresh X pins e → H e = none → Rec s.heap e (.ref C) d (.ref T) → Ent s.heap T .none → T ≠ e → Fresh X pins T → H T = none → E (.ref C) d H → W (.ref e) s) : Xok (tryCx X pins W) E := by
  intro pins' σ H s e C d head hl I fe He hr hh hhl hE
  have I0 : Inv X pins σ H s := I.untried
  show wpAny (model X.prog X.w) X.A (noteFrame (.ref e) X.env) _ _ s
  have hfr : X.A.frames = some (X.env :: X.outer) := by rw [← hst]; exact I0.ok.frames
  have hl0 : s.heap.FunFrames X.base (X.env :: X.outer) := by rw [← hst]; exact I0.stack
  refine landed hfr hl0 hf hr hh fun h' T hT nTe kb r1 t1 => ?_
  have kb' : KeptBut (e :: hl) (frs X.stack) s.heap h' := by rw [hst]; exact kb
  have I1 : Inv X pins σ H { s with heap := h' } := I0.keptBut hx kb' fun b hb => by
    rcases List.mem_cons.mp hb with z | z
    · rw [z]; exact ⟨fe.untried, He⟩
    · exact ⟨(hhl b z).1.untried, (hhl b z).2⟩
  exact hW σ H _ e C T d I1 fe.untried He r1 t1 nTe (Fresh.of I0 hx hT) (I0.hok.gone hT) hE
/-- the class at C stands under the own class at F -/
structure Under (K : PySem.W.Frag) (C F : Addr) : Prop where
  is : PySem.W.excIn K C bmV "ValueError.__new__" = true
  in_ : PySem.W.mroIn K C (.ref F) = some true
  ne : C ≠ F
/-- try, one clause of the class at F, as the name in slot i: tb the body's reading, ts the suite's; E the wish that the body's calls are given -/
def tTry (K : PySem.W.Frag) (F : Addr) (i : Nat) (E : XK) (tb ts : TS) : TS := fun D σ H => tb D σ H ∧ ∀ C d H1, E (.ref C) d H1 → Under K C F ∧ ∀ (e : Addr) (σ1 : St), H1 e = none → i < σ1.length →
  ts { nx := fun σ2 H2 => D.nx ((σ2.set i (some .non)).set i none) H2, rt := D.rt, bk := fun σ2 H2 => D.bk ((σ2.set i (some .non)).set i none) H2, ct := fun σ2 H2 => D.ct ((σ2.set i (some .non)).set i none) H2 } (σ1.set i (some (.ref e))) (upd H1 e (excO e C d))
theorem qs_try {X : Cx} {E : XK} {x n : Str} {i : Nat} {F : Addr} {body suite : List Stmt} {b0 : Stmt} {tb ts : TS} {np hpos pos : Pos} (hx : X.ex = []) (hst : X.stack = X.env :: X.outer) (hf : X.env.frame = some X.env.locals) (cF : ECls X.K X.mg x F) (hg : Gl X x)
    (hN : X.N.Nodup) (hi : X.N[i]? = some n) (hk : X.env.scope.names.lookup n = some .local)
    (hb : ∀ pins W, Xok (tryCx X pins W) E → QSs (tryCx X pins W) body tb) (hs : ∀ e, QSs (supCx X e) (b0 :: suite) ts) (hd : (x == ("__debug__" : Str)) = false := by decide) :
    QS X (.Try body [.ExceptHandler (some (.Name x np)) (some n) (b0 :: suite) hpos] [] [] pos) (tTry X.K F i E tb ts) := ⟨by
  intro pins s σ H D I ⟨h1, h2⟩
  refine wpAny_Try_except ?_
  have hW : ∀ (σ : St) (H : Hp) (s : Shared) (e C T : Addr) (d : Option Addr), Inv X pins σ H s → Fresh X pins e → H e = none → Rec s.heap e (.ref C) d (.ref T) → Ent s.heap T .none → T ≠ e → Fresh X pins T → H T = none → E (.ref C) d H →
      wpAny (model X.prog X.w) X.A (handleBy (.ref e) X.env [.ExceptHandler (some (.Name x np)) (some n) (b0 :: suite) hpos]) (SP X pins D) X.xe s := by
    intro σ H s e C T d I fe He hr ht nTe fT HT hE
    obtain ⟨U, hsu⟩ := h2 C d H hE
    have hiσ : i < σ.length := by rw [I.len]; exact (List.getElem?_eq_some_iff.mp hi).1
    refine wpAny_handleBy_cons (codeAny_handlers_test (Calls.Name_function_global I.ok.kind hg (Calls.loadGlobal_global (by rw [I.ok.glob]; exact I.mod.glob.keeps I.bk) cF.at_ ?_) hd)) (by intro q; cases q)
    obtain ⟨bm, N, nm, q, bs, hdct, sn, sub, ab, col, dd, k0, k1, k2, k3, k5, mN, hC, hNs, hni, TL⟩ := ((ECls.own (mg := fun _ => some (.ref C)) (x := x) ⟨rfl, U.is⟩) I.kIn).obj
    obtain ⟨bm', N', nm', q', bs', hdct', sn', sub', ab', col', dd', j0, j1, j2, j3, j5, mN', hC', hNs', hni', TL'⟩ := (cF.own I.kIn).obj
    obtain ⟨oe, vs, he, hcl, hdi, hdt, hv1⟩ := id hr
    have hin : bm.contains (.ref F) = true := by
      have m := U.in_
      unfold PySem.W.mroIn at m
      obtain ⟨cd, a, b⟩ := Option.bind_eq_some_iff.mp m
      unfold PySem.W.clsIn at a
      split at a
      · rename_i ho
        have z := I.kIn _ _ ho
        rw [hC] at z
        cases z
        cases a
        split at b
        · cases b
        · have b' : (Value.ref C :: bm).contains (.ref F) = true := Option.some.inj b
          rw [List.contains_cons] at b'
          rcases Bool.or_eq_true_iff.mp b' with y | y
          · have := beq_iff_eq.mp y
            injection this with this
            exact absurd this.symm U.ne
          · exact y
      · cases a
    refine excMatches_above hC hC' he hcl (TL'.hasType PySem.F.excBase_ValueError.hasBase) hin ?_
    refine codeAny_handlers_suite_as ?_
    refine land (F := frs X.stack) hr ht nTe (fun b hb z => ?_) fun h' kb r1 t1 => ?_
    · obtain ⟨_, o, ho, hnf⟩ := I.stack.mem hb
      obtain ⟨oT, ts', hT, hdT, _⟩ := ht
      rw [z, hT] at ho
      injection ho with ho
      subst ho
      exact hnf ts' hdT
    have I1 : Inv X pins σ H { s with heap := h' } := I.keptBut hx kb fun b hb => by rw [List.mem_singleton.mp hb]; exact ⟨fT, HT⟩
    have I2 : Inv X pins σ (upd H e (excO e C d)) { s with heap := h' } := I1.known hx fe He (Rec.ok r1) fun b hb z => by
      obtain ⟨_, o, ho, hnf⟩ := I1.stack.mem hb
      obtain ⟨oe', vs', he', _, _, hd', _⟩ := r1
      rw [z] at ho
      have : (Option.some oe') = some o := he'.symm.trans ho
      injection this with this
      subst this
      exact hnf vs' hd'
    refine store_ok I2 hN hi (.inl hk) (v := .ref e) rfl (fun s2 I3 => ?_) (.inr hk)
    refine wpAny_mono ((hs e).o pins s2 _ _ _ I3.supped (hsu e σ He hiσ)) (fun f s3 hsp => ?_) fun _ _ z => z.elim
    -- behind the suite the name goes
    have fin : ∀ (σ3 : St) (H3 : Hp) (Z : Flow → Shared → Prop) , Inv X pins σ3 H3 s3 → (∀ s5, Inv X pins ((σ3.set i (some .non)).set i none) H3 s5 → Z f s5) →
        wpAny (model X.prog X.w) X.A (do bindName X.env n .none; unbindBehindTheSuite X.env n hpos) (fun _ s5 => Z f s5) X.xe s3 := by
      intro σ3 H3 Z I4 hZ
      have hi3 : i < σ3.length := by rw [I4.len]; exact (List.getElem?_eq_some_iff.mp hi).1
      refine wpAny_bind (wpAny_bindName (store_ok I4 hN hi (.inl hk) (v := .non) rfl (fun s4 I5 => ?_) (.inr hk)))
      unfold unbindBehindTheSuite
      exact wpAny_onRaise (unbind_ok I5 hN hi hk (List.getElem?_set_self hi3) fun s5 I6 => hZ s5 I6)
    cases f with
    | next =>
      obtain ⟨σ3, H3, I4, q⟩ := hsp
      exact fin σ3 H3 (SP X pins D) (I4.unsupped I.ok) fun s5 I6 => ⟨_, _, I6, q⟩
    | brk =>
      obtain ⟨σ3, H3, I4, q⟩ := hsp
      exact fin σ3 H3 (SP X pins D) (I4.unsupped I.ok) fun s5 I6 => ⟨_, _, I6, q⟩
    | cont =>
      obtain ⟨σ3, H3, I4, q⟩ := hsp
      exact fin σ3 H3 (SP X pins D) (I4.unsupped I.ok) fun s5 I6 => ⟨_, _, I6, q⟩
    | ret u =>
      obtain ⟨v, σ3, H3, I4, rv, q⟩ := hsp
      exact fin σ3 H3 (SP X pins D) (I4.unsupped I.ok) fun s5 I6 => ⟨v, _, _, I6, rv, q⟩
  have xk : Xok (tryCx X pins fun e s3 => wpAny (model X.prog X.w) X.A (handleBy e X.env [.ExceptHandler (some (.Name x np)) (some n) (b0 :: suite) hpos]) (SP X pins D) X.xe s3) E := xok_try hx hst hf hW
  refine wpAny_mono ((hb pins _ xk).o [] s σ H D I.tried h1) (fun f s1 hsp => ?_) fun _ _ z => z
  cases f with
  | next =>
    obtain ⟨σ3, H3, I4, q⟩ := hsp
    exact wpAny_execs_nil ⟨σ3, H3, I4.untried, q⟩
  | brk =>
    obtain ⟨σ3, H3, I4, q⟩ := hsp
    exact ⟨σ3, H3, I4.untried, q⟩
  | cont =>
    obtain ⟨σ3, H3, I4, q⟩ := hsp
    exact ⟨σ3, H3, I4.untried, q⟩
  | ret u =>
    obtain ⟨v, σ3, H3, I4, rv, q⟩ := hsp
    exact ⟨v, σ3, H3, I4.untried, rv, q⟩⟩
/-- a def that may raise -/
theorem Fun.okX {P : Program} {w : World} {K : PySem.W.Frag} {mg : Str → Option Value} {base : Heap} {x qual : Str} {st : Stmt} {f : Addr} {fd : FuncData} {N ps : List Str} {k : Nat} {sp : Sp} (F : Fun K x qual st f fd) (S : FnScope N ps (defScope st)) (len : ∀ vs H Q E, sp vs H Q E → vs.length = ps.length)
    (hbody : ∀ (cdv : Value) (A : Around) (outer : List Env) (s : Shared) (H : Hp) (vs : List V) (Q : VK) (E : XK), Room k (A.deeper (envOfC qual (defScope st) s.heap.objs.size f cdv)) → sp vs H Q E →
      ∃ t, QSs (cxOf (CXE P w) P w K mg base N qual (defScope st) f cdv A outer s H E) (defBody st) t ∧ t { nx := fun _ H' => Q .non H', rt := Q } (start N vs) H) : FnOk P w K mg base (CXE P w) (k + 1) f fd ps sp := by
  obtain ⟨oc, od, kV, doc, pm, an, cdv, ct, osl, rfl, lk, hcd⟩ := F.ex
  exact fn_of lk hcd S len fun A outer s H vs Q E hr hsp => let ⟨t, a, b⟩ := hbody cdv A outer s H vs Q E hr hsp; ⟨t, a.o, b⟩
end L2

set_option Elab.async false
set_option linter.all false
set_option maxRecDepth 100000
set_option maxHeartbeats 4000000
/-! isinstance OF AN EXCEPTION of an own class. -/
namespace PySem.W
open PySem PySem.Spec PySem.Calls PyProof.Rows
section
variable {prog : Program} {w : World} {A : Around} {E : Value → Shared → Prop} {s : Shared} {K : Frag} {x C : Addr} {ox : Obj} {od : Option Obj}
theorem findObj_dataO {a g : Value} {name : Str} (hc : (clsIn K C).isSome = true) (ha : findIn K (.ref C) name = some (some a)) (hg : specialIn K a "__get__" = some (some g)) (ht : takesIn K a = some true) : findObj K C od name = some (.bind g a) := by
  obtain ⟨cd, hc⟩ := Option.isSome_iff_exists.mp hc
  unfold findObj
  rw [hc, Option.bind_some, ha, Option.bind_some]
  simp [hg, ht]
/-- what isinstance asks of an exception's class -/
structure XcIs (K : Frag) (C : Addr) : Prop where
  cls : (clsIn K C).isSome = true
  ga : findIn K (.ref C) "__getattribute__" = some (some (.builtin "BaseException.__getattribute__"))
  gn : findIn K (.ref C) "__getattr__" = some none
  at_ : findIn K (.ref C) "__class__" = some (some (.builtin "object.__class__"))
  get : specialIn K (.builtin "object.__class__") "__get__" = some (some (.builtin "getset_descriptor.__get__"))
  tk : takesIn K (.builtin "object.__class__") = some true
  ob : mroIn K C (.type "object") = some true
  be : mroIn K C (.type "BaseException") = some true
theorem xc_entry {tk : Tok} {Q : Fin → Shared → Prop} (X : K.In s.heap) (I : InstAt s.heap x ox C od) (c : XcIs K C) (h : Q (.done (.ret (.ref C))) s) :
    wpAny (model prog w) A (Builtin.«object.__getattribute__» ⟨[.ref x, .str "__class__" tk], []⟩) Q E s := by
  obtain ⟨hh, g, d, t, os⟩ := s
  have L0 := I.type (M := model prog w)
  have L1 := looks_find (M := model prog w) X I (findObj_dataO c.cls c.at_ c.get c.tk)
  refine wpAny_bind (wpAny_pure (wpAny_bind (wpAny_pure (wpAny_bind (L0.at (wpAny_bind (L1.at ?_)))))))
  show wpAny _ _ (holding [Value.builtin "object.__class__"] (call (.builtin "getset_descriptor.__get__") [.builtin "object.__class__", .ref x, .ref C]) >>= ret) _ _ _
  exact wpAny_bind (wpAny_holding (wpAny_call (class_get X I c.ob (wpAny_pure h))))
theorem xc_check {nameV : Value} {Q : Unit → Shared → Prop} (X : K.In s.heap) (I : InstAt s.heap x ox C od) (c : XcIs K C) (h : Q () s) : wpAny (model prog w) A (checkBuiltinCall "BaseException.__getattribute__" ⟨[.ref x, nameV], []⟩) Q E s := by
  have hk : builtinKind "BaseException.__getattribute__" = some .slot := by decide +kernel
  have hsplit : splitId "BaseException.__getattribute__" = some ("BaseException", "__getattribute__") := by decide +kernel
  have ha := F.args_bexc_ga (.ref x) nameV
  obtain ⟨hh, g, d, t, os⟩ := s
  have L0 := I.type (M := model prog w)
  have L1 := looks_mroIn (M := model prog w) X c.be
  simp only [checkBuiltinCall, hk, hsplit]
  refine wpAny_bind ?_
  unfold isInstance
  refine wpAny_bind (L0.at (L1.at ?_))
  repeat (first | assumption | wp_step)
theorem xc_class {Q : Option Value → Shared → Prop} (X : K.In s.heap) (I : InstAt s.heap x ox C od) (c : XcIs K C) (h : Q (some (.ref C)) { s with toks := s.toks + 1 }) : wpAny (model prog w) A (getAttr? (.ref x) "__class__") Q E s := by
  obtain ⟨hh, g, d, t, os⟩ := s
  have L0 := I.type (M := model prog w)
  have L1 := looks_findIn (M := model prog w) X c.ga
  have L2 := looks_findIn (M := model prog w) X c.gn
  have f3 := PySem.F.attr_ValueError.ga.bind (.ref x)
  unfold getAttr? getAttrBy? getAttrBy
  refine wpAny_bind (wpAny_mkText (wpAny_bind (wpAny_attempt (wpAny_holding (wpAny_bind (L0.at (wpAny_bind (L1.at ?_))))))))
  show wpAny _ _ (getAttrByItsOwn _ _ _ _ _ _) _ _ _
  unfold getAttrByItsOwn hookBefore
  refine wpAny_bind (L2.at (wpAny_bind (wpAny_attempt (wpAny_holding ?_))))
  show wpAny _ _ (boundAndCalled _ _ _) _ _ _
  unfold boundAndCalled
  repeat (any_goals (first | assumption | wp_step))
  refine codeAny_call_builtin PySem.F.attr_ValueError.ga.plain PySem.F.entry_bexc_ga (xc_check X I c (xc_entry X I c ?_))
  exact handed_on rfl (wpAny_pure h)
/-- an exception of an own class stands at x -/
def XcAt (x C : Addr) (h : Heap) : Prop := ∃ ox od, InstAt h x ox C od
theorem kitx_exc (c : XcIs K C) : KitX K (.ref x) (.ref C) (XcAt x C) where
  ty := fun _ _ _ ⟨_, _, I⟩ => I.type
  it := fun _ _ X _ => by
    obtain ⟨cdD, hcD⟩ := Option.isSome_iff_exists.mp c.cls
    unfold clsIn at hcD
    split at hcD
    · rename_i c' d' cd' sl' ho
      intro A' Q' E' s' k q
      unfold isType loadHead
      exact wpAny_bind (wpAny_loadPart (k _ _ (X _ _ ho)) (wpAny_pure q))
    · cases hcD
  ne := fun h tp dd its n sl X htp => by
    obtain ⟨cdD, hcD⟩ := Option.isSome_iff_exists.mp c.cls
    refine Bool.eq_false_iff.mpr fun q => ?_
    have e : C = tp := Value.ref.inj (beq_iff_eq.mp q)
    subst e
    unfold clsIn at hcD
    split at hcD
    · rename_i c' d' cd' sl' ho
      have z := (X _ _ ho).symm.trans htp
      cases z
    · cases hcD
  ca := fun X ⟨_, _, I⟩ k => xc_class X I c k
end
end PySem.W
namespace L2
open PySem PySem.Spec PyProof.Rows Xn
/-- a class as a value: one of the text, a built-in one -/
def clsV : V → Option Value
  | .ref a => some (.ref a)
  | .ty T => some (.type T)
  | _ => none
def rIsX (K : PySem.W.Frag) : List V → Hp → VK → Prop := fun xs H Q => ∃ e C c cv b, xs = [.ref e, c] ∧ H e = some (excO e C none) ∧ clsV c = some cv ∧ PySem.W.XcIs K C ∧ PySem.W.kitOne K (.ref C) cv = some b ∧ Q (.bl b) H
theorem call_isX {X : Cx} : CallR X (.builtin "isinstance") (rIsX X.K) := by
  intro pins s σ H xs us Q I r h
  obtain ⟨e, C, c, cv, b, rfl, he, hc, xc, hk, q⟩ := h
  obtain ⟨u, w', rfl, rx, rc⟩ := vals2 r
  cases (show u = Value.ref e from rx)
  have hw : w' = cv := by
    cases c with
    | ref a => cases hc; exact rc
    | ty T => cases hc; exact rc
    | _ => cases hc
  subst hw
  obtain ⟨⟨oe, vs, h1, h2, h3, h4⟩, _, _⟩ := (show ObjOk X.prog X.w H s.heap e (excO e C none) from I.hok e _ he)
  refine PySem.W.kia_one (PySem.W.kitx_exc xc) I.kIn ⟨oe, none, h1, h2, ?_, ?_⟩ hk (fun z => ?_) fun tk => ⟨.bl b, H, I.tok _, rfl, q⟩
  · unfold PySem.W.notCls
    rw [h4]
  · rw [h3]; trivial
  · cases z
end L2

set_option Elab.async false
set_option linter.all false
set_option maxRecDepth 100000
set_option maxHeartbeats 4000000
/-! A CALL WITHIN AN except's SUITE: the callee runs while an exception is handled. -/
namespace L2
open PySem PySem.Spec PyProof.Rows Xn
structure RoomU (k : Nat) (A : Around) : Prop where
  dp : A.depth + 3 * k + 5 < recursionLimit
  un : A.units + 16 * k + 200 < cLine
theorem Room.u {k : Nat} {A : Around} (r : Room k A) : RoomU k A := ⟨r.dp, r.un⟩
theorem Room.mark {k : Nat} {A : Around} (r : Room k A) (e : Option Value) : RoomU k (A.mark e) := ⟨r.dp, r.un⟩
theorem RoomU.mono {j k : Nat} {A : Around} (r : RoomU k A) (h : j ≤ k) : RoomU j A := ⟨by have := r.dp; omega, by have := r.un; omega⟩
theorem RoomU.deeper {k : Nat} {A : Around} (r : RoomU (k + 1) A) (env : Env) : RoomU k (A.deeper env) :=
  ⟨by have := r.dp; show A.depth + 1 + 3 * k + 5 < _; omega, by have := r.un; show A.units + 3 + 16 * k + 200 < _; omega⟩
theorem RoomU.depth {k : Nat} {A : Around} (r : RoomU k A) : A.depth < recursionLimit := by have := r.dp; omega
structure FnOkU (P : Program) (w : World) (K : PySem.W.Frag) (mg : Str → Option Value) (base : Heap) (k : Nat) (f : Addr) (fd : FuncData) (ps : List Str) (sp : Sp) : Prop where
  len : ∀ vs H Q E, sp vs H Q E → vs.length = ps.length
  run : ∀ (A : Around) (outer : List Env) (s : Shared) (H : Hp) (args : Args) (us : List Value) (vs : List V) (Q : VK) (E : XK), RoomU k A → Env0 P w K mg base A outer s H → BindsTo s fd args (ps.zip us) → Vals vs us → sp vs H Q E →
    codeAny (model P w) A (.call (.ref f) args) (CR CX0 outer P w H s Q E) s
/-- a body's context while an exception may be handled -/
abbrev cxU (P : Program) (w : World) (K : PySem.W.Frag) (mg : Str → Option Value) (base : Heap) (N : List Str) (qual : Str) (scope : Scope) (f : Addr) (cd : Value) (A : Around) (outer : List Env) (s : Shared) (H : Hp) (E : XK) : Cx :=
  { cxOf CX0 P w K mg base N qual scope f cd A outer s H E with calm := false, xe := fun _ _ => False }
theorem inv_startU {P : Program} {w : World} {K : PySem.W.Frag} {mg : Str → Option Value} {base : Heap} {N ps : List Str} {qual : Str} {scope : Scope} {f : Addr} {cd : Value} {A : Around} {outer : List Env} {s s1 : Shared} {H : Hp} {E : XK} {us : List Value} {vs : List V}
    (S : FnScope N ps scope) (e0 : Env0 P w K mg base A outer s H) (hl : vs.length = ps.length) (r : Vals vs us)
    (x : InCallC s s.heap.objs.size (bindL (envOfC qual scope s.heap.objs.size f cd).kindOf (ps.zip us) fun _ => none) (cellsFrom (s.heap.objs.size + 1) scope.names []) (bindC (envOfC qual scope s.heap.objs.size f cd).kindOf (ps.zip us) fun _ => none) s1) :
    Inv (cxU P w K mg base N qual scope f cd A outer s H E) [] (start N vs) H s1 := by
  have I : Inv (cxOf CX0 P w K mg base N qual scope f cd ({ A with handled := none }) outer s H E) [] (start N vs) H s1 := inv_start (A := { A with handled := none }) S rfl ⟨e0.frames, e0.mod, e0.bs, e0.bsz, e0.funs, e0.frf, e0.hok, e0.bare⟩ hl r x
  have ok := I.ok
  exact ⟨⟨ok.mod, ok.kind, ok.glob, ok.blt, ok.above, ok.inj, ok.has, ok.cab, fun h => (nomatch h), ok.frames, ok.stk, ok.exf, ok.bs, ok.bsz, ok.noex, ok.exfs, ok.funs, ok.frf⟩, I.os, I.bare, I.base, I.loc, I.cell, I.free, I.freeC, I.pin, I.hok, I.len⟩
theorem Fun.okU {P : Program} {w : World} {K : PySem.W.Frag} {mg : Str → Option Value} {base : Heap} {x qual : Str} {st : Stmt} {f : Addr} {fd : FuncData} {N ps : List Str} {k : Nat} {sp : Sp} (F : Fun K x qual st f fd) (S : FnScope N ps (defScope st)) (len : ∀ vs H Q E, sp vs H Q E → vs.length = ps.length)
    (hbody : ∀ (cdv : Value) (A : Around) (outer : List Env) (s : Shared) (H : Hp) (vs : List V) (Q : VK) (E : XK), RoomU k (A.deeper (envOfC qual (defScope st) s.heap.objs.size f cdv)) → sp vs H Q E →
      ∃ t, QSs (cxU P w K mg base N qual (defScope st) f cdv A outer s H E) (defBody st) t ∧ t { nx := fun _ H' => Q .non H', rt := Q } (start N vs) H) : FnOkU P w K mg base (k + 1) f fd ps sp := by
  obtain ⟨oc, od, kV, doc, pm, an, cdv, ct, osl, rfl, lk, hcd⟩ := F.ex
  refine ⟨len, fun A outer s H args us vs Q E hr e0 hb r hsp => ?_⟩
  have hl := len _ _ _ _ hsp
  have KX : K.In s.heap := e0.mod.kin.keeps fun b o e => (e0.bs b o e).1
  have lim : s.heap.NoLimit := e0.mod.nolimit.keeps fun b o e => (e0.bs b o e).1
  have hkind : ∀ y ∈ ps.zip us, (defScope st).names.lookup y.1 = some .local ∨ ((defScope st).names.lookup y.1 = some .cell ∧ ((cellsFrom (s.heap.objs.size + 1) (defScope st).names []).lookup y.1).isSome = true) := fun ⟨n, v⟩ hy => by
    rcases S.par n (List.of_mem_zip hy).1 with q | q
    · exact .inl q
    · exact .inr ⟨q, PySem.W.cellsFrom_some _ _ _ (.inl q)⟩
  refine codeAny_call_function hr.depth (KX _ _ lk) rfl S.co S.gen rfl (PySem.W.codeRec_of KX hcd) (hb _ _ _ _ ?_)
  refine wpAny_newFunctionEnv_cells S.kind hkind fun env he s1 x => ?_
  subst he
  refine ⟨lim.keeps x.toInCall.keep, codeAny_func ?_⟩
  obtain ⟨t, ht, hq⟩ := hbody cdv A outer s H vs Q E (hr.deeper _) hsp
  have I : Inv (cxU P w K mg base N qual (defScope st) f cdv A outer s H E) [] (start N vs) H s1 := inv_startU S e0 hl r x
  refine wpAny_mono (ht.o [] s1 (start N vs) H _ I hq) (fun fl s' hs => ?_) fun e s' hs => hs.elim
  have fin : ∀ {σ' : St} {H' : Hp} {v : V} {u : Value}, Inv (cxU P w K mg base N qual (defScope st) f cdv A outer s H E) [] σ' H' s' → RelV v u → Q v H' → CE outer P w H s Q u s' :=
    fun {σ' H' v u} J rv q => ⟨v, H', J.os, J.bare, J.base, J.hok, rv, q⟩
  cases fl with
  | ret u =>
    obtain ⟨v, σ', H', J, rv, q⟩ := hs
    exact fin J rv q
  | next =>
    obtain ⟨σ', H', J, q⟩ := hs
    exact fin (v := V.non) (u := Value.none) J rfl q
  | brk =>
    obtain ⟨_, _, _, q⟩ := hs
    exact False.elim q
  | cont =>
    obtain ⟨_, _, _, q⟩ := hs
    exact False.elim q
section
variable {X : Cx} {k : Nat} {f : Addr} {fd : FuncData} {ps : List Str} {sp : Sp} {x : Str} {p pos : Pos} {e : Expr} {es : List Expr} {t : TA}
theorem qe_callU (F : FnOkU X.prog X.w X.K X.mg X.base k f fd ps sp) (hr : RoomU k X.A) (hg : Gl X x) (hm : X.mg x = some (.ref f)) (hk : PySem.W.keepIn X.K (.ref f) = true) (hb : Binds X.K fd ps [])
    (ha : QA X (e :: es) t) (hdb : (x == ("__debug__" : Str)) = false := by decide) (hst : noStar e = true := by rfl) (hpl : (backTo pos (starEach es X.env)).any (·.1) = false := by rfl) :
    QE X (.Call (.Name x p) (e :: es) [] pos) (tCall sp [] E0 t) := ⟨by
  intro pins s σ H Q I h
  refine wpAny_Call_Name_kw (ld_glob I hg hm ?_ hdb)
  refine PySem.W.callWith_K (h₀ := X.base) I.ok.mod.kin hk (thn (ha.o pos pins s σ H _ I h) fun us s1 ⟨vs, H1, I1, r, q⟩ => ⟨I1.kIn, ?_⟩) (starEach_cons hst es X.env) hpl
  have r2 : Vals (vs ++ []) (us ++ []) := r.append .nil
  have hl : (us ++ []).length = ps.length := by rw [← r2.length]; exact F.len _ _ _ _ q
  refine wpAny_call (codeAny_mono (F.run X.A X.stack s1 H1 ⟨us, []⟩ (us ++ []) (vs ++ []) Q E0 hr I1.env0 (hb s1 us I1.kIn hl) r2 q) fun r s' hq => ?_)
  cases r with
  | error e => exact False.elim hq
  | ok fl =>
    cases fl with
    | ret u => exact I1.after hq
    | next => exact False.elim hq
    | brk => exact False.elim hq
    | cont => exact False.elim hq⟩
end
end L2

set_option Elab.async false
set_option linter.all false
set_option maxRecDepth 100000
set_option maxHeartbeats 4000000
/-! list.count, list.index of bools; comprehensions over zip; no promise. -/
namespace L2
open PySem PySem.Spec PySem.SeqAt PyProof.Rows Xn
theorem countP_bools (k : Bool) : ∀ bs : List Bool, (bs.map Value.bool).countP (isBoolOf k) = bs.count k
  | [] => rfl
  | b :: bs => by
    rw [List.map_cons, List.countP_cons, List.count_cons, countP_bools k bs]
    rfl
theorem eq_bools (k : Bool) (bs : List Bool) (y : Value) (hy : y ∈ bs.map Value.bool) (A : Around) (s : Shared) : EqAt A s y (.bool k) (isBoolOf k y) := by
  obtain ⟨b, _, rfl⟩ := List.mem_map.mp hy
  exact EqAt.bool_bool b k
section
variable {X : Cx}
def rCountB : V → List V → Hp → VK → Prop := fun x vs H Q => ∃ (l : Addr) (bs : List Bool) (k : Bool), x = .ref l ∧ vs = [.bl k] ∧ H l = some (.lst (bs.map V.bl)) ∧ Q (.int (bs.count k : Nat)) H
theorem mt_countB : MtM X "list.count" rCountB := by
  intro pins s σ H x vs v us Q I rx rv h
  obtain ⟨l, bs, k, rfl, rfl, hH, q⟩ := h
  cases rx
  obtain ⟨u, rfl, ru⟩ := rv.one
  cases (show u = Value.bool k from ru)
  obtain ⟨z, its, n, r, hl, e⟩ := I.lstM hH
  cases vals_bl r
  refine call_meets PySem.F.slot_list_count ⟨_, e, rfl⟩ PySem.F.entry_list_count (PySem.F.args_list_count_2 _ _) (list_countAt l _ n none #[] (.bool k) (isBoolOf k)) ⟨e, fun y hy => eq_bools k bs y (by simpa using hy) _ _, ?_⟩
  refine ⟨.int (bs.count k : Nat), H, I.tok _, ⟨s.toks, ?_⟩, q⟩
  rw [show (bs.map Value.bool).toArray.toList = bs.map Value.bool from rfl, countP_bools]
def rIndexB : V → List V → Hp → VK → Prop := fun x vs H Q => ∃ (l : Addr) (bs : List Bool) (k : Bool) (j : Nat), x = .ref l ∧ vs = [.bl k] ∧ H l = some (.lst (bs.map V.bl)) ∧ bs[j]? = some k ∧ (∀ m, m < j → bs[m]? = some (!k)) ∧ bs.length ≤ 1000 ∧ Q (.int (j : Nat)) H
theorem mt_indexB : MtM X "list.index" rIndexB := by
  intro pins s σ H x vs v us Q I rx rv h
  obtain ⟨l, bs, k, j, rfl, rfl, hH, hj, hb, hz, q⟩ := h
  cases rx
  obtain ⟨u, rfl, ru⟩ := rv.one
  cases (show u = Value.bool k from ru)
  obtain ⟨z, its, n, r, hl, e⟩ := I.lstM hH
  cases vals_bl r
  have hjl : j < bs.length := (List.getElem?_eq_some_iff.mp hj).1
  refine call_meets PySem.F.slot_list_index ⟨_, e, rfl⟩ PySem.F.entry_list_index (PySem.F.args_list_index_2 _ _)
    (list_indexAt l _ n none #[] (.bool k) (isBoolOf k) j (by simpa using hjl) (by omega) ?_ ?_) ⟨e, fun y hy => eq_bools k bs y (by simpa using hy) _ _, ⟨.int (j : Nat), H, I.tok _, ⟨s.toks, rfl⟩, q⟩⟩
  · have : bs[j] = k := by rw [List.getElem?_eq_getElem hjl] at hj; exact Option.some.inj hj
    simp [isBoolOf, this]
  · intro m hm hlt
    have h2 := hb m hlt
    have hml : m < bs.length := by omega
    have : bs[m] = !k := by rw [List.getElem?_eq_getElem hml] at h2; exact Option.some.inj h2
    simp [isBoolOf, this]
end
section
variable {K : PySem.W.Frag} {a b D : Addr} {js : List (Option Nat)} {g : TG} {te : TE} {σ : St} {H1 : Hp} {Q : VK}
end
/-- a tuple as a comprehension's target: the number and the written part named -/
theorem qg_tupN {X : Cx} {K : PySem.W.Frag} {es : List Expr} {k : Nat} {pos : Pos} {t : TGs} {n : Nat} (hK : X.K = K) (hc : X.calm = true) (h : QGs X es t) (hn : (assignEach es X.env).length = n := by rfl) (hst : (assignEach es X.env).findIdx? (·.1) = none := by rfl) : QG X (.Tuple es k pos) (gTup K n t) := by
  subst hK
  exact qg_tup hc h hn hst
/-- an if whose ways meet in J -/
def tIfJ (c : TT) (t u : TS) : TS := fun D σ H => ∃ J : St → Hp → Prop, (c σ H fun b H1 => if b = true then t { D with nx := J } σ H1 else u { D with nx := J } σ H1) ∧ ∀ σ' H', J σ' H' → D.nx σ' H'
theorem qs_ifJ {X : Cx} {c : Expr} {a b : List Stmt} {tc : TT} {t u : TS} {pos : Pos} (hc : QT X c tc) (ha : QSs X a t) (hb : QSs X b u) : QS X (.If c a b pos) (tIfJ tc t u) := ⟨by
  intro pins s σ H D I ⟨J, h1, h2⟩
  refine thn ((qs_if hc ha hb).o pins s σ H { D with nx := J } I h1) fun f s' hs => ?_
  cases f with
  | next => obtain ⟨σ', H', I', q⟩ := hs; exact ⟨σ', H', I', h2 σ' H' q⟩
  | brk => exact hs
  | cont => exact hs
  | ret u => exact hs⟩
end L2
namespace PySem.W
theorem cls_of_mro {K : Frag} {C : Addr} {b : Value} {r : Bool} (h : mroIn K C b = some r) : (clsIn K C).isSome = true := by
  unfold mroIn at h
  obtain ⟨cd, a, _⟩ := Option.bind_eq_some_iff.mp h
  rw [a]; rfl
theorem kit_self {K : Frag} {C : Addr} : kitOne K (.ref C) (.ref C) = some true := by
  unfold kitOne
  rw [if_pos (by simp)]
theorem kit_false {K : Frag} {C D : Addr} (ty : typeIn K (.ref D) = some (.type "type")) (mo : mroIn K D (.type "object") = some true) (m : mroIn K C (.ref D) = some false) (n : C ≠ D) : kitOne K (.ref C) (.ref D) = some false := by
  unfold kitOne
  rw [if_neg (fun z => n (by have := beq_iff_eq.mp z; injection this))]
  unfold kitCls
  show (if ((clsIn K D).isSome && typeIn K (.ref D) == some (.type "type")) = true then subIn K (.ref C) (.ref D) else none) = _
  rw [cls_of_mro mo, ty]
  exact m
theorem kit_val {K : Frag} {C : Addr} (m : mroIn K C (.type "ValueError") = some true) : kitOne K (.ref C) (.type "ValueError") = some true := by
  unfold kitOne
  rw [if_neg (fun z => by cases beq_iff_eq.mp z)]
  unfold kitCls
  show (if kitMeta "ValueError" = true then subIn K (.ref C) (.type "ValueError") else none) = _
  rw [if_pos (by decide +kernel)]
  exact m
end PySem.W

set_option Elab.async false
set_option maxHeartbeats 4000000
/-! how often a prime goes into a number -/
namespace Mth
/-- how often p goes into n -/
def cnt (p : Nat) (n : Nat) : Nat := if h : 2 ≤ p ∧ 1 ≤ n ∧ n % p = 0 then cnt p (n / p) + 1 else 0
termination_by n
decreasing_by exact Nat.div_lt_self h.2.1 h.1
theorem cnt_div {p n : Nat} (hp : 2 ≤ p) (hn : 1 ≤ n) (h : n % p = 0) : cnt p n = cnt p (n / p) + 1 := by
  rw [cnt, dif_pos ⟨hp, hn, h⟩]
theorem cnt_not {p n : Nat} (h : n % p ≠ 0) : cnt p n = 0 := by
  rw [cnt, dif_neg fun z => h z.2.2]
def expsL : List Nat → Nat → List Nat
  | [], _ => []
  | p :: ps, n => cnt p n :: expsL ps (strip p n)
/-- n is p so often, times a rest that p does not divide -/
theorem cnt_spec {p : Nat} (hp : 2 ≤ p) : ∀ n : Nat, 1 ≤ n → n = p ^ cnt p n * strip p n := by
  intro n
  induction n using Nat.strongRecOn with
  | _ n ih =>
    intro hn
    by_cases h : n % p = 0
    · have h1 := div_pos_of hn h
      have e := ih (n / p) (Nat.div_lt_self hn hp) h1
      rw [cnt_div hp hn h, strip_div hp hn h, Nat.pow_succ]
      have e2 : n = p * (n / p) := (Nat.mul_div_cancel' (Nat.dvd_of_mod_eq_zero h)).symm
      calc n = p * (n / p) := e2
        _ = p * (p ^ cnt p (n / p) * strip p (n / p)) := by rw [← e]
        _ = p ^ cnt p (n / p) * p * strip p (n / p) := by rw [← Nat.mul_assoc, Nat.mul_comm p]
    · rw [cnt_not h, strip_not h, Nat.pow_zero, Nat.one_mul]
theorem cnt_eq {p : Nat} (hp : 2 ≤ p) : ∀ (e r : Nat), 1 ≤ r → r % p ≠ 0 → cnt p (p ^ e * r) = e
  | 0, r, _, h => by rw [Nat.pow_zero, Nat.one_mul, cnt_not h]
  | e + 1, r, hr, h => by
    have e1 : p ^ (e + 1) * r = p * (p ^ e * r) := by rw [Nat.pow_succ, Nat.mul_comm (p ^ e) p, Nat.mul_assoc]
    have hpos : 1 ≤ p ^ e * r := Nat.mul_pos (Nat.pow_pos (by omega)) hr
    rw [e1, cnt_div hp (Nat.mul_pos (by omega) hpos) (Nat.mul_mod_right p _), Nat.mul_div_cancel_left _ (by omega), cnt_eq hp e r hr h]
theorem cnt_strip {p q : Nat} (hp : 2 ≤ p) (hq : 2 ≤ q) (c : Nat.Coprime p q) {n : Nat} (hn : 1 ≤ n) : cnt p (strip q n) = cnt p n := by
  have e1 := cnt_spec hp n hn
  have e2 := cnt_spec hq n hn
  have hs := strip_pos hq n hn
  have hr := strip_pos hp n hn
  have hrm := strip_mod hp n hn
  have cq : Nat.Coprime (p ^ cnt p n) (q ^ cnt q n) := Nat.Coprime.pow _ _ c
  have hd : p ^ cnt p n ∣ strip q n := by
    have : p ^ cnt p n ∣ q ^ cnt q n * strip q n := by rw [← e2]; exact ⟨strip p n, e1⟩
    exact cq.dvd_of_dvd_mul_left this
  obtain ⟨r, hr'⟩ := hd
  have hr1 : 1 ≤ r := by
    rcases Nat.eq_zero_or_pos r with z | z
    · rw [z, Nat.mul_zero] at hr'; omega
    · exact z
  have hrp : r % p ≠ 0 := fun z => by
    obtain ⟨t, ht⟩ := Nat.dvd_of_mod_eq_zero z
    have e3 : n = p ^ cnt p n * (p * (t * q ^ cnt q n)) := by
      calc n = q ^ cnt q n * strip q n := e2
        _ = q ^ cnt q n * (p ^ cnt p n * (p * t)) := by rw [hr', ht]
        _ = p ^ cnt p n * (p * (t * q ^ cnt q n)) := by
          rw [Nat.mul_comm (q ^ cnt q n), Nat.mul_assoc, Nat.mul_assoc, Nat.mul_comm t]
    have e4 : p ^ cnt p n * strip p n = p ^ cnt p n * (p * (t * q ^ cnt q n)) := by rw [← e1]; exact e3
    have e5 := Nat.eq_of_mul_eq_mul_left (Nat.pow_pos (by omega)) e4
    rw [e5, Nat.mul_mod_right] at hrm
    exact hrm rfl
  rw [hr', cnt_eq hp _ r hr1 hrp]
/-- the law's way, prime by prime with the earlier ones taken out, and the program's way -/
theorem expsL_map : ∀ (ps : List Nat), (∀ p ∈ ps, 2 ≤ p) → ps.Pairwise Nat.Coprime → ∀ n, 1 ≤ n → expsL ps n = ps.map fun p => cnt p n
  | [], _, _, _, _ => rfl
  | p :: ps, h, hc, n, hn => by
    have hp := h p List.mem_cons_self
    rw [List.pairwise_cons] at hc
    show cnt p n :: expsL ps (strip p n) = cnt p n :: ps.map fun q => cnt q n
    rw [expsL_map ps (fun q hq => h q (List.mem_cons_of_mem _ hq)) hc.2 (strip p n) (strip_pos hp n hn)]
    congr 1
    refine List.map_congr_left fun q hq => ?_
    exact cnt_strip (h q (List.mem_cons_of_mem _ hq)) hp (hc.1 q hq).symm hn
theorem expsL_prodR : ∀ (ps es : List Nat), (∀ p ∈ ps, 2 ≤ p) → ps.Pairwise Nat.Coprime → es.length = ps.length → expsL ps (prodR ps es) = es
  | [], [], _, _, _ => rfl
  | [], _ :: _, _, _, h => by cases h
  | _ :: _, [], _, _, h => by cases h
  | p :: ps, e :: es, h, hc, hl => by
    have hp := h p List.mem_cons_self
    rw [List.pairwise_cons] at hc
    have hq : ∀ q ∈ ps, 2 ≤ q := fun q hq => h q (List.mem_cons_of_mem _ hq)
    have hr := prodR_pos ps es hq
    have cp : Nat.Coprime p (prodR ps es) := cop_prodR ps es hc.1
    have nm := not_mod_of_cop hp cp
    show cnt p (p ^ e * prodR ps es) :: expsL ps (strip p (p ^ e * prodR ps es)) = e :: es
    rw [cnt_eq hp e _ hr nm, strip_pow hp hr e, strip_not nm, expsL_prodR ps es hq hc.2 (by simpa using hl)]
/-- the powers of a number, the program's way -/
def powsOf (n : Nat) : List Nat := primes.map fun p => cnt p n
theorem powsOf_exps {n : Nat} (hn : 1 ≤ n) : powsOf n = expsL primes n := (expsL_map primes two_le primes_cop n hn).symm
theorem powsOf_prod {es : List Nat} (h : es.length = 10) : powsOf (prod es) = es := by
  rw [powsOf_exps (prod_pos es)]
  exact expsL_prodR primes es two_le primes_cop h
end Mth

set_option Elab.async false
set_option maxHeartbeats 4000000
/-! steps, and what is ahead, over rows of changes -/
namespace Mth
def fitsB (c p : List Int) : Bool := (c.zip p).all fun x => decide (0 ≤ x.2 + x.1)
/-- the first row that fits -/
def fstI : List (List Int) → List Int → Option Nat
  | [], _ => none
  | c :: r, p => if fitsB c p = true then some 0 else (fstI r p).map (· + 1)
def mvd (p c : List Int) (m : Int) : List Int := List.zipWith (fun a b => a + m * b) p c
def nn (p : List Int) : Bool := p.all fun x => decide (0 ≤ x)
theorem mvd_length {p c : List Int} {m : Int} (hp : p.length = 10) (hc : c.length = 10) : (mvd p c m).length = 10 := by simp [mvd, hp, hc]
/-- rows of ten -/
def R10 (rows : List (List Int)) : Prop := ∀ c ∈ rows, c.length = 10
theorem fstI_lt : ∀ {rows : List (List Int)} {p : List Int} {i : Nat}, fstI rows p = some i → ∃ c, rows[i]? = some c ∧ fitsB c p = true ∧ i < rows.length
  | [], _, _, h => by cases h
  | c :: r, p, i, h => by
    unfold fstI at h
    by_cases hc : fitsB c p = true
    · rw [if_pos hc] at h
      cases h
      exact ⟨c, rfl, hc, by simp⟩
    · rw [if_neg hc] at h
      cases e : fstI r p with
      | none => rw [e] at h; cases h
      | some j =>
        rw [e] at h
        have hj : j + 1 = i := Option.some.inj h
        subst hj
        obtain ⟨c', h1, h2, h3⟩ := fstI_lt e
        exact ⟨c', by simpa using h1, h2, by simp; omega⟩
/-- looked through from the left -/
theorem fstI_at : ∀ (rows : List (List Int)) (p : List Int) (i : Nat), (∀ j, j < i → ∀ c, rows[j]? = some c → fitsB c p = false) → (∀ c, rows[i]? = some c → fitsB c p = true) → i < rows.length → fstI rows p = some i
  | [], _, _, _, _, h => by simp at h
  | c :: r, p, 0, _, h, _ => by
    unfold fstI
    rw [if_pos (h c rfl)]
  | c :: r, p, i + 1, h, h', hl => by
    have h0 := h 0 (by omega) c rfl
    unfold fstI
    rw [h0, if_neg (by decide), fstI_at r p i (fun j hj c' e => h (j + 1) (by omega) c' (by simpa using e)) (fun c' e => h' c' (by simpa using e)) (by simpa using hl)]
    rfl
/-- one step -/
def stp (rows : List (List Int)) (p : List Int) : Option (List Int) := (fstI rows p).map fun i => mvd p (rows.getD i []) 1
def goN (rows : List (List Int)) : Nat → List Int → Option (List Int)
  | 0, p => some p
  | k + 1, p => (goN rows k p).bind (stp rows)
theorem nn_iff {p : List Int} : nn p = true ↔ ∀ x ∈ p, 0 ≤ x := by simp [nn]
theorem fitsB_iff {c p : List Int} : fitsB c p = true ↔ ∀ (i : Nat) (a b : Int), c[i]? = some a → p[i]? = some b → 0 ≤ b + a := by
  unfold fitsB
  rw [List.all_eq_true]
  constructor
  · intro h i a b h1 h2
    have hz : (c.zip p)[i]? = some (a, b) := by rw [List.getElem?_zip_eq_some]; exact ⟨h1, h2⟩
    exact of_decide_eq_true (h _ (List.mem_of_getElem? hz))
  · intro h x hx
    obtain ⟨i, hi⟩ := List.getElem?_of_mem hx
    obtain ⟨a, b⟩ := x
    rw [List.getElem?_zip_eq_some] at hi
    exact decide_eq_true (h i a b hi.1 hi.2)
theorem nn_step {c p : List Int} (h : fitsB c p = true) : nn (mvd p c 1) = true := by
  rw [nn_iff]
  intro x hx
  obtain ⟨i, hi⟩ := List.getElem?_of_mem hx
  unfold mvd at hi
  rw [List.getElem?_zipWith_eq_some] at hi
  obtain ⟨b, a, h1, h2, rfl⟩ := hi
  have := fitsB_iff.mp h i a b h2 h1
  omega
theorem getD_of {rows : List (List Int)} {i : Nat} {c : List Int} (h : rows[i]? = some c) : rows.getD i [] = c := by
  rw [List.getD_eq_getElem?_getD, h]; rfl
theorem stp_of {rows : List (List Int)} {p : List Int} {i : Nat} {c : List Int} (h : fstI rows p = some i) (hc : rows[i]? = some c) : stp rows p = some (mvd p c 1) := by
  unfold stp
  rw [h, ← getD_of hc]
  rfl
theorem stp_none {rows : List (List Int)} {p : List Int} (h : fstI rows p = none) : stp rows p = none := by
  unfold stp; rw [h]; rfl
theorem stp_some {rows : List (List Int)} {p q : List Int} (h : stp rows p = some q) : ∃ i c, fstI rows p = some i ∧ rows[i]? = some c ∧ fitsB c p = true ∧ q = mvd p c 1 := by
  unfold stp at h
  cases e : fstI rows p with
  | none => rw [e] at h; cases h
  | some i =>
    rw [e] at h
    obtain ⟨c, h1, h2, _⟩ := fstI_lt e
    have h3 : mvd p (rows.getD i []) 1 = q := Option.some.inj h
    rw [getD_of h1] at h3
    exact ⟨i, c, rfl, h1, h2, h3.symm⟩
theorem stp_ok {rows : List (List Int)} {p q : List Int} (hr : R10 rows) (hp : p.length = 10) (h : stp rows p = some q) : q.length = 10 ∧ nn q = true := by
  obtain ⟨i, c, _, h2, h3, rfl⟩ := stp_some h
  exact ⟨mvd_length hp (hr c (List.mem_of_getElem? h2)), nn_step h3⟩
theorem goN_ok {rows : List (List Int)} (hr : R10 rows) {p : List Int} (hp : p.length = 10) (hn : nn p = true) : ∀ {k : Nat} {q : List Int}, goN rows k p = some q → q.length = 10 ∧ nn q = true
  | 0, q, h => by cases h; exact ⟨hp, hn⟩
  | k + 1, q, h => by
    obtain ⟨r, h1, h2⟩ := Option.bind_eq_some_iff.mp h
    exact stp_ok hr (goN_ok hr hp hn h1).1 h2
/-- the numbers of the fractions used -/
def trl (rows : List (List Int)) : Nat → List Int → List Nat
  | 0, _ => []
  | k + 1, p => match fstI rows p with
    | none => []
    | some i => i :: trl rows k (mvd p (rows.getD i []) 1)
theorem trl_none {rows : List (List Int)} {p : List Int} (h : fstI rows p = none) : ∀ k, trl rows k p = []
  | 0 => rfl
  | k + 1 => by simp only [trl, h]
theorem trl_some {rows : List (List Int)} {p c : List Int} {i : Nat} (h : fstI rows p = some i) (hc : rows[i]? = some c) (k : Nat) : trl rows (k + 1) p = i :: trl rows k (mvd p c 1) := by
  simp only [trl, h]
  rw [getD_of hc]
theorem trl_len (rows : List (List Int)) : ∀ (k : Nat) (p : List Int), (trl rows k p).length ≤ k
  | 0, _ => Nat.le_refl _
  | k + 1, p => by
    cases h : fstI rows p with
    | none => rw [trl_none h]; simp
    | some i =>
      obtain ⟨c, hc, _, _⟩ := fstI_lt h
      rw [trl_some h hc]
      have := trl_len rows k (mvd p c 1)
      simp; omega
theorem goN_first (rows : List (List Int)) : ∀ (k : Nat) (p : List Int), goN rows (k + 1) p = (stp rows p).bind (goN rows k)
  | 0, p => by
    show stp rows p = (stp rows p).bind fun q => some q
    cases stp rows p <;> rfl
  | k + 1, p => by
    show (goN rows (k + 1) p).bind (stp rows) = (stp rows p).bind fun q => (goN rows k q).bind (stp rows)
    rw [goN_first rows k p]
    cases stp rows p <;> rfl
end Mth
namespace Mth
def natI (l : List Nat) : List Int := l.map fun n : Nat => (n : Int)
end Mth

set_option Elab.async false
set_option linter.all false
set_option maxRecDepth 100000
set_option maxHeartbeats 4000000
/-! ROWS OF INTS in the heap; comprehensions over a zip of two such. -/
namespace L2
open PySem PyProof.Rows
theorem b_sum : bootBuiltins "sum" = some (.builtin "sum") := by decide +kernel
end L2
namespace W2
open PySem L2 Mth
abbrev tupI (c : List Int) : HO := .tup (c.map V.int)
theorem _root_.L2.RowV.same {H H' : Hp} {x : V} {c : List Int} (h : RowV H x c) (s : Same H H') : RowV H' x c := by
  obtain ⟨a, e, ha⟩ := h
  exact ⟨a, e, s _ _ ha⟩
theorem _root_.L2.RowsV.same {H H' : Hp} {xs : List V} {cs : List (List Int)} (h : RowsV H xs cs) (s : Same H H') : RowsV H' xs cs := ⟨h.1, fun i x e => by
  obtain ⟨c, hc, r⟩ := h.2 i x e
  exact ⟨c, hc, r.same s⟩⟩
/-- tuples are kept where some list is written -/
theorem _root_.L2.RowsV.but {H H' : Hp} {xs : List V} {cs : List (List Int)} {l : Addr} {ys : List V} (h : RowsV H xs cs) (hl : H l = some (.lst ys)) (s : But l H H') : RowsV H' xs cs := ⟨h.1, fun i x e => by
  obtain ⟨c, hc, a, ea, ha⟩ := h.2 i x e
  exact ⟨c, hc, a, ea, s _ _ (ne_of ha hl (by intro z; cases z)) ha⟩⟩
theorem _root_.L2.RowsV.nil {H : Hp} : RowsV H [] [] := ⟨rfl, fun i x e => by cases e⟩
theorem _root_.L2.RowsV.app {H : Hp} {xs ys : List V} {cs ds : List (List Int)} (h : RowsV H xs cs) (g : RowsV H ys ds) : RowsV H (xs ++ ys) (cs ++ ds) := by
  refine ⟨by rw [List.length_append, List.length_append, h.1, g.1], fun i x e => ?_⟩
  by_cases hi : i < xs.length
  · rw [List.getElem?_append_left hi] at e
    obtain ⟨c, hc, r⟩ := h.2 i x e
    exact ⟨c, by rw [List.getElem?_append_left (by rw [← h.1]; exact hi)]; exact hc, r⟩
  · rw [List.getElem?_append_right (by omega)] at e
    obtain ⟨c, hc, r⟩ := g.2 _ x e
    exact ⟨c, by rw [List.getElem?_append_right (by rw [← h.1]; omega), ← h.1]; exact hc, r⟩
theorem _root_.L2.RowsV.one {H : Hp} {x : V} {c : List Int} (h : RowV H x c) : RowsV H [x] [c] := by
  refine ⟨rfl, fun i y e => ?_⟩
  cases i with
  | zero => cases e; exact ⟨c, rfl, h⟩
  | succ i => cases e
theorem _root_.L2.RowsV.at {H : Hp} {xs : List V} {cs : List (List Int)} {i : Nat} {x : V} (h : RowsV H xs cs) (e : xs[i]? = some x) : ∃ c a, cs[i]? = some c ∧ x = .ref a ∧ H a = some (tupI c) := by
  obtain ⟨c, hc, a, ea, ha⟩ := h.2 i x e
  exact ⟨c, a, hc, ea, ha⟩
theorem _root_.L2.RowsV.of {H : Hp} {xs : List V} {cs : List (List Int)} {i : Nat} {c : List Int} (h : RowsV H xs cs) (e : cs[i]? = some c) : ∃ x a, xs[i]? = some x ∧ x = .ref a ∧ H a = some (tupI c) := by
  have hi : i < cs.length := (List.getElem?_eq_some_iff.mp e).1
  have hx : xs[i]? = some (xs[i]'(by rw [h.1]; exact hi)) := List.getElem?_eq_getElem _
  obtain ⟨c', a, hc, ea, ha⟩ := h.at hx
  rw [e] at hc
  cases hc
  exact ⟨_, a, hx, ea, ha⟩
/-- fractions, as they are -/
def FrcsV (H : Hp) (xs : List V) (fs : List (Int × Int)) : Prop := xs.length = fs.length ∧ ∀ (k : Nat) (x : V), xs[k]? = some x → ∃ i j c, fs[k]? = some (i, j) ∧ x = .ref c ∧ H c = some (.tup [.int i, .int j]) ∧ fracB i j = true
theorem FrcsV.same {H H' : Hp} {xs : List V} {fs : List (Int × Int)} (h : FrcsV H xs fs) (s : Same H H') : FrcsV H' xs fs := ⟨h.1, fun k x e => by
  obtain ⟨i, j, c, h1, h2, h3, h4⟩ := h.2 k x e
  exact ⟨i, j, c, h1, h2, s _ _ h3, h4⟩⟩
theorem FrcsV.but {H H' : Hp} {xs : List V} {fs : List (Int × Int)} {l : Addr} {ys : List V} (h : FrcsV H xs fs) (hl : H l = some (.lst ys)) (s : But l H H') : FrcsV H' xs fs := ⟨h.1, fun k x e => by
  obtain ⟨i, j, c, h1, h2, h3, h4⟩ := h.2 k x e
  exact ⟨i, j, c, h1, h2, s _ _ (ne_of h3 hl (by intro z; cases z)) h3, h4⟩⟩
end W2

set_option Elab.async false
set_option linter.all false
set_option maxRecDepth 100000
set_option maxHeartbeats 4000000
/-! ZIP of two lists; == of two lists of rows. -/
namespace L2
open PySem PySem.Spec PyProof.Rows
section
variable {X : Cx} {tg : Expr}
end
section
variable {X : Cx}
end
end L2

set_option Elab.async false
set_option linter.all false
set_option maxRecDepth 100000
set_option maxHeartbeats 4000000
/-! isinstance of a text, of a list; one promise or another (as in t/K1C). -/
namespace W2
open PySem L2 Mth
section
variable {K : PySem.W.Frag} {H : Hp} {v : V}
end
theorem FnOk.or {P : Program} {w : World} {K : PySem.W.Frag} {mg : Str → Option Value} {base : Heap} {CX : CXT} {k : Nat} {f : Addr} {fd : FuncData} {ps : List Str} {sp sp' : Sp} (F : FnOk P w K mg base CX k f fd ps sp) (F' : FnOk P w K mg base CX k f fd ps sp') :
    FnOk P w K mg base CX k f fd ps (fun vs H Q E => sp vs H Q E ∨ sp' vs H Q E) :=
  ⟨fun vs H Q E h => h.elim (F.len vs H Q E) (F'.len vs H Q E), fun A outer s H args us vs Q E hr e0 hb r h => h.elim (F.run A outer s H args us vs Q E hr e0 hb r) (F'.run A outer s H args us vs Q E hr e0 hb r)⟩
end W2

set_option Elab.async false
set_option linter.all false
set_option maxRecDepth 100000
set_option maxHeartbeats 4000000
/-! AN EXCEPTION WITH AN OWN __init__: made and raised. -/
namespace Xi
open PySem PyProof.Rows
section
variable {prog : Program} {w : World} {A : Around} {E : Value → Shared → Prop} {h : Heap} {g : Array GenState} {d : Drawn} {t : Nat} {os : OsState}
variable {nm q : Str} {C N : Addr} {bs bm bmB : List Value} {hdct : Bool} {sn : List Str} {sub : List Value} {ab : Bool} {col : Option Bool} {dd : Option Addr} {k0 k1 k2 k3 k5 : Option Value} {B newId initId : String}
end
section
variable {M : Model} {A : Around} {E : Value → Shared → Prop} {env : Env}
variable {nm q : Str} {C N : Addr} {bs bm : List Value} {hdct : Bool} {sn : List Str} {sub : List Value} {ab : Bool} {col : Option Bool} {dd : Option Addr} {k0 k1 k2 k3 k5 : Option Value} {newId : String}
end
section
variable {prog : Program} {w : World} {A : Around} {E : Value → Shared → Prop} {s : Shared} {env : Env}
variable {nm q : Str} {C N : Addr} {bs bm bmB : List Value} {hdct : Bool} {sn : List Str} {sub : List Value} {ab : Bool} {col : Option Bool} {dd : Option Addr} {k0 k1 k2 k3 k5 : Option Value} {B newId initId : String}
end
end Xi

set_option Elab.async false
set_option linter.all false
set_option maxRecDepth 100000
set_option maxHeartbeats 4000000
/-! AN EXCEPTION'S FIELD: written, read. -/
namespace PySem.W
open PySem PySem.Spec PySem.Calls PyProof.Rows Builtin.ObjectAttr
section
variable {prog : Program} {w : World} {A : Around} {E : Value → Shared → Prop} {R : Result → Shared → Prop} {s : Shared} {K : Frag} {x C Fr : Addr} {ox : Obj} {od : Option Obj} {cd : ClassData}
end
end PySem.W

set_option Elab.async false
set_option linter.all false
set_option maxRecDepth 100000
set_option maxHeartbeats 4000000
/-! AN EXCEPTION WITH AN OWN __init__ AND A FIELD, over the layer: raise, try, the field, isinstance. -/
namespace L2
open PySem PySem.Spec PyProof.Rows Xn
/-- the class at C, an own exception with an __init__ of its own at fI, straight under the own class at Fr -/
structure XI (K : PySem.W.Frag) (mg : Str → Option Value) (x : Str) (C Fr fI : Addr) : Prop where
  at_ : mg x = some (.ref C)
  ob : ∃ nm q N bs sn sub ab col dd k0 k1 k2 k3 k5, K.lookup C = some (excClassObj nm q C N bs (.ref Fr :: bmV) true sn sub ab col dd k0 k1 k2 k3 k5 "ValueError.__new__") ∧ PySem.W.nsOkIn K N = true ∧ PySem.W.nsIn K N "__init__" = some (some (.ref fI))
  fr : PySem.W.excIn K Fr bmV "ValueError.__new__" = true
  xc : PySem.W.XcIs K C
  sa : PySem.W.findIn K (.ref C) "__setattr__" = some (some (.builtin "object.__setattr__"))
  fn : ∃ oI, K.lookup fI = some oI ∧ oI.cls = .type "function"
theorem XI.cls {K : PySem.W.Frag} {mg : Str → Option Value} {x : Str} {C Fr fI : Addr} (c : XI K mg x C Fr fI) : ∃ cd, PySem.W.clsIn K C = some cd ∧ cd.mro = .ref C :: .ref Fr :: bmV ∧ cd.hasDict = true := by
  obtain ⟨nm, q, N, bs, sn, sub, ab, col, dd, k0, k1, k2, k3, k5, h, _⟩ := c.ob
  have e : PySem.W.clsIn K C = (match K.lookup C with | some ⟨_, _, .cls cd, _⟩ => some cd | _ => none) := rfl
  rw [h] at e
  exact ⟨_, e, rfl, rfl⟩
theorem XI.hd {K : PySem.W.Frag} {mg : Str → Option Value} {x : Str} {C Fr fI : Addr} (c : XI K mg x C Fr fI) : PySem.W.hasDictIn K C = true := by
  obtain ⟨cd, h1, _, h3⟩ := c.cls
  unfold PySem.W.hasDictIn
  rw [h1]
  exact h3
end L2

set_option Elab.async false
set_option maxHeartbeats 4000000
/-! a step, by the numbers themselves -/
namespace Mth
end Mth

set_option Elab.async false
set_option linter.all false
set_option maxRecDepth 100000
set_option maxHeartbeats 4000000
namespace L2
open PySem PySem.Spec PySem.Calls PyProof.Rows
end L2
namespace Mth
theorem goN_rest {rows : List (List Int)} {p r : List Int} {n : Nat} (h : goN rows n p = some r) (hf : fstI rows r = none) : ∀ j, goN rows (n + 1 + j) p = none
  | 0 => by
    show (goN rows n p).bind (stp rows) = none
    rw [h]
    exact stp_none hf
  | j + 1 => by
    show (goN rows (n + 1 + j) p).bind (stp rows) = none
    rw [goN_rest h hf j]
    rfl
theorem goN_restLt {rows : List (List Int)} {p r q : List Int} {n m : Nat} (h : goN rows n p = some r) (hf : fstI rows r = none) (hm : goN rows m p = some q) : m ≤ n := by
  by_cases z : m ≤ n
  · exact z
  · obtain ⟨j, hj⟩ : ∃ j, m = n + 1 + j := ⟨m - n - 1, by omega⟩
    rw [hj, goN_rest h hf j] at hm
    cases hm
end Mth

set_option Elab.async false
set_option linter.all false
set_option maxRecDepth 100000
set_option maxHeartbeats 4000000
/-! ZIP of a tuple and a list, walked. -/
namespace Zm
open PySem PyProof.Rows Zt
section
variable {prog : Program} {w : World} {A : Around} {E : Value → Shared → Prop} {s : Shared}
end

/-! making it -/
section
variable {prog : Program} {w : World} {A : Around} {E : Value → Shared → Prop} {s : Shared}
end
end Zm
namespace L2
open PySem PySem.Spec PyProof.Rows
/-- a tuple and a list walked side by side: each turn hands out a new pair -/
def Itm (K : PySem.W.Frag) (a b : Addr) : It :=
  ⟨fun i H => ∃ xs ys x y, SqT K H a xs ∧ SqL K H b ys ∧ xs[i]? = some x ∧ ys[i]? = some y,
   fun i H v H' => ∃ p, H p = none ∧ v = .ref p ∧ ∃ x y, H' = upd H p (.tup [x, y]) ∧ ∀ xs ys, SqT K H a xs → SqL K H b ys → xs[i]? = some x ∧ ys[i]? = some y,
   fun i H => ∃ xs ys, SqT K H a xs ∧ SqL K H b ys ∧ (xs.length ≤ i ∨ ys.length ≤ i)⟩
section
variable {X : Cx} {tg : Expr}
end
end L2

set_option Elab.async false
set_option linter.all false
set_option maxRecDepth 100000
set_option maxHeartbeats 4000000
/-! DICTS whose keys are rows of ints, in boxes. -/
namespace L2
open PySem PySem.Spec PyProof.Rows W2
section
variable {X : Cx}
end
end L2

set_option Elab.async false
set_option linter.all false
set_option maxRecDepth 100000
set_option maxHeartbeats 4000000
/-! == and != of tuples of the same scalars; list[i] += int. -/
namespace L2
open PySem PySem.Spec PyProof.Rows
section
variable {X : Cx}
end
end L2

set_option Elab.async false
set_option maxHeartbeats 4000000
/-! what becomes of powers, within so many steps -/
namespace Mth
def Dst (rows : List (List Int)) (p : List Int) (k : Nat) : Prop := ∀ i j, i < j → j < k → goN rows i p ≠ goN rows j p
theorem goN_shift {rows : List (List Int)} {p : List Int} {a b : Nat} (h : goN rows a p = goN rows b p) : ∀ k, goN rows (a + k) p = goN rows (b + k) p
  | 0 => h
  | k + 1 => by
    show (goN rows (a + k) p).bind (stp rows) = (goN rows (b + k) p).bind (stp rows)
    rw [goN_shift h k]
end Mth

set_option Elab.async false
set_option linter.all false
set_option maxRecDepth 100000
set_option maxHeartbeats 4000000
namespace Mth
end Mth
namespace W2
open PySem L2 Mth
end W2

set_option Elab.async false
set_option linter.all false
set_option maxRecDepth 100000
set_option maxHeartbeats 4000000
/-! name = [comprehension], stored ahead of the comprehension's own names being let go -/
namespace L2
open PySem PySem.Spec PyProof.Rows
theorem ps_setC {X : Cx} {elt tg iter : Expr} {cs : List Expr} {scope : Scope} {cpos pos pos' : Pos} {cl : List (Str × Addr)} {N : List Str} {js : List (Option Nat)} {wi : TI} {g : TG} {tc : TT} {te : TE} {iv : Nat} {x0 : Str}
    (hN0 : X.N.Nodup) (hi0 : X.N[iv]? = some x0) (hx0 : Loc X.env.scope x0)
    (C : CompOk X scope cl N js) (hc : X.calm = true) (hi : PI X tg iter wi)
    (hg : ∀ fp pins s H, PG (compCx X scope cl N fp pins s H fun _ _ => False) tg g)
    (ht : ∀ fp pins s H, PTs (compCx X scope cl N fp pins s H fun _ _ => False) cs tc)
    (he : ∀ fp pins s H, PE (compCx X scope cl N fp pins s H fun _ _ => False) elt te)
    (hsw : swapsWith (.ListComp elt [⟨tg, iter, cs, 0⟩] scope cpos) (some (.Name x0 pos')) pos.line X.env = pure true)
    (hs : ∀ x, foldedSetIterable iter X.env x = pure x := by intro _; rfl) (hf0 : X.fn x0 = true ∨ X.env.scope.names.lookup x0 = some .local := by first | exact .inl rfl | exact .inr rfl | assumption) : PS X (.Assign [.Name x0 pos'] (.ListComp elt [⟨tg, iter, cs, 0⟩] scope cpos) pos) (tAsg (tComp js wi g tc te) (gName iv)) := by
  intro pins s σ H D0 I h
  rw [exec_Assign_Name_used _ _ _ _ hsw]
  refine wpAny_bind (wpAny_standAt (wpAny_bind ?_))
  show wpAny _ X.A (do let _ ← comprehension (.ListComp elt [⟨tg, iter, cs, 0⟩] scope cpos) scope X.env _ (newList []) false (eval iter X.env) (some (assign (.Name x0 pos') X.env))) _ _ s
  refine wpAny_bind (wpAny_mono (wpAny_comprehension_free (use := some (assign (.Name x0 pos') X.env)) (Q := fun _ s' => SP X pins D0 .next s') rfl hs C.clos C.kind C.names (thn (hi pins s σ H _ I h) fun xv s1 h1 => thn h1 fun itv s2 h2 => ?_)) (fun _ s' hq => wpAny_pure (wpAny_pure hq)) fun _ _ e => e)
  obtain ⟨it, fp, tn, J, H2, e, I2, T, st2, f2, h2⟩ := h2
  subst e
  obtain ⟨W, ⟨m0, w0⟩, turn⟩ := h2 s2.heap.objs.size I2.fresh
  refine wpAny_newObj_type (wpAny_newFunctionEnv C.nocell (by intro y hy; simp at hy) (fun h4 ns4 sb4 => ?_) C.kind)
  -- the state behind the new list
  have I3 : Inv X pins σ (upd H2 s2.heap.objs.size (.lst [])) { s2 with heap := s2.heap.push { cls := .type "list", data := .seq ([] : List Value).toArray } } := I2.lnew (t' := s2.toks) (its := []) .nil (Nat.zero_le _)
  dsimp only at ns4 sb4 ⊢
  generalize e3 : ({ s2 with heap := s2.heap.push { cls := .type "list", data := .seq ([] : List Value).toArray } } : Shared) = s3 at I3
  have e3h : s2.heap.push { cls := .type "list", data := .seq ([] : List Value).toArray } = s3.heap := by rw [← e3]
  have e3g : s2.gens = s3.gens := by rw [← e3]
  have e3o : s2.os = s3.os := by rw [← e3]
  rw [e3h] at ns4 sb4 ⊢
  generalize eH : upd H2 s2.heap.objs.size (.lst []) = H3 at I3 w0
  have hD : s2.heap.objs.size < s3.heap.objs.size := by rw [← e3h, Heap.size_push]; exact Nat.lt_succ_self _
  have up3 : ∀ b o, s2.heap.get? b = some o → s3.heap.get? b = some o := fun b o q => by rw [← e3h]; exact Heap.get?_push_of_some _ q
  have up4 : ∀ b o, s3.heap.get? b = some o → h4.get? b = some o := fun b o q => sb4.extBut b o (Nat.ne_of_lt (Heap.lt_size q)) (Heap.get?_push_of_some _ q)
  have fpo : ∀ b ∈ fp, b < s3.heap.objs.size := fun b hb => by
    obtain ⟨o, eo, _⟩ := T.obj 0 _ st2 b hb
    exact Heap.lt_size (up3 b o eo)
  have fst : ∀ b ∈ fp, b ∉ frs X.stack := fun b hb z => by
    rcases List.mem_cons.mp (I3.stkSub b z) with q | q
    · exact (f2 b hb).2.1 q
    · exact (f2 b hb).2.2.1 q
  have okY : (compCx X scope cl N fp pins s3 H3 fun _ _ => False).Ok := by
    refine ⟨I.ok.mod, C.kind, I.ok.glob, I.ok.blt, Nat.le_refl _, fun x y c q1 q2 => I.ok.inj x y c (C.sub _ _ q1) (C.sub _ _ q2), C.has, fun x c z => absurd z Bool.false_ne_true, I.ok.hd, I.ok.frames, .inl rfl, fun b hb => ⟨Nat.ne_of_lt (fpo b hb), fun x c q => (f2 b hb).2.2.2.2.1 x c (C.sub _ _ q)⟩,
      I3.bs, Nat.le_trans I.ok.bsz I3.sz, fun b o q hb => ?_, fst, I3.stack, I3.stkFree⟩
    rcases (f2 b hb).2.2.2.1 with z | z
    · exact I.ok.noex b o q z
    · exact absurd (Nat.lt_of_lt_of_le (Heap.lt_size q) (Nat.le_trans I.ok.bsz z)) (Nat.lt_irrefl _)
  have I4 : Inv (compCx X scope cl N fp pins s3 H3 fun _ _ => False) [] (pick js σ) H3 { s3 with heap := h4, toks := s3.toks + ([] : List (Str × Value)).length } := by
    refine ⟨okY, rfl, I3.bare, Un.kept up4, ⟨_, ns4, fun i x v q1 q2 q3 => ?_⟩, fun x c q => ?_, I3.hok.fresh (Nat.le_refl _), fun x c q => I3.freeC x c (C.sub _ _ q), fun p hp => ?_, I3.hok.kept up4, ?_⟩
    · obtain ⟨j, k1, k2⟩ := pick_get q2
      obtain ⟨z1, z2, z3⟩ := C.seen i j x q1 k1
      obtain ⟨m, hn, hl⟩ := I3.loc
      obtain ⟨u, ru, lk⟩ := hl j x v z1 k2 (.inr (.inl z2))
      refine ⟨u, ru, .inr ⟨z3, ?_⟩⟩
      rcases lk with ⟨k, _⟩ | ⟨_, c, ec, oc, hoc, hdc⟩
      · have k' : X.env.scope.names.lookup x = some .local := k
        rw [z2] at k'; cases k'
      · obtain ⟨c', ec'⟩ := C.has x z3
        have := C.sub _ _ ec'
        rw [ec] at this
        cases this
        exact ⟨c, ec', oc, up4 _ _ hoc, hdc⟩
    · obtain ⟨v, oc, hoc, hdc⟩ := I3.cell x c (C.sub _ _ q)
      exact ⟨v, oc, up4 _ _ hoc, hdc⟩
    · have hp' : p ∈ X.pn ++ pins := by simpa using hp
      obtain ⟨q1, q2, q3, q4, q5⟩ := I3.pin p hp'
      refine ⟨up4 _ _ q1, q2, Nat.ne_of_lt (Heap.lt_size q1), fun z => ?_, q5⟩
      rcases List.mem_cons.mp (I3.stkSub _ z) with q | q
      · exact q3 q
      · exact q4 q
    · show (pick js σ).length = N.length
      unfold pick
      rw [List.length_map, C.len]
  have stat : ∀ {H' : Hp}, (∀ b ∈ fp, H' b = none) → ∀ b ∈ fp, FpOk (compCx X scope cl N fp pins s3 H3 fun _ _ => False) [] H' b := fun hn b hb =>
    ⟨hn b hb, Nat.ne_of_lt (fpo b hb), fst b hb, .inl hb, fun x c q => (f2 b hb).2.2.2.2.1 x c (C.sub _ _ q), fun p hp => (f2 b hb).2.2.2.2.2 p (by simpa using hp)⟩
  have st4 : tn 0 h4 := T.keep 0 _ _ st2 fun b hb o q => up4 b o (up3 b o q)
  have nx : ∀ e s', (compCx X scope cl N fp pins s3 H3 fun _ _ => False).xe e s' → False := fun _ _ z => z
  have loop : codeAny (model X.prog X.w) X.A (.compLoop (.ListComp elt [⟨tg, iter, cs, 0⟩] scope cpos) 0 (.ref it) (.ref s2.heap.objs.size) (compEnvC scope cl s3.heap.objs.size X.env))
      (compPost (model X.prog X.w) X.A X.xe (some (assign (.Name x0 pos') X.env)) (fun _ s' => SP X pins D0 .next s') (.ref s2.heap.objs.size) s3.heap.objs.size) { s3 with heap := h4, toks := s3.toks + ([] : List (Str × Value)).length } := by
    refine loop_go (fun n s' => ∃ i σ' H' ys, Inv (compCx X scope cl N fp pins s3 H3 fun _ _ => False) [] σ' H' s' ∧ tn i s'.heap ∧ (∀ b ∈ fp, H' b = none) ∧ W i n σ' H' ys) ?_ m0 ⟨0, _, H3, [], I4, st4, fun b hb => ?_, w0⟩
    · rintro n s5 ⟨i, σ5, H5, ys, I5, st5, fr5, w5⟩
      obtain ⟨hD5, way⟩ := turn i n σ5 H5 ys w5
      rcases way with ⟨stop, qn⟩ | ⟨go, hz, NN, hN, step⟩
      · refine noEx nx (thn (T.done (compCx X scope cl N fp pins s3 H3 fun _ _ => False) rfl rfl rfl hc i [] s5 σ5 H5 _ I5 (stat fr5) st5 stop) fun r s6 ⟨hr, I6⟩ => ?_)
        subst hr
        obtain ⟨m, hn, _⟩ := I6.loc
        have fC : FpOk X pins H5 s3.heap.objs.size := I3.fpOk (Nat.le_refl _) I6.free
        have I7 : Inv X pins σ H5 s6 := ?_
        · refine wpAny_assign_Name (store_ok2 (v := .ref s2.heap.objs.size) I7 hN0 hi0 hx0 rfl (fun s8 I8 hsb => ?_) hf0)
          obtain ⟨a8, sb8, h8⟩ := hsb
          obtain ⟨f0, f1, f2', f3, f4, f5⟩ := fC
          have nC : s3.heap.objs.size ≠ a8 := by
            rcases h8 with z | z
            · rw [z]; exact f1
            · exact (f4 _ _ z).symm
          refine ⟨m, hn.sameBut sb8 nC, fun h' sb => ⟨_, H5, ?_, qn⟩⟩
          exact I8.turned (t' := s8.toks) (fun b o hb e => (sb.2 b hb).trans e) f0 f1 f3 f4 f5
        have low : ∀ b o, s3.heap.get? b = some o → b ≠ s3.heap.objs.size := fun b o q => Nat.ne_of_lt (Heap.lt_size q)
        have same : ∀ b, b ≠ s3.heap.objs.size → s6.heap.get? b = s6.heap.get? b := fun b hb => rfl
        have B := I6.base
        refine I3.call' (s' := s6) (H' := H5) (ch := fp) I6.os ⟨fun b o q n0 h1 h2 => ?_, fun b o q n0 h1 h2 => ?_, B.free, fun b o q h2 => ?_, B.tups, B.frzs, B.tbls⟩ (fun a o q => ?_) I6.bare (fun b hb => ⟨(f2 b hb).2.2.2.1, (f2 b hb).2.1, (f2 b hb).2.2.2.2.1, (f2 b hb).2.2.2.2.2⟩)
        · exact (same b (low b o q)).trans (B.keep b o q n0 h1 h2)
        · obtain ⟨sl, z⟩ := B.slot b o q n0 h1 h2
          exact ⟨sl, (same b (low b o q)).trans z⟩
        · obtain ⟨o', z⟩ := B.there b o q h2
          exact ⟨o', (same b (low b o q)).trans z⟩
        · have nC : ∀ c u, H5 c = some u → c ≠ s3.heap.objs.size := fun c u z y => by
            have := I6.free
            rw [y] at z
            rw [show H5 s3.heap.objs.size = none from this] at z
            cases z
          refine (I6.hok a o q).stay (fun c u hc' z => (same c ?_).trans z) (fun _ z => z) fun _ _ z => z
          rcases hc' with z' | z'
          · rw [z']; exact nC a o q
          · exact nC c _ z'
      · refine noEx nx (thn (T.item (compCx X scope cl N fp pins s3 H3 fun _ _ => False) rfl rfl rfl hc i [] s5 σ5 H5 _ I5 (stat fr5) st5 go) fun r s6 ⟨u, hr, h6⟩ => ?_)
        subst hr
        refine noEx nx (thn h6 fun _ s7 ⟨x, H7, I7, r7, y7, st7, fr7⟩ => ?_)
        have I7' := I7.pinned (stat fr7) (T.obj _ _ st7)
        refine noEx nx (thn (hg fp pins s3 H3 _ s7 σ5 H7 x u _ I7' r7 (step x H7 y7)) fun _ s8 ⟨σ8, H8, I8, q8⟩ => ?_)
        refine noEx nx (thn (ht fp pins s3 H3 _ s8 σ8 H8 _ I8 q8) fun k s9 ⟨H9, I9, q9⟩ => ?_)
        have fin : ∀ {s' : Shared} {σ' : St} {H' : Hp} {ys' : List V}, Inv (compCx X scope cl N fp pins s3 H3 fun _ _ => False) ([] ++ pinsAt fp s7.heap) σ' H' s' → NN σ' H' ys' →
            ∃ m', m' < n ∧ ∃ i σ' H' ys, Inv (compCx X scope cl N fp pins s3 H3 fun _ _ => False) [] σ' H' s' ∧ tn i s'.heap ∧ (∀ b ∈ fp, H' b = none) ∧ W i m' σ' H' ys := fun {s' σ' H' ys'} Iv nv => by
          obtain ⟨m', hm, wv⟩ := hN σ' H' ys' nv
          refine ⟨m', hm, i + 1, σ', H', ys', Iv.unpinned, T.keep _ _ _ st7 fun b hb o q => (Iv.pin (b, o) (List.mem_append_right _ (List.mem_append_right _ (mem_pinsAt hb q)))).1, fun b hb => ?_, wv⟩
          obtain ⟨o, q, _⟩ := T.obj _ _ st7 b hb
          exact (Iv.pin (b, o) (List.mem_append_right _ (List.mem_append_right _ (mem_pinsAt hb q)))).2.1
        cases k with
        | false =>
          rw [if_neg Bool.false_ne_true] at q9 ⊢
          exact fin I9 q9.2
        | true =>
          rw [if_pos rfl] at q9 ⊢
          refine noEx nx (thn (he fp pins s3 H3 _ s9 σ8 H9 _ I9 q9) fun y sA ⟨yv, HA, IA, rA, hDA, qA⟩ => ?_)
          refine noEx nx (thn (mt_append _ sA σ8 HA (.ref s2.heap.objs.size) [yv] _ [y] (fun _ HB => NN σ8 HB (ys ++ [yv])) IA rfl (.cons rA .nil) ⟨_, ys, yv, rfl, rfl, hDA, hz, qA⟩) fun _ sB ⟨_, HB, IB, _, qB⟩ => ?_)
          exact fin IB qB
    · rw [← eH, upd_ne]
      · exact (f2 b hb).1
      · obtain ⟨o, eo, _⟩ := T.obj 0 _ st2 b hb
        exact Nat.ne_of_lt (Heap.lt_size eo)
  have goal : codeAny (model X.prog X.w) X.A (.compStart (.ListComp elt [⟨tg, iter, cs, 0⟩] scope cpos) 0 (.ref it) (.ref s2.heap.objs.size) (compEnvC scope cl s3.heap.objs.size X.env))
      (compPost (model X.prog X.w) X.A X.xe (some (assign (.Name x0 pos') X.env)) (fun _ s' => SP X pins D0 .next s') (.ref s2.heap.objs.size) s3.heap.objs.size) { s3 with heap := h4, toks := s3.toks + ([] : List (Str × Value)).length } :=
    codeAny_compStart_list loop (T.self _ 0 _ _ _ st4 loop)
  subst e3
  exact goal

theorem qs_setC {X : Cx} {elt tg iter : Expr} {cs : List Expr} {scope : Scope} {cpos pos pos' : Pos} {cl : List (Str × Addr)} {N : List Str} {js : List (Option Nat)} {wi : TI} {g : TG} {tc : TT} {te : TE} {i : Nat} {x0 : Str}
    (hN0 : X.N.Nodup) (hi0 : X.N[i]? = some x0) (hx0 : Loc X.env.scope x0)
    (C : CompOk X scope cl N js) (hc : X.calm = true) (hi : QI X tg iter wi)
    (hg : ∀ fp pins s H, QG (compCx X scope cl N fp pins s H fun _ _ => False) tg g)
    (ht : ∀ fp pins s H, QTs (compCx X scope cl N fp pins s H fun _ _ => False) cs tc)
    (he : ∀ fp pins s H, QE (compCx X scope cl N fp pins s H fun _ _ => False) elt te)
    (hsw : swapsWith (.ListComp elt [⟨tg, iter, cs, 0⟩] scope cpos) (some (.Name x0 pos')) pos.line X.env = pure true := by rfl)
    (hs : ∀ x, foldedSetIterable iter X.env x = pure x := by intro _; rfl) (hf0 : X.fn x0 = true ∨ X.env.scope.names.lookup x0 = some .local := by first | exact .inl rfl | exact .inr rfl | assumption) : QS X (.Assign [.Name x0 pos'] (.ListComp elt [⟨tg, iter, cs, 0⟩] scope cpos) pos) (tAsg (tComp js wi g tc te) (gName i)) :=
  ⟨ps_setC hN0 hi0 hx0 C hc hi.o (fun a b c d => (hg a b c d).o) (fun a b c d => (ht a b c d).o) (fun a b c d => (he a b c d).o) hsw hs hf0⟩
end L2

set_option Elab.async false
set_option linter.all false
set_option maxRecDepth 100000
set_option maxHeartbeats 4000000
/-! ZIP of three tuples, walked; the first is not longer than the others. -/
namespace Z3
open PySem PyProof.Rows Zt
theorem nk {n k : Nat} (h : 0 < k) : n ≠ n + k := by omega
theorem tl {t n k : Nat} (h : t < n) : t ≠ n + k := by omega
section
variable {prog : Program} {w : World} {A : Around} {E : Value → Shared → Prop} {s : Shared}
end
/-! making it -/
section
variable {prog : Program} {w : World} {A : Around} {E : Value → Shared → Prop} {s : Shared}
end
end Z3

set_option Elab.async false
set_option linter.all false
set_option maxRecDepth 100000
set_option maxHeartbeats 4000000
namespace L2
open PySem PySem.Spec PyProof.Rows Z3
section
variable {X : Cx} {tg : Expr}
end
end L2

set_option Elab.async false
set_option linter.all false
set_option maxRecDepth 100000
set_option maxHeartbeats 4000000
/-! min(list, default=None) -/
namespace MinD
open PySem PyProof.Rows
section
variable {prog : Program} {w : World} {A : Around} {R : Result → Shared → Prop} {I : Addr} {fp wr : List Addr} {n : Nat} {P : Nat → Value → Prop} {St : Nat → Heap → Prop}
theorem more (W : Walks prog w A.in1 I fp wr n P St) (bt : Nat → Nat → Bool) (hcmp : CmpOf prog w A.in1 .Lt P bt) (S : Addr) (hSf : S ∉ fp) (kw : List (Str × Value)) :
    ∀ (k j : Nat) (s : Shared) (vb : Value) (c : Nat), n - (j + 1) = k → j + 1 ≤ n → St (j + 1) s.heap → P (argBest bt j) vb →
    s.heap.get? S = some { cls := .type "list", dict := none, data := .seq #[vb, vb] c, slots := #[] } →
    (∀ v h' tk, P (argBest bt (n - 1)) v → (∀ b o, b ∉ wr → b ≠ S → s.heap.get? b = some o → h'.get? b = some o) → R (.ok (.ret v)) { s with heap := h', toks := tk }) →
    codeAny (model prog w) A (.builtin "min.loop" ⟨[.ref I, .none, .ref S], kw⟩) R s := by
  have hSw : S ∉ wr := fun h => hSf (W.sub _ h)
  have hname : (toString "min" ++ toString ".loop" : String) = "min.loop" := by decide
  intro k
  induction k with
  | zero =>
    intro j s vb c hk hj hst hPb hS hR
    have hin : j + 1 = n := by omega
    refine codeAny_builtin F.entry_min_loop ?_
    rw [Around.under_plainId F.plain_min_loop _]
    show wpAny _ A.in1 (seqItems? (.ref S) >>= _) _ _ s
    refine wpAny_bind (wpAny_seqItems hS rfl ?_)
    show wpAny _ A.in1 (tryCatch (pyNext (.ref I)) _ >>= _) _ _ s
    refine wpAny_bind (wpAny_tryCatch (W.done s _ _ (hin ▸ hst) fun h' tk hk' => ?_))
    have hS' := hk' S _ hSw hS
    show wpAny _ A.in1 (updateSeq S (fun _ => #[]) >>= _) _ _ _
    refine wpAny_bind ?_
    refine wpAny_updateSeq hS' rfl (wpAny_bind (wpAny_letGo (wpAny_pure ?_)))
    refine hR vb _ tk (by rw [← hin]; exact hPb) fun b o hbw hbS e => (Heap.get?_update_other _ _ (Ne.symm hbS)).trans (hk' b o hbw e)
  | succ k ih =>
    intro j s vb c hk hj hst hPb hS hR
    have hlt : j + 1 < n := by omega
    refine codeAny_builtin F.entry_min_loop ?_
    rw [Around.under_plainId F.plain_min_loop _]
    show wpAny _ A.in1 (seqItems? (.ref S) >>= _) _ _ s
    refine wpAny_bind (wpAny_seqItems hS rfl ?_)
    show wpAny _ A.in1 (tryCatch (pyNext (.ref I)) _ >>= _) _ _ s
    refine wpAny_bind (wpAny_tryCatch (W.item (j + 1) s _ _ hlt hst fun v h' tk hP hst' hk' => ?_))
    have hS' := hk' S _ hSw hS
    show wpAny _ A.in1 (tryCatch (holding [v, v] (richCompare .Lt v vb >>= _)) _ >>= _) _ _ _
    refine wpAny_bind (wpAny_tryCatch (wpAny_holding (wpAny_bind (hcmp (j + 1) (argBest bt j) v vb _ _ _ hP hPb ?_))))
    refine wpAny_bind (wpAny_holding (wpAny_truthy_bool ?_))
    refine wpAny_bind (wpAny_letGo (wpAny_pure ?_))
    cases hb : bt (j + 1) (argBest bt j) with
    | true =>
      simp only [if_true]
      refine wpAny_bind ?_
      refine wpAny_updateSeq hS' rfl (wpAny_bind (wpAny_letGo ?_))
      rw [hname]
      refine wpAny_pure ⟨plainId_quiet F.plain_min_loop _, ih (j + 1) _ v _ (by omega) hlt (W.frame _ _ _ hst' fun b hbf o e => ?_) (by simp only [argBest, hb, if_true]; exact hP) (Heap.get?_update_self _ hS' rfl)
        fun v' h'' tk'' hP' hk'' => ?_⟩
      · exact (Heap.get?_update_other _ _ (fun h : S = b => hSf (by rw [h]; exact hbf))).trans e
      · exact hR v' h'' tk'' hP' fun b o hbw hbS e => hk'' b o hbw hbS ((Heap.get?_update_other _ _ (Ne.symm hbS)).trans (hk' b o hbw e))
    | false =>
      simp only [Bool.false_eq_true, if_false]
      refine wpAny_bind (wpAny_letGo ?_)
      rw [hname]
      refine wpAny_pure ⟨plainId_quiet F.plain_min_loop _, ih (j + 1) _ vb c (by omega) hlt hst' (by simp only [argBest, hb, Bool.false_eq_true, if_false]; exact hPb) hS' fun v' h'' tk'' hP' hk'' => ?_⟩
      exact hR v' h'' tk'' hP' fun b o hbw hbS e => hk'' b o hbw hbS (hk' b o hbw e)
theorem first (W : Walks prog w A.in1 I fp wr n P St) (bt : Nat → Nat → Bool) (hcmp : CmpOf prog w A.in1 .Lt P bt) (S : Addr) (hSf : S ∉ fp) (kw : List (Str × Value)) (hn : 0 < n) {s : Shared} {c : Nat} (hst : St 0 s.heap)
    (hS : s.heap.get? S = some { cls := .type "list", dict := none, data := .seq #[] c, slots := #[] })
    (hR : ∀ v h' tk, P (argBest bt (n - 1)) v → (∀ b o, b ∉ wr → b ≠ S → s.heap.get? b = some o → h'.get? b = some o) → R (.ok (.ret v)) { s with heap := h', toks := tk }) :
    codeAny (model prog w) A (.builtin "min.loop" ⟨[.ref I, .none, .ref S], kw⟩) R s := by
  have hSw : S ∉ wr := fun h => hSf (W.sub _ h)
  have hname : (toString "min" ++ toString ".loop" : String) = "min.loop" := by decide
  refine codeAny_builtin F.entry_min_loop ?_
  rw [Around.under_plainId F.plain_min_loop _]
  show wpAny _ A.in1 (seqItems? (.ref S) >>= _) _ _ s
  refine wpAny_bind (wpAny_seqItems hS rfl ?_)
  show wpAny _ A.in1 (tryCatch (pyNext (.ref I)) _ >>= _) _ _ s
  refine wpAny_bind (wpAny_tryCatch (W.item 0 s _ _ hn hst fun v h' tk hP hst' hk' => ?_))
  have hS' := hk' S _ hSw hS
  show wpAny _ A.in1 (updateSeq S (fun _ => #[v, v]) >>= _) _ _ _
  refine wpAny_bind ?_
  refine wpAny_updateSeq hS' rfl ?_
  rw [hname]
  refine wpAny_pure ⟨plainId_quiet F.plain_min_loop _, more W bt hcmp S hSf kw _ 0 _ v _ rfl hn (W.frame _ _ _ hst' fun b hbf o e => ?_) hP (Heap.get?_update_self _ hS' rfl) fun v' h'' tk'' hP' hk'' => ?_⟩
  · exact (Heap.get?_update_other _ _ (fun h : S = b => hSf (by rw [h]; exact hbf))).trans e
  · exact hR v' h'' tk'' hP' fun b o hbw hbS e => hk'' b o hbw hbS ((Heap.get?_update_other _ _ (Ne.symm hbS)).trans (hk' b o hbw e))
theorem empty (W : Walks prog w A.in1 I fp wr n P St) (S : Addr) (hSf : S ∉ fp) (d : Value) (hn : n = 0) {s : Shared} {c : Nat} (hst : St 0 s.heap)
    (hS : s.heap.get? S = some { cls := .type "list", dict := none, data := .seq #[] c, slots := #[] })
    (hR : ∀ h' tk, (∀ b o, b ∉ wr → b ≠ S → s.heap.get? b = some o → h'.get? b = some o) → R (.ok (.ret d)) { s with heap := h', toks := tk }) :
    codeAny (model prog w) A (.builtin "min.loop" ⟨[.ref I, .none, .ref S], [("default", d)]⟩) R s := by
  have hSw : S ∉ wr := fun h => hSf (W.sub _ h)
  subst hn
  refine codeAny_builtin F.entry_min_loop ?_
  rw [Around.under_plainId F.plain_min_loop _]
  show wpAny _ A.in1 (seqItems? (.ref S) >>= _) _ _ s
  refine wpAny_bind (wpAny_seqItems hS rfl ?_)
  show wpAny _ A.in1 (tryCatch (pyNext (.ref I)) _ >>= _) _ _ s
  refine wpAny_bind (wpAny_tryCatch (W.done s _ _ hst fun h' tk hk' => ?_))
  refine wpAny_bind (wpAny_rule (wpAny_pure ?_))
  exact hR h' tk fun b o hbw hbS e => hk' b o hbw e
end
section
variable {prog : Program} {w : World} {A : Around} {E : Value → Shared → Prop} {s : Shared}
end
end MinD
namespace L2
open PySem PySem.Spec PyProof.Rows
section
variable {X : Cx}
end
end L2

set_option Elab.async false
set_option linter.all false
set_option maxRecDepth 100000
set_option maxHeartbeats 4000000
/-! comprehensions with a test -/
namespace W2
open PySem L2 Mth
end W2

set_option Elab.async false
set_option linter.all false
set_option maxHeartbeats 4000000
/-! stretches -/
namespace Mth
theorem mvd_get {p c : List Int} {t : Int} {i : Nat} {v : Int} (h : (mvd p c t)[i]? = some v) : ∃ x y, p[i]? = some x ∧ c[i]? = some y ∧ v = x + t * y := by
  unfold mvd at h
  rw [List.getElem?_zipWith_eq_some] at h
  obtain ⟨x, y, hx, hy, rfl⟩ := h
  exact ⟨x, y, hx, hy, rfl⟩
theorem mvd_at {p c : List Int} {t : Int} {i : Nat} {x y : Int} (hx : p[i]? = some x) (hy : c[i]? = some y) : (mvd p c t)[i]? = some (x + t * y) := by
  unfold mvd
  rw [List.getElem?_zipWith_eq_some]
  exact ⟨x, y, hx, hy, rfl⟩
theorem fits_mvd {p c a : List Int} {t : Int} : fitsB a (mvd p c t) = true ↔ ∀ (i : Nat) (x y z : Int), p[i]? = some x → c[i]? = some y → a[i]? = some z → 0 ≤ x + t * y + z := by
  rw [fitsB_iff]
  constructor
  · intro h i x y z hx hy hz
    exact h i z _ hz (mvd_at hx hy)
  · intro h i z v hz hv
    obtain ⟨x, y, hx, hy, rfl⟩ := mvd_get hv
    exact h i x y z hx hy hz
theorem fits_mvd_not {p c a : List Int} {t : Int} (h : fitsB a (mvd p c t) = false) : ∃ (i : Nat) (x y z : Int), p[i]? = some x ∧ c[i]? = some y ∧ a[i]? = some z ∧ x + t * y + z < 0 := by
  by_cases z : ∃ (i : Nat) (x y z : Int), p[i]? = some x ∧ c[i]? = some y ∧ a[i]? = some z ∧ x + t * y + z < 0
  · exact z
  · exfalso
    have : fitsB a (mvd p c t) = true := fits_mvd.mpr fun i x y w hx hy hw => by
      by_cases q : 0 ≤ x + t * y + w
      · exact q
      · exact absurd ⟨i, x, y, w, hx, hy, hw, by omega⟩ z
    rw [h] at this
    cases this
theorem fits_mvd_no {p c a : List Int} {t : Int} {i : Nat} {x y z : Int} (hx : p[i]? = some x) (hy : c[i]? = some y) (hz : a[i]? = some z) (h : x + t * y + z < 0) : fitsB a (mvd p c t) = false := by
  rw [Bool.eq_false_iff]
  intro w
  have := fits_mvd.mp w i x y z hx hy hz
  omega
/-- until one ahead fits -/
def FitR (p c a : List Int) : Option Nat → Prop
  | none => ∀ t : Nat, fitsB a (mvd p c t) = false
  | some m => (∀ t : Nat, t < m → fitsB a (mvd p c t) = false) ∧ fitsB a (mvd p c m) = true ∧ m ≤ 1000
/-- looked at i places -/
def FitI (p c a : List Int) (i : Nat) (m : Int) : Prop := 0 ≤ m ∧ m ≤ 1000 ∧ (∀ j, j < i → ∀ x y z : Int, p[j]? = some x → c[j]? = some y → a[j]? = some z → 0 < -z - x → 0 < y ∧ -z - x ≤ m * y) ∧ (m = 0 ∨ ∃ (j : Nat) (x y z : Int), p[j]? = some x ∧ c[j]? = some y ∧ a[j]? = some z ∧ 0 < y ∧ (m - 1) * y < -z - x)
theorem FitI.start {p c a : List Int} : FitI p c a 0 0 := ⟨Int.le_refl _, by decide, fun j h => absurd h (by omega), .inl rfl⟩
theorem FitI.never {p c a : List Int} {i : Nat} {x y z : Int} (hx : p[i]? = some x) (hy : c[i]? = some y) (hz : a[i]? = some z) (hl : 0 < -z - x) (hy0 : y ≤ 0) : FitR p c a none := fun t => fits_mvd_no hx hy hz (by
  have := Int.mul_nonneg (Int.natCast_nonneg t) (show 0 ≤ -y by omega)
  rw [Int.mul_neg] at this
  omega)
theorem ceil_ok {l y : Int} (hl : 0 < l) (hy : 0 < y) : l ≤ (l + y - 1) / y * y ∧ ((l + y - 1) / y - 1) * y < l ∧ (l + y - 1) / y ≤ l ∧ 0 ≤ (l + y - 1) / y := by
  have h1 := Int.lt_ediv_add_one_mul_self (l + y - 1) hy
  have h2 := Int.ediv_mul_le (l + y - 1) (show y ≠ 0 by omega)
  rw [Int.add_mul, Int.one_mul] at h1
  refine ⟨by omega, by rw [Int.sub_mul, Int.one_mul]; omega, ?_, Int.ediv_nonneg (by omega) (by omega)⟩
  refine Int.ediv_le_of_le_mul hy ?_
  have := Int.mul_nonneg (show 0 ≤ l - 1 by omega) (show 0 ≤ y - 1 by omega)
  rw [Int.sub_mul, Int.mul_sub, Int.one_mul, Int.mul_one] at this
  omega
theorem FitI.more {p c a : List Int} {i : Nat} {m x y z : Int} (h : FitI p c a i m) (hx : p[i]? = some x) (hy : c[i]? = some y) (hz : a[i]? = some z) (hl : 0 < -z - x) (hl' : -z - x ≤ 1000) (hy0 : 0 < y) : FitI p c a (i + 1) (if (-z - x + y - 1) / y > m then (-z - x + y - 1) / y else m) := by
  obtain ⟨h1, h2, h3, h4⟩ := h
  obtain ⟨c1, c2, c3, c4⟩ := ceil_ok hl hy0
  by_cases hgt : (-z - x + y - 1) / y > m
  · rw [if_pos hgt]
    refine ⟨c4, by omega, fun j hj x' y' z' hx' hy' hz' hl' => ?_, .inr ⟨i, x, y, z, hx, hy, hz, hy0, c2⟩⟩
    by_cases e : j = i
    · subst e
      rw [hx] at hx'
      rw [hy] at hy'
      rw [hz] at hz'
      cases hx'
      cases hy'
      cases hz'
      exact ⟨hy0, c1⟩
    · obtain ⟨k1, k2⟩ := h3 j (by omega) x' y' z' hx' hy' hz' hl'
      have := Int.mul_le_mul_of_nonneg_right (show m ≤ (-z - x + y - 1) / y by omega) (show 0 ≤ y' by omega)
      exact ⟨k1, by omega⟩
  · rw [if_neg hgt]
    refine ⟨h1, h2, fun j hj x' y' z' hx' hy' hz' hl' => ?_, h4⟩
    by_cases e : j = i
    · subst e
      rw [hx] at hx'
      rw [hy] at hy'
      rw [hz] at hz'
      cases hx'
      cases hy'
      cases hz'
      have := Int.mul_le_mul_of_nonneg_right (show (-z - x + y - 1) / y ≤ m by omega) (show 0 ≤ y by omega)
      exact ⟨hy0, by omega⟩
    · exact h3 j (by omega) x' y' z' hx' hy' hz' hl'
theorem FitI.less {p c a : List Int} {i : Nat} {m : Int} (h : FitI p c a i m) {t : Nat} (ht : (t : Int) < m) : fitsB a (mvd p c t) = false := by
  obtain ⟨h1, h2, h3, h4⟩ := h
  rcases h4 with z | ⟨j, x, y, z, hx, hy, hz, hy0, hm⟩
  · omega
  · refine fits_mvd_no hx hy hz ?_
    have := Int.mul_le_mul_of_nonneg_right (show (t : Int) ≤ m - 1 by omega) (show 0 ≤ y by omega)
    omega
theorem FitI.no {p c a : List Int} {m : Int} (hp : p.length = 10) (h : FitI p c a 10 m) (hf : fitsB a (mvd p c m) = false) : FitR p c a none := fun t => by
  by_cases ht : (t : Int) < m
  · exact h.less ht
  · obtain ⟨i, x, y, z, hx, hy, hz, hlt⟩ := fits_mvd_not hf
    obtain ⟨h1, h2, h3, h4⟩ := h
    refine fits_mvd_no hx hy hz ?_
    have hi : i < 10 := by
      have := (List.getElem?_eq_some_iff.mp hx).1
      omega
    by_cases hl : 0 < -z - x
    · obtain ⟨k1, k2⟩ := h3 i hi x y z hx hy hz hl
      omega
    · have y0 : y < 0 := by
        by_cases q : y < 0
        · exact q
        · have := Int.mul_nonneg h1 (show 0 ≤ y by omega)
          omega
      have := Int.mul_le_mul_of_nonneg_right (show m ≤ (t : Int) by omega) (show 0 ≤ -y by omega)
      rw [Int.mul_neg, Int.mul_neg] at this
      omega
end Mth

set_option Elab.async false
set_option linter.all false
set_option maxRecDepth 100000
set_option maxHeartbeats 4000000
/-! a call of a function that a local name holds; != of tuples of ints -/
namespace L2
open PySem PySem.Spec PyProof.Rows
section
variable {X : Cx} {CX : CXT} {k : Nat} {f : Addr} {fd : FuncData} {ps : List Str} {sp : Sp} {E : XK} {x : Str} {p pos : Pos} {e : Expr} {es : List Expr} {t : TA} {i : Nat}
end
end L2
namespace L2
open PySem
end L2
namespace L2
open PySem
end L2

set_option Elab.async false
set_option linter.all false
set_option maxHeartbeats 4000000
namespace Mth
end Mth

set_option Elab.async false
set_option linter.all false
set_option maxHeartbeats 4000000
/-! rows by functions; a stretch reckoned by divisions -/
namespace Mth
/-! what is built -/
section
variable (o h z : Nat) (t u wo wt po ph pz : Int)
def fT : Nat → Int := fun i => if i = h then u else 0
def fB : Nat → Int := fun i => if i = o then t else 0
def fC : Nat → Int := fun i => fT h u i - fB o t i
end
end Mth

set_option Elab.async false
set_option linter.all false
set_option maxRecDepth 100000
set_option maxHeartbeats 4000000
/-! == of tuples of ints, texts and rows, whatever they are -/
namespace L2
open PySem PySem.Spec PyProof.Rows
section
variable {X : Cx}
end
end L2

set_option Elab.async false
set_option linter.all false
set_option maxRecDepth 100000
set_option maxHeartbeats 4000000
/-! the pairs of a dict, walked, whatever its keys are -/
namespace Itm
open PySem PyProof.Rows
theorem refN (d : Addr) : ¬ ((Value.ref d == Value.none) = true) := Bool.false_ne_true
theorem owns : Builtin.Dict_items.ownsTuple "dict_itemiterator" = true := by decide
section
variable {prog : Program} {w : World} {A : Around} {E : Value → Shared → Prop} {s : Shared}
/-- one more pair -/
theorem step {j d : Addr} {k e : Nat} {od : Obj} {es : Array DictEntry} {x : DictEntry} {u v : Value} {Q : Option Value → Shared → Prop} (zi : IsItemIter s.heap j d k es.size e u v) (zd : s.heap.get? d = some od) (ze : od.data = .dict es e) (zx : es[k]? = some x)
    (q : ∀ g, IsItemIterOut g j d (k + 1) es.size e x.key x.val s.heap.objs.size → g.get? s.heap.objs.size = some { cls := .type "tuple", data := .seq #[x.key, x.val] } → (∀ b o, b ≠ j → s.heap.get? b = some o → g.get? b = some o) → Q (some (.ref s.heap.objs.size)) { s with heap := g }) :
    wpAny (model prog w) A (pyNext (.ref j)) Q E s := by
  obtain ⟨hp, gg, dr, tk, os⟩ := s
  have ty : Shared.TypeIs ⟨hp, gg, dr, tk, os⟩ (.ref j) "dict_itemiterator" := ⟨_, zi, rfl⟩
  unfold pyNext
  refine wpAny_bind (wpAny_attempt (wpAny_callSpecial?_slot (name := Str.ofString "__next__") ty F.slot_dict_itemiterator_next (wpAny_call_entry F.slot_dict_itemiterator_next ty F.entry_dict_itemiterator_next ?_ (F.args_dict_itemiterator_next_1 _))))
  refine wpAny_bind (wpAny_pure (wpAny_bind (wpAny_bind ?_)))
  refine wpAny_bind (wpAny_typeNameOfWhole_itemiter ty (wpAny_pure (wpAny_bind (wpAny_fieldsOf zi rfl ?_))))
  simp only [owns, if_true]
  show wpAny _ _ (if (Value.ref d == Value.none) = true then _ else _) _ _ _
  rw [if_neg (refN d)]
  refine wpAny_bind (wpAny_pure (wpAny_bind (wpAny_dictEntries zd ze ?_)))
  rw [if_neg (by simp)]
  refine wpAny_bind (wpAny_pure (wpAny_bind (wpAny_dictEpoch zd ze ?_)))
  rw [if_neg (by simp)]
  refine wpAny_pure ?_
  have kl : k < es.size := (Array.getElem?_eq_some_iff.mp zx).1
  simp only [show ¬ ((k : Int) < 0) from by omega, if_false, Int.toNat_natCast, zx]
  refine wpAny_bind (wpAny_bind (wpAny_typeNameOfWhole_itemiter ty (wpAny_pure (wpAny_bind (wpAny_isOneOf_itemiter ty ?_)))))
  show wpAny _ _ (setField (.ref j) 3 (rawInt ((k : Int) + 1)) >>= _) _ _ _
  refine wpAny_bind (wpAny_setField_rec zi (by simp) fun h1 a1 b1 => ?_)
  replace b1 : Heap.SameBut j hp h1 := b1
  replace a1 : IsItemIter h1 j d (k + 1) es.size e u v := by
    have z : ((k + 1 : Nat) : Int) = (k : Int) + 1 := by omega
    unfold IsItemIter
    rw [z]
    simpa [rawInt] using a1
  have ty1 : Shared.TypeIs ⟨h1, gg, dr, tk, os⟩ (.ref j) "dict_itemiterator" := ⟨_, a1, rfl⟩
  refine wpAny_bind (wpAny_holding (wpAny_bind (wpAny_isOneOf_itemiter ty1 (wpAny_bind (wpAny_isOneOf_itemiter ty1 ?_)))))
  show wpAny _ _ (Builtin.Dict_items.pairFromOwner (.ref j) 6 x.key x.val) _ _ ⟨h1, gg, dr, tk, os⟩
  unfold Builtin.Dict_items.pairFromOwner
  refine wpAny_bind (wpAny_newTuple ?_)
  have a2 : IsItemIter (h1.push { cls := .type "tuple", data := .seq #[x.key, x.val] }) j d (k + 1) es.size e u v := Heap.get?_push_of_some _ a1
  generalize z2 : h1.push { cls := .type "tuple", data := .seq #[x.key, x.val] } = h2 at a2
  have n1 : h1.objs.size = hp.objs.size := b1.1
  have jl : j < hp.objs.size := Heap.lt_size zi
  have t2 : h2.get? hp.objs.size = some { cls := .type "tuple", data := .seq #[x.key, x.val] } := by rw [← z2, ← n1]; exact Heap.get?_push_size _ rfl
  have k2 : ∀ b o, b ≠ j → hp.get? b = some o → h2.get? b = some o := fun b o nb y => by rw [← z2]; exact Heap.get?_push_of_some _ (b1.extBut b o nb y)
  show wpAny _ _ (Builtin.Dict_items.ownedTupleIsFree (.ref j) >>= _) _ _ ⟨h2, gg, dr, tk, os⟩
  rw [n1]
  refine wpAny_bind ?_
  unfold Builtin.Dict_items.ownedTupleIsFree
  refine wpAny_bind (wpAny_field a2 rfl (x := .none) rfl (wpAny_pure ?_))
  simp only [if_true]
  refine wpAny_bind (wpAny_field a2 rfl (x := u) rfl (wpAny_bind (wpAny_field a2 rfl (x := v) rfl (wpAny_bind (wpAny_setField_rec a2 (by simp) fun h3 a3 b3 => ?_)))))
  replace b3 : Heap.SameBut j h2 h3 := b3
  replace a3 : IsItemIter h3 j d (k + 1) es.size e x.key v := a3
  refine wpAny_bind (wpAny_setField_rec a3 (by simp) fun h4 a4 b4 => ?_)
  replace b4 : Heap.SameBut j h3 h4 := b4
  replace a4 : IsItemIter h4 j d (k + 1) es.size e x.key x.val := a4
  refine wpAny_bind (wpAny_setField_rec a4 (by simp) fun h5 a5 b5 => ?_)
  replace b5 : Heap.SameBut j h4 h5 := b5
  replace a5 : IsItemIterOut h5 j d (k + 1) es.size e x.key x.val hp.objs.size := a5
  refine wpAny_bind (wpAny_setField_rec a5 (by simp) fun h6 a6 b6 => ?_)
  replace b6 : Heap.SameBut j h5 h6 := b6
  replace a6 : IsItemIterOut h6 j d (k + 1) es.size e x.key x.val hp.objs.size := a6
  have k6 : ∀ b o, b ≠ j → h2.get? b = some o → h6.get? b = some o := fun b o nb y => b6.extBut b o nb (b5.extBut b o nb (b4.extBut b o nb (b3.extBut b o nb y)))
  exact wpAny_bind (wpAny_letGo (wpAny_pure (wpAny_pure ⟨_, rfl, wpAny_pure (q h6 a6 (k6 _ _ (Nat.ne_of_gt jl) t2) fun b o nb y => k6 b o nb (k2 b o nb y))⟩)))
/-- no more -/
theorem stop {j d : Addr} {k e : Nat} {od : Obj} {es : Array DictEntry} {u v : Value} {Q : Option Value → Shared → Prop} (hd : A.handled = none) (zi : IsItemIter s.heap j d k es.size e u v) (zd : s.heap.get? d = some od) (ze : od.data = .dict es e) (zx : es.size ≤ k)
    (q : ∀ g, Heap.ExtBut j s.heap g → Q none { s with heap := g }) : wpAny (model prog w) A (pyNext (.ref j)) Q E s := by
  have ty : s.TypeIs (.ref j) "dict_itemiterator" := ⟨_, zi, rfl⟩
  unfold pyNext
  refine wpAny_bind (wpAny_attempt (wpAny_callSpecial?_slot (name := Str.ofString "__next__") ty F.slot_dict_itemiterator_next (wpAny_call_entry F.slot_dict_itemiterator_next ty F.entry_dict_itemiterator_next ?_ (F.args_dict_itemiterator_next_1 _))))
  refine wpAny_bind (wpAny_pure (wpAny_bind (wpAny_bind ?_)))
  refine wpAny_bind (wpAny_typeNameOfWhole_itemiter ty (wpAny_pure (wpAny_bind (wpAny_fieldsOf zi rfl ?_))))
  simp only [owns, if_true]
  show wpAny _ _ (if (Value.ref d == Value.none) = true then _ else _) _ _ s
  rw [if_neg (refN d)]
  refine wpAny_bind (wpAny_pure (wpAny_bind (wpAny_dictEntries zd ze ?_)))
  rw [if_neg (by simp)]
  refine wpAny_bind (wpAny_pure (wpAny_bind (wpAny_dictEpoch zd ze ?_)))
  rw [if_neg (by simp)]
  refine wpAny_pure ?_
  simp only [show ¬ ((k : Int) < 0) from by omega, if_false, Int.toNat_natCast, Array.getElem?_eq_none zx]
  refine wpAny_bind (wpAny_bind (wpAny_typeNameOfWhole_itemiter ty (wpAny_pure ?_)))
  show wpAny _ _ (setField (.ref j) 2 .none >>= _) _ _ s
  refine wpAny_bind (wpAny_setField zi rfl (by simp) ?_)
  show wpAny _ _ (newExc (.type "StopIteration") [] >>= _) _ _ _
  refine wpAny_bind ?_
  simp only [newExc, newTuple]
  refine wpAny_bind (wpAny_newObj_type (wpAny_bind (m := firstArgMember _ _) (wpAny_of_eq (a := Value.none) (by first | rfl | (simp only [firstArgMember]; rfl)) (wpAny_newObj_type ?_ (by size_fits)))) (by size_fits))
  simp only [raiseNew]
  refine wpAny_bind (wpAny_handled ?_)
  first
    | rw [show A.in1.handled = none from hd]
    | rw [hd]
  refine wpAny_bind (wpAny_pure (wpAny_throw ?_))
  exact wpAny_bind (wpAny_isInstance (T := "StopIteration") (b := true) ⟨_, Heap.get?_push_size _ rfl, rfl⟩ isSubtype_stop (wpAny_pure (q _ (((Heap.SameBut.update ..).extBut.push _).push _))))
/-- an iterator over what it shows -/
theorem iter {v d : Addr} {e : Nat} {od : Obj} {es : Array DictEntry} {Q : Value → Shared → Prop} (zv : s.heap.IsItemsView v d) (zd : s.heap.get? d = some od) (ze : od.data = .dict es e)
    (q : Q (.ref s.heap.objs.size) { s with heap := s.heap.push { cls := .type "dict_itemiterator", data := .fields #[.none, .bool false, .ref d, .int 0 0, .int es.size 0, .int e 0, .none, .none] } }) : wpAny (model prog w) A (pyIter (.ref v)) Q E s := by
  obtain ⟨ov, g1, g2, g3⟩ := id zv
  refine wpAny_pyIter_slot zv.typeIs F.slot_dict_items_iter (wpAny_call_entry F.slot_dict_items_iter zv.typeIs F.entry_dict_items_iter ?_ (F.args_dict_items_iter_1 _))
  unfold Builtin.«dict_items.__iter__»
  refine wpAny_bind (wpAny_pure (wpAny_bind ?_))
  unfold Builtin.Dict_items.dictOf
  refine wpAny_bind (wpAny_field g1 g3 (x := .ref d) rfl (wpAny_pure (wpAny_bind ?_)))
  unfold Builtin.Dict_items.newIterator
  refine wpAny_bind (wpAny_dictEntries zd ze (wpAny_bind (wpAny_dictEpoch zd ze ?_)))
  simp only [owns, if_true]
  refine wpAny_newObj_type (wpAny_pure ⟨_, rfl, "dict_itemiterator", _, ⟨_, Heap.get?_push_size _ rfl, rfl⟩, F.slot_dict_itemiterator_next.lookup, ?_⟩) (by simp only [sizeOk, Builtin.Dict_items.ownedTupleFields, List.size_toArray, List.length_append, List.length_cons, List.length_nil, sizeLine_eq]; omega)
  simpa [rawInt, Builtin.Dict_items.ownedTupleFields] using q
end
end Itm

namespace L2
open PySem PySem.Spec PyProof.Rows
section
variable {X : Cx} {tg : Expr}
end
end L2

set_option Elab.async false
set_option linter.all false
set_option maxRecDepth 100000
set_option maxHeartbeats 4000000
/-! reversed(range(n)), walked -/
namespace Rev
open PySem PyProof.Rows
section
variable {prog : Program} {w : World} {A : Around} {E : Value → Shared → Prop} {s : Shared}
end
end Rev

namespace L2
open PySem PySem.Spec PyProof.Rows
section
variable {X : Cx} {tg : Expr}
end
end L2

set_option Elab.async false
set_option linter.all false
set_option maxRecDepth 100000
set_option maxHeartbeats 4000000
/-! min of a list of tuples that begin with two ints, no two alike -/
namespace MinT
open PySem PyProof.Rows
open PySem.SeqAt
open PySem.AutoSeq1 (wpAny_loadPart')
open PySem.MeetsSeq PySem.MeetsSeq2 PySem.MeetsSeq3
section
variable {prog : Program} {w : World} {A : Around} {E : Value → Shared → Prop} {s : Shared}
/-- a tuple that begins so -/
def Beg (h : Heap) (v : Value) (p : Int × Int) : Prop := ∃ a items t u r, v = .ref a ∧ h.IsTuple a items ∧ items.toList = .int p.1 t :: .int p.2 u :: r
end
theorem best_le (bt : Nat → Nat → Bool) : ∀ k, argBest bt k ≤ k
  | 0 => Nat.le_refl _
  | k + 1 => by
    simp only [argBest]
    split
    · exact Nat.le_refl _
    · exact Nat.le_succ_of_le (best_le bt k)
section
variable {prog : Program} {w : World} {A : Around} {R : Result → Shared → Prop} {I : Addr} {fp wr : List Addr} {n : Nat} {P : Nat → Value → Prop} {St : Nat → Heap → Prop}
theorem more (W : Walks prog w A.in1 I fp wr n P St) (bt : Nat → Nat → Bool) (hcmp : ∀ i j vi vj (s : Shared) (k : Nat) (Q : Value → Shared → Prop) (E : Value → Shared → Prop), P i vi → P j vj → i ≠ j → St k s.heap → Q (.bool (bt i j)) s → wpAny (model prog w) A.in1 (richCompare .Lt vi vj) Q E s) (S : Addr) (hSf : S ∉ fp) (kw : List (Str × Value)) :
    ∀ (k j : Nat) (s : Shared) (vb : Value) (c : Nat), n - (j + 1) = k → j + 1 ≤ n → St (j + 1) s.heap → P (argBest bt j) vb →
    s.heap.get? S = some { cls := .type "list", dict := none, data := .seq #[vb, vb] c, slots := #[] } →
    (∀ v h' tk, P (argBest bt (n - 1)) v → (∀ b o, b ∉ wr → b ≠ S → s.heap.get? b = some o → h'.get? b = some o) → R (.ok (.ret v)) { s with heap := h', toks := tk }) →
    codeAny (model prog w) A (.builtin "min.loop" ⟨[.ref I, .none, .ref S], kw⟩) R s := by
  have hSw : S ∉ wr := fun h => hSf (W.sub _ h)
  have hname : (toString "min" ++ toString ".loop" : String) = "min.loop" := by decide
  intro k
  induction k with
  | zero =>
    intro j s vb c hk hj hst hPb hS hR
    have hin : j + 1 = n := by omega
    refine codeAny_builtin F.entry_min_loop ?_
    rw [Around.under_plainId F.plain_min_loop _]
    show wpAny _ A.in1 (seqItems? (.ref S) >>= _) _ _ s
    refine wpAny_bind (wpAny_seqItems hS rfl ?_)
    show wpAny _ A.in1 (tryCatch (pyNext (.ref I)) _ >>= _) _ _ s
    refine wpAny_bind (wpAny_tryCatch (W.done s _ _ (hin ▸ hst) fun h' tk hk' => ?_))
    have hS' := hk' S _ hSw hS
    show wpAny _ A.in1 (updateSeq S (fun _ => #[]) >>= _) _ _ _
    refine wpAny_bind ?_
    refine wpAny_updateSeq hS' rfl (wpAny_bind (wpAny_letGo (wpAny_pure ?_)))
    refine hR vb _ tk (by rw [← hin]; exact hPb) fun b o hbw hbS e => (Heap.get?_update_other _ _ (Ne.symm hbS)).trans (hk' b o hbw e)
  | succ k ih =>
    intro j s vb c hk hj hst hPb hS hR
    have hlt : j + 1 < n := by omega
    refine codeAny_builtin F.entry_min_loop ?_
    rw [Around.under_plainId F.plain_min_loop _]
    show wpAny _ A.in1 (seqItems? (.ref S) >>= _) _ _ s
    refine wpAny_bind (wpAny_seqItems hS rfl ?_)
    show wpAny _ A.in1 (tryCatch (pyNext (.ref I)) _ >>= _) _ _ s
    refine wpAny_bind (wpAny_tryCatch (W.item (j + 1) s _ _ hlt hst fun v h' tk hP hst' hk' => ?_))
    have hS' := hk' S _ hSw hS
    show wpAny _ A.in1 (tryCatch (holding [v, v] (richCompare .Lt v vb >>= _)) _ >>= _) _ _ _
    refine wpAny_bind (wpAny_tryCatch (wpAny_holding (wpAny_bind (hcmp (j + 1) (argBest bt j) v vb _ _ _ _ hP hPb (Nat.ne_of_gt (Nat.lt_succ_of_le (best_le bt j))) hst' ?_))))
    refine wpAny_bind (wpAny_holding (wpAny_truthy_bool ?_))
    refine wpAny_bind (wpAny_letGo (wpAny_pure ?_))
    cases hb : bt (j + 1) (argBest bt j) with
    | true =>
      simp only [if_true]
      refine wpAny_bind ?_
      refine wpAny_updateSeq hS' rfl (wpAny_bind (wpAny_letGo ?_))
      rw [hname]
      refine wpAny_pure ⟨plainId_quiet F.plain_min_loop _, ih (j + 1) _ v _ (by omega) hlt (W.frame _ _ _ hst' fun b hbf o e => ?_) (by simp only [argBest, hb, if_true]; exact hP) (Heap.get?_update_self _ hS' rfl)
        fun v' h'' tk'' hP' hk'' => ?_⟩
      · exact (Heap.get?_update_other _ _ (fun h : S = b => hSf (by rw [h]; exact hbf))).trans e
      · exact hR v' h'' tk'' hP' fun b o hbw hbS e => hk'' b o hbw hbS ((Heap.get?_update_other _ _ (Ne.symm hbS)).trans (hk' b o hbw e))
    | false =>
      simp only [Bool.false_eq_true, if_false]
      refine wpAny_bind (wpAny_letGo ?_)
      rw [hname]
      refine wpAny_pure ⟨plainId_quiet F.plain_min_loop _, ih (j + 1) _ vb c (by omega) hlt hst' (by simp only [argBest, hb, Bool.false_eq_true, if_false]; exact hPb) hS' fun v' h'' tk'' hP' hk'' => ?_⟩
      exact hR v' h'' tk'' hP' fun b o hbw hbS e => hk'' b o hbw hbS (hk' b o hbw e)
theorem first (W : Walks prog w A.in1 I fp wr n P St) (bt : Nat → Nat → Bool) (hcmp : ∀ i j vi vj (s : Shared) (k : Nat) (Q : Value → Shared → Prop) (E : Value → Shared → Prop), P i vi → P j vj → i ≠ j → St k s.heap → Q (.bool (bt i j)) s → wpAny (model prog w) A.in1 (richCompare .Lt vi vj) Q E s) (S : Addr) (hSf : S ∉ fp) (kw : List (Str × Value)) (hn : 0 < n) {s : Shared} {c : Nat} (hst : St 0 s.heap)
    (hS : s.heap.get? S = some { cls := .type "list", dict := none, data := .seq #[] c, slots := #[] })
    (hR : ∀ v h' tk, P (argBest bt (n - 1)) v → (∀ b o, b ∉ wr → b ≠ S → s.heap.get? b = some o → h'.get? b = some o) → R (.ok (.ret v)) { s with heap := h', toks := tk }) :
    codeAny (model prog w) A (.builtin "min.loop" ⟨[.ref I, .none, .ref S], kw⟩) R s := by
  have hSw : S ∉ wr := fun h => hSf (W.sub _ h)
  have hname : (toString "min" ++ toString ".loop" : String) = "min.loop" := by decide
  refine codeAny_builtin F.entry_min_loop ?_
  rw [Around.under_plainId F.plain_min_loop _]
  show wpAny _ A.in1 (seqItems? (.ref S) >>= _) _ _ s
  refine wpAny_bind (wpAny_seqItems hS rfl ?_)
  show wpAny _ A.in1 (tryCatch (pyNext (.ref I)) _ >>= _) _ _ s
  refine wpAny_bind (wpAny_tryCatch (W.item 0 s _ _ hn hst fun v h' tk hP hst' hk' => ?_))
  have hS' := hk' S _ hSw hS
  show wpAny _ A.in1 (updateSeq S (fun _ => #[v, v]) >>= _) _ _ _
  refine wpAny_bind ?_
  refine wpAny_updateSeq hS' rfl ?_
  rw [hname]
  refine wpAny_pure ⟨plainId_quiet F.plain_min_loop _, more W bt hcmp S hSf kw _ 0 _ v _ rfl hn (W.frame _ _ _ hst' fun b hbf o e => ?_) hP (Heap.get?_update_self _ hS' rfl) fun v' h'' tk'' hP' hk'' => ?_⟩
  · exact (Heap.get?_update_other _ _ (fun h : S = b => hSf (by rw [h]; exact hbf))).trans e
  · exact hR v' h'' tk'' hP' fun b o hbw hbS e => hk'' b o hbw hbS ((Heap.get?_update_other _ _ (Ne.symm hbS)).trans (hk' b o hbw e))
end
section
variable {prog : Program} {w : World} {A : Around} {E : Value → Shared → Prop} {s : Shared}
/-- a list of such tuples walked, all of them standing -/
theorem walk {I l : Addr} {items : Array Value} {ps : List (Int × Int)} {tv : List Addr} (hd : A.handled = none) (hne : l ≠ I) (hI : I ∉ tv) : Walks prog w A I (I :: l :: tv) [I] items.size (fun i v => items[i]? = some v) (fun i h => (h.IsListIter I l i ∧ h.IsList l items) ∧ ∀ (k : Nat) v, items[k]? = some v → ∃ a ∈ tv, v = .ref a ∧ ∃ p, ps[k]? = some p ∧ Beg h v p) := by
  have W := Walks.list (prog := prog) (w := w) (A := A) hd I l hne items
  have keep : ∀ {h h' : Heap}, (∀ b ∈ tv, ∀ o, h.get? b = some o → h'.get? b = some o) → (∀ (k : Nat) v, items[k]? = some v → ∃ a ∈ tv, v = .ref a ∧ ∃ p, ps[k]? = some p ∧ Beg h v p) → ∀ (k : Nat) v, items[k]? = some v → ∃ a ∈ tv, v = .ref a ∧ ∃ p, ps[k]? = some p ∧ Beg h' v p := fun {h h'} kk hb k v hv => by
    obtain ⟨a, ha, e, p, hp, a', its, t, u, r, e', ⟨o, ho, rest⟩, hit⟩ := hb k v hv
    refine ⟨a, ha, e, p, hp, a', its, t, u, r, e', ⟨o, kk _ ?_ _ ho, rest⟩, hit⟩
    rw [e] at e'
    cases e'
    exact ha
  refine ⟨fun b hb => ?_, fun i h h' st hk => ⟨W.frame i h h' st.1 fun b hb o e => hk b ?_ o e, keep (fun b hb o e => hk b (by simp [hb]) o e) st.2⟩, fun i s Q E hi st hQ => ?_, fun s Q E st hQ => ?_, fun i s Q E st hQ => W.self i s Q E st.1 hQ⟩
  · rw [List.mem_singleton] at hb
    rw [hb]
    exact List.mem_cons_self
  · simp only [List.mem_cons, List.not_mem_nil, or_false] at hb
    rcases hb with rfl | rfl <;> simp
  · refine W.item i s Q E hi st.1 fun v h' tk hv st' kk => hQ v h' tk hv ⟨st', keep (fun b hb o e => kk b o (fun z => ?_) e) st.2⟩ kk
    rw [List.mem_singleton] at z
    exact hI (z ▸ hb)
  · exact W.done s Q E st.1 hQ
end
end MinT

namespace MinT
end MinT
namespace L2
open PySem PySem.Spec PyProof.Rows
section
variable {X : Cx}
end
end L2

set_option Elab.async false
set_option linter.all false
set_option maxHeartbeats 4000000
/-! where two powers meet -/
namespace Mth
/-- what is come to by at most m steps, each once: n of them -/
structure LstR (rows : List (List Int)) (p : List Int) (m n : Nat) : Prop where
  dst : Dst rows p n
  go : ∀ j, j < n → ∃ e, goN rows j p = some e
  le : n ≤ m + 1
  all : ∀ j, j ≤ m → ∀ e, goN rows j p = some e → ∃ j', j' < n ∧ j' ≤ j ∧ goN rows j' p = some e
theorem goN_some {rows : List (List Int)} {p e : List Int} : ∀ {i : Nat}, goN rows i p = some e → ∀ j, j ≤ i → ∃ q, goN rows j p = some q
  | 0, h, j, hj => by
    have : j = 0 := by omega
    subst this
    exact ⟨e, h⟩
  | i + 1, h, j, hj => by
    by_cases z : j = i + 1
    · subst z
      exact ⟨e, h⟩
    · cases g : goN rows i p with
      | none =>
        have h' : (goN rows i p).bind (stp rows) = some e := h
        rw [g] at h'
        cases h'
      | some q => exact goN_some g j (by omega)
/-- it comes to the same again -/
theorem LstR.again {rows : List (List Int)} {p e : List Int} {m i j : Nat} (D : Dst rows p i) (hi : goN rows i p = some e) (hj : goN rows j p = some e) (hji : j < i) (him : i ≤ m) : LstR rows p m i := by
  refine ⟨D, fun k hk => goN_some hi k (by omega), by omega, ?_⟩
  have key : ∀ k, ∀ q, goN rows k p = some q → ∃ j', j' < i ∧ j' ≤ k ∧ goN rows j' p = some q := by
    intro k
    induction k using Nat.strongRecOn with
    | ind k ih =>
      intro q hq
      by_cases hk : k < i
      · exact ⟨k, hk, Nat.le_refl _, hq⟩
      · have e1 := goN_shift (rows := rows) (p := p) (a := j) (b := i) (by rw [hi, hj]) (k - i)
        rw [show i + (k - i) = k by omega, hq] at e1
        obtain ⟨j', h1, h2, h3⟩ := ih (j + (k - i)) (by omega) q e1
        exact ⟨j', h1, by omega, h3⟩
  exact fun k _ q hq => key k q hq
/-- it rests -/
theorem LstR.rest {rows : List (List Int)} {p e : List Int} {m i : Nat} (D : Dst rows p (i + 1)) (hi : goN rows i p = some e) (hf : fstI rows e = none) (him : i ≤ m) : LstR rows p m (i + 1) :=
  ⟨D, fun k hk => goN_some hi k (by omega), by omega, fun k _ q hq => by
    have := goN_restLt hi hf hq
    exact ⟨k, by omega, Nat.le_refl _, hq⟩⟩
end Mth

set_option Elab.async false
set_option linter.all false
set_option maxRecDepth 100000
set_option maxHeartbeats 4000000
/-! boxes for the pairs of a dict and for reversed ranges; a list beside an empty one -/
namespace L2
open PySem PySem.Spec PyProof.Rows
section
variable {X : Cx} {tg : Expr}
end
end L2

set_option Elab.async false
set_option linter.all false
set_option maxRecDepth 100000
set_option maxHeartbeats 4000000
/-! != of tuples of ints, texts and rows; of two ints or two rows -/
namespace L2
open PySem PySem.Spec PyProof.Rows
section
variable {X : Cx}
end
end L2

set_option Elab.async false
set_option linter.all false
set_option maxHeartbeats 4000000
/-! what becomes of later powers, and of those ahead -/
namespace Mth
end Mth

set_option Elab.async false
set_option linter.all false
set_option maxRecDepth 100000
set_option maxHeartbeats 4000000
namespace L2
open PySem PySem.Spec PyProof.Rows
/-- len within a comprehension: the fragment by its name -/
theorem call_len_seqN {X : Cx} {K : PySem.W.Frag} (hK : X.K = K) : CallR X (.builtin "len") (fun xs H Q => ∃ p ys, xs = [.ref p] ∧ (SqL K H p ys ∨ SqT K H p ys) ∧ Q (.int ys.length) H) := by
  subst hK
  exact call_len_seq
end L2

set_option Elab.async false
set_option linter.all false
set_option maxRecDepth 100000
set_option maxHeartbeats 4000000
/-! any of a list of truths; walks over two lists, over a tuple and a list, over three tuples -/
namespace L2
open PySem PySem.Spec PyProof.Rows
section
variable {X : Cx}
end
end L2

set_option Elab.async false
set_option linter.all false
set_option maxRecDepth 100000
set_option maxHeartbeats 4000000
/-! the greatest of a list's or a tuple's ints; where an int stands in a list -/
namespace L2
open PySem PySem.Spec PySem.SeqAt PyProof.Rows
section
variable {X : Cx}
end
end L2

set_option linter.all false
/-! trails that loop: what shuts a fraction out, what a part of a path adds, the first loop -/
namespace Mth
def shutB (c p d : List Int) : Bool := (List.range 10).any fun i => decide (p.getD i 0 + c.getD i 0 < 0) && decide (d.getD i 0 = 0)
theorem gD {l : List Int} {k : Nat} (h : k < l.length) : l[k]? = some (l.getD k 0) := by
  rw [List.getD_eq_getElem?_getD, List.getElem?_eq_getElem h]
  rfl
def loopB (R P : List (List Int)) (U : List Nat) (d : List Int) : Bool := (List.range U.length).all fun k => (R.take (U.getD k 0)).all fun c => shutB c (P.getD k []) d
def addD (P : List (List Int)) (n : Nat) : List Int := mvd (P.getD n []) (P.getD 0 []) (-1)
def addL (R P : List (List Int)) (U : List Nat) : Option (List Int) := if nn (addD P U.length) = true ∧ loopB R P U (addD P U.length) = true then some (addD P U.length) else none
theorem addL_some {R P : List (List Int)} {U : List Nat} (h1 : nn (addD P U.length) = true) (h2 : loopB R P U (addD P U.length) = true) : addL R P U = some (addD P U.length) := if_pos ⟨h1, h2⟩
theorem loopB_of {R P : List (List Int)} {U : List Nat} {d : List Int} (h : ∀ (k u : Nat) (p : List Int), U[k]? = some u → P[k]? = some p → ∀ c ∈ R.take u, shutB c p d = true) (hl : U.length ≤ P.length) : loopB R P U d = true := by
  unfold loopB
  rw [List.all_eq_true]
  intro k hk
  have hk' := List.mem_range.mp hk
  rw [List.all_eq_true]
  intro c hc
  have e1 : U[k]? = some U[k] := List.getElem?_eq_getElem hk'
  have e2 : P[k]? = some (P[k]'(by omega)) := List.getElem?_eq_getElem (by omega)
  rw [List.getD_eq_getElem?_getD, e1] at hc
  rw [List.getD_eq_getElem?_getD, e2]
  exact h k _ _ e1 e2 c hc
def cutL {α : Type} (l : List α) (s e : Nat) : List α := (l.drop s).take (e - s)
theorem cutL_get {α : Type} {l : List α} {s e i : Nat} (hi : i < e - s) : (cutL l s e)[i]? = l[s + i]? := by
  unfold cutL
  rw [List.getElem?_take_of_lt hi, List.getElem?_drop]
theorem cutL_none {α : Type} {l : List α} {s e i : Nat} (hi : e - s ≤ i) : (cutL l s e)[i]? = none := by
  unfold cutL
  rw [List.getElem?_take_eq_none hi]
theorem cutL_len {α : Type} {l : List α} {s e : Nat} (he : e ≤ l.length) : (cutL l s e).length = e - s := by
  unfold cutL
  rw [List.length_take, List.length_drop]
  omega
theorem addD_len {P : List (List Int)} {n : Nat} {p q : List Int} (hp : P[n]? = some p) (hq : P[0]? = some q) (lp : p.length = 10) (lq : q.length = 10) : (addD P n).length = 10 := by
  unfold addD
  rw [List.getD_eq_getElem?_getD, hp, List.getD_eq_getElem?_getD, hq]
  exact mvd_length lp lq
end Mth

set_option Elab.async false
set_option linter.all false
set_option maxRecDepth 100000
set_option maxHeartbeats 4000000
/-! for over range(a, b, c) with c above 0 -/
namespace L2
open PySem PySem.Spec PyProof.Rows
section
variable {X : Cx} {tg : Expr}
end
end L2

set_option linter.all false
/-! a trail that loops can be gone for ever -/
namespace Mth
theorem ext10 {p q : List Int} (hp : p.length = 10) (hq : q.length = 10) (h : ∀ i, i < 10 → p.getD i 0 = q.getD i 0) : p = q := by
  refine List.ext_getElem? fun i => ?_
  by_cases hi : i < 10
  · rw [gD (by omega), gD (l := q) (by omega), h i hi]
  · rw [List.getElem?_eq_none (by omega), List.getElem?_eq_none (by omega)]
theorem mvd_D {p c : List Int} {m : Int} {i : Nat} (hp : p.length = 10) (hc : c.length = 10) (hi : i < 10) : (mvd p c m).getD i 0 = p.getD i 0 + m * c.getD i 0 := by
  have h1 := gD (l := p) (k := i) (by omega)
  have h2 := gD (l := c) (k := i) (by omega)
  have : (mvd p c m)[i]? = some (p.getD i 0 + m * c.getD i 0) := by
    unfold mvd
    rw [List.getElem?_zipWith_eq_some]
    exact ⟨_, _, h1, h2, rfl⟩
  rw [List.getD_eq_getElem?_getD, this]
  rfl
theorem mvd_comm {p c d : List Int} {m k : Int} (hp : p.length = 10) (hc : c.length = 10) (hd : d.length = 10) : mvd (mvd p c m) d k = mvd (mvd p d k) c m := by
  refine ext10 (mvd_length (mvd_length hp hc) hd) (mvd_length (mvd_length hp hd) hc) fun i hi => ?_
  rw [mvd_D (mvd_length hp hc) hd hi, mvd_D hp hc hi, mvd_D (mvd_length hp hd) hc hi, mvd_D hp hd hi]
  omega
theorem mvd_nought {p d : List Int} (hp : p.length = 10) (hd : d.length = 10) : mvd p d 0 = p := by
  refine ext10 (mvd_length hp hd) hp fun i hi => ?_
  rw [mvd_D hp hd hi]
  omega
theorem fitsB_D {c p : List Int} (hc : c.length = 10) (hp : p.length = 10) : fitsB c p = true ↔ ∀ i, i < 10 → 0 ≤ p.getD i 0 + c.getD i 0 := by
  rw [fitsB_iff]
  constructor
  · intro h i hi
    exact h i _ _ (gD (by omega)) (gD (by omega))
  · intro h i a b h1 h2
    have hi : i < 10 := by rw [← hc]; exact (List.getElem?_eq_some_iff.mp h1).1
    have := h i hi
    rw [List.getD_eq_getElem?_getD, h2, List.getD_eq_getElem?_getD, h1] at this
    exact this
theorem goN_sumB (R : List (List Int)) (a : Nat) (p : List Int) : ∀ b, goN R (a + b) p = (goN R a p).bind (goN R b)
  | 0 => by
    show goN R a p = _
    cases goN R a p <;> rfl
  | b + 1 => by
    show (goN R (a + b) p).bind (stp R) = _
    rw [goN_sumB R a p b]
    cases goN R a p <;> rfl
theorem trl_get (R : List (List Int)) : ∀ (m : Nat) (p : List Int) (i : Nat), (trl R m p)[i]? = if i < m then (goN R i p).bind (fstI R) else none
  | 0, p, i => by rw [if_neg (Nat.not_lt_zero _)]; rfl
  | m + 1, p, i => by
    cases hf : fstI R p with
    | none =>
      rw [trl_none hf]
      show none = _
      cases i with
      | zero => rw [if_pos (Nat.succ_pos _)]; exact hf.symm
      | succ i =>
        rw [goN_first, stp_none hf]
        split <;> rfl
    | some k =>
      obtain ⟨c, hc, _, _⟩ := fstI_lt hf
      rw [trl_some hf hc]
      cases i with
      | zero => rw [if_pos (Nat.succ_pos _)]; exact hf.symm
      | succ i =>
        show (trl R m (mvd p c 1))[i]? = _
        rw [trl_get R m (mvd p c 1) i, goN_first, stp_of hf hc]
        by_cases hi : i < m
        · rw [if_pos hi, if_pos (by omega)]; rfl
        · rw [if_neg hi, if_neg (by omega)]
/-- a path, place by place -/
def PathR (R : List (List Int)) (m : Nat) (ps : List Int) (P : List (List Int)) : Prop := P.length = (trl R m ps).length + 1 ∧ ∀ i, i < P.length → P[i]? = goN R i ps
theorem PathR.get {R : List (List Int)} {m : Nat} {ps : List Int} {P : List (List Int)} (h : PathR R m ps P) {s : Nat} (hs : s ≤ (trl R m ps).length) : ∃ p, P[s]? = some p ∧ goN R s ps = some p := by
  have hl : s < P.length := by rw [h.1]; omega
  exact ⟨P[s], List.getElem?_eq_getElem hl, by rw [← h.2 s hl]; exact List.getElem?_eq_getElem hl⟩
theorem PathR.cut {R : List (List Int)} {m : Nat} {ps : List Int} {P : List (List Int)} (h : PathR R m ps P) {s e : Nat} (hs : s < e) (he : e ≤ (trl R m ps).length) {b : List Int} (hb : goN R s ps = some b) :
    trl R (e - s) b = cutL (trl R m ps) s e ∧ PathR R (e - s) b (cutL P s (e + 1)) := by
  have hm := trl_len R m ps
  have ew : trl R (e - s) b = cutL (trl R m ps) s e := by
    refine List.ext_getElem? fun i => ?_
    rw [trl_get]
    by_cases hi : i < e - s
    · rw [if_pos hi, cutL_get hi, trl_get, if_pos (by omega), goN_sumB, hb]
      rfl
    · rw [if_neg hi, cutL_none (by omega)]
  refine ⟨ew, ?_, fun i hi => ?_⟩
  · rw [ew, cutL_len he, cutL_len (by rw [h.1]; omega)]
    omega
  · rw [cutL_len (by rw [h.1]; omega)] at hi
    rw [cutL_get hi, h.2 (s + i) (by rw [h.1]; omega), goN_sumB, hb]
    rfl
theorem PathR.ten {R : List (List Int)} {m : Nat} {ps : List Int} {P : List (List Int)} (h : PathR R m ps P) (hR : R10 R) (hp : ps.length = 10) (hn : nn ps = true) : ∀ p ∈ P, p.length = 10 ∧ nn p = true := by
  intro p hm
  obtain ⟨i, hi⟩ := List.getElem?_of_mem hm
  have hl := (List.getElem?_eq_some_iff.mp hi).1
  rw [h.2 i hl] at hi
  exact goN_ok hR hp hn hi
structure LoopR (R P : List (List Int)) (W : List Nat) (p d : List Int) : Prop where
  r10 : R10 R
  p10 : p.length = 10
  pn : nn p = true
  path : PathR R W.length p P
  wt : trl R W.length p = W
  w1 : 1 ≤ W.length
  add : addL R P W = some d
section
variable {R P : List (List Int)} {W : List Nat} {p d : List Int} (h : LoopR R P W p d)
include h
theorem LoopR.at {r : Nat} (hr : r ≤ W.length) : ∃ q, P[r]? = some q ∧ goN R r p = some q ∧ q.length = 10 ∧ nn q = true := by
  obtain ⟨q, h1, h2⟩ := h.path.get (s := r) (by rw [h.wt]; exact hr)
  obtain ⟨h3, h4⟩ := goN_ok h.r10 h.p10 h.pn h2
  exact ⟨q, h1, h2, h3, h4⟩
theorem LoopR.dd : d = addD P W.length ∧ nn d = true ∧ loopB R P W d = true := by
  have ha := h.add
  unfold addL at ha
  split at ha
  · rename_i hc
    have e : addD P W.length = d := Option.some.inj ha
    rw [e] at hc
    exact ⟨e.symm, hc.1, hc.2⟩
  · cases ha
theorem LoopR.d10 : d.length = 10 := by
  obtain ⟨q, h1, _, h3, _⟩ := h.at (r := W.length) (Nat.le_refl _)
  obtain ⟨q0, g1, _, g3, _⟩ := h.at (r := 0) (Nat.zero_le _)
  rw [h.dd.1]
  exact addD_len h1 g1 h3 g3
theorem LoopR.end_ {q : List Int} (hq : P[W.length]? = some q) {i : Nat} (hi : i < 10) : q.getD i 0 = p.getD i 0 + d.getD i 0 := by
  obtain ⟨q', h1, _, h3, _⟩ := h.at (r := W.length) (Nat.le_refl _)
  obtain ⟨q0, g1, g2, g3, _⟩ := h.at (r := 0) (Nat.zero_le _)
  rw [hq] at h1
  cases h1
  have e0 : q0 = p := (Option.some.inj g2).symm
  subst e0
  rw [h.dd.1]
  unfold addD
  rw [List.getD_eq_getElem?_getD (l := P), hq, List.getD_eq_getElem?_getD (l := P), g1]
  show _ = _ + (mvd q q0 (-1)).getD i 0
  rw [mvd_D h3 g3 hi]
  omega
/-- the same fraction is first, so many times later -/
theorem LoopR.first {r : Nat} (hr : r < W.length) (k : Nat) : ∃ q u c, P[r]? = some q ∧ W[r]? = some u ∧ R[u]? = some c ∧ c.length = 10 ∧ q.length = 10 ∧ P[r + 1]? = some (mvd q c 1) ∧ fstI R (mvd q d k) = some u := by
  obtain ⟨q, h1, h2, h3, h4⟩ := h.at (r := r) (by omega)
  obtain ⟨q', g1, g2, g3, g4⟩ := h.at (r := r + 1) (by omega)
  have hw : W[r]? = fstI R q := by
    have := trl_get R W.length p r
    rw [h.wt, if_pos hr, h2] at this
    exact this
  have hst : stp R q = some q' := by
    have e : (goN R r p).bind (stp R) = some q' := g2
    rw [h2] at e
    exact e
  obtain ⟨u, c, hu, hc, hfit, rfl⟩ := stp_some hst
  have c10 := h.r10 c (List.mem_of_getElem? hc)
  have d10 := h.d10
  obtain ⟨_, dn, dl⟩ := h.dd
  have hwu : W[r]? = some u := by rw [hw, hu]
  refine ⟨q, u, c, h1, hwu, hc, c10, h3, g1, fstI_at R (mvd q d k) u (fun j hj c' hc' => ?_) (fun c' hc' => ?_) (List.getElem?_eq_some_iff.mp hc).1⟩
  · have c10' := h.r10 c' (List.mem_of_getElem? hc')
    have hs : shutB c' q d = true := by
      unfold loopB at dl
      rw [List.all_eq_true] at dl
      have e1 := dl r (List.mem_range.mpr hr)
      rw [List.getD_eq_getElem?_getD, hwu, List.getD_eq_getElem?_getD, h1, List.all_eq_true] at e1
      exact e1 c' (List.mem_of_getElem? (i := j) (by
        show (R.take u)[j]? = some c'
        rw [List.getElem?_take_of_lt hj]; exact hc'))
    unfold shutB at hs
    rw [List.any_eq_true] at hs
    obtain ⟨i, hi, hv⟩ := hs
    have hi' := List.mem_range.mp hi
    rw [Bool.and_eq_true, decide_eq_true_iff, decide_eq_true_iff] at hv
    rw [Bool.eq_false_iff]
    intro z
    have := (fitsB_D c10' (mvd_length h3 d10)).mp z i hi'
    rw [mvd_D h3 d10 hi', hv.2] at this
    omega
  · rw [hc] at hc'
    cases hc'
    refine (fitsB_D c10 (mvd_length h3 d10)).mpr fun i hi => ?_
    have e1 := (fitsB_D c10 h3).mp hfit i hi
    rw [mvd_D h3 d10 hi]
    have e2 : 0 ≤ d.getD i 0 := nn_iff.mp dn _ (List.mem_of_getElem? (gD (by omega)))
    have e3 : 0 ≤ (k : Int) * d.getD i 0 := Int.mul_nonneg (Int.natCast_nonneg k) e2
    omega
theorem LoopR.go (k : Nat) : ∀ r, r ≤ W.length → ∃ q, P[r]? = some q ∧ goN R (k * W.length + r) p = some (mvd q d k) := by
  have d10 := h.d10
  induction k with
  | zero =>
    intro r hr
    obtain ⟨q, h1, h2, h3, _⟩ := h.at hr
    refine ⟨q, h1, ?_⟩
    rw [Nat.zero_mul, Nat.zero_add, h2]
    congr 1
    exact (mvd_nought h3 d10).symm
  | succ k ih =>
    intro r
    induction r with
    | zero =>
      intro _
      obtain ⟨q, h1, h2⟩ := ih W.length (Nat.le_refl _)
      obtain ⟨q0, g1, g2, g3, _⟩ := h.at (r := 0) (Nat.zero_le _)
      obtain ⟨_, h1', _, h3, _⟩ := h.at (r := W.length) (Nat.le_refl _)
      rw [h1] at h1'
      cases h1'
      have e0 : q0 = p := (Option.some.inj g2).symm
      subst e0
      refine ⟨q0, g1, ?_⟩
      rw [Nat.add_zero, show (k + 1) * W.length = k * W.length + W.length from Nat.succ_mul _ _, h2]
      congr 1
      refine ext10 (mvd_length h3 d10) (mvd_length g3 d10) fun i hi => ?_
      rw [mvd_D h3 d10 hi, mvd_D g3 d10 hi, h.end_ h1 hi, Int.natCast_add, Int.add_mul]
      omega
    | succ r ihr =>
      intro hr
      obtain ⟨q, h1, h2⟩ := ihr (by omega)
      obtain ⟨q', u, c, g1, _, g3, c10, q10, g5, g6⟩ := h.first (r := r) (by omega) (k + 1)
      rw [h1] at g1
      cases g1
      refine ⟨_, g5, ?_⟩
      show (goN R ((k + 1) * W.length + r) p).bind (stp R) = _
      rw [h2]
      show stp R _ = _
      rw [stp_of g6 g3]
      congr 1
      exact mvd_comm q10 d10 c10
theorem LoopR.ever (N : Nat) : ∃ q, P[N % W.length]? = some q ∧ goN R N p = some (mvd q d ((N / W.length : Nat) : Int)) := by
  have hw := h.w1
  have hlt : N % W.length < W.length := Nat.mod_lt _ (by omega)
  obtain ⟨q, h1, h2⟩ := h.go (N / W.length) (N % W.length) (by omega)
  refine ⟨q, h1, ?_⟩
  rw [Nat.mul_comm, Nat.div_add_mod] at h2
  exact h2
end
end Mth

set_option Elab.async false
set_option linter.all false
set_option maxRecDepth 100000
set_option maxHeartbeats 4000000
/-! // by divisors up to 2 ** 64 -/
namespace L2
open PySem PySem.Spec PyProof.Rows
section
variable {X : Cx}
end
end L2

set_option linter.all false
/-! a trail that loops, gone once more: it loops from there too -/
namespace Mth
section
variable {R P : List (List Int)} {W : List Nat} {p d : List Int} (h : LoopR R P W p d)
include h
theorem LoopR.p0 : P[0]? = some p := by
  obtain ⟨q0, g1, g2, _, _⟩ := h.at (r := 0) (Nat.zero_le _)
  have e0 : q0 = p := (Option.some.inj g2).symm
  rw [← e0]
  exact g1
theorem LoopR.goj (j i : Nat) (hi : i ≤ W.length) : ∃ q, P[i]? = some q ∧ goN R i (mvd p d j) = some (mvd q d j) := by
  obtain ⟨q, h1, h2⟩ := h.go j i hi
  obtain ⟨q0, g1, g2⟩ := h.go j 0 (Nat.zero_le _)
  rw [h.p0] at g1
  cases g1
  rw [Nat.add_zero] at g2
  rw [goN_sumB, g2] at h2
  exact ⟨q, h1, h2⟩
theorem LoopR.shift (j : Nat) : LoopR R (P.map fun q => mvd q d (j : Int)) W (mvd p d (j : Int)) d := by
  have d10 := h.d10
  obtain ⟨hd, dn, dl⟩ := h.dd
  have p10' := mvd_length (m := (j : Int)) h.p10 d10
  have pn' : nn (mvd p d (j : Int)) = true := by
    obtain ⟨q0, g1, g2⟩ := h.go j 0 (Nat.zero_le _)
    rw [h.p0] at g1
    cases g1
    exact (goN_ok h.r10 h.p10 h.pn g2).2
  have pl : P.length = W.length + 1 := by rw [h.path.1, h.wt]
  have wt' : trl R W.length (mvd p d (j : Int)) = W := by
    refine List.ext_getElem? fun i => ?_
    rw [trl_get]
    by_cases hi : i < W.length
    · obtain ⟨q, h1, h2⟩ := h.goj j i (by omega)
      obtain ⟨q', u, c, g1, gw, _, _, _, _, g6⟩ := h.first hi j
      rw [h1] at g1
      cases g1
      rw [if_pos hi, h2, gw]
      exact g6
    · rw [if_neg hi, List.getElem?_eq_none (by omega)]
  refine ⟨h.r10, p10', pn', ⟨?_, fun i hi => ?_⟩, wt', h.w1, ?_⟩
  · rw [wt', List.length_map, pl]
  · rw [List.length_map, pl] at hi
    obtain ⟨q, h1, h2⟩ := h.goj j i (by omega)
    rw [List.getElem?_map, h1, h2]
    rfl
  · obtain ⟨qL, h1, _, h3, _⟩ := h.at (r := W.length) (Nat.le_refl _)
    have e0 : (P.map fun q => mvd q d (j : Int))[0]? = some (mvd p d (j : Int)) := by rw [List.getElem?_map, h.p0]; rfl
    have eL : (P.map fun q => mvd q d (j : Int))[W.length]? = some (mvd qL d (j : Int)) := by rw [List.getElem?_map, h1]; rfl
    have ed : addD (P.map fun q => mvd q d (j : Int)) W.length = d := by
      unfold addD
      rw [List.getD_eq_getElem?_getD, eL, List.getD_eq_getElem?_getD, e0]
      show mvd (mvd qL d (j : Int)) (mvd p d (j : Int)) (-1) = d
      refine ext10 (mvd_length (mvd_length h3 d10) p10') d10 fun i hi => ?_
      rw [mvd_D (mvd_length h3 d10) p10' hi, mvd_D h3 d10 hi, mvd_D h.p10 d10 hi, h.end_ h1 hi]
      omega
    have := addL_some (R := R) (P := P.map fun q => mvd q d (j : Int)) (U := W) (by rw [ed]; exact dn) (by
      rw [ed]
      refine loopB_of (fun k u p' hk hp' c hc => ?_) (by rw [List.length_map, pl]; omega)
      have hkl := (List.getElem?_eq_some_iff.mp hk).1
      obtain ⟨q, g1, _, g3, _⟩ := h.at (r := k) (by omega)
      rw [List.getElem?_map, g1] at hp'
      have e : mvd q d (j : Int) = p' := Option.some.inj hp'
      subst e
      have hs : shutB c q d = true := by
        unfold loopB at dl
        rw [List.all_eq_true] at dl
        have e1 := dl k (List.mem_range.mpr hkl)
        rw [List.getD_eq_getElem?_getD, hk, List.getD_eq_getElem?_getD, g1, List.all_eq_true] at e1
        exact e1 c hc
      unfold shutB at hs ⊢
      rw [List.any_eq_true] at hs ⊢
      obtain ⟨i, hi, hv⟩ := hs
      have hi' := List.mem_range.mp hi
      refine ⟨i, hi, ?_⟩
      rw [Bool.and_eq_true, decide_eq_true_iff, decide_eq_true_iff] at hv ⊢
      refine ⟨?_, hv.2⟩
      rw [mvd_D g3 d10 hi', hv.2]
      omega)
    rw [ed] at this
    exact this
theorem LoopR.turn (j : Nat) : goN R W.length (mvd p d (j : Int)) = some (mvd p d ((j + 1 : Nat) : Int)) := by
  obtain ⟨q, h1, h2⟩ := h.go j W.length (Nat.le_refl _)
  obtain ⟨q0, g1, g2⟩ := h.go j 0 (Nat.zero_le _)
  obtain ⟨q1, k1, k2⟩ := h.go (j + 1) 0 (Nat.zero_le _)
  rw [h.p0] at g1 k1
  cases g1
  cases k1
  rw [Nat.add_zero] at g2 k2
  rw [Nat.succ_mul] at k2
  rw [goN_sumB, g2] at k2
  exact k2
theorem LoopR.one (j : Nat) : mvd (mvd p d (j : Int)) d 1 = mvd p d ((j + 1 : Nat) : Int) := by
  have d10 := h.d10
  refine ext10 (mvd_length (mvd_length h.p10 d10) d10) (mvd_length h.p10 d10) fun i hi => ?_
  rw [mvd_D (mvd_length h.p10 d10) d10 hi, mvd_D h.p10 d10 hi, mvd_D h.p10 d10 hi, Int.natCast_add, Int.add_mul]
  omega
end
end Mth

set_option Elab.async false
set_option linter.all false
set_option maxRecDepth 100000
set_option maxHeartbeats 4000000
/-! a tuple turned about: t[::-1] -/
namespace L2
open PySem PySem.Spec PyProof.Rows
namespace HT
section
variable {prog : Program} {w : World} {A : Around} {E : Value → Shared → Prop} {s : Shared}
end
end HT
section
variable {X : Cx} {e st : Expr} {te ts : TE} {pos p2 : Pos}
end
end L2
namespace L2
open PySem PySem.Spec PyProof.Rows
section
variable {X : Cx} {e st : Expr} {te ts : TE} {pos p2 : Pos}
end
end L2

set_option Elab.async false
set_option linter.all false
set_option maxRecDepth 100000
set_option maxHeartbeats 4000000
/-! != of anything flat, a tuple or a list with a text; of a list with the empty one -/
namespace L2
open PySem PySem.Spec PyProof.Rows
section
variable {X : Cx}
end
end L2

set_option Elab.async false
set_option linter.all false
set_option maxRecDepth 100000
set_option maxHeartbeats 4000000
/-! enumerate(l, start=k); enumerate of a tuple; list(reversed(l)) -/
namespace Enk
open PySem PyProof.Rows
section
variable {prog : Program} {w : World} {A : Around} {E : Value → Shared → Prop} {s : Shared}
abbrev kwS (k : Int) (t : Tok) : List (Str × Value) := [(Str.ofString "start", .int k t)]
theorem typeCall (a : Value) (k : Int) (t : Tok) : checkTypeCall "enumerate" ⟨[a], kwS k t⟩ = pure () := by kernel_rfl
theorem newCall (a : Value) (k : Int) (t : Tok) : checkBuiltinCall "enumerate.__new__" ⟨[.type "enumerate", a], kwS k t⟩ = pure () := by kernel_rfl
theorem initArgs (a b : Value) (k : Int) (t : Tok) : argsOk "object.__init__" ⟨[a, b], kwS k t⟩ := by
  unfold argsOk
  rw [signature?_of (id := "object.__init__") (n := ['_', '_', 't', 'i', 'n', 'i', '_', '_']) (o := ['t', 'c', 'e', 'j', 'b', 'o']) (by kernel_rfl) F.owner_object]
  kernel_rfl
open AutoSeq1 (wpAny_loadPart')
theorem newK (l : Addr) (items : Array Value) (n : Nat) (k : Int) (t : Tok) (hk : Builtin.SmallTypes.fitsIndex k = true) :
    Meets (Builtin.«enumerate.__new__» ⟨[.type "enumerate", .ref l], kwS k t⟩) (fun _ R s => s.heap.get? l = some { cls := .type "list", dict := none, data := .seq items n, slots := #[] } ∧
      R (.ok (.ret (.ref (s.heap.push { cls := .type "list_iterator", data := .fields #[.ref l, .int 0 0] }).objs.size)))
        { s with heap := (s.heap.push { cls := .type "list_iterator", data := .fields #[.ref l, .int 0 0] }).push { cls := .type "enumerate", data := .fields #[.none, .bool false, .ref s.heap.objs.size, rawInt k, .none, .none] } }) :=
  .of_wp fun prog w A R s h => by
    obtain ⟨hp, g, d, tk, os⟩ := s; obtain ⟨hl, h⟩ := h
    have hsub := sub_enumerate
    have nk : ¬ (!Builtin.SmallTypes.fitsIndex k) = true := by rw [hk]; decide
    have hL : Heap.IsList (Shared.heap ⟨hp, g, d, tk, os⟩) l items := ⟨_, hl, rfl, n, rfl⟩
    wp_walk using wpAny_loadPart' hl
    refine wpAny_stack_any fun st => wpAny_pure ?_
    split
    · rename_i c _ _ _ _ _
      cases (c == Value.type "enumerate")
      · wp_walk using wpAny_loadPart' hl, wpAny_pyIter_list hL
        exact ⟨_, rfl, h⟩
      · wp_walk using wpAny_loadPart' hl, wpAny_pyIter_list hL
        exact ⟨_, rfl, h⟩
    · wp_walk using wpAny_loadPart' hl, wpAny_pyIter_list hL
      exact ⟨_, rfl, h⟩
theorem initMeets (self a : Value) (k : Int) (t : Tok) :
    Meets (Builtin.«object.__init__» ⟨[self, a], kwS k t⟩) (fun _ R s => s.TypeIs self "enumerate" ∧ R (.ok (.ret .none)) s) := by
  have hl := F.called_enumerate.init.lookup
  have hm := F.called_enumerate.made
  have hne : (some "enumerate.__new__" != some "object.__new__") = true := by decide
  refine Meets.of_wp fun prog w A R s hs => ?_
  obtain ⟨hT, hq⟩ := hs
  repeat (any_goals (first | assumption | wp_step))
  exact ⟨_, rfl, hq⟩
theorem call_K {l : Addr} {items : Array Value} {n : Nat} {k : Int} {t : Tok} {Q : Value → Shared → Prop} (hk : Builtin.SmallTypes.fitsIndex k = true)
    (hl : s.heap.get? l = some { cls := .type "list", dict := none, data := .seq items n, slots := #[] })
    (h : ∀ h', IsEnum h' (s.heap.objs.size + 1) s.heap.objs.size k .none → h'.IsListIter s.heap.objs.size l 0 → h'.objs.size = s.heap.objs.size + 2 →
      (∀ b o, s.heap.get? b = some o → h'.get? b = some o) → Q (.ref (s.heap.objs.size + 1)) { s with heap := h' }) :
    wpAny (model prog w) A (call (.type "enumerate") [.ref l] (kwS k t)) Q E s := by
  have ft := F.called_enumerate
  obtain ⟨c, tl, hmro⟩ := ft.mro
  have hmade := ft.made
  have hsub := ft.sub
  have hct := typeCall (.ref l) k t
  refine wpAny_call (codeAny_of_tree ?_)
  show wpAny _ _ (callAny (.type "enumerate") _) _ _ _
  refine wpAny_pure ⟨Code.quiet_builtin _ (by decide +kernel), codeAny_builtin F.entry_type_call ?_⟩
  rw [Around.under_plain (weight_type_call_type "enumerate" [.ref l] (kwS k t)) (units_type_call_type "enumerate" [.ref l] (kwS k t))]
  have h1 := ft.notType
  have h2 := ft.canCreate
  repeat (any_goals (first | assumption | wp_step))
  refine codeAny_mono (codeAny_call_builtin (R := wants (fun obj s₁ => s₁.TypeIs obj "enumerate" ∧ Q obj s₁) E) ft.plain F.entry_enumerate_new (wpAny_of_eq (newCall (.ref l) k t) (newK l items n k t hk prog w A.in1 _ s ⟨hl, ?_⟩))) fun r s₁ hr => ?_
  · have hz : (s.heap.push { cls := .type "list_iterator", data := .fields #[.ref l, .int 0 0] }).objs.size = s.heap.objs.size + 1 := Heap.size_push ..
    show _ ∧ _
    rw [hz]
    have he : IsEnum ((s.heap.push { cls := .type "list_iterator", data := .fields #[.ref l, .int 0 0] }).push
        { cls := .type "enumerate", data := .fields #[.none, .bool false, .ref s.heap.objs.size, rawInt k, .none, .none] }) (s.heap.objs.size + 1) s.heap.objs.size k .none := by
      have := Heap.get?_push_size (s.heap.push { cls := .type "list_iterator", data := .fields #[.ref l, .int 0 0] })
        (o := { cls := .type "enumerate", data := .fields #[.none, .bool false, .ref s.heap.objs.size, rawInt k, .none, .none] }) rfl
      rw [hz] at this; exact this
    exact ⟨⟨_, he, rfl⟩, h _ he ⟨_, Heap.get?_push_of_some _ (Heap.get?_push_size _ rfl), rfl, rfl⟩ (by rw [Heap.size_push, hz]) fun b o x => Heap.get?_push_of_some _ (Heap.get?_push_of_some _ x)⟩
  · cases r with
    | error e => exact hr
    | ok fl =>
      cases fl with
      | ret obj =>
        obtain ⟨hT, hq⟩ := hr
        have hli := ft.init.lookup
        have hbi := ft.init.bind obj
        have hok := initArgs obj (.ref l) k t
        repeat (any_goals (first | assumption | wp_step))
        refine codeAny_mono (codeAny_call_builtin (R := wants (fun r s₂ => r = .none ∧ Q obj s₂) E) ft.init.plain F.entry_object_init (ft.init.check _ _ _ _ _ _ _ _ hT hok (initMeets obj (.ref l) k t prog w A.in1 _ s₁ ⟨hT, rfl, hq⟩))) fun r₂ s₂ hr₂ => ?_
        cases r₂ with
        | error e => exact hr₂
        | ok fl₂ =>
          cases fl₂ with
          | ret r =>
            obtain ⟨rfl, hq⟩ := hr₂
            repeat (any_goals (first | assumption | wp_step))
          | _ => exact hr₂.elim
      | _ => exact hr.elim
theorem shift {it : Addr} {fp : List Addr} {n : Nat} {P : Nat → Value → Prop} {St : Nat → Heap → Prop} (D : Draws prog w A it fp n P St) (k : Nat) : Draws prog w A it fp (k + n) (fun j x => P (j - k) x) (fun j h => k ≤ j ∧ St (j - k) h) where
  live := fun j h st => D.live _ _ st.2
  frame := fun j h h' st hk => ⟨st.1, D.frame _ _ _ st.2 hk⟩
  item := fun j s Q E hj st hQ => D.item (j - k) s Q E (by have := st.1; omega) st.2 fun x h' tk p st' sb => hQ x h' tk p ⟨by have := st.1; omega, by rw [show j + 1 - k = j - k + 1 by have := st.1; omega]; exact st'⟩ sb
  done := fun s Q E st hE => D.done s Q E (by have := st.2; rwa [Nat.add_sub_cancel_left] at this) hE
theorem drawsT (hh : A.handled = none) (it l : Addr) (hne : l ≠ it) (items : Array Value) :
    Draws prog w A it [it, l] items.size (fun i v => items[i]? = some v) (fun i h => h.IsTupleIter it l i ∧ h.IsTuple l items) where
  live := fun _ _ st => let ⟨o, ho, _⟩ := st.1; ⟨o, ho⟩
  frame := fun _ _ _ st hk => ⟨by obtain ⟨o, ho, r⟩ := st.1; exact ⟨o, hk it (by simp) o ho, r⟩, by obtain ⟨o, ho, r⟩ := st.2; exact ⟨o, hk l (by simp) o ho, r⟩⟩
  item := fun i s Q E hi st hQ => by
    refine Zt.pull st.1 st.2 (x := items[i]) (by simp [hi]) fun h' hit' hs' => ?_
    refine hQ _ h' s.toks (by simp [hi]) ⟨hit', ?_⟩ hs'
    obtain ⟨o, ho, r⟩ := st.2
    exact ⟨o, hs'.extBut l o hne ho, r⟩
  done := fun s Q E st hE => Zt.pull_end hh st.1 st.2 (by simp) hE
end
end Enk

set_option Elab.async false
set_option linter.all false
set_option maxRecDepth 100000
set_option maxHeartbeats 4000000
/-! enumerate(l, start=k) and enumerate of a tuple, walked; list(reversed(l)) -/
namespace L2
open PySem PySem.Spec PyProof.Rows
/-- a list walked with numbers from k on -/
def ItK (a : Addr) (k : Nat) : It :=
  ⟨fun i H => ∃ xs x, H a = some (.lst xs) ∧ xs[i]? = some x,
   fun i H v H' => ∃ p, H p = none ∧ v = .ref p ∧ ∃ x, H' = upd H p (.tup [.int ((k + i : Nat) : Int), x]) ∧ ∀ xs, H a = some (.lst xs) → xs[i]? = some x,
   fun i H => ∃ xs, H a = some (.lst xs) ∧ xs.length ≤ i⟩
theorem turn_enumK {P : Program} {w : World} {K : PySem.W.Frag} {tg : Expr} (htg : tupleTg tg = true) {e it a : Addr} (k : Nat) (hne : e ≠ it) (hea : e ≠ a) (hia : it ≠ a) :
    Turn P w K tg (ItK a k) [e, it] e (fun i h => (∃ old, IsEnum h e it ((k + i : Nat) : Int) old) ∧ h.IsListIter it a i) where
  mem := List.mem_cons_self
  obj := fun i h st c hc => by
    obtain ⟨⟨old, h1⟩, ⟨o4, h4, _, d4⟩⟩ := st
    have nof : ∀ {o : Obj} {vs : Array Value}, o.data = .fields vs → ∀ v, o.data ≠ .cell v := fun e v q => by rw [e] at q; cases q
    simp only [List.mem_cons, List.not_mem_nil, or_false] at hc
    rcases hc with rfl | rfl
    · exact ⟨_, h1, nof rfl⟩
    · exact ⟨_, h4, nof d4⟩
  keep := fun i h h' st k => by
    obtain ⟨⟨old, h1⟩, ⟨o4, h4, r4⟩⟩ := st
    exact ⟨⟨old, k _ (by simp) _ h1⟩, ⟨o4, k _ (by simp) _ h4, r4⟩⟩
  item := by
    intro X hP hw hK hc i pins s σ H E I hf st hg
    subst hP hw hK
    obtain ⟨⟨old, h1⟩, h4⟩ := st
    obtain ⟨xs, x, qa, hx⟩ := hg
    obtain ⟨z, its, n, rv, hlen, e0⟩ := I.lstM qa
    obtain ⟨ux, eux, rux⟩ := rv.get hx
    have hL : s.heap.IsList a its.toArray := ⟨_, e0, rfl, n, rfl⟩
    have hi : i < its.toArray.size := by
      obtain ⟨hh, _⟩ := List.getElem?_eq_some_iff.mp eux
      simpa using hh
    have D := Enk.shift (prog := X.prog) (w := X.w) (A := X.A.in1) (Draws.list (show X.A.in1.handled = none from I.ok.hd hc) it a hia.symm its.toArray) k
    refine wpAny_pyNext_enum_itemD (i := k + i) D h1 ⟨by omega, by rw [Nat.add_sub_cancel_left]; exact ⟨h4, hL⟩⟩ (by omega) hne (by simp [hne, hea]) fun ux' g tk hP b1 b2 b3 b4 b5 => ?_
    rw [Nat.add_sub_cancel_left] at hP
    have hu : ux' = ux := by
      have h5 : its.toArray[i]? = some ux := by simpa using eux
      rw [h5] at hP
      exact (Option.some.inj hP).symm
    subst hu
    refine ⟨_, rfl, ?_⟩
    have elt : e < s.heap.objs.size := Heap.lt_size h1
    cases tg with
    | Tuple es kk pp =>
      refine wpAny_letOwnedTupleGo_enum b1 fun g' c1 sb => ?_
      have new : g'.get? s.heap.objs.size = some { cls := .type "tuple", data := .seq #[.int ((k + i : Nat) : Int) tk, ux'] } := sb.extBut _ _ (Nat.ne_of_gt elt) b3
      have I1 : Inv X pins σ (upd H s.heap.objs.size (.tup [.int ((k + i : Nat) : Int), x])) { s with heap := g', toks := tk + 1 } := by
        refine I.turnedNew (t' := tk + 1) (L := [e, it]) (fun c o hcn eo => ?_) hf (Nat.le_refl _) ⟨by show 2 ≤ sizeLine; decide, [.int ((k + i : Nat) : Int) tk, ux'], .cons ⟨_, rfl⟩ (.cons rux .nil), ⟨_, new, rfl, 0, rfl⟩⟩
        simp only [List.mem_cons, List.not_mem_nil, or_false, not_or] at hcn
        exact sb.extBut c o hcn.1 (b5 c o hcn.1 hcn.2 eo)
      have b2' : g.IsListIter it a (i + 1) := by
        have := b2.2.1
        rwa [show k + i + 1 - k = i + 1 by omega] at this
      refine ⟨.ref s.heap.objs.size, _, I1, rfl, ⟨_, I.fresh, rfl, x, rfl, fun xs' q1 => ?_⟩, ⟨⟨ux', ?_⟩, b2'.extBut sb.extBut hne.symm⟩, fun c hcm => ?_⟩
      · rw [qa] at q1; cases q1; exact hx
      · rw [show ((k + (i + 1) : Nat) : Int) = ((k + i : Nat) : Int) + 1 by omega]; exact c1
      · obtain ⟨o, eo⟩ : ∃ o, s.heap.get? c = some o := by
          simp only [List.mem_cons, List.not_mem_nil, or_false] at hcm
          rcases hcm with rfl | rfl
          · exact ⟨_, h1⟩
          · obtain ⟨o4, g4, _⟩ := h4
            exact ⟨_, g4⟩
        rw [upd_ne (Nat.ne_of_lt (Heap.lt_size eo))]
        exact (hf c hcm).1
    | _ => exact absurd (show false = true from htg) Bool.false_ne_true
  done := by
    intro X hP hw hK hc i pins s σ H E I hf st hg
    subst hP hw hK
    obtain ⟨⟨old, h1⟩, h4⟩ := st
    obtain ⟨xs, qa, hl⟩ := hg
    obtain ⟨z, its, n, rv, hlen, e0⟩ := I.lstM qa
    have hL : s.heap.IsList a its.toArray := ⟨_, e0, rfl, n, rfl⟩
    have hT : s.TypeIs (.ref e) "enumerate" := ⟨_, h1, rfl⟩
    unfold pyNext
    refine wpAny_bind (wpAny_attempt (wpAny_callSpecial?_slot (name := Str.ofString "__next__") hT F.slot_enumerate_next
      (wpAny_call_entry F.slot_enumerate_next hT F.entry_enumerate_next ?_ (F.args_enumerate_next_1 _))))
    show wpAny _ _ (field (.ref e) 2 >>= _) _ _ _
    refine wpAny_bind (wpAny_field h1 rfl (x := .ref it) rfl ?_)
    refine wpAny_bind (wpAny_nextOf_list_end (I.ok.hd hc) h4 hL (by simp; omega) fun h' x he' hx' => ?_)
    obtain ⟨o, ho, hc'⟩ := hx'
    refine wpAny_bind (wpAny_isInstance (T := "StopIteration") (b := true) ⟨o, ho, hc'⟩ isSubtype_stop ?_)
    refine wpAny_pure ⟨rfl, ?_⟩
    refine I.turnedL (t' := s.toks) (L := [e, it]) (fun c o hcn eo => ?_) hf
    simp only [List.mem_cons, List.not_mem_nil, or_false, not_or] at hcn
    exact he' c o hcn.2 eo
  self := fun _ _ _ _ _ st h => by
    obtain ⟨⟨old, h1⟩, _⟩ := st
    exact wpAny_pyIter_enum h1 h
end L2

set_option Elab.async false
set_option linter.all false
set_option maxRecDepth 100000
set_option maxHeartbeats 4000000
/-! list(reversed(l)) -/
namespace Rvl
open PySem PyProof.Rows
theorem no_len : typeLookup (.type "list_reverseiterator") (Str.ofString "__len__") = pure none := by rw [typeLookup_type, builtinLookup_eq_fast]; kernel_rfl
theorem has_hint : typeLookup (.type "list_reverseiterator") (Str.ofString "__length_hint__") = pure (some (.builtin "list_reverseiterator.__length_hint__")) := by rw [typeLookup_type, builtinLookup_eq_fast]; kernel_rfl
theorem sub_self : isSubtype (.type "list_reverseiterator") (.type "list_reverseiterator") = pure true := by rw [isSubtype_type]; kernel_rfl
section
variable {prog : Program} {w : World} {A : Around} {E : Value → Shared → Prop} {s : Shared}
abbrev PR (items : Array Value) : Nat → Value → Prop := fun i v => items[items.size - 1 - i]? = some v
theorem extend {R : Result → Shared → Prop} (hh : A.handled = none) (I l : Addr) (hne : l ≠ I) (items : Array Value) (S : Addr) (res : Value) (c₀ : Nat) (hS : s.heap.get? S = some { cls := .type "list", data := .seq #[] c₀ })
    (hSI : S ≠ I) (hSl : S ≠ l) (hI : s.heap.IsRevIter I l ((items.size : Int) - 1)) (hl : s.heap.IsList l items)
    (hR : ∀ h' tk acc' c', (∀ b o, b ≠ S → b ≠ I → s.heap.get? b = some o → h'.get? b = some o) → h'.get? S = some { cls := .type "list", dict := none, data := .seq acc' c', slots := #[] } →
      ItemsOf (PR items) acc' items.size → R (.ok (.ret res)) { s with heap := h', toks := tk }) (hn : items.size ≤ sizeLine) :
    wpAny (model prog w) A.in1 (Builtin.List.listExtendWith (.ref S) (.ref I) res)
      (fun fin s' => match fin with | .done f => R (.ok f) s' | .again c' => c'.quiet = true ∧ codeAny (model prog w) A c' R s') (fun e s' => R (.error e) s') s := by
  have hSf : S ∉ [I, l] := by simp [hSI, hSl]
  have hT := hI.typeIs
  unfold Builtin.List.listExtendWith
  refine wpAny_bind (wpAny_typeOf hT ?_)
  have h1 : Builtin.List.listSameRef (.ref S) (.ref I) = false := by simp [Builtin.List.listSameRef, hSI]
  have h2 : (Value.type "list_reverseiterator" == Value.type "list") = false := by decide
  have h3 : (Value.type "list_reverseiterator" == Value.type "tuple") = false := by decide
  simp only [h1, h2, h3, Bool.or_false, Bool.false_eq_true, if_false]
  refine wpAny_bind (wpAny_pyIter_revIter hI ?_)
  refine wpAny_bind (wpAny_holding ?_)
  unfold Builtin.List.listLengthHint
  refine wpAny_bind (wpAny_specialOf hT no_len ?_)
  show wpAny _ A.in1 (specialOf (Value.ref I) (Str.ofString "__length_hint__") >>= _) _ _ _
  refine wpAny_bind (wpAny_specialOf hT has_hint ?_)
  wp_delta
  refine wpAny_bind (wpAny_isInstance (T := "list_reverseiterator") (v := .ref I) (b := true) hT sub_self ?_)
  rw [if_neg (by decide : ¬ (!true) = true)]
  dsimp only
  rw [if_pos (by decide +kernel)]
  rw [if_neg (by decide +kernel)]
  refine wpAny_pure ?_
  rw [if_neg (by decide +kernel)]
  have W := (Walks.listRev (prog := prog) (w := w) (A := A.in1) hh I l hne items).toS
  refine wpAny_pure ⟨plainId_quiet F.plain_extend_loop _, codeAny_extend_loopS W hn _ hSf _ items.size 0 _ _ _ rfl (Nat.zero_le _) ⟨Nat.zero_le _, by simpa using hI, hl⟩ hS (ItemsOf.nil _) fun s' acc' c' hm hS' hacc => ?_⟩
  rw [Moved.eq_with hm]
  refine hR s'.heap s'.toks acc' c' (fun b ob hb hbI e => hm.heap b ob (fun hmem => ?_) e) hS' hacc
  rcases List.mem_cons.mp hmem with e' | hmem
  · exact hb e'
  · exact hbI (List.mem_singleton.mp hmem)
theorem init {R : Result → Shared → Prop} (hh : A.handled = none) (I l : Addr) (hne : l ≠ I) (items : Array Value) (S : Addr) (hS : s.heap.get? S = some { cls := .type "list", data := .seq #[] })
    (hSI : S ≠ I) (hSl : S ≠ l) (hI : s.heap.IsRevIter I l ((items.size : Int) - 1)) (hl : s.heap.IsList l items)
    (hR : ∀ h' tk acc' c', (∀ b o, b ≠ S → b ≠ I → s.heap.get? b = some o → h'.get? b = some o) → h'.get? S = some { cls := .type "list", dict := none, data := .seq acc' c', slots := #[] } →
      ItemsOf (PR items) acc' items.size → R (.ok (.ret .none)) { s with heap := h', toks := tk }) (hn : items.size ≤ sizeLine) :
    wpAny (model prog w) A.in1 (Builtin.«list.__init__» ⟨[.ref S, .ref I], []⟩)
      (fun fin s' => match fin with | .done f => R (.ok f) s' | .again c' => c'.quiet = true ∧ codeAny (model prog w) A c' R s') (fun e s' => R (.error e) s') s := by
  show wpAny _ _ (do let old ← Builtin.List.listItems (.ref S); Builtin.List.listUpdate (.ref S) (fun _ => #[]); letGo old.toList.reverse; Builtin.List.listExtendWith (.ref S) (.ref I) .none) _ _ s
  refine wpAny_bind ?_
  unfold Builtin.List.listItems
  refine wpAny_bind (wpAny_seqItems hS rfl (wpAny_pure ?_))
  show wpAny _ _ (updateSeq S (fun _ => #[]) >>= fun _ => letGo (#[] : Array Value).toList.reverse >>= fun _ => Builtin.List.listExtendWith (.ref S) (.ref I) .none) _ _ s
  refine wpAny_bind (wpAny_updateSeq hS rfl ?_)
  have hS₂ := Heap.get?_update_self (Obj.mapSeq (fun _ => (#[] : Array Value))) hS rfl
  have oth : ∀ b o, b ≠ S → s.heap.get? b = some o → (s.heap.update S (Obj.mapSeq (fun _ => (#[] : Array Value)))).get? b = some o :=
    fun b o hb e => (Heap.get?_update_other _ _ (Ne.symm hb)).trans e
  refine wpAny_bind (wpAny_letGo ?_)
  refine extend hh I l hne items S .none _ hS₂ hSI hSl (hI.at fun o e => oth _ o hSI.symm e) (hl.at fun o e => oth _ o hSl.symm e) (fun h' tk acc' c' hk hS' hacc => ?_) hn
  exact hR h' tk acc' c' (fun b o hb hbI e => hk b o hb hbI (oth b o hb e)) hS' hacc
theorem call_it {I l : Addr} {items : Array Value} {Q : Value → Shared → Prop} (hh : A.handled = none) (hne : l ≠ I) (hI : s.heap.IsRevIter I l ((items.size : Int) - 1)) (hl : s.heap.IsList l items) (hn : items.size ≤ sizeLine)
    (hQ : ∀ h' tk acc' c', (∀ b o, b ≠ I → s.heap.get? b = some o → h'.get? b = some o) →
      h'.get? s.heap.objs.size = some { cls := .type "list", dict := none, data := .seq acc' c', slots := #[] } → ItemsOf (PR items) acc' items.size → Q (.ref s.heap.objs.size) { s with heap := h', toks := tk }) :
    wpAny (model prog w) A (call (.type "list") [.ref I]) Q E s := by
  refine callType_codes (Q₁ := fun obj s₁ => obj = .ref s.heap.objs.size ∧ s₁ = { s with heap := s.heap.push { cls := .type "list", data := .seq #[] } }) F.called_list (F.typeCall_list_1 _) F.entry_list_init
    (code_list_new _ ⟨rfl, rfl⟩) fun obj s₁ h₁ => ?_
  obtain ⟨rfl, rfl⟩ := h₁
  have hS : (s.heap.push { cls := .type "list", data := .seq #[] }).get? s.heap.objs.size = some { cls := .type "list", data := .seq #[] } := Heap.get?_push_size _ rfl
  have lt : ∀ {b : Addr} {o : Obj}, s.heap.get? b = some o → s.heap.objs.size ≠ b := fun e => (Nat.ne_of_lt (Heap.lt_size e)).symm
  obtain ⟨oI, eI, _⟩ := id hI
  obtain ⟨ol, el, _⟩ := id hl
  refine ⟨⟨_, hS, rfl⟩, F.args_list_init_2 _ _, init (A := A.in1) hh I l hne items _ hS (lt eI) (lt el) (hI.at fun o e => Heap.get?_push_of_some _ e) (hl.at fun o e => Heap.get?_push_of_some _ e) (fun h' tk acc' c' hk hS' hacc => ?_) hn⟩
  exact ⟨rfl, hQ h' tk acc' c' (fun b o hb e => hk b o (lt e).symm hb (Heap.get?_push_of_some _ e)) hS' hacc⟩
end
end Rvl
namespace L2
open PySem PySem.Spec PyProof.Rows
section
variable {X : Cx}
def tListRev (ta : TA) : TE := fun σ H Q => ta σ H fun vs H1 => ∃ a xs, vs = [.ref a] ∧ H1 a = some (.lst xs) ∧ NewA (.lst xs.reverse) H1 Q
theorem pe_listRev {e1 : Expr} {ta : TA} {p p' pos pos' : Pos} (hc : X.calm = true) (hg : Gl X "reversed") (hm : X.mg "reversed" = none) (hg' : Gl X "list") (hm' : X.mg "list" = none) (ha : PA X [e1] ta) (hs : starEach [e1] X.env = [(false, eval e1 X.env)] := by rfl)
    (hb : bootBuiltins "reversed" = some (.type "reversed") := by decide +kernel) (hb' : bootBuiltins "list" = some (.type "list") := by decide +kernel) : PE X (.Call (.Name "list" p') [.Call (.Name "reversed" p) [e1] [] pos] [] pos') (tListRev ta) := by
  intro pins s σ H R I h
  refine Call_ (ld_blt I hg' hm' hb' (PyProof.Rows.callWith_type1 (Calls.spliced_cons ?_) rfl rfl))
  refine Call_ (ld_blt I hg hm hb (PyProof.Rows.callWith_type1 (thn (ha pos pins s σ H _ I h) fun us s1 ⟨vs, H1, I1, r1, q1⟩ => ?_) hs rfl))
  obtain ⟨a, xs, e, qa, q⟩ := q1
  subst e
  obtain ⟨u1, rfl, ra⟩ := vals1 r1
  cases ra
  obtain ⟨z, its, n, rv, hlen, e0⟩ := I1.lstM qa
  have hL : s1.heap.IsList a its.toArray := ⟨_, e0, rfl, n, rfl⟩
  refine call_reversed_list hL ?_
  refine Calls.spliced_nil ?_
  have lt : a ≠ s1.heap.objs.size := Nat.ne_of_lt (Heap.lt_size e0)
  have hsz : its.toArray.size = its.length := List.size_toArray
  have eI : Heap.IsRevIter (s1.heap.push (revObj a ((its.toArray.size : Int) - 1))) s1.heap.objs.size a ((its.toArray.size : Int) - 1) := ⟨_, Heap.get?_push_size _ rfl, rfl, rfl⟩
  have hL' : Heap.IsList (s1.heap.push (revObj a ((its.toArray.size : Int) - 1))) a its.toArray := hL.at fun o e => Heap.get?_push_of_some _ e
  refine Rvl.call_it (I1.ok.hd hc) lt eI hL' (by omega) fun h' tk acc c' kp e hacc => ?_
  have hz : (s1.heap.push (revObj a ((its.toArray.size : Int) - 1))).objs.size = s1.heap.objs.size + 1 := Heap.size_push ..
  have hrev : acc.toList = its.reverse := by
    apply List.ext_getElem?
    intro j
    rcases Nat.lt_or_ge j its.length with hj | hj
    · have hja : j < acc.size := by rw [hacc.1, hsz]; exact hj
      have h1 := hacc.2 j acc[j] (Array.getElem?_eq_getElem hja)
      rw [List.getElem?_reverse hj]
      have h2 : its.toArray[its.length - 1 - j]? = some acc[j] := by rw [← hsz]; exact h1
      rw [show its[its.length - 1 - j]? = some acc[j] by simpa using h2]
      simp [hja]
    · rw [List.getElem?_eq_none (by rw [Array.length_toList, hacc.1, hsz]; exact hj), List.getElem?_eq_none (by rw [List.length_reverse]; exact hj)]
  have hv : Vals xs.reverse acc.toList := by rw [hrev]; exact rv.reverse
  rw [hz] at e ⊢
  refine ⟨.ref (s1.heap.objs.size + 1), _, I1.laid (a := s1.heap.objs.size + 1) (t' := tk) (fun b o eb => kp b o (Nat.ne_of_lt (Heap.lt_size eb)) (Heap.get?_push_of_some _ eb)) (Nat.le_succ _) (show ObjOk X.prog X.w _ h' _ (.lst xs.reverse) from ⟨by rw [List.length_reverse]; exact z, acc.toList, c', hv, by rw [Array.toArray_toList]; exact e⟩), rfl, q.at _ (I1.hok.fresh (Nat.le_succ _))⟩
theorem qe_listRev {e1 : Expr} {ta : TA} {p p' pos pos' : Pos} (hc : X.calm = true) (hg : Gl X "reversed") (hm : X.mg "reversed" = none) (hg' : Gl X "list") (hm' : X.mg "list" = none) (ha : QA X [e1] ta) (hs : starEach [e1] X.env = [(false, eval e1 X.env)] := by rfl)
    (hb : bootBuiltins "reversed" = some (.type "reversed") := by decide +kernel) (hb' : bootBuiltins "list" = some (.type "list") := by decide +kernel) : QE X (.Call (.Name "list" p') [.Call (.Name "reversed" p) [e1] [] pos] [] pos') (tListRev ta) := ⟨pe_listRev hc hg hm hg' hm' ha.o hs hb hb'⟩
end
end L2

set_option Elab.async false
set_option linter.all false
set_option maxRecDepth 100000
set_option maxHeartbeats 4000000
/-! enumerate(l, start=k), enumerate of a tuple, in a for -/
namespace Enk
open PySem PyProof.Rows
section
variable {M : Model} {A : Around} {E : Value → Shared → Prop} {s : Shared} {env : Env}
theorem callWith_tyK {pos : Pos} {T : String} {e : Expr} {rest : List Expr} {kws : List Keyword} {Q : Value → Shared → Prop}
    (h : wpAny M A (spliced (backTo pos (starEach (e :: rest) env))) (fun vs s₁ => wpAny M A (evalAll ((backToKw pos (keywordEach kws env)).map (·.2)))
      (fun kvs s₂ => wpAny M A (call (.type T) vs (((backToKw pos (keywordEach kws env)).filterMap (·.1)).zip kvs)) Q E s₂) E s₁) E s)
    (he : backTo pos (starEach (e :: rest) env) = (false, eval e env) :: backTo pos (starEach rest env) := by rfl)
    (hplain : (backTo pos (starEach (e :: rest) env)).any (·.1) = false := by rfl)
    (hall : (backToKw pos (keywordEach kws env)).all (·.1.isSome) = true := by rfl)
    (hkw : (backToKw pos (keywordEach kws env)).any (·.1.isNone) = false := by rfl) :
    wpAny M A (callWith pos (.type T) [] (backTo pos (starEach (e :: rest) env)) (backToKw pos (keywordEach kws env))) Q E s := by
  have h' : wpAny M A (evalArgs (.type T) true (backTo pos (starEach (e :: rest) env)) (backToKw pos (keywordEach kws env))) (fun a s₁ => wpAny M A (call (.type T) ([] ++ a.pos) a.kw) Q E s₁) E s := by
    rw [he] at h ⊢
    exact evalArgs_kwB hall h
  unfold callWith
  refine wpAny_bind (wpAny_holding (wpAny_mono h' (fun a s₁ h₁ => wpAny_bind (wpAny_standAt ?_)) fun _ _ x => x))
  simp only [hplain, hkw, Bool.or_false]
  refine wpAny_bind (wpAny_pure ?_)
  exact wpAny_bind (wpAny_mono h₁ (fun r s₂ hr => wpAny_bind (wpAny_holding (wpAny_point (wpAny_pure hr)))) fun _ _ x => x)
end
end Enk
namespace L2
open PySem PySem.Spec PyProof.Rows
section
variable {X : Cx} {tg : Expr}
def iEnumK (ta : TA) (tk : TE) : TI := fun σ H R => ta σ H fun vs H1 => tk σ H1 fun v H2 => ∃ a xs k, vs = [.ref a] ∧ v = .int ((k : Nat) : Int) ∧ k < 2 ^ 62 ∧ H2 a = some (.lst xs) ∧ R (ItK a k) H2
theorem pi_enumK {e1 e2 : Expr} {ta : TA} {te : TE} {p pos kpos : Pos} (htg : tupleTg tg = true) (hg : Gl X "enumerate") (hm : X.mg "enumerate" = none) (ha : PA X [e1] ta) (hk : PE X e2 te) (hs : starEach [e1] X.env = [(false, eval e1 X.env)] := by rfl)
    (hb : bootBuiltins "enumerate" = some (.type "enumerate") := by decide +kernel) : PI X tg (.Call (.Name "enumerate" p) [e1] [⟨some "start", e2, kpos⟩] pos) (iEnumK ta te) := by
  intro pins s σ H R I h
  refine wpAny_Call_Name_kw (ld_blt I hg hm hb ?_ (by decide) (by decide))
  have e1' : backTo pos (starEach [e1] X.env) = (false, eval e1 X.env) :: backTo pos (starEach [] X.env) := by rw [hs]; rfl
  refine Enk.callWith_tyK (e := e1) (rest := []) ?_ e1' (by rw [hs]; rfl) rfl rfl
  refine thn (ha pos pins s σ H _ I h) fun us s1 ⟨vs, H1, I1, r1, q1⟩ => ?_
  refine kws_cons (thn (hk pins s1 σ H1 _ I1 q1) fun v s2 ⟨x, H2, I2, r2, q2⟩ => kws_nil ?_)
  obtain ⟨a, xs, k, e, ek, k62, qa, q⟩ := q2
  subst e
  subst ek
  obtain ⟨u1, rfl, ra⟩ := vals1 r1
  cases ra
  obtain ⟨tt, rfl⟩ := r2
  obtain ⟨z, its, n, rv, hlen, e0⟩ := I2.lstM qa
  have hfit : Builtin.SmallTypes.fitsIndex (k : Int) = true := by
    unfold Builtin.SmallTypes.fitsIndex
    simp only [Bool.and_eq_true, decide_eq_true_eq]
    omega
  refine Enk.call_K hfit e0 fun g z1 z2 z3 up => ?_
  refine wpAny_pyIter_enum z1 ?_
  have I3 : Inv X pins σ H2 { s2 with heap := g } := I2.kept (t' := s2.toks) up
  have la : a < s2.heap.objs.size := Heap.lt_size e0
  refine ⟨_, [s2.heap.objs.size + 1, s2.heap.objs.size], _, _, H2, rfl, I3, turn_enumK htg k (Nat.ne_of_gt (Nat.lt_succ_self _)) (Nat.ne_of_gt (Nat.lt_succ_of_lt la)) (Nat.ne_of_gt la), ⟨⟨_, by simpa using z1⟩, z2⟩, fun c hc => ?_, q⟩
  have big : s2.heap.objs.size ≤ c := by
    simp only [List.mem_cons, List.not_mem_nil, or_false] at hc
    rcases hc with rfl | rfl
    · exact Nat.le_add_right _ _
    · exact Nat.le_refl _
  exact I2.fpOk big (I2.hok.fresh big)
theorem qi_enumK {e1 e2 : Expr} {ta : TA} {te : TE} {p pos kpos : Pos} (htg : tupleTg tg = true) (hg : Gl X "enumerate") (hm : X.mg "enumerate" = none) (ha : QA X [e1] ta) (hk : QE X e2 te) (hs : starEach [e1] X.env = [(false, eval e1 X.env)] := by rfl)
    (hb : bootBuiltins "enumerate" = some (.type "enumerate") := by decide +kernel) : QI X tg (.Call (.Name "enumerate" p) [e1] [⟨some "start", e2, kpos⟩] pos) (iEnumK ta te) := ⟨pi_enumK htg hg hm ha.o hk.o hs hb⟩
end
theorem for_enumK {a : Addr} {k : Nat} {xs : List V} {g : TG} {tb : TS} {D : Ends} {σ : St} {H : Hp} (Pv : Nat → St → Hp → Prop) (h0 : Pv 0 σ H) (hl : ∀ i σ H, i ≤ xs.length → Pv i σ H → H a = some (.lst xs))
    (hs : ∀ i x p σ H, xs[i]? = some x → H p = none → Pv i σ H → g (.ref p) σ (upd H p (.tup [.int ((k + i : Nat) : Int), x])) fun σ2 H2 => tb { D with nx := Pv (i + 1), ct := Pv (i + 1), bk := D.nx } σ2 H2) (hd : ∀ σ H, Pv xs.length σ H → D.nx σ H) :
    ∃ W : Nat → Nat → St → Hp → Prop, (∃ m, W 0 m σ H) ∧ ∀ i m σ H, W i m σ H →
      ((ItK a k).stop i H ∧ D.nx σ H) ∨ ((ItK a k).go i H ∧ ∃ N : St → Hp → Prop, (∀ σ' H', N σ' H' → ∃ m', m' < m ∧ W (i + 1) m' σ' H') ∧ ∀ x H', (ItK a k).yld i H x H' → g x σ H' fun σ2 H2 => tb { D with nx := N, ct := N, bk := D.nx } σ2 H2) := by
  refine ⟨fun i m σ H => m = xs.length - i ∧ i ≤ xs.length ∧ Pv i σ H, ⟨_, rfl, Nat.zero_le _, h0⟩, ?_⟩
  rintro i m σ H ⟨rfl, hi, p⟩
  have qa := hl i σ H hi p
  by_cases hlt : i < xs.length
  · refine .inr ⟨⟨xs, xs[i], qa, by simp [hlt]⟩, Pv (i + 1), fun σ' H' p' => ⟨xs.length - (i + 1), by omega, rfl, hlt, p'⟩, fun v H' yv => ?_⟩
    obtain ⟨q, hq, rfl, x, rfl, hxy⟩ := yv
    exact hs i x q σ H (hxy xs qa) hq p
  · have e : i = xs.length := by omega
    refine .inl ⟨⟨xs, qa, by omega⟩, hd σ H (e ▸ p)⟩
end L2

set_option Elab.async false
set_option linter.all false
set_option maxRecDepth 100000
set_option maxHeartbeats 4000000
/-! enumerate of a tuple -/
namespace Enk
open PySem PyProof.Rows
section
variable {prog : Program} {w : World} {A : Around} {E : Value → Shared → Prop} {s : Shared}
open AutoSeq1 (wpAny_loadPart')
theorem newT (l : Addr) (items : Array Value) (n : Nat) (dct : Option Addr) (sl : Array (Option Value)) :
    Meets (Builtin.«enumerate.__new__» ⟨[.type "enumerate", .ref l], []⟩) (fun _ R s => s.heap.get? l = some { cls := .type "tuple", dict := dct, data := .seq items n, slots := sl } ∧
      R (.ok (.ret (.ref (s.heap.push { cls := .type "tuple_iterator", data := .fields #[.ref l, .int 0 0] }).objs.size)))
        { s with heap := (s.heap.push { cls := .type "tuple_iterator", data := .fields #[.ref l, .int 0 0] }).push { cls := .type "enumerate", data := .fields #[.none, .bool false, .ref s.heap.objs.size, rawInt 0, .none, .none] } }) :=
  .of_wp fun prog w A R s h => by
    obtain ⟨hp, g, d, tk, os⟩ := s; obtain ⟨hl, h⟩ := h
    have hsub := sub_enumerate
    have hL : Heap.IsTuple (Shared.heap ⟨hp, g, d, tk, os⟩) l items := ⟨_, hl, rfl, n, rfl⟩
    wp_walk using wpAny_loadPart' hl
    refine wpAny_stack_any fun st => wpAny_pure ?_
    split
    · rename_i c _ _ _ _ _
      cases (c == Value.type "enumerate")
      · wp_walk using wpAny_loadPart' hl, wpAny_pyIter_tuple hL
        exact ⟨_, rfl, h⟩
      · wp_walk using wpAny_loadPart' hl, wpAny_pyIter_tuple hL
        exact ⟨_, rfl, h⟩
    · wp_walk using wpAny_loadPart' hl, wpAny_pyIter_tuple hL
      exact ⟨_, rfl, h⟩
theorem call_T {l : Addr} {items : Array Value} {Q : Value → Shared → Prop} (hL : s.heap.IsTuple l items)
    (h : ∀ h', IsEnum h' (s.heap.objs.size + 1) s.heap.objs.size 0 .none → h'.IsTupleIter s.heap.objs.size l 0 → h'.objs.size = s.heap.objs.size + 2 →
      (∀ b o, s.heap.get? b = some o → h'.get? b = some o) → Q (.ref (s.heap.objs.size + 1)) { s with heap := h' }) :
    wpAny (model prog w) A (call (.type "enumerate") [.ref l]) Q E s := by
  obtain ⟨⟨c, dct, dt, sl⟩, hl, hc, n, hd⟩ := hL
  replace hc : c = .type "tuple" := hc
  replace hd : dt = .seq items n := hd
  subst hc hd
  refine callType_new F.called_enumerate (by decide) (F.typeCall_enumerate_1 _) (F.newCall_enumerate_1 _) (fun obj => F.args_object_init_2 obj _) F.entry_enumerate_new
    (newT l items n dct sl) ⟨hl, ?_⟩
  have hz : (s.heap.push { cls := .type "tuple_iterator", data := .fields #[.ref l, .int 0 0] }).objs.size = s.heap.objs.size + 1 := Heap.size_push ..
  show _ ∧ _
  rw [hz]
  have he : IsEnum ((s.heap.push { cls := .type "tuple_iterator", data := .fields #[.ref l, .int 0 0] }).push
      { cls := .type "enumerate", data := .fields #[.none, .bool false, .ref s.heap.objs.size, rawInt 0, .none, .none] }) (s.heap.objs.size + 1) s.heap.objs.size 0 .none := by
    have := Heap.get?_push_size (s.heap.push { cls := .type "tuple_iterator", data := .fields #[.ref l, .int 0 0] })
      (o := { cls := .type "enumerate", data := .fields #[.none, .bool false, .ref s.heap.objs.size, rawInt 0, .none, .none] }) rfl
    rw [hz] at this; exact this
  exact ⟨⟨_, he, rfl⟩, h _ he ⟨_, Heap.get?_push_of_some _ (Heap.get?_push_size _ rfl), rfl, rfl⟩ (by rw [Heap.size_push, hz]) fun b o x => Heap.get?_push_of_some _ (Heap.get?_push_of_some _ x)⟩
end
end Enk
namespace L2
open PySem PySem.Spec PyProof.Rows
/-- a tuple walked with its places -/
def ItT (K : PySem.W.Frag) (a : Addr) : It :=
  ⟨fun i H => ∃ xs x, SqT K H a xs ∧ xs[i]? = some x,
   fun i H v H' => ∃ p, H p = none ∧ v = .ref p ∧ ∃ x, H' = upd H p (.tup [.int (i : Int), x]) ∧ ∀ xs, SqT K H a xs → xs[i]? = some x,
   fun i H => ∃ xs, SqT K H a xs ∧ xs.length ≤ i⟩
theorem turn_enumT {P : Program} {w : World} {K : PySem.W.Frag} {tg : Expr} (htg : tupleTg tg = true) {e it a : Addr} (hne : e ≠ it) (hea : e ≠ a) (hia : it ≠ a) :
    Turn P w K tg (ItT K a) [e, it] e (fun i h => (∃ old, IsEnum h e it (i : Int) old) ∧ h.IsTupleIter it a i) where
  mem := List.mem_cons_self
  obj := fun i h st c hc => by
    obtain ⟨⟨old, h1⟩, ⟨o4, h4, _, d4⟩⟩ := st
    have nof : ∀ {o : Obj} {vs : Array Value}, o.data = .fields vs → ∀ v, o.data ≠ .cell v := fun e v q => by rw [e] at q; cases q
    simp only [List.mem_cons, List.not_mem_nil, or_false] at hc
    rcases hc with rfl | rfl
    · exact ⟨_, h1, nof rfl⟩
    · exact ⟨_, h4, nof d4⟩
  keep := fun i h h' st k => by
    obtain ⟨⟨old, h1⟩, ⟨o4, h4, r4⟩⟩ := st
    exact ⟨⟨old, k _ (by simp) _ h1⟩, ⟨o4, k _ (by simp) _ h4, r4⟩⟩
  item := by
    intro X hP hw hK hc i pins s σ H E I hf st hg
    subst hP hw hK
    obtain ⟨⟨old, h1⟩, h4⟩ := st
    obtain ⟨xs, x, qa, hx⟩ := hg
    obtain ⟨its, rv, hL, hz⟩ := I.tuple qa
    obtain ⟨ux, eux, rux⟩ := rv.get hx
    have hi : i < its.toArray.size := by
      obtain ⟨hh, _⟩ := List.getElem?_eq_some_iff.mp eux
      simpa using hh
    have D := Enk.drawsT (prog := X.prog) (w := X.w) (A := X.A.in1) (show X.A.in1.handled = none from I.ok.hd hc) it a hia.symm its.toArray
    refine wpAny_pyNext_enum_itemD (i := i) D h1 ⟨h4, hL⟩ hi hne (by simp [hne, hea]) fun ux' g tk hP b1 b2 b3 b4 b5 => ?_
    have hu : ux' = ux := by
      have h5 : its.toArray[i]? = some ux := by simpa using eux
      rw [h5] at hP
      exact (Option.some.inj hP).symm
    subst hu
    refine ⟨_, rfl, ?_⟩
    have elt : e < s.heap.objs.size := Heap.lt_size h1
    cases tg with
    | Tuple es kk pp =>
      refine wpAny_letOwnedTupleGo_enum b1 fun g' c1 sb => ?_
      have new : g'.get? s.heap.objs.size = some { cls := .type "tuple", data := .seq #[.int (i : Int) tk, ux'] } := sb.extBut _ _ (Nat.ne_of_gt elt) b3
      have I1 : Inv X pins σ (upd H s.heap.objs.size (.tup [.int (i : Int), x])) { s with heap := g', toks := tk + 1 } := by
        refine I.turnedNew (t' := tk + 1) (L := [e, it]) (fun c o hcn eo => ?_) hf (Nat.le_refl _) ⟨by show 2 ≤ sizeLine; decide, [.int (i : Int) tk, ux'], .cons ⟨_, rfl⟩ (.cons rux .nil), ⟨_, new, rfl, 0, rfl⟩⟩
        simp only [List.mem_cons, List.not_mem_nil, or_false, not_or] at hcn
        exact sb.extBut c o hcn.1 (b5 c o hcn.1 hcn.2 eo)
      have b2' : g.IsTupleIter it a (i + 1) := by
        exact b2.1
      refine ⟨.ref s.heap.objs.size, _, I1, rfl, ⟨_, I.fresh, rfl, x, rfl, fun xs' q1 => ?_⟩, ⟨⟨ux', ?_⟩, (by obtain ⟨o, ho, r⟩ := b2'; exact ⟨o, sb.extBut it o hne.symm ho, r⟩)⟩, fun c hcm => ?_⟩
      · rw [I.tuple_inj q1 qa]; exact hx
      · rw [show ((i + 1 : Nat) : Int) = (i : Int) + 1 by omega]; exact c1
      · obtain ⟨o, eo⟩ : ∃ o, s.heap.get? c = some o := by
          simp only [List.mem_cons, List.not_mem_nil, or_false] at hcm
          rcases hcm with rfl | rfl
          · exact ⟨_, h1⟩
          · obtain ⟨o4, g4, _⟩ := h4
            exact ⟨_, g4⟩
        rw [upd_ne (Nat.ne_of_lt (Heap.lt_size eo))]
        exact (hf c hcm).1
    | _ => exact absurd (show false = true from htg) Bool.false_ne_true
  done := by
    intro X hP hw hK hc i pins s σ H E I hf st hg
    subst hP hw hK
    obtain ⟨⟨old, h1⟩, h4⟩ := st
    obtain ⟨xs, qa, hl⟩ := hg
    obtain ⟨its, rv, hL, hz⟩ := I.tuple qa
    have hT : s.TypeIs (.ref e) "enumerate" := ⟨_, h1, rfl⟩
    unfold pyNext
    refine wpAny_bind (wpAny_attempt (wpAny_callSpecial?_slot (name := Str.ofString "__next__") hT F.slot_enumerate_next
      (wpAny_call_entry F.slot_enumerate_next hT F.entry_enumerate_next ?_ (F.args_enumerate_next_1 _))))
    show wpAny _ _ (field (.ref e) 2 >>= _) _ _ _
    refine wpAny_bind (wpAny_field h1 rfl (x := .ref it) rfl ?_)
    refine wpAny_bind (Zt.pull_end (I.ok.hd hc) h4 hL (by have := rv.length; simp; omega) fun h' x he' hx' => ?_)
    obtain ⟨o, ho, hc'⟩ := hx'
    refine wpAny_bind (wpAny_isInstance (T := "StopIteration") (b := true) ⟨o, ho, hc'⟩ isSubtype_stop ?_)
    refine wpAny_pure ⟨rfl, ?_⟩
    refine I.turnedL (t' := s.toks) (L := [e, it]) (fun c o hcn eo => ?_) hf
    simp only [List.mem_cons, List.not_mem_nil, or_false, not_or] at hcn
    exact he' c o hcn.2 eo
  self := fun _ _ _ _ _ st h => by
    obtain ⟨⟨old, h1⟩, _⟩ := st
    exact wpAny_pyIter_enum h1 h
section
variable {X : Cx} {tg : Expr}
def iEnumT (K : PySem.W.Frag) (ta : TA) : TI := fun σ H R => ta σ H fun vs H1 => ∃ a xs, vs = [.ref a] ∧ SqT K H1 a xs ∧ R (ItT K a) H1
theorem pi_enumT {e1 : Expr} {ta : TA} {p pos : Pos} (htg : tupleTg tg = true) (hg : Gl X "enumerate") (hm : X.mg "enumerate" = none) (ha : PA X [e1] ta) (hs : starEach [e1] X.env = [(false, eval e1 X.env)] := by rfl)
    (hb : bootBuiltins "enumerate" = some (.type "enumerate") := by decide +kernel) : PI X tg (.Call (.Name "enumerate" p) [e1] [] pos) (iEnumT X.K ta) := by
  intro pins s σ H R I h
  refine Call_ (ld_blt I hg hm hb (PyProof.Rows.callWith_type1 (thn (ha pos pins s σ H _ I h) fun us s1 ⟨vs, H1, I1, r1, q1⟩ => ?_) hs rfl))
  obtain ⟨a, xs, e, qa, q⟩ := q1
  subst e
  obtain ⟨u1, rfl, ra⟩ := vals1 r1
  cases ra
  obtain ⟨its, rv, hL, hz⟩ := I1.tuple qa
  obtain ⟨o0, e0, _⟩ := id hL
  have la : a < s1.heap.objs.size := Heap.lt_size e0
  refine Enk.call_T hL fun g z1 z2 z3 up => ?_
  refine wpAny_pyIter_enum z1 ?_
  have I2 : Inv X pins σ H1 { s1 with heap := g } := I1.kept (t' := s1.toks) up
  refine ⟨_, [s1.heap.objs.size + 1, s1.heap.objs.size], _, _, H1, rfl, I2, turn_enumT htg (Nat.ne_of_gt (Nat.lt_succ_self _)) (Nat.ne_of_gt (Nat.lt_succ_of_lt la)) (Nat.ne_of_gt la), ⟨⟨_, z1⟩, z2⟩, fun c hc => ?_, q⟩
  have big : s1.heap.objs.size ≤ c := by
    simp only [List.mem_cons, List.not_mem_nil, or_false] at hc
    rcases hc with rfl | rfl
    · exact Nat.le_add_right _ _
    · exact Nat.le_refl _
  exact I1.fpOk big (I1.hok.fresh big)
theorem qi_enumT {e1 : Expr} {ta : TA} {p pos : Pos} (htg : tupleTg tg = true) (hg : Gl X "enumerate") (hm : X.mg "enumerate" = none) (ha : QA X [e1] ta) (hs : starEach [e1] X.env = [(false, eval e1 X.env)] := by rfl)
    (hb : bootBuiltins "enumerate" = some (.type "enumerate") := by decide +kernel) : QI X tg (.Call (.Name "enumerate" p) [e1] [] pos) (iEnumT X.K ta) := ⟨pi_enumT htg hg hm ha.o hs hb⟩
end
theorem for_enumT {K : PySem.W.Frag} {a : Addr} {xs : List V} {g : TG} {tb : TS} {D : Ends} {σ : St} {H : Hp} (Pv : Nat → St → Hp → Prop) (h0 : Pv 0 σ H) (hl : ∀ i σ H, i ≤ xs.length → Pv i σ H → SqT K H a xs)
    (hs : ∀ i x p σ H, xs[i]? = some x → H p = none → Pv i σ H → g (.ref p) σ (upd H p (.tup [.int (i : Int), x])) fun σ2 H2 => tb { D with nx := Pv (i + 1), ct := Pv (i + 1), bk := D.nx } σ2 H2) (hd : ∀ σ H, Pv xs.length σ H → D.nx σ H) :
    ∃ W : Nat → Nat → St → Hp → Prop, (∃ m, W 0 m σ H) ∧ ∀ i m σ H, W i m σ H →
      ((ItT K a).stop i H ∧ D.nx σ H) ∨ ((ItT K a).go i H ∧ ∃ N : St → Hp → Prop, (∀ σ' H', N σ' H' → ∃ m', m' < m ∧ W (i + 1) m' σ' H') ∧ ∀ x H', (ItT K a).yld i H x H' → g x σ H' fun σ2 H2 => tb { D with nx := N, ct := N, bk := D.nx } σ2 H2) := by
  refine ⟨fun i m σ H => m = xs.length - i ∧ i ≤ xs.length ∧ Pv i σ H, ⟨_, rfl, Nat.zero_le _, h0⟩, ?_⟩
  rintro i m σ H ⟨rfl, hi, p⟩
  have qa := hl i σ H hi p
  by_cases hlt : i < xs.length
  · refine .inr ⟨⟨xs, xs[i], qa, by simp [hlt]⟩, Pv (i + 1), fun σ' H' p' => ⟨xs.length - (i + 1), by omega, rfl, hlt, p'⟩, fun v H' yv => ?_⟩
    obtain ⟨q, hq, rfl, x, rfl, hxy⟩ := yv
    exact hs i x q σ H (hxy xs qa) hq p
  · have e : i = xs.length := by omega
    refine .inl ⟨⟨xs, qa, by omega⟩, hd σ H (e ▸ p)⟩
end L2

set_option Elab.async false
set_option linter.all false
set_option maxRecDepth 100000
set_option maxHeartbeats 4000000
namespace W2
open PySem L2 Mth Xn
def top (i : Nat) : Stmt := PySem.Challenge.pw_wholefract_k77_factors_counted.main.body.getD i (.Pass ⟨0, 0, 0, 0⟩)
abbrev s_is_whole : Stmt := top 16
abbrev s_powers_of : Stmt := top 17
abbrev s_how_often : Stmt := top 18
abbrev s_without_primes : Stmt := top 19
abbrev s_machine_of : Stmt := top 22
abbrev s_counters_of : Stmt := top 23
abbrev s_fraction_rows : Stmt := top 24
abbrev s_still_rows : Stmt := top 25
abbrev s_onward : Stmt := top 26
abbrev s_l_cell_at : Stmt := top 28
abbrev s_l_pot : Stmt := top 29
abbrev s_l_take : Stmt := top 30
abbrev s_l_kind_of : Stmt := top 31
abbrev s_l_power : Stmt := top 32
abbrev s_l_told : Stmt := top 33
abbrev s_law : Stmt := top 34
theorem sc_is_whole : FnScope ["thing"] ["thing"] (defScope s_is_whole) := ⟨rfl, rfl, rfl, by decide +kernel, rfl, by decide +kernel, by decide +kernel⟩
theorem sc_powers_of : FnScope ["number"] ["number"] (defScope s_powers_of) := ⟨rfl, rfl, rfl, by decide +kernel, rfl, by decide +kernel, by decide +kernel⟩
theorem sc_how_often : FnScope ["prime", "number", "times", "rest"] ["prime", "number"] (defScope s_how_often) := ⟨rfl, rfl, rfl, by decide +kernel, rfl, by decide +kernel, by decide +kernel⟩
theorem sc_without_primes : FnScope ["number", "rest", "prime"] ["number"] (defScope s_without_primes) := ⟨rfl, rfl, rfl, by decide +kernel, rfl, by decide +kernel, by decide +kernel⟩
theorem sc_machine_of : FnScope ["program", "parts", "rows", "wanted", "given"] ["program"] (defScope s_machine_of) := ⟨rfl, rfl, rfl, by decide +kernel, rfl, by decide +kernel, by decide +kernel⟩
theorem sc_counters_of : FnScope ["number", "counters", "counter", "often"] ["number"] (defScope s_counters_of) := ⟨rfl, rfl, rfl, by decide +kernel, rfl, by decide +kernel, by decide +kernel⟩
theorem sc_fraction_rows : FnScope ["begin", "wanted", "given", "done", "back", "behind", "rows", "taken", "counter", "number"] ["begin", "wanted", "given"] (defScope s_fraction_rows) := ⟨rfl, rfl, rfl, by decide +kernel, rfl, by decide +kernel, by decide +kernel⟩
theorem sc_still_rows : FnScope ["begin"] ["begin"] (defScope s_still_rows) := ⟨rfl, rfl, rfl, by decide +kernel, rfl, by decide +kernel, by decide +kernel⟩
theorem sc_onward : FnScope ["number", "done"] ["number", "done"] (defScope s_onward) := ⟨rfl, rfl, rfl, by decide +kernel, rfl, by decide +kernel, by decide +kernel⟩
theorem sc_l_cell_at : FnScope ["script", "k"] ["script", "k"] (defScope s_l_cell_at) := ⟨rfl, rfl, rfl, by decide +kernel, rfl, by decide +kernel, by decide +kernel⟩
theorem sc_l_pot : FnScope ["cell", "number", "j", "more"] ["cell"] (defScope s_l_pot) := ⟨rfl, rfl, rfl, by decide +kernel, rfl, by decide +kernel, by decide +kernel⟩
theorem sc_l_take : FnScope ["pot", "far", "found"] ["pot", "far"] (defScope s_l_take) := ⟨rfl, rfl, rfl, by decide +kernel, rfl, by decide +kernel, by decide +kernel⟩
theorem sc_l_kind_of : FnScope ["e", "some", "words"] ["e"] (defScope s_l_kind_of) := ⟨rfl, rfl, rfl, by decide +kernel, rfl, by decide +kernel, by decide +kernel⟩
theorem sc_l_power : FnScope ["prime", "often", "found", "turn"] ["prime", "often"] (defScope s_l_power) := ⟨rfl, rfl, rfl, by decide +kernel, rfl, by decide +kernel, by decide +kernel⟩
theorem sc_l_told : FnScope ["program", "e"] ["program"] (defScope s_l_told) := ⟨rfl, rfl, rfl, by decide +kernel, rfl, by decide +kernel, by decide +kernel⟩
theorem sc_law : FnScope ["script", "k", "pot", "total", "program", "left", "upper", "lower", "due"] ["script"] (defScope s_law) := ⟨rfl, rfl, rfl, by decide +kernel, rfl, by decide +kernel, by decide +kernel⟩
structure Tx (K : PySem.W.Frag) (mg : Str → Option Value) where
  f_is_whole : Addr
  fd_is_whole : FuncData
  D_is_whole : Df K mg "is_whole" s_is_whole ["thing"] f_is_whole fd_is_whole
  f_powers_of : Addr
  fd_powers_of : FuncData
  D_powers_of : Df K mg "powers_of" s_powers_of ["number"] f_powers_of fd_powers_of
  f_how_often : Addr
  fd_how_often : FuncData
  D_how_often : Df K mg "how_often" s_how_often ["prime", "number"] f_how_often fd_how_often
  f_without_primes : Addr
  fd_without_primes : FuncData
  D_without_primes : Df K mg "without_primes" s_without_primes ["number"] f_without_primes fd_without_primes
  f_machine_of : Addr
  fd_machine_of : FuncData
  D_machine_of : Df K mg "machine_of" s_machine_of ["program"] f_machine_of fd_machine_of
  f_counters_of : Addr
  fd_counters_of : FuncData
  D_counters_of : Df K mg "counters_of" s_counters_of ["number"] f_counters_of fd_counters_of
  f_fraction_rows : Addr
  fd_fraction_rows : FuncData
  D_fraction_rows : Df K mg "fraction_rows" s_fraction_rows ["begin", "wanted", "given"] f_fraction_rows fd_fraction_rows
  f_still_rows : Addr
  fd_still_rows : FuncData
  D_still_rows : Df K mg "still_rows" s_still_rows ["begin"] f_still_rows fd_still_rows
  f_onward : Addr
  fd_onward : FuncData
  D_onward : Df K mg "onward" s_onward ["number", "done"] f_onward fd_onward
  f_l_cell_at : Addr
  fd_l_cell_at : FuncData
  D_l_cell_at : Df K mg "_law_cell_at" s_l_cell_at ["script", "k"] f_l_cell_at fd_l_cell_at
  f_l_pot : Addr
  fd_l_pot : FuncData
  D_l_pot : Df K mg "_law_pot" s_l_pot ["cell"] f_l_pot fd_l_pot
  f_l_take : Addr
  fd_l_take : FuncData
  D_l_take : Df K mg "_law_take" s_l_take ["pot", "far"] f_l_take fd_l_take
  f_l_kind_of : Addr
  fd_l_kind_of : FuncData
  D_l_kind_of : Df K mg "_law_kind_of" s_l_kind_of ["e"] f_l_kind_of fd_l_kind_of
  f_l_power : Addr
  fd_l_power : FuncData
  D_l_power : Df K mg "_law_power" s_l_power ["prime", "often"] f_l_power fd_l_power
  f_l_told : Addr
  fd_l_told : FuncData
  D_l_told : Df K mg "_law_told" s_l_told ["program"] f_l_told fd_l_told
  c_FractError : Addr
  k_FractError : mg "FractError" = some (.ref c_FractError)
  c_AtRest : Addr
  k_AtRest : mg "AtRest" = some (.ref c_AtRest)
  c_NoText : Addr
  k_NoText : mg "NoText" = some (.ref c_NoText)
  c_NoNumber : Addr
  k_NoNumber : mg "NoNumber" = some (.ref c_NoNumber)
  c_TooMany : Addr
  k_TooMany : mg "TooMany" = some (.ref c_TooMany)
  c_NoOrder : Addr
  k_NoOrder : mg "NoOrder" = some (.ref c_NoOrder)
  c_NoProgram : Addr
  k_NoProgram : mg "NoProgram" = some (.ref c_NoProgram)
  c_Shared : Addr
  k_Shared : mg "Shared" = some (.ref c_Shared)
  c_NoPowers : Addr
  k_NoPowers : mg "NoPowers" = some (.ref c_NoPowers)
  c_NoTrail : Addr
  k_NoTrail : mg "NoTrail" = some (.ref c_NoTrail)
  c_NoName : Addr
  k_NoName : mg "NoName" = some (.ref c_NoName)
  c_NoDeed : Addr
  k_NoDeed : mg "NoDeed" = some (.ref c_NoDeed)
  c_NoRow : Addr
  k_NoRow : mg "NoRow" = some (.ref c_NoRow)
  E_FractError : ECls K mg "FractError" c_FractError
  E_TooMany : ECls K mg "TooMany" c_TooMany
  U_TooMany : Under K c_TooMany c_FractError
  X_TooMany : PySem.W.XcIs K c_TooMany
  V_TooMany : PySem.W.kitOne K (.ref c_TooMany) (.type "ValueError") = some true
  q_TooMany_AtRest : PySem.W.kitOne K (.ref c_TooMany) (.ref c_AtRest) = some false
  q_TooMany_NoText : PySem.W.kitOne K (.ref c_TooMany) (.ref c_NoText) = some false
  q_TooMany_NoNumber : PySem.W.kitOne K (.ref c_TooMany) (.ref c_NoNumber) = some false
  q_TooMany_TooMany : PySem.W.kitOne K (.ref c_TooMany) (.ref c_TooMany) = some true
  q_TooMany_NoOrder : PySem.W.kitOne K (.ref c_TooMany) (.ref c_NoOrder) = some false
  q_TooMany_NoProgram : PySem.W.kitOne K (.ref c_TooMany) (.ref c_NoProgram) = some false
  q_TooMany_Shared : PySem.W.kitOne K (.ref c_TooMany) (.ref c_Shared) = some false
  q_TooMany_NoPowers : PySem.W.kitOne K (.ref c_TooMany) (.ref c_NoPowers) = some false
  q_TooMany_NoTrail : PySem.W.kitOne K (.ref c_TooMany) (.ref c_NoTrail) = some false
  q_TooMany_NoName : PySem.W.kitOne K (.ref c_TooMany) (.ref c_NoName) = some false
  q_TooMany_NoDeed : PySem.W.kitOne K (.ref c_TooMany) (.ref c_NoDeed) = some false
  q_TooMany_NoRow : PySem.W.kitOne K (.ref c_TooMany) (.ref c_NoRow) = some false
  m_len : mg "len" = none
  m_isinstance : mg "isinstance" = none
  m_int : mg "int" = none
  m_bool : mg "bool" = none
  m_tuple : mg "tuple" = none
  m_list : mg "list" = none
  m_range : mg "range" = none
  m_min : mg "min" = none
  m_sum : mg "sum" = none
  m_enumerate : mg "enumerate" = none
  m_reversed : mg "reversed" = none
  m_ValueError : mg "ValueError" = none
  a_PRIMES : Addr
  g_PRIMES : mg "PRIMES" = some (.ref a_PRIMES)
  t_PRIMES : ∀ H, SqT K H a_PRIMES [.int 2, .int 3, .int 5, .int 7, .int 11, .int 13, .int 17, .int 19, .int 23, .int 29]
  g_MOST_FACTORS : ∃ t, mg "MOST_FACTORS" = some (.int 300 t)
section
variable {P : Program} {w : World} {K : PySem.W.Frag} {mg : Str → Option Value} {base : Heap}
/-! ### _law_take -/
def sp_l_take : Sp := fun vs H Q _ => ∃ (a : Addr) (n far : Int), vs = [.ref a, .int far] ∧ H a = some (.lst [.int n]) ∧ 0 < far ∧ far < 1073741824 ∧ Q (.int (n % far)) (upd H a (.lst [.int (n / far)]))
theorem ok_l_take (T : Tx K mg) : FnOk P w K mg base CX0 1 T.f_l_take T.fd_l_take ["pot", "far"] sp_l_take := by
  refine T.D_l_take.fn.okQ sc_l_take (fun vs H Q E h => ?_) (fun cdv A outer s H vs Q E hr h => ?_)
  · obtain ⟨a, n, far, rfl, _⟩ := h
    rfl
  · obtain ⟨a, n, far, rfl, ha, h0, h1, q⟩ := h
    refine ⟨_, (qss_cons (qs_set (i := 2) sc_l_take.nd rfl (Or.inl rfl) (qe_op op_mod (qe_ix ix_list (qv 0) qe_int (fun _ _ => rfl)) (qv 1)))
      (qss_cons (qs_asg (qe_op op_fdiv (qe_ix ix_list (qv 0) qe_int (fun _ _ => rfl)) (qv 1)) (qg_sub (qv 0) qe_int set_list))
      (qss_one (qs_ret (qv 2))))), ?_⟩
    refine ⟨_, rfl, a, _, _, _, rfl, rfl, SqL.of ha, rfl, _, rfl, _, _, rfl, rfl, h0, ?_⟩
    refine ⟨_, rfl, a, _, _, _, rfl, rfl, SqL.of ha, rfl, _, rfl, _, _, rfl, rfl, ⟨h0, h1⟩, _, rfl, a, _, _, 0, rfl, rfl, ha, rfl, ?_⟩
    exact ⟨_, rfl, q⟩

/-! ### _law_cell_at -/
def sp_l_cell_at (K : PySem.W.Frag) : Sp := fun vs H Q _ => ∃ (a : Addr) (ns : List Int) (k : Int), vs = [.ref a, .int k] ∧ SqL K H a (ns.map V.int) ∧ 0 ≤ k ∧ ∀ c : Int, Q (.int c) H
theorem ok_l_cell_at (T : Tx K mg) : FnOk P w K mg base CX0 1 T.f_l_cell_at T.fd_l_cell_at ["script", "k"] (sp_l_cell_at K) := by
  refine T.D_l_cell_at.fn.okQ sc_l_cell_at (fun vs H Q E h => ?_) (fun cdv A outer s H vs Q E hr h => ?_)
  · obtain ⟨a, ns, k, rfl, _⟩ := h
    rfl
  · obtain ⟨a, ns, k, rfl, hS, h0, q⟩ := h
    refine ⟨_, (qss_cons (qs_if (qt_cmpR op_lt (qv 1) (qe_callB call_len_seq (by rfl) T.m_len b_len (qa_c (qv 0) qa_nil)) (nomark _))
        (qss_one (qs_ret (qe_ix ix_list (qv 0) (qv 1) (fun _ _ => rfl))))
        qss_nil)
      (qss_one (qs_ret qe_int))), ?_⟩
    refine ⟨_, rfl, _, rfl, a, _, rfl, .inl hS, _, _, rfl, rfl, _, rfl, ?_⟩
    refine ite2 (fun hlt => ?_) (fun _ => q 0)
    have hlt' : k < ((ns.map V.int).length : Int) := by simpa using hlt
    rw [List.length_map] at hlt'
    have hk : k.toNat < ns.length := by omega
    have e : (ns.map V.int)[k.toNat]? = some (V.int ns[k.toNat]) := by rw [List.getElem?_map, List.getElem?_eq_getElem hk]; rfl
    exact ⟨_, rfl, _, rfl, a, _, _, _, rfl, rfl, hS, atI_of h0 e, q _⟩

/-! ### _law_pot -/
def sp_l_pot : Sp := fun vs H Q _ => ∃ c : Int, vs = [.int c] ∧ ∀ (n : Int) (p : Addr), H p = none → Q (.ref p) (upd H p (.lst [.int n]))
theorem ok_l_pot (T : Tx K mg) : FnOk P w K mg base CX0 1 T.f_l_pot T.fd_l_pot ["cell"] sp_l_pot := by
  refine T.D_l_pot.fn.okQ sc_l_pot (fun vs H Q E h => ?_) (fun cdv A outer s H vs Q E hr h => ?_)
  · obtain ⟨c, rfl, _⟩ := h
    rfl
  · obtain ⟨c, rfl, q⟩ := h
    refine ⟨_, (qss_cons (qs_if (qt_cmpR op_ge (qv 0) (qe_op op_pow qe_int qe_int) (nomark _))
        (qss_one (qs_ret (qe_lst (qa_c (qe_op op_sub (qv 0) (qe_op op_pow qe_int qe_int)) qa_nil))))
        qss_nil)
      (qss_cons (qs_set (i := 1) sc_l_pot.nd rfl (Or.inl rfl) qe_int)
      (qss_cons (qs_for PassesOwn.never rfl (qi_range1 rfl T.m_range (qa_c qe_int qa_nil)) (qg_name (i := 2) sc_l_pot.nd rfl (Or.inl rfl))
        (qss_cons (qs_set (i := 3) sc_l_pot.nd rfl (Or.inl rfl) (qe_op op_mod (qe_op op_mul (qe_op op_add (qe_op op_add (qe_op op_mod (qv 0) qe_int) (qe_op op_mul qe_int (qv 2))) qe_int) qe_int) qe_int))
      (qss_cons (qs_set (i := 3) sc_l_pot.nd rfl (Or.inl rfl) (qe_op op_mod (qe_op op_add (qe_op op_add (qe_op op_mul (qv 3) (qv 3)) (qe_op op_mul qe_int (qv 2))) qe_int) qe_int))
      (qss_one (qs_set (i := 1) sc_l_pot.nd rfl (Or.inl rfl) (qe_op op_add (qe_op op_mul (qv 1) qe_int) (qv 3)))))))
      (qss_one (qs_ret (qe_lst (qa_c (qv 1) qa_nil))))))), ?_⟩
    refine ⟨_, rfl, _, _, rfl, rfl, ⟨by decide, by decide, by decide⟩, _, _, rfl, rfl, _, rfl, ?_⟩
    refine ite2 (fun _ => ?_) (fun _ => ?_)
    · refine ⟨_, rfl, _, _, rfl, rfl, ⟨by decide, by decide, by decide⟩, _, _, rfl, rfl, (by show 1 ≤ sizeLine; decide), fun p hp => ?_⟩
      exact q _ p hp
    · refine ⟨64, rfl, by decide, by decide, for_range (n := 64) (fun i σ H2 => ∃ (n : Int) (u v : Option V), σ = [some (.int c), some (.int n), u, v] ∧ H2 = H) ⟨0, none, none, rfl, rfl⟩ ?_ ?_⟩
      · rintro i σ H2 hi ⟨n, u, v, rfl, rfl⟩
        refine ⟨_, rfl, _, _, rfl, rfl, (by show (0 : Int) < 2147483629; decide), _, rfl, _, _, rfl, rfl, .inl ⟨by decide, by decide⟩, _, _, rfl, rfl, _, _, rfl, rfl, _, _, rfl, rfl, .inr ⟨by decide, by decide⟩, _, _, rfl, rfl, (by show (0 : Int) < 2147483647; decide), ?_⟩
        refine ⟨_, rfl, _, rfl, _, _, rfl, rfl, .inl ?_, _, rfl, _, _, rfl, rfl, .inl ⟨by decide, by decide⟩, _, _, rfl, rfl, _, _, rfl, rfl, _, _, rfl, rfl, (by show (0 : Int) < 2147483587; decide), ?_⟩
        · have h1 := Int.emod_nonneg ((c % 2147483629 + 7919 * (0 + (i : Int)) + 1) * 48271) (show (2147483647 : Int) ≠ 0 by decide)
          have h2 := Int.emod_lt_of_pos ((c % 2147483629 + 7919 * (0 + (i : Int)) + 1) * 48271) (show (0 : Int) < 2147483647 by decide)
          exact ⟨by omega, by omega⟩
        refine ⟨_, rfl, _, _, rfl, rfl, .inr ⟨by decide, by decide⟩, _, rfl, _, _, rfl, rfl, ?_⟩
        exact ⟨_, _, _, rfl, rfl⟩
      · rintro σ H2 ⟨n, u, v, rfl, rfl⟩
        exact ⟨_, rfl, (by show 1 ≤ sizeLine; decide), fun p hp => q n p hp⟩

/-! ### _law_take, the heap behind it a letter -/
def sp_l_takeA : Sp := fun vs H Q _ => ∃ (a : Addr) (n far : Int), vs = [.ref a, .int far] ∧ H a = some (.lst [.int n]) ∧ 0 < far ∧ far < 1073741824 ∧
  ∀ (r n' : Int) (H' : Hp), 0 ≤ r → r < far → But a H H' → H' a = some (.lst [.int n']) → Q (.int r) H'
theorem ok_l_takeA (T : Tx K mg) : FnOk P w K mg base CX0 1 T.f_l_take T.fd_l_take ["pot", "far"] sp_l_takeA :=
  (ok_l_take T).imp fun vs H Q E ⟨a, n, far, e, ha, h0, h1, q⟩ => ⟨a, n, far, e, ha, h0, h1, q _ (n / far) _ (Int.emod_nonneg n (by omega)) (Int.emod_lt_of_pos n h0) But.upd upd_same⟩

/-! ### primes as values -/
def primesV : List V := [.int 2, .int 3, .int 5, .int 7, .int 11, .int 13, .int 17, .int 19, .int 23, .int 29]
theorem primesV_get {i : Nat} {x : V} (h : primesV[i]? = some x) : ∃ p : Nat, x = .int (p : Int) ∧ primes[i]? = some p ∧ p < 30 := by
  match i, h with
  | 0, h => cases h; exact ⟨2, rfl, rfl, by decide⟩
  | 1, h => cases h; exact ⟨3, rfl, rfl, by decide⟩
  | 2, h => cases h; exact ⟨5, rfl, rfl, by decide⟩
  | 3, h => cases h; exact ⟨7, rfl, rfl, by decide⟩
  | 4, h => cases h; exact ⟨11, rfl, rfl, by decide⟩
  | 5, h => cases h; exact ⟨13, rfl, rfl, by decide⟩
  | 6, h => cases h; exact ⟨17, rfl, rfl, by decide⟩
  | 7, h => cases h; exact ⟨19, rfl, rfl, by decide⟩
  | 8, h => cases h; exact ⟨23, rfl, rfl, by decide⟩
  | 9, h => cases h; exact ⟨29, rfl, rfl, by decide⟩
  | (k + 10), h => cases h

/-! ### is_whole -/
def sp_whole : Sp := fun vs H Q _ => ∃ v, vs = [v] ∧ kindV H v ∧ Q (.bl (isW v)) H
theorem ok_is_whole (T : Tx K mg) : FnOk P w K mg base CX0 1 T.f_is_whole T.fd_is_whole ["thing"] sp_whole := by
  refine T.D_is_whole.fn.okQ sc_is_whole (fun vs H Q E h => ?_) (fun cdv A outer s H vs Q E hr h => ?_)
  · obtain ⟨v, rfl, _⟩ := h
    rfl
  · obtain ⟨v, rfl, k, q⟩ := h
    refine ⟨_, (qss_one (qs_ret (qe_and (qe_callB call_isi (by rfl) T.m_isinstance b_isinstance (qa_c (qv 0) (qa_c (qe_ty (by rfl) T.m_int b_int) qa_nil))) (qe_one (qe_not (qe_callB call_isi (by rfl) T.m_isinstance b_isinstance (qa_c (qv 0) (qa_c (qe_ty (by rfl) T.m_bool b_bool) qa_nil)))))))), ?_⟩
    obtain ⟨t, ty, e⟩ := isi_I (K := K) k
    obtain ⟨t', ty', e'⟩ := isi_B (K := K) k
    rw [← isW_eq] at q
    refine ⟨v, rfl, v, "int", t, _, rfl, ty, e, _, rfl, ?_⟩
    cases hi : isI v with
    | false =>
      rw [hi] at q
      exact iteF q
    | true =>
      rw [hi] at q
      exact iteT ⟨v, rfl, v, "bool", t', _, rfl, ty', e', _, rfl, q⟩

/-! ### without_primes -/
def natAt (σ : St) (i : Nat) : Nat := match σ[i]? with
  | some (some (.int r)) => r.toNat
  | _ => 0
theorem int_eq0 {i j : Int} (h : decide (V.int i = V.int j) = true) : i = j := by
  have := of_decide_eq_true h
  injection this
theorem int_ne0 {i j : Int} (h : ¬ decide (V.int i = V.int j) = true) : i ≠ j := fun z => h (decide_eq_true (by rw [z]))
theorem stripL_snoc : ∀ (ps : List Nat) (i p n : Nat), ps[i]? = some p → stripL (ps.take (i + 1)) n = strip p (stripL (ps.take i) n) := by
  intro ps i p n h
  unfold stripL
  rw [List.take_add_one, h, List.foldl_append]
  rfl
def sp_without_primes : Sp := fun vs H Q _ => ∃ m : Int, vs = [.int m] ∧ 1 ≤ m ∧ Q (.int (stripAll m.toNat : Nat)) H
theorem ok_without_primes (T : Tx K mg) : FnOk P w K mg base CX0 1 T.f_without_primes T.fd_without_primes ["number"] sp_without_primes := by
  refine T.D_without_primes.fn.okQ sc_without_primes (fun vs H Q E h => ?_) (fun cdv A outer s H vs Q E hr h => ?_)
  · obtain ⟨m, rfl, _⟩ := h
    rfl
  · obtain ⟨m, rfl, hm, q⟩ := h
    refine ⟨_, (qss_cons (qs_set (i := 1) sc_without_primes.nd rfl (Or.inl rfl) (qv 0))
      (qss_cons (qs_for PassesOwn.never rfl (qi_tup (qe_glob (v := .ref T.a_PRIMES) (by rfl) T.g_PRIMES rfl)) (qg_name (i := 2) sc_without_primes.nd rfl (Or.inl rfl))
        (qss_one (qs_while PassesOwn.never (qt_cmpR op_eq (qe_op op_mod (qv 1) (qv 2)) qe_int (nomark _))
        (qss_one (qs_set (i := 1) sc_without_primes.nd rfl (Or.inl rfl) (qe_op op_fdiv (qv 1) (qv 2)))))))
      (qss_one (qs_ret (qv 1))))), ?_⟩
    refine ⟨_, rfl, T.a_PRIMES, rfl, ⟨primesV, T.t_PRIMES H⟩, for_tup (xs := primesV) (fun i σ H2 => (∃ u : Option V, σ = [some (.int m), some (.int (stripL (primes.take i) m.toNat : Nat)), u]) ∧ H2 = H) ⟨⟨none, ?_⟩, rfl⟩ (fun i σ H2 _ _ => T.t_PRIMES H2) ?_ ?_⟩
    · show [some (V.int m), some (V.int m), none] = _
      rw [show stripL (primes.take 0) m.toNat = m.toNat from rfl, Int.toNat_of_nonneg (by omega)]
    · rintro i x σ H2 hx ⟨⟨u, rfl⟩, rfl⟩
      obtain ⟨p, rfl, hp, hp30⟩ := primesV_get hx
      have hp2 : 2 ≤ p := two_le p (List.mem_of_getElem? hp)
      have hpos : 1 ≤ stripL (primes.take i) m.toNat := stripL_pos _ (fun r hr => two_le r (List.mem_of_mem_take hr)) _ (by omega)
      refine while_own (fun σ H3 => ∃ r : Nat, σ = [some (.int m), some (.int (r : Int)), some (.int (p : Int))] ∧ 1 ≤ r ∧ strip p r = strip p (stripL (primes.take i) m.toNat) ∧ H3 = H2) (fun σ _ => natAt σ 1) ⟨_, rfl, hpos, rfl, rfl⟩ ?_
      rintro σ H3 ⟨r, rfl, hr1, hrs, rfl⟩
      refine ⟨_, rfl, _, rfl, _, _, rfl, rfl, (by show (0 : Int) < p; omega), rfl, _, rfl, ite2 (fun h => ?_) (fun h => ?_)⟩
      · have h0 : (r : Int) % (p : Int) = 0 := int_eq0 h
        have h0' : r % p = 0 := by omega
        refine whN ⟨_, rfl, _, rfl, _, _, rfl, rfl, ⟨by omega, by omega⟩, ?_⟩
        refine ⟨⟨r / p, ?_, div_pos_of hr1 h0', by rw [← strip_div hp2 hr1 h0']; exact hrs, rfl⟩, ?_⟩
        · rw [Int.natCast_ediv]; rfl
        · show ((r : Int) / (p : Int)).toNat < ((r : Int)).toNat
          rw [← Int.natCast_ediv, Int.toNat_natCast, Int.toNat_natCast]
          exact Nat.div_lt_self hr1 hp2
      · have h0 : ¬ (r : Int) % (p : Int) = 0 := int_ne0 h
        have h0' : r % p ≠ 0 := by omega
        refine ⟨⟨some (.int (p : Int)), ?_⟩, rfl⟩
        rw [stripL_snoc primes i p _ hp, ← hrs, strip_not h0']
    · rintro σ H2 ⟨⟨u, rfl⟩, rfl⟩
      exact ⟨_, rfl, q⟩

/-! ### how_often -/
def sp_how_often : Sp := fun vs H Q _ => ∃ (p : Nat) (m : Int), vs = [.int (p : Int), .int m] ∧ 2 ≤ p ∧ p < 30 ∧ 1 ≤ m ∧ Q (.int (cnt p m.toNat : Nat)) H
theorem ok_how_often (T : Tx K mg) : FnOk P w K mg base CX0 1 T.f_how_often T.fd_how_often ["prime", "number"] sp_how_often := by
  refine T.D_how_often.fn.okQ sc_how_often (fun vs H Q E h => ?_) (fun cdv A outer s H vs Q E hr h => ?_)
  · obtain ⟨p, m, rfl, _⟩ := h
    rfl
  · obtain ⟨p, m, rfl, hp2, hp30, hm, q⟩ := h
    refine ⟨_, (qss_cons (qs_set (i := 2) sc_how_often.nd rfl (Or.inl rfl) qe_int)
      (qss_cons (qs_set (i := 3) sc_how_often.nd rfl (Or.inl rfl) (qv 1))
      (qss_cons (qs_while PassesOwn.never (qt_cmpR op_eq (qe_op op_mod (qv 3) (qv 0)) qe_int (nomark _))
        (qss_cons (qs_set (i := 3) sc_how_often.nd rfl (Or.inl rfl) (qe_op op_fdiv (qv 3) (qv 0)))
      (qss_one (qs_set (i := 2) sc_how_often.nd rfl (Or.inl rfl) (qe_op op_add (qv 2) qe_int)))))
      (qss_one (qs_ret (qv 2)))))), ?_⟩
    refine ⟨_, rfl, ?_⟩
    refine while_own (fun σ H3 => ∃ o r : Nat, σ = [some (.int (p : Int)), some (.int m), some (.int (o : Int)), some (.int (r : Int))] ∧ 1 ≤ r ∧ o + cnt p r = cnt p m.toNat ∧ H3 = H) (fun σ _ => natAt σ 3) ⟨0, m.toNat, by rw [Int.toNat_of_nonneg (by omega)]; rfl, by omega, Nat.zero_add _, rfl⟩ ?_
    rintro σ H3 ⟨o, r, rfl, hr1, hro, rfl⟩
    refine ⟨_, rfl, _, rfl, _, _, rfl, rfl, (by show (0 : Int) < p; omega), rfl, _, rfl, ite2 (fun h => ?_) (fun h => ?_)⟩
    · have h0 : (r : Int) % (p : Int) = 0 := int_eq0 h
      have h0' : r % p = 0 := by omega
      refine whN ⟨_, rfl, _, rfl, _, _, rfl, rfl, ⟨by omega, by omega⟩, _, rfl, _, _, rfl, rfl, ?_⟩
      refine ⟨⟨o + 1, r / p, ?_, div_pos_of hr1 h0', by rw [cnt_div hp2 hr1 h0'] at hro; omega, rfl⟩, ?_⟩
      · rw [Int.natCast_ediv, Int.natCast_add]; rfl
      · show ((r : Int) / (p : Int)).toNat < ((r : Int)).toNat
        rw [← Int.natCast_ediv, Int.toNat_natCast, Int.toNat_natCast]
        exact Nat.div_lt_self hr1 hp2
    · have h0 : ¬ (r : Int) % (p : Int) = 0 := int_ne0 h
      have h0' : r % p ≠ 0 := by omega
      rw [cnt_not h0', Nat.add_zero] at hro
      subst hro
      exact ⟨_, rfl, q⟩

/-! ### powers_of -/
def sp_powers_of : Sp := fun vs H Q _ => ∃ i : Int, vs = [.int i] ∧ 1 ≤ i ∧ stripAll i.toNat = 1 ∧ ∀ p H', Same H H' → H' p = some (tupI (natI (powsOf i.toNat))) → Q (.ref p) H'
theorem ok_powers_of (T : Tx K mg) : FnOk P w K mg base CX0 2 T.f_powers_of T.fd_powers_of ["number"] sp_powers_of := by
  refine T.D_powers_of.fn.okQ sc_powers_of (fun vs H Q E h => ?_) (fun cdv A outer s H vs Q E hr h => ?_)
  · obtain ⟨i, rfl, _⟩ := h
    rfl
  · obtain ⟨i, rfl, h1, hz, q⟩ := h
    refine ⟨_, (qss_cons (qs_if (QW.pt (qw_or (qt_not (qt_val (qe_call (ok_is_whole T) (hr.mono (by decide)) rfl T.D_is_whole.at_ T.D_is_whole.fn.kp T.D_is_whole.bd .nil pass0 (qa_c (qv 0) qa_nil)))) (qw_or (qt_cmpR op_lt (qv 0) qe_int (nomark _)) (qw_or1 (qt_cmpR op_ne (qe_call (ok_without_primes T) (hr.mono (by decide)) rfl T.D_without_primes.at_ T.D_without_primes.fn.kp T.D_without_primes.bd .nil pass0 (qa_c (qv 0) qa_nil)) qe_int (nomark _))))))
        (qss_one qs_never)
        qss_nil)
      (qss_one (qs_ret (qe_callTy call_tuple_ofA (by rfl) T.m_tuple b_tuple (qa_c (qe_comp (compOk_of (osc := defScope s_powers_of) (XN := ["number"]) (N := ["prime", "number"]) (js := [none, some 0]) rfl rfl rfl (List.forall_mem_cons.mpr ⟨rfl, (List.forall_mem_nil _)⟩) (by decide +kernel) rfl) rfl (qi_tup (qe_glob (v := .ref T.a_PRIMES) (by rfl) T.g_PRIMES rfl)) (fun _ _ _ _ => (qg_name (i := 0) (show List.Nodup (["prime", "number"] : List Str) from by decide +kernel) rfl (Or.inl rfl) (Or.inr rfl))) (fun _ _ _ _ => qts_nil)
          (fun _ _ _ _ => (qe_call (ok_how_often T) (hr.mono (by decide)) rfl T.D_how_often.at_ T.D_how_often.fn.kp T.D_how_often.bd .nil pass0 (qa_c (qv 0) (qa_c (qv 1) qa_nil))))) qa_nil))))), ?_⟩
    refine ⟨_, rfl, _, rfl, trivial, _, rfl, iteF ?_⟩
    refine ⟨_, rfl, _, _, rfl, rfl, _, rfl, ?_⟩
    rw [decide_eq_false (show ¬ i < 1 by omega)]
    refine iteF ⟨_, rfl, i, rfl, h1, rfl, _, rfl, ?_⟩
    rw [hz]
    refine iteF ?_
    refine ⟨T.a_PRIMES, rfl, ⟨primesV, T.t_PRIMES H⟩, fun D hD => comp_map_tup (xs := primesV) (f := fun v => match v with | .int p => V.int (cnt p.toNat i.toNat : Nat) | v => v) rfl (by decide) hD (T.t_PRIMES H) ?_ ?_⟩
    · intro x H' R hx r
      obtain ⟨z, hz⟩ := List.getElem?_of_mem hx
      obtain ⟨p, rfl, hp, hp30⟩ := primesV_get hz
      have hp2 : 2 ≤ p := two_le p (List.mem_of_getElem? hp)
      refine ⟨_, rfl, _, rfl, p, i, rfl, hp2, hp30, by omega, ?_⟩
      have r2 : R (V.int (cnt ((p : Int).toNat) i.toNat : Nat)) H' := r
      rw [Int.toNat_natCast] at r2
      exact r2
    · refine ⟨D, _, rfl, SqL.of upd_same, fun p H' fp sp hp => q p H' ((Same.new hD).trans sp) ?_⟩
      rw [hp]
      rfl

end
end W2

set_option Elab.async false
set_option linter.all false
set_option maxRecDepth 100000
set_option maxHeartbeats 4000000
namespace W2
open PySem L2 Mth Xn
section
variable {P : Program} {w : World} {K : PySem.W.Frag} {mg : Str → Option Value} {base : Heap}
def sumN (l : List Nat) : Nat := l.foldr (· + ·) 0
theorem sumN_app : ∀ (l m : List Nat), sumN (l ++ m) = sumN l + sumN m
  | [], m => by show sumN m = 0 + sumN m; omega
  | a :: l, m => by
    show a + sumN (l ++ m) = (a + sumN l) + sumN m
    rw [sumN_app l m]; omega
theorem sumN_step {l : List Nat} {j c : Nat} (h : l[j]? = some c) : sumN (l.take (j + 1)) = sumN (l.take j) + c := by
  rw [List.take_add_one, h, sumN_app]; rfl
theorem sumN_le (l : List Nat) (j : Nat) : sumN (l.take j) ≤ sumN l := by
  have := sumN_app (l.take j) (l.drop j)
  rw [List.take_append_drop] at this
  omega
def sp_counters_of : Sp := fun vs H Q _ => ∃ i : Int, vs = [.int i] ∧ 1 ≤ i ∧ stripAll i.toNat = 1 ∧ sumN (powsOf i.toNat) ≤ 1000 ∧ ∀ l H' (xs : List V), H l = none → Same H H' → H' l = some (.lst xs) → xs.length = sumN (powsOf i.toNat) → Q (.ref l) H'
theorem ok_counters_of (T : Tx K mg) : FnOk P w K mg base CX0 3 T.f_counters_of T.fd_counters_of ["number"] sp_counters_of := by
  refine T.D_counters_of.fn.okQ sc_counters_of (fun vs H Q E h => ?_) (fun cdv A outer s H vs Q E hr h => ?_)
  · obtain ⟨i, rfl, _⟩ := h
    rfl
  · obtain ⟨i, rfl, h1, hz, hb, q⟩ := h
    refine ⟨_, (qss_cons (qs_set (i := 1) sc_counters_of.nd rfl (Or.inl rfl) (qe_lstA qa_nil))
      (qss_cons (qs_for PassesOwn.never rfl (qi_enumT rfl rfl T.m_enumerate (qa_c (qe_call (ok_powers_of T) (hr.mono (by decide)) rfl T.D_powers_of.at_ T.D_powers_of.fn.kp T.D_powers_of.bd .nil pass0 (qa_c (qv 0) qa_nil)) qa_nil)) (qg_tup rfl (qgs_cons (qg_name (i := 2) sc_counters_of.nd rfl (Or.inl rfl)) (qgs_cons (qg_name (i := 3) sc_counters_of.nd rfl (Or.inl rfl)) qgs_nil)))
        (qss_one (qs_expr (qe_bm PySem.F.plainAttrs_list PySem.F.slot_list_extend PySem.F.type_list_extend mt_extend (qv 1) (qa_c (qe_op op_repLA (qe_lstA (qa_c (qv 2) qa_nil)) (qv 3)) qa_nil)))))
      (qss_one (qs_ret (qv 1))))), ?_⟩
    refine ⟨(by show 0 ≤ sizeLine; decide), fun l H1 f1 s1 hl1 => ?_⟩
    refine ⟨_, rfl, i, rfl, h1, hz, fun p H2 s2 hp2 => ⟨p, _, rfl, SqT.of hp2, ?_⟩⟩
    have lp : l ≠ p := ne_of (s2 _ _ hl1) hp2 (by intro z; cases z)
    refine for_enumT (K := K) (xs := (natI (powsOf i.toNat)).map V.int) (fun j σ H3 => (∃ u v : Option V, σ = [some (.int i), some (.ref l), u, v]) ∧ Same H H3 ∧ H3 p = some (tupI (natI (powsOf i.toNat))) ∧ ∃ xs, H3 l = some (.lst xs) ∧ xs.length = sumN ((powsOf i.toNat).take j)) ⟨⟨none, none, rfl⟩, s1.trans s2, hp2, [], s2 _ _ hl1, rfl⟩ (fun j σ H3 _ ⟨_, _, h, _⟩ => SqT.of h) ?_ ?_
    · rintro j x pp σ H3 hx hpp ⟨⟨u, v, rfl⟩, s3, hp3, xs, hl3, hlen⟩
      obtain ⟨c, hc, rfl⟩ : ∃ c : Nat, (powsOf i.toNat)[j]? = some c ∧ x = .int (c : Int) := by
        unfold natI at hx
        rw [List.getElem?_map, List.getElem?_map] at hx
        cases hq : (powsOf i.toNat)[j]? with
        | none => rw [hq] at hx; cases hx
        | some c => rw [hq] at hx; cases hx; exact ⟨c, rfl, rfl⟩
      have hst := sumN_step hc
      have hle := sumN_le (powsOf i.toNat) (j + 1)
      have s4 := Same.more (o := .tup [.int (j : Int), .int (c : Int)]) (Same.refl H3) hpp
      refine ⟨pp, _, rfl, SqT.of upd_same, rfl, _, _, rfl, _, _, rfl, rfl, ?_⟩
      refine ⟨_, rfl, .inl ⟨rfl, _, SqL.of (s4 _ _ hl3)⟩, _, rfl, (by show 1 ≤ sizeLine; decide), fun l2 H5 f5 s5 hl5 => ⟨_, rfl, l2, (c : Int), _, rfl, rfl, hl5, by omega, by omega, ?_, fun l3 H6 f6 s6 hl6 => ⟨l, l3, xs, _, rfl, rfl, s6 _ _ (s5 _ _ (s4 _ _ hl3)), hl6, ?_, ⟨⟨_, _, rfl⟩, ?_, ?_, _, upd_same, ?_⟩⟩⟩⟩
      · rw [sizeLine_eq]; show 1 * _ ≤ _; omega
      · rw [sizeLine_eq]; simp; omega
      · intro b o e
        rw [upd_ne (ne_of_none e f1)]
        exact s6 _ _ (s5 _ _ (s4 _ _ (s3 _ _ e)))
      · rw [upd_ne lp.symm]
        exact s6 _ _ (s5 _ _ (s4 _ _ hp3))
      · rw [List.length_append, hst, hlen]
        simp
    · rintro σ H3 ⟨⟨u, v, rfl⟩, s3, hp3, xs, hl3, hlen⟩
      refine ⟨_, rfl, q l H3 xs f1 s3 hl3 ?_⟩
      rw [hlen]
      unfold natI
      rw [List.length_map, List.length_map, List.take_length]
def sp_onward : Sp := fun vs H Q _ => ∃ a b : Int, vs = [.int a, .int b] ∧ ∀ c : Int, Q (.int c) H
theorem ok_onward (T : Tx K mg) : FnOk P w K mg base CX0 1 T.f_onward T.fd_onward ["number", "done"] sp_onward := by
  refine T.D_onward.fn.okQ sc_onward (fun vs H Q E h => ?_) (fun cdv A outer s H vs Q E hr h => ?_)
  · obtain ⟨a, b, rfl, _⟩ := h
    rfl
  · obtain ⟨a, b, rfl, q⟩ := h
    refine ⟨_, (qss_one (qs_ret (qe_ifExp (qt_cmpR op_eq (qe_op op_add (qv 0) qe_int) (qv 1) (nomark _)) qe_int (qe_op op_add (qv 0) qe_int)))), ?_⟩
    exact ⟨_, rfl, _, _, rfl, rfl, _, rfl, rfl, _, rfl, ite2 (fun _ => q _) (fun _ => ⟨_, rfl, _, _, rfl, rfl, q _⟩)⟩
def sp_still_rows : Sp := fun vs H Q _ => ∃ a : Int, vs = [.int a] ∧ ∀ l H' xs, Same H H' → H' l = some (.lst xs) → xs.length = 2 → Q (.ref l) H'
theorem ok_still_rows (T : Tx K mg) : FnOk P w K mg base CX0 1 T.f_still_rows T.fd_still_rows ["begin"] sp_still_rows := by
  refine T.D_still_rows.fn.okQ sc_still_rows (fun vs H Q E h => ?_) (fun cdv A outer s H vs Q E hr h => ?_)
  · obtain ⟨a, rfl, _⟩ := h
    rfl
  · obtain ⟨a, rfl, q⟩ := h
    refine ⟨_, (qss_one (qs_ret (qe_lstA (qa_c (qe_tupA (qa_c qe_str (qa_c qe_int (qa_c (qe_op op_add (qv 0) qe_int) qa_nil)))) (qa_c (qe_tupA (qa_c qe_str (qa_c qe_int (qa_c qe_int (qa_c qe_int qa_nil))))) qa_nil))))), ?_⟩
    exact ⟨_, rfl, _, _, rfl, rfl, (by show 3 ≤ sizeLine; decide), fun p1 H1 f1 s1 h1 => ⟨(by show 4 ≤ sizeLine; decide), fun p2 H2 f2 s2 h2 => ⟨(by show 2 ≤ sizeLine; decide), fun l H3 f3 s3 h3 => q l H3 _ ((s1.trans s2).trans s3) h3 rfl⟩⟩⟩
def sp_fraction_rows : Sp := fun vs H Q _ => ∃ (n : Nat) (wl gl : Addr) (ws gs : List V), vs = [.int n, .ref wl, .ref gl] ∧ n ≤ 100000 ∧ H wl = some (.lst ws) ∧ H gl = some (.lst gs) ∧ ws.length ≤ 1000 ∧ gs.length ≤ 1000 ∧ 1 ≤ ws.length + gs.length ∧ 
  ∀ l H' xs, Same H H' → H' l = some (.lst xs) → xs.length ≤ 2 * ws.length + gs.length → Q (.ref l) H'
theorem ok_fraction_rows (T : Tx K mg) : FnOk P w K mg base CX0 2 T.f_fraction_rows T.fd_fraction_rows ["begin", "wanted", "given"] sp_fraction_rows := by
  refine T.D_fraction_rows.fn.okQ sc_fraction_rows (fun vs H Q E h => ?_) (fun cdv A outer s H vs Q E hr h => ?_)
  · obtain ⟨n, wl, gl, ws, gs, rfl, _⟩ := h
    rfl
  · obtain ⟨n, wl, gl, ws, gs, rfl, n5, hw, hg, wl1, gl1, hne, q⟩ := h
    refine ⟨_, (qss_cons (qs_if (qt_cmpR op_eq (qe_op op_add (qe_callB call_len_seq (by rfl) T.m_len b_len (qa_c (qv 1) qa_nil)) (qe_callB call_len_seq (by rfl) T.m_len b_len (qa_c (qv 2) qa_nil))) qe_int (nomark _))
        (qss_one (qs_ret (qe_call (ok_still_rows T) (hr.mono (by decide)) rfl T.D_still_rows.at_ T.D_still_rows.fn.kp T.D_still_rows.bd .nil pass0 (qa_c (qv 0) qa_nil))))
        qss_nil)
      (qss_cons (qs_set (i := 3) sc_fraction_rows.nd rfl (Or.inl rfl) (qe_op op_add (qe_op op_add (qv 0) (qe_callB call_len_seq (by rfl) T.m_len b_len (qa_c (qv 1) qa_nil))) (qe_callB call_len_seq (by rfl) T.m_len b_len (qa_c (qv 2) qa_nil))))
      (qss_cons (qs_set (i := 4) sc_fraction_rows.nd rfl (Or.inl rfl) (qe_listRev rfl (by rfl) T.m_reversed (by rfl) T.m_list (qa_c (qe_slice sl_list (qv 1) qo_none (qo_some (qe_un un_neg qe_int))) qa_nil)))
      (qss_cons (qs_set (i := 5) sc_fraction_rows.nd rfl (Or.inl rfl) (qe_op op_add (qv 3) (qe_callB call_len_seq (by rfl) T.m_len b_len (qa_c (qv 4) qa_nil))))
      (qss_cons (qs_set (i := 6) sc_fraction_rows.nd rfl (Or.inl rfl) (qe_lstA qa_nil))
      (qss_cons (qs_for PassesOwn.never rfl (qi_enum rfl rfl T.m_enumerate (qa_c (qv 1) qa_nil)) (qg_tup rfl (qgs_cons (qg_name (i := 7) sc_fraction_rows.nd rfl (Or.inl rfl)) (qgs_cons (qg_name (i := 8) sc_fraction_rows.nd rfl (Or.inl rfl)) qgs_nil)))
        (qss_one (qs_expr (qe_bm PySem.F.plainAttrs_list PySem.F.slot_list_append PySem.F.type_list_append mt_appendA (qv 6) (qa_c (qe_tupA (qa_c qe_str (qa_c (qv 8) (qa_c (qe_call (ok_onward T) (hr.mono (by decide)) rfl T.D_onward.at_ T.D_onward.fn.kp T.D_onward.bd .nil pass0 (qa_c (qe_op op_add (qv 0) (qv 7)) (qa_c (qv 3) qa_nil))) (qa_c (qe_op op_sub (qv 5) (qv 7)) qa_nil))))) qa_nil)))))
      (qss_cons (qs_for PassesOwn.never rfl (qi_enumK rfl rfl T.m_enumerate (qa_c (qv 2) qa_nil) (qe_op op_add (qv 0) (qe_callB call_len_seq (by rfl) T.m_len b_len (qa_c (qv 1) qa_nil)))) (qg_tup rfl (qgs_cons (qg_name (i := 9) sc_fraction_rows.nd rfl (Or.inl rfl)) (qgs_cons (qg_name (i := 8) sc_fraction_rows.nd rfl (Or.inl rfl)) qgs_nil)))
        (qss_one (qs_expr (qe_bm PySem.F.plainAttrs_list PySem.F.slot_list_append PySem.F.type_list_append mt_appendA (qv 6) (qa_c (qe_tupA (qa_c qe_str (qa_c (qv 8) (qa_c (qe_call (ok_onward T) (hr.mono (by decide)) rfl T.D_onward.at_ T.D_onward.fn.kp T.D_onward.bd .nil pass0 (qa_c (qv 9) (qa_c (qv 3) qa_nil))) qa_nil)))) qa_nil)))))
      (qss_cons (qs_for PassesOwn.never rfl (qi_enumK rfl rfl T.m_enumerate (qa_c (qv 4) qa_nil) (qv 3)) (qg_tup rfl (qgs_cons (qg_name (i := 9) sc_fraction_rows.nd rfl (Or.inl rfl)) (qgs_cons (qg_name (i := 8) sc_fraction_rows.nd rfl (Or.inl rfl)) qgs_nil)))
        (qss_one (qs_expr (qe_bm PySem.F.plainAttrs_list PySem.F.slot_list_append PySem.F.type_list_append mt_appendA (qv 6) (qa_c (qe_tupA (qa_c qe_str (qa_c (qv 8) (qa_c (qe_op op_add (qv 9) qe_int) qa_nil)))) qa_nil)))))
      (qss_one (qs_ret (qv 6))))))))))), ?_⟩
    have ltv : ∀ k : Nat, (k : Int) = 0 → decide (V.int (k : Int) = V.int 0) = true := fun k h => decide_eq_true (by rw [h])
    refine ⟨_, rfl, wl, ws, rfl, .inl (SqL.of hw), _, rfl, gl, gs, rfl, .inl (SqL.of hg), _, _, rfl, rfl, rfl, _, rfl, ?_⟩
    rw [decide_eq_false (show ¬ V.int ((ws.length : Int) + (gs.length : Int)) = V.int 0 from fun z => by injection z with z; omega)]
    refine iteF ?_
    refine ⟨_, rfl, _, rfl, wl, ws, rfl, .inl (SqL.of hw), _, _, rfl, rfl, _, rfl, gl, gs, rfl, .inl (SqL.of hg), _, _, rfl, rfl, ?_⟩
    refine ⟨_, rfl, _, rfl, _, rfl, wl, ws, rfl, SqL.of hw, fun p1 hp1 => ⟨p1, _, rfl, upd_same, fun bk H2 f2 s2 hbk => ?_⟩⟩
    generalize hys : (cutV ws none (some (-1))).reverse = ys at hbk
    have yl : ys.length ≤ ws.length := by rw [← hys, List.length_reverse]; exact cutV_length _ _ _
    have s02 : Same H H2 := (Same.new hp1).trans s2
    refine ⟨_, rfl, _, rfl, bk, _, rfl, .inl (SqL.of hbk), _, _, rfl, rfl, ?_⟩
    refine ⟨(by show 0 ≤ sizeLine; decide), fun l H3 f3 s3 hl3 => ?_⟩
    have hw2 := s02 _ _ hw
    have hg2 := s02 _ _ hg
    have app : ∀ (G G' : Hp) (xs : List V) (tp : Addr), Same H2 G → But l G G' → G' l = some (.lst (xs ++ [.ref tp])) → Same H2 G' := fun G G' xs tp sg bg _ b o e => bg _ _ (ne_of_none e f3) (sg _ _ e)
    refine ⟨_, rfl, wl, ws, rfl, s3 _ _ hw2, for_enum (xs := ws) (fun j σ H4 => (∃ u v w : Option V, σ = [some (.int n), some (.ref wl), some (.ref gl), some (.int ((n : Int) + (ws.length : Int) + (gs.length : Int))), some (.ref bk), some (.int ((n : Int) + (ws.length : Int) + (gs.length : Int) + (ys.length : Int))), some (.ref l), u, v, w]) ∧ Same H2 H4 ∧ ∃ xs, H4 l = some (.lst xs) ∧ xs.length = j) ⟨⟨_, _, _, rfl⟩, s3, [], hl3, rfl⟩ (fun j σ H4 _ ⟨_, s', _⟩ => s' _ _ hw2) ?_ ?_⟩
    · rintro j x pp σ H4 hx hpp ⟨⟨u, v, w, rfl⟩, s4, xs, hl4, hlen⟩
      have hj : j < ws.length := (List.getElem?_eq_some_iff.mp hx).1
      have s5 := Same.more (o := .tup [.int (j : Int), x]) (Same.refl H4) hpp
      refine ⟨pp, _, rfl, SqT.of upd_same, rfl, _, _, rfl, _, _, rfl, rfl, ?_⟩
      refine ⟨_, rfl, .inl ⟨rfl, _, SqL.of (s5 _ _ hl4)⟩, _, rfl, _, rfl, _, rfl, _, _, rfl, rfl, _, rfl, _, _, rfl, fun c => ⟨_, rfl, _, rfl, _, _, rfl, rfl, (by show 4 ≤ sizeLine; decide), fun tp H6 f6 s6 htp => ⟨l, xs, _, rfl, rfl, s6 _ _ (s5 _ _ hl4), (by rw [sizeLine_eq]; omega), fun H7 b7 hl7 => ?_⟩⟩⟩
      exact ⟨⟨_, _, _, rfl⟩, app H6 H7 xs tp ((s4.trans s5).trans s6) b7 hl7, _, hl7, by rw [List.length_append, hlen]; rfl⟩
    · rintro σ H4 ⟨⟨u, v, w, rfl⟩, s4, xs4, hl4, hlen4⟩
      refine ⟨_, rfl, _, rfl, _, rfl, wl, ws, rfl, .inl (SqL.of (s4 _ _ hw2)), _, _, rfl, rfl, gl, gs, n + ws.length, rfl, congrArg V.int (by omega), by omega, s4 _ _ hg2, for_enumK (k := n + ws.length) (xs := gs) (fun j σ H4 => (∃ u v w : Option V, σ = [some (.int n), some (.ref wl), some (.ref gl), some (.int ((n : Int) + (ws.length : Int) + (gs.length : Int))), some (.ref bk), some (.int ((n : Int) + (ws.length : Int) + (gs.length : Int) + (ys.length : Int))), some (.ref l), u, v, w]) ∧ Same H2 H4 ∧ ∃ xs, H4 l = some (.lst xs) ∧ xs.length = ws.length + j) ⟨⟨_, _, _, rfl⟩, s4, xs4, hl4, hlen4⟩ (fun j σ H4 _ ⟨_, s', _⟩ => s' _ _ hg2) ?_ ?_⟩
      · rintro j x pp σ H4 hx hpp ⟨⟨u, v, w, rfl⟩, s4, xs, hl4, hlen⟩
        have hj : j < gs.length := (List.getElem?_eq_some_iff.mp hx).1
        have s5 := Same.more (o := .tup [.int ((n + ws.length + j : Nat) : Int), x]) (Same.refl H4) hpp
        refine ⟨pp, _, rfl, SqT.of upd_same, rfl, _, _, rfl, _, _, rfl, rfl, ?_⟩
        refine ⟨_, rfl, .inl ⟨rfl, _, SqL.of (s5 _ _ hl4)⟩, _, rfl, _, rfl, _, rfl, _, _, rfl, fun c => ⟨(by show 3 ≤ sizeLine; decide), fun tp H6 f6 s6 htp => ⟨l, xs, _, rfl, rfl, s6 _ _ (s5 _ _ hl4), (by rw [sizeLine_eq]; omega), fun H7 b7 hl7 => ?_⟩⟩⟩
        exact ⟨⟨_, _, _, rfl⟩, app H6 H7 xs tp ((s4.trans s5).trans s6) b7 hl7, _, hl7, by rw [List.length_append, hlen]; rfl⟩
      · rintro σ H5 ⟨⟨u, v, w, rfl⟩, s5, xs5, hl5, hlen5⟩
        refine ⟨_, rfl, _, rfl, bk, ys, n + ws.length + gs.length, rfl, congrArg V.int (by omega), by omega, s5 _ _ hbk, for_enumK (k := n + ws.length + gs.length) (xs := ys) (fun j σ H4 => (∃ u v w : Option V, σ = [some (.int n), some (.ref wl), some (.ref gl), some (.int ((n : Int) + (ws.length : Int) + (gs.length : Int))), some (.ref bk), some (.int ((n : Int) + (ws.length : Int) + (gs.length : Int) + (ys.length : Int))), some (.ref l), u, v, w]) ∧ Same H2 H4 ∧ ∃ xs, H4 l = some (.lst xs) ∧ xs.length = ws.length + gs.length + j) ⟨⟨_, _, _, rfl⟩, s5, xs5, hl5, hlen5⟩ (fun j σ H4 _ ⟨_, s', _⟩ => s' _ _ hbk) ?_ ?_⟩
        · rintro j x pp σ H4 hx hpp ⟨⟨u, v, w, rfl⟩, s4, xs, hl4, hlen⟩
          have hj : j < ys.length := (List.getElem?_eq_some_iff.mp hx).1
          have s5 := Same.more (o := .tup [.int ((n + ws.length + gs.length + j : Nat) : Int), x]) (Same.refl H4) hpp
          refine ⟨pp, _, rfl, SqT.of upd_same, rfl, _, _, rfl, _, _, rfl, rfl, ?_⟩
          refine ⟨_, rfl, .inl ⟨rfl, _, SqL.of (s5 _ _ hl4)⟩, _, rfl, _, rfl, _, _, rfl, rfl, (by show 3 ≤ sizeLine; decide), fun tp H6 f6 s6 htp => ⟨l, xs, _, rfl, rfl, s6 _ _ (s5 _ _ hl4), (by rw [sizeLine_eq]; omega), fun H7 b7 hl7 => ?_⟩⟩
          exact ⟨⟨_, _, _, rfl⟩, app H6 H7 xs tp ((s4.trans s5).trans s6) b7 hl7, _, hl7, by rw [List.length_append, hlen]; rfl⟩
        · rintro σ H6 ⟨⟨u, v, w, rfl⟩, s6, xs6, hl6, hlen6⟩
          exact ⟨_, rfl, q l H6 xs6 (s02.trans s6) hl6 (by omega)⟩
end
end W2

set_option Elab.async false
set_option linter.all false
set_option maxRecDepth 100000
set_option maxHeartbeats 4000000
namespace W2
open PySem L2 Mth Xn
section
variable {P : Program} {w : World} {K : PySem.W.Frag} {mg : Str → Option Value} {base : Heap}
def PgV (H : Hp) (xs : List V) (us : List Nat) : Prop := xs.length = us.length ∧ ∀ (i : Nat) (x : V), xs[i]? = some x → ∃ (c : Addr) (a b : Int), x = .ref c ∧ H c = some (.tup [.int a, .int b]) ∧ 1 ≤ a ∧ 1 ≤ b ∧ stripAll a.toNat = 1 ∧ stripAll b.toNat = 1 ∧ us[i]? = some (sumN (powsOf b.toNat) + sumN (powsOf a.toNat)) ∧ sumN (powsOf b.toNat) ≤ 1000 ∧ sumN (powsOf a.toNat) ≤ 1000 ∧ 1 ≤ sumN (powsOf b.toNat) + sumN (powsOf a.toNat)
structure PtAt (D : Addr) (H : Hp) (x : V) (u : Nat) : Prop where
  ex : ∃ (c wl gl : Addr) (ws gs : List V), x = .ref c ∧ c ≠ D ∧ wl ≠ D ∧ gl ≠ D ∧ H c = some (.tup [.ref wl, .ref gl]) ∧ H wl = some (.lst ws) ∧ H gl = some (.lst gs) ∧ u = ws.length + gs.length ∧ ws.length ≤ 1000 ∧ gs.length ≤ 1000 ∧ 1 ≤ ws.length + gs.length
theorem PtAt.but {D : Addr} {H H' : Hp} {x : V} {u : Nat} (h : PtAt D H x u) (b : But D H H') : PtAt D H' x u := by
  obtain ⟨c, wl, gl, ws, gs, e, n1, n2, n3, h1, h2, h3, r⟩ := h.ex
  exact ⟨⟨c, wl, gl, ws, gs, e, n1, n2, n3, b _ _ n1 h1, b _ _ n2 h2, b _ _ n3 h3, r⟩⟩
def PtV (D : Addr) (H : Hp) (ps : List V) (us : List Nat) : Prop := ps.length = us.length ∧ ∀ (i : Nat) (x : V), ps[i]? = some x → ∃ u, us[i]? = some u ∧ PtAt D H x u
theorem PtV.but {D : Addr} {H H' : Hp} {ps : List V} {us : List Nat} (h : PtV D H ps us) (b : But D H H') : PtV D H' ps us := ⟨h.1, fun i x hx => by
  obtain ⟨u, h1, h2⟩ := h.2 i x hx
  exact ⟨u, h1, h2.but b⟩⟩
theorem PtV.snoc {D : Addr} {H : Hp} {ps : List V} {us : List Nat} (h : PtV D H ps us) {x : V} {u : Nat} (hx : PtAt D H x u) : PtV D H (ps ++ [x]) (us ++ [u]) := ⟨by rw [List.length_append, List.length_append, h.1]; rfl, fun i y hy => by
  rcases Nat.lt_or_ge i ps.length with z | z
  · rw [List.getElem?_append_left z] at hy
    obtain ⟨u', h1, h2⟩ := h.2 i y hy
    exact ⟨u', by rw [List.getElem?_append_left (by rw [← h.1]; exact z)]; exact h1, h2⟩
  · rw [List.getElem?_append_right z] at hy
    have z0 : i - ps.length = 0 := by
      rcases Nat.eq_zero_or_pos (i - ps.length) with z | z
      · exact z
      · rw [List.getElem?_eq_none (show [x].length ≤ _ from z)] at hy
        cases hy
    rw [z0] at hy
    cases hy
    exact ⟨u, by rw [List.getElem?_append_right (by rw [← h.1]; exact z), ← h.1, z0]; rfl, hx⟩⟩
theorem natI_sum : ∀ us : List Nat, (natI us).sum = (sumN us : Int)
  | [] => rfl
  | u :: us => by
    show (u : Int) + (natI us).sum = ((u + sumN us : Nat) : Int)
    rw [natI_sum us]; omega
def sp_machine_of (CT : Addr) : Sp := fun vs H Q E => ∃ (b : Addr) (xs : List V) (us : List Nat), vs = [.ref b] ∧ H b = some (.tup xs) ∧ PgV H xs us ∧ xs.length ≤ 20 ∧
  (sumN us ≤ 300 → ∀ (p : Addr) (H' : Hp) (v : V), Same H H' → H' p = some (.tup [.int 10, v]) → Q (.ref p) H') ∧
  (300 < sumN us → ∀ H', Same H H' → E (.ref CT) none H')
theorem ok_machine_of (T : Tx K mg) : FnOk P w K mg base (CXE P w) 4 T.f_machine_of T.fd_machine_of ["program"] (sp_machine_of T.c_TooMany) := by
  refine T.D_machine_of.fn.okX sc_machine_of (fun vs H Q E h => ?_) (fun cdv A outer s H vs Q E hr h => ?_)
  · obtain ⟨b, xs, us, rfl, _⟩ := h
    rfl
  · obtain ⟨b, xs, us, rfl, hb, hP, x20, q1, q2⟩ := h
    refine ⟨_, (qss_cons (qs_setC (i := 1) sc_machine_of.nd rfl (Or.inl rfl) (compOk_of (osc := defScope s_machine_of) (XN := ["program", "parts", "rows", "wanted", "given"]) (N := ["top", "bottom"]) (js := [none, none]) rfl rfl rfl (List.forall_mem_nil _) (by decide +kernel) rfl) rfl (qi_tup (qv 0)) (fun _ _ _ _ => (qg_tupN (K := K) (n := 2) rfl rfl (qgs_cons (qg_name (i := 0) (show List.Nodup (["top", "bottom"] : List Str) from by decide +kernel) rfl (Or.inl rfl) (Or.inr rfl)) (qgs_cons (qg_name (i := 1) (show List.Nodup (["top", "bottom"] : List Str) from by decide +kernel) rfl (Or.inl rfl) (Or.inr rfl)) qgs_nil)))) (fun _ _ _ _ => qts_nil)
          (fun _ _ _ _ => (qe_tupA (qa_c (qe_call (ok_counters_of T) (hr.mono (by decide)) rfl T.D_counters_of.at_ T.D_counters_of.fn.kp T.D_counters_of.bd .nil pass0 (qa_c (qv 1) qa_nil)) (qa_c (qe_call (ok_counters_of T) (hr.mono (by decide)) rfl T.D_counters_of.at_ T.D_counters_of.fn.kp T.D_counters_of.bd .nil pass0 (qa_c (qv 0) qa_nil)) qa_nil)))))
      (qss_cons (qs_if (qt_cmpR op_gt (qe_callB (call_sumL rfl) (by rfl) T.m_sum b_sum (qa_c (qe_comp (compOk_of (osc := defScope s_machine_of) (XN := ["program", "parts", "rows", "wanted", "given"]) (N := ["wanted", "given"]) (js := [none, none]) rfl rfl rfl (List.forall_mem_nil _) (by decide +kernel) rfl) rfl (qi_list (qv 1)) (fun _ _ _ _ => (qg_tupN (K := K) (n := 2) rfl rfl (qgs_cons (qg_name (i := 0) (show List.Nodup (["wanted", "given"] : List Str) from by decide +kernel) rfl (Or.inl rfl) (Or.inr rfl)) (qgs_cons (qg_name (i := 1) (show List.Nodup (["wanted", "given"] : List Str) from by decide +kernel) rfl (Or.inl rfl) (Or.inr rfl)) qgs_nil)))) (fun _ _ _ _ => qts_nil)
          (fun _ _ _ _ => (qe_op op_add (qe_callB (call_len_seqN (K := K) rfl) (by rfl) T.m_len b_len (qa_c (qv 0) qa_nil)) (qe_callB (call_len_seqN (K := K) rfl) (by rfl) T.m_len b_len (qa_c (qv 1) qa_nil))))) qa_nil)) (qe_globC (by rfl) T.g_MOST_FACTORS) (nomark _))
        (qss_one (qs_raise xok_cx rfl rfl T.E_TooMany (by rfl) (qa_c qe_str qa_nil)))
        qss_nil)
      (qss_cons (qs_set (i := 2) sc_machine_of.nd rfl (Or.inl rfl) (qe_lstA qa_nil))
      (qss_cons (qs_for PassesOwn.leaving rfl (qi_list (qv 1)) (qg_tup rfl (qgs_cons (qg_name (i := 3) sc_machine_of.nd rfl (Or.inl rfl)) (qgs_cons (qg_name (i := 4) sc_machine_of.nd rfl (Or.inl rfl)) qgs_nil)))
        (qss_one (qs_expr (qe_bm PySem.F.plainAttrs_list PySem.F.slot_list_extend PySem.F.type_list_extend mt_extend (qv 2) (qa_c (qe_call (ok_fraction_rows T) (hr.mono (by decide)) rfl T.D_fraction_rows.at_ T.D_fraction_rows.fn.kp T.D_fraction_rows.bd .nil pass0 (qa_c (qe_callB call_len_seq (by rfl) T.m_len b_len (qa_c (qv 2) qa_nil)) (qa_c (qv 3) (qa_c (qv 4) qa_nil)))) qa_nil)))))
      (qss_one (qs_ret (qe_tupA (qa_c (qe_callB call_len_seq (by rfl) T.m_len b_len (qa_c (qe_glob (v := .ref T.a_PRIMES) (by rfl) T.g_PRIMES rfl) qa_nil)) (qa_c (qe_callTy call_tuple_ofA (by rfl) T.m_tuple b_tuple (qa_c (qv 2) qa_nil)) qa_nil))))))))), ?_⟩
    refine ⟨_, rfl, b, rfl, ⟨_, SqT.of hb⟩, fun D hD => ?_⟩
    refine comp_tup (K := K) (a := b) (xs := xs) (by rw [sizeLine_eq]; omega) (fun i σ' H' ys => (∃ u v : Option V, σ' = [u, v]) ∧ Same H H' ∧ PtV D H' ys (us.take i)) ⟨⟨_, _, rfl⟩, Same.new hD, rfl, fun i x hx => by cases hx⟩ (fun i σ' H' ys _ _ ⟨_, s', _⟩ => SqT.of (s' _ _ hb)) ?_ ?_
    · rintro i x σ' H' ys R hx hD' hyl ⟨⟨u, v, rfl⟩, s', hP'⟩ kk
      obtain ⟨c, a, b2, rfl, hc, a1, b1, sa, sb, hu, lb, la, l1⟩ := hP.2 i x hx
      refine ⟨c, _, rfl, SqT.of (s' _ _ hc), rfl, _, _, rfl, _, _, rfl, rfl, ?_⟩
      refine ⟨_, rfl, b2, rfl, b1, sb, lb, fun wl H2 ws fw s2 hwl hws => ⟨_, rfl, a, rfl, a1, sa, la, fun gl H3 gs fg s3 hgl hgs => ⟨(by show 2 ≤ sizeLine; decide), fun c2 H4 f4 s4 hc2 => ?_⟩⟩⟩
      have s24 := (s2.trans s3).trans s4
      refine kk _ _ _ (s24 _ _ hD') ⟨⟨_, _, rfl⟩, ?_, ?_⟩
      · intro e o eo
        rw [upd_ne (ne_of_none eo hD)]
        exact s24 _ _ (s' _ _ eo)
      · rw [List.take_add_one, hu]
        refine ((hP'.but (But.of s24)).snoc ⟨⟨c2, wl, gl, ws, gs, rfl, (ne_of_none (s3 _ _ (s2 _ _ hD')) f4).symm, (ne_of_none hD' fw).symm, (ne_of_none (s2 _ _ hD') fg).symm, hc2, s4 _ _ (s3 _ _ hwl), s4 _ _ hgl, by rw [hws, hgs], by omega, by omega, by omega⟩⟩).but But.upd
    · rintro σ' H1 ys hD1 hyl ⟨_, s1, hP1⟩
      have e1 : us.take xs.length = us := List.take_of_length_le (by rw [hP.1]; exact Nat.le_refl _)
      rw [e1] at hP1
      have yl := hP1.1
      have xl := hP.1
      refine ⟨_, rfl, D, rfl, ⟨_, SqL.of hD1⟩, fun D2 hD2 => comp_list (K := K) (a := D) (xs := ys) (by rw [sizeLine_eq]; omega) (fun i σ' H' zs => (∃ u v : Option V, σ' = [u, v]) ∧ Same H1 H' ∧ zs = (natI (us.take i)).map V.int) ⟨⟨_, _, rfl⟩, Same.new hD2, rfl⟩ (fun i σ' H' zs _ _ ⟨_, s', _⟩ => SqL.of (s' _ _ hD1)) ?_ ?_⟩
      · rintro i x σ' H' zs R hx hD' hzl ⟨⟨u, v, rfl⟩, s', rfl⟩ kk
        obtain ⟨u', hu, ⟨c, wl, gl, ws, gs, rfl, n1, n2, n3, hc, hwl, hgl, rfl, w1, g1, l1⟩⟩ := hP1.2 i x hx
        refine ⟨c, _, rfl, SqT.of (s' _ _ hc), rfl, _, _, rfl, _, _, rfl, rfl, ?_⟩
        refine ⟨_, rfl, wl, ws, rfl, .inl (SqL.of (s' _ _ hwl)), _, rfl, gl, gs, rfl, .inl (SqL.of (s' _ _ hgl)), _, _, rfl, rfl, kk _ _ _ hD' ⟨⟨_, _, rfl⟩, ?_, ?_⟩⟩
        · intro e o eo
          rw [upd_ne (ne_of_none eo hD2)]
          exact s' _ _ eo
        · rw [List.take_add_one, hu]
          unfold natI
          rw [List.map_append, List.map_append]
          congr 2
      · rintro σ' H2 zs hD3 hzl ⟨_, s2, rfl⟩
        have e2 : us.take ys.length = us := List.take_of_length_le (by rw [hP1.1]; exact Nat.le_refl _)
        rw [e2] at hD3
        refine ⟨D2, natI us, rfl, SqL.of hD3, _, _, rfl, rfl, _, rfl, ?_⟩
        rw [natI_sum]
        have s02 := s1.trans s2
        refine ite2 (fun h => ?_) (fun h => ?_)
        · have h0 : (sumN us : Int) > 300 := of_decide_eq_true h
          exact ⟨(by show 1 ≤ sizeLine; decide), q2 (by omega) H2 s02⟩
        · have h0 : ¬ (sumN us : Int) > 300 := fun z => h (decide_eq_true z)
          refine ⟨(by show 0 ≤ sizeLine; decide), fun l H3 f3 s3 hl3 => ?_⟩
          refine ⟨_, rfl, D, rfl, ⟨_, SqL.of (s3 _ _ (s2 _ _ hD1))⟩, for_list (K := K) (a := D) (xs := ys) (fun i σ H4 => (∃ u v : Option V, σ = [some (.ref b), some (.ref D), some (.ref l), u, v]) ∧ Same H2 H4 ∧ ∃ zs, H4 l = some (.lst zs) ∧ zs.length ≤ 2 * sumN (us.take i)) ⟨⟨_, _, rfl⟩, s3, [], hl3, Nat.zero_le _⟩ (fun i σ H4 _ ⟨_, s', _⟩ => SqL.of (s' _ _ (s2 _ _ hD1))) ?_ ?_⟩
          · rintro i x σ H4 hx ⟨⟨u, v, rfl⟩, s4, zs, hl4, hlen⟩
            obtain ⟨u', hu, ⟨c, wl, gl, ws, gs, rfl, n1, n2, n3, hc, hwl, hgl, rfl, w1, g1, l1⟩⟩ := hP1.2 i x hx
            have hst := sumN_step hu
            have hle := sumN_le us (i + 1)
            have s14 := s2.trans s4
            refine ⟨c, _, rfl, SqT.of (s14 _ _ hc), rfl, _, _, rfl, _, _, rfl, rfl, ?_⟩
            refine ⟨_, rfl, .inl ⟨rfl, _, SqL.of hl4⟩, _, rfl, l, zs, rfl, .inl (SqL.of hl4), _, rfl, _, rfl, zs.length, wl, gl, ws, gs, rfl, by omega, s14 _ _ hwl, s14 _ _ hgl, w1, g1, l1, fun l5 H5 xs5 s5 hl5 hlen5 => ⟨l, l5, zs, xs5, rfl, rfl, s5 _ _ hl4, hl5, (by rw [sizeLine_eq]; omega), ⟨⟨_, _, rfl⟩, ?_, _, upd_same, ?_⟩⟩⟩
            · intro e o eo
              rw [upd_ne (ne_of_none eo f3)]
              exact s5 _ _ (s4 _ _ eo)
            · rw [List.length_append]; omega
          · rintro σ H4 ⟨⟨u, v, rfl⟩, s4, zs, hl4, hlen⟩
            refine ⟨_, _, rfl, .inr (T.t_PRIMES H4), _, rfl, l, zs, rfl, SqL.of hl4, fun p1 H5 f5 s5 hp1 => ⟨(by show 2 ≤ sizeLine; decide), fun p H6 f6 s6 hp => q1 (by omega) p H6 _ ((s02.trans s4).trans (s5.trans s6)) hp⟩⟩
end
end W2

set_option Elab.async false
set_option linter.all false
set_option maxRecDepth 100000
set_option maxHeartbeats 4000000
namespace W2
open PySem L2 Mth Xn
theorem b_ValueError : bootBuiltins "ValueError" = some (.type "ValueError") := by decide +kernel
section
variable {P : Program} {w : World} {K : PySem.W.Frag} {mg : Str → Option Value} {base : Heap}
/-! ### _law_kind_plain, in the machines' order -/
def kindWords : List Str := ["rest", "many", "text", "number", "order", "program", "shared", "powers", "trail", "name", "deed", "row"]
structure KindAt (T : Tx K mg) (C : Addr) (i : Nat) : Prop where
  xc : PySem.W.XcIs K C
  ve : PySem.W.kitOne K (.ref C) (.type "ValueError") = some true
  k0 : PySem.W.kitOne K (.ref C) (.ref T.c_AtRest) = some (i == 0)
  k1 : PySem.W.kitOne K (.ref C) (.ref T.c_TooMany) = some (i == 1)
  k2 : PySem.W.kitOne K (.ref C) (.ref T.c_NoText) = some (i == 2)
  k3 : PySem.W.kitOne K (.ref C) (.ref T.c_NoNumber) = some (i == 3)
  k4 : PySem.W.kitOne K (.ref C) (.ref T.c_NoOrder) = some (i == 4)
  k5 : PySem.W.kitOne K (.ref C) (.ref T.c_NoProgram) = some (i == 5)
  k6 : PySem.W.kitOne K (.ref C) (.ref T.c_Shared) = some (i == 6)
  k7 : PySem.W.kitOne K (.ref C) (.ref T.c_NoPowers) = some (i == 7)
  k8 : PySem.W.kitOne K (.ref C) (.ref T.c_NoTrail) = some (i == 8)
  k9 : PySem.W.kitOne K (.ref C) (.ref T.c_NoName) = some (i == 9)
  k10 : PySem.W.kitOne K (.ref C) (.ref T.c_NoDeed) = some (i == 10)
  k11 : PySem.W.kitOne K (.ref C) (.ref T.c_NoRow) = some (i == 11)
abbrev twelve (i : Nat) : List Bool := [i == 0, i == 1, i == 2, i == 3, i == 4, i == 5, i == 6, i == 7, i == 8, i == 9, i == 10, i == 11]
theorem twelve_count : ∀ i, i < 12 → (twelve i).count true = 1 := by decide
theorem twelve_at : ∀ i, i < 12 → (twelve i)[i]? = some true := by decide
theorem twelve_ahead : ∀ i, i < 12 → ∀ m, m < i → (twelve i)[m]? = some (!true) := by decide
def sp_l_kind_of (T : Tx K mg) : Sp := fun vs H Q _ => ∃ (e C : Addr) (i : Nat) (x : Str), vs = [.ref e] ∧ H e = some (excO e C none) ∧ KindAt T C i ∧ i < 12 ∧ kindWords[i]? = some x ∧ ∀ H', Same H H' → Q (.str x) H'
theorem okU_l_kind_of (T : Tx K mg) : FnOkU P w K mg base 1 T.f_l_kind_of T.fd_l_kind_of ["e"] (sp_l_kind_of T) := by
  refine T.D_l_kind_of.fn.okU sc_l_kind_of (fun vs H Q E h => ?_) (fun cdv A outer s H vs Q E hr h => ?_)
  · obtain ⟨e, C, i, x, rfl, _⟩ := h
    rfl
  · obtain ⟨e, C, i, x, rfl, he, k, hi, hx, q⟩ := h
    refine ⟨_, (qss_cons (qs_set (i := 1) sc_l_kind_of.nd rfl (Or.inl rfl) (qe_lstA (qa_c (qe_callB call_isX (by rfl) T.m_isinstance b_isinstance (qa_c (qv 0) (qa_c (qe_glob (v := .ref T.c_AtRest) (by rfl) T.k_AtRest rfl) qa_nil))) (qa_c (qe_callB call_isX (by rfl) T.m_isinstance b_isinstance (qa_c (qv 0) (qa_c (qe_glob (v := .ref T.c_TooMany) (by rfl) T.k_TooMany rfl) qa_nil))) (qa_c (qe_callB call_isX (by rfl) T.m_isinstance b_isinstance (qa_c (qv 0) (qa_c (qe_glob (v := .ref T.c_NoText) (by rfl) T.k_NoText rfl) qa_nil))) qa_nil)))))
      (qss_cons (qs_set (i := 1) sc_l_kind_of.nd rfl (Or.inl rfl) (qe_op op_catLA (qv 1) (qe_lstA (qa_c (qe_callB call_isX (by rfl) T.m_isinstance b_isinstance (qa_c (qv 0) (qa_c (qe_glob (v := .ref T.c_NoNumber) (by rfl) T.k_NoNumber rfl) qa_nil))) (qa_c (qe_callB call_isX (by rfl) T.m_isinstance b_isinstance (qa_c (qv 0) (qa_c (qe_glob (v := .ref T.c_NoOrder) (by rfl) T.k_NoOrder rfl) qa_nil))) (qa_c (qe_callB call_isX (by rfl) T.m_isinstance b_isinstance (qa_c (qv 0) (qa_c (qe_glob (v := .ref T.c_NoProgram) (by rfl) T.k_NoProgram rfl) qa_nil))) (qa_c (qe_callB call_isX (by rfl) T.m_isinstance b_isinstance (qa_c (qv 0) (qa_c (qe_glob (v := .ref T.c_Shared) (by rfl) T.k_Shared rfl) qa_nil))) qa_nil)))))))
      (qss_cons (qs_set (i := 1) sc_l_kind_of.nd rfl (Or.inl rfl) (qe_op op_catLA (qv 1) (qe_lstA (qa_c (qe_callB call_isX (by rfl) T.m_isinstance b_isinstance (qa_c (qv 0) (qa_c (qe_glob (v := .ref T.c_NoPowers) (by rfl) T.k_NoPowers rfl) qa_nil))) (qa_c (qe_callB call_isX (by rfl) T.m_isinstance b_isinstance (qa_c (qv 0) (qa_c (qe_glob (v := .ref T.c_NoTrail) (by rfl) T.k_NoTrail rfl) qa_nil))) (qa_c (qe_callB call_isX (by rfl) T.m_isinstance b_isinstance (qa_c (qv 0) (qa_c (qe_glob (v := .ref T.c_NoName) (by rfl) T.k_NoName rfl) qa_nil))) (qa_c (qe_callB call_isX (by rfl) T.m_isinstance b_isinstance (qa_c (qv 0) (qa_c (qe_glob (v := .ref T.c_NoDeed) (by rfl) T.k_NoDeed rfl) qa_nil))) qa_nil)))))))
      (qss_cons (qs_expr (qe_bm PySem.F.plainAttrs_list PySem.F.slot_list_append PySem.F.type_list_append mt_appendA (qv 1) (qa_c (qe_callB call_isX (by rfl) T.m_isinstance b_isinstance (qa_c (qv 0) (qa_c (qe_glob (v := .ref T.c_NoRow) (by rfl) T.k_NoRow rfl) qa_nil))) qa_nil)))
      (qss_cons (qs_if (QW.pt (qw_or (qt_cmpR op_ne (qe_bm PySem.F.plainAttrs_list PySem.F.slot_list_count PySem.F.type_list_count mt_countB (qv 1) (qa_c qe_bl qa_nil)) qe_int (nomark _)) (qw_or1 (qt_not (qt_val (qe_callB call_isX (by rfl) T.m_isinstance b_isinstance (qa_c (qv 0) (qa_c (qe_ty (by rfl) T.m_ValueError b_ValueError) qa_nil))))))))
        (qss_one (qs_ret qe_str))
        qss_nil)
      (qss_cons (qs_set (i := 2) sc_l_kind_of.nd rfl (Or.inl rfl) (qe_lstA (qa_c qe_str (qa_c qe_str (qa_c qe_str (qa_c qe_str (qa_c qe_str (qa_c qe_str (qa_c qe_str (qa_c qe_str (qa_c qe_str (qa_c qe_str qa_nil))))))))))))
      (qss_one (qs_ret (qe_ix ix_list (qe_op op_catLA (qv 2) (qe_lstA (qa_c qe_str (qa_c qe_str qa_nil)))) (qe_bm PySem.F.plainAttrs_list PySem.F.slot_list_index PySem.F.type_list_index mt_indexB (qv 1) (qa_c qe_bl qa_nil)) (fun _ _ => rfl)))))))))), ?_⟩
    have xc := k.xc
    refine ⟨_, rfl, e, C, _, _, _, rfl, he, rfl, xc, k.k0, _, rfl, e, C, _, _, _, rfl, he, rfl, xc, k.k1, _, rfl, e, C, _, _, _, rfl, he, rfl, xc, k.k2, (by show 3 ≤ sizeLine; decide), fun l1 H1 f1 s1 hl1 => ?_⟩
    have he1 := s1 _ _ he
    refine ⟨_, rfl, _, rfl, e, C, _, _, _, rfl, he1, rfl, xc, k.k3, _, rfl, e, C, _, _, _, rfl, he1, rfl, xc, k.k4, _, rfl, e, C, _, _, _, rfl, he1, rfl, xc, k.k5, _, rfl, e, C, _, _, _, rfl, he1, rfl, xc, k.k6, (by show 4 ≤ sizeLine; decide), fun l2 H2 f2 s2 hl2 => ⟨l1, l2, _, _, rfl, rfl, s2 _ _ hl1, hl2, (by show 7 ≤ sizeLine; decide), fun l3 H3 f3 s3 hl3 => ?_⟩⟩
    have he3 := s3 _ _ (s2 _ _ he1)
    refine ⟨_, rfl, _, rfl, e, C, _, _, _, rfl, he3, rfl, xc, k.k7, _, rfl, e, C, _, _, _, rfl, he3, rfl, xc, k.k8, _, rfl, e, C, _, _, _, rfl, he3, rfl, xc, k.k9, _, rfl, e, C, _, _, _, rfl, he3, rfl, xc, k.k10, (by show 4 ≤ sizeLine; decide), fun l4 H4 f4 s4 hl4 => ⟨l3, l4, _, _, rfl, rfl, s4 _ _ hl3, hl4, (by show 11 ≤ sizeLine; decide), fun l5 H5 f5 s5 hl5 => ?_⟩⟩
    have he5 := s5 _ _ (s4 _ _ he3)
    have fl5 : H l5 = none := s1.free (s2.free (s3.free (s4.free f5)))
    refine ⟨_, rfl, .inl ⟨rfl, _, SqL.of hl5⟩, _, rfl, e, C, _, _, _, rfl, he5, rfl, xc, k.k11, l5, _, _, rfl, rfl, hl5, (by show 11 < sizeLine; decide), fun H6 b6 hl6 => ?_⟩
    have s6 : Same H H6 := fun c o e' => b6 _ _ (ne_of_none e' fl5) (s5 _ _ (s4 _ _ (s3 _ _ (s2 _ _ (s1 _ _ e')))))
    have he6 := s6 _ _ he
    have hl : H6 l5 = some (.lst ((twelve i).map V.bl)) := hl6
    refine ⟨_, rfl, .inl ⟨rfl, _, SqL.of hl⟩, l5, twelve i, true, rfl, rfl, hl, rfl, _, rfl, iteNS (by rw [twelve_count i hi]; rfl) ?_⟩
    refine ⟨_, rfl, e, C, _, _, _, rfl, he6, rfl, xc, k.ve, _, rfl, iteF ?_⟩
    refine ⟨(by show 10 ≤ sizeLine; decide), fun w1 H7 f7 s7 hw1 => ?_⟩
    refine ⟨_, rfl, (by show 2 ≤ sizeLine; decide), fun w2 H8 f8 s8 hw2 => ⟨w1, w2, _, _, rfl, rfl, s8 _ _ hw1, hw2, (by show 12 ≤ sizeLine; decide), fun w3 H9 f9 s9 hw3 => ?_⟩⟩
    have hl9 : H9 l5 = some (.lst ((twelve i).map V.bl)) := s9 _ _ (s8 _ _ (s7 _ _ hl))
    have hw : H9 w3 = some (.lst (kindWords.map V.str)) := hw3
    have hat : (kindWords.map V.str)[i]? = some (.str x) := by rw [List.getElem?_map, hx]; rfl
    exact ⟨_, rfl, .inl ⟨rfl, _, SqL.of hl9⟩, l5, twelve i, true, i, rfl, rfl, hl9, twelve_at i hi, twelve_ahead i hi, (by show 12 ≤ 1000; decide), w3, _, _, _, rfl, rfl, SqL.of hw, atI_nat hat, q H9 (((s6.trans s7).trans s8).trans s9)⟩
theorem kind_many (T : Tx K mg) : KindAt T T.c_TooMany 1 := ⟨T.X_TooMany, T.V_TooMany, T.q_TooMany_AtRest, T.q_TooMany_TooMany, T.q_TooMany_NoText, T.q_TooMany_NoNumber, T.q_TooMany_NoOrder, T.q_TooMany_NoProgram, T.q_TooMany_Shared, T.q_TooMany_NoPowers, T.q_TooMany_NoTrail, T.q_TooMany_NoName, T.q_TooMany_NoDeed, T.q_TooMany_NoRow⟩

/-! ### _law_told -/
def wTold (T : Tx K mg) (Q : VK) : XK := fun Cv d H1 => d = none ∧ ∃ (C : Addr) (i : Nat) (x : Str), Cv = .ref C ∧ KindAt T C i ∧ i < 12 ∧ kindWords[i]? = some x ∧ Under K C T.c_FractError ∧ ∀ H', Same H1 H' → Q (.str x) H'
def sp_l_told : Sp := fun vs H Q _ => ∃ (b : Addr) (xs : List V) (us : List Nat), vs = [.ref b] ∧ H b = some (.tup xs) ∧ PgV H xs us ∧ xs.length ≤ 20 ∧
  (sumN us ≤ 300 → ∀ H', Same H H' → Q (.bl true) H') ∧
  (300 < sumN us → ∀ H', Same H H' → Q (.str "many") H')
theorem ok_l_told (T : Tx K mg) : FnOk P w K mg base CX0 6 T.f_l_told T.fd_l_told ["program"] sp_l_told := by
  refine T.D_l_told.fn.okQ sc_l_told (fun vs H Q E h => ?_) (fun cdv A outer s H vs Q E hr h => ?_)
  · obtain ⟨b, xs, us, rfl, _⟩ := h
    rfl
  · obtain ⟨b, xs, us, rfl, hb, hP, x20, q1, q2⟩ := h
    refine ⟨_, (qss_one (qs_try (E := (wTold T Q)) (i := 1) rfl rfl rfl T.E_FractError (by rfl) sc_l_told.nd rfl rfl (fun _ _ xk => (qss_one (qs_ret (qe_cmpR op_eq (qe_callB (call_len_seqN (K := K) rfl) (by rfl) T.m_len b_len (qa_c (qe_call (ok_machine_of T) (hr.mono (by decide)) rfl T.D_machine_of.at_ T.D_machine_of.fn.kp T.D_machine_of.bd .nil (passX rfl xk) (qa_c (qv 0) qa_nil)) qa_nil)) qe_int (nomark _)))))
        (fun _ => (qss_one (qs_ret (qe_callU (okU_l_kind_of T) ((hr.mark _).mono (by decide)) rfl T.D_l_kind_of.at_ T.D_l_kind_of.fn.kp T.D_l_kind_of.bd (qa_c (qv 1) qa_nil))))))), ?_⟩
    refine ⟨⟨_, rfl, b, xs, us, rfl, hb, hP, x20, fun h3 p H' v s' hp => ⟨p, _, rfl, .inr (SqT.of hp), rfl, ?_⟩, fun hge H' s' => ⟨rfl, T.c_TooMany, 1, "many", rfl, kind_many T, by decide, rfl, T.U_TooMany, fun H2 s2 => q2 hge H2 (s'.trans s2)⟩⟩, ?_⟩
    · exact q1 h3 H' s'
    rintro C d H1 ⟨rfl, C', i, x, hC, ka, hi, hx, un, q⟩
    cases hC
    exact ⟨un, fun e σ1 he hσ => ⟨_, List.getElem?_set_self hσ, e, C, i, x, rfl, upd_same, ka, hi, hx, fun H' s' => q H' ((Same.new he).trans s')⟩⟩
/-! ### _law_power -/
def sp_l_power : Sp := fun vs H Q _ => ∃ (p : Int) (k : Nat), vs = [.int p, .int (k : Int)] ∧ 2 ≤ p ∧ p ≤ 5 ∧ k ≤ 1000 ∧ Q (.int (p ^ k)) H
theorem ok_l_power (T : Tx K mg) : FnOk P w K mg base CX0 1 T.f_l_power T.fd_l_power ["prime", "often"] sp_l_power := by
  refine T.D_l_power.fn.okQ sc_l_power (fun vs H Q E h => ?_) (fun cdv A outer s H vs Q E hr h => ?_)
  · obtain ⟨p, k, rfl, _⟩ := h
    rfl
  · obtain ⟨p, k, rfl, p2, p5, k1, q⟩ := h
    refine ⟨_, (qss_cons (qs_set (i := 2) sc_l_power.nd rfl (Or.inl rfl) qe_int)
      (qss_cons (qs_for PassesOwn.never rfl (qi_range1 rfl T.m_range (qa_c (qv 1) qa_nil)) (qg_name (i := 3) sc_l_power.nd rfl (Or.inl rfl))
        (qss_one (qs_set (i := 2) sc_l_power.nd rfl (Or.inl rfl) (qe_op op_mul (qv 2) (qv 0)))))
      (qss_one (qs_ret (qv 2))))), ?_⟩
    refine ⟨_, rfl, (k : Int), rfl, by omega, by omega, for_range (n := (k : Int).toNat) (fun i σ H1 => H1 = H ∧ ∃ u : Option V, σ = [some (.int p), some (.int (k : Int)), some (.int (p ^ i)), u]) ⟨rfl, none, by rw [Int.pow_zero]; rfl⟩ ?_ ?_⟩
    · rintro i σ H1 hi ⟨rfl, u, rfl⟩
      refine ⟨_, rfl, _, rfl, _, _, rfl, rfl, .inr ⟨by omega, by omega⟩, rfl, some (.int (0 + (i : Int))), ?_⟩
      rw [Int.pow_succ]
      rfl
    · rintro σ H1 ⟨rfl, u, rfl⟩
      rw [Int.toNat_natCast]
      exact ⟨_, rfl, q⟩
end
end W2

set_option Elab.async false
set_option linter.all false
set_option maxRecDepth 100000
set_option maxHeartbeats 4000000
namespace W2
open PySem L2 Mth Xn
theorem But.sq {K : PySem.W.Frag} {H H' : Hp} {p a : Addr} {xs : List V} {o : HO} (hS : SqL K H a xs) (hp : H p = none) (bt : But p (L2.upd H p o) H') : SqL K H' a xs := by
  rcases hS with (h | ⟨u, h⟩) | h
  · exact .inl (.inl (bt _ _ (ne_of_none h hp) (by rw [upd_ne (ne_of_none h hp)]; exact h)))
  · exact .inl (.inr ⟨u, bt _ _ (ne_of_none h hp) (by rw [upd_ne (ne_of_none h hp)]; exact h)⟩)
  · exact .inr h
theorem pickAt {L : List V} {o : Int} (h0 : 0 ≤ o) (h1 : o < L.length) : ∃ v, atI L o = some v ∧ v ∈ L := by
  have h : o.toNat < L.length := by omega
  exact ⟨L[o.toNat], atI_of h0 (List.getElem?_eq_getElem h), List.getElem_mem h⟩
theorem pw_es {p k : Nat} (h : p = 2 ∨ p = 3 ∨ p = 5) : ∃ es : List Nat, es.length = 10 ∧ sumN es = k ∧ p ^ k = prod es := by
  rcases h with rfl | rfl | rfl
  · exact ⟨[k, 0, 0, 0, 0, 0, 0, 0, 0, 0], rfl, by simp [sumN], by simp [prod, prodR, primes]⟩
  · exact ⟨[0, k, 0, 0, 0, 0, 0, 0, 0, 0], rfl, by simp [sumN], by simp [prod, prodR, primes]⟩
  · exact ⟨[0, 0, k, 0, 0, 0, 0, 0, 0, 0], rfl, by simp [sumN], by simp [prod, prodR, primes]⟩
theorem pw_all {p : Int} {k : Nat} (h : p = 2 ∨ p = 3 ∨ p = 5) : 1 ≤ p ^ k ∧ stripAll (p ^ k).toNat = 1 ∧ sumN (powsOf (p ^ k).toNat) = k := by
  obtain ⟨q, rfl, hq⟩ : ∃ q : Nat, p = (q : Int) ∧ (q = 2 ∨ q = 3 ∨ q = 5) := by
    rcases h with rfl | rfl | rfl
    · exact ⟨2, rfl, .inl rfl⟩
    · exact ⟨3, rfl, .inr (.inl rfl)⟩
    · exact ⟨5, rfl, .inr (.inr rfl)⟩
  rw [← Int.natCast_pow, Int.toNat_natCast]
  obtain ⟨es, h1, h2, h3⟩ := pw_es (k := k) hq
  rw [h3, stripAll_prod, powsOf_prod h1]
  have := prod_pos es
  exact ⟨by omega, rfl, h2⟩
theorem PgV.keep {H H' : Hp} {xs : List V} {us : List Nat} (h : PgV H xs us) (k : Keep H H') : PgV H' xs us := ⟨h.1, fun i x hx => by
  obtain ⟨c, a, b, e, hc, r⟩ := h.2 i x hx
  exact ⟨c, a, b, e, k.tup hc, r⟩⟩
theorem PgV.snoc {H : Hp} {xs : List V} {us : List Nat} (h : PgV H xs us) {c : Addr} {p : Int} {U Y : Nat} (hp : p = 3 ∨ p = 5) (hc : H c = some (.tup [.int (2 ^ U), .int (p ^ Y)])) (hU : 1 ≤ U) (hU2 : U ≤ 1000) (hV : Y ≤ 1000) : PgV H (xs ++ [.ref c]) (us ++ [Y + U]) := ⟨by rw [List.length_append, List.length_append, h.1]; rfl, fun i y hy => by
  rcases Nat.lt_or_ge i xs.length with z | z
  · rw [List.getElem?_append_left z] at hy
    obtain ⟨c', a, b, e, hc', a1, b1, sa, sb, hu, r⟩ := h.2 i y hy
    exact ⟨c', a, b, e, hc', a1, b1, sa, sb, by rw [List.getElem?_append_left (by rw [← h.1]; exact z)]; exact hu, r⟩
  · rw [List.getElem?_append_right z] at hy
    have z0 : i - xs.length = 0 := by
      rcases Nat.eq_zero_or_pos (i - xs.length) with z | z
      · exact z
      · rw [List.getElem?_eq_none (show [V.ref c].length ≤ _ from z)] at hy
        cases hy
    rw [z0] at hy
    cases hy
    obtain ⟨a1, a2, a3⟩ := pw_all (p := 2) (k := U) (.inl rfl)
    obtain ⟨b1, b2, b3⟩ := pw_all (p := p) (k := Y) (.inr hp)
    refine ⟨c, _, _, rfl, hc, a1, b1, a2, b2, ?_, ?_, ?_, ?_⟩
    · rw [a3, b3, List.getElem?_append_right (by rw [← h.1]; exact z), ← h.1, z0]; rfl
    · rw [b3]; exact hV
    · rw [a3]; exact hU2
    · rw [a3, b3]; omega⟩
section
variable {P : Program} {w : World} {K : PySem.W.Frag} {mg : Str → Option Value} {base : Heap}
abbrev kLaw : Nat := 7
def sp_law (K : PySem.W.Frag) : Sp := fun vs H Q _ => ∃ (a : Addr) (ns : List Int), vs = [.ref a] ∧ SqL K H a (ns.map V.int) ∧ ns.length ≤ 63 ∧ ∀ H', Q (.bl true) H'
theorem ok_law (T : Tx K mg) {f : Addr} {fd : FuncData} (F : Fun K "law" "law" s_law f fd) : FnOk P w K mg base CX0 kLaw f fd ["script"] (sp_law K) := by
  refine F.okQ sc_law (fun vs H Q E h => ?_) (fun cdv A outer s H vs Q E hr h => ?_)
  · obtain ⟨a, ns, rfl, _⟩ := h
    rfl
  · obtain ⟨a, ns, rfl, hS, hlen, q⟩ := h
    refine ⟨_, (qss_cons (qs_for PassesOwn.never rfl (qi_range1 rfl T.m_range (qa_c qe_int qa_nil)) (qg_name (i := 1) sc_law.nd rfl (Or.inl rfl))
        (qss_cons (qs_set (i := 2) sc_law.nd rfl (Or.inl rfl) (qe_call (ok_l_pot T) (hr.mono (by decide)) rfl T.D_l_pot.at_ T.D_l_pot.fn.kp T.D_l_pot.bd .nil pass0 (qa_c (qe_call (ok_l_cell_at T) (hr.mono (by decide)) rfl T.D_l_cell_at.at_ T.D_l_cell_at.fn.kp T.D_l_cell_at.bd .nil pass0 (qa_c (qv 0) (qa_c (qv 1) qa_nil))) qa_nil)))
      (qss_cons (qs_set (i := 3) sc_law.nd rfl (Or.inl rfl) (qe_ix ix_list (qe_lstA (qa_c (qe_op op_add qe_int (qe_call (ok_l_takeA T) (hr.mono (by decide)) rfl T.D_l_take.at_ T.D_l_take.fn.kp T.D_l_take.bd .nil pass0 (qa_c (qv 2) (qa_c qe_int qa_nil)))) (qa_c qe_int (qa_c qe_int (qa_c (qe_op op_add qe_int (qe_call (ok_l_takeA T) (hr.mono (by decide)) rfl T.D_l_take.at_ T.D_l_take.fn.kp T.D_l_take.bd .nil pass0 (qa_c (qv 2) (qa_c qe_int qa_nil)))) qa_nil))))) (qe_call (ok_l_takeA T) (hr.mono (by decide)) rfl T.D_l_take.at_ T.D_l_take.fn.kp T.D_l_take.bd .nil pass0 (qa_c (qv 2) (qa_c qe_int qa_nil))) (fun _ _ => rfl)))
      (qss_cons (qs_set (i := 4) sc_law.nd rfl (Or.inl rfl) (qe_lstA qa_nil))
      (qss_cons (qs_set (i := 5) sc_law.nd rfl (Or.inl rfl) (qv 3))
      (qss_cons (qs_while PassesOwn.never (qt_cmpR op_gt (qv 5) qe_int (nomark _))
        (qss_cons (qs_set (i := 6) sc_law.nd rfl (Or.inl rfl) (qe_callB (call_min2 rfl) (by rfl) T.m_min b_min (qa_c (qv 5) (qa_c (qe_op op_add qe_int (qe_call (ok_l_takeA T) (hr.mono (by decide)) rfl T.D_l_take.at_ T.D_l_take.fn.kp T.D_l_take.bd .nil pass0 (qa_c (qv 2) (qa_c qe_int qa_nil)))) qa_nil))))
      (qss_cons (qs_ifJ (qt_cmpR op_gt (qe_callB call_len_seq (by rfl) T.m_len b_len (qa_c (qv 4) qa_nil)) qe_int (nomark _))
        (qss_one (qs_set (i := 6) sc_law.nd rfl (Or.inl rfl) (qe_callB (call_min2 rfl) (by rfl) T.m_min b_min (qa_c (qv 5) (qa_c qe_int qa_nil)))))
        qss_nil)
      (qss_cons (qs_set (i := 7) sc_law.nd rfl (Or.inl rfl) (qe_callB (call_min2 rfl) (by rfl) T.m_min b_min (qa_c (qe_op op_sub (qv 5) (qv 6)) (qa_c (qe_call (ok_l_takeA T) (hr.mono (by decide)) rfl T.D_l_take.at_ T.D_l_take.fn.kp T.D_l_take.bd .nil pass0 (qa_c (qv 2) (qa_c qe_int qa_nil))) qa_nil))))
      (qss_cons (qs_expr (qe_bm PySem.F.plainAttrs_list PySem.F.slot_list_append PySem.F.type_list_append mt_appendA (qv 4) (qa_c (qe_tupA (qa_c (qe_call (ok_l_power T) (hr.mono (by decide)) rfl T.D_l_power.at_ T.D_l_power.fn.kp T.D_l_power.bd .nil pass0 (qa_c qe_int (qa_c (qv 6) qa_nil))) (qa_c (qe_call (ok_l_power T) (hr.mono (by decide)) rfl T.D_l_power.at_ T.D_l_power.fn.kp T.D_l_power.bd .nil pass0 (qa_c (qe_ix ix_list (qe_lstA (qa_c qe_int (qa_c qe_int qa_nil))) (qe_call (ok_l_takeA T) (hr.mono (by decide)) rfl T.D_l_take.at_ T.D_l_take.fn.kp T.D_l_take.bd .nil pass0 (qa_c (qv 2) (qa_c qe_int qa_nil))) (fun _ _ => rfl)) (qa_c (qv 7) qa_nil))) qa_nil))) qa_nil)))
      (qss_one (qs_set (i := 5) sc_law.nd rfl (Or.inl rfl) (qe_op op_sub (qe_op op_sub (qv 5) (qv 6)) (qv 7)))))))))
      (qss_one (qs_if (qt_cmpR op_le (qe_callB call_len_seq (by rfl) T.m_len b_len (qa_c (qv 4) qa_nil)) qe_int (nomark _))
        (qss_cons (qs_set (i := 8) sc_law.nd rfl (Or.inl rfl) qe_bl)
      (qss_cons (qs_ifJ (qt_cmpR op_gt (qv 3) qe_int (nomark _))
        (qss_one (qs_set (i := 8) sc_law.nd rfl (Or.inl rfl) qe_str))
        qss_nil)
      (qss_one (qs_if (qt_cmpR op_ne (qe_call (ok_l_told T) (hr.mono (by decide)) rfl T.D_l_told.at_ T.D_l_told.fn.kp T.D_l_told.bd .nil pass0 (qa_c (qe_callTy call_tuple_ofA (by rfl) T.m_tuple b_tuple (qa_c (qv 4) qa_nil)) qa_nil)) (qv 8) (nomark _))
        (qss_one (qs_ret qe_bl))
        qss_nil))))
        qss_nil))))))))
      (qss_one (qs_ret qe_bl))), ?_⟩
    refine ⟨4, rfl, by decide, by decide, for_range (n := 4) (fun i σ H2 => (∃ u1 u2 u3 u4 u5 u6 u7 u8 : Option V, σ = [some (.ref a), u1, u2, u3, u4, u5, u6, u7, u8]) ∧ SqL K H2 a (ns.map V.int)) ⟨⟨none, none, none, none, none, none, none, none, rfl⟩, hS⟩ ?_ (fun σ H2 _ => q H2)⟩
    rintro i σ H2 hi ⟨⟨u1, u2, u3, u4, u5, u6, u7, u8, rfl⟩, hS2⟩
    refine ⟨_, rfl, _, rfl, a, ns, _, rfl, hS2, by omega, fun c => ⟨c, rfl, fun n pt hpt => ?_⟩⟩
    generalize hB : L2.upd H2 pt (.lst [.int n]) = B
    have hptB : B pt = some (.lst [.int n]) := by rw [← hB]; exact upd_same
    have sq : ∀ {G : Hp}, But pt B G → SqL K G a (ns.map V.int) := fun b => But.sq hS2 hpt (by rw [hB]; exact b)
    refine ⟨_, rfl, pt, n, 21, rfl, hptB, by decide, by decide, fun r1 n1 H3 r10 r11 b3 hp3 => ⟨_, _, rfl, rfl, _, rfl, pt, n1, 200, rfl, hp3, by decide, by decide, fun r2 n2 H4 r20 r21 b4 hp4 => ⟨_, _, rfl, rfl, (by show 4 ≤ sizeLine; decide), fun lt H5 f5 s5 hlt => ⟨_, rfl, pt, n2, 4, rfl, s5 _ _ hp4, by decide, by decide, fun r3 n3 H6 r30 r31 b6 hp6 => ?_⟩⟩⟩⟩
    have nlt : lt ≠ pt := (ne_of_none hp4 f5).symm
    obtain ⟨L, hL, lL, hLo⟩ : ∃ L : List V, H6 lt = some (.lst L) ∧ (L.length : Int) = 4 ∧ ∀ v ∈ L, ∃ t : Int, v = .int t ∧ 1 ≤ t ∧ t ≤ 310 := ⟨_, b6 _ _ nlt hlt, rfl, by
      intro v hv
      simp only [List.mem_cons, List.not_mem_nil, or_false] at hv
      rcases hv with z | z | z | z
      · exact ⟨_, z, by omega, by omega⟩
      · exact ⟨_, z, by omega, by omega⟩
      · exact ⟨_, z, by omega, by omega⟩
      · exact ⟨_, z, by omega, by omega⟩⟩
    obtain ⟨tv, htv, mtv⟩ := pickAt (L := L) r30 (by omega)
    obtain ⟨total, rfl, t1, t310⟩ := hLo tv mtv
    refine ⟨lt, L, r3, _, rfl, rfl, SqL.of hL, htv, ?_⟩
    have b06 : But pt B H6 := ((b3.trans b4).trans (But.of s5)).trans b6
    refine ⟨(by show 0 ≤ sizeLine; decide), fun l H7 f7 s7 hl7 => ⟨_, rfl, ?_⟩⟩
    have nl : l ≠ pt := (ne_of_none hp6 f7).symm
    have flB : B l = none := by
      rcases h : B l with _ | o
      · rfl
      · exact absurd (b06 _ _ nl h) (by rw [f7]; intro z; cases z)
    refine while_own (fun σ G => ∃ (left : Int) (xs : List V) (us : List Nat) (m : Int) (v6 v7 v8 : Option V), σ = [some (.ref a), some (.int (0 + (i : Int))), some (.ref pt), some (.int total), some (.ref l), some (.int left), v6, v7, v8] ∧ But pt B G ∧ G pt = some (.lst [.int m]) ∧ G l = some (.lst xs) ∧ PgV G xs us ∧ (sumN us : Int) + left = total ∧ 0 ≤ left ∧ (xs.length : Int) + left ≤ 310) (fun σ _ => natAt σ 5)
      ⟨total, [], [], n3, _, _, _, rfl, b06.trans (But.of s7), s7 _ _ hp6, hl7, ⟨rfl, fun i x hx => by cases hx⟩, by show (0 : Int) + total = total; omega, by omega, by show (0 : Int) + total ≤ 310; omega⟩ ?_
    rintro σ G ⟨left, xs, us, m, v6, v7, v8, rfl, bG, hpG, hlG, hP, hsum, l0, l310⟩
    refine ⟨_, rfl, _, _, rfl, rfl, _, rfl, ite2 (fun h => ?_) (fun h => ?_)⟩
    · have hl1 : left > 0 := of_decide_eq_true h
      refine whN ⟨_, rfl, _, rfl, pt, m, 39, rfl, hpG, by decide, by decide, fun r5 m5 G5 r50 r51 b5 hp5 => ⟨_, _, rfl, rfl, _, _, rfl, ?_⟩⟩
      obtain ⟨U0, hU0, U01, U02, U03⟩ : ∃ U : Int, (if 1 + r5 < left then 1 + r5 else left) = U ∧ 1 ≤ U ∧ U ≤ left ∧ U ≤ 39 := ⟨_, rfl, by split <;> omega, by split <;> omega, by split <;> omega⟩
      rw [hU0]
      have hlG5 := b5 _ _ nl hlG
      refine ⟨fun σ G' => ∃ U : Int, σ = [some (.ref a), some (.int (0 + (i : Int))), some (.ref pt), some (.int total), some (.ref l), some (.int left), some (.int U), v7, v8] ∧ G' = G5 ∧ 1 ≤ U ∧ U ≤ left ∧ U ≤ 39, ?_, ?_⟩
      · refine ⟨_, rfl, l, xs, rfl, .inl (SqL.of hlG5), _, _, rfl, rfl, _, rfl, ite2 (fun _ => ?_) (fun _ => ?_)⟩
        · exact ⟨_, rfl, _, _, rfl, ⟨_, rfl, rfl, by split <;> omega, by split <;> omega, by split <;> omega⟩⟩
        · exact ⟨U0, rfl, rfl, U01, U02, U03⟩
      · rintro σ G' ⟨U, rfl, rfl, U1, U2, U3⟩
        refine ⟨_, rfl, _, rfl, _, _, rfl, rfl, _, rfl, pt, m5, 17, rfl, hp5, by decide, by decide, fun r6 m6 G6 r60 r61 b6' hp6' => ⟨_, _, rfl, ?_⟩⟩
        obtain ⟨W, hW, W1, W2, W3⟩ : ∃ W : Int, (if r6 < left - U then r6 else left - U) = W ∧ 0 ≤ W ∧ W ≤ left - U ∧ W ≤ 16 := ⟨_, rfl, by split <;> omega, by split <;> omega, by split <;> omega⟩
        rw [hW]
        have hlG6 := b6' _ _ nl hlG5
        refine ⟨_, rfl, .inl ⟨rfl, _, SqL.of hlG6⟩, _, rfl, 2, U.toNat, by rw [Int.toNat_of_nonneg (by omega)]; rfl, by decide, by decide, by omega, ?_⟩
        refine ⟨(by show 2 ≤ sizeLine; decide), fun lq G7 f7' s7' hlq => ⟨_, rfl, pt, m6, 2, rfl, s7' _ _ hp6', by decide, by decide, fun r8 m8 G8 r80 r81 b8 hp8 => ?_⟩⟩
        have nlq : lq ≠ pt := (ne_of_none hp6' f7').symm
        obtain ⟨L2, hL2, lL2, hLo2⟩ : ∃ L : List V, G8 lq = some (.lst L) ∧ (L.length : Int) = 2 ∧ ∀ v ∈ L, ∃ p : Int, v = .int p ∧ (p = 3 ∨ p = 5) := ⟨_, b8 _ _ nlq hlq, rfl, by
          intro v hv
          simp only [List.mem_cons, List.not_mem_nil, or_false] at hv
          rcases hv with z | z
          · exact ⟨3, z, .inl rfl⟩
          · exact ⟨5, z, .inr rfl⟩⟩
        obtain ⟨pv, hpv, mpv⟩ := pickAt (L := L2) r80 (by omega)
        obtain ⟨p, rfl, hp35⟩ := hLo2 pv mpv
        refine ⟨lq, L2, r8, _, rfl, rfl, SqL.of hL2, hpv, _, rfl, p, W.toNat, by rw [Int.toNat_of_nonneg W1]; rfl, by omega, by omega, by omega, ?_⟩
        have hlG8 := b8 _ _ nl (s7' _ _ hlG6)
        refine ⟨(by show 2 ≤ sizeLine; decide), fun tp G9 f9 s9 htp => ⟨l, xs, _, rfl, rfl, s9 _ _ hlG8, (by rw [sizeLine_eq]; omega), fun G10 b10 hl10 => ?_⟩⟩
        have k10 : Keep G G10 := (((Keep.but (b5.trans b6') hpG hp6').trans (Keep.of s7')).trans (Keep.but b8 (s7' _ _ hp6') hp8)).trans ((Keep.of s9).trans (Keep.but b10 (s9 _ _ hlG8) hl10))
        have htp10 : G10 tp = some (.tup [.int (2 ^ U.toNat), .int (p ^ W.toNat)]) := b10 _ _ (ne_of htp (s9 _ _ hlG8) (by intro z; cases z)) htp
        refine ⟨_, rfl, _, rfl, _, _, rfl, rfl, _, rfl, _, _, rfl, rfl, ⟨⟨left - U - W, xs ++ [.ref tp], us ++ [W.toNat + U.toNat], m8, _, _, _, rfl, ?_, ?_, hl10, (hP.keep k10).snoc hp35 htp10 (by omega) (by omega) (by omega), ?_, by omega, ?_⟩, ?_⟩⟩
        · intro b o nb e
          exact b10 _ _ (ne_of_none e flB) (s9 _ _ (b8 _ _ nb (s7' _ _ (b6' _ _ nb (b5 _ _ nb (bG _ _ nb e))))))
        · exact b10 _ _ nl.symm (s9 _ _ hp8)
        · rw [sumN_app]
          show ((sumN us + (W.toNat + U.toNat + 0) : Nat) : Int) + (left - U - W) = total
          omega
        · rw [List.length_append]
          show ((xs.length + 1 : Nat) : Int) + (left - U - W) ≤ 310
          omega
        · show (left - U - W).toNat < left.toNat
          omega
    · have hl1 : ¬ left > 0 := fun z => h (decide_eq_true z)
      have hs' : (sumN us : Int) = total := by omega
      refine ⟨_, rfl, l, xs, rfl, .inl (SqL.of hlG), _, _, rfl, rfl, _, rfl, ite2 (fun h16 => ?_) (fun _ => ⟨⟨_, _, _, _, _, _, _, _, rfl⟩, sq bG⟩)⟩
      have h16' : (xs.length : Int) ≤ 16 := of_decide_eq_true h16
      refine ⟨fun σ G' => G' = G ∧ ∃ d : V, σ = [some (.ref a), some (.int (0 + (i : Int))), some (.ref pt), some (.int total), some (.ref l), some (.int left), v6, v7, some d] ∧ (total > 300 → d = .str "many") ∧ (¬ total > 300 → d = .bl true), ?_, ?_⟩
      · refine ⟨_, rfl, _, _, rfl, rfl, _, rfl, ite2 (fun ht => ?_) (fun ht => ?_)⟩
        · exact ⟨rfl, _, rfl, fun _ => rfl, fun z => absurd (of_decide_eq_true ht) z⟩
        · exact ⟨rfl, _, rfl, fun z => absurd (decide_eq_true z) ht, fun _ => rfl⟩
      · rintro σ G' ⟨rfl, d, rfl, hd1, hd2⟩
        refine ⟨_, rfl, l, xs, rfl, SqL.of hlG, fun tp G6 f6 s6 htp => ⟨tp, xs, us, rfl, htp, hP.keep (Keep.of s6), by omega, fun h3 G7 s7 => ?_, fun h3 G7 s7 => ?_⟩⟩
        · rw [hd2 (by omega)]
          exact ⟨_, rfl, rfl, _, rfl, iteF ⟨⟨_, _, _, _, _, _, _, _, rfl⟩, sq (bG.trans (But.of (s6.trans s7)))⟩⟩
        · rw [hd1 (by omega)]
          exact ⟨_, rfl, rfl, _, rfl, iteF ⟨⟨_, _, _, _, _, _, _, _, rfl⟩, sq (bG.trans (But.of (s6.trans s7)))⟩⟩
end
theorem all_mk {l : PySem.W.OpenLaw} {w : World} {K : PySem.W.Frag} {h : Heap} {mg : Str → Option Value} {fa f0 f1 f2 f3 f4 f5 f6 f7 f8 f9 f10 f11 f12 f13 f14 f15 h_FractError h_AtRest h_NoText h_NoNumber h_TooMany h_NoOrder h_NoProgram h_Shared h_NoPowers h_NoTrail h_NoName h_NoDeed h_NoRow : Addr} (X : K.In h) (G : h.Ns mainGlobals mg) (hfa : mg "law" = some (.ref fa))
    {od0 an0 od1 an1 od2 an2 od3 an3 od4 an4 od5 an5 od6 an6 od7 an7 od8 an8 od9 an9 od10 an10 od11 an11 od12 an12 od13 an13 od14 an14 od15 an15 : Option Addr} {sl0 sl1 sl2 sl3 sl4 sl5 sl6 sl7 sl8 sl9 sl10 sl11 sl12 sl13 sl14 sl15 : Array (Option Value)} {oc0 kV0 dc0 pm0 cd0 ct0 oc1 kV1 dc1 pm1 cd1 ct1 oc2 kV2 dc2 pm2 cd2 ct2 oc3 kV3 dc3 pm3 cd3 ct3 oc4 kV4 dc4 pm4 cd4 ct4 oc5 kV5 dc5 pm5 cd5 ct5 oc6 kV6 dc6 pm6 cd6 ct6 oc7 kV7 dc7 pm7 cd7 ct7 oc8 kV8 dc8 pm8 cd8 ct8 oc9 kV9 dc9 pm9 cd9 ct9 oc10 kV10 dc10 pm10 cd10 ct10 oc11 kV11 dc11 pm11 cd11 ct11 oc12 kV12 dc12 pm12 cd12 ct12 oc13 kV13 dc13 pm13 cd13 ct13 oc14 kV14 dc14 pm14 cd14 ct14 oc15 kV15 dc15 pm15 cd15 ct15 : Value}
    {t_MOST_FACTORS : Tok}
    {x_PRIMES : Addr} {t0_PRIMES t1_PRIMES t2_PRIMES t3_PRIMES t4_PRIMES t5_PRIMES t6_PRIMES t7_PRIMES t8_PRIMES t9_PRIMES : Tok} {n_PRIMES : Nat} {d_PRIMES : Option Addr} {sl_PRIMES : Array (Option Value)}
    (a0 : PySem.W.nsIn K mainGlobals "is_whole" = some (some (.ref f0)))
    (l0 : K.lookup f0 = some ⟨oc0, od0, .func (PySem.W.fnOf "is_whole" "is_whole" (defArgs s_is_whole) (defBody s_is_whole) (defScope s_is_whole) .none kV0 dc0 pm0 an0 cd0 ct0), sl0⟩)
    (c0 : PySem.W.codeIn K cd0 "is_whole" = true) (k0 : PySem.W.keepIn K (.ref f0) = true)
    (a1 : PySem.W.nsIn K mainGlobals "powers_of" = some (some (.ref f1)))
    (l1 : K.lookup f1 = some ⟨oc1, od1, .func (PySem.W.fnOf "powers_of" "powers_of" (defArgs s_powers_of) (defBody s_powers_of) (defScope s_powers_of) .none kV1 dc1 pm1 an1 cd1 ct1), sl1⟩)
    (c1 : PySem.W.codeIn K cd1 "powers_of" = true) (k1 : PySem.W.keepIn K (.ref f1) = true)
    (a2 : PySem.W.nsIn K mainGlobals "how_often" = some (some (.ref f2)))
    (l2 : K.lookup f2 = some ⟨oc2, od2, .func (PySem.W.fnOf "how_often" "how_often" (defArgs s_how_often) (defBody s_how_often) (defScope s_how_often) .none kV2 dc2 pm2 an2 cd2 ct2), sl2⟩)
    (c2 : PySem.W.codeIn K cd2 "how_often" = true) (k2 : PySem.W.keepIn K (.ref f2) = true)
    (a3 : PySem.W.nsIn K mainGlobals "without_primes" = some (some (.ref f3)))
    (l3 : K.lookup f3 = some ⟨oc3, od3, .func (PySem.W.fnOf "without_primes" "without_primes" (defArgs s_without_primes) (defBody s_without_primes) (defScope s_without_primes) .none kV3 dc3 pm3 an3 cd3 ct3), sl3⟩)
    (c3 : PySem.W.codeIn K cd3 "without_primes" = true) (k3 : PySem.W.keepIn K (.ref f3) = true)
    (a4 : PySem.W.nsIn K mainGlobals "machine_of" = some (some (.ref f4)))
    (l4 : K.lookup f4 = some ⟨oc4, od4, .func (PySem.W.fnOf "machine_of" "machine_of" (defArgs s_machine_of) (defBody s_machine_of) (defScope s_machine_of) .none kV4 dc4 pm4 an4 cd4 ct4), sl4⟩)
    (c4 : PySem.W.codeIn K cd4 "machine_of" = true) (k4 : PySem.W.keepIn K (.ref f4) = true)
    (a5 : PySem.W.nsIn K mainGlobals "counters_of" = some (some (.ref f5)))
    (l5 : K.lookup f5 = some ⟨oc5, od5, .func (PySem.W.fnOf "counters_of" "counters_of" (defArgs s_counters_of) (defBody s_counters_of) (defScope s_counters_of) .none kV5 dc5 pm5 an5 cd5 ct5), sl5⟩)
    (c5 : PySem.W.codeIn K cd5 "counters_of" = true) (k5 : PySem.W.keepIn K (.ref f5) = true)
    (a6 : PySem.W.nsIn K mainGlobals "fraction_rows" = some (some (.ref f6)))
    (l6 : K.lookup f6 = some ⟨oc6, od6, .func (PySem.W.fnOf "fraction_rows" "fraction_rows" (defArgs s_fraction_rows) (defBody s_fraction_rows) (defScope s_fraction_rows) .none kV6 dc6 pm6 an6 cd6 ct6), sl6⟩)
    (c6 : PySem.W.codeIn K cd6 "fraction_rows" = true) (k6 : PySem.W.keepIn K (.ref f6) = true)
    (a7 : PySem.W.nsIn K mainGlobals "still_rows" = some (some (.ref f7)))
    (l7 : K.lookup f7 = some ⟨oc7, od7, .func (PySem.W.fnOf "still_rows" "still_rows" (defArgs s_still_rows) (defBody s_still_rows) (defScope s_still_rows) .none kV7 dc7 pm7 an7 cd7 ct7), sl7⟩)
    (c7 : PySem.W.codeIn K cd7 "still_rows" = true) (k7 : PySem.W.keepIn K (.ref f7) = true)
    (a8 : PySem.W.nsIn K mainGlobals "onward" = some (some (.ref f8)))
    (l8 : K.lookup f8 = some ⟨oc8, od8, .func (PySem.W.fnOf "onward" "onward" (defArgs s_onward) (defBody s_onward) (defScope s_onward) .none kV8 dc8 pm8 an8 cd8 ct8), sl8⟩)
    (c8 : PySem.W.codeIn K cd8 "onward" = true) (k8 : PySem.W.keepIn K (.ref f8) = true)
    (a9 : PySem.W.nsIn K mainGlobals "_law_cell_at" = some (some (.ref f9)))
    (l9 : K.lookup f9 = some ⟨oc9, od9, .func (PySem.W.fnOf "_law_cell_at" "_law_cell_at" (defArgs s_l_cell_at) (defBody s_l_cell_at) (defScope s_l_cell_at) .none kV9 dc9 pm9 an9 cd9 ct9), sl9⟩)
    (c9 : PySem.W.codeIn K cd9 "_law_cell_at" = true) (k9 : PySem.W.keepIn K (.ref f9) = true)
    (a10 : PySem.W.nsIn K mainGlobals "_law_pot" = some (some (.ref f10)))
    (l10 : K.lookup f10 = some ⟨oc10, od10, .func (PySem.W.fnOf "_law_pot" "_law_pot" (defArgs s_l_pot) (defBody s_l_pot) (defScope s_l_pot) .none kV10 dc10 pm10 an10 cd10 ct10), sl10⟩)
    (c10 : PySem.W.codeIn K cd10 "_law_pot" = true) (k10 : PySem.W.keepIn K (.ref f10) = true)
    (a11 : PySem.W.nsIn K mainGlobals "_law_take" = some (some (.ref f11)))
    (l11 : K.lookup f11 = some ⟨oc11, od11, .func (PySem.W.fnOf "_law_take" "_law_take" (defArgs s_l_take) (defBody s_l_take) (defScope s_l_take) .none kV11 dc11 pm11 an11 cd11 ct11), sl11⟩)
    (c11 : PySem.W.codeIn K cd11 "_law_take" = true) (k11 : PySem.W.keepIn K (.ref f11) = true)
    (a12 : PySem.W.nsIn K mainGlobals "_law_kind_of" = some (some (.ref f12)))
    (l12 : K.lookup f12 = some ⟨oc12, od12, .func (PySem.W.fnOf "_law_kind_of" "_law_kind_of" (defArgs s_l_kind_of) (defBody s_l_kind_of) (defScope s_l_kind_of) .none kV12 dc12 pm12 an12 cd12 ct12), sl12⟩)
    (c12 : PySem.W.codeIn K cd12 "_law_kind_of" = true) (k12 : PySem.W.keepIn K (.ref f12) = true)
    (a13 : PySem.W.nsIn K mainGlobals "_law_power" = some (some (.ref f13)))
    (l13 : K.lookup f13 = some ⟨oc13, od13, .func (PySem.W.fnOf "_law_power" "_law_power" (defArgs s_l_power) (defBody s_l_power) (defScope s_l_power) .none kV13 dc13 pm13 an13 cd13 ct13), sl13⟩)
    (c13 : PySem.W.codeIn K cd13 "_law_power" = true) (k13 : PySem.W.keepIn K (.ref f13) = true)
    (a14 : PySem.W.nsIn K mainGlobals "_law_told" = some (some (.ref f14)))
    (l14 : K.lookup f14 = some ⟨oc14, od14, .func (PySem.W.fnOf "_law_told" "_law_told" (defArgs s_l_told) (defBody s_l_told) (defScope s_l_told) .none kV14 dc14 pm14 an14 cd14 ct14), sl14⟩)
    (c14 : PySem.W.codeIn K cd14 "_law_told" = true) (k14 : PySem.W.keepIn K (.ref f14) = true)
    (a15 : PySem.W.nsIn K mainGlobals "law" = some (some (.ref f15)))
    (l15 : K.lookup f15 = some ⟨oc15, od15, .func (PySem.W.fnOf "law" "law" (defArgs s_law) (defBody s_law) (defScope s_law) .none kV15 dc15 pm15 an15 cd15 ct15), sl15⟩)
    (c15 : PySem.W.codeIn K cd15 "law" = true) (k15 : PySem.W.keepIn K (.ref f15) = true)
    (a_FractError : PySem.W.nsIn K mainGlobals "FractError" = some (some (.ref h_FractError)))
    (a_AtRest : PySem.W.nsIn K mainGlobals "AtRest" = some (some (.ref h_AtRest)))
    (a_NoText : PySem.W.nsIn K mainGlobals "NoText" = some (some (.ref h_NoText)))
    (a_NoNumber : PySem.W.nsIn K mainGlobals "NoNumber" = some (some (.ref h_NoNumber)))
    (a_TooMany : PySem.W.nsIn K mainGlobals "TooMany" = some (some (.ref h_TooMany)))
    (a_NoOrder : PySem.W.nsIn K mainGlobals "NoOrder" = some (some (.ref h_NoOrder)))
    (a_NoProgram : PySem.W.nsIn K mainGlobals "NoProgram" = some (some (.ref h_NoProgram)))
    (a_Shared : PySem.W.nsIn K mainGlobals "Shared" = some (some (.ref h_Shared)))
    (a_NoPowers : PySem.W.nsIn K mainGlobals "NoPowers" = some (some (.ref h_NoPowers)))
    (a_NoTrail : PySem.W.nsIn K mainGlobals "NoTrail" = some (some (.ref h_NoTrail)))
    (a_NoName : PySem.W.nsIn K mainGlobals "NoName" = some (some (.ref h_NoName)))
    (a_NoDeed : PySem.W.nsIn K mainGlobals "NoDeed" = some (some (.ref h_NoDeed)))
    (a_NoRow : PySem.W.nsIn K mainGlobals "NoRow" = some (some (.ref h_NoRow)))
    (e_FractError : PySem.W.excIn K h_FractError bmV "ValueError.__new__" = true)
    (e_TooMany : PySem.W.excIn K h_TooMany bmV "ValueError.__new__" = true)
    (u_TooMany : PySem.W.mroIn K h_TooMany (.ref h_FractError) = some true)
    (ne_TooMany : h_TooMany ≠ h_FractError)
    (x2_TooMany : PySem.W.findIn K (.ref h_TooMany) "__getattribute__" = some (some (.builtin "BaseException.__getattribute__")))
    (x3_TooMany : PySem.W.findIn K (.ref h_TooMany) "__getattr__" = some none)
    (x4_TooMany : PySem.W.findIn K (.ref h_TooMany) "__class__" = some (some (.builtin "object.__class__")))
    (x5_TooMany : PySem.W.mroIn K h_TooMany (.type "object") = some true)
    (x6_TooMany : PySem.W.mroIn K h_TooMany (.type "BaseException") = some true)
    (v_TooMany : PySem.W.mroIn K h_TooMany (.type "ValueError") = some true)
    (q_TooMany_AtRest : PySem.W.mroIn K h_TooMany (.ref h_AtRest) = some false) (ne_TooMany_AtRest : h_TooMany ≠ h_AtRest)
    (q_TooMany_NoText : PySem.W.mroIn K h_TooMany (.ref h_NoText) = some false) (ne_TooMany_NoText : h_TooMany ≠ h_NoText)
    (q_TooMany_NoNumber : PySem.W.mroIn K h_TooMany (.ref h_NoNumber) = some false) (ne_TooMany_NoNumber : h_TooMany ≠ h_NoNumber)
    (q_TooMany_NoOrder : PySem.W.mroIn K h_TooMany (.ref h_NoOrder) = some false) (ne_TooMany_NoOrder : h_TooMany ≠ h_NoOrder)
    (q_TooMany_NoProgram : PySem.W.mroIn K h_TooMany (.ref h_NoProgram) = some false) (ne_TooMany_NoProgram : h_TooMany ≠ h_NoProgram)
    (q_TooMany_Shared : PySem.W.mroIn K h_TooMany (.ref h_Shared) = some false) (ne_TooMany_Shared : h_TooMany ≠ h_Shared)
    (q_TooMany_NoPowers : PySem.W.mroIn K h_TooMany (.ref h_NoPowers) = some false) (ne_TooMany_NoPowers : h_TooMany ≠ h_NoPowers)
    (q_TooMany_NoTrail : PySem.W.mroIn K h_TooMany (.ref h_NoTrail) = some false) (ne_TooMany_NoTrail : h_TooMany ≠ h_NoTrail)
    (q_TooMany_NoName : PySem.W.mroIn K h_TooMany (.ref h_NoName) = some false) (ne_TooMany_NoName : h_TooMany ≠ h_NoName)
    (q_TooMany_NoDeed : PySem.W.mroIn K h_TooMany (.ref h_NoDeed) = some false) (ne_TooMany_NoDeed : h_TooMany ≠ h_NoDeed)
    (q_TooMany_NoRow : PySem.W.mroIn K h_TooMany (.ref h_NoRow) = some false) (ne_TooMany_NoRow : h_TooMany ≠ h_NoRow)
    (ty_AtRest : PySem.W.typeIn K (.ref h_AtRest) = some (.type "type")) (mo_AtRest : PySem.W.mroIn K h_AtRest (.type "object") = some true)
    (ty_NoText : PySem.W.typeIn K (.ref h_NoText) = some (.type "type")) (mo_NoText : PySem.W.mroIn K h_NoText (.type "object") = some true)
    (ty_NoNumber : PySem.W.typeIn K (.ref h_NoNumber) = some (.type "type")) (mo_NoNumber : PySem.W.mroIn K h_NoNumber (.type "object") = some true)
    (ty_TooMany : PySem.W.typeIn K (.ref h_TooMany) = some (.type "type")) (mo_TooMany : PySem.W.mroIn K h_TooMany (.type "object") = some true)
    (ty_NoOrder : PySem.W.typeIn K (.ref h_NoOrder) = some (.type "type")) (mo_NoOrder : PySem.W.mroIn K h_NoOrder (.type "object") = some true)
    (ty_NoProgram : PySem.W.typeIn K (.ref h_NoProgram) = some (.type "type")) (mo_NoProgram : PySem.W.mroIn K h_NoProgram (.type "object") = some true)
    (ty_Shared : PySem.W.typeIn K (.ref h_Shared) = some (.type "type")) (mo_Shared : PySem.W.mroIn K h_Shared (.type "object") = some true)
    (ty_NoPowers : PySem.W.typeIn K (.ref h_NoPowers) = some (.type "type")) (mo_NoPowers : PySem.W.mroIn K h_NoPowers (.type "object") = some true)
    (ty_NoTrail : PySem.W.typeIn K (.ref h_NoTrail) = some (.type "type")) (mo_NoTrail : PySem.W.mroIn K h_NoTrail (.type "object") = some true)
    (ty_NoName : PySem.W.typeIn K (.ref h_NoName) = some (.type "type")) (mo_NoName : PySem.W.mroIn K h_NoName (.type "object") = some true)
    (ty_NoDeed : PySem.W.typeIn K (.ref h_NoDeed) = some (.type "type")) (mo_NoDeed : PySem.W.mroIn K h_NoDeed (.type "object") = some true)
    (ty_NoRow : PySem.W.typeIn K (.ref h_NoRow) = some (.type "type")) (mo_NoRow : PySem.W.mroIn K h_NoRow (.type "object") = some true)
    (y1 : PySem.W.specialIn K (.builtin "object.__class__") "__get__" = some (some (.builtin "getset_descriptor.__get__"))) (y2 : PySem.W.takesIn K (.builtin "object.__class__") = some true)
    (z_len : PySem.W.nsIn K mainGlobals "len" = some none)
    (z_isinstance : PySem.W.nsIn K mainGlobals "isinstance" = some none)
    (z_int : PySem.W.nsIn K mainGlobals "int" = some none)
    (z_bool : PySem.W.nsIn K mainGlobals "bool" = some none)
    (z_tuple : PySem.W.nsIn K mainGlobals "tuple" = some none)
    (z_list : PySem.W.nsIn K mainGlobals "list" = some none)
    (z_range : PySem.W.nsIn K mainGlobals "range" = some none)
    (z_min : PySem.W.nsIn K mainGlobals "min" = some none)
    (z_sum : PySem.W.nsIn K mainGlobals "sum" = some none)
    (z_enumerate : PySem.W.nsIn K mainGlobals "enumerate" = some none)
    (z_reversed : PySem.W.nsIn K mainGlobals "reversed" = some none)
    (z_ValueError : PySem.W.nsIn K mainGlobals "ValueError" = some none)
    (g_MOST_FACTORS : PySem.W.nsIn K mainGlobals "MOST_FACTORS" = some (some (.int 300 t_MOST_FACTORS)))
    (g_PRIMES : PySem.W.nsIn K mainGlobals "PRIMES" = some (some (.ref x_PRIMES)))
    (y_PRIMES : K.lookup x_PRIMES = some ⟨.type "tuple", d_PRIMES, .seq #[.int 2 t0_PRIMES, .int 3 t1_PRIMES, .int 5 t2_PRIMES, .int 7 t3_PRIMES, .int 11 t4_PRIMES, .int 13 t5_PRIMES, .int 17 t6_PRIMES, .int 19 t7_PRIMES, .int 23 t8_PRIMES, .int 29 t9_PRIMES] n_PRIMES, sl_PRIMES⟩) :
    ∃ fd : FuncData, (∀ (s : Shared) (v : Value), BindsTo s fd ⟨[v], []⟩ [("script", v)]) ∧ ∀ base : Heap, K.In base → base.Ns mainGlobals mg → FnOk l.prog w K mg base CX0 kLaw fa fd ["script"] (sp_law K) := by
  have e := hfa.symm.trans (PySem.W.mg_of X G a15)
  cases e
  have F0 := fun_mk (st := s_is_whole) l0 c0 k0
  have b0 := F0.binds (ps := ["thing"]) fun _ _ _ _ _ _ us hl => match us, hl with | [_], _ => rfl
  have F1 := fun_mk (st := s_powers_of) l1 c1 k1
  have b1 := F1.binds (ps := ["number"]) fun _ _ _ _ _ _ us hl => match us, hl with | [_], _ => rfl
  have F2 := fun_mk (st := s_how_often) l2 c2 k2
  have b2 := F2.binds (ps := ["prime", "number"]) fun _ _ _ _ _ _ us hl => match us, hl with | [_, _], _ => rfl
  have F3 := fun_mk (st := s_without_primes) l3 c3 k3
  have b3 := F3.binds (ps := ["number"]) fun _ _ _ _ _ _ us hl => match us, hl with | [_], _ => rfl
  have F4 := fun_mk (st := s_machine_of) l4 c4 k4
  have b4 := F4.binds (ps := ["program"]) fun _ _ _ _ _ _ us hl => match us, hl with | [_], _ => rfl
  have F5 := fun_mk (st := s_counters_of) l5 c5 k5
  have b5 := F5.binds (ps := ["number"]) fun _ _ _ _ _ _ us hl => match us, hl with | [_], _ => rfl
  have F6 := fun_mk (st := s_fraction_rows) l6 c6 k6
  have b6 := F6.binds (ps := ["begin", "wanted", "given"]) fun _ _ _ _ _ _ us hl => match us, hl with | [_, _, _], _ => rfl
  have F7 := fun_mk (st := s_still_rows) l7 c7 k7
  have b7 := F7.binds (ps := ["begin"]) fun _ _ _ _ _ _ us hl => match us, hl with | [_], _ => rfl
  have F8 := fun_mk (st := s_onward) l8 c8 k8
  have b8 := F8.binds (ps := ["number", "done"]) fun _ _ _ _ _ _ us hl => match us, hl with | [_, _], _ => rfl
  have F9 := fun_mk (st := s_l_cell_at) l9 c9 k9
  have b9 := F9.binds (ps := ["script", "k"]) fun _ _ _ _ _ _ us hl => match us, hl with | [_, _], _ => rfl
  have F10 := fun_mk (st := s_l_pot) l10 c10 k10
  have b10 := F10.binds (ps := ["cell"]) fun _ _ _ _ _ _ us hl => match us, hl with | [_], _ => rfl
  have F11 := fun_mk (st := s_l_take) l11 c11 k11
  have b11 := F11.binds (ps := ["pot", "far"]) fun _ _ _ _ _ _ us hl => match us, hl with | [_, _], _ => rfl
  have F12 := fun_mk (st := s_l_kind_of) l12 c12 k12
  have b12 := F12.binds (ps := ["e"]) fun _ _ _ _ _ _ us hl => match us, hl with | [_], _ => rfl
  have F13 := fun_mk (st := s_l_power) l13 c13 k13
  have b13 := F13.binds (ps := ["prime", "often"]) fun _ _ _ _ _ _ us hl => match us, hl with | [_, _], _ => rfl
  have F14 := fun_mk (st := s_l_told) l14 c14 k14
  have b14 := F14.binds (ps := ["program"]) fun _ _ _ _ _ _ us hl => match us, hl with | [_], _ => rfl
  have F15 := fun_mk (st := s_law) l15 c15 k15
  have T : Tx K mg := ⟨f0, _, ⟨F0, PySem.W.mg_of X G a0, b0⟩, f1, _, ⟨F1, PySem.W.mg_of X G a1, b1⟩, f2, _, ⟨F2, PySem.W.mg_of X G a2, b2⟩, f3, _, ⟨F3, PySem.W.mg_of X G a3, b3⟩, f4, _, ⟨F4, PySem.W.mg_of X G a4, b4⟩, f5, _, ⟨F5, PySem.W.mg_of X G a5, b5⟩, f6, _, ⟨F6, PySem.W.mg_of X G a6, b6⟩, f7, _, ⟨F7, PySem.W.mg_of X G a7, b7⟩, f8, _, ⟨F8, PySem.W.mg_of X G a8, b8⟩, f9, _, ⟨F9, PySem.W.mg_of X G a9, b9⟩, f10, _, ⟨F10, PySem.W.mg_of X G a10, b10⟩, f11, _, ⟨F11, PySem.W.mg_of X G a11, b11⟩, f12, _, ⟨F12, PySem.W.mg_of X G a12, b12⟩, f13, _, ⟨F13, PySem.W.mg_of X G a13, b13⟩, f14, _, ⟨F14, PySem.W.mg_of X G a14, b14⟩, h_FractError, PySem.W.mg_of X G a_FractError, h_AtRest, PySem.W.mg_of X G a_AtRest, h_NoText, PySem.W.mg_of X G a_NoText, h_NoNumber, PySem.W.mg_of X G a_NoNumber, h_TooMany, PySem.W.mg_of X G a_TooMany, h_NoOrder, PySem.W.mg_of X G a_NoOrder, h_NoProgram, PySem.W.mg_of X G a_NoProgram, h_Shared, PySem.W.mg_of X G a_Shared, h_NoPowers, PySem.W.mg_of X G a_NoPowers, h_NoTrail, PySem.W.mg_of X G a_NoTrail, h_NoName, PySem.W.mg_of X G a_NoName, h_NoDeed, PySem.W.mg_of X G a_NoDeed, h_NoRow, PySem.W.mg_of X G a_NoRow, ⟨PySem.W.mg_of X G a_FractError, e_FractError⟩, ⟨PySem.W.mg_of X G a_TooMany, e_TooMany⟩, ⟨e_TooMany, u_TooMany, ne_TooMany⟩, ⟨PySem.W.cls_of_mro x5_TooMany, x2_TooMany, x3_TooMany, x4_TooMany, y1, y2, x5_TooMany, x6_TooMany⟩, PySem.W.kit_val v_TooMany, PySem.W.kit_false ty_AtRest mo_AtRest q_TooMany_AtRest ne_TooMany_AtRest, PySem.W.kit_false ty_NoText mo_NoText q_TooMany_NoText ne_TooMany_NoText, PySem.W.kit_false ty_NoNumber mo_NoNumber q_TooMany_NoNumber ne_TooMany_NoNumber, PySem.W.kit_self, PySem.W.kit_false ty_NoOrder mo_NoOrder q_TooMany_NoOrder ne_TooMany_NoOrder, PySem.W.kit_false ty_NoProgram mo_NoProgram q_TooMany_NoProgram ne_TooMany_NoProgram, PySem.W.kit_false ty_Shared mo_Shared q_TooMany_Shared ne_TooMany_Shared, PySem.W.kit_false ty_NoPowers mo_NoPowers q_TooMany_NoPowers ne_TooMany_NoPowers, PySem.W.kit_false ty_NoTrail mo_NoTrail q_TooMany_NoTrail ne_TooMany_NoTrail, PySem.W.kit_false ty_NoName mo_NoName q_TooMany_NoName ne_TooMany_NoName, PySem.W.kit_false ty_NoDeed mo_NoDeed q_TooMany_NoDeed ne_TooMany_NoDeed, PySem.W.kit_false ty_NoRow mo_NoRow q_TooMany_NoRow ne_TooMany_NoRow, PySem.W.mg_none_of X G z_len, PySem.W.mg_none_of X G z_isinstance, PySem.W.mg_none_of X G z_int, PySem.W.mg_none_of X G z_bool, PySem.W.mg_none_of X G z_tuple, PySem.W.mg_none_of X G z_list, PySem.W.mg_none_of X G z_range, PySem.W.mg_none_of X G z_min, PySem.W.mg_none_of X G z_sum, PySem.W.mg_none_of X G z_enumerate, PySem.W.mg_none_of X G z_reversed, PySem.W.mg_none_of X G z_ValueError, x_PRIMES, PySem.W.mg_of X G g_PRIMES, fun H => .inr ⟨_, _, _, y_PRIMES, rfl, rfl, (by show 10 ≤ sizeLine; decide), (.cons ⟨_, rfl⟩ (.cons ⟨_, rfl⟩ (.cons ⟨_, rfl⟩ (.cons ⟨_, rfl⟩ (.cons ⟨_, rfl⟩ (.cons ⟨_, rfl⟩ (.cons ⟨_, rfl⟩ (.cons ⟨_, rfl⟩ (.cons ⟨_, rfl⟩ (.cons ⟨_, rfl⟩ .nil))))))))))⟩, ⟨_, PySem.W.mg_of X G g_MOST_FACTORS⟩⟩
  exact ⟨PySem.W.fnOf "law" "law" (defArgs s_law) (defBody s_law) (defScope s_law) .none kV15 dc15 pm15 an15 cd15 ct15, fun s v => .of_eq rfl, fun base _ _ => ok_law T F15⟩
theorem walk {l : PySem.W.OpenLaw} {q : Program} {loose : List Str} {XP : (Str → Option Value) → Heap → Prop} {YP : World → Heap → Prop} {d : DefRec} {K : Params → PySem.W.Frag} (hn : l.most = some 63) (hdf : d.params.defaults = [])
    (hY : ∀ (w : World) (h : Heap), YP w h → (K w.params).In h)
    (F : ∀ (w : World) (mg : Str → Option Value) (fa : Addr) (h : Heap), (K w.params).In h → h.Ns mainGlobals mg → mg d.name = some (.ref fa) →
      ∃ fd : FuncData, (∀ (s : Shared) (u : Value), BindsTo s fd ⟨[u], []⟩ [("script", u)]) ∧ ∀ base : Heap, (K w.params).In base → base.Ns mainGlobals mg → FnOk l.prog w (K w.params) mg base CX0 kLaw fa fd ["script"] (sp_law (K w.params))) :
    PySem.W.WalkO q loose XP YP l.row.toRowW d [] (fun f vs => PySem.call f vs) :=
  L2.walk_of (n := 63) (k := kLaw) (x := "script") (CX := fun _ => CX0) (sp := fun w => sp_law (K w.params)) hn (by decide) hdf ⟨rfl, by decide, by decide⟩ hY F (fun _ _ a ns hl _ hS => ⟨a, ns, rfl, hS, hl, fun _ => rfl⟩) fun _ _ _ _ _ z => z
end W2
open PySem PySem.W PyProof.Rows
theorem _root_.PySem.W.Fast.tw4099109740721493588 : True := trivial
theorem _root_.PySem.W.Fast.tw12280162457577036728 : True := trivial
theorem _root_.PySem.W.Fast.tw1270285376627550247 : True := trivial
set_option maxRecDepth 100000 in
set_option maxHeartbeats 0 in
theorem PySem.Challenge.cw_wholefract_k77_factors_counted_holds : PySem.Challenge.rw_wholefract_k77_factors_counted.Holds := by
  w_on; o_law; k_head; (case hw => w_witness2)
  k_fill
  refine W2.walk (l := PySem.Challenge.rw_wholefract_k77_factors_counted) rfl rfl (fun w h Y => PySem.W.kIn_of Y) ?F
  case F =>
    intro w mg fa h KX G hmg
    refine' W2.all_mk KX G hmg ?a0 ?l0 ?c0 ?k0 ?a1 ?l1 ?c1 ?k1 ?a2 ?l2 ?c2 ?k2 ?a3 ?l3 ?c3 ?k3 ?a4 ?l4 ?c4 ?k4 ?a5 ?l5 ?c5 ?k5 ?a6 ?l6 ?c6 ?k6 ?a7 ?l7 ?c7 ?k7 ?a8 ?l8 ?c8 ?k8 ?a9 ?l9 ?c9 ?k9 ?a10 ?l10 ?c10 ?k10 ?a11 ?l11 ?c11 ?k11 ?a12 ?l12 ?c12 ?k12 ?a13 ?l13 ?c13 ?k13 ?a14 ?l14 ?c14 ?k14 ?a15 ?l15 ?c15 ?k15 ?a_FractError ?a_AtRest ?a_NoText ?a_NoNumber ?a_TooMany ?a_NoOrder ?a_NoProgram ?a_Shared ?a_NoPowers ?a_NoTrail ?a_NoName ?a_NoDeed ?a_NoRow ?e_FractError ?e_TooMany ?u_TooMany ?ne_TooMany ?x2_TooMany ?x3_TooMany ?x4_TooMany ?x5_TooMany ?x6_TooMany ?v_TooMany ?q_TooMany_AtRest ?ne_TooMany_AtRest ?q_TooMany_NoText ?ne_TooMany_NoText ?q_TooMany_NoNumber ?ne_TooMany_NoNumber ?q_TooMany_NoOrder ?ne_TooMany_NoOrder ?q_TooMany_NoProgram ?ne_TooMany_NoProgram ?q_TooMany_Shared ?ne_TooMany_Shared ?q_TooMany_NoPowers ?ne_TooMany_NoPowers ?q_TooMany_NoTrail ?ne_TooMany_NoTrail ?q_TooMany_NoName ?ne_TooMany_NoName ?q_TooMany_NoDeed ?ne_TooMany_NoDeed ?q_TooMany_NoRow ?ne_TooMany_NoRow ?ty_AtRest ?mo_AtRest ?ty_NoText ?mo_NoText ?ty_NoNumber ?mo_NoNumber ?ty_TooMany ?mo_TooMany ?ty_NoOrder ?mo_NoOrder ?ty_NoProgram ?mo_NoProgram ?ty_Shared ?mo_Shared ?ty_NoPowers ?mo_NoPowers ?ty_NoTrail ?mo_NoTrail ?ty_NoName ?mo_NoName ?ty_NoDeed ?mo_NoDeed ?ty_NoRow ?mo_NoRow ?y1 ?y2 ?z_len ?z_isinstance ?z_int ?z_bool ?z_tuple ?z_list ?z_range ?z_min ?z_sum ?z_enumerate ?z_reversed ?z_ValueError ?g_MOST_FACTORS ?g_PRIMES ?y_PRIMES
    (case a0 => k_is)
    (case l0 => k_is)
    (case c0 => k_is)
    (case k0 => k_is)
    (case a1 => k_is)
    (case l1 => k_is)
    (case c1 => k_is)
    (case k1 => k_is)
    (case a2 => k_is)
    (case l2 => k_is)
    (case c2 => k_is)
    (case k2 => k_is)
    (case a3 => k_is)
    (case l3 => k_is)
    (case c3 => k_is)
    (case k3 => k_is)
    (case a4 => k_is)
    (case l4 => k_is)
    (case c4 => k_is)
    (case k4 => k_is)
    (case a5 => k_is)
    (case l5 => k_is)
    (case c5 => k_is)
    (case k5 => k_is)
    (case a6 => k_is)
    (case l6 => k_is)
    (case c6 => k_is)
    (case k6 => k_is)
    (case a7 => k_is)
    (case l7 => k_is)
    (case c7 => k_is)
    (case k7 => k_is)
    (case a8 => k_is)
    (case l8 => k_is)
    (case c8 => k_is)
    (case k8 => k_is)
    (case a9 => k_is)
    (case l9 => k_is)
    (case c9 => k_is)
    (case k9 => k_is)
    (case a10 => k_is)
    (case l10 => k_is)
    (case c10 => k_is)
    (case k10 => k_is)
    (case a11 => k_is)
    (case l11 => k_is)
    (case c11 => k_is)
    (case k11 => k_is)
    (case a12 => k_is)
    (case l12 => k_is)
    (case c12 => k_is)
    (case k12 => k_is)
    (case a13 => k_is)
    (case l13 => k_is)
    (case c13 => k_is)
    (case k13 => k_is)
    (case a14 => k_is)
    (case l14 => k_is)
    (case c14 => k_is)
    (case k14 => k_is)
    (case a15 => k_is)
    (case l15 => k_is)
    (case c15 => k_is)
    (case k15 => k_is)
    (case a_FractError => k_is)
    (case a_AtRest => k_is)
    (case a_NoText => k_is)
    (case a_NoNumber => k_is)
    (case a_TooMany => k_is)
    (case a_NoOrder => k_is)
    (case a_NoProgram => k_is)
    (case a_Shared => k_is)
    (case a_NoPowers => k_is)
    (case a_NoTrail => k_is)
    (case a_NoName => k_is)
    (case a_NoDeed => k_is)
    (case a_NoRow => k_is)
    (case e_FractError => k_exc)
    (case e_TooMany => k_exc)
    (case u_TooMany => k_is)
    (case ne_TooMany => decide)
    (case x2_TooMany => k_is)
    (case x3_TooMany => k_is)
    (case x4_TooMany => k_is)
    (case x5_TooMany => k_is)
    (case x6_TooMany => k_is)
    (case v_TooMany => k_is)
    (case q_TooMany_AtRest => k_is)
    (case ne_TooMany_AtRest => decide)
    (case q_TooMany_NoText => k_is)
    (case ne_TooMany_NoText => decide)
    (case q_TooMany_NoNumber => k_is)
    (case ne_TooMany_NoNumber => decide)
    (case q_TooMany_NoOrder => k_is)
    (case ne_TooMany_NoOrder => decide)
    (case q_TooMany_NoProgram => k_is)
    (case ne_TooMany_NoProgram => decide)
    (case q_TooMany_Shared => k_is)
    (case ne_TooMany_Shared => decide)
    (case q_TooMany_NoPowers => k_is)
    (case ne_TooMany_NoPowers => decide)
    (case q_TooMany_NoTrail => k_is)
    (case ne_TooMany_NoTrail => decide)
    (case q_TooMany_NoName => k_is)
    (case ne_TooMany_NoName => decide)
    (case q_TooMany_NoDeed => k_is)
    (case ne_TooMany_NoDeed => decide)
    (case q_TooMany_NoRow => k_is)
    (case ne_TooMany_NoRow => decide)
    (case ty_AtRest => k_is)
    (case mo_AtRest => k_is)
    (case ty_NoText => k_is)
    (case mo_NoText => k_is)
    (case ty_NoNumber => k_is)
    (case mo_NoNumber => k_is)
    (case ty_TooMany => k_is)
    (case mo_TooMany => k_is)
    (case ty_NoOrder => k_is)
    (case mo_NoOrder => k_is)
    (case ty_NoProgram => k_is)
    (case mo_NoProgram => k_is)
    (case ty_Shared => k_is)
    (case mo_Shared => k_is)
    (case ty_NoPowers => k_is)
    (case mo_NoPowers => k_is)
    (case ty_NoTrail => k_is)
    (case mo_NoTrail => k_is)
    (case ty_NoName => k_is)
    (case mo_NoName => k_is)
    (case ty_NoDeed => k_is)
    (case mo_NoDeed => k_is)
    (case ty_NoRow => k_is)
    (case mo_NoRow => k_is)
    (case y1 => k_is)
    (case y2 => k_is)
    (case z_len => k_is)
    (case z_isinstance => k_is)
    (case z_int => k_is)
    (case z_bool => k_is)
    (case z_tuple => k_is)
    (case z_list => k_is)
    (case z_range => k_is)
    (case z_min => k_is)
    (case z_sum => k_is)
    (case z_enumerate => k_is)
    (case z_reversed => k_is)
    (case z_ValueError => k_is)
    (case g_MOST_FACTORS => k_is)
    (case g_PRIMES => k_is)
    (case y_PRIMES => k_is)


